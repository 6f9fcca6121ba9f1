/- The walks of number and Parse of package vers, in a world that holds the library's variables. -/
import Derived.Test.YtkmgfemhfibikaaGreatDoorTab1
import Derived.Test.YtkmgfemhfibikaaGreatDoorRef1
import Derived.Test.YtkmgfemhfibikaaGreatDoorNext3
namespace Go.Proofs.YtkmgfemhfibikaaGreatDoor
open Go.RowKit
set_option maxRecDepth 100000

/-- What the library's variables hold. -/
structure Env (W : World) : Prop where
  max : ∃ m, W.cell? ⟨2, 0, none⟩ = some (.int .i64 m)
  tab : Lib.TabIs Tryz.prog W "internal/strconv.uint64pow10" .u64 Lib.pow10Tab
  syn : ∃ tp p, W.cell? ⟨6, 0, none⟩ = some (.iface tp p)
  rng : ∃ tp p, W.cell? ⟨7, 0, none⟩ = some (.iface tp p)

theorem cell_in {W : World} {a : Addr} {v : Value} (h : W.cell? a = some v) : a.block < W.heap.size := by
  rcases Nat.lt_or_ge a.block W.heap.size with h' | h'
  · exact h'
  · simp [World.cell?, Array.getElem?_eq_none h'] at h

theorem Env.below {W w : World} (h : Env W) (hb : Below W.heap.size W w) : Env w := by
  obtain ⟨m, hm⟩ := h.max
  obtain ⟨tp, p, hs⟩ := h.syn
  obtain ⟨tq, q, hq⟩ := h.rng
  exact { max := ⟨m, (hb.cell (p := ⟨2, 0, none⟩) (cell_in hm)).trans hm⟩, tab := Lib.tabBelow_of_tabIs h.tab w hb, syn := ⟨tp, p, (hb.cell (p := ⟨6, 0, none⟩) (cell_in hs)).trans hs⟩, rng := ⟨tq, q, (hb.cell (p := ⟨7, 0, none⟩) (cell_in hq)).trans hq⟩ }

/-- What a part is read as. -/
def numV (l : List UInt8) : Int := match Lib.atoiAll l with
  | .ok v => v
  | _ => -1

theorem numV_i64 (l : List UInt8) : -9223372036854775808 ≤ numV l ∧ numV l ≤ 9223372036854775807 := by
  unfold numV
  cases h : Lib.atoiAll l with
  | ok v => exact Lib.atoiAll_bounds h
  | _ => simp

theorem below_bytes {w w' : World} {t : TypeId} (h : w' = w ∨ ∃ b, w' = Lib.bytesWorld w t b) : Below w.heap.size w w' := by
  rcases h with rfl | ⟨b, rfl⟩
  · exact Below.refl _ _
  · exact Lib.bytesWorld_below _ _ _

set_option maxHeartbeats 800000 in
theorem number_any (s : ByteArray) (hs : s.size ≤ 281474976710656) (w : World) (he : Env w) :
    Calls Tryz.prog 87 #[.string s] w fun e w' => e = .returned (.int .i64 (numV s.data.toList)) ∧ Below w.heap.size w w' := by
  obtain ⟨tp, p, hsy⟩ := he.syn
  obtain ⟨tq, q, hrg⟩ := he.rng
  cases h : Lib.atoiAll s.data.toList with
  | ok v =>
    have HV : Hid (numV s.data.toList = v) := by unfold Hid numV; rw [h]
    have hc := Tryz.strconv_Atoi_ok s (by omega) v h w
    clear h hsy hrg he
    go_enter Tryz.func87, Tryz.ntmps87
    go_wp2_with (go_at_call 102; refine hc.mono ?_; rintro e w1 ⟨rfl, hb⟩; have HB : Hid (Below w.heap.size w w1) := below_bytes hb; clear hb)
    go_returns
    exact ⟨ret_int HV.out.symm, HB.out⟩
  | «syntax» =>
    have HV : Hid (numV s.data.toList = -1) := by unfold Hid numV; rw [h]
    have hc := Tryz.strconv_Atoi_syntax s hs h _ w hsy (Or.inr ⟨tp, p, rfl⟩)
    clear h hsy hrg he
    go_enter Tryz.func87, Tryz.ntmps87
    go_wp2_with (go_at_call 102; refine hc.mono ?_; rintro e w1 ⟨N, rfl, _, _, hb⟩; have HB : Hid (Below w.heap.size w w1) := hb; clear hb)
    go_returns
    exact ⟨ret_int HV.out.symm, HB.out⟩
  | range =>
    have HV : Hid (numV s.data.toList = -1) := by unfold Hid numV; rw [h]
    have hc := Tryz.strconv_Atoi_range s hs h _ w hrg (Or.inr ⟨tq, q, rfl⟩)
    clear h hsy hrg he
    go_enter Tryz.func87, Tryz.ntmps87
    go_wp2_with (go_at_call 102; refine hc.mono ?_; rintro e w1 ⟨N, rfl, _, _, hb⟩; have HB : Hid (Below w.heap.size w w1) := hb; clear hb)
    go_returns
    exact ⟨ret_int HV.out.symm, HB.out⟩
end Go.Proofs.YtkmgfemhfibikaaGreatDoor
