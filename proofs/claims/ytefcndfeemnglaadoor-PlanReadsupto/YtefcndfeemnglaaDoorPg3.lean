/- PlanReads: the walk. Conditions: sizes. -/
import Derived.Test.YtefcndfeemnglaaDoorPy9
namespace Go.Proofs.YtefcndfeemnglaaDoor
open Go.RowKit Go.Maps Go.WideMaps Go.WideElems Dk
set_option maxRecDepth 100000

set_option maxHeartbeats 4000000 in
theorem planReads_walk (t : ByteArray) (hs : t.size ≤ 1048576) (m : Int) (w : World) (hm : w.cell? ⟨0, 0, none⟩ = some (.int .i64 m)) : Calls Tryd.prog 4 #[.string t] w fun e w' => e = .returned (.bool true) ∧ Below w.heap.size w w' := by
  have HMW : Hid (∀ W, Below w.heap.size w W → W.cell? ⟨0, 0, none⟩ = some (.int .i64 m)) := fun W hb => (hb.cell (p := ⟨0, 0, none⟩) (cell_lt hm)).trans hm
  have HK : Hid (∀ W, Below w.heap.size w W → Calls Tryd.prog 11 #[] W fun e w' => e = .returned (.bool true) ∧ Below W.heap.size W w') := fun W hb => known17_any m W (HMW.out W hb)
  have hl : (parO t).2.length ≤ 8388608 := by
    rcases parO_cases t with ⟨l, hp⟩ | hp | hp
    · obtain ⟨hpl, htx⟩ := parO_ok hp
      have := hpl.sizes.1
      rw [htx] at this
      rw [hp]
      simp only
      omega
    · rw [hp]; exact Nat.zero_le _
    · rw [hp]; exact Nat.zero_le _
  have HR : Hid (Calls Tryd.prog 12 #[.string t] w fun e w' => ∃ a cap, e = .returned (.tuple #[.slice a (parO t).2.length cap, .int .i64 (parO t).1]) ∧ IsDes w' a (parO t).2 ∧ Below w.heap.size w w') := (Parse_any t (by omega) m w hm).mono fun e w' ⟨v, h1, h2, h3⟩ => by
    obtain ⟨a, cap, rfl, h4⟩ := h2.isDes
    exact ⟨a, cap, h1, h4, h3⟩
  have HD : Hid (∀ W, Below w.heap.size w W → Calls Tryd.prog 14 #[.string t] W fun e w' => ∃ a cap, e = .returned (.tuple #[.slice a (parO t).2.length cap, .int .i64 (parO t).1]) ∧ IsDes w' a (parO t).2 ∧ Below W.heap.size W w') := fun W _ => (rParse17 t (by omega) W).mono fun e w' ⟨v, h1, h2, h3⟩ => by
    obtain ⟨a, cap, rfl, h4⟩ := h2.isDes
    exact ⟨a, cap, h1, h4, h3⟩
  have HS : Hid (∀ W a b ca cb, IsDes W a (parO t).2 → IsDes W b (parO t).2 → Calls Tryd.prog 13 #[.slice a (parO t).2.length ca, .slice b (parO t).2.length cb] W fun e w' => e = .returned (.bool true) ∧ Below W.heap.size W w') := fun W a b ca cb h1 h2 => sameDe_any (parO t).2 rfl hl h1 h2
  clear hm HMW
  generalize (parO t).2.length = n at *
  generalize (parO t).2 = l at *
  generalize (parO t).1 = er at *
  go_enter Tryd.func4, Tryd.ntmps4
  go_wp2_with (first
    | (go_at_call 11; have _t := HB3; refine (HK.out _ HB3.out).mono ?_; rintro e w4 ⟨rfl, hb4⟩; have HB4 : Hid (Below w.heap.size w w4) := HB3.out.trans (hb4.mono HB3.out.size); clear hb4)
    | (go_at_call 13; have _t := HD2; refine (HS.out _ _ _ _ _ HD1B.out HD2.out).mono ?_; rintro e w3 ⟨rfl, hb3⟩; have HB3 : Hid (Below w.heap.size w w3) := HB2.out.trans (hb3.mono HB2.out.size); clear hb3)
    | (go_at_call 14; have _t := HD1; refine (HD.out _ HB1.out).mono ?_; rintro e w2 ⟨a2, c2, rfl, hd2, hb2⟩; have HD2 := hide3 hd2; have HD1B := hide3 (HD1.out.below hb2); have HB2 : Hid (Below w.heap.size w w2) := HB1.out.trans (hb2.mono HB1.out.size); clear hb2 hd2)
    | (go_at_call 12; refine HR.out.mono ?_; rintro e w1 ⟨a1, c1, rfl, hd1, hb1⟩; have HD1 := hide3 hd1; have HB1 := hide3 hb1; clear hb1 hd1))
  go_ret
  exact ⟨rfl, HB4.out⟩
end Go.Proofs.YtefcndfeemnglaaDoor
