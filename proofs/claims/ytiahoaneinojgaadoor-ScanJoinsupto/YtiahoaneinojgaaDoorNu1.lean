/- Number of both packages. -/
import Derived.Test.YtiahoaneinojgaaDoorNm2
import Derived.Test.YtiahoaneinojgaaDoorPl2
import Derived.Test.YtiahoaneinojgaaDoorScB
import Derived.Lib.LaidTab
import Derived.Lib.AppendIntMem
namespace Go.Proofs.YtiahoaneinojgaaDoor.Sc
open Go.RowKit
set_option maxRecDepth 100000

/-- What the library's variables hold. -/
structure EnvS (W : World) : Prop where
  tab : Lib.TabIs Tryd.prog W "internal/strconv.uint64pow10" .u64 Lib.pow10Tab
  syn : ∃ tp p, W.cell? ⟨0, 0, none⟩ = some (.iface tp p)
  rng : ∃ tp p, W.cell? ⟨1, 0, none⟩ = some (.iface tp p)
theorem EnvS.below {W w : World} (h : EnvS W) (hb : Below W.heap.size W w) : EnvS w := by
  obtain ⟨tp, p, hs⟩ := h.syn
  obtain ⟨tq, q, hq⟩ := h.rng
  exact { tab := Lib.tabBelow_of_tabIs h.tab w hb, syn := ⟨tp, p, (hb.cell (p := ⟨0, 0, none⟩) (cell_in hs)).trans hs⟩, rng := ⟨tq, q, (hb.cell (p := ⟨1, 0, none⟩) (cell_in hq)).trans hq⟩ }

theorem below_bytes {w w' : World} {t : TypeId} (h : w' = w ∨ ∃ b, w' = Lib.bytesWorld w t b) : Below w.heap.size w w' := by
  rcases h with rfl | ⟨b, rfl⟩
  · exact Below.refl _ _
  · exact Lib.bytesWorld_below _ _ _

/-- What Number answers with. -/
def ansI (T : Bs) (most : Int) : Int := match refN T with
  | some n => if (n : Int) ≤ most then (n : Int) else 0
  | none => 0
def ansB (T : Bs) (most : Int) : Bool := match refN T with
  | some n => decide ((n : Int) ≤ most)
  | none => false
theorem ans_none {T : Bs} (h : refN T = none) (most : Int) : ansI T most = 0 ∧ ansB T most = false := by unfold ansI ansB; rw [h]; exact ⟨rfl, rfl⟩
theorem ans_far {T : Bs} {n : Nat} {most : Int} (h : refN T = some n) (hm : ¬ (n : Int) ≤ most) : ansI T most = 0 ∧ ansB T most = false := by unfold ansI ansB; rw [h]; simp only; rw [if_neg hm, decide_eq_false hm]; exact ⟨rfl, rfl⟩
theorem ans_ok {T : Bs} {n : Nat} {most : Int} (h : refN T = some n) (hm : (n : Int) ≤ most) : ansI T most = n ∧ ansB T most = true := by unfold ansI ansB; rw [h]; simp only; rw [if_pos hm, decide_eq_true hm]; exact ⟨rfl, rfl⟩

theorem ret_num {a b : Int} {x y : Bool} (h1 : a = b) (h2 : x = y) : Ending.returned (.tuple #[.int .i64 a, .bool x]) = .returned (.tuple #[.int .i64 b, .bool y]) := by rw [h1, h2]

def NumP (f : Nat) (s : ByteArray) (most : Int) (w : World) : Prop := Calls Tryd.prog f #[.string s, .int .i64 most] w fun e w' => e = .returned (.tuple #[.int .i64 (ansI s.data.toList most), .bool (ansB s.data.toList most)]) ∧ Below w.heap.size w w'

set_option maxHeartbeats 3200000 in
theorem Number_any (s : ByteArray) (hs : s.size ≤ 281474976710656) (most : Int) (w : World) (he : EnvS w) : NumP 14 s most w := by
  have hnr := numA_ref s.data.toList
  cases h : Lib.atoiAll s.data.toList with
  | ok v =>
    have hc := hide3 (Tryd.strconv_Atoi_ok s (by omega) v h w)
    have hvb := Lib.atoiAll_bounds h
    by_cases h0 : v < 0
    · have HA : Hid (ansI s.data.toList most = 0 ∧ ansB s.data.toList most = false) := ans_none (by rw [← hnr]; unfold numA; rw [h]; simp only; rw [if_neg (by omega)]) most
      clear hnr h he
      unfold NumP
      go_enter Tryd.func14, Tryd.ntmps14
      go_wp2_with (go_at_call 29; refine hc.out.mono ?_; rintro e w1 ⟨rfl, hb⟩; have HB : Hid (Below w.heap.size w w1) := below_bytes hb; clear hb)
      go_ret2
      exact ⟨ret_num HA.out.1.symm HA.out.2.symm, HB.out⟩
    · by_cases hm : most < v
      · have HA : Hid (ansI s.data.toList most = 0 ∧ ansB s.data.toList most = false) := by
          cases hr : refN s.data.toList with
          | none => exact ans_none hr most
          | some n =>
            refine ans_far hr ?_
            rw [hr] at hnr
            unfold numA at hnr
            rw [h] at hnr
            simp only at hnr
            split at hnr
            · injection hnr with e; omega
            · cases hnr
        clear hnr h he
        unfold NumP
        go_enter Tryd.func14, Tryd.ntmps14
        go_wp2_with (go_at_call 29; refine hc.out.mono ?_; rintro e w1 ⟨rfl, hb⟩; have HB : Hid (Below w.heap.size w w1) := below_bytes hb; clear hb)
        go_ret2
        exact ⟨ret_num HA.out.1.symm HA.out.2.symm, HB.out⟩
      · have HI : Hid (∀ w1, Below w.heap.size w w1 → Calls Tryd.prog 30 #[.int .i64 v] w1 fun e w' => e = .returned (.string ⟨(Lib.itoa v).toArray⟩) ∧ Below w1.heap.size w1 w') := by
          intro w1 hb
          refine (Tryd.strconv_Itoa v (by omega) (by omega) w1 (he.below hb).tab).mono ?_
          rintro e w' ⟨rfl, k, os, rfl⟩
          exact ⟨rfl, Lib.below_grow _ _ (Nat.le_refl _) k os⟩
        by_cases ht : Lib.itoa v = s.data.toList
        · have HA : Hid (ansI s.data.toList most = v ∧ ansB s.data.toList most = true) := by
            have hr : refN s.data.toList = some v.toNat := by rw [← hnr]; unfold numA; rw [h]; simp only; rw [if_pos ⟨by omega, ht⟩]
            obtain ⟨a, b⟩ := ans_ok (most := most) hr (by omega)
            exact ⟨by rw [a]; omega, b⟩
          have hx : (⟨(Lib.itoa v).toArray⟩ : ByteArray) = s := by rw [ht]
          rw [hx] at HI
          clear hnr h he hx ht
          unfold NumP
          go_enter Tryd.func14, Tryd.ntmps14
          go_wp2_with (first | (go_at_call 29; refine hc.out.mono ?_; rintro e w1 ⟨rfl, hb⟩; have HB : Hid (Below w.heap.size w w1) := below_bytes hb; clear hb) | (go_at_call 30; refine (HI.out _ HB.out).mono ?_; rintro e w2 ⟨rfl, hb⟩; have HB2 : Hid (Below w.heap.size w w2) := below_then HB.out hb; clear hb))
          go_ret2
          exact ⟨ret_num HA.out.1.symm HA.out.2.symm, HB2.out⟩
        · have HA : Hid (ansI s.data.toList most = 0 ∧ ansB s.data.toList most = false) := ans_none (by rw [← hnr]; unfold numA; rw [h]; simp only; rw [if_neg (fun q => ht q.2)]) most
          have hx : ((⟨(Lib.itoa v).toArray⟩ : ByteArray).toList == s.toList) = false := by
            rw [beq_eq_false_iff_ne]
            intro e
            have := congrArg (fun x : ByteArray => x.data.toList) (bytes_same e)
            simp at this
            exact ht this
          generalize (⟨(Lib.itoa v).toArray⟩ : ByteArray) = x at *
          clear hnr h he ht
          unfold NumP
          go_enter Tryd.func14, Tryd.ntmps14
          go_wp2_with (first | (go_at_call 29; refine hc.out.mono ?_; rintro e w1 ⟨rfl, hb⟩; have HB : Hid (Below w.heap.size w w1) := below_bytes hb; clear hb) | (go_at_call 30; refine (HI.out _ HB.out).mono ?_; rintro e w2 ⟨rfl, hb⟩; have HB2 : Hid (Below w.heap.size w w2) := below_then HB.out hb; clear hb))
          go_ret2
          exact ⟨ret_num HA.out.1.symm HA.out.2.symm, HB2.out⟩
  | «syntax» =>
    obtain ⟨tp, p, hsy⟩ := he.syn
    have HA : Hid (ansI s.data.toList most = 0 ∧ ansB s.data.toList most = false) := ans_none (by rw [← hnr]; unfold numA; rw [h]) most
    have hc := hide3 (Tryd.strconv_Atoi_syntax s hs h _ w hsy (Or.inr ⟨tp, p, rfl⟩))
    clear h hsy he hnr
    unfold NumP
    go_enter Tryd.func14, Tryd.ntmps14
    go_wp2_with (go_at_call 29; refine hc.out.mono ?_; rintro e w1 ⟨N, rfl, _, _, hb⟩; have HB : Hid (Below w.heap.size w w1) := hb; clear hb)
    go_ret2
    exact ⟨ret_num HA.out.1.symm HA.out.2.symm, HB.out⟩
  | range =>
    obtain ⟨tq, q, hrg⟩ := he.rng
    have HA : Hid (ansI s.data.toList most = 0 ∧ ansB s.data.toList most = false) := ans_none (by rw [← hnr]; unfold numA; rw [h]) most
    have hc := hide3 (Tryd.strconv_Atoi_range s hs h _ w hrg (Or.inr ⟨tq, q, rfl⟩))
    clear h hrg he hnr
    unfold NumP
    go_enter Tryd.func14, Tryd.ntmps14
    go_wp2_with (go_at_call 29; refine hc.out.mono ?_; rintro e w1 ⟨N, rfl, _, _, hb⟩; have HB : Hid (Below w.heap.size w w1) := hb; clear hb)
    go_ret2
    exact ⟨ret_num HA.out.1.symm HA.out.2.symm, HB.out⟩
end Go.Proofs.YtiahoaneinojgaaDoor.Sc
