/- All, join, and the folds of package span. -/
import Derived.Test.YtkmgfemhfibikaaGreatDoorFo1
namespace Go.Proofs.YtkmgfemhfibikaaGreatDoor
open Go.RowKit
set_option maxRecDepth 100000

theorem All_rg {w : World} (h : FL w) :
    Calls Tryz.prog 23 #[] w fun e w' => ∃ v, e = .returned v ∧ SpansR w' v allR ∧ Below w.heap.size w w' := by
  have HF : Hid (∀ w1, Calls Tryz.prog 41 #[.agg #[.int .i64 0, .int .i64 0, .int .i64 0], .agg #[.int .i64 999, .int .i64 999, .int .i64 999]] w1 fun e w' => ∃ v, e = .returned v ∧ SpansR w' v allR ∧ Below w1.heap.size w1 w') := from_at 0 999999999
  obtain ⟨⟨h0, h1, h2⟩, ⟨h3, h4, h5⟩, h6, h7⟩ := h
  go_enter Tryz.func23, Tryz.ntmps23
  go_wp2_with (go_at_call 41; refine (HF.out _).mono ?_; rintro e w1 ⟨v1, rfl, ok1⟩; have HO := hide3 ok1; clear ok1)
  go_ret
  exact ⟨v1, rfl, HO.out⟩

theorem join_rg {A B : Rg} (hA : RangeR A) (hB : RangeR B) {va vb : Value} {w : World} (hf : FL w) (ha : SpansR w va A) (hb : SpansR w vb B) :
    Calls Tryz.prog 19 #[va, vb] w fun e w' => ∃ v, e = .returned v ∧ OwnS w' w.heap.size v ((joinR A B).map spR) ∧ Below w.heap.size w w' := by
  have HAll : Hid (∀ w1, Below w.heap.size w w1 → Calls Tryz.prog 23 #[] w1 fun e w' => ∃ v, e = .returned v ∧ SpansR w' v allR ∧ Below w1.heap.size w1 w') := fun w1 hbl => All_rg (hf.below hbl)
  have H1 : Hid (∀ v1 w1, SpansR w1 v1 allR → Below w.heap.size w w1 → Calls Tryz.prog 20 #[v1, va] w1 fun e w' => ∃ v, e = .returned v ∧ OwnS w' w1.heap.size v ((cutR allR A).map spR) ∧ Below w1.heap.size w1 w') := fun v1 w1 h1 hbl => cut_rg allR_ok hA h1 (ha.below hbl)
  have H2 : Hid (∀ v1 w1, SpansR w1 v1 (cutR allR A) → Below w.heap.size w w1 → Calls Tryz.prog 20 #[v1, vb] w1 fun e w' => ∃ v, e = .returned v ∧ OwnS w' w1.heap.size v ((cutR (cutR allR A) B).map spR) ∧ Below w1.heap.size w1 w') := fun v1 w1 h1 hbl => cut_rg (allR_ok.cut hA) hB h1 (hb.below hbl)
  have H3 : Hid (∀ v0 v1 w1, SpansR w1 v0 allR → SpansR w1 v1 (cutR (cutR allR A) B) → Calls Tryz.prog 20 #[v0, v1] w1 fun e w' => ∃ v, e = .returned v ∧ OwnS w' w1.heap.size v ((joinR A B).map spR) ∧ Below w1.heap.size w1 w') := fun v0 v1 w1 h0 h1 => cut_rg allR_ok ((allR_ok.cut hA).cut hB) h0 h1
  have HB0 : Hid (Below w.heap.size w w) := Below.refl _ _
  have t1 : True := trivial
  have t2 : True := trivial
  have t3 : True := trivial
  clear ha hb hf
  go_enter Tryz.func19, Tryz.ntmps19
  go_wp2_with (first
    | (have _t := t1; go_at_call 23; refine (HAll.out _ HB0.out).mono ?_; rintro e w1 ⟨v1, rfl, ok1⟩; clear t1; have HO1 := hide3 ok1; clear ok1)
    | (go_at_call 23; refine (HAll.out _ HO1.out.2).mono ?_; rintro e w2 ⟨v2, rfl, ok2⟩; have HO2 : Hid (SpansR w2 v1 allR ∧ SpansR w2 v2 allR ∧ Below w.heap.size w w2) := ⟨HO1.out.1.below ok2.2, ok2.1, below_then HO1.out.2 ok2.2⟩; clear ok2 HO1)
    | (have _t := t2; go_at_call 20; refine (H1.out _ _ HO2.out.2.1 HO2.out.2.2).mono ?_; rintro e w3 ⟨v3, rfl, ok3⟩; clear t2; have HO3 : Hid (SpansR w3 v1 allR ∧ SpansR w3 v3 (cutR allR A) ∧ Below w.heap.size w w3) := ⟨HO2.out.1.below ok3.2, ok3.1.spans, below_then HO2.out.2.2 ok3.2⟩; clear ok3 HO2)
    | (have _t := t3; go_at_call 20; refine (H2.out _ _ HO3.out.2.1 HO3.out.2.2).mono ?_; rintro e w4 ⟨v4, rfl, ok4⟩; clear t3; have HO4 : Hid (SpansR w4 v1 allR ∧ SpansR w4 v4 (cutR (cutR allR A) B) ∧ Below w.heap.size w w4) := ⟨HO3.out.1.below ok4.2, ok4.1.spans, below_then HO3.out.2.2 ok4.2⟩; clear ok4 HO3)
    | (go_at_call 20; refine (H3.out _ _ _ HO4.out.1 HO4.out.2.1).mono ?_; rintro e w5 ⟨v5, rfl, ok5⟩; have HO5 := hide3 ok5; clear ok5))
  go_ret
  exact ⟨v5, rfl, HO5.out.1.base HO4.out.2.2.size, below_then HO4.out.2.2 HO5.out.2⟩

/-- What notFull makes of a list of n spans. -/
def fullV (n : Nat) (v : Value) : Value := if n ≤ 64 then v else .slice none 0 0
def fullE (n : Nat) : Int := if n ≤ 64 then 0 else 26

theorem notFull_any (ad : Option Addr) (n cap : Nat) (w : World) :
    Calls Tryz.prog 27 #[.slice ad n cap] w fun e w' => e = .returned (.tuple #[fullV n (.slice ad n cap), .int .i64 (fullE n)]) ∧ Below w.heap.size w w' := by
  by_cases h : n ≤ 64
  · have h1 : ¬ (64 : Int) < (n : Int) := by omega
    have HV : Hid (fullV n (.slice ad n cap) = .slice ad n cap ∧ fullE n = 0) := by unfold Hid fullV fullE; simp [h]
    go_enter Tryz.func27, Tryz.ntmps27
    go_wp2
    go_ret2
    exact ⟨by rw [HV.out.1, HV.out.2]; rfl, Below.refl _ _⟩
  · have h1 : (64 : Int) < (n : Int) := by omega
    have HV : Hid (fullV n (.slice ad n cap) = .slice none 0 0 ∧ fullE n = 26) := by unfold Hid fullV fullE; simp [h]
    go_enter Tryz.func27, Tryz.ntmps27
    go_wp2
    go_ret2
    exact ⟨by rw [HV.out.1, HV.out.2]; rfl, Below.refl _ _⟩
end Go.Proofs.YtkmgfemhfibikaaGreatDoor
