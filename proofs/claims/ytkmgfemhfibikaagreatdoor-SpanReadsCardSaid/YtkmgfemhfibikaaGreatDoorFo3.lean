/- Meet, Join and Cut of package span, of any two lists. -/
import Derived.Test.YtkmgfemhfibikaaGreatDoorFo2
import Derived.Test.YtkmgfemhfibikaaGreatDoorPure2
namespace Go.Proofs.YtkmgfemhfibikaaGreatDoor
open Go.RowKit
set_option maxRecDepth 100000

/-- A range, unless it has too many spans. -/
def fitR (A : Rg) : Rg := if A.length ≤ 64 then A else []
theorem fit_ok {A : Rg} (h : RangeR A) : RangeR (fitR A) := by unfold fitR; split; exact h; trivial
theorem fit_len (A : Rg) : (fitR A).length ≤ 64 := by unfold fitR; split; assumption; simp
theorem fit_of {A : Rg} (h : A.length ≤ 64) : fitR A = A := by unfold fitR; rw [if_pos h]

theorem notFull_own {w : World} {B : Nat} {v : Value} {L : Rg} (h : OwnS w B v (L.map spR)) :
    Calls Tryz.prog 27 #[v] w fun e w' => ∃ v', e = .returned (.tuple #[v', .int .i64 (fullE L.length)]) ∧ OwnS w' B v' ((fitR L).map spR) ∧ Below w.heap.size w w' := by
  have ho := h
  obtain ⟨ad, cap, hv, hc, hl⟩ := h.spans
  subst hv
  refine (notFull_any ad L.length cap w).mono ?_
  rintro e w' ⟨rfl, hb⟩
  refine ⟨_, rfl, ?_, hb⟩
  unfold fullV fitR
  by_cases hn : L.length ≤ 64
  · rw [if_pos hn, if_pos hn]; exact ho.below hb
  · rw [if_neg hn, if_neg hn]; exact OwnS.nil _ _

theorem Meet_rg {A B : Rg} (hA : RangeR A) (hB : RangeR B) (la : A.length ≤ 64) (lb : B.length ≤ 64) {va vb : Value} {w : World} (ha : SpansR w va A) (hb : SpansR w vb B) :
    Calls Tryz.prog 5 #[va, vb] w fun e w' => ∃ v, e = .returned (.tuple #[v, .int .i64 (fullE (meetR A B).length)]) ∧ OwnS w' w.heap.size v ((fitR (meetR A B)).map spR) ∧ Below w.heap.size w w' := by
  have HA : Hid (∀ w1, Below w.heap.size w w1 → Calls Tryz.prog 32 #[va] w1 fun e w' => e = .returned (.bool true) ∧ Below w1.heap.size w1 w') := fun w1 hbl => by have := sMay_any (ha.below hbl).at; rw [may_rg hA la] at this; exact this
  have HB : Hid (∀ w1, Below w.heap.size w w1 → Calls Tryz.prog 32 #[vb] w1 fun e w' => e = .returned (.bool true) ∧ Below w1.heap.size w1 w') := fun w1 hbl => by have := sMay_any (hb.below hbl).at; rw [may_rg hB lb] at this; exact this
  have HM : Hid (∀ w1, Below w.heap.size w w1 → Calls Tryz.prog 17 #[va, vb] w1 fun e w' => ∃ v, e = .returned v ∧ OwnS w' w1.heap.size v ((meetR A B).map spR) ∧ Below w1.heap.size w1 w') := fun w1 hbl => meet_rg hA hB (ha.below hbl) (hb.below hbl)
  have HN : Hid (∀ w1 v1, OwnS w1 w.heap.size v1 ((meetR A B).map spR) → Calls Tryz.prog 27 #[v1] w1 fun e w' => ∃ v', e = .returned (.tuple #[v', .int .i64 (fullE (meetR A B).length)]) ∧ OwnS w' w.heap.size v' ((fitR (meetR A B)).map spR) ∧ Below w1.heap.size w1 w') := fun w1 v1 h => notFull_own h
  have HB0 : Hid (Below w.heap.size w w) := Below.refl _ _
  have t1 : True := trivial
  clear ha hb
  go_enter Tryz.func5, Tryz.ntmps5
  go_wp2_with (first
    | (have _t := t1; go_at_call 32; refine (HA.out _ HB0.out).mono ?_; rintro e w1 ⟨rfl, ok1⟩; clear t1; have HO1 := hide3 ok1; clear ok1)
    | (go_at_call 32; refine (HB.out _ HO1.out).mono ?_; rintro e w2 ⟨rfl, ok2⟩; have HO2 := hide3 (below_then HO1.out ok2); clear ok2)
    | (go_at_call 17; refine (HM.out _ HO2.out).mono ?_; rintro e w3 ⟨v3, rfl, ok3⟩; have HO3 : Hid (OwnS w3 w.heap.size v3 ((meetR A B).map spR) ∧ Below w.heap.size w w3) := ⟨ok3.1.base HO2.out.size, below_then HO2.out ok3.2⟩; clear ok3)
    | (go_at_call 27; refine (HN.out _ _ HO3.out.1).mono ?_; rintro e w4 ⟨v4, rfl, ok4⟩; have HO4 := hide3 ok4; clear ok4)
    | go_in)
  go_ret2
  exact ⟨v4, rfl, HO4.out.1, below_then HO3.out.2 HO4.out.2⟩

theorem Meet_no {La Lb : List Sp} {va vb : Value} {w : World} (ha : SpansAt w va La) (hb : SpansAt w vb Lb) (h : (mayL La && mayL Lb) = false) :
    Calls Tryz.prog 5 #[va, vb] w fun e w' => e = .returned (.tuple #[.slice none 0 0, .int .i64 21]) ∧ Below w.heap.size w w' := by
  have HA : Hid (∀ w1, Below w.heap.size w w1 → Calls Tryz.prog 32 #[va] w1 fun e w' => e = .returned (.bool (mayL La)) ∧ Below w1.heap.size w1 w') := fun w1 hbl => sMay_any (ha.below hbl)
  have HB : Hid (∀ w1, Below w.heap.size w w1 → Calls Tryz.prog 32 #[vb] w1 fun e w' => e = .returned (.bool (mayL Lb)) ∧ Below w1.heap.size w1 w') := fun w1 hbl => sMay_any (hb.below hbl)
  have HB0 : Hid (Below w.heap.size w w) := Below.refl _ _
  have t1 : True := trivial
  clear ha hb
  cases h1 : mayL La
  · rw [h1] at HA
    clear h
    go_enter Tryz.func5, Tryz.ntmps5
    go_wp2_with (first
      | (go_at_call 32; refine (HA.out _ HB0.out).mono ?_; rintro e w1 ⟨rfl, ok1⟩; have HO1 := hide3 ok1; clear ok1)
      | go_in)
    go_ret2
    exact ⟨rfl, HO1.out⟩
  · rw [h1] at HA
    have h2 : mayL Lb = false := by rw [h1] at h; simpa using h
    rw [h2] at HB
    clear h
    go_enter Tryz.func5, Tryz.ntmps5
    go_wp2_with (first
      | (have _t := t1; go_at_call 32; refine (HA.out _ HB0.out).mono ?_; rintro e w1 ⟨rfl, ok1⟩; clear t1; have HO1 := hide3 ok1; clear ok1)
      | (go_at_call 32; refine (HB.out _ HO1.out).mono ?_; rintro e w2 ⟨rfl, ok2⟩; have HO2 := hide3 (below_then HO1.out ok2); clear ok2)
      | go_in)
    go_ret2
    exact ⟨rfl, HO2.out⟩

theorem Join_rg {A B : Rg} (hA : RangeR A) (hB : RangeR B) (la : A.length ≤ 64) (lb : B.length ≤ 64) {va vb : Value} {w : World} (hf : FL w) (ha : SpansR w va A) (hb : SpansR w vb B) :
    Calls Tryz.prog 8 #[va, vb] w fun e w' => ∃ v, e = .returned (.tuple #[v, .int .i64 (fullE (joinR A B).length)]) ∧ OwnS w' w.heap.size v ((fitR (joinR A B)).map spR) ∧ Below w.heap.size w w' := by
  have HA : Hid (∀ w1, Below w.heap.size w w1 → Calls Tryz.prog 32 #[va] w1 fun e w' => e = .returned (.bool true) ∧ Below w1.heap.size w1 w') := fun w1 hbl => by have := sMay_any (ha.below hbl).at; rw [may_rg hA la] at this; exact this
  have HB : Hid (∀ w1, Below w.heap.size w w1 → Calls Tryz.prog 32 #[vb] w1 fun e w' => e = .returned (.bool true) ∧ Below w1.heap.size w1 w') := fun w1 hbl => by have := sMay_any (hb.below hbl).at; rw [may_rg hB lb] at this; exact this
  have HM : Hid (∀ w1, Below w.heap.size w w1 → Calls Tryz.prog 19 #[va, vb] w1 fun e w' => ∃ v, e = .returned v ∧ OwnS w' w1.heap.size v ((joinR A B).map spR) ∧ Below w1.heap.size w1 w') := fun w1 hbl => join_rg hA hB (hf.below hbl) (ha.below hbl) (hb.below hbl)
  have HN : Hid (∀ w1 v1, OwnS w1 w.heap.size v1 ((joinR A B).map spR) → Calls Tryz.prog 27 #[v1] w1 fun e w' => ∃ v', e = .returned (.tuple #[v', .int .i64 (fullE (joinR A B).length)]) ∧ OwnS w' w.heap.size v' ((fitR (joinR A B)).map spR) ∧ Below w1.heap.size w1 w') := fun w1 v1 h => notFull_own h
  have HB0 : Hid (Below w.heap.size w w) := Below.refl _ _
  have t1 : True := trivial
  clear ha hb
  go_enter Tryz.func8, Tryz.ntmps8
  go_wp2_with (first
    | (have _t := t1; go_at_call 32; refine (HA.out _ HB0.out).mono ?_; rintro e w1 ⟨rfl, ok1⟩; clear t1; have HO1 := hide3 ok1; clear ok1)
    | (go_at_call 32; refine (HB.out _ HO1.out).mono ?_; rintro e w2 ⟨rfl, ok2⟩; have HO2 := hide3 (below_then HO1.out ok2); clear ok2)
    | (go_at_call 19; refine (HM.out _ HO2.out).mono ?_; rintro e w3 ⟨v3, rfl, ok3⟩; have HO3 : Hid (OwnS w3 w.heap.size v3 ((joinR A B).map spR) ∧ Below w.heap.size w w3) := ⟨ok3.1.base HO2.out.size, below_then HO2.out ok3.2⟩; clear ok3)
    | (go_at_call 27; refine (HN.out _ _ HO3.out.1).mono ?_; rintro e w4 ⟨v4, rfl, ok4⟩; have HO4 := hide3 ok4; clear ok4)
    | go_in)
  go_ret2
  exact ⟨v4, rfl, HO4.out.1, below_then HO3.out.2 HO4.out.2⟩

theorem Join_no {La Lb : List Sp} {va vb : Value} {w : World} (ha : SpansAt w va La) (hb : SpansAt w vb Lb) (h : (mayL La && mayL Lb) = false) :
    Calls Tryz.prog 8 #[va, vb] w fun e w' => e = .returned (.tuple #[.slice none 0 0, .int .i64 21]) ∧ Below w.heap.size w w' := by
  have HA : Hid (∀ w1, Below w.heap.size w w1 → Calls Tryz.prog 32 #[va] w1 fun e w' => e = .returned (.bool (mayL La)) ∧ Below w1.heap.size w1 w') := fun w1 hbl => sMay_any (ha.below hbl)
  have HB : Hid (∀ w1, Below w.heap.size w w1 → Calls Tryz.prog 32 #[vb] w1 fun e w' => e = .returned (.bool (mayL Lb)) ∧ Below w1.heap.size w1 w') := fun w1 hbl => sMay_any (hb.below hbl)
  have HB0 : Hid (Below w.heap.size w w) := Below.refl _ _
  have t1 : True := trivial
  clear ha hb
  cases h1 : mayL La
  · rw [h1] at HA
    clear h
    go_enter Tryz.func8, Tryz.ntmps8
    go_wp2_with (first
      | (go_at_call 32; refine (HA.out _ HB0.out).mono ?_; rintro e w1 ⟨rfl, ok1⟩; have HO1 := hide3 ok1; clear ok1)
      | go_in)
    go_ret2
    exact ⟨rfl, HO1.out⟩
  · rw [h1] at HA
    have h2 : mayL Lb = false := by rw [h1] at h; simpa using h
    rw [h2] at HB
    clear h
    go_enter Tryz.func8, Tryz.ntmps8
    go_wp2_with (first
      | (have _t := t1; go_at_call 32; refine (HA.out _ HB0.out).mono ?_; rintro e w1 ⟨rfl, ok1⟩; clear t1; have HO1 := hide3 ok1; clear ok1)
      | (go_at_call 32; refine (HB.out _ HO1.out).mono ?_; rintro e w2 ⟨rfl, ok2⟩; have HO2 := hide3 (below_then HO1.out ok2); clear ok2)
      | go_in)
    go_ret2
    exact ⟨rfl, HO2.out⟩

theorem Cut_rg {A B : Rg} (hA : RangeR A) (hB : RangeR B) (la : A.length ≤ 64) (lb : B.length ≤ 64) {va vb : Value} {w : World} (ha : SpansR w va A) (hb : SpansR w vb B) :
    Calls Tryz.prog 10 #[va, vb] w fun e w' => ∃ v, e = .returned (.tuple #[v, .int .i64 (fullE (cutR A B).length)]) ∧ OwnS w' w.heap.size v ((fitR (cutR A B)).map spR) ∧ Below w.heap.size w w' := by
  have HA : Hid (∀ w1, Below w.heap.size w w1 → Calls Tryz.prog 32 #[va] w1 fun e w' => e = .returned (.bool true) ∧ Below w1.heap.size w1 w') := fun w1 hbl => by have := sMay_any (ha.below hbl).at; rw [may_rg hA la] at this; exact this
  have HB : Hid (∀ w1, Below w.heap.size w w1 → Calls Tryz.prog 32 #[vb] w1 fun e w' => e = .returned (.bool true) ∧ Below w1.heap.size w1 w') := fun w1 hbl => by have := sMay_any (hb.below hbl).at; rw [may_rg hB lb] at this; exact this
  have HM : Hid (∀ w1, Below w.heap.size w w1 → Calls Tryz.prog 20 #[va, vb] w1 fun e w' => ∃ v, e = .returned v ∧ OwnS w' w1.heap.size v ((cutR A B).map spR) ∧ Below w1.heap.size w1 w') := fun w1 hbl => cut_rg hA hB (ha.below hbl) (hb.below hbl)
  have HN : Hid (∀ w1 v1, OwnS w1 w.heap.size v1 ((cutR A B).map spR) → Calls Tryz.prog 27 #[v1] w1 fun e w' => ∃ v', e = .returned (.tuple #[v', .int .i64 (fullE (cutR A B).length)]) ∧ OwnS w' w.heap.size v' ((fitR (cutR A B)).map spR) ∧ Below w1.heap.size w1 w') := fun w1 v1 h => notFull_own h
  have HB0 : Hid (Below w.heap.size w w) := Below.refl _ _
  have t1 : True := trivial
  clear ha hb
  go_enter Tryz.func10, Tryz.ntmps10
  go_wp2_with (first
    | (have _t := t1; go_at_call 32; refine (HA.out _ HB0.out).mono ?_; rintro e w1 ⟨rfl, ok1⟩; clear t1; have HO1 := hide3 ok1; clear ok1)
    | (go_at_call 32; refine (HB.out _ HO1.out).mono ?_; rintro e w2 ⟨rfl, ok2⟩; have HO2 := hide3 (below_then HO1.out ok2); clear ok2)
    | (go_at_call 20; refine (HM.out _ HO2.out).mono ?_; rintro e w3 ⟨v3, rfl, ok3⟩; have HO3 : Hid (OwnS w3 w.heap.size v3 ((cutR A B).map spR) ∧ Below w.heap.size w w3) := ⟨ok3.1.base HO2.out.size, below_then HO2.out ok3.2⟩; clear ok3)
    | (go_at_call 27; refine (HN.out _ _ HO3.out.1).mono ?_; rintro e w4 ⟨v4, rfl, ok4⟩; have HO4 := hide3 ok4; clear ok4)
    | go_in)
  go_ret2
  exact ⟨v4, rfl, HO4.out.1, below_then HO3.out.2 HO4.out.2⟩

theorem Cut_no {La Lb : List Sp} {va vb : Value} {w : World} (ha : SpansAt w va La) (hb : SpansAt w vb Lb) (h : (mayL La && mayL Lb) = false) :
    Calls Tryz.prog 10 #[va, vb] w fun e w' => e = .returned (.tuple #[.slice none 0 0, .int .i64 21]) ∧ Below w.heap.size w w' := by
  have HA : Hid (∀ w1, Below w.heap.size w w1 → Calls Tryz.prog 32 #[va] w1 fun e w' => e = .returned (.bool (mayL La)) ∧ Below w1.heap.size w1 w') := fun w1 hbl => sMay_any (ha.below hbl)
  have HB : Hid (∀ w1, Below w.heap.size w w1 → Calls Tryz.prog 32 #[vb] w1 fun e w' => e = .returned (.bool (mayL Lb)) ∧ Below w1.heap.size w1 w') := fun w1 hbl => sMay_any (hb.below hbl)
  have HB0 : Hid (Below w.heap.size w w) := Below.refl _ _
  have t1 : True := trivial
  clear ha hb
  cases h1 : mayL La
  · rw [h1] at HA
    clear h
    go_enter Tryz.func10, Tryz.ntmps10
    go_wp2_with (first
      | (go_at_call 32; refine (HA.out _ HB0.out).mono ?_; rintro e w1 ⟨rfl, ok1⟩; have HO1 := hide3 ok1; clear ok1)
      | go_in)
    go_ret2
    exact ⟨rfl, HO1.out⟩
  · rw [h1] at HA
    have h2 : mayL Lb = false := by rw [h1] at h; simpa using h
    rw [h2] at HB
    clear h
    go_enter Tryz.func10, Tryz.ntmps10
    go_wp2_with (first
      | (have _t := t1; go_at_call 32; refine (HA.out _ HB0.out).mono ?_; rintro e w1 ⟨rfl, ok1⟩; clear t1; have HO1 := hide3 ok1; clear ok1)
      | (go_at_call 32; refine (HB.out _ HO1.out).mono ?_; rintro e w2 ⟨rfl, ok2⟩; have HO2 := hide3 (below_then HO1.out ok2); clear ok2)
      | go_in)
    go_ret2
    exact ⟨rfl, HO2.out⟩
end Go.Proofs.YtkmgfemhfibikaaGreatDoor
