/- known of the statements answers true. -/
import Derived.Test.YtkmgfemhfibikaaGreatDoorKn1
namespace Go.Proofs.YtkmgfemhfibikaaGreatDoor
open Go.RowKit
set_option maxRecDepth 100000

theorem rAll_rg (w : World) :
    Calls Tryz.prog 24 #[] w fun e w' => ∃ v, e = .returned v ∧ SpansR w' v allR ∧ Below w.heap.size w w' := by
  have H0 : Hid (∀ w1, Calls Tryz.prog 42 #[.int .i64 0] w1 fun e w' => e = .returned (.agg #[.int .i64 0, .int .i64 0, .int .i64 0]) ∧ Below w1.heap.size w1 w') := rat_any 0
  have H9 : Hid (∀ w1, Calls Tryz.prog 42 #[.int .i64 999999999] w1 fun e w' => e = .returned (.agg #[.int .i64 999, .int .i64 999, .int .i64 999]) ∧ Below w1.heap.size w1 w') := rat_any 999999999
  have HS : Hid (∀ w1, Below w.heap.size w w1 → SpansR (w1.alloc (.cells #[.int .i64 0, .int .i64 0, .int .i64 0, .int .i64 999, .int .i64 999, .int .i64 999] 37)) (.slice (some ⟨w1.heap.size, 0, none⟩) 1 1) allR ∧ Below w.heap.size w (w1.alloc (.cells #[.int .i64 0, .int .i64 0, .int .i64 0, .int .i64 999, .int .i64 999, .int .i64 999] 37))) := fun w1 hb => spans_one hb 0 999999999 rfl
  have t1 : True := trivial
  go_enter Tryz.func24, Tryz.ntmps24
  go_wp2_with (first
    | (have _t := t1; go_at_call 42; refine (H0.out _).mono ?_; rintro e w1 ⟨rfl, ok1⟩; clear t1; have HO1 := hide3 ok1; clear ok1)
    | (go_at_call 42; refine (H9.out _).mono ?_; rintro e w2 ⟨rfl, ok2⟩; have HO2 := hide3 (below_then HO1.out ok2); clear ok2))
  go_ret
  exact ⟨_, rfl, HS.out _ HO2.out⟩

theorem alt_known : altR ⟨#[94, 49, 46, 50, 46, 51]⟩ = some [(1002003, 1999999)] := by decide +kernel
theorem pieces_known : piecesB ⟨#[94, 49, 46, 50, 46, 51]⟩ ⟨#[124, 124]⟩ = [⟨#[94, 49, 46, 50, 46, 51]⟩] := by decide +kernel
theorem pieces_known2 : piecesB ⟨#[94, 49, 46, 50, 46, 51]⟩ ⟨#[32]⟩ = [⟨#[94, 49, 46, 50, 46, 51]⟩] := by decide +kernel
theorem print_known : printR [(1002003, 1999999)] = ⟨#[62, 61, 49, 46, 50, 46, 51, 32, 60, 61, 49, 46, 57, 57, 57, 46, 57, 57, 57]⟩ := by decide +kernel
theorem rg_known : RangeR [(1002003, 1999999)] := ⟨by decide, by decide, by decide, trivial⟩
theorem in_known : inL (([(1002003, 1999999)] : Rg).map spR) 1 9 0 = true := by
  rw [in_rg rg_known (by decide)]
  exact ⟨by decide, Or.inl (by decide)⟩
theorem ascii_of {l : List UInt8} (h : (l.all fun b => decide (b.toNat < 128)) = true) : ∀ (j : Nat) b, l[j]? = some b → b.toNat < 128 := by
  intro j b hj
  have := List.all_eq_true.1 h b (List.mem_of_getElem? hj)
  simpa using this
theorem plain_known : PlainT ⟨#[94, 49, 46, 50, 46, 51]⟩ := by
  unfold PlainT
  rw [pieces_known]
  intro a ha
  rw [List.mem_singleton] at ha
  subst ha
  rw [pieces_known2]
  intro p hp _
  rw [List.mem_singleton] at hp
  subst hp
  exact Or.inr (ascii_of (by decide))

set_option maxHeartbeats 1600000 in
theorem known_any (w : World) (he : Env w) (hf : FL w) :
    Calls Tryz.prog 13 #[] w fun e w' => e = .returned (.bool true) ∧ Below w.heap.size w w' := by
  have HP : Hid (Calls Tryz.prog 14 #[.string ⟨#[94, 49, 46, 50, 46, 51]⟩] w fun e w' => ∃ ad cap, e = .returned (.tuple #[.slice ad 1 cap, .int .i64 0]) ∧ SpansR w' (.slice ad 1 cap) [(1002003, 1999999)] ∧ Below w.heap.size w w') := by
    refine (sParse_any ⟨#[94, 49, 46, 50, 46, 51]⟩ (by decide) plain_known w he hf).mono ?_
    rintro e w' ⟨v, rfl, ho, hb⟩
    rw [alt_known] at ho ⊢
    have hs : SpansR w' v [(1002003, 1999999)] := ho.spans
    obtain ⟨ad, cap, rfl, r⟩ := hs
    exact ⟨ad, cap, rfl, ⟨ad, cap, rfl, r⟩, hb⟩
  have HI : Hid (∀ w1 v, SpansR w1 v [(1002003, 1999999)] → Calls Tryz.prog 21 #[v, .agg #[.int .i64 1, .int .i64 9, .int .i64 0]] w1 fun e w' => e = .returned (.bool true) ∧ Below w1.heap.size w1 w') := fun w1 v h => by have := sIn_any h.at (p := 1) (q := 9) (r := 0); rw [in_known] at this; exact this
  have HPr : Hid (∀ w1 v, Below w.heap.size w w1 → SpansR w1 v [(1002003, 1999999)] → Calls Tryz.prog 22 #[v] w1 fun e w' => e = .returned (.string ⟨#[62, 61, 49, 46, 50, 46, 51, 32, 60, 61, 49, 46, 57, 57, 57, 46, 57, 57, 57]⟩) ∧ Below w1.heap.size w1 w') := fun w1 v hb h => by have := sPrint_rg rg_known (by decide) h (he.below hb) (hf.below hb); rw [print_known] at this; exact this
  have HA : Hid (∀ w1, Below w.heap.size w w1 → Calls Tryz.prog 23 #[] w1 fun e w' => ∃ v, e = .returned v ∧ SpansR w' v allR ∧ Below w1.heap.size w1 w') := fun w1 hb => All_rg (hf.below hb)
  have HB : Hid (∀ w1, Calls Tryz.prog 24 #[] w1 fun e w' => ∃ v, e = .returned v ∧ SpansR w' v allR ∧ Below w1.heap.size w1 w') := rAll_rg
  have HE : Hid (∀ w1 va vb, SpansR w1 va allR → SpansR w1 vb allR → Calls Tryz.prog 7 #[va, vb] w1 fun e w' => e = .returned (.bool true) ∧ Below w1.heap.size w1 w') := fun w1 va vb h1 h2 => same_yes h1.at h2.at (by decide)
  clear he hf
  go_enter Tryz.func13, Tryz.ntmps13
  go_wp2_with (first
    | (go_at_call 14; refine HP.out.mono ?_; rintro e w1 ⟨ad, cap, rfl, ok1⟩; have HO1 : Hid (SpansR (w1.alloc (.cells #[.int .i64 1, .int .i64 9, .int .i64 0] 35)) (.slice ad 1 cap) [(1002003, 1999999)] ∧ Below w.heap.size w (w1.alloc (.cells #[.int .i64 1, .int .i64 9, .int .i64 0] 35))) := ⟨ok1.1.below (boxB _ _), below_then ok1.2 (boxB _ _)⟩; clear ok1)
    | (go_at_call 21; refine (HI.out _ _ HO1.out.1).mono ?_; rintro e w2 ⟨rfl, ok2⟩; have HO2 : Hid (SpansR w2 (.slice ad 1 cap) [(1002003, 1999999)] ∧ Below w.heap.size w w2) := ⟨HO1.out.1.below ok2, below_then HO1.out.2 ok2⟩; clear ok2)
    | (go_at_call 22; refine (HPr.out _ _ HO2.out.2 HO2.out.1).mono ?_; rintro e w3 ⟨rfl, ok3⟩; have HO3 := hide3 (below_then HO2.out.2 ok3); clear ok3)
    | (go_at_call 23; refine (HA.out _ HO3.out).mono ?_; rintro e w4 ⟨v4, rfl, ok4⟩; have HO4 : Hid (SpansR w4 v4 allR ∧ Below w.heap.size w w4) := ⟨ok4.1, below_then HO3.out ok4.2⟩; clear ok4)
    | (go_at_call 24; refine (HB.out _).mono ?_; rintro e w5 ⟨v5, rfl, ok5⟩; have HO5 : Hid (SpansR w5 v4 allR ∧ SpansR w5 v5 allR ∧ Below w.heap.size w w5) := ⟨HO4.out.1.below ok5.2, ok5.1, below_then HO4.out.2 ok5.2⟩; clear ok5)
    | (go_at_call 7; refine (HE.out _ _ _ HO5.out.1 HO5.out.2.1).mono ?_; rintro e w6 ⟨rfl, ok6⟩; have HO6 := hide3 (below_then HO5.out.2.2 ok6); clear ok6))
  go_ret
  exact ⟨rfl, HO6.out⟩
end Go.Proofs.YtkmgfemhfibikaaGreatDoor
