/- SpanPoints of any lists and version. -/
import Derived.Test.YtpdafkfclkedjaaGreatDoorPoints1
import Derived.Test.YtpdafkfclkedjaaGreatDoorRowS
namespace Go.Proofs.YtpdafkfclkedjaaGreatDoor
open Go.RowKit
set_option maxRecDepth 100000

theorem Says.of {f : Nat} {args : Array Value} {w : World} {b c : Bool} (h : Says f args w b) (e : b = c) : Says f args w c := e ▸ h

theorem in_meet {A B : Rg} (hA : RangeR A) (hB : RangeR B) (la : A.length ≤ 64) (lb : B.length ≤ 64) (hl : (meetR A B).length ≤ 64) (p q r : Int) : inL ((meetR A B).map spR) p q r = (inL (A.map spR) p q r && inL (B.map spR) p q r) := by
  rw [Bool.eq_iff_iff, Bool.and_eq_true, in_rg (hA.meet hB) hl, in_rg hA la, in_rg hB lb, meet_in hA hB]
  constructor
  · rintro ⟨m, x, y⟩; exact ⟨⟨m, x⟩, m, y⟩
  · rintro ⟨⟨m, x⟩, _, y⟩; exact ⟨m, x, y⟩
theorem in_join {A B : Rg} (hA : RangeR A) (hB : RangeR B) (la : A.length ≤ 64) (lb : B.length ≤ 64) (hl : (joinR A B).length ≤ 64) (p q r : Int) : inL ((joinR A B).map spR) p q r = (inL (A.map spR) p q r || inL (B.map spR) p q r) := by
  rw [Bool.eq_iff_iff, Bool.or_eq_true, in_rg (hA.join hB) hl, in_rg hA la, in_rg hB lb, join_in hA hB]
  constructor
  · rintro ⟨m, x | x⟩
    · exact Or.inl ⟨m, x⟩
    · exact Or.inr ⟨m, x⟩
  · rintro (⟨m, x⟩ | ⟨m, x⟩)
    · exact ⟨m, Or.inl x⟩
    · exact ⟨m, Or.inr x⟩
theorem in_cut {A B : Rg} (hA : RangeR A) (hB : RangeR B) (la : A.length ≤ 64) (lb : B.length ≤ 64) (hl : (cutR A B).length ≤ 64) (p q r : Int) : inL ((cutR A B).map spR) p q r = (inL (A.map spR) p q r && !inL (B.map spR) p q r) := by
  rw [Bool.eq_iff_iff, Bool.and_eq_true, Bool.not_eq_true', ← Bool.not_eq_true, in_rg (hA.cut hB) hl, in_rg hA la, in_rg hB lb, cut_in hA hB]
  constructor
  · rintro ⟨m, x, y⟩; exact ⟨⟨m, x⟩, fun h => y h.2⟩
  · rintro ⟨⟨m, x⟩, y⟩; exact ⟨m, x, fun h => y ⟨m, h⟩⟩

/-- A range that came in, or a list that is none. -/
theorem rg_or {w : World} {v : Value} {L : List Sp} (h : SpansC w v L) : mayL L = false ∨ ∃ A, L = A.map spR ∧ RangeR A ∧ A.length ≤ 64 ∧ SpansR w v A := by
  cases hm : mayL L
  · exact Or.inl rfl
  · obtain ⟨A, rfl, hA, hl⟩ := may_iff.1 hm
    exact Or.inr ⟨A, rfl, hA, hl, h.rg⟩

theorem sMay_rg {A : Rg} (hA : RangeR A) (hl : A.length ≤ 64) {w : World} {v : Value} (h : SpansR w v A) : Says 9 #[v] w true := by
  have := sMay_any h.at; rw [may_rg hA hl] at this; exact this

theorem full_0 {n : Nat} (h : n ≤ 64) : fullE n = 0 := by unfold fullE; rw [if_pos h]
theorem full_26 {n : Nat} (h : ¬ n ≤ 64) : fullE n = 26 := by unfold fullE; rw [if_neg h]

theorem points_all {W : World} (hE : Env W ∧ FL W) {va vb : Value} {La Lb : List Sp} (ha : SpansC W va La) (hb : SpansC W vb Lb) (p q r : Int) :
    Calls Tryz.prog 7 #[va, vb, .agg #[.int .i64 p, .int .i64 q, .int .i64 r]] W fun e w' => e = .returned (.bool true) ∧ Below W.heap.size W w' := by
  have HKn : Hid (∀ w1, Below W.heap.size W w1 → Says 13 #[] w1 true) := fun w1 h => known_any w1 (hE.1.below h) (hE.2.below h)
  have no : ∀ f, (∀ w1, SpansAt w1 va La → SpansAt w1 vb Lb → Calls Tryz.prog f #[va, vb] w1 fun e w' => e = .returned (.tuple #[.slice none 0 0, .int .i64 21]) ∧ Below w1.heap.size w1 w') → Hid (∀ w1, Below W.heap.size W w1 → NewSp f va vb w1 21 []) := by
    intro f h w1 hbl
    refine (h w1 (ha.1.below hbl) (hb.1.below hbl)).mono ?_
    rintro e w' ⟨rfl, hb⟩
    exact ⟨_, rfl, ⟨none, 0, rfl, Nat.le_refl _, Or.inl rfl⟩, hb⟩
  rcases rg_or ha with hma | ⟨A, rfl, hA, la, hra⟩
  · have h2 : (mayL La && mayL Lb) = false := by rw [hma]; rfl
    exact points_noA va vb p q r [] [] [] W HKn (no _ fun w1 h1 h3 => Meet_no h1 h3 h2) (no _ fun w1 h1 h3 => Join_no h1 h3 h2) (no _ fun w1 h1 h3 => Cut_no h1 h3 h2)
      (fun w1 hbl => Says.of (sMay_any (ha.1.below hbl)) hma)
  rcases rg_or hb with hmb | ⟨B, rfl, hB, lb, hrb⟩
  · have h2 : (mayL (A.map spR) && mayL Lb) = false := by rw [hmb, Bool.and_false]
    exact points_noB va vb p q r [] [] [] W HKn (no _ fun w1 h1 h3 => Meet_no h1 h3 h2) (no _ fun w1 h1 h3 => Join_no h1 h3 h2) (no _ fun w1 h1 h3 => Cut_no h1 h3 h2)
      (fun w1 hbl => sMay_rg hA la (hra.below hbl)) (fun w1 hbl => Says.of (sMay_any (hb.1.below hbl)) hmb)
  clear no
  have HMa : Hid (∀ w1, Below W.heap.size W w1 → Says 9 #[va] w1 true) := fun w1 hbl => sMay_rg hA la (hra.below hbl)
  have HMb : Hid (∀ w1, Below W.heap.size W w1 → Says 9 #[vb] w1 true) := fun w1 hbl => sMay_rg hB lb (hrb.below hbl)
  have HIa : Hid (∀ w1, Below W.heap.size W w1 → Says 11 #[va, .agg #[.int .i64 p, .int .i64 q, .int .i64 r]] w1 (inL (A.map spR) p q r)) := fun w1 hbl => sIn_any (hra.below hbl).at p q r
  have HIb : Hid (∀ w1, Below W.heap.size W w1 → Says 11 #[vb, .agg #[.int .i64 p, .int .i64 q, .int .i64 r]] w1 (inL (B.map spR) p q r)) := fun w1 hbl => sIn_any (hrb.below hbl).at p q r
  have HX : Hid (∀ w1, Below W.heap.size W w1 → NewSp 14 va vb w1 (fullE (meetR A B).length) (fitR (meetR A B))) := fun w1 hbl => by
    refine (Meet_rg hA hB la lb (hra.below hbl) (hrb.below hbl)).mono ?_
    rintro e w' ⟨v, rfl, ho, hbw⟩
    exact ⟨v, rfl, ho.spans, hbw⟩
  have HY : Hid (∀ w1, Below W.heap.size W w1 → NewSp 17 va vb w1 (fullE (joinR A B).length) (fitR (joinR A B))) := fun w1 hbl => by
    refine (Join_rg hA hB la lb (hE.2.below hbl) (hra.below hbl) (hrb.below hbl)).mono ?_
    rintro e w' ⟨v, rfl, ho, hbw⟩
    exact ⟨v, rfl, ho.spans, hbw⟩
  have HZ : Hid (∀ w1, Below W.heap.size W w1 → NewSp 19 va vb w1 (fullE (cutR A B).length) (fitR (cutR A B))) := fun w1 hbl => by
    refine (Cut_rg hA hB la lb (hra.below hbl) (hrb.below hbl)).mono ?_
    rintro e w' ⟨v, rfl, ho, hbw⟩
    exact ⟨v, rfl, ho.spans, hbw⟩
  have may : ∀ X : Rg, RangeR X → Hid (∀ w1 v, SpansR w1 v (fitR X) → Says 9 #[v] w1 true) := fun X hX w1 v h => sMay_rg (fit_ok hX) (fit_len X) h
  have ins : ∀ X : Rg, X.length ≤ 64 → ∀ b : Bool, inL (X.map spR) p q r = b → Hid (∀ w1 v, SpansR w1 v (fitR X) → Says 11 #[v, .agg #[.int .i64 p, .int .i64 q, .int .i64 r]] w1 b) := fun X hX b hb w1 v h => by
    rw [fit_of hX] at h
    exact Says.of (sIn_any h.at p q r) hb
  have mx := may _ (hA.meet hB)
  have my := may _ (hA.join hB)
  have mz := may _ (hA.cut hB)
  have ix := fun h => ins (meetR A B) h _ (in_meet hA hB la lb h p q r)
  have iy := fun h => ins (joinR A B) h _ (in_join hA hB la lb h p q r)
  have iz := fun h => ins (cutR A B) h _ (in_cut hA hB la lb h p q r)
  clear may ins
  generalize inL (A.map spR) p q r = ia at *
  generalize inL (B.map spR) p q r = ib at *
  by_cases e1 : (meetR A B).length ≤ 64
  · have jx := ix e1
    rw [full_0 e1] at HX
    by_cases e2 : (joinR A B).length ≤ 64
    · have jy := iy e2
      rw [full_0 e2] at HY
      by_cases e3 : (cutR A B).length ≤ 64
      · have jz := iz e3
        rw [full_0 e3] at HZ
        cases ia <;> cases ib
        · exact points_nn000 va vb p q r _ _ _ W HKn HX HY HZ HMa HMb HIa HIb mx jx my jy mz jz
        · exact points_ny000 va vb p q r _ _ _ W HKn HX HY HZ HMa HMb HIa HIb mx jx my jy mz jz
        · exact points_yn000 va vb p q r _ _ _ W HKn HX HY HZ HMa HMb HIa HIb mx jx my jy mz jz
        · exact points_yy000 va vb p q r _ _ _ W HKn HX HY HZ HMa HMb HIa HIb mx jx my jy mz jz
      · rw [full_26 e3] at HZ
        cases ia <;> cases ib
        · exact points_nn0026 va vb p q r _ _ _ W HKn HX HY HZ HMa HMb HIa HIb mx jx my jy
        · exact points_ny0026 va vb p q r _ _ _ W HKn HX HY HZ HMa HMb HIa HIb mx jx my jy
        · exact points_yn0026 va vb p q r _ _ _ W HKn HX HY HZ HMa HMb HIa HIb mx jx my jy
        · exact points_yy0026 va vb p q r _ _ _ W HKn HX HY HZ HMa HMb HIa HIb mx jx my jy
    · rw [full_26 e2] at HY
      by_cases e3 : (cutR A B).length ≤ 64
      · have jz := iz e3
        rw [full_0 e3] at HZ
        cases ia <;> cases ib
        · exact points_nn0260 va vb p q r _ _ _ W HKn HX HY HZ HMa HMb HIa HIb mx jx mz jz
        · exact points_ny0260 va vb p q r _ _ _ W HKn HX HY HZ HMa HMb HIa HIb mx jx mz jz
        · exact points_yn0260 va vb p q r _ _ _ W HKn HX HY HZ HMa HMb HIa HIb mx jx mz jz
        · exact points_yy0260 va vb p q r _ _ _ W HKn HX HY HZ HMa HMb HIa HIb mx jx mz jz
      · rw [full_26 e3] at HZ
        cases ia <;> cases ib
        · exact points_nn02626 va vb p q r _ _ _ W HKn HX HY HZ HMa HMb HIa HIb mx jx
        · exact points_ny02626 va vb p q r _ _ _ W HKn HX HY HZ HMa HMb HIa HIb mx jx
        · exact points_yn02626 va vb p q r _ _ _ W HKn HX HY HZ HMa HMb HIa HIb mx jx
        · exact points_yy02626 va vb p q r _ _ _ W HKn HX HY HZ HMa HMb HIa HIb mx jx
  · rw [full_26 e1] at HX
    by_cases e2 : (joinR A B).length ≤ 64
    · have jy := iy e2
      rw [full_0 e2] at HY
      by_cases e3 : (cutR A B).length ≤ 64
      · have jz := iz e3
        rw [full_0 e3] at HZ
        cases ia <;> cases ib
        · exact points_nn2600 va vb p q r _ _ _ W HKn HX HY HZ HMa HMb HIa HIb my jy mz jz
        · exact points_ny2600 va vb p q r _ _ _ W HKn HX HY HZ HMa HMb HIa HIb my jy mz jz
        · exact points_yn2600 va vb p q r _ _ _ W HKn HX HY HZ HMa HMb HIa HIb my jy mz jz
        · exact points_yy2600 va vb p q r _ _ _ W HKn HX HY HZ HMa HMb HIa HIb my jy mz jz
      · rw [full_26 e3] at HZ
        cases ia <;> cases ib
        · exact points_nn26026 va vb p q r _ _ _ W HKn HX HY HZ HMa HMb HIa HIb my jy
        · exact points_ny26026 va vb p q r _ _ _ W HKn HX HY HZ HMa HMb HIa HIb my jy
        · exact points_yn26026 va vb p q r _ _ _ W HKn HX HY HZ HMa HMb HIa HIb my jy
        · exact points_yy26026 va vb p q r _ _ _ W HKn HX HY HZ HMa HMb HIa HIb my jy
    · rw [full_26 e2] at HY
      by_cases e3 : (cutR A B).length ≤ 64
      · have jz := iz e3
        rw [full_0 e3] at HZ
        cases ia <;> cases ib
        · exact points_nn26260 va vb p q r _ _ _ W HKn HX HY HZ HMa HMb HIa HIb mz jz
        · exact points_ny26260 va vb p q r _ _ _ W HKn HX HY HZ HMa HMb HIa HIb mz jz
        · exact points_yn26260 va vb p q r _ _ _ W HKn HX HY HZ HMa HMb HIa HIb mz jz
        · exact points_yy26260 va vb p q r _ _ _ W HKn HX HY HZ HMa HMb HIa HIb mz jz
      · rw [full_26 e3] at HZ
        cases ia <;> cases ib
        · exact points_nn262626 va vb p q r _ _ _ W HKn HX HY HZ HMa HMb HIa HIb
        · exact points_ny262626 va vb p q r _ _ _ W HKn HX HY HZ HMa HMb HIa HIb
        · exact points_yn262626 va vb p q r _ _ _ W HKn HX HY HZ HMa HMb HIa HIb
        · exact points_yy262626 va vb p q r _ _ _ W HKn HX HY HZ HMa HMb HIa HIb
end Go.Proofs.YtpdafkfclkedjaaGreatDoor
