/- SpanRules of any lists. -/
import Derived.Test.YtpdafkfclkedjaaGreatDoorRules1
namespace Go.Proofs.YtpdafkfclkedjaaGreatDoor
open Go.RowKit
set_option maxRecDepth 100000

theorem meet_comm {A B : Rg} (hA : RangeR A) (hB : RangeR B) : meetR B A = meetR A B := range_one (hB.meet hA) (hA.meet hB) fun n => by rw [meet_in hB hA, meet_in hA hB]; exact And.comm
theorem join_comm {A B : Rg} (hA : RangeR A) (hB : RangeR B) : joinR B A = joinR A B := range_one (hB.join hA) (hA.join hB) fun n => by rw [join_in hB hA, join_in hA hB]; exact Or.comm
theorem meet_self {A : Rg} (hA : RangeR A) : meetR A A = A := range_one (hA.meet hA) hA fun n => by rw [meet_in hA hA]; exact ⟨fun h => h.1, fun h => ⟨h, h⟩⟩
theorem cut_self {A : Rg} (hA : RangeR A) : cutR A A = [] := range_none (hA.cut hA) fun n h => by rw [cut_in hA hA] at h; exact h.2 h.1
theorem cut_back {A : Rg} (hA : RangeR A) : cutR allR (cutR allR A) = A := range_one (allR_ok.cut (allR_ok.cut hA)) hA fun n => by
  rw [cut_in allR_ok (allR_ok.cut hA), cut_in allR_ok hA, allR_in]
  constructor
  · rintro ⟨x, y⟩
    exact Classical.byContradiction fun z => y ⟨x, z⟩
  · intro h
    exact ⟨hA.in h, fun z => z.2 h⟩
theorem join_parts {A B : Rg} (hA : RangeR A) (hB : RangeR B) : joinR (meetR A B) (cutR A B) = A := range_one ((hA.meet hB).join (hA.cut hB)) hA fun n => by
  rw [join_in (hA.meet hB) (hA.cut hB), meet_in hA hB, cut_in hA hB]
  constructor
  · rintro (x | x)
    · exact x.1
    · exact x.1
  · intro h
    by_cases hb : InR B n
    · exact Or.inl ⟨h, hb⟩
    · exact Or.inr ⟨h, hb⟩

/-- The folds as the walks of the statements take them. -/
theorem Meet_new {A B : Rg} (hA : RangeR A) (hB : RangeR B) (la : A.length ≤ 64) (lb : B.length ≤ 64) {va vb : Value} {w : World} (ha : SpansR w va A) (hb : SpansR w vb B) : NewSp 14 va vb w (fullE (meetR A B).length) (fitR (meetR A B)) := by
  refine (Meet_rg hA hB la lb ha hb).mono ?_
  rintro e w' ⟨v, rfl, ho, hbw⟩
  exact ⟨v, rfl, ho.spans, hbw⟩
theorem Join_new {A B : Rg} (hA : RangeR A) (hB : RangeR B) (la : A.length ≤ 64) (lb : B.length ≤ 64) {va vb : Value} {w : World} (hf : FL w) (ha : SpansR w va A) (hb : SpansR w vb B) : NewSp 17 va vb w (fullE (joinR A B).length) (fitR (joinR A B)) := by
  refine (Join_rg hA hB la lb hf ha hb).mono ?_
  rintro e w' ⟨v, rfl, ho, hbw⟩
  exact ⟨v, rfl, ho.spans, hbw⟩
theorem Cut_new {A B : Rg} (hA : RangeR A) (hB : RangeR B) (la : A.length ≤ 64) (lb : B.length ≤ 64) {va vb : Value} {w : World} (ha : SpansR w va A) (hb : SpansR w vb B) : NewSp 19 va vb w (fullE (cutR A B).length) (fitR (cutR A B)) := by
  refine (Cut_rg hA hB la lb ha hb).mono ?_
  rintro e w' ⟨v, rfl, ho, hbw⟩
  exact ⟨v, rfl, ho.spans, hbw⟩
theorem NewSp.of {f : Nat} {va vb : Value} {w : World} {e e' : Int} {X X' : Rg} (h : NewSp f va vb w e X) (h1 : e = e') (h2 : X = X') : NewSp f va vb w e' X' := h1 ▸ h2 ▸ h
theorem NewSp.nil {f : Nat} {va vb : Value} {w : World} (h : NewSp f va vb w 0 []) : NilSp f va vb w := by
  refine h.mono ?_
  rintro e w' ⟨v, rfl, hs, hb⟩
  obtain ⟨ad, cap, rfl, r⟩ := hs
  exact ⟨ad, cap, rfl, ⟨ad, cap, rfl, r⟩, hb⟩
theorem same_rg {w : World} {x y : Value} {R : Rg} (hl : R.length ≤ 64) (h1 : SpansR w x R) (h2 : SpansR w y R) : Says 16 #[x, y] w true := same_yes h1.at h2.at (by simp; omega)

theorem rules_all {W : World} (hE : Env W ∧ FL W) {va vb : Value} {La Lb : List Sp} (ha : SpansC W va La) (hb : SpansC W vb Lb) :
    Calls Tryz.prog 8 #[va, vb] W fun e w' => e = .returned (.bool true) ∧ Below W.heap.size W w' := by
  have HKn : Hid (∀ w1, Below W.heap.size W w1 → Says 13 #[] w1 true) := fun w1 h => known_any w1 (hE.1.below h) (hE.2.below h)
  rcases rg_or ha with hma | ⟨A, rfl, hA, la, hra⟩
  · exact rules_noA va vb W HKn (fun w1 hbl => Says.of (sMay_any (ha.1.below hbl)) hma)
  rcases rg_or hb with hmb | ⟨B, rfl, hB, lb, hrb⟩
  · exact rules_noB va vb W HKn (fun w1 hbl => sMay_rg hA la (hra.below hbl)) (fun w1 hbl => Says.of (sMay_any (hb.1.below hbl)) hmb)
  have HMa : Hid (∀ w1, Below W.heap.size W w1 → Says 9 #[va] w1 true) := fun w1 hbl => sMay_rg hA la (hra.below hbl)
  have HMb : Hid (∀ w1, Below W.heap.size W w1 → Says 9 #[vb] w1 true) := fun w1 hbl => sMay_rg hB lb (hrb.below hbl)
  have HX : Hid (∀ w1, Below W.heap.size W w1 → NewSp 14 va vb w1 (fullE (meetR A B).length) (fitR (meetR A B))) := fun w1 hbl => Meet_new hA hB la lb (hra.below hbl) (hrb.below hbl)
  have HX2 : Hid (∀ w1, Below W.heap.size W w1 → NewSp 14 vb va w1 (fullE (meetR A B).length) (fitR (meetR A B))) := fun w1 hbl => (Meet_new hB hA lb la (hrb.below hbl) (hra.below hbl)).of (by rw [meet_comm hA hB]) (by rw [meet_comm hA hB])
  have HU : Hid (∀ w1, Below W.heap.size W w1 → NewSp 17 va vb w1 (fullE (joinR A B).length) (fitR (joinR A B))) := fun w1 hbl => Join_new hA hB la lb (hE.2.below hbl) (hra.below hbl) (hrb.below hbl)
  have HU2 : Hid (∀ w1, Below W.heap.size W w1 → NewSp 17 vb va w1 (fullE (joinR A B).length) (fitR (joinR A B))) := fun w1 hbl => (Join_new hB hA lb la (hE.2.below hbl) (hrb.below hbl) (hra.below hbl)).of (by rw [join_comm hA hB]) (by rw [join_comm hA hB])
  have HSm : Hid (∀ w1 x y (R : Rg), R.length ≤ 64 → SpansR w1 x R → SpansR w1 y R → Says 16 #[x, y] w1 true) := fun w1 x y R hl h1 h2 => same_rg hl h1 h2
  have HSa : Hid (∀ w1 x, Below W.heap.size W w1 → SpansR w1 x A → Says 16 #[x, va] w1 true) := fun w1 x hbl h => same_rg la h (hra.below hbl)
  have HP : Hid (∀ w1, Below W.heap.size W w1 → NewSp 14 va va w1 0 A) := fun w1 hbl => (Meet_new hA hA la la (hra.below hbl) (hra.below hbl)).of (by rw [meet_self hA, full_0 la]) (by rw [meet_self hA, fit_of la])
  have HQ : Hid (∀ w1, Below W.heap.size W w1 → NilSp 19 va va w1) := fun w1 hbl => ((Cut_new hA hA la la (hra.below hbl) (hra.below hbl)).of (by rw [cut_self hA]; rfl) (by rw [cut_self hA]; rfl)).nil
  have HAl : Hid (∀ w1, Below W.heap.size W w1 → OneSp 26 #[] w1 allR) := fun w1 hbl => All_rg (hE.2.below hbl)
  have HN : Hid (∀ w1 x, Below W.heap.size W w1 → SpansR w1 x allR → NewSp 19 x va w1 (fullE (cutR allR A).length) (fitR (cutR allR A))) := fun w1 x hbl h => Cut_new allR_ok hA (by decide) la h (hra.below hbl)
  have HD : Hid (∀ w1, Below W.heap.size W w1 → NewSp 19 va vb w1 (fullE (cutR A B).length) (fitR (cutR A B))) := fun w1 hbl => Cut_new hA hB la lb (hra.below hbl) (hrb.below hbl)
  have back : (cutR allR A).length ≤ 64 → Hid (∀ w1 x y, Below W.heap.size W w1 → SpansR w1 x allR → SpansR w1 y (fitR (cutR allR A)) → NewSp 19 x y w1 0 A) := fun h w1 x y _ h1 h2 => by
    rw [fit_of h] at h2
    exact (Cut_new allR_ok (allR_ok.cut hA) (by decide) h h1 h2).of (by rw [cut_back hA, full_0 la]) (by rw [cut_back hA, fit_of la])
  have join : (meetR A B).length ≤ 64 → (cutR A B).length ≤ 64 → Hid (∀ w1 x y, Below W.heap.size W w1 → SpansR w1 x (fitR (meetR A B)) → SpansR w1 y (fitR (cutR A B)) → NewSp 17 x y w1 0 A) := fun h k w1 x y hbl h1 h2 => by
    rw [fit_of h] at h1
    rw [fit_of k] at h2
    exact (Join_new (hA.meet hB) (hA.cut hB) h k (hE.2.below hbl) h1 h2).of (by rw [join_parts hA hB, full_0 la]) (by rw [join_parts hA hB, fit_of la])
  have lx := fit_len (meetR A B)
  have lu := fit_len (joinR A B)
  by_cases e1 : (meetR A B).length ≤ 64
  · rw [full_0 e1] at HX HX2
    by_cases e2 : (cutR allR A).length ≤ 64
    · rw [full_0 e2] at HN
      by_cases e3 : (cutR A B).length ≤ 64
      · rw [full_0 e3] at HD
        exact rules_0_0_0 va vb A _ _ _ _ _ W lx lu HKn HMa HMb HX HX2 HU HU2 HSm HP HQ HSa HAl HN HD (back e2) (join e1 e3)
      · rw [full_26 e3] at HD
        exact rules_0_0_26 va vb A _ _ _ _ _ W lx lu HKn HMa HMb HX HX2 HU HU2 HSm HP HQ HSa HAl HN HD (back e2)
    · rw [full_26 e2] at HN
      by_cases e3 : (cutR A B).length ≤ 64
      · rw [full_0 e3] at HD
        exact rules_0_26_0 va vb A _ _ _ _ _ W lx lu HKn HMa HMb HX HX2 HU HU2 HSm HP HQ HSa HAl HN HD (join e1 e3)
      · rw [full_26 e3] at HD
        exact rules_0_26_26 va vb A _ _ _ _ _ W lx lu HKn HMa HMb HX HX2 HU HU2 HSm HP HQ HSa HAl HN HD
  · rw [full_26 e1] at HX HX2
    by_cases e2 : (cutR allR A).length ≤ 64
    · rw [full_0 e2] at HN
      by_cases e3 : (cutR A B).length ≤ 64
      · rw [full_0 e3] at HD
        exact rules_26_0_0 va vb A _ _ _ _ _ W lx lu HKn HMa HMb HX HX2 HU HU2 HSm HP HQ HSa HAl HN HD (back e2)
      · rw [full_26 e3] at HD
        exact rules_26_0_26 va vb A _ _ _ _ _ W lx lu HKn HMa HMb HX HX2 HU HU2 HSm HP HQ HSa HAl HN HD (back e2)
    · rw [full_26 e2] at HN
      by_cases e3 : (cutR A B).length ≤ 64
      · rw [full_0 e3] at HD
        exact rules_26_26_0 va vb A _ _ _ _ _ W lx lu HKn HMa HMb HX HX2 HU HU2 HSm HP HQ HSa HAl HN HD
      · rw [full_26 e3] at HD
        exact rules_26_26_26 va vb A _ _ _ _ _ W lx lu HKn HMa HMb HX HX2 HU HU2 HSm HP HQ HSa HAl HN HD
end Go.Proofs.YtpdafkfclkedjaaGreatDoor
