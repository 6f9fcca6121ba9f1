/- SpanRules of any lists. -/
import Derived.Test.YtpdafkfclkedjabGreatDoorRules1
namespace Go.Proofs.YtpdafkfclkedjabGreatDoor
open Go.RowKit
set_option maxRecDepth 100000

theorem meet_comm {A B : Rg} (hA : RangeR A) (hB : RangeR B) : meetR B A = meetR A B := range_one (hB.meet hA) (hA.meet hB) fun n => by rw [meet_in hB hA, meet_in hA hB]; exact And.comm
theorem join_comm {A B : Rg} (hA : RangeR A) (hB : RangeR B) : joinR B A = joinR A B := range_one (hB.join hA) (hA.join hB) fun n => by rw [join_in hB hA, join_in hA hB]; exact Or.comm
theorem meet_self {A : Rg} (hA : RangeR A) : meetR A A = A := range_one (hA.meet hA) hA fun n => by rw [meet_in hA hA]; exact ⟨fun h => h.1, fun h => ⟨h, h⟩⟩
theorem cut_self {A : Rg} (hA : RangeR A) : cutR A A = [] := range_none (hA.cut hA) fun n h => by rw [cut_in hA hA] at h; exact h.2 h.1
theorem cut_back {A : Rg} (hA : RangeR A) : cutR allR (cutR allR A) = A := range_one (allR_ok.cut (allR_ok.cut hA)) hA fun n => by
  rw [cut_in allR_ok (allR_ok.cut hA), cut_in allR_ok hA, allR_in]
  constructor
  · rintro ⟨x, y⟩
    exact Classical.byContradiction fun z => y ⟨x, z⟩
  · intro h
    exact ⟨hA.in h, fun z => z.2 h⟩
theorem join_parts {A B : Rg} (hA : RangeR A) (hB : RangeR B) : joinR (meetR A B) (cutR A B) = A := range_one ((hA.meet hB).join (hA.cut hB)) hA fun n => by
  rw [join_in (hA.meet hB) (hA.cut hB), meet_in hA hB, cut_in hA hB]
  constructor
  · rintro (x | x)
    · exact x.1
    · exact x.1
  · intro h
    by_cases hb : InR B n
    · exact Or.inl ⟨h, hb⟩
    · exact Or.inr ⟨h, hb⟩

/-- The folds as the walks of the statements take them. -/
theorem Meet_new {A B : Rg} (hA : RangeR A) (hB : RangeR B) (la : A.length ≤ 64) (lb : B.length ≤ 64) {va vb : Value} {w : World} (ha : SpansR w va A) (hb : SpansR w vb B) : NewSp 14 va vb w (fullE (meetR A B).length) (fitR (meetR A B)) := by
  refine (Meet_rg hA hB la lb ha hb).mono ?_
  rintro e w' ⟨v, rfl, ho, hbw⟩
  exact ⟨v, rfl, ho.spans, hbw⟩
theorem Join_new {A B : Rg} (hA : RangeR A) (hB : RangeR B) (la : A.length ≤ 64) (lb : B.length ≤ 64) {va vb : Value} {w : World} (hf : FL w) (ha : SpansR w va A) (hb : SpansR w vb B) : NewSp 13 va vb w (fullE (joinR A B).length) (fitR (joinR A B)) := by
  refine (Join_rg hA hB la lb hf ha hb).mono ?_
  rintro e w' ⟨v, rfl, ho, hbw⟩
  exact ⟨v, rfl, ho.spans, hbw⟩
theorem Cut_new {A B : Rg} (hA : RangeR A) (hB : RangeR B) (la : A.length ≤ 64) (lb : B.length ≤ 64) {va vb : Value} {w : World} (ha : SpansR w va A) (hb : SpansR w vb B) : NewSp 16 va vb w (fullE (cutR A B).length) (fitR (cutR A B)) := by
  refine (Cut_rg hA hB la lb ha hb).mono ?_
  rintro e w' ⟨v, rfl, ho, hbw⟩
  exact ⟨v, rfl, ho.spans, hbw⟩
theorem NewSp.of {f : Nat} {va vb : Value} {w : World} {e e' : Int} {X X' : Rg} (h : NewSp f va vb w e X) (h1 : e = e') (h2 : X = X') : NewSp f va vb w e' X' := h1 ▸ h2 ▸ h
theorem NewSp.nil {f : Nat} {va vb : Value} {w : World} (h : NewSp f va vb w 0 []) : NilSp f va vb w := by
  refine h.mono ?_
  rintro e w' ⟨v, rfl, hs, hb⟩
  obtain ⟨ad, cap, rfl, r⟩ := hs
  exact ⟨ad, cap, rfl, ⟨ad, cap, rfl, r⟩, hb⟩
theorem same_rg {w : World} {x y : Value} {R : Rg} (hl : R.length ≤ 64) (h1 : SpansR w x R) (h2 : SpansR w y R) : Says 15 #[x, y] w true := same_yes h1.at h2.at (by simp; omega)

end Go.Proofs.YtpdafkfclkedjabGreatDoor
