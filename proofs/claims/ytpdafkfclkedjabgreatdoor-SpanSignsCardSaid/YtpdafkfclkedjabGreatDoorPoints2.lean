/- SpanPoints of any lists and version. -/
import Derived.Test.YtpdafkfclkedjabGreatDoorPoints1
import Derived.Test.YtpdafkfclkedjabGreatDoorRowS
namespace Go.Proofs.YtpdafkfclkedjabGreatDoor
open Go.RowKit
set_option maxRecDepth 100000

theorem Says.of {f : Nat} {args : Array Value} {w : World} {b c : Bool} (h : Says f args w b) (e : b = c) : Says f args w c := e ▸ h

theorem in_meet {A B : Rg} (hA : RangeR A) (hB : RangeR B) (la : A.length ≤ 64) (lb : B.length ≤ 64) (hl : (meetR A B).length ≤ 64) (p q r : Int) : inL ((meetR A B).map spR) p q r = (inL (A.map spR) p q r && inL (B.map spR) p q r) := by
  rw [Bool.eq_iff_iff, Bool.and_eq_true, in_rg (hA.meet hB) hl, in_rg hA la, in_rg hB lb, meet_in hA hB]
  constructor
  · rintro ⟨m, x, y⟩; exact ⟨⟨m, x⟩, m, y⟩
  · rintro ⟨⟨m, x⟩, _, y⟩; exact ⟨m, x, y⟩
theorem in_join {A B : Rg} (hA : RangeR A) (hB : RangeR B) (la : A.length ≤ 64) (lb : B.length ≤ 64) (hl : (joinR A B).length ≤ 64) (p q r : Int) : inL ((joinR A B).map spR) p q r = (inL (A.map spR) p q r || inL (B.map spR) p q r) := by
  rw [Bool.eq_iff_iff, Bool.or_eq_true, in_rg (hA.join hB) hl, in_rg hA la, in_rg hB lb, join_in hA hB]
  constructor
  · rintro ⟨m, x | x⟩
    · exact Or.inl ⟨m, x⟩
    · exact Or.inr ⟨m, x⟩
  · rintro (⟨m, x⟩ | ⟨m, x⟩)
    · exact ⟨m, Or.inl x⟩
    · exact ⟨m, Or.inr x⟩
theorem in_cut {A B : Rg} (hA : RangeR A) (hB : RangeR B) (la : A.length ≤ 64) (lb : B.length ≤ 64) (hl : (cutR A B).length ≤ 64) (p q r : Int) : inL ((cutR A B).map spR) p q r = (inL (A.map spR) p q r && !inL (B.map spR) p q r) := by
  rw [Bool.eq_iff_iff, Bool.and_eq_true, Bool.not_eq_true', ← Bool.not_eq_true, in_rg (hA.cut hB) hl, in_rg hA la, in_rg hB lb, cut_in hA hB]
  constructor
  · rintro ⟨m, x, y⟩; exact ⟨⟨m, x⟩, fun h => y h.2⟩
  · rintro ⟨⟨m, x⟩, y⟩; exact ⟨m, x, fun h => y ⟨m, h⟩⟩

/-- A range that came in, or a list that is none. -/
theorem rg_or {w : World} {v : Value} {L : List Sp} (h : SpansC w v L) : mayL L = false ∨ ∃ A, L = A.map spR ∧ RangeR A ∧ A.length ≤ 64 ∧ SpansR w v A := by
  cases hm : mayL L
  · exact Or.inl rfl
  · obtain ⟨A, rfl, hA, hl⟩ := may_iff.1 hm
    exact Or.inr ⟨A, rfl, hA, hl, h.rg⟩

theorem sMay_rg {A : Rg} (hA : RangeR A) (hl : A.length ≤ 64) {w : World} {v : Value} (h : SpansR w v A) : Says 12 #[v] w true := by
  have := sMay_any h.at; rw [may_rg hA hl] at this; exact this

theorem full_0 {n : Nat} (h : n ≤ 64) : fullE n = 0 := by unfold fullE; rw [if_pos h]
theorem full_26 {n : Nat} (h : ¬ n ≤ 64) : fullE n = 26 := by unfold fullE; rw [if_neg h]

end Go.Proofs.YtpdafkfclkedjabGreatDoor
