/- Lines that are written over: what stays. -/
import Derived.Test.YtiahoaneinojgaaDoorPt1
namespace Go.Proofs.YtiahoaneinojgaaDoor.Sc
open Go.RowKit
set_option maxRecDepth 100000

/-- What of a list of lines is not yet written over: from i on. -/
def TailA (w : World) (B : Nat) (va : Value) (ps : List (Value × List Bs)) (i : Nat) : Prop :=
  ∃ vs : List Value, w.ownsRow B 27 1 va ps.length vs ∧ ∀ j (h : j < ps.length), i ≤ j → vs[j]? = some ps[j].1 ∧ OwnW w B ps[j].1 ps[j].2
/-- The line at i is being written over. -/
def MidA (w : World) (B : Nat) (va : Value) (ps : List (Value × List Bs)) (i : Nat) (u : Value) (n : Nat) : Prop :=
  ∃ vs xs : List Value, w.ownsRow B 27 1 va ps.length vs ∧ vs[i]? = some u ∧ w.ownsRow B 9 1 u n xs ∧ ∀ j (h : j < ps.length), i < j → vs[j]? = some ps[j].1 ∧ OwnW w B ps[j].1 ps[j].2
/-- What holds of the blocks all the time. -/
def ApartA (va : Value) (ps : List (Value × List Bs)) : Prop := (ps.map (·.1.ownBlock)).Nodup ∧ (∀ p ∈ ps, va.ownBlock ≠ p.1.ownBlock) ∧ ∀ p ∈ ps, p.2 ≠ []

theorem LL.tail {w : World} {B : Nat} {va : Value} {ps : List (Value × List Bs)} (h : LL w B va ps) : TailA w B va ps 0 ∧ ApartA va ps := by
  refine ⟨⟨ps.map (·.1), h.1, fun j hj _ => ⟨by simp [hj], (h.2.1 _ (List.getElem_mem hj)).1⟩⟩, h.2.2.1, h.2.2.2.1, fun p hp => (h.2.1 p hp).2⟩
theorem TailA.below {w w' : World} {B : Nat} {va : Value} {ps : List (Value × List Bs)} {i : Nat} (h : TailA w B va ps i) (hb : Below w.heap.size w w') : TailA w' B va ps i := by
  obtain ⟨vs, h1, h2⟩ := h
  exact ⟨vs, row_below h1 hb, fun j hj hi => ⟨(h2 j hj hi).1, (h2 j hj hi).2.below hb⟩⟩
theorem TailA.mid {w : World} {B : Nat} {va : Value} {ps : List (Value × List Bs)} {i : Nat} (h : TailA w B va ps i) (hi : i < ps.length) : MidA w B va ps i ps[i].1 ps[i].2.length := by
  obtain ⟨vs, h1, h2⟩ := h
  exact ⟨vs, strs ps[i].2, h1, (h2 i hi (Nat.le_refl _)).1, (h2 i hi (Nat.le_refl _)).2, fun j hj hij => h2 j hj (by omega)⟩

theorem apart_two {va : Value} {ps : List (Value × List Bs)} (h : ApartA va ps) {i j : Nat} (hi : i < ps.length) (hj : j < ps.length) (hij : i < j) : ps[i].1.ownBlock ≠ ps[j].1.ownBlock := by
  have := List.pairwise_iff_getElem.1 h.1 i j (by simpa using hi) (by simpa using hj) hij
  simpa using this

/-- A row of some, opened. -/
theorem row_some {w : World} {B n : Nat} {e : TypeId} {v : Value} {xs : List Value} (h : w.ownsRow B e 1 v n xs) (hn : 0 < n) : ∃ g cap, v = .slice (some ⟨g, 0, none⟩) n cap ∧ B ≤ g ∧ g < w.heap.size ∧ xs.length = n := by
  rcases h.2 with ⟨_, h0⟩ | ⟨g, cap, cur, rfl, hB, hg, _⟩
  · omega
  · exact ⟨g, cap, rfl, hB, (Array.getElem?_eq_some_iff.1 hg).1, by have := h.1; omega⟩

/-- One cell of the line is written. -/
theorem MidA.put {w : World} {B : Nat} {va : Value} {ps : List (Value × List Bs)} {i n g cap : Nat} (h : MidA w B va ps i (.slice (some ⟨g, 0, none⟩) n cap) n) (ha : ApartA va ps) (hi : i < ps.length) (hu : ps[i].1.ownBlock = some g) (k : Nat) (x : Value) :
    MidA (w.setCell ⟨g, k, none⟩ x) B va ps i (.slice (some ⟨g, 0, none⟩) n cap) n ∧ w.grownBy (w.setCell ⟨g, k, none⟩ x) (some g) := by
  obtain ⟨vs, xs, h1, h2, h3, h4⟩ := h
  obtain ⟨r1, r2⟩ := h3.stored k x
  refine ⟨⟨vs, xs.set k x, h1.kept r2 (Or.inr ?_), h2, r1, fun j hj hij => ⟨(h4 j hj hij).1, (h4 j hj hij).2.kept r2 (Or.inr ?_)⟩⟩, r2⟩
  · have := ha.2.1 _ (List.getElem_mem hi)
    rw [hu] at this
    exact this
  · have := apart_two ha hi hj hij
    rw [hu] at this
    exact this.symm

/-- The line has grown by one, and is laid in its place. -/
theorem MidA.done {w w' : World} {B : Nat} {va : Value} {ps : List (Value × List Bs)} {i n gA capA : Nat} {u : Value} (h : MidA w B va ps i u n) (ha : ApartA va ps) (hi : i < ps.length) (hu : ps[i].1.ownBlock = u.ownBlock) (hg : w.grownBy w' u.ownBlock) (hva : va = .slice (some ⟨gA, 0, none⟩) ps.length capA) (x : Value) :
    TailA (w'.setCell ⟨gA, i, none⟩ x) B va ps (i + 1) ∧ w'.grownBy (w'.setCell ⟨gA, i, none⟩ x) (some gA) := by
  obtain ⟨vs, xs, h1, h2, h3, h4⟩ := h
  subst hva
  have k1 := h1.kept hg (Or.inr (by rw [← hu]; exact ha.2.1 _ (List.getElem_mem hi)))
  obtain ⟨r1, r2⟩ := k1.stored i x
  refine ⟨⟨vs.set i x, r1, fun j hj hij => ?_⟩, r2⟩
  obtain ⟨q1, q2⟩ := h4 j hj (by omega)
  refine ⟨by rw [List.getElem?_set_ne (by omega)]; exact q1, (q2.kept hg (Or.inr ?_)).kept r2 (Or.inr ?_)⟩
  · rw [← hu]
    exact (apart_two ha hi hj (by omega)).symm
  · exact (ha.2.1 _ (List.getElem_mem hj)).symm
theorem MidA.below {w w' : World} {B : Nat} {va : Value} {ps : List (Value × List Bs)} {i n : Nat} {u : Value} (h : MidA w B va ps i u n) (hb : Below w.heap.size w w') : MidA w' B va ps i u n := by
  obtain ⟨vs, xs, h1, h2, h3, h4⟩ := h
  exact ⟨vs, xs, row_below h1 hb, h2, row_below h3 hb, fun j hj hij => ⟨(h4 j hj hij).1, (h4 j hj hij).2.below hb⟩⟩
/-- The line's place, behind its growing. -/
theorem MidA.cells {w w' : World} {B : Nat} {ps : List (Value × List Bs)} {i n gA capA : Nat} {u : Value} (h : MidA w B (.slice (some ⟨gA, 0, none⟩) ps.length capA) ps i u n) (ha : ApartA (.slice (some ⟨gA, 0, none⟩) ps.length capA) ps) (hi : i < ps.length) (hu : ps[i].1.ownBlock = u.ownBlock) (hg : w.grownBy w' u.ownBlock) :
    w'.cell? ⟨gA, i, none⟩ = some u ∧ w'.frozen? ⟨gA, i, none⟩ = false := by
  obtain ⟨vs, xs, h1, h2, h3, h4⟩ := h
  have k1 := h1.kept hg (Or.inr (by rw [← hu]; exact ha.2.1 _ (List.getElem_mem hi)))
  exact ⟨by rw [World.ownsRow.cellAt k1 i (by omega)]; exact h2, World.ownsRow.frozenAt k1 i⟩
theorem setCell_below {w0 w : World} {C g k : Nat} {x : Value} (h : Below C w0 w) (hg : C ≤ g) : Below C w0 (w.setCell ⟨g, k, none⟩ x) := h.setCell (p := ⟨g, k, none⟩) hg x
end Go.Proofs.YtiahoaneinojgaaDoor.Sc
