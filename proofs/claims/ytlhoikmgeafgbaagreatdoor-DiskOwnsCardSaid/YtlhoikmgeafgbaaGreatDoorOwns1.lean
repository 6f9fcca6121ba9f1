/- Scratch: a slice that a call was handed, in memory of its own, whose elements may be written over, the room behind too. -/
import Derived.Test.YtlhoikmgeafgbaaGreatDoorPlays1
namespace Go.Proofs.YtlhoikmgeafgbaaGreatDoor
open Go.RowKit Go.Maps Go.WideMaps Go.WideElems Go.Sort Go.Shelf
set_option maxRecDepth 100000

/-- A slice's whole room in memory. -/
def Scr (w : World) (ao : Option Addr) (cap t sz : Nat) : Prop := cap = 0 ∨ ∃ g cur, ao = some ⟨g, 0, none⟩ ∧ w.heap[g]? = some (.cells cur t (0, 0)) ∧ cur.size = cap * sz
/-- Its block. -/
def Bl (ao : Option Addr) (j : Nat) : Prop := ∃ a : Addr, ao = some a ∧ a.block = j

theorem scr_of {w : World} {B t sz n cap : Nat} {ao : Option Addr} {xs : List Value} (h : w.ownsRow B t sz (.slice ao n cap) n xs) : Scr w ao cap t sz ∧ cap ≤ maxLen ∧ n ≤ cap ∧ (∀ j, Bl ao j → B ≤ j ∧ j < w.heap.size) ∧ (ao = none → cap = 0) := by
  rcases h.2 with ⟨hv, h0⟩ | ⟨g, cap', cur, hv, hB, hb, h1, h2, h3, _⟩
  · cases hv
    exact ⟨Or.inl rfl, Nat.zero_le _, Nat.le_refl _, (fun j ⟨a, ha, _⟩ => by cases ha), fun _ => rfl⟩
  · cases hv
    refine ⟨Or.inr ⟨g, cur, rfl, hb, h3⟩, h2, h1, fun j ⟨a, ha, hj⟩ => ?_, fun h => by cases h⟩
    cases ha
    subst hj
    exact ⟨hB, (Array.getElem?_eq_some_iff.1 hb).1⟩

theorem Scr.upd {F : Nat → Prop} {w w' : World} {ao : Option Addr} {cap t sz : Nat} (h : Scr w ao cap t sz) (hu : Upd F w w') (hF : ∀ j, Bl ao j → ¬ F j) : Scr w' ao cap t sz := by
  rcases h with h | ⟨g, cur, rfl, hb, hs⟩
  · exact Or.inl h
  · refine Or.inr ⟨g, cur, rfl, ?_, hs⟩
    rw [hu.block g (Array.getElem?_eq_some_iff.1 hb).1 (hF g ⟨_, rfl, rfl⟩)]
    exact hb

theorem Scr.cells {w : World} {ao : Option Addr} {cap t sz k : Nat} (h : Scr w ao cap t sz) (hk : k < cap) : ∃ g, ao = some ⟨g, 0, none⟩ ∧ ∀ i, i < sz → (∃ v, w.cell? ⟨g, k * sz + i, none⟩ = some v) ∧ w.frozen? ⟨g, k * sz + i, none⟩ = false := by
  rcases h with h | ⟨g, cur, rfl, hb, hs⟩
  · omega
  · refine ⟨g, rfl, fun i hi => ?_⟩
    have hlt : k * sz + i < cur.size := by
      rw [hs]
      have : (k + 1) * sz ≤ cap * sz := Nat.mul_le_mul_right sz hk
      rw [Nat.add_mul, Nat.one_mul] at this
      omega
    refine ⟨⟨cur[k * sz + i], ?_⟩, ?_⟩
    · unfold World.cell?
      simp only [hb]
      simp [hlt]
    · unfold World.frozen?
      simp only [hb]
      simp

theorem Scr.setCell {w : World} {ao : Option Addr} {cap t sz : Nat} (h : Scr w ao cap t sz) (g o : Nat) (v : Value) : Scr (w.setCell ⟨g, o, none⟩ v) ao cap t sz := by
  rcases h with h | ⟨g', cur, rfl, hb, hs⟩
  · exact Or.inl h
  · by_cases e : g' = g
    · subst e
      have hg : g' < w.heap.size := (Array.getElem?_eq_some_iff.1 hb).1
      have : ∃ cur', (w.setCell ⟨g', o, none⟩ v).heap[g']? = some (.cells cur' t (0, 0)) ∧ cur'.size = cur.size := by
        unfold World.setCell
        simp only [Array.getElem?_modify, hb]
        simp
      obtain ⟨cur', h1, h2⟩ := this
      exact Or.inr ⟨g', cur', rfl, h1, by rw [h2]; exact hs⟩
    · refine Or.inr ⟨g', cur, rfl, ?_, hs⟩
      rw [Below.heap_setCell _ _ _ _ e]
      exact hb

end Go.Proofs.YtlhoikmgeafgbaaGreatDoor
