/- MaA, laid in one text. -/
import Derived.Test.YtjfbgiajjkjghaaGreatDoorMg14
namespace Go.Proofs.YtjfbgiajjkjghaaGreatDoor
open Go.RowKit
set_option maxRecDepth 100000

theorem parM_written {t : ByteArray} (h : parME t = 0) : writtenMB (parMP t) = true := by
  unfold parME at h
  unfold parMP
  split at h
  · split at h
    · split at h
      · assumption
      · cases h
    · rename_i h1 h2; exact absurd h h2
  · rename_i h1; exact absurd h h1
/-- A row that is there, whatever lies in it. -/
def RowM (w : World) (B : Nat) (e : TypeId) (z : Nat) (v : Value) (n : Nat) : Prop := ∃ xs, w.ownsRow B e z v n xs
theorem own_headM {w : World} {B : Nat} {e : TypeId} {z : Nat} {v : Value} {n : Nat} {xs : List Value} (h : w.ownsRow B e z v n xs) {N : Nat} (hN : v.ownBlock = some N) : ∃ cap, v = .slice (some ⟨N, 0, none⟩) n cap := by
  rcases h.2 with ⟨rfl, _⟩ | ⟨g, cap, cur, rfl, _⟩
  · cases hN
  · cases hN
    exact ⟨cap, rfl⟩
theorem RowM.set {w : World} {B : Nat} {e : TypeId} {z : Nat} {v : Value} {n : Nat} (h : RowM w B e z v n) (N j : Nat) (u : Value) : RowM (w.setCell ⟨N, j, none⟩ u) B e z v n := by
  obtain ⟨xs, hx⟩ := h
  by_cases hN : v.ownBlock = some N
  · obtain ⟨cap, rfl⟩ := own_headM hx hN
    exact ⟨_, (hx.stored j u).1⟩
  · exact ⟨xs, own_of hx fun g hg => Below.heap_setCell _ _ _ _ fun (e2 : g = N) => hN (by rw [← e2]; exact hg)⟩
/-- What the loops of ManifestAgain keep: all that stood ahead of the second manifest (w5), its variable, its list's row, its ranges' rows. -/
def InvM (w5 : World) (Nq : Nat) (u1 u2 u3 u4 : Value) (ps : List (Dp × Value)) (w : World) : Prop :=
  Below w5.heap.size w5 w ∧ BxM w Nq u1 u2 u3 u4 ∧ w.ownsRow w5.heap.size 36 2 u4 ps.length (dpCells ps) ∧ ∀ p ∈ ps, RowM w w5.heap.size 40 6 p.2 p.1.rg.length
theorem InvM.cell {w5 : World} {Nq : Nat} {u1 u2 u3 u4 : Value} {ps : List (Dp × Value)} {w : World} (h : InvM w5 Nq u1 u2 u3 u4 ps w) {i : Nat} (hi : i < ps.length) :
    ∃ g cap, u4 = .slice (some ⟨g, 0, none⟩) ps.length cap ∧ w.cell? ⟨g, i * 2, none⟩ = some (.string ps[i].1.nm) ∧ w.cell? ⟨g, i * 2 + 1, none⟩ = some ps[i].2 := by
  obtain ⟨_, _, hx, _⟩ := h
  obtain ⟨h1, h2⟩ := dpCells_at ps i hi
  have hlt := hx.1
  rcases hx.2 with ⟨_, hn⟩ | ⟨g, cap, cur, rfl, hB, _⟩
  · omega
  · refine ⟨g, cap, rfl, ?_, ?_⟩
    · rw [hx.cellAt (i * 2) (by omega)]; exact h1
    · rw [hx.cellAt (i * 2 + 1) (by omega)]; exact h2
theorem InvM.span {w5 : World} {Nq : Nat} {u1 u2 u3 u4 : Value} {ps : List (Dp × Value)} {w : World} (h : InvM w5 Nq u1 u2 u3 u4 ps w) {p : Dp × Value} (hp : p ∈ ps) {k : Nat} (hk : k < p.1.rg.length) :
    ∃ g cap, p.2 = .slice (some ⟨g, 0, none⟩) p.1.rg.length cap ∧ ∀ j, j < 6 → (∃ x, w.cell? ⟨g, k * 6 + j, none⟩ = some x) ∧ w.frozen? ⟨g, k * 6 + j, none⟩ = false := by
  obtain ⟨xs, hx⟩ := h.2.2.2 p hp
  have hl := hx.1
  rcases hx.2 with ⟨_, hn⟩ | ⟨g, cap, cur, e, hB, _⟩
  · omega
  · rw [e] at hx
    refine ⟨g, cap, e, fun j hj => ⟨?_, hx.frozenAt _⟩⟩
    rw [hx.cellAt (k * 6 + j) (by omega), List.getElem?_eq_getElem (by omega)]
    exact ⟨_, rfl⟩
theorem bxm_set {w : World} {N M j : Nat} {v1 v2 v3 v4 u : Value} (h : BxM w N v1 v2 v3 v4) (hN : M ≠ N) : BxM (w.setCell ⟨M, j, none⟩ u) N v1 v2 v3 v4 := by
  obtain ⟨h0, h1, h2, h3, h4⟩ := h
  have q : ∀ i, (w.setCell ⟨M, j, none⟩ u).cell? ⟨N, i, none⟩ = w.cell? ⟨N, i, none⟩ := fun i => World.cell?_of_block (a := ⟨N, i, none⟩) (Below.heap_setCell _ _ _ _ (fun e => hN e.symm))
  exact ⟨by rw [q]; exact h0, by rw [q]; exact h1, by rw [q]; exact h2, by rw [q]; exact h3, by simpa using h4⟩
theorem InvM.setS {w5 : World} {Nq : Nat} {u1 u2 u3 u4 : Value} {ps : List (Dp × Value)} {w : World} (h : InvM w5 Nq u1 u2 u3 u4 ps w) {p : Dp × Value} (hp : p ∈ ps) {N : Nat} (hN : p.2.ownBlock = some N) (hq : N < Nq) (j : Nat) (u : Value) :
    InvM w5 Nq u1 u2 u3 u4 ps (w.setCell ⟨N, j, none⟩ u) := by
  obtain ⟨h1, h4, hx, h6⟩ := h
  obtain ⟨ys, hy⟩ := h6 p hp
  have hB := (hy.lt N hN).1
  refine ⟨h1.setCell (p := ⟨N, j, none⟩) hB _, bxm_set h4 (by omega), own_of hx fun g hg => Below.heap_setCell _ _ _ _ fun e => ?_, fun p' hp' => (h6 p' hp').set _ _ _⟩
  subst e
  exact own_ne hx hy (by decide) hg hN
end Go.Proofs.YtjfbgiajjkjghaaGreatDoor
