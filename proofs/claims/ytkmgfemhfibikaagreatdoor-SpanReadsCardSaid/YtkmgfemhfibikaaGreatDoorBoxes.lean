/- Worlds in which some versions lie at known blocks: what a call that writes new blocks alone leaves of them. -/
import Derived.Test.YtkmgfemhfibikaaGreatDoorVers2
namespace Go.Proofs.YtkmgfemhfibikaaGreatDoor
open Go.RowKit
set_option maxRecDepth 100000

/-- A block and the three values that lie there. -/
structure Bx where
  n : Nat
  x : Value
  y : Value
  z : Value

/-- What lies in one box. -/
def BxAt (w1 : World) (q : Bx) : Prop := w1.cell? ⟨q.n, 0, none⟩ = some q.x ∧ w1.cell? ⟨q.n, 1, none⟩ = some q.y ∧ w1.cell? ⟨q.n, 2, none⟩ = some q.z ∧ q.n < w1.heap.size

/-- Nothing old has turned, and the boxes lie there. -/
def OKs (w : World) (bs : List Bx) (w1 : World) : Prop := Below w.heap.size w w1 ∧ ∀ q ∈ bs, BxAt w1 q

theorem BxAt.below {w1 w' : World} {q : Bx} (h : BxAt w1 q) (hb : Below w1.heap.size w1 w') : BxAt w' q := keepV hb h.2.2.2 h.1 h.2.1 h.2.2.1

theorem OKs.drew {w : World} {bs : List Bx} {w1 : World} (h : OKs w bs w1) : OKs w bs w1.drew := ⟨h.1.drew, fun q hq => h.2 q hq⟩
theorem OKs.draws {w : World} {bs : List Bx} {w1 : World} (h : OKs w bs w1) (n : Nat) : OKs w bs (w1.drewN n) := ⟨below_draws h.1 n, fun q hq => h.2 q hq⟩
theorem OKs.below {w : World} {bs : List Bx} {w1 w' : World} (h : OKs w bs w1) (hb : Below w1.heap.size w1 w') : OKs w bs w' := ⟨below_then h.1 hb, fun q hq => (h.2 q hq).below hb⟩
theorem OKs.nil (w : World) : OKs w [] w := ⟨Below.refl _ _, fun q hq => by cases hq⟩
theorem OKs.box {w : World} {bs : List Bx} {w1 : World} (h : OKs w bs w1) {N : Nat} (hN : w1.heap.size = N) (x y z : Value) : OKs w (⟨N, x, y, z⟩ :: bs) (w1.alloc (.cells #[x, y, z] 35)) := by
  subst hN
  refine ⟨below_then h.1 (boxB _ _), fun q hq => ?_⟩
  rcases List.mem_cons.1 hq with rfl | hq
  · refine ⟨?_, ?_, ?_, ?_⟩
    · simp
    · simp
    · simp
    · show w1.heap.size < (w1.alloc _).heap.size
      simp
  · exact (h.2 q hq).below (boxB _ _)
theorem OKs.put {w : World} {bs : List Bx} {w1 : World} {N : Nat} {x y z : Value} (h : OKs w (⟨N, x, y, z⟩ :: bs) w1) (hN : w.heap.size ≤ N) (hd : ∀ q ∈ bs, q.n ≠ N) (u v t : Value) :
    OKs w (⟨N, u, v, t⟩ :: bs) (((w1.setCell ⟨N, 0, none⟩ u).setCell ⟨N, 1, none⟩ v).setCell ⟨N, 2, none⟩ t) := by
  refine ⟨((h.1.setCell hN _).setCell hN _).setCell hN _, fun q hq => ?_⟩
  obtain ⟨j0, j1, j2, j3⟩ := h.2 _ (List.mem_cons_self)
  rcases List.mem_cons.1 hq with rfl | hq
  · have k1 : (w1.setCell ⟨N, 0, none⟩ u).cell? ⟨N, 1, none⟩ = some y := (World.cell?_setCell_other _ _ _ _ (by simp)).trans j1
    have k2 : ((w1.setCell ⟨N, 0, none⟩ u).setCell ⟨N, 1, none⟩ v).cell? ⟨N, 2, none⟩ = some z := (World.cell?_setCell_other _ _ _ _ (by simp)).trans ((World.cell?_setCell_other _ _ _ _ (by simp)).trans j2)
    refine ⟨?_, ?_, ?_, by simpa using j3⟩
    · rw [World.cell?_setCell_other _ _ _ _ (by simp), World.cell?_setCell_other _ _ _ _ (by simp)]; exact World.cell?_setCell_same _ _ _ j0
    · rw [World.cell?_setCell_other _ _ _ _ (by simp)]; exact World.cell?_setCell_same _ _ _ k1
    · exact World.cell?_setCell_same _ _ _ k2
  · obtain ⟨i0, i1, i2, i3⟩ := h.2 q (List.mem_cons_of_mem _ hq)
    have hne := hd q hq
    have far : ∀ o s, (⟨N, o, none⟩ : Addr) ≠ ⟨q.n, s, none⟩ := fun o s e => hne (by injection e with e1; exact e1.symm)
    refine ⟨?_, ?_, ?_, by simpa using i3⟩
    · rw [World.cell?_setCell_other _ _ _ _ (far _ _), World.cell?_setCell_other _ _ _ _ (far _ _), World.cell?_setCell_other _ _ _ _ (far _ _)]; exact i0
    · rw [World.cell?_setCell_other _ _ _ _ (far _ _), World.cell?_setCell_other _ _ _ _ (far _ _), World.cell?_setCell_other _ _ _ _ (far _ _)]; exact i1
    · rw [World.cell?_setCell_other _ _ _ _ (far _ _), World.cell?_setCell_other _ _ _ _ (far _ _), World.cell?_setCell_other _ _ _ _ (far _ _)]; exact i2

/-- A call that writes new blocks alone, from a world with boxes. -/
theorem lift {P : Program} {f : Nat} {args : Array Value} {R : Ending} (h : ∀ w1, Calls P f args w1 fun e w' => e = R ∧ Below w1.heap.size w1 w') {w : World} {bs : List Bx} (w1 : World) (ok : OKs w bs w1) :
    Calls P f args w1 fun e w' => e = R ∧ OKs w bs w' := by
  refine (h w1).mono ?_
  rintro e w' ⟨rfl, hb⟩
  exact ⟨rfl, ok.below hb⟩

theorem OKs.one {w : World} {q : Bx} {bs : List Bx} {w1 : World} (h : OKs w (q :: bs) w1) : BxAt w1 q := h.2 q List.mem_cons_self
theorem OKs.two {w : World} {q r : Bx} {bs : List Bx} {w1 : World} (h : OKs w (q :: r :: bs) w1) : BxAt w1 r := h.2 r (by simp)
theorem OKs.three {w : World} {q r s : Bx} {bs : List Bx} {w1 : World} (h : OKs w (q :: r :: s :: bs) w1) : BxAt w1 s := h.2 s (by simp)
theorem OKs.four {w : World} {q r s t : Bx} {bs : List Bx} {w1 : World} (h : OKs w (q :: r :: s :: t :: bs) w1) : BxAt w1 t := h.2 t (by simp)
theorem OKs.five {w : World} {q r s t u : Bx} {bs : List Bx} {w1 : World} (h : OKs w (q :: r :: s :: t :: u :: bs) w1) : BxAt w1 u := h.2 u (by simp)
theorem OKs.six {w : World} {q r s t u v : Bx} {bs : List Bx} {w1 : World} (h : OKs w (q :: r :: s :: t :: u :: v :: bs) w1) : BxAt w1 v := h.2 v (by simp)
theorem OKs.seven {w : World} {q r s t u v x : Bx} {bs : List Bx} {w1 : World} (h : OKs w (q :: r :: s :: t :: u :: v :: x :: bs) w1) : BxAt w1 x := h.2 x (by simp)
end Go.Proofs.YtkmgfemhfibikaaGreatDoor
