/- Worlds with versions at known blocks, and one of these blocks that may be written (a result's). -/
import Derived.Test.YtkmgfemhfibikaaGreatDoorBoxes
namespace Go.Proofs.YtkmgfemhfibikaaGreatDoor
open Go.RowKit
set_option maxRecDepth 100000

def OKr (w : World) (N : Nat) (bs : List Bx) (w1 : World) : Prop := OKs w bs w1 ∧ w1.frozen? ⟨N, 0, none⟩ = false ∧ w1.frozen? ⟨N, 1, none⟩ = false ∧ w1.frozen? ⟨N, 2, none⟩ = false ∧ N < w1.heap.size

theorem OKr.below {w : World} {N : Nat} {bs : List Bx} {w1 w' : World} (h : OKr w N bs w1) (hb : Below w1.heap.size w1 w') : OKr w N bs w' :=
  ⟨h.1.below hb, (hb.frozen (p := ⟨N, 0, none⟩) h.2.2.2.2).trans h.2.1, (hb.frozen (p := ⟨N, 1, none⟩) h.2.2.2.2).trans h.2.2.1, (hb.frozen (p := ⟨N, 2, none⟩) h.2.2.2.2).trans h.2.2.2.1, Nat.lt_of_lt_of_le h.2.2.2.2 hb.size⟩
theorem OKr.drew {w : World} {N : Nat} {bs : List Bx} {w1 : World} (h : OKr w N bs w1) : OKr w N bs w1.drew := ⟨h.1.drew, h.2⟩
theorem OKr.box {w : World} {N : Nat} {bs : List Bx} {w1 : World} (h : OKr w N bs w1) {M : Nat} (hM : w1.heap.size = M) (x y z : Value) : OKr w N (⟨M, x, y, z⟩ :: bs) (w1.alloc (.cells #[x, y, z] 35)) := by
  have := h.below (boxB w1 (.cells #[x, y, z] 35))
  exact ⟨h.1.box hM x y z, this.2⟩
theorem OKr.start {w : World} {bs : List Bx} {w1 : World} (h : OKs w bs w1) {M : Nat} (hM : w1.heap.size = M) (x y z : Value) : OKr w M (⟨M, x, y, z⟩ :: bs) (w1.alloc (.cells #[x, y, z] 35)) := by
  refine ⟨h.box hM x y z, ?_⟩
  subst hM
  refine ⟨?_, ?_, ?_, ?_⟩
  · simp
  · simp
  · simp
  · show w1.heap.size < (w1.alloc _).heap.size
    simp

theorem liftr {P : Program} {f : Nat} {args : Array Value} {R : Ending} {w : World} (h : ∀ w1, Below w.heap.size w w1 → Calls P f args w1 fun e w' => e = R ∧ Below w1.heap.size w1 w') {N : Nat} {bs : List Bx} (w1 : World) (ok : OKr w N bs w1) :
    Calls P f args w1 fun e w' => e = R ∧ OKr w N bs w' := by
  refine (h w1 ok.1.1).mono ?_
  rintro e w' ⟨rfl, hb⟩
  exact ⟨rfl, ok.below hb⟩
end Go.Proofs.YtkmgfemhfibikaaGreatDoor
