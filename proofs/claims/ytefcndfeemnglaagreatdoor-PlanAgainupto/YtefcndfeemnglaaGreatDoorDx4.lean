/- goings of package delta: what goes, in whatever order the map is gone through. Conditions: sizes. -/
import Derived.Test.YtefcndfeemnglaaGreatDoorDx3
namespace Go.Proofs.YtefcndfeemnglaaGreatDoor
open Go.RowKit Go.Maps Go.WideMaps Go.WideElems Dk
set_option maxRecDepth 100000

theorem below_grown {w w' : World} (h : Below w.heap.size w w') : w.grownBy w' none := ⟨h.os, h.tape, h.output, h.size, fun k hk _ => h.block k hk⟩

theorem grown_pre {a b c : World} {row : Option Nat} (h : Below a.heap.size a b) (hg : b.grownBy c row) : a.grownBy c row :=
  ⟨hg.os.trans h.os, hg.tape.trans h.tape, hg.output.trans h.output, Nat.le_trans h.size hg.size, fun k hk hn => (hg.block k (Nat.lt_of_lt_of_le hk h.size) hn).trans (h.block k hk)⟩

theorem OwnDe.lt {w : World} {B : Nat} {v : Value} {ds : List De} (h : OwnDe w B v ds) {k : Nat} (hk : v.ownBlock = some k) : k < w.heap.size ∧ B ≤ k := row_lt h hk

theorem OwnDe.grown {w w' : World} {B : Nat} {v : Value} {ds : List De} (h : OwnDe w B v ds) {row : Option Nat} (hg : w.grownBy w' row) (hr : ∀ k, v.ownBlock = some k → row ≠ some k) : OwnDe w' B v ds := by
  refine World.ownsRow.kept h hg ?_
  cases hv : v.ownBlock with
  | none => exact .inl rfl
  | some k => exact .inr fun e => hr k hv e.symm

theorem OwnDe.below {w w' : World} {B : Nat} {v : Value} {ds : List De} (h : OwnDe w B v ds) (hb : Below w.heap.size w w') : OwnDe w' B v ds := h.grown (below_grown hb) (fun _ _ e => by cases e)

theorem OwnDe.base {w : World} {B C : Nat} {v : Value} {ds : List De} (h : OwnDe w B v ds) (hb : C ≤ B) : OwnDe w C v ds := by
  obtain ⟨h1, h2⟩ := h
  refine ⟨h1, ?_⟩
  rcases h2 with h2 | ⟨g', cap', cur', hv, hb', r⟩
  · exact Or.inl h2
  · exact Or.inr ⟨g', cap', cur', hv, Nat.le_trans hb hb', r⟩

theorem OwnDe.snoc {w : World} {B : Nat} {v : Value} {ds : List De} {x : De} (h : w.ownsRow B 32 3 v (ds.length + 1) (ds.flatMap encE ++ [.int .i64 x.kd, .string x.pa, .string x.da])) : OwnDe w B v (ds ++ [x]) := by
  unfold OwnDe
  rw [List.length_append, List.flatMap_append]
  simpa [encE] using h

theorem lG_len (M l : List Fl) : (lG M l).length ≤ l.length := by unfold lG; rw [List.length_map]; exact List.length_filter_le _ _

theorem lC_len (M l : List Fl) : (lC M l).length ≤ l.length := by unfold lC; rw [List.length_map]; exact List.length_filter_le _ _

theorem news_deed (w : World) (k : Int) (p t : ByteArray) : ∀ j u, [Value.int .i64 k, .string p, .string t][j]? = some u → (w.alloc (.cells #[.int .i64 k, .string p, .string t] 32)).cell? ((⟨w.heap.size, 0, none⟩ : Addr).add j) = some u :=
  World.news_of_block (cs := #[.int .i64 k, .string p, .string t]) (t := 32) (fr := (0, 0)) (by show (w.heap.push _)[w.heap.size]? = _; rw [Array.getElem?_push, if_pos rfl])

end Go.Proofs.YtefcndfeemnglaaGreatDoor
