/- Ranges in memory by their places: what the walk of cut is told. -/
import Derived.Test.YtkmgfemhfibikaaGreatDoorSp3
import Derived.Test.YtkmgfemhfibikaaGreatDoorPure1
import Derived.Maps.AppendAt
namespace Go.Proofs.YtkmgfemhfibikaaGreatDoor
open Go.RowKit
set_option maxRecDepth 100000

/-- The span from one place to another. -/
def spR (p : Int × Int) : Sp := ⟨atA p.1, atB p.1, atC p.1, atA p.2, atB p.2, atC p.2⟩
/-- A place that is one. -/
def okR (n : Int) : Prop := 0 ≤ n ∧ n ≤ 999999999
def okP2 (p : Int × Int) : Prop := okR p.1 ∧ okR p.2 ∧ p.1 ≤ p.2

theorem okR.has {n : Int} (h : okR n) : hasV n = true := by unfold hasV; simp; unfold okR at h; omega

/-- How two places compare. -/
theorem cmp_at {r s : Int} (hr : okR r) (hs : okR s) : (cmpV (atA r) (atB r) (atC r) (atA s) (atB s) (atC s) < 0 ↔ r < s) ∧ (0 < cmpV (atA r) (atB r) (atC r) (atA s) (atB s) (atC s) ↔ s < r) := by
  obtain ⟨m1, e1⟩ := may_at hr.has
  obtain ⟨m2, e2⟩ := may_at hs.has
  have h1 := cmp_rank m1 m2
  have h2 := cmp_rank m2 m1
  rw [e1, e2] at h1
  rw [e1, e2] at h2
  refine ⟨h1, ?_⟩
  rw [← h2, cmp_neg (atA s)]
  omega

theorem Compare_at {r s : Int} (hr : okR r) (hs : okR s) : ∃ q : Int, (q < 0 ↔ r < s) ∧ (0 < q ↔ s < r) ∧ ∀ w1, Calls Tryz.prog 34 #[.agg #[.int .i64 (atA r), .int .i64 (atB r), .int .i64 (atC r)], .agg #[.int .i64 (atA s), .int .i64 (atB s), .int .i64 (atC s)]] w1 fun e w' => e = .returned (.int .i64 q) ∧ Below w1.heap.size w1 w' :=
  ⟨_, (cmp_at hr hs).1, (cmp_at hr hs).2, Compare_any _ _ _ _ _ _⟩

theorem Next_at {r : Int} (h0 : 0 ≤ r) (h1 : r < 999999999) : ∀ w1, Calls Tryz.prog 36 #[.agg #[.int .i64 (atA r), .int .i64 (atB r), .int .i64 (atC r)]] w1 fun e w' => e = .returned (.tuple #[.agg #[.int .i64 (atA (r + 1)), .int .i64 (atB (r + 1)), .int .i64 (atC (r + 1))], .bool true]) ∧ Below w1.heap.size w1 w' := by
  obtain ⟨m, e⟩ := may_at (n := r) (okR.has ⟨h0, by omega⟩)
  have := Next_any (atA r) (atB r) (atC r)
  obtain ⟨e1, e2, e3⟩ := on_at (k := 1) m
  rw [e1, e2, e3, next_is m, e, decide_eq_true h1] at this
  exact this

theorem Prev_at {r : Int} (h0 : 0 < r) (h1 : r ≤ 999999999) : ∀ w1, Calls Tryz.prog 35 #[.agg #[.int .i64 (atA r), .int .i64 (atB r), .int .i64 (atC r)]] w1 fun e w' => e = .returned (.tuple #[.agg #[.int .i64 (atA (r - 1)), .int .i64 (atB (r - 1)), .int .i64 (atC (r - 1))], .bool true]) ∧ Below w1.heap.size w1 w' := by
  obtain ⟨m, e⟩ := may_at (n := r) (okR.has ⟨by omega, by omega⟩)
  have := Prev_any (atA r) (atB r) (atC r)
  obtain ⟨e1, e2, e3⟩ := on_at (k := -1) m
  rw [e1, e2, e3, prev_is m, e, decide_eq_true h0] at this
  exact this

/-- A range lies in memory, by its places. -/
def SpansR (w : World) (v : Value) (L : Rg) : Prop := ∃ ad cap, v = .slice ad L.length cap ∧ L.length ≤ cap ∧ (L = [] ∨ ∃ g o, ad = some ⟨g, o, none⟩ ∧ g < w.heap.size ∧ ∀ i (h : i < L.length), SpAt w g (o + i * 6) (spR L[i]))

theorem SpansR.below {w w' : World} {v : Value} {L : Rg} (h : SpansR w v L) (hb : Below w.heap.size w w') : SpansR w' v L := by
  obtain ⟨ad, cap, hv, hc, hl⟩ := h
  refine ⟨ad, cap, hv, hc, hl.imp id ?_⟩
  rintro ⟨g, o, ha, hg, hs⟩
  exact ⟨g, o, ha, Nat.lt_of_lt_of_le hg hb.size, fun i hi => (hs i hi).below hb hg⟩

/-- The same, of a world that is as another one in its old blocks. -/
theorem SpansR.since {w w' : World} {v : Value} {L : Rg} {B : Nat} (h : SpansR w v L) (hB : w.heap.size ≤ B) (hb : Below B w w') : SpansR w' v L := h.below (hb.mono hB)

theorem SpansR.tail {w : World} {g o cap : Nat} {p : Int × Int} {B : Rg} (h : SpansR w (.slice (some ⟨g, o, none⟩) (p :: B).length cap) (p :: B)) : SpansR w (.slice (if cap = 1 then some ⟨g, o, none⟩ else some ⟨g, o + 6, none⟩) B.length (cap - 1)) B := by
  obtain ⟨ad, cap', hv, hc, hl⟩ := h
  cases hv
  rcases hl with hl | ⟨g', o', hq, hg, hs⟩
  · cases hl
  cases hq
  simp only [List.length_cons] at hc
  refine ⟨_, _, rfl, by omega, ?_⟩
  by_cases h1 : cap = 1
  · left
    exact List.eq_nil_of_length_eq_zero (by omega)
  · right
    refine ⟨g, o + 6, by rw [if_neg h1], hg, fun i hi => ?_⟩
    have := hs (i + 1) (by simp; omega)
    simp only [List.getElem_cons_succ] at this
    have e : o + (i + 1) * 6 = o + 6 + i * 6 := by omega
    rw [e] at this
    exact this

/-- A span's variable that may be written. -/
def Bx6F (w : World) (N : Nat) (a b c x y z : Int) : Prop := Bx6 w N a b c x y z ∧ w.frozen? ⟨N, 0, none⟩ = false ∧ w.frozen? ⟨N, 1, none⟩ = false ∧ w.frozen? ⟨N, 2, none⟩ = false

theorem Bx6F.new {w : World} {N : Nat} (hN : w.heap.size = N) (a b c x y z : Int) : Bx6F (w.alloc (.cells #[.int .i64 a, .int .i64 b, .int .i64 c, .int .i64 x, .int .i64 y, .int .i64 z] 37)) N a b c x y z := by
  refine ⟨Bx6.new hN _ _ _ _ _ _, ?_⟩
  subst hN
  refine ⟨?_, ?_, ?_⟩ <;> simp
theorem Bx6F.below {w w' : World} {N : Nat} {a b c x y z : Int} (h : Bx6F w N a b c x y z) (hb : Below w.heap.size w w') : Bx6F w' N a b c x y z := by
  obtain ⟨h0, h1, h2, h3⟩ := h
  have hl := h0.2.2.2.2.2.2
  exact ⟨h0.below hb, (hb.frozen (p := ⟨N, 0, none⟩) hl).trans h1, (hb.frozen (p := ⟨N, 1, none⟩) hl).trans h2, (hb.frozen (p := ⟨N, 2, none⟩) hl).trans h3⟩
theorem keep6F (N : Nat) (a b c x y z : Int) : KeepP fun w1 => Bx6F w1 N a b c x y z := fun _ _ h hb => h.below hb

theorem Bx6F.put {w : World} {N : Nat} {a b c x y z : Int} (h : Bx6F w N a b c x y z) (p q r : Int) : Bx6F (((w.setCell ⟨N, 0, none⟩ (.int .i64 p)).setCell ⟨N, 1, none⟩ (.int .i64 q)).setCell ⟨N, 2, none⟩ (.int .i64 r)) N p q r x y z := by
  obtain ⟨⟨h0, h1, h2, h3, h4, h5, h6⟩, f0, f1, f2⟩ := h
  have k1 : ∀ u, (w.setCell ⟨N, 0, none⟩ u).cell? ⟨N, 1, none⟩ = some (.int .i64 b) := fun u => (World.cell?_setCell_other _ _ _ _ (by simp)).trans h1
  have k2 : ∀ u v, ((w.setCell ⟨N, 0, none⟩ u).setCell ⟨N, 1, none⟩ v).cell? ⟨N, 2, none⟩ = some (.int .i64 c) := fun u v => (World.cell?_setCell_other _ _ _ _ (by simp)).trans ((World.cell?_setCell_other _ _ _ _ (by simp)).trans h2)
  have far : ∀ i, 2 < i → (((w.setCell ⟨N, 0, none⟩ (.int .i64 p)).setCell ⟨N, 1, none⟩ (.int .i64 q)).setCell ⟨N, 2, none⟩ (.int .i64 r)).cell? ⟨N, i, none⟩ = w.cell? ⟨N, i, none⟩ := fun i hi => by
    rw [World.cell?_setCell_other _ _ _ _ (fun e => by cases e; omega), World.cell?_setCell_other _ _ _ _ (fun e => by cases e; omega), World.cell?_setCell_other _ _ _ _ (fun e => by cases e; omega)]
  refine ⟨⟨?_, ?_, ?_, ?_, ?_, ?_, by simpa using h6⟩, ?_, ?_, ?_⟩
  · rw [World.cell?_setCell_other _ _ _ _ (by simp), World.cell?_setCell_other _ _ _ _ (by simp)]; exact World.cell?_setCell_same _ _ _ h0
  · rw [World.cell?_setCell_other _ _ _ _ (by simp)]; exact World.cell?_setCell_same _ _ _ (k1 _)
  · exact World.cell?_setCell_same _ _ _ (k2 _ _)
  · rw [far 3 (by omega)]; exact h3
  · rw [far 4 (by omega)]; exact h4
  · rw [far 5 (by omega)]; exact h5
  · rw [World.frozen?_setCell, World.frozen?_setCell, World.frozen?_setCell]; exact f0
  · rw [World.frozen?_setCell, World.frozen?_setCell, World.frozen?_setCell]; exact f1
  · rw [World.frozen?_setCell, World.frozen?_setCell, World.frozen?_setCell]; exact f2

/-- The cells of spans. -/
def spCells (L : List Sp) : List Value := L.flatMap fun s => [.int .i64 s.a, .int .i64 s.b, .int .i64 s.c, .int .i64 s.x, .int .i64 s.y, .int .i64 s.z]
theorem spCells_snoc (L : List Sp) (s : Sp) : spCells (L ++ [s]) = spCells L ++ [.int .i64 s.a, .int .i64 s.b, .int .i64 s.c, .int .i64 s.x, .int .i64 s.y, .int .i64 s.z] := by simp [spCells]
theorem spCells_length (L : List Sp) : (spCells L).length = L.length * 6 := by
  induction L with
  | nil => rfl
  | cons r L ih => unfold spCells at *; simp only [List.flatMap_cons, List.length_append, List.length_cons, List.length_nil, ih]; omega

/-- A row of spans of one's own. -/
def OwnS (w : World) (B : Nat) (v : Value) (L : List Sp) : Prop := w.ownsRow B 37 6 v L.length (spCells L)

theorem OwnS.nil (w : World) (B : Nat) : OwnS w B (.slice none 0 0) [] := ⟨rfl, Or.inl ⟨rfl, rfl⟩⟩

theorem OwnS.lt {w : World} {B : Nat} {v : Value} {L : List Sp} (h : OwnS w B v L) {g : Nat} (hg : v.ownBlock = some g) : g < w.heap.size ∧ B ≤ g := by
  rcases h.2 with ⟨rfl, _⟩ | ⟨g', cap, cur, rfl, hB, hgg, _⟩
  · cases hg
  · cases hg
    exact ⟨by rw [Array.getElem?_eq_some_iff] at hgg; exact hgg.1, hB⟩

theorem OwnS.of_block {w w' : World} {B : Nat} {v : Value} {L : List Sp} (h : OwnS w B v L) (hk : ∀ g, v.ownBlock = some g → w'.heap[g]? = w.heap[g]?) : OwnS w' B v L := by
  refine ⟨h.1, ?_⟩
  rcases h.2 with hn | ⟨g, cap, cur, rfl, hB, hgg, r⟩
  · exact Or.inl hn
  · exact Or.inr ⟨g, cap, cur, rfl, hB, (hk g rfl).trans hgg, r⟩

theorem OwnS.below {w w' : World} {B : Nat} {v : Value} {L : List Sp} (h : OwnS w B v L) (hb : Below w.heap.size w w') : OwnS w' B v L := h.of_block fun g hg => hb.block g (h.lt hg).1
theorem keepOwn (B : Nat) (v : Value) (L : List Sp) : KeepP fun w1 => OwnS w1 B v L := fun _ _ h hb => h.below hb

theorem OwnS.set {w : World} {B N : Nat} {v : Value} {L : List Sp} (h : OwnS w B v L) (hN : v.ownBlock ≠ some N) (i : Nat) (u : Value) : OwnS (w.setCell ⟨N, i, none⟩ u) B v L := h.of_block fun g hg => by
  have hne : N ≠ g := fun e => hN (by rw [e]; exact hg)
  exact Below.heap_setCell _ _ _ _ (Ne.symm hne)

/-- What a row's growing leaves of a span's variable. -/
theorem Bx6F.grown {w w' : World} {N : Nat} {a b c x y z : Int} {row : Option Nat} (h : Bx6F w N a b c x y z) (hg : w.grownBy w' row) (hN : row ≠ some N) : Bx6F w' N a b c x y z := by
  obtain ⟨⟨h0, h1, h2, h3, h4, h5, h6⟩, f0, f1, f2⟩ := h
  have hbl := hg.block N h6 (fun e => hN e.symm)
  have q : ∀ i, w'.cell? ⟨N, i, none⟩ = w.cell? ⟨N, i, none⟩ := fun i => World.cell?_of_block (w := w) hbl
  have r : ∀ i, w'.frozen? ⟨N, i, none⟩ = w.frozen? ⟨N, i, none⟩ := fun i => World.frozen?_of_block (w := w) hbl
  exact ⟨⟨by rw [q]; exact h0, by rw [q]; exact h1, by rw [q]; exact h2, by rw [q]; exact h3, by rw [q]; exact h4, by rw [q]; exact h5, Nat.lt_of_lt_of_le h6 hg.size⟩, by rw [r]; exact f0, by rw [r]; exact f1, by rw [r]; exact f2⟩
theorem Bx6.grown {w w' : World} {N : Nat} {a b c x y z : Int} {row : Option Nat} (h : Bx6 w N a b c x y z) (hg : w.grownBy w' row) (hN : row ≠ some N) : Bx6 w' N a b c x y z := by
  obtain ⟨h0, h1, h2, h3, h4, h5, h6⟩ := h
  have hbl := hg.block N h6 (fun e => hN e.symm)
  have q : ∀ i, w'.cell? ⟨N, i, none⟩ = w.cell? ⟨N, i, none⟩ := fun i => World.cell?_of_block (w := w) hbl
  exact ⟨by rw [q]; exact h0, by rw [q]; exact h1, by rw [q]; exact h2, by rw [q]; exact h3, by rw [q]; exact h4, by rw [q]; exact h5, Nat.lt_of_lt_of_le h6 hg.size⟩
end Go.Proofs.YtkmgfemhfibikaaGreatDoor
