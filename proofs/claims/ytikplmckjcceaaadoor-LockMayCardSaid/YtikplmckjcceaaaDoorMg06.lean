/- Lk10, Lk11, Lk12, Lk13, Lk14, laid in one text. -/
import Derived.OneCell
import Derived.Test.YtikplmckjcceaaaDoorMg05
namespace Go.Proofs.YtikplmckjcceaaaDoor
open Go.RowKit
open Sc (KeepP hide3 keepBelow Bs ba WordsAt)
set_option maxRecDepth 100000

theorem own_of {w w' : World} {B : Nat} {e : TypeId} {z : Nat} {v : Value} {n : Nat} {xs : List Value} (h : w.ownsRow B e z v n xs) (hk : ∀ g, v.ownBlock = some g → w'.heap[g]? = w.heap[g]?) : w'.ownsRow B e z v n xs := by
  refine ⟨h.1, ?_⟩
  rcases h.2 with hn | ⟨g, cap, cur, rfl, hB, hgg, r⟩
  · exact Or.inl hn
  · exact Or.inr ⟨g, cap, cur, rfl, hB, (hk g rfl).trans hgg, r⟩
theorem own_below {w w' : World} {B : Nat} {e : TypeId} {z : Nat} {v : Value} {n : Nat} {xs : List Value} (h : w.ownsRow B e z v n xs) (hb : Below w.heap.size w w') : w'.ownsRow B e z v n xs := own_of h fun g hg => hb.block g (h.lt g hg).2
theorem own_ne {w : World} {B B' : Nat} {e e' : TypeId} {z z' : Nat} {v v' : Value} {n n' : Nat} {xs xs' : List Value} (h : w.ownsRow B e z v n xs) (h' : w.ownsRow B' e' z' v' n' xs') (hne : e ≠ e') {g : Nat} (hg : v.ownBlock = some g) : v'.ownBlock ≠ some g := by
  intro hg'
  rcases h.2 with ⟨rfl, _⟩ | ⟨g1, cap, cur, rfl, _, hgg, _⟩
  · cases hg
  · rcases h'.2 with ⟨rfl, _⟩ | ⟨g2, cap', cur', rfl, _, hgg', _⟩
    · cases hg'
    · cases hg
      cases hg'
      rw [hgg] at hgg'
      injection hgg' with e1
      injection e1 with _ e2 _
      exact hne e2
/-- Rows of different kinds share no block. -/
theorem own_apart {w : World} {B B' : Nat} {e e' : TypeId} {z z' : Nat} {v v' : Value} {n n' : Nat} {xs xs' : List Value} (h : w.ownsRow B e z v n xs) (h' : w.ownsRow B' e' z' v' n' xs') (hne : e ≠ e') : v.ownBlock = none ∨ v.ownBlock ≠ v'.ownBlock := by
  cases hv : v.ownBlock with
  | none => exact Or.inl rfl
  | some g => exact Or.inr fun e => own_ne h h' hne hv e.symm

/-- A node with the values of its lists. -/
structure NV where
  nd : Nd
  vc : Value
  ve : Value
def pnC (p : Pn) : List Value := [.string p.nm, .int .i64 p.a, .int .i64 p.b, .int .i64 p.c]
def egC (e : Eg) : List Value := [.string e.lb, .int .i64 e.to]
def ndC (x : NV) : List Value := [.string x.nd.nm, .int .i64 x.nd.a, .int .i64 x.nd.b, .int .i64 x.nd.c, x.vc, x.ve]
def OwnP (w : World) (B : Nat) (v : Value) (L : List Pn) : Prop := w.ownsRow B 42 4 v L.length (L.flatMap pnC)
def OwnE (w : World) (B : Nat) (v : Value) (L : List Eg) : Prop := w.ownsRow B 40 2 v L.length (L.flatMap egC)
def Apart (a b : Value) : Prop := a.ownBlock = none ∨ a.ownBlock ≠ b.ownBlock
/-- Nodes of one's own, in a row of one's own. -/
def RA (w : World) (B : Nat) (v : Value) (all : List NV) : Prop :=
  w.ownsRow B 38 6 v all.length (all.flatMap ndC) ∧ ∀ x ∈ all, OwnP w B x.vc x.nd.cx ∧ OwnE w B x.ve x.nd.ed
/-- The last one's lists lie apart from all other lists. -/
def LA (dn : List NV) (lt : NV) : Prop := ∀ x ∈ dn, Apart lt.vc x.vc ∧ Apart lt.ve x.ve
theorem RA.of {w w' : World} {B : Nat} {v : Value} {all : List NV} (h : RA w B v all) (hk : ∀ g, B ≤ g → g < w.heap.size → w'.heap[g]? = w.heap[g]?) : RA w' B v all :=
  ⟨own_of h.1 fun g hg => hk g (h.1.lt g hg).1 (h.1.lt g hg).2, fun x hx => ⟨own_of (h.2 x hx).1 fun g hg => hk g ((h.2 x hx).1.lt g hg).1 ((h.2 x hx).1.lt g hg).2, own_of (h.2 x hx).2 fun g hg => hk g ((h.2 x hx).2.lt g hg).1 ((h.2 x hx).2.lt g hg).2⟩⟩
theorem RA.below {w w' : World} {B : Nat} {v : Value} {all : List NV} (h : RA w B v all) (hb : Below w.heap.size w w') : RA w' B v all := h.of fun g _ hg => hb.block g hg

/-- What is read so far: the reader's variable at R. -/
def RS (R : Nat) (st : List Nd) (w : World) : Prop := (R < w.heap.size ∧ w.frozen? ⟨R, 0, none⟩ = false ∧ w.frozen? ⟨R, 1, none⟩ = false) ∧
  ((st = [] ∧ w.cell? ⟨R, 0, none⟩ = some (.slice none 0 0) ∧ w.cell? ⟨R, 1, none⟩ = some (.pointer none)) ∨
   ∃ g cap dn lt, st = (dn ++ [lt]).map NV.nd ∧ w.cell? ⟨R, 0, none⟩ = some (.slice (some ⟨g, 0, none⟩) (dn.length + 1) cap) ∧ w.cell? ⟨R, 1, none⟩ = some (.pointer (some ⟨g, dn.length * 6, none⟩)) ∧ RA w (R + 1) (.slice (some ⟨g, 0, none⟩) (dn.length + 1) cap) (dn ++ [lt]) ∧ LA dn lt)
theorem RS.below {R : Nat} {st : List Nd} {w w' : World} (h : RS R st w) (hb : Below w.heap.size w w') : RS R st w' := by
  obtain ⟨⟨h0, h1, h2⟩, h3⟩ := h
  have c : ∀ i, w'.cell? ⟨R, i, none⟩ = w.cell? ⟨R, i, none⟩ := fun i => hb.cell (p := ⟨R, i, none⟩) h0
  refine ⟨⟨Nat.lt_of_lt_of_le h0 hb.size, (hb.frozen (p := ⟨R, 0, none⟩) h0).trans h1, (hb.frozen (p := ⟨R, 1, none⟩) h0).trans h2⟩, ?_⟩
  rcases h3 with ⟨e, k0, k1⟩ | ⟨g, cap, dn, lt, e, k0, k1, k2, k3⟩
  · exact Or.inl ⟨e, (c 0).trans k0, (c 1).trans k1⟩
  · exact Or.inr ⟨g, cap, dn, lt, e, (c 0).trans k0, (c 1).trans k1, k2.below hb, k3⟩

theorem infoNode : (Tryd.prog.info? 38).map (fun i => (i.zero, i.size, i.bytes)) = some (some (.agg #[.string ⟨#[]⟩, .int .i64 0, .int .i64 0, .int .i64 0, .slice none 0 0, .slice none 0 0]), 6, 88) := by kernel_rfl
theorem infoPin : (Tryd.prog.info? 42).map (fun i => (i.zero, i.size, i.bytes)) = some (some (.agg #[.string ⟨#[]⟩, .int .i64 0, .int .i64 0, .int .i64 0]), 4, 40) := by kernel_rfl
theorem infoEdge : (Tryd.prog.info? 40).map (fun i => (i.zero, i.size, i.bytes)) = some (some (.agg #[.string ⟨#[]⟩, .int .i64 0]), 2, 24) := by kernel_rfl

/-- One thing is put behind a row of one's own, in a region that draws its order. -/
theorem step_own {B : Nat} {wx : World} {elt slt : TypeId} {z : Value} {sz bs n : Nat} {v : Value} {xs : List Value} {ops : Array Oper} {o : Oper} {f : Act} {K : Act → World → Prop} {Q : Exit → Act → World → Prop} {E : Prop}
    (hinfo : (Tryd.prog.info? elt).map (fun i => (i.zero, i.size, i.bytes)) = some (some z, sz, bs)) (hund : Tryd.prog.underlying slt = some (.slice elt)) (hzc : z.cells.size = sz) (hsz : 0 < sz) (hbs : bs ≤ 1000)
    (hgd : o.guard = none) (s t : Operand) (ho : o.op = .call { callee := .builtin .append, args := #[s, t], argTypes := #[slt, slt] }) (hs : f.eval s = v)
    (hown : wx.ownsRow B elt sz v n xs) (hB : B ≤ wx.heap.size) (cs : Array Value) (hcs : cs.size = sz) (hone : ∀ u ∈ cs.toList, u.oneCell' = true) {M : Nat} (hM : wx.heap.size = M) (hx : f.eval t = .slice (some ⟨M, 0, none⟩) 1 1) (hlen : n ≤ 1000000000)
    (h : ∀ v1 w1, w1.ownsRow B elt sz v1 (n + 1) (xs ++ cs.toList) → (wx.alloc (.cells cs elt)).grownBy w1 v.ownBlock → (v1.ownBlock = v.ownBlock ∨ v1.ownBlock = some (wx.heap.size + 1)) → K (f.put o.dst v1) w1) :
    if Region.wanted o (yielded ops f.tmps) = true then Oper.wp Tryd.prog o f (wx.alloc (.cells cs elt)) K Q else E := by
  have hw : Region.wanted o (yielded ops f.tmps) = true := by simp [Region.wanted, hgd]
  rw [if_pos hw]
  subst hM
  obtain ⟨i0, hi, hz0, hz1, hz2⟩ := Sc.info_parts hinfo
  have hsz1 : (wx.alloc (.cells cs elt)).heap.size = wx.heap.size + 1 := by simp
  have hbb : (n + 1) * bs ≤ 140737488355328 := by
    have := Nat.mul_le_mul (show n + 1 ≤ 1000000001 by omega) hbs
    omega
  obtain ⟨v1, w1, hr, hown1, hg1, _, hat⟩ := run_append_own_at (P := Tryd.prog) (wx.alloc (.cells cs elt)) B slt o.type elt i0 z sz bs hund hi hz0 hz1 hz2 hzc hsz v n xs (hown.alloc _) ⟨wx.heap.size, 0, none⟩ 1 1 cs.toList (by rw [Array.length_toList, hcs, Nat.one_mul])
    (World.news_of_block (cs := cs) (t := elt) (fr := (0, 0)) (by show (wx.heap.push _)[wx.heap.size]? = _; rw [Array.getElem?_push, if_pos rfl])) hone (by unfold maxLen; omega) hbb (by omega)
  unfold Oper.wp execOp
  simp only [ho, resolve, invoke, builtin, Sem.run_bind, Sem.run_pure, Result.andThen_ok, List.map_toArray, List.map_cons, List.map_nil, hs, hx, hr]
  exact h v1 w1 hown1 hg1 (by rw [hsz1] at hat; exact hat)
end Go.Proofs.YtikplmckjcceaaaDoor
namespace Go.Proofs.YtikplmckjcceaaaDoor
open Go.RowKit
open Sc (KeepP hide3 keepBelow Bs ba WordsAt)
set_option maxRecDepth 100000

/-- What is read so far, whether there is a node or not. -/
theorem RS.all {R : Nat} {st : List Nd} {w : World} (h : RS R st w) : ∃ ad cap all, st = all.map NV.nd ∧ w.cell? ⟨R, 0, none⟩ = some (.slice ad all.length cap) ∧ RA w (R + 1) (.slice ad all.length cap) all ∧ ∃ pv, w.cell? ⟨R, 1, none⟩ = some (.pointer pv) := by
  rcases h.2 with ⟨e, k0, k1⟩ | ⟨g, cap, dn, lt, e, k0, k1, k2, _⟩
  · exact ⟨none, 0, [], e, k0, ⟨⟨rfl, Or.inl ⟨rfl, rfl⟩⟩, fun x hx => by cases hx⟩, none, k1⟩
  · exact ⟨some ⟨g, 0, none⟩, cap, dn ++ [lt], e, by rw [k0]; simp, by simpa using k2, _, k1⟩

/-- A node that has no list yet stands behind the others. -/
theorem RS.begun {R : Nat} {w w1 : World} {ad : Option Addr} {cap g cap1 : Nat} {all : List NV} {nm : ByteArray} {a b c : Int} (hR : R < w.heap.size) (hf0 : w.frozen? ⟨R, 0, none⟩ = false) (hf1 : w.frozen? ⟨R, 1, none⟩ = false) {pv : Option Addr} (hp : w.cell? ⟨R, 1, none⟩ = some (.pointer pv)) (h0 : w.cell? ⟨R, 0, none⟩ = some (.slice ad all.length cap)) (h : RA w (R + 1) (.slice ad all.length cap) all)
    (ho : w1.ownsRow (R + 1) 38 6 (.slice (some ⟨g, 0, none⟩) (all.length + 1) cap1) (all.length + 1) (all.flatMap ndC ++ ndC ⟨⟨nm, a, b, c, [], []⟩, .slice none 0 0, .slice none 0 0⟩)) (hg : w.grownBy w1 (Value.slice ad all.length cap).ownBlock) :
    (w1.cell? ⟨R, 0, none⟩ = some (.slice ad all.length cap) ∧ w1.frozen? ⟨R, 0, none⟩ = false ∧ w1.cell? ⟨R, 1, none⟩ = some (.pointer pv) ∧ w1.frozen? ⟨R, 1, none⟩ = false) ∧
    RS R (all.map NV.nd ++ [⟨nm, a, b, c, [], []⟩]) ((w1.setCell ⟨R, 0, none⟩ (.slice (some ⟨g, 0, none⟩) (all.length + 1) cap1)).setCell ⟨R, 1, none⟩ (.pointer (some ⟨g, all.length * 6, none⟩))) ∧ Below R w ((w1.setCell ⟨R, 0, none⟩ (.slice (some ⟨g, 0, none⟩) (all.length + 1) cap1)).setCell ⟨R, 1, none⟩ (.pointer (some ⟨g, all.length * 6, none⟩))) := by
  have hne : (Value.slice ad all.length cap).ownBlock ≠ some R := fun e => by have := (h.1.lt _ e).1; omega
  have hbk := hg.block R hR (fun e => hne e.symm)
  have c0 : ∀ i, w1.cell? ⟨R, i, none⟩ = w.cell? ⟨R, i, none⟩ := fun i => World.cell?_of_block hbk
  have z0 : ∀ i, w1.frozen? ⟨R, i, none⟩ = w.frozen? ⟨R, i, none⟩ := fun i => World.frozen?_of_block hbk
  have hRA : RA w1 (R + 1) (.slice (some ⟨g, 0, none⟩) (all.length + 1) cap1) (all ++ [⟨⟨nm, a, b, c, [], []⟩, .slice none 0 0, .slice none 0 0⟩]) := by
    refine ⟨?_, fun x hx => ?_⟩
    · rw [List.length_append, List.flatMap_append]
      simpa using ho
    · rcases List.mem_append.1 hx with hx | hx
      · exact ⟨(h.2 x hx).1.kept hg (own_apart (h.2 x hx).1 h.1 (by decide)), (h.2 x hx).2.kept hg (own_apart (h.2 x hx).2 h.1 (by decide))⟩
      · obtain rfl := List.mem_singleton.1 hx
        exact ⟨⟨rfl, Or.inl ⟨rfl, rfl⟩⟩, ⟨rfl, Or.inl ⟨rfl, rfl⟩⟩⟩
  have hR1 : R < w1.heap.size := Nat.lt_of_lt_of_le hR hg.size
  refine ⟨⟨(c0 0).trans h0, (z0 0).trans hf0, (c0 1).trans hp, (z0 1).trans hf1⟩, ⟨⟨by simpa using hR1, by rw [World.frozen?_setCell, World.frozen?_setCell]; exact (z0 0).trans hf0, by rw [World.frozen?_setCell, World.frozen?_setCell]; exact (z0 1).trans hf1⟩, Or.inr ⟨g, cap1, all, ⟨⟨nm, a, b, c, [], []⟩, .slice none 0 0, .slice none 0 0⟩, by simp, ?_, ?_, ?_, fun x _ => ⟨Or.inl rfl, Or.inl rfl⟩⟩⟩, ?_⟩
  · exact set_far (by decide) (World.cell?_setCell_same _ _ _ ((c0 0).trans h0))
  · exact World.cell?_setCell_same _ _ _ (set_far (by decide) ((c0 1).trans hp))
  · exact hRA.of fun k hk _ => (Below.heap_setCell _ _ _ _ (by simp only; omega)).trans (Below.heap_setCell _ _ _ _ (by simp only; omega))
  · have hb : Below R w w1 := ⟨hg.os, hg.tape, hg.output, hg.size, fun k hk => hg.block k (by omega) (fun e => by have := (h.1.lt _ e.symm).1; omega)⟩
    exact (hb.setCell (p := ⟨R, 0, none⟩) (Nat.le_refl _) _).setCell (p := ⟨R, 1, none⟩) (Nat.le_refl _) _

theorem grown_pre {w w' w1 : World} {row : Option Nat} (hb : Below w.heap.size w w') (hg : w'.grownBy w1 row) : w.grownBy w1 row :=
  ⟨hg.os.trans hb.os, hg.tape.trans hb.tape, hg.output.trans hb.output, Nat.le_trans hb.size hg.size, fun k hk hn => (hg.block k (Nat.lt_of_lt_of_le hk hb.size) hn).trans (hb.block k hk)⟩

set_option maxHeartbeats 6400000 in
theorem begin_any {R : Nat} {st : List Nd} {w : World} (h : RS R st w) (hlen : st.length ≤ 1000000) (nm : ByteArray) (a b c : Int) :
    Calls Tryd.prog 59 #[.pointer (some ⟨R, 0, none⟩), .agg #[.string nm, .int .i64 a, .int .i64 b, .int .i64 c, .slice none 0 0, .slice none 0 0]] w fun e w' => e = .returned (.tuple #[]) ∧ RS R (st ++ [⟨nm, a, b, c, [], []⟩]) w' ∧ Below R w w' := by
  have hbox := boxB w (.cells #[.string nm, .int .i64 a, .int .i64 b, .int .i64 c, .slice none 0 0, .slice none 0 0] 38)
  have h1 := h.below hbox
  have hR0 := h.1.1
  have HBX := hide3 hbox
  obtain ⟨ad, cap, all, rfl, k0, k2, pv, k1⟩ := h1.all
  obtain ⟨⟨hR, hf0, hf1⟩, _⟩ := h1
  have HRA := hide3 k2
  rw [List.length_map] at hlen
  have HBG := hide3 (fun w1 g cap1 ho hg => RS.begun (nm := nm) (a := a) (b := b) (c := c) (w1 := w1) (g := g) (cap1 := cap1) hR hf0 hf1 k1 k0 k2 ho hg)
  clear h hbox k2
  have k0d : (w.alloc (.cells #[.string nm, .int .i64 a, .int .i64 b, .int .i64 c, .slice none 0 0, .slice none 0 0] 38)).drew.cell? ⟨R, 0, none⟩ = some (.slice ad all.length cap) := k0
  go_enter Tryd.func59, Tryd.ntmps59
  go_wp2_with fail
  go_region_law ((refine step_own (B := R + 1) (M := w.heap.size + 1) (wx := (w.alloc (.cells #[.string nm, .int .i64 a, .int .i64 b, .int .i64 c, .slice none 0 0, .slice none 0 0] 38)).drew) (v := .slice ad all.length cap) infoNode Tryd.underlying22 rfl (by decide) (by decide) rfl (.tmp 8) (.tmp 10) rfl rfl HRA.out.1.drew hR #[.string nm, .int .i64 a, .int .i64 b, .int .i64 c, .slice none 0 0, .slice none 0 0] rfl (by simp [Value.oneCell']) (by simp) rfl (by omega) ?_); intro v1 w1 ho hg _; obtain ⟨g1, cap1, rfl, _⟩ := ho.form (by omega); have HB1 := hide3 (HBG.out w1 g1 cap1 ho (grown_pre (below_then (Below.refl _ _).drew (boxB _ _)) hg)); obtain ⟨⟨n0, n1, n2, n3⟩, _, _⟩ := HB1.out; clear ho hg)
  all_goals
    have m0 : (w1.setCell ⟨R, 0, none⟩ (.slice (some ⟨g1, 0, none⟩) (all.length + 1) cap1)).cell? ⟨R, 0, none⟩ = some (.slice (some ⟨g1, 0, none⟩) (all.length + 1) cap1) := World.cell?_setCell_same _ _ _ n0
    have m1 : (w1.setCell ⟨R, 0, none⟩ (.slice (some ⟨g1, 0, none⟩) (all.length + 1) cap1)).cell? ⟨R, 1, none⟩ = some (.pointer pv) := set_far (by decide) n2
    have m2 : (w1.setCell ⟨R, 0, none⟩ (.slice (some ⟨g1, 0, none⟩) (all.length + 1) cap1)).frozen? ⟨R, 1, none⟩ = false := by rw [World.frozen?_setCell]; exact n3
    have m3 : ((w1.setCell ⟨R, 0, none⟩ (.slice (some ⟨g1, 0, none⟩) (all.length + 1) cap1)).setCell ⟨R, 1, none⟩ (.pointer (some ⟨g1, all.length * 6, none⟩))).drew.cell? ⟨R, 0, none⟩ = some (.slice (some ⟨g1, 0, none⟩) (all.length + 1) cap1) := set_far (w := w1.setCell ⟨R, 0, none⟩ _) (by decide) m0
    have hw1 : IntKind.i64.wrap ((all.length : Int) + 1 - 1) = (all.length : Int) := by rw [IntKind.wrap_i64] <;> omega
    have hw2 : IntKind.i64.wrap (all.length : Int) = (all.length : Int) := by rw [IntKind.wrap_i64] <;> omega
    have hb3 : all.length < all.length + 1 := by omega
    have hb1 : (0 : Int) ≤ (all.length : Int) := by omega
    have hb2 : (all.length : Int) < (all.length : Int) + 1 := by omega
    have HWX : Hid (Below R w (w.alloc (.cells #[.string nm, .int .i64 a, .int .i64 b, .int .i64 c, .slice none 0 0, .slice none 0 0] 38))) := HBX.out.mono (Nat.le_of_lt hR0)
    go_wp2_with fail
    go_region_held3 (fun w' => w'.cell? ⟨R, 0, none⟩ = some (.slice (some ⟨g1, 0, none⟩) (all.length + 1) cap1)) (go_keep) (fail)
    all_goals go_wp2
    all_goals go_end0
    all_goals exact ⟨rfl, HB1.out.2.1.below (Below.refl _ _).drew, HWX.out.trans HB1.out.2.2.drew⟩
end Go.Proofs.YtikplmckjcceaaaDoor
namespace Go.Proofs.YtikplmckjcceaaaDoor
open Go.RowKit
open Sc (KeepP hide3 keepBelow Bs ba WordsAt)
set_option maxRecDepth 100000

/-- The last node is turned. -/
def modLast (f : Nd → Nd) : List Nd → List Nd
  | [] => []
  | [l] => [f l]
  | x :: y :: r => x :: modLast f (y :: r)
theorem modLast_snoc (f : Nd → Nd) (l : Nd) : ∀ dn : List Nd, modLast f (dn ++ [l]) = dn ++ [f l]
  | [] => rfl
  | [x] => rfl
  | x :: y :: r => by
    have := modLast_snoc f l (y :: r)
    simp only [List.cons_append] at this ⊢
    unfold modLast
    rw [this]
def addP (p : Pn) (n : Nd) : Nd := ⟨n.nm, n.a, n.b, n.c, n.cx ++ [p], n.ed⟩
def addE (e : Eg) (n : Nd) : Nd := ⟨n.nm, n.a, n.b, n.c, n.cx, n.ed ++ [e]⟩
def lastE (st : List Nd) : List Eg := match st.getLast? with
  | some n => n.ed
  | none => []
theorem lastE_snoc (dn : List Nd) (l : Nd) : lastE (dn ++ [l]) = l.ed := by unfold lastE; simp

theorem flat_len : ∀ dn : List NV, (dn.flatMap ndC).length = dn.length * 6
  | [] => rfl
  | x :: r => by
    rw [List.flatMap_cons, List.length_append, flat_len r, List.length_cons]
    show 6 + r.length * 6 = _
    omega
theorem flat_set (dn : List NV) (lt : NV) (i : Nat) (u : Value) : ((dn ++ [lt]).flatMap ndC).set (dn.length * 6 + i) u = dn.flatMap ndC ++ (ndC lt).set i u := by
  rw [List.flatMap_append, List.set_append_right _ _ (by rw [flat_len]; omega), flat_len, Nat.add_sub_cancel_left]
  simp
theorem flat_get (dn : List NV) (lt : NV) (i : Nat) : ((dn ++ [lt]).flatMap ndC)[dn.length * 6 + i]? = (ndC lt)[i]? := by
  rw [List.flatMap_append, List.getElem?_append_right (by rw [flat_len]; omega), flat_len, Nat.add_sub_cancel_left]
  simp
theorem Apart.back {a b : Value} (h : Apart a b) : b.ownBlock = none ∨ b.ownBlock ≠ a.ownBlock := by
  rcases h with h | h
  · cases hb : b.ownBlock with
    | none => exact Or.inl rfl
    | some k => exact Or.inr (by rw [h]; simp)
  · exact Or.inr (fun e => h e.symm)

/-- A pin stands behind the last node's. -/
theorem RS.pinned {R : Nat} {w w1 : World} {g cap : Nat} {dn : List NV} {lt : NV} {p : Pn} {v1 : Value} (hR : R < w.heap.size) (hf0 : w.frozen? ⟨R, 0, none⟩ = false) (hf1 : w.frozen? ⟨R, 1, none⟩ = false) (h0 : w.cell? ⟨R, 0, none⟩ = some (.slice (some ⟨g, 0, none⟩) (dn.length + 1) cap)) (h1 : w.cell? ⟨R, 1, none⟩ = some (.pointer (some ⟨g, dn.length * 6, none⟩)))
    (h : RA w (R + 1) (.slice (some ⟨g, 0, none⟩) (dn.length + 1) cap) (dn ++ [lt])) (hA : LA dn lt) (ho : w1.ownsRow (R + 1) 42 4 v1 (lt.nd.cx.length + 1) (lt.nd.cx.flatMap pnC ++ pnC p)) (hg : w.grownBy w1 lt.vc.ownBlock) (hat : v1.ownBlock = lt.vc.ownBlock ∨ ∃ k, v1.ownBlock = some k ∧ w.heap.size ≤ k) :
    (w1.cell? ⟨R, 1, none⟩ = some (.pointer (some ⟨g, dn.length * 6, none⟩)) ∧ w1.cell? ⟨g, dn.length * 6 + 4, none⟩ = some lt.vc ∧ w1.frozen? ⟨g, dn.length * 6 + 4, none⟩ = false) ∧
    RS R (dn.map NV.nd ++ [addP p lt.nd]) (w1.setCell ⟨g, dn.length * 6 + 4, none⟩ v1) ∧ Below R w (w1.setCell ⟨g, dn.length * 6 + 4, none⟩ v1) := by
  have hlt := h.2 lt (by simp)
  have hn : (dn ++ [lt]).length = dn.length + 1 := by simp
  have hrow := h.1
  rw [hn] at hrow
  have hgk := hrow.lt g rfl
  have hneR : ∀ {e : TypeId} {z : Nat} {v : Value} {n : Nat} {xs : List Value}, w.ownsRow (R + 1) e z v n xs → v.ownBlock ≠ some R := fun hv e => by have := (hv.lt _ e).1; omega
  have hbk := hg.block R hR (fun e => hneR hlt.1 e.symm)
  have c0 : ∀ i, w1.cell? ⟨R, i, none⟩ = w.cell? ⟨R, i, none⟩ := fun i => World.cell?_of_block hbk
  have z0 : ∀ i, w1.frozen? ⟨R, i, none⟩ = w.frozen? ⟨R, i, none⟩ := fun i => World.frozen?_of_block hbk
  have hrow1 := hrow.kept hg (own_apart hrow hlt.1 (by decide))
  have hst := hrow1.stored (dn.length * 6 + 4) v1
  have hgR : g ≠ R := by omega
  have far : ∀ {e : TypeId} {z : Nat} {v : Value} {n : Nat} {xs : List Value}, w1.ownsRow (R + 1) e z v n xs → e ≠ 38 → (w1.setCell ⟨g, dn.length * 6 + 4, none⟩ v1).ownsRow (R + 1) e z v n xs := fun hv hne => ownsRow_setCell_other (a := ⟨g, dn.length * 6 + 4, none⟩) hv (fun e => own_ne hrow1 hv (fun q => hne q.symm) rfl e) _
  have hcell : w1.cell? ⟨g, dn.length * 6 + 4, none⟩ = some lt.vc := by
    rw [hrow1.cellAt (dn.length * 6 + 4) (by omega), flat_get]
    rfl
  have hRA : RA (w1.setCell ⟨g, dn.length * 6 + 4, none⟩ v1) (R + 1) (.slice (some ⟨g, 0, none⟩) (dn.length + 1) cap) (dn ++ [⟨addP p lt.nd, v1, lt.ve⟩]) := by
    refine ⟨?_, fun x hx => ?_⟩
    · have e := hst.1
      rw [flat_set, show (ndC lt).set 4 v1 = ndC ⟨addP p lt.nd, v1, lt.ve⟩ from rfl] at e
      rw [List.length_append, List.flatMap_append]
      simpa using e
    · rcases List.mem_append.1 hx with hx | hx
      · have hx2 := h.2 x (by simp [hx])
        exact ⟨far (hx2.1.kept hg (hA x hx).1.back) (by decide), far (hx2.2.kept hg (own_apart hx2.2 hlt.1 (by decide))) (by decide)⟩
      · obtain rfl := List.mem_singleton.1 hx
        refine ⟨?_, far (hlt.2.kept hg (own_apart hlt.2 hlt.1 (by decide))) (by decide)⟩
        unfold OwnP
        simp only [addP, List.length_append, List.length_singleton, List.flatMap_append, List.flatMap_singleton]
        exact far ho (by decide)
  have hLA : LA dn ⟨addP p lt.nd, v1, lt.ve⟩ := fun x hx => by
    refine ⟨?_, (hA x hx).2⟩
    rcases hat with e | ⟨k, e, hk⟩
    · unfold Apart
      simp only
      rw [e]
      exact (hA x hx).1
    · refine Or.inr fun e2 => ?_
      simp only at e2
      rw [e] at e2
      have := ((h.2 x (by simp [hx])).1.lt k e2.symm).2
      omega
  have hR1 : R < w1.heap.size := Nat.lt_of_lt_of_le hR hg.size
  have far0 : ∀ i, (w1.setCell ⟨g, dn.length * 6 + 4, none⟩ v1).cell? ⟨R, i, none⟩ = w1.cell? ⟨R, i, none⟩ := fun i => World.cell?_setCell_other _ _ _ _ (fun e => by cases e; exact hgR rfl)
  refine ⟨⟨(c0 1).trans h1, hcell, hrow1.frozenAt _⟩, ⟨⟨by simpa using hR1, by rw [World.frozen?_setCell]; exact (z0 0).trans hf0, by rw [World.frozen?_setCell]; exact (z0 1).trans hf1⟩, Or.inr ⟨g, cap, dn, ⟨addP p lt.nd, v1, lt.ve⟩, by simp, (far0 0).trans ((c0 0).trans h0), (far0 1).trans ((c0 1).trans h1), hRA, hLA⟩⟩, ?_⟩
  have hb : Below R w w1 := ⟨hg.os, hg.tape, hg.output, hg.size, fun k hk => hg.block k (by omega) (fun e => by have := (hlt.1.lt _ e.symm).1; omega)⟩
  exact hb.setCell (p := ⟨g, dn.length * 6 + 4, none⟩) (by simp only; omega) _

/-- An edge stands behind the last node's. -/
theorem RS.edged {R : Nat} {w w1 : World} {g cap : Nat} {dn : List NV} {lt : NV} {p : Eg} {v1 : Value} (hR : R < w.heap.size) (hf0 : w.frozen? ⟨R, 0, none⟩ = false) (hf1 : w.frozen? ⟨R, 1, none⟩ = false) (h0 : w.cell? ⟨R, 0, none⟩ = some (.slice (some ⟨g, 0, none⟩) (dn.length + 1) cap)) (h1 : w.cell? ⟨R, 1, none⟩ = some (.pointer (some ⟨g, dn.length * 6, none⟩)))
    (h : RA w (R + 1) (.slice (some ⟨g, 0, none⟩) (dn.length + 1) cap) (dn ++ [lt])) (hA : LA dn lt) (ho : w1.ownsRow (R + 1) 40 2 v1 (lt.nd.ed.length + 1) (lt.nd.ed.flatMap egC ++ egC p)) (hg : w.grownBy w1 lt.ve.ownBlock) (hat : v1.ownBlock = lt.ve.ownBlock ∨ ∃ k, v1.ownBlock = some k ∧ w.heap.size ≤ k) :
    (w1.cell? ⟨R, 1, none⟩ = some (.pointer (some ⟨g, dn.length * 6, none⟩)) ∧ w1.cell? ⟨g, dn.length * 6 + 5, none⟩ = some lt.ve ∧ w1.frozen? ⟨g, dn.length * 6 + 5, none⟩ = false) ∧
    RS R (dn.map NV.nd ++ [addE p lt.nd]) (w1.setCell ⟨g, dn.length * 6 + 5, none⟩ v1) ∧ Below R w (w1.setCell ⟨g, dn.length * 6 + 5, none⟩ v1) := by
  have hlt := h.2 lt (by simp)
  have hn : (dn ++ [lt]).length = dn.length + 1 := by simp
  have hrow := h.1
  rw [hn] at hrow
  have hgk := hrow.lt g rfl
  have hneR : ∀ {e : TypeId} {z : Nat} {v : Value} {n : Nat} {xs : List Value}, w.ownsRow (R + 1) e z v n xs → v.ownBlock ≠ some R := fun hv e => by have := (hv.lt _ e).1; omega
  have hbk := hg.block R hR (fun e => hneR hlt.2 e.symm)
  have c0 : ∀ i, w1.cell? ⟨R, i, none⟩ = w.cell? ⟨R, i, none⟩ := fun i => World.cell?_of_block hbk
  have z0 : ∀ i, w1.frozen? ⟨R, i, none⟩ = w.frozen? ⟨R, i, none⟩ := fun i => World.frozen?_of_block hbk
  have hrow1 := hrow.kept hg (own_apart hrow hlt.2 (by decide))
  have hst := hrow1.stored (dn.length * 6 + 5) v1
  have hgR : g ≠ R := by omega
  have far : ∀ {e : TypeId} {z : Nat} {v : Value} {n : Nat} {xs : List Value}, w1.ownsRow (R + 1) e z v n xs → e ≠ 38 → (w1.setCell ⟨g, dn.length * 6 + 5, none⟩ v1).ownsRow (R + 1) e z v n xs := fun hv hne => ownsRow_setCell_other (a := ⟨g, dn.length * 6 + 5, none⟩) hv (fun e => own_ne hrow1 hv (fun q => hne q.symm) rfl e) _
  have hcell : w1.cell? ⟨g, dn.length * 6 + 5, none⟩ = some lt.ve := by
    rw [hrow1.cellAt (dn.length * 6 + 5) (by omega), flat_get]
    rfl
  have hRA : RA (w1.setCell ⟨g, dn.length * 6 + 5, none⟩ v1) (R + 1) (.slice (some ⟨g, 0, none⟩) (dn.length + 1) cap) (dn ++ [⟨addE p lt.nd, lt.vc, v1⟩]) := by
    refine ⟨?_, fun x hx => ?_⟩
    · have e := hst.1
      rw [flat_set, show (ndC lt).set 5 v1 = ndC ⟨addE p lt.nd, lt.vc, v1⟩ from rfl] at e
      rw [List.length_append, List.flatMap_append]
      simpa using e
    · rcases List.mem_append.1 hx with hx | hx
      · have hx2 := h.2 x (by simp [hx])
        exact ⟨far (hx2.1.kept hg (own_apart hx2.1 hlt.2 (by decide))) (by decide), far (hx2.2.kept hg (hA x hx).2.back) (by decide)⟩
      · obtain rfl := List.mem_singleton.1 hx
        refine ⟨far (hlt.1.kept hg (own_apart hlt.1 hlt.2 (by decide))) (by decide), ?_⟩
        unfold OwnE
        simp only [addE, List.length_append, List.length_singleton, List.flatMap_append, List.flatMap_singleton]
        exact far ho (by decide)
  have hLA : LA dn ⟨addE p lt.nd, lt.vc, v1⟩ := fun x hx => by
    refine ⟨(hA x hx).1, ?_⟩
    rcases hat with e | ⟨k, e, hk⟩
    · unfold Apart
      simp only
      rw [e]
      exact (hA x hx).2
    · refine Or.inr fun e2 => ?_
      simp only at e2
      rw [e] at e2
      have := ((h.2 x (by simp [hx])).2.lt k e2.symm).2
      omega
  have hR1 : R < w1.heap.size := Nat.lt_of_lt_of_le hR hg.size
  have far0 : ∀ i, (w1.setCell ⟨g, dn.length * 6 + 5, none⟩ v1).cell? ⟨R, i, none⟩ = w1.cell? ⟨R, i, none⟩ := fun i => World.cell?_setCell_other _ _ _ _ (fun e => by cases e; exact hgR rfl)
  refine ⟨⟨(c0 1).trans h1, hcell, hrow1.frozenAt _⟩, ⟨⟨by simpa using hR1, by rw [World.frozen?_setCell]; exact (z0 0).trans hf0, by rw [World.frozen?_setCell]; exact (z0 1).trans hf1⟩, Or.inr ⟨g, cap, dn, ⟨addE p lt.nd, lt.vc, v1⟩, by simp, (far0 0).trans ((c0 0).trans h0), (far0 1).trans ((c0 1).trans h1), hRA, hLA⟩⟩, ?_⟩
  have hb : Below R w w1 := ⟨hg.os, hg.tape, hg.output, hg.size, fun k hk => hg.block k (by omega) (fun e => by have := (hlt.2.lt _ e.symm).1; omega)⟩
  exact hb.setCell (p := ⟨g, dn.length * 6 + 5, none⟩) (by simp only; omega) _

end Go.Proofs.YtikplmckjcceaaaDoor
namespace Go.Proofs.YtikplmckjcceaaaDoor
open Go.RowKit
open Sc (KeepP hide3 keepBelow Bs ba WordsAt)
set_option maxRecDepth 100000

/-- What a take answers: the nodes behind it, or no. -/
def TakeQ (R : Nat) (w : World) (r : Option (List Nd)) (e : Ending) (w' : World) : Prop := Below R w w' ∧ ((∃ st, r = some st ∧ e = .returned (.bool true) ∧ RS R st w') ∨ (r = none ∧ e = .returned (.bool false)))
def nd0 : Nd := ⟨⟨#[]⟩, 0, 0, 0, [], []⟩
def firstR (st : List Nd) (ws : List Bs) : Option (List Nd) := if ws = [] then some (st ++ [nd0]) else none
def laterR (st : List Nd) (ws : List Bs) : Option (List Nd) := if (pinR ws).2 = true then some (st ++ [⟨(pinR ws).1.nm, (pinR ws).1.a, (pinR ws).1.b, (pinR ws).1.c, [], []⟩]) else none
def pinsR (st : List Nd) (ws : List Bs) : Option (List Nd) := if (pinR ws).2 = true ∧ lastE st = [] then some (modLast (addP (pinR ws).1) st) else none
def edgesR (st : List Nd) (ws : List Bs) : Option (List Nd) := if (edgR ws).2 = true then some (modLast (addE (edgR ws).1) st) else none
theorem TakeQ.no {R : Nat} {w w' : World} {r : Option (List Nd)} (h : r = none) (hb : Below R w w') : TakeQ R w r (.returned (.bool false)) w' := ⟨hb, Or.inr ⟨h, rfl⟩⟩
theorem TakeQ.yes {R : Nat} {w w' : World} {r : Option (List Nd)} {st : List Nd} (h : r = some st) (hb : Below R w w') (hs : RS R st w') : TakeQ R w r (.returned (.bool true)) w' := ⟨hb, Or.inl ⟨st, h, rfl, hs⟩⟩
theorem RS.low {R : Nat} {st : List Nd} {w w' : World} (h : RS R st w) (hb : Below w.heap.size w w') : Below R w w' := hb.mono (Nat.le_of_lt h.1.1)

set_option maxHeartbeats 3200000 in
theorem takeFirst_any {R : Nat} {st : List Nd} {w : World} {vw : Value} {ws : List Bs} (h : RS R st w) (hlen : st.length ≤ 1000000) (hw : WordsAt w vw ws) : Calls Tryd.prog 52 #[.pointer (some ⟨R, 0, none⟩), vw] w (TakeQ R w (firstR st ws)) := by
  obtain ⟨ad, cap, rfl, _, _⟩ := hw
  have HBG : Hid (Calls Tryd.prog 59 #[.pointer (some ⟨R, 0, none⟩), .agg #[.string ⟨#[]⟩, .int .i64 0, .int .i64 0, .int .i64 0, .slice none 0 0, .slice none 0 0]] w fun e w' => e = .returned (.tuple #[]) ∧ RS R (st ++ [nd0]) w' ∧ Below R w w') := begin_any h hlen _ _ _ _
  by_cases h0 : ws = []
  · subst h0
    have HQ : Hid (∀ w', RS R (st ++ [nd0]) w' → Below R w w' → TakeQ R w (firstR st []) (.returned (.bool true)) w') := fun w' hs hb => TakeQ.yes (by unfold firstR; rw [if_pos rfl]) hb hs
    generalize TakeQ R w (firstR st []) = QQ at *
    rw [List.length_nil]
    go_enter Tryd.func52, Tryd.ntmps52
    go_wp2_with (go_at_call 59; refine HBG.out.mono ?_; rintro e w1 ⟨rfl, hs, hb⟩)
    exact HQ.out _ hs hb
  · have HQ : Hid (TakeQ R w (firstR st ws) (.returned (.bool false)) w) := TakeQ.no (by unfold firstR; rw [if_neg h0]) (Below.refl _ _)
    have hb : ((ws.length : Int) == 0) = false := by
      rw [beq_eq_false_iff_ne]
      have : ws.length ≠ 0 := fun e => h0 (List.eq_nil_of_length_eq_zero e)
      omega
    generalize TakeQ R w (firstR st ws) = QQ at *
    clear h0
    go_enter Tryd.func52, Tryd.ntmps52
    go_wp2
    exact HQ.out

set_option maxHeartbeats 3200000 in
theorem takeLater_any {R : Nat} {st : List Nd} {w : World} {vw : Value} {ws : List Bs} (h : RS R st w) (hlen : st.length ≤ 1000000) (hw : WordsAt w vw ws) (hz : ∀ x ∈ ws, x.length ≤ 2000000) (he : Env w) : Calls Tryd.prog 53 #[.pointer (some ⟨R, 0, none⟩), vw] w (TakeQ R w (laterR st ws)) := by
  have HRP := hide3 (readPin_any hw hz he)
  have HBG : Hid (∀ W p, Below w.heap.size w W → Calls Tryd.prog 59 #[.pointer (some ⟨R, 0, none⟩), .agg #[.string p.nm, .int .i64 p.a, .int .i64 p.b, .int .i64 p.c, .slice none 0 0, .slice none 0 0]] W fun e w' => e = .returned (.tuple #[]) ∧ RS R (st ++ [⟨Pn.nm p, p.a, p.b, p.c, [], []⟩]) w' ∧ Below R W w') := fun W p hb => begin_any (h.below hb) hlen _ _ _ _
  have HLO : Hid (∀ W, Below w.heap.size w W → Below R w W) := fun W hb => h.low hb
  have HL : Hid (laterR st ws = if (pinR ws).2 = true then some (st ++ [⟨(pinR ws).1.nm, (pinR ws).1.a, (pinR ws).1.b, (pinR ws).1.c, [], []⟩]) else none) := rfl
  have HYE : Hid (∀ st' w', laterR st ws = some st' → RS R st' w' → Below R w w' → TakeQ R w (laterR st ws) (.returned (.bool true)) w') := fun st' w' e hs hb => TakeQ.yes e hb hs
  have HNO : Hid (∀ w', laterR st ws = none → Below R w w' → TakeQ R w (laterR st ws) (.returned (.bool false)) w') := fun w' e hb => TakeQ.no e hb
  obtain ⟨ad, cap, rfl, _, _⟩ := hw
  generalize TakeQ R w (laterR st ws) = QQ at *
  generalize laterR st ws = LR at *
  generalize (pinR ws).2 = ok at *
  generalize (pinR ws).1 = p at *
  clear h hz he
  cases ok
  · go_enter Tryd.func53, Tryd.ntmps53
    go_wp2_with (go_at_call 60; refine HRP.out.mono ?_; rintro e w1 ⟨rfl, hb⟩; have HB1 := hide3 (below_then hb (boxB w1 (.cells #[.string p.nm, .int .i64 p.a, .int .i64 p.b, .int .i64 p.c] 42))); clear hb)
    exact HNO.out _ (by rw [HL.out]; rfl) (HLO.out _ HB1.out)
  · go_enter Tryd.func53, Tryd.ntmps53
    go_wp2_with (first
      | (go_at_call 60; refine HRP.out.mono ?_; rintro e w1 ⟨rfl, hb⟩; have HB1 := hide3 (below_then hb (boxB w1 (.cells #[.string p.nm, .int .i64 p.a, .int .i64 p.b, .int .i64 p.c] 42))); clear hb)
      | (go_at_call 59; refine (HBG.out _ p HB1.out).mono ?_; rintro e w2 ⟨rfl, hs, hb2⟩))
    exact HYE.out _ _ HL.out hs ((HLO.out _ HB1.out).trans hb2)

set_option maxHeartbeats 12800000 in
theorem takePin_any {R : Nat} {st : List Nd} {w : World} {vw : Value} {ws : List Bs} (h : RS R st w) (hne : st ≠ []) (hlz : ∀ n ∈ st, n.cx.length ≤ 1000000) (hw : WordsAt w vw ws) (hz : ∀ x ∈ ws, x.length ≤ 2000000) (he : Env w) : Calls Tryd.prog 54 #[.pointer (some ⟨R, 0, none⟩), vw] w (TakeQ R w (pinsR st ws)) := by
  have HRP := hide3 (readPin_any hw hz he)
  have HLO : Hid (∀ W, Below w.heap.size w W → Below R w W) := fun W hb => h.low hb
  have HRS := hide3 h
  have HYE : Hid (∀ st' w', pinsR st ws = some st' → RS R st' w' → Below R w w' → TakeQ R w (pinsR st ws) (.returned (.bool true)) w') := fun st' w' e hs hb => TakeQ.yes e hb hs
  have HNO : Hid (∀ w', pinsR st ws = none → Below R w w' → TakeQ R w (pinsR st ws) (.returned (.bool false)) w') := fun w' e hb => TakeQ.no e hb
  obtain ⟨ad, cap, rfl, _, _⟩ := hw
  obtain ⟨⟨hR, hf0, hf1⟩, hor⟩ := h
  obtain ⟨g, gc, dn, lt, rfl, k0, k1, k2, k3⟩ := hor.resolve_left (fun q => hne q.1)
  have HL : Hid (pinsR ((dn ++ [lt]).map NV.nd) ws = if (pinR ws).2 = true ∧ lt.nd.ed = [] then some (dn.map NV.nd ++ [addP (pinR ws).1 lt.nd]) else none) := by
    unfold Hid pinsR
    rw [List.map_append, List.map_cons, List.map_nil, lastE_snoc, modLast_snoc]
  have hzl := hlz lt.nd (by simp)
  generalize TakeQ R w (pinsR ((dn ++ [lt]).map NV.nd) ws) = QQ at *
  generalize pinsR ((dn ++ [lt]).map NV.nd) ws = LR at *
  generalize (pinR ws).2 = ok at *
  generalize (pinR ws).1 = p at *
  have HFX : Hid (∀ W, Below w.heap.size w W → (R < W.heap.size ∧ W.frozen? ⟨R, 0, none⟩ = false ∧ W.frozen? ⟨R, 1, none⟩ = false) ∧ W.cell? ⟨R, 0, none⟩ = some (.slice (some ⟨g, 0, none⟩) (dn.length + 1) gc) ∧ W.cell? ⟨R, 1, none⟩ = some (.pointer (some ⟨g, dn.length * 6, none⟩)) ∧ RA W (R + 1) (.slice (some ⟨g, 0, none⟩) (dn.length + 1) gc) (dn ++ [lt])) := fun W hb =>
    ⟨⟨Nat.lt_of_lt_of_le hR hb.size, (hb.frozen (p := ⟨R, 0, none⟩) hR).trans hf0, (hb.frozen (p := ⟨R, 1, none⟩) hR).trans hf1⟩, (hb.cell (p := ⟨R, 0, none⟩) hR).trans k0, (hb.cell (p := ⟨R, 1, none⟩) hR).trans k1, k2.below hb⟩
  have HLA := hide3 k3
  have HCE : Hid (∀ W, RA W (R + 1) (.slice (some ⟨g, 0, none⟩) (dn.length + 1) gc) (dn ++ [lt]) → W.cell? ⟨g, dn.length * 6 + 4, none⟩ = some lt.vc ∧ W.cell? ⟨g, dn.length * 6 + 5, none⟩ = some lt.ve) := fun W hr => by
    have hrow := hr.1
    rw [show (dn ++ [lt]).length = dn.length + 1 by simp] at hrow
    exact ⟨by rw [hrow.cellAt (dn.length * 6 + 4) (by omega), flat_get]; rfl, by rw [hrow.cellAt (dn.length * 6 + 5) (by omega), flat_get]; rfl⟩
  obtain ⟨ho1, ho2⟩ := k2.2 lt (by simp)
  obtain ⟨a4, c4, hv4⟩ : ∃ a c, lt.vc = .slice a lt.nd.cx.length c := by
    rcases ho1.2 with ⟨e, hn⟩ | ⟨gx, cx, _, e, _⟩
    · exact ⟨none, 0, by rw [e, hn]⟩
    · exact ⟨_, _, e⟩
  obtain ⟨a5, c5, hv5⟩ : ∃ a c, lt.ve = .slice a lt.nd.ed.length c := by
    rcases ho2.2 with ⟨e, hn⟩ | ⟨gx, cx, _, e, _⟩
    · exact ⟨none, 0, by rw [e, hn]⟩
    · exact ⟨_, _, e⟩
  clear hz he hlz hor k0 k1 k2 k3 ho1 ho2 hf0 hf1 hne
  cases ok
  · go_enter Tryd.func54, Tryd.ntmps54
    go_wp2_with (go_at_call 60; refine HRP.out.mono ?_; rintro e w1 ⟨rfl, hb⟩; have HB1 := hide3 (below_then hb (boxB w1 (.cells #[.string p.nm, .int .i64 p.a, .int .i64 p.b, .int .i64 p.c] 42))); clear hb)
    exact HNO.out _ (by rw [HL.out]; simp) (HLO.out _ HB1.out)
  · by_cases hed : lt.nd.ed = []
    · have hel : ((lt.nd.ed.length : Int)) = 0 := by rw [hed]; rfl
      have HL2 : Hid (LR = some (dn.map NV.nd ++ [addP p lt.nd])) := by unfold Hid; rw [HL.out, if_pos ⟨rfl, hed⟩]
      rw [hed, List.length_nil] at hv5
      clear HL hed hel
      go_enter Tryd.func54, Tryd.ntmps54
      go_wp2_with (go_at_call 60; refine HRP.out.mono ?_; rintro e w1 ⟨rfl, hb⟩; have HB1 := hide3 (below_then hb (boxB w1 (.cells #[.string p.nm, .int .i64 p.a, .int .i64 p.b, .int .i64 p.c] 42))); obtain ⟨_, x0, x1, x2⟩ := HFX.out _ HB1.out; obtain ⟨x3, x4⟩ := HCE.out _ x2; have HX2 := hide3 x2; rw [hv5] at x4; rw [hv4] at x3; clear hb x2)
      have HOW : Hid ((w1.alloc (.cells #[.string p.nm, .int .i64 p.a, .int .i64 p.b, .int .i64 p.c] 42)).ownsRow (R + 1) 42 4 (.slice a4 lt.nd.cx.length c4) lt.nd.cx.length (lt.nd.cx.flatMap pnC)) := by
        have := (HX2.out.2 lt (by simp)).1
        rw [hv4] at this
        exact this
      obtain ⟨⟨y1, y2, y3⟩, _⟩ := HFX.out _ HB1.out
      have HPN : Hid (∀ w2 v1, w2.ownsRow (R + 1) 42 4 v1 (lt.nd.cx.length + 1) (lt.nd.cx.flatMap pnC ++ pnC p) → (w1.alloc (.cells #[.string p.nm, .int .i64 p.a, .int .i64 p.b, .int .i64 p.c] 42)).grownBy w2 (Value.slice a4 lt.nd.cx.length c4).ownBlock → (v1.ownBlock = (Value.slice a4 lt.nd.cx.length c4).ownBlock ∨ ∃ k, v1.ownBlock = some k ∧ (w1.alloc (.cells #[.string p.nm, .int .i64 p.a, .int .i64 p.b, .int .i64 p.c] 42)).heap.size ≤ k) → (w2.cell? ⟨R, 1, none⟩ = some (.pointer (some ⟨g, dn.length * 6, none⟩)) ∧ w2.cell? ⟨g, dn.length * 6 + 4, none⟩ = some (Value.slice a4 lt.nd.cx.length c4) ∧ w2.frozen? ⟨g, dn.length * 6 + 4, none⟩ = false) ∧ RS R (dn.map NV.nd ++ [addP p lt.nd]) (w2.setCell ⟨g, dn.length * 6 + 4, none⟩ v1) ∧ Below R (w1.alloc (.cells #[.string p.nm, .int .i64 p.a, .int .i64 p.b, .int .i64 p.c] 42)) (w2.setCell ⟨g, dn.length * 6 + 4, none⟩ v1)) := fun w2 v1 ho hg hat => by
        have := RS.pinned (p := p) (w1 := w2) (v1 := v1) y1 y2 y3 x0 x1 HX2.out HLA.out ho (by rw [hv4]; exact hg) (by rw [hv4]; exact hat)
        rw [hv4] at this
        exact this
      have hRw : R + 1 ≤ (w1.alloc (.cells #[.string p.nm, .int .i64 p.a, .int .i64 p.b, .int .i64 p.c] 42)).heap.size := y1
      have x1' := ((boxB (w1.alloc (.cells #[.string p.nm, .int .i64 p.a, .int .i64 p.b, .int .i64 p.c] 42)) (.cells #[.string p.nm, .int .i64 p.a, .int .i64 p.b, .int .i64 p.c] 42)).cell (p := ⟨R, 1, none⟩) y1).trans x1
      have x3' := ((boxB (w1.alloc (.cells #[.string p.nm, .int .i64 p.a, .int .i64 p.b, .int .i64 p.c] 42)) (.cells #[.string p.nm, .int .i64 p.a, .int .i64 p.b, .int .i64 p.c] 42)).cell (p := ⟨g, dn.length * 6 + 4, none⟩) (cell_in x3)).trans x3
      clear y2 y3
      go_region_law (refine step_own (B := R + 1) (M := w1.heap.size + 1) (wx := (w1.alloc (.cells #[.string p.nm, .int .i64 p.a, .int .i64 p.b, .int .i64 p.c] 42)).drew) (v := .slice a4 lt.nd.cx.length c4) infoPin Tryd.underlying35 rfl (by decide) (by decide) rfl (.tmp 35) (.tmp 37) rfl rfl HOW.out.drew hRw #[.string p.nm, .int .i64 p.a, .int .i64 p.b, .int .i64 p.c] rfl (by simp [Value.oneCell']) (by simp) rfl (by omega) ?_; intro v1 w2 ho hg hat; obtain ⟨g1, cap1, rfl, _⟩ := ho.form (by omega); have HP2 := hide3 (HPN.out w2 _ ho (grown_pre (below_then (Below.refl _ _).drew (boxB _ _)) hg) (hat.imp id fun e => ⟨_, e, by simp⟩)); obtain ⟨⟨n1, n4, nf⟩, _, _⟩ := HP2.out; clear ho hg hat)
      all_goals go_wp2
      all_goals exact HYE.out _ _ HL2.out HP2.out.2.1 ((HLO.out _ HB1.out).trans HP2.out.2.2)
    · have hel : (0 : Int) < (lt.nd.ed.length : Int) := by
        have : lt.nd.ed.length ≠ 0 := fun e => hed (List.eq_nil_of_length_eq_zero e)
        omega
      have hel2 : 0 < lt.nd.ed.length := by omega
      have HL2 : Hid (LR = none) := by unfold Hid; rw [HL.out, if_neg (fun q => hed q.2)]
      clear HL hed
      go_enter Tryd.func54, Tryd.ntmps54
      go_wp2_with (go_at_call 60; refine HRP.out.mono ?_; rintro e w1 ⟨rfl, hb⟩; have HB1 := hide3 (below_then hb (boxB w1 (.cells #[.string p.nm, .int .i64 p.a, .int .i64 p.b, .int .i64 p.c] 42))); obtain ⟨_, x0, x1, x2⟩ := HFX.out _ HB1.out; obtain ⟨x3, x4⟩ := HCE.out _ x2; rw [hv5] at x4; rw [hv4] at x3; clear hb x2)
      exact HNO.out _ HL2.out (HLO.out _ HB1.out)

set_option maxHeartbeats 12800000 in
theorem takeEdge_any {R : Nat} {st : List Nd} {w : World} {vw : Value} {ws : List Bs} (h : RS R st w) (hne : st ≠ []) (hlz : ∀ n ∈ st, n.ed.length ≤ 1000000) (hw : WordsAt w vw ws) (hz : ∀ x ∈ ws, x.length ≤ 2000000) (he : Env w) : Calls Tryd.prog 55 #[.pointer (some ⟨R, 0, none⟩), vw] w (TakeQ R w (edgesR st ws)) := by
  have HRP := hide3 (readEdge_any hw hz he)
  have HLO : Hid (∀ W, Below w.heap.size w W → Below R w W) := fun W hb => h.low hb
  have HRS := hide3 h
  have HYE : Hid (∀ st' w', edgesR st ws = some st' → RS R st' w' → Below R w w' → TakeQ R w (edgesR st ws) (.returned (.bool true)) w') := fun st' w' e hs hb => TakeQ.yes e hb hs
  have HNO : Hid (∀ w', edgesR st ws = none → Below R w w' → TakeQ R w (edgesR st ws) (.returned (.bool false)) w') := fun w' e hb => TakeQ.no e hb
  obtain ⟨ad, cap, rfl, _, _⟩ := hw
  obtain ⟨⟨hR, hf0, hf1⟩, hor⟩ := h
  obtain ⟨g, gc, dn, lt, rfl, k0, k1, k2, k3⟩ := hor.resolve_left (fun q => hne q.1)
  have HL : Hid (edgesR ((dn ++ [lt]).map NV.nd) ws = if (edgR ws).2 = true then some (dn.map NV.nd ++ [addE (edgR ws).1 lt.nd]) else none) := by
    unfold Hid edgesR
    rw [List.map_append, List.map_cons, List.map_nil, modLast_snoc]
  have hzl := hlz lt.nd (by simp)
  generalize TakeQ R w (edgesR ((dn ++ [lt]).map NV.nd) ws) = QQ at *
  generalize edgesR ((dn ++ [lt]).map NV.nd) ws = LR at *
  generalize (edgR ws).2 = ok at *
  generalize (edgR ws).1 = p at *
  have HFX : Hid (∀ W, Below w.heap.size w W → (R < W.heap.size ∧ W.frozen? ⟨R, 0, none⟩ = false ∧ W.frozen? ⟨R, 1, none⟩ = false) ∧ W.cell? ⟨R, 0, none⟩ = some (.slice (some ⟨g, 0, none⟩) (dn.length + 1) gc) ∧ W.cell? ⟨R, 1, none⟩ = some (.pointer (some ⟨g, dn.length * 6, none⟩)) ∧ RA W (R + 1) (.slice (some ⟨g, 0, none⟩) (dn.length + 1) gc) (dn ++ [lt])) := fun W hb =>
    ⟨⟨Nat.lt_of_lt_of_le hR hb.size, (hb.frozen (p := ⟨R, 0, none⟩) hR).trans hf0, (hb.frozen (p := ⟨R, 1, none⟩) hR).trans hf1⟩, (hb.cell (p := ⟨R, 0, none⟩) hR).trans k0, (hb.cell (p := ⟨R, 1, none⟩) hR).trans k1, k2.below hb⟩
  have HLA := hide3 k3
  have HCE : Hid (∀ W, RA W (R + 1) (.slice (some ⟨g, 0, none⟩) (dn.length + 1) gc) (dn ++ [lt]) → W.cell? ⟨g, dn.length * 6 + 4, none⟩ = some lt.vc ∧ W.cell? ⟨g, dn.length * 6 + 5, none⟩ = some lt.ve) := fun W hr => by
    have hrow := hr.1
    rw [show (dn ++ [lt]).length = dn.length + 1 by simp] at hrow
    exact ⟨by rw [hrow.cellAt (dn.length * 6 + 4) (by omega), flat_get]; rfl, by rw [hrow.cellAt (dn.length * 6 + 5) (by omega), flat_get]; rfl⟩
  obtain ⟨ho1, ho2⟩ := k2.2 lt (by simp)
  obtain ⟨a4, c4, hv4⟩ : ∃ a c, lt.vc = .slice a lt.nd.cx.length c := by
    rcases ho1.2 with ⟨e, hn⟩ | ⟨gx, cx, _, e, _⟩
    · exact ⟨none, 0, by rw [e, hn]⟩
    · exact ⟨_, _, e⟩
  obtain ⟨a5, c5, hv5⟩ : ∃ a c, lt.ve = .slice a lt.nd.ed.length c := by
    rcases ho2.2 with ⟨e, hn⟩ | ⟨gx, cx, _, e, _⟩
    · exact ⟨none, 0, by rw [e, hn]⟩
    · exact ⟨_, _, e⟩
  clear hz he hlz hor k0 k1 k2 k3 ho1 ho2 hf0 hf1 hne
  cases ok
  · go_enter Tryd.func55, Tryd.ntmps55
    go_wp2_with (go_at_call 61; refine HRP.out.mono ?_; rintro e w1 ⟨rfl, hb⟩; have HB1 := hide3 (below_then hb (boxB w1 (.cells #[.string p.lb, .int .i64 p.to] 40))); clear hb)
    exact HNO.out _ (by rw [HL.out]; simp) (HLO.out _ HB1.out)
  · have HL2 : Hid (LR = some (dn.map NV.nd ++ [addE p lt.nd])) := by unfold Hid; rw [HL.out, if_pos rfl]
    clear HL
    go_enter Tryd.func55, Tryd.ntmps55
    go_wp2_with (go_at_call 61; refine HRP.out.mono ?_; rintro e w1 ⟨rfl, hb⟩; have HB1 := hide3 (below_then hb (boxB w1 (.cells #[.string p.lb, .int .i64 p.to] 40))); obtain ⟨_, x0, x1, x2⟩ := HFX.out _ HB1.out; obtain ⟨x3, x4⟩ := HCE.out _ x2; have HX2 := hide3 x2; rw [hv5] at x4; rw [hv4] at x3; clear hb x2)
    have HOW : Hid ((w1.alloc (.cells #[.string p.lb, .int .i64 p.to] 40)).ownsRow (R + 1) 40 2 (.slice a5 lt.nd.ed.length c5) lt.nd.ed.length (lt.nd.ed.flatMap egC)) := by
      have := (HX2.out.2 lt (by simp)).2
      rw [hv5] at this
      exact this
    obtain ⟨⟨y1, y2, y3⟩, _⟩ := HFX.out _ HB1.out
    have HPN : Hid (∀ w2 v1, w2.ownsRow (R + 1) 40 2 v1 (lt.nd.ed.length + 1) (lt.nd.ed.flatMap egC ++ egC p) → (w1.alloc (.cells #[.string p.lb, .int .i64 p.to] 40)).grownBy w2 (Value.slice a5 lt.nd.ed.length c5).ownBlock → (v1.ownBlock = (Value.slice a5 lt.nd.ed.length c5).ownBlock ∨ ∃ k, v1.ownBlock = some k ∧ (w1.alloc (.cells #[.string p.lb, .int .i64 p.to] 40)).heap.size ≤ k) → (w2.cell? ⟨R, 1, none⟩ = some (.pointer (some ⟨g, dn.length * 6, none⟩)) ∧ w2.cell? ⟨g, dn.length * 6 + 5, none⟩ = some (Value.slice a5 lt.nd.ed.length c5) ∧ w2.frozen? ⟨g, dn.length * 6 + 5, none⟩ = false) ∧ RS R (dn.map NV.nd ++ [addE p lt.nd]) (w2.setCell ⟨g, dn.length * 6 + 5, none⟩ v1) ∧ Below R (w1.alloc (.cells #[.string p.lb, .int .i64 p.to] 40)) (w2.setCell ⟨g, dn.length * 6 + 5, none⟩ v1)) := fun w2 v1 ho hg hat => by
      have := RS.edged (p := p) (w1 := w2) (v1 := v1) y1 y2 y3 x0 x1 HX2.out HLA.out ho (by rw [hv5]; exact hg) (by rw [hv5]; exact hat)
      rw [hv5] at this
      exact this
    have hRw : R + 1 ≤ (w1.alloc (.cells #[.string p.lb, .int .i64 p.to] 40)).heap.size := y1
    have x1' := ((boxB (w1.alloc (.cells #[.string p.lb, .int .i64 p.to] 40)) (.cells #[.string p.lb, .int .i64 p.to] 40)).cell (p := ⟨R, 1, none⟩) y1).trans x1
    have x4' := ((boxB (w1.alloc (.cells #[.string p.lb, .int .i64 p.to] 40)) (.cells #[.string p.lb, .int .i64 p.to] 40)).cell (p := ⟨g, dn.length * 6 + 5, none⟩) (cell_in x4)).trans x4
    clear y2 y3
    go_region_law (refine step_own (B := R + 1) (M := w1.heap.size + 1) (wx := (w1.alloc (.cells #[.string p.lb, .int .i64 p.to] 40)).drew) (v := .slice a5 lt.nd.ed.length c5) infoEdge Tryd.underlying36 rfl (by decide) (by decide) rfl (.tmp 24) (.tmp 26) rfl rfl HOW.out.drew hRw #[.string p.lb, .int .i64 p.to] rfl (by simp [Value.oneCell']) (by simp) rfl (by omega) ?_; intro v1 w2 ho hg hat; obtain ⟨g1, cap1, rfl, _⟩ := ho.form (by omega); have HP2 := hide3 (HPN.out w2 _ ho (grown_pre (below_then (Below.refl _ _).drew (boxB _ _)) hg) (hat.imp id fun e => ⟨_, e, by simp⟩)); obtain ⟨⟨n1, n4, nf⟩, _, _⟩ := HP2.out; clear ho hg hat)
    all_goals go_wp2
    all_goals exact HYE.out _ _ HL2.out HP2.out.2.1 ((HLO.out _ HB1.out).trans HP2.out.2.2)

end Go.Proofs.YtikplmckjcceaaaDoor
namespace Go.Proofs.YtikplmckjcceaaaDoor
open Go.RowKit
open Sc (KeepP hide3 keepBelow Bs ba WordsAt)
set_option maxRecDepth 100000

def wRoot : Bs := [114, 111, 111, 116]
def wNode : Bs := [110, 111, 100, 101]
def wWith : Bs := [119, 105, 116, 104]
def wTo : Bs := [116, 111]
/-- What take answers. -/
def takeR (st : List Nd) (x : Bs) (ws : List Bs) : Option (List Nd) :=
  if x = wRoot then (if st = [] then firstR st ws else none)
  else if st = [] then none
  else if x = wNode then laterR st ws else if x = wWith then pinsR st ws else if x = wTo then edgesR st ws else none
theorem ba_toL (x : Bs) : (ba x).toList = x := by rw [ByteArray.toList_eq, Sc.ba_list]
theorem ba_is (x y : Bs) : ((ba x).toList == y) = decide (x = y) := by
  rw [ba_toL]
  by_cases h : x = y
  · rw [decide_eq_true h, h]; simp
  · rw [decide_eq_false h, beq_eq_false_iff_ne]; exact h

set_option maxHeartbeats 3200000 in
theorem take_any {R : Nat} {st : List Nd} {w : World} {vw : Value} {x : Bs} {ws : List Bs} (h : RS R st w) (hlen : st.length ≤ 1000000) (hlz : ∀ n ∈ st, n.cx.length ≤ 1000000 ∧ n.ed.length ≤ 1000000) (hw : WordsAt w vw ws) (hz : ∀ x ∈ ws, x.length ≤ 2000000) (he : Env w) :
    Calls Tryd.prog 42 #[.pointer (some ⟨R, 0, none⟩), .string (ba x), vw] w (TakeQ R w (takeR st x ws)) := by
  have q1 := ba_is x [114, 111, 111, 116]
  have q2 := ba_is x [110, 111, 100, 101]
  have q3 := ba_is x [119, 105, 116, 104]
  have q4 := ba_is x [116, 111]
  have HNO : Hid (∀ r, r = none → TakeQ R w r (.returned (.bool false)) w) := fun r hr => TakeQ.no hr (Below.refl _ _)
  have HTF : Hid (Calls Tryd.prog 52 #[.pointer (some ⟨R, 0, none⟩), vw] w (TakeQ R w (firstR st ws))) := takeFirst_any h hlen hw
  have HTL : Hid (Calls Tryd.prog 53 #[.pointer (some ⟨R, 0, none⟩), vw] w (TakeQ R w (laterR st ws))) := takeLater_any h hlen hw hz he
  have HTP : Hid (st ≠ [] → Calls Tryd.prog 54 #[.pointer (some ⟨R, 0, none⟩), vw] w (TakeQ R w (pinsR st ws))) := fun hne => takePin_any h hne (fun n hn => (hlz n hn).1) hw hz he
  have HTE : Hid (st ≠ [] → Calls Tryd.prog 55 #[.pointer (some ⟨R, 0, none⟩), vw] w (TakeQ R w (edgesR st ws))) := fun hne => takeEdge_any h hne (fun n hn => (hlz n hn).2) hw hz he
  have HBO : Hid (∀ r e w', TakeQ R w r e w' → ∃ b, e = .returned (.bool b)) := fun r e w' hq => by
    rcases hq.2 with ⟨_, _, he, _⟩ | ⟨_, he⟩
    · exact ⟨_, he⟩
    · exact ⟨_, he⟩
  obtain ⟨ad, cap, rfl, _, _⟩ := hw
  clear hz he hlz
  by_cases hst : st = []
  · have c1 : w.cell? ⟨R, 1, none⟩ = some (.pointer none) := by
      rcases h.2 with ⟨_, _, k⟩ | ⟨g, gc, dn, lt, e, _⟩
      · exact k
      · rw [hst] at e; simp at e
    clear h
    by_cases h1 : x = wRoot
    · have e1 : takeR st x ws = firstR st ws := by unfold takeR; rw [if_pos h1, if_pos hst]
      rw [decide_eq_true (show x = [114, 111, 111, 116] from h1)] at q1
      have HQ1 := hide3 (HBO.out (firstR st ws))
      rw [e1]
      generalize TakeQ R w (firstR st ws) = QQ at *
      clear e1 h1 hst q2 q3 q4
      generalize ba x = sx at *
      go_enter Tryd.func42, Tryd.ntmps42
      go_wp2_with (go_at_call 52; refine HTF.out.mono ?_; intro e w1 hq1; obtain ⟨b1, rfl⟩ := HQ1.out _ _ hq1)
      exact hq1
    · have e1 : takeR st x ws = none := by unfold takeR; rw [if_neg h1, if_pos hst]
      rw [decide_eq_false (show ¬ x = [114, 111, 111, 116] from h1)] at q1
      rw [e1]
      have HN := hide3 (HNO.out none rfl)
      generalize TakeQ R w none = QQ at *
      clear e1 h1 hst q2 q3 q4
      generalize ba x = sx at *
      go_enter Tryd.func42, Tryd.ntmps42
      go_wp2
      exact HN.out
  · obtain ⟨g1, o1, c1⟩ : ∃ g o, w.cell? ⟨R, 1, none⟩ = some (.pointer (some ⟨g, o, none⟩)) := by
      rcases h.2 with ⟨e, _⟩ | ⟨g, gc, dn, lt, _, _, k, _⟩
      · exact absurd e hst
      · exact ⟨_, _, k⟩
    clear h
    by_cases h1 : x = wRoot
    · have e1 : takeR st x ws = none := by unfold takeR; rw [if_pos h1, if_neg hst]
      rw [decide_eq_true (show x = [114, 111, 111, 116] from h1)] at q1
      rw [e1]
      have HN := hide3 (HNO.out none rfl)
      generalize TakeQ R w none = QQ at *
      clear e1 h1 hst q2 q3 q4
      generalize ba x = sx at *
      go_enter Tryd.func42, Tryd.ntmps42
      go_wp2
      exact HN.out
    · rw [decide_eq_false (show ¬ x = [114, 111, 111, 116] from h1)] at q1
      by_cases h2 : x = wNode
      · have e1 : takeR st x ws = laterR st ws := by unfold takeR; rw [if_neg h1, if_neg hst, if_pos h2]
        rw [decide_eq_true (show x = [110, 111, 100, 101] from h2)] at q2
        have HQ1 := hide3 (HBO.out (laterR st ws))
        rw [e1]
        generalize TakeQ R w (laterR st ws) = QQ at *
        clear e1 h1 h2 hst q3 q4
        generalize ba x = sx at *
        go_enter Tryd.func42, Tryd.ntmps42
        go_wp2_with (go_at_call 53; refine HTL.out.mono ?_; intro e w1 hq1; obtain ⟨b1, rfl⟩ := HQ1.out _ _ hq1)
        exact hq1
      · rw [decide_eq_false (show ¬ x = [110, 111, 100, 101] from h2)] at q2
        by_cases h3 : x = wWith
        · have e1 : takeR st x ws = pinsR st ws := by unfold takeR; rw [if_neg h1, if_neg hst, if_neg h2, if_pos h3]
          rw [decide_eq_true (show x = [119, 105, 116, 104] from h3)] at q3
          have HT := hide3 (HTP.out hst)
          have HQ1 := hide3 (HBO.out (pinsR st ws))
          rw [e1]
          generalize TakeQ R w (pinsR st ws) = QQ at *
          clear e1 h1 h2 h3 hst q4
          generalize ba x = sx at *
          go_enter Tryd.func42, Tryd.ntmps42
          go_wp2_with (go_at_call 54; refine HT.out.mono ?_; intro e w1 hq1; obtain ⟨b1, rfl⟩ := HQ1.out _ _ hq1)
          exact hq1
        · rw [decide_eq_false (show ¬ x = [119, 105, 116, 104] from h3)] at q3
          by_cases h4 : x = wTo
          · have e1 : takeR st x ws = edgesR st ws := by unfold takeR; rw [if_neg h1, if_neg hst, if_neg h2, if_neg h3, if_pos h4]
            rw [decide_eq_true (show x = [116, 111] from h4)] at q4
            have HT := hide3 (HTE.out hst)
            have HQ1 := hide3 (HBO.out (edgesR st ws))
            rw [e1]
            generalize TakeQ R w (edgesR st ws) = QQ at *
            clear e1 h1 h2 h3 h4 hst
            generalize ba x = sx at *
            go_enter Tryd.func42, Tryd.ntmps42
            go_wp2_with (go_at_call 55; refine HT.out.mono ?_; intro e w1 hq1; obtain ⟨b1, rfl⟩ := HQ1.out _ _ hq1)
            exact hq1
          · have e1 : takeR st x ws = none := by unfold takeR; rw [if_neg h1, if_neg hst, if_neg h2, if_neg h3, if_neg h4]
            rw [decide_eq_false (show ¬ x = [116, 111] from h4)] at q4
            rw [e1]
            have HN := hide3 (HNO.out none rfl)
            generalize TakeQ R w none = QQ at *
            clear e1 h1 h2 h3 h4 hst
            generalize ba x = sx at *
            go_enter Tryd.func42, Tryd.ntmps42
            go_wp2
            exact HN.out
end Go.Proofs.YtikplmckjcceaaaDoor
