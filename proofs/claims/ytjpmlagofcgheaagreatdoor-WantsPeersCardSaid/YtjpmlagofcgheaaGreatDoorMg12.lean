/- Ct14, Ct12, Ct15, Ct16, laid in one text. -/
import Derived.Deep.RegionHeld3
import Derived.Test.YtjpmlagofcgheaaGreatDoorMg11
namespace Go.Proofs.YtjpmlagofcgheaaGreatDoor
open Go.RowKit Go.Maps Go.WideMaps
set_option maxRecDepth 100000

theorem infoPin : (Tryz.prog.info? 58).map (fun i => (i.zero, i.size, i.bytes)) = some (some (.agg #[.string ⟨#[]⟩, .int .i64 0, .int .i64 0, .int .i64 0]), 4, 40) := by kernel_rfl
def encC (x : CV) : List Value := [.string x.pg.nm, .int .i64 x.pg.a, .int .i64 x.pg.b, .int .i64 x.pg.c]
/-- The two parts of the loop over the iterator. -/
def asgC : Code := Code.region 2 #[{ dst := some 5, op := Op.alloc 58, type := 0, pos := "iter.go:51", after := #[], guard := none }, { dst := none, op := Op.store 58 (Operand.tmp 5) (Operand.tmp 7), type := 0, pos := "iter.go:51", after := #[{ on := 0, ground := Ground.data }, { on := 0, ground := Ground.phase }], guard := none }] false
def bodC : Code := Code.block 1 (Code.region 3 #[{ dst := some 8, op := Op.load 40 (Operand.tmp 2), type := 40, pos := "iter.go:52", after := #[], guard := none }, { dst := some 9, op := Op.load 58 (Operand.tmp 5), type := 58, pos := "iter.go:52", after := #[], guard := none }, { dst := some 10, op := Op.buildSlice 40 1 #[(0, Operand.tmp 9)], type := 40, pos := "iter.go:52", after := #[{ on := 1, ground := Ground.data }], guard := none }, { dst := some 11, op := Op.call { callee := Callee.builtin Builtin.append, args := #[Operand.tmp 8, Operand.tmp 10], argTypes := #[40, 40] }, type := 40, pos := "iter.go:52", after := #[{ on := 0, ground := Ground.data }, { on := 2, ground := Ground.data }], guard := none }, { dst := none, op := Op.store 40 (Operand.tmp 2) (Operand.tmp 11), type := 0, pos := "iter.go:52", after := #[{ on := 3, ground := Ground.data }, { on := 3, ground := Ground.chain }, { on := 0, ground := Ground.phase }, { on := 1, ground := Ground.phase }, { on := 2, ground := Ground.phase }, { on := 3, ground := Ground.phase }], guard := none }] false)
def recC (fn : FuncId) (sv : Value) (Bs D : Nat) (st : LoopState) : Loop :=
  { state := st, pending := none, fn, tmps := #[.slice none 0 0, sv, .pointer (some ⟨Bs, 0, none⟩), undef, .slice none 0 0, undef, sv, undef, undef, undef, undef, undef, undef], params := #[7], assign := asgC, body := bodC, defers := D }
/-- Between two rounds: the box has a row of what came so far; what lay ahead of the call is as it was. -/
structure SoFar (w0 : World) (fn : FuncId) (sv : Value) (Bs l D : Nat) (V : List CV) (W : World) : Prop where
  box : ∃ v, W.heap[Bs]? = some (.cells #[v] 40 (0, 0)) ∧ W.ownsRow w0.heap.size 58 4 v V.length (V.flatMap encC)
  L : W.heap[l]? = some (.loop (recC fn sv Bs D .ready))
  K : W.heap[D]? = some (.deferred (some []))
  below : Below w0.heap.size w0 W
theorem news_box (w : World) (cs : Array Value) (t : TypeId) : ∀ j u, cs.toList[j]? = some u → (w.alloc (.cells cs t)).cell? ((⟨w.heap.size, 0, none⟩ : Addr).add j) = some u :=
  World.news_of_block (cs := cs) (t := t) (fr := (0, 0)) (by show (w.heap.push _)[w.heap.size]? = _; rw [Array.getElem?_push, if_pos rfl])
theorem row_other {W : World} {base : Nat} {e : TypeId} {size : Nat} {v : Value} {k : Nat} {xs : List Value} (h : W.ownsRow base e size v k xs) {j : Nat} {o : Obj} (hj : W.heap[j]? = some o) (hno : ∀ cur, o ≠ .cells cur e (0, 0)) : v.ownBlock = none ∨ v.ownBlock ≠ some j := by
  rcases h.2 with ⟨rfl, _⟩ | ⟨g, cap, cur, rfl, _, hgb, _⟩
  · exact .inl rfl
  · refine .inr fun e' => ?_
    obtain rfl : g = j := by simpa [Value.ownBlock] using e'
    rw [hgb] at hj
    cases hj
    exact hno cur rfl
theorem row_walk {W W' : World} {row : Option Nat} {base : Nat} {e : TypeId} {size : Nat} {v : Value} {k : Nat} {xs : List Value} (h : W.ownsRow base e size v k xs) (hg : W.grownBy W' row) (hr : ∀ r, row = some r → ∃ o : Obj, W.heap[r]? = some o ∧ o.isWalk = true) : W'.ownsRow base e size v k xs := by
  refine h.kept hg ?_
  rcases h.2 with ⟨rfl, _⟩ | ⟨g, cap, cur, rfl, _, hgb, _⟩
  · exact .inl rfl
  · refine .inr fun e' => ?_
    obtain ⟨o, ho, hw⟩ := hr g (by simpa [Value.ownBlock] using e'.symm)
    rw [hgb] at ho
    cases ho
    cases hw
theorem row_nowalk {W : World} {base : Nat} {e : TypeId} {size : Nat} {v : Value} {k : Nat} {xs : List Value} (h : W.ownsRow base e size v k xs) : ∀ (j : Nat) (o : Obj), v.ownBlock = some j → W.heap[j]? = some o → o.isWalk = false := by
  intro j o hj ho
  rcases h.2 with ⟨rfl, _⟩ | ⟨g, cap, cur, rfl, _, hgb, _⟩
  · simp [Value.ownBlock] at hj
  · obtain rfl : g = j := by simpa [Value.ownBlock] using hj
    rw [hgb] at ho
    cases ho
    rfl
theorem put_grown (W : World) (l : Nat) (o : Obj) : W.grownBy (W.putObj l o) (some l) := ⟨rfl, rfl, rfl, by simp, fun k _ hk => World.putObj_heap_other (fun e => hk (by rw [e]))⟩
theorem SoFar.abides (w0 : World) (fn : FuncId) (sv : Value) (Bs l D B : Nat) (hB : w0.heap.size ≤ B) : AbidesFrom B (SoFar w0 fn sv Bs l D) := fun s W W' row h hg hrow => by
  have hrow' : ∀ r, row = some r → ∃ o : Obj, W.heap[r]? = some o ∧ o.isWalk = true := fun r e => (hrow r e).2
  obtain ⟨v, hv, hr⟩ := h.box
  exact ⟨⟨v, (grownBy_keeps hg hrow' hv rfl).trans hv, row_walk hr hg hrow'⟩, (grownBy_keeps hg hrow' h.L rfl).trans h.L, (grownBy_keeps hg hrow' h.K rfl).trans h.K, h.below.grown hg h.below.size (fun k e => Nat.le_trans hB (hrow k e).1)⟩

set_option maxHeartbeats 3200000 in
theorem yieldC (m : Nat) (w0 : World) (fn : FuncId) (sv : Value) (Bs l D : Nat) (hBl : Bs ≠ l) (hDl : D ≠ l) (hDB : D ≠ Bs) (h0B : w0.heap.size ≤ Bs) (h0l : w0.heap.size ≤ l) (V : List CV) (x : CV) (W : World) (h : SoFar w0 fn sv Bs l D V W) (hlen : V.length ≤ 1000000) :
    YieldAt Fence.wide m Tryz.prog l #[pinC x] W fun e W' => e = .returned (.bool true) ∧ SoFar w0 fn sv Bs l D (V ++ [x]) W' ∧ KeepsWalks W W' := by
  obtain ⟨i0, hi, hz0, hz1, hz2⟩ := Sc.info_parts infoPin
  have hne : (40 : Nat) ≠ 58 := by decide
  obtain ⟨v, hv, hrow⟩ := h.box
  refine ⟨fn, #[.slice none 0 0, sv, .pointer (some ⟨Bs, 0, none⟩), undef, .slice none 0 0, undef, sv, pinC x, undef, undef, undef, undef, undef], asgC, bodC, by simpa [recC] using run_yield (P := Tryz.prog) (args := #[pinC x]) h.L rfl, roundIn_of_wpIn trivial ?_⟩
  have hl : l < W.heap.size := (Array.getElem?_eq_some_iff.1 h.L).1
  have hBW : Bs < W.heap.size := (Array.getElem?_eq_some_iff.1 hv).1
  have hDW : D < W.heap.size := (Array.getElem?_eq_some_iff.1 h.K).1
  have e0 : (W.alloc (.cells #[.string x.pg.nm, .int .i64 x.pg.a, .int .i64 x.pg.b, .int .i64 x.pg.c] 58)).cell? ⟨W.heap.size, 0, none⟩ = some (.string x.pg.nm) := by simp
  have e1 : (W.alloc (.cells #[.string x.pg.nm, .int .i64 x.pg.a, .int .i64 x.pg.b, .int .i64 x.pg.c] 58)).cell? ⟨W.heap.size, 1, none⟩ = some (.int .i64 x.pg.a) := by simp
  have e2 : (W.alloc (.cells #[.string x.pg.nm, .int .i64 x.pg.a, .int .i64 x.pg.b, .int .i64 x.pg.c] 58)).cell? ⟨W.heap.size, 2, none⟩ = some (.int .i64 x.pg.b) := by simp
  have e3 : (W.alloc (.cells #[.string x.pg.nm, .int .i64 x.pg.a, .int .i64 x.pg.b, .int .i64 x.pg.c] 58)).cell? ⟨W.heap.size, 3, none⟩ = some (.int .i64 x.pg.c) := by simp
  have hs1 : (W.alloc (.cells #[.string x.pg.nm, .int .i64 x.pg.a, .int .i64 x.pg.b, .int .i64 x.pg.c] 58)).heap.size = W.heap.size + 1 := by simp
  have hv1 : (W.alloc (.cells #[.string x.pg.nm, .int .i64 x.pg.a, .int .i64 x.pg.b, .int .i64 x.pg.c] 58)).heap[Bs]? = some (.cells #[v] 40 (0, 0)) := (Below.heap_alloc _ _ Bs hBW).trans hv
  have hK1 : (W.alloc (.cells #[.string x.pg.nm, .int .i64 x.pg.a, .int .i64 x.pg.b, .int .i64 x.pg.c] 58)).heap[D]? = some (.deferred (some [])) := (Below.heap_alloc _ _ D hDW).trans h.K
  have hL1 : (W.alloc (.cells #[.string x.pg.nm, .int .i64 x.pg.a, .int .i64 x.pg.b, .int .i64 x.pg.c] 58)).heap[l]? = some (.loop (recC fn sv Bs D .ready)) := (Below.heap_alloc _ _ l hl).trans h.L
  have hrow1 := hrow.alloc (.cells #[.string x.pg.nm, .int .i64 x.pg.a, .int .i64 x.pg.b, .int .i64 x.pg.c] 58)
  have hb1 : Below w0.heap.size w0 (W.alloc (.cells #[.string x.pg.nm, .int .i64 x.pg.a, .int .i64 x.pg.b, .int .i64 x.pg.c] 58)) := h.below.alloc h.below.size _
  have hk1 : KeepsWalks W (W.alloc (.cells #[.string x.pg.nm, .int .i64 x.pg.a, .int .i64 x.pg.b, .int .i64 x.pg.c] 58)) := KeepsWalks.alloc _ _
  unfold asgC
  unfold pinC
  gi_wp2_with (rw [Oper.semAt_eq _ _ _ (fun c h => by cases h)]; go_simp; try go_bits)
  generalize (W.alloc (.cells #[.string x.pg.nm, .int .i64 x.pg.a, .int .i64 x.pg.b, .int .i64 x.pg.c] 58)) = W1 at *
  have hbr := run_beginRound (P := Tryz.prog) hL1 rfl
  obtain ⟨W2, hW2⟩ : ∃ W2, W1.putObj l (.loop { recC fn sv Bs D .ready with state := .busy }) = W2 := ⟨_, rfl⟩
  rw [hW2] at hbr
  have hl1 : l < W1.heap.size := by omega
  have hg2 : W1.grownBy W2 (some l) := by rw [← hW2]; exact put_grown _ _ _
  have hk2 : KeepsWalks W W2 := by rw [← hW2]; exact hk1.trans (KeepsWalks.putObj _ hL1 rfl)
  have hv2 : W2.heap[Bs]? = some (.cells #[v] 40 (0, 0)) := by rw [← hW2]; exact (World.putObj_heap_other hBl).trans hv1
  have hK2 : W2.heap[D]? = some (.deferred (some [])) := by rw [← hW2]; exact (World.putObj_heap_other hDl).trans hK1
  have hL2 : W2.heap[l]? = some (.loop { recC fn sv Bs D .ready with state := .busy }) := by rw [← hW2]; exact World.putObj_heap_same hl1
  have hrow2 : W2.ownsRow w0.heap.size 58 4 v V.length (V.flatMap encC) := hrow1.kept hg2 (row_other hrow1 hL1 (fun cur e => by cases e))
  have hb2 : Below w0.heap.size w0 W2 := hb1.grown hg2 hb1.size (fun k e => by cases e; exact h0l)
  have hnl : some W.heap.size ≠ some l := fun e => by have := Option.some.inj e; omega
  have d0 := (World.cell?_of_block (a := ⟨W.heap.size, 0, none⟩) (hg2.block W.heap.size (by omega) hnl)).trans e0
  have d1 := (World.cell?_of_block (a := ⟨W.heap.size, 1, none⟩) (hg2.block W.heap.size (by omega) hnl)).trans e1
  have d2 := (World.cell?_of_block (a := ⟨W.heap.size, 2, none⟩) (hg2.block W.heap.size (by omega) hnl)).trans e2
  have d3 := (World.cell?_of_block (a := ⟨W.heap.size, 3, none⟩) (hg2.block W.heap.size (by omega) hnl)).trans e3
  obtain ⟨hc2, hf2⟩ : W2.cell? ⟨Bs, 0, none⟩ = some v ∧ W2.frozen? ⟨Bs, 0, none⟩ = false := by constructor <;> simp [World.cell?, World.frozen?, hv2]
  have hBlt : Bs < W2.heap.size := (Array.getElem?_eq_some_iff.1 hv2).1
  have hl2 : l < W2.heap.size := (Array.getElem?_eq_some_iff.1 hL2).1
  have hDlt : D < W2.heap.size := (Array.getElem?_eq_some_iff.1 hK2).1
  have hno : ∀ {j : Nat} {o : Obj}, W2.heap[j]? = some o → (∀ cur, o ≠ .cells cur 58 (0, 0)) → some j ≠ v.ownBlock := fun hj hno => by
    rcases row_other hrow2 hj hno with e | e
    · rw [e]; simp
    · exact fun e' => e e'.symm
  have hnb : ∀ cur, Obj.cells #[v] 40 (0, 0) ≠ .cells cur 58 (0, 0) := fun cur e => hne (Obj.cells.inj e).2.1
  refine ⟨W2, hbr, ?_⟩
  clear hbr hW2 e0 e1 e2 e3
  unfold bodC
  gi_wp2_with (first
    | (gi_at_builtin; refine wpListIn_append_own _ rfl _ _ 40 rfl w0.heap.size 58 i0 _ 4 40 Tryz.underlying40 hi hz0 hz1 hz2 rfl (by decide) _ _ _ rfl (hrow2.alloc _) ⟨W2.heap.size, 0, none⟩ 1 1 (encC x) rfl rfl (news_box _ _ _) (by simp [Value.oneCell', encC]) (by unfold maxLen; omega) (by omega) (by have := hb2.size; simp; omega) ?_; intro v' w3 hown' hg3 hnil3
       have hv3 : w3.heap[Bs]? = some (.cells #[v] 40 (0, 0)) := (hg3.block Bs (by simp; omega) (hno hv2 hnb)).trans ((Below.heap_alloc _ _ Bs hBlt).trans hv2)
       obtain ⟨hc3, hf3⟩ : w3.cell? ⟨Bs, 0, none⟩ = some v ∧ w3.frozen? ⟨Bs, 0, none⟩ = false := by constructor <;> simp [World.cell?, World.frozen?, hv3]
       obtain ⟨g', cap', hv'⟩ := ownsRow_succ hown'
       subst hv'
       go_frame)
    | (rw [Oper.semAt_eq _ _ _ (fun c h => by cases h)]; go_simp; try go_bits))
  have hg3' : (W2.alloc (.cells #[.string x.pg.nm, .int .i64 x.pg.a, .int .i64 x.pg.b, .int .i64 x.pg.c] 58)).grownBy w3 v.ownBlock := hg3
  have hL3 : w3.heap[l]? = some (.loop { recC fn sv Bs D .ready with state := .busy }) := (hg3'.block l (by simp; omega) (hno hL2 (fun cur e => by cases e))).trans ((Below.heap_alloc _ _ l hl2).trans hL2)
  have hK3 : w3.heap[D]? = some (.deferred (some [])) := (hg3'.block D (by simp; omega) (hno hK2 (fun cur e => by cases e))).trans ((Below.heap_alloc _ _ D hDlt).trans hK2)
  obtain ⟨w4, hw4⟩ : ∃ w4, w3.setCell ⟨Bs, 0, none⟩ (.slice (some ⟨g', 0, none⟩) (V.length + 1) cap') = w4 := ⟨_, rfl⟩
  rw [hw4]
  have hg4 : w3.grownBy w4 (some Bs) := by rw [← hw4]; exact grownBy_setCell' _ _ _
  have hv4 : w4.heap[Bs]? = some (.cells #[.slice (some ⟨g', 0, none⟩) (V.length + 1) cap'] 40 (0, 0)) := by rw [← hw4]; exact Boxed.set _ hv3
  have hL4 : w4.heap[l]? = some (.loop { recC fn sv Bs D .ready with state := .busy }) := (hg4.block l (Array.getElem?_eq_some_iff.1 hL3).1 (fun e => hBl (by cases e; rfl))).trans hL3
  have hK4 : w4.heap[D]? = some (.deferred (some [])) := (hg4.block D (Array.getElem?_eq_some_iff.1 hK3).1 (fun e => hDB (by cases e; rfl))).trans hK3
  have hrow4 := hown'.kept hg4 (row_other hown' hv3 hnb)
  have hl4 : l < w4.heap.size := (Array.getElem?_eq_some_iff.1 hL4).1
  have hb3 : Below w0.heap.size w0 w3 := (hb2.alloc hb2.size _).grown hg3' (by have := hb2.size; simp; omega) (fun k e => (hrow2.lt k e).1)
  have hb4 : Below w0.heap.size w0 w4 := hb3.grown hg4 hb3.size (fun k e => by cases e; exact h0B)
  have hk4 : KeepsWalks W w4 := ((hk2.trans (KeepsWalks.alloc _ _)).trans (KeepsWalks.of_grownBy hg3' (row_nowalk (hrow2.alloc _)))).trans (by rw [← hw4]; exact KeepsWalks.setCell _ _ _)
  clear hw4
  refine ⟨_, _, run_endRound none hL4, rfl, ⟨⟨_, (World.putObj_heap_other hBl).trans hv4, ?_⟩, World.putObj_heap_same hl4, (World.putObj_heap_other hDl).trans hK4, hb4.grown (put_grown _ _ _) hb4.size (fun k e => by cases e; exact h0l)⟩, hk4.trans (KeepsWalks.putObj _ hL4 rfl)⟩
  have q1 : (V ++ [x]).length = V.length + 1 := by simp
  have q2 : (V ++ [x]).flatMap encC = V.flatMap encC ++ encC x := by simp
  rw [q1, q2]
  exact hrow4.kept (put_grown w4 l _) (row_other hrow4 hL4 (fun cur e => by cases e))

set_option maxHeartbeats 3200000 in
/-- slices.AppendSeq onto nothing. -/
theorem appendC_in (n : Nat) (hn : 2 ≤ n) (g : Nat) (lb : Array Value) (eg : ∀ args w, (callFunc g args).run Tryz.prog w = .ok (.enter g args) w) (S : List CV → Prop) (N : Nat) (hN : N ≤ 1000000) (w : World) (hseq : SeqGives Fence.wide (n - 1) Tryz.prog g lb pinC S N w) :
    CallsIn Fence.wide n Tryz.prog 115 #[.slice none 0 0, .func (.func g) #[] lb] w fun e w' => ∃ (v : Value) (V : List CV), e = .returned v ∧ S V ∧ w'.ownsRow w.heap.size 58 4 v V.length (V.flatMap encC) ∧ Below w.heap.size w w' := by
  have h1 : 1 ≤ n := by omega
  have hne : (40 : Nat) ≠ 58 := by decide
  refine callsIn_of_wp_marks Tryz.func115 rfl trivial ?_ rfl
  simp only [Tryz.ntmps115, List.size_toArray, List.length_cons, List.length_nil, Nat.reduceAdd, Nat.reduceSub, Array.replicate_succ, Array.replicate_zero, List.push_toArray, List.append_toArray, List.nil_append, List.cons_append]
  gi_wp2
  refine wpIn_rangeFunc ?_
  intro fn hfn
  obtain ⟨W0, hW0⟩ : ∃ W0, w.alloc (.cells #[.slice none 0 0] 40) = W0 := ⟨_, rfl⟩
  have hs0 : W0.heap.size = w.heap.size + 1 := by rw [← hW0]; simp
  have hv0 : W0.heap[w.heap.size]? = some (.cells #[.slice none 0 0] 40 (0, 0)) := by rw [← hW0]; exact World.alloc_heap_new w _
  have hb0 : Below w.heap.size w W0 := by rw [← hW0]; exact (Below.refl _ w).alloc (Nat.le_refl _) _
  rw [hW0]
  obtain ⟨W1, hW1⟩ : ∃ W1, (W0.alloc (.deferred (some []))).alloc (.loop (recC fn (.func (.func g) #[] lb) w.heap.size W0.heap.size .ready)) = W1 := ⟨_, rfl⟩
  have hold : ∀ k, k < W0.heap.size → W1.heap[k]? = W0.heap[k]? := fun k hk => by
    rw [← hW1]; exact (Below.heap_alloc _ _ k (by simp; omega)).trans (Below.heap_alloc _ _ k hk)
  have hb1 : Below w.heap.size w W1 := by rw [← hW1]; exact (hb0.alloc hb0.size _).alloc (by have := hb0.size; simp; omega) _
  have hs1 : W1.heap.size = W0.heap.size + 2 := by rw [← hW1]; simp
  have hM : SoFar w fn (.func (.func g) #[] lb) w.heap.size (W0.heap.size + 1) W0.heap.size [] W1 :=
    ⟨⟨_, (hold w.heap.size (by omega)).trans hv0, ⟨rfl, .inl ⟨rfl, rfl⟩⟩⟩,
     by rw [← hW1]; have := World.alloc_heap_new (W0.alloc (.deferred (some []))) (.loop (recC fn (.func (.func g) #[] lb) w.heap.size W0.heap.size .ready)); rwa [World.size_alloc] at this,
     by rw [← hW1]; exact (Below.heap_alloc _ _ _ (by simp)).trans (World.alloc_heap_new W0 _), hb1⟩
  refine ⟨W0.heap.size + 1, [{ target := .collected W0.heap.size, args := #[] }], W1, { target := .fn (.func g) lb, args := #[.func (.yield (W0.heap.size + 1)) #[] #[]] }, W1, g, #[.func (.yield (W0.heap.size + 1)) #[] #[]] ++ lb, W1, ?_, ?_, ?_, ?_, fun _ => h1, ?_⟩
  · rw [← hW1]; exact run_enterLoop_outer _ _ _ _ _
  · simp [resolve, go_sem]
  · intro f' hf'
    trivial
  · simp [invoke, go_sem, eg]
  · refine (hseq (W0.heap.size + 1) (SoFar w fn (.func (.func g) #[] lb) w.heap.size (W0.heap.size + 1) W0.heap.size) W1 hb1 (SoFar.abides _ _ _ _ _ _ _ hb1.size)
      (fun pre x W hJ hl => yieldC (n - 1 - 1) w fn _ w.heap.size (W0.heap.size + 1) W0.heap.size (by omega) (by omega) (by omega) (Nat.le_refl _) (by omega) pre x W hJ (by omega)) hM).mono ?_
    rintro e W2 ⟨⟨v0, rfl⟩, V, hS, h2⟩
    obtain ⟨v, hv, hrow⟩ := h2.box
    have hend := run_endLoop (P := Tryz.prog) h2.L (by simp [recC])
    obtain ⟨W3, hW3⟩ : ∃ W3, W2.putObj (W0.heap.size + 1) (.loop { recC fn (.func (.func g) #[] lb) w.heap.size W0.heap.size .ready with state := .exhausted }) = W3 := ⟨_, rfl⟩
    rw [hW3] at hend
    have hg3 : W2.grownBy W3 (some (W0.heap.size + 1)) := by rw [← hW3]; exact put_grown _ _ _
    have hv3 : W3.heap[w.heap.size]? = some (.cells #[v] 40 (0, 0)) := by rw [← hW3]; exact (World.putObj_heap_other (by omega)).trans hv
    have hK3 : W3.heap[W0.heap.size]? = some (.deferred (some [])) := by rw [← hW3]; exact (World.putObj_heap_other (by omega)).trans h2.K
    have hrow3 := hrow.kept hg3 (row_other hrow h2.L (fun cur e => by cases e))
    have hb3 : Below w.heap.size w W3 := h2.below.grown hg3 h2.below.size (fun k e => by cases e; omega)
    obtain ⟨hc3, hf3⟩ : W3.cell? ⟨w.heap.size, 0, none⟩ = some v ∧ W3.frozen? ⟨w.heap.size, 0, none⟩ = false := by constructor <;> simp [World.cell?, World.frozen?, hv3]
    clear hW3
    refine ⟨none, W3, hend, ?_⟩
    gi_wp2
    rw [← hs0]
    refine ⟨by simp, .inl ⟨_, _, rfl, run_takeDeferred hK3, ?_⟩⟩
    exact ⟨_, results_tmp rfl _ _ _, v, V, rfl, hS, hrow3.kept (put_grown _ _ _) (row_other hrow3 hK3 (fun cur e => by cases e)), hb3.grown (put_grown _ _ _) hb3.size (fun k e => by cases e; omega)⟩
end Go.Proofs.YtjpmlagofcgheaaGreatDoor
namespace Go.Proofs.YtjpmlagofcgheaaGreatDoor
open Go.RowKit Go.Maps Go.WideMaps
set_option maxRecDepth 100000

/-- Candidates out of the versions that there are. -/
def pinB (s : ByteArray) (ps : List Pn) (x : Vn) : Bool := decide (0 < cntP s ps x)
def inB (R : List Sp) (x : Vn) : Bool := inL R x.a x.b x.c
def fstV (R : List Sp) (s : ByteArray) (ps : List Pn) (ts : List Vn) : List Vn := ts.filter fun x => inB R x && pinB s ps x
def othV (R : List Sp) (s : ByteArray) (ps : List Pn) (ts : List Vn) : List Vn := ts.filter fun x => inB R x && !pinB s ps x
def candV (R : List Sp) (s : ByteArray) (ps : List Pn) (ts : List Vn) : List Vn := fstV R s ps ts ++ othV R s ps ts
theorem CntAt.below {w w' : World} {M n : Nat} {s : ByteArray} {L : List Pn} (h : CntAt w M n s L) (hb : Below w.heap.size w w') : CntAt w' M n s L := by
  obtain ⟨D, h1, h2⟩ := h
  have hM := h1.lt
  obtain ⟨es, cl, h3, r⟩ := h1
  exact ⟨D, ⟨es, cl, (hb.block M hM).trans h3, r⟩, h2⟩
theorem encV_at (l : List Vn) (i : Nat) (h : i < l.length) : (l.flatMap encV)[i * 3]? = some (.int .i64 l[i].a) ∧ (l.flatMap encV)[i * 3 + 1]? = some (.int .i64 l[i].b) ∧ (l.flatMap encV)[i * 3 + 2]? = some (.int .i64 l[i].c) := by
  have h0 := flatMap_get encV 3 (fun _ => rfl) l i 0 h (by decide)
  have h1 := flatMap_get encV 3 (fun _ => rfl) l i 1 h (by decide)
  have h2 := flatMap_get encV 3 (fun _ => rfl) l i 2 h (by decide)
  rw [getElem!_pos l i h] at h0 h1 h2
  exact ⟨h0, h1, h2⟩
theorem OwnV.cells {w : World} {B : Nat} {v : Value} {ts : List Vn} (h : OwnV w B v ts) (i : Nat) (hi : i < ts.length) : ∃ g, B ≤ g ∧ g < w.heap.size ∧ (∃ cap, v = .slice (some ⟨g, 0, none⟩) ts.length cap) ∧ w.cell? ⟨g, i * 3, none⟩ = some (.int .i64 ts[i].a) ∧ w.cell? ⟨g, i * 3 + 1, none⟩ = some (.int .i64 ts[i].b) ∧ w.cell? ⟨g, i * 3 + 2, none⟩ = some (.int .i64 ts[i].c) := by
  rcases h.2 with ⟨_, hn⟩ | ⟨g, cap, cur, rfl, hB, hgg, _, _, _, ht⟩
  · omega
  · obtain ⟨e0, e1, e2⟩ := encV_at ts i hi
    have q : ∀ j, ∀ u, (ts.flatMap encV)[j]? = some u → w.cell? ⟨g, j, none⟩ = some u := fun j u hj => by
      have e := row_news hgg ht j u hj
      have e2 : (⟨g, 0, none⟩ : Addr).add j = ⟨g, j, none⟩ := by unfold Addr.add; split <;> simp_all
      rw [e2] at e
      exact e
    exact ⟨g, hB, (Array.getElem?_eq_some_iff.1 hgg).1, ⟨cap, rfl⟩, q _ _ e0, q _ _ e1, q _ _ e2⟩
theorem told_i64 {w : World} {B C M : Nat} {L : List CV} (h : CatAt w B C M L) {s : ByteArray} {ts : List Vn} (ht : Told L s ts) {x : Vn} (hx : x ∈ ts) : I64 x.a ∧ I64 x.b ∧ I64 x.c := by
  obtain ⟨y, hy, rfl⟩ := List.mem_map.1 (ht.1.mem_iff.1 hx)
  have := h.keys y (List.mem_filter.1 hy).1
  exact ⟨this.2.1, this.2.2.1, this.2.2.2⟩

set_option maxHeartbeats 12800000 in
theorem cands_any {w : World} {B C M : Nat} {L : List CV} (h : CatAt w B C M L) (hlen : L.length ≤ 1000000) (s : ByteArray) {vl vp : Value} {R : List Sp} (hR : SpansAt w vl R) {ps : List Pn} (hP : PinsAt w vp ps) (hpl : ps.length ≤ 9223372036854775807) (hpi : ∀ p ∈ ps, I64 p.a ∧ I64 p.b ∧ I64 p.c) :
    Calls Tryz.prog 19 #[.pointer (some ⟨C, 0, none⟩), .string s, vl, vp] w fun e w' => ∃ v ts, e = .returned v ∧ Told L s ts ∧ OwnV w' w.heap.size v (candV R s ps ts) ∧ Below w.heap.size w w' := by
  have HPN := hide3 (pinned_any hP hpl hpi s)
  have HVS : Hid (∀ W, Below w.heap.size w W → Calls Tryz.prog 17 #[.pointer (some ⟨C, 0, none⟩), .string s] W fun e w' => ∃ v ts, e = .returned v ∧ Told L s ts ∧ OwnV w' W.heap.size v ts ∧ Below W.heap.size W w') := fun W hb => versions_any (h.below hb) hlen s
  have HIA : Hid (∀ (x : Vn) W, Below w.heap.size w W → Calls Tryz.prog 42 #[vl, .agg #[.int .i64 x.a, .int .i64 x.b, .int .i64 x.c]] W fun e w' => e = .returned (.bool (inB R x)) ∧ Below W.heap.size W w') := fun x W hb => sIn_any (hR.below hb) _ _ _
  have HI6 : Hid (∀ ts, Told L s ts → ∀ x ∈ ts, I64 x.a ∧ I64 x.b ∧ I64 x.c) := fun ts ht x hx => told_i64 h ht hx
  have HTL : Hid (∀ ts, Told L s ts → ts.length ≤ 1000000) := fun ts ht => by
    have h1 := ht.1.length_eq
    have h2 := verL_len s L
    omega
  obtain ⟨al, cl, rfl⟩ : ∃ a c, vl = .slice a R.length c := by
    obtain ⟨a, c, e, _⟩ := hR
    exact ⟨a, c, e⟩
  obtain ⟨ap, cp, rfl⟩ := hP.sl
  clear h hR hP hpi
  go_enter Tryz.func19, Tryz.ntmps19
  go_wp2_with (first
    | (go_at_call 41; refine HPN.out.mono ?_; rintro e w1 ⟨rfl, hcn, hb⟩; have HC1 := hide3 hcn; have HB1 := hide3 hb; clear hcn hb HPN)
    | (go_at_call 17; refine (HVS.out _ HB1.out).mono ?_; rintro e w2 ⟨vt, ts, rfl, htd, hot, hb⟩; have HTD := hide3 htd; have HOT := hide3 hot; have HB2 := hide3 (below_then HB1.out hb); have HC2 : Hid (∃ n, CntAt w2 w.heap.size n s ps) := (by obtain ⟨n, hn⟩ := HC1.out; exact ⟨n, hn.below hb⟩); obtain ⟨at0, ct, hvt⟩ := hot.len; subst hvt; have htl := HTL.out ts htd; clear htd hot hb HVS HTL))
  go_loopw [10, 11, 21] (fun vf vo vi wr => ∃ (k : Nat) (F O : List Vn), k ≤ ts.length ∧ vi = .int .i64 k ∧ F = fstV R s ps (ts.take k) ∧ O = othV R s ps (ts.take k) ∧ OwnV wr w2.heap.size vf F ∧ OwnV wr w2.heap.size vo O ∧ (∀ g, vf.ownBlock = some g → vo.ownBlock ≠ some g) ∧ Below w2.heap.size w2 wr) (fun _ _ vi _ => ts.length - (intOf vi).toNat)
  case atStart => exact ⟨0, [], [], Nat.zero_le _, rfl, rfl, rfl, OwnV.nil _ _, OwnV.nil _ _, fun g hg => (by cases hg), Below.refl _ _⟩
  case round =>
    obtain ⟨k, F, O, hk, rfl, hF, hO, hof, hoo, hap, hb⟩ := hrel
    have HFE := hide3 hF
    have HOE := hide3 hO
    have HFR := hide3 hof
    have HOR := hide3 hoo
    have HAP := hide3 hap
    have HB := hide3 hb
    obtain ⟨af, cf, rfl⟩ := hof.len
    obtain ⟨ao, co, rfl⟩ := hoo.len
    have hfl : F.length ≤ 1000000 := by
      rw [hF]
      exact Nat.le_trans (List.length_filter_le _ _) (by rw [List.length_take]; omega)
    have hol : O.length ≤ 1000000 := by
      rw [hO]
      exact Nat.le_trans (List.length_filter_le _ _) (by rw [List.length_take]; omega)
    clear hF hO hof hoo hap hb
    by_cases hlt : k < ts.length
    · have hki : (k : Int) < (ts.length : Int) := by omega
      obtain ⟨g, hgb, hgl, ⟨ct', hvt⟩, c0, c1, c2⟩ := HOT.out.cells k hlt
      obtain ⟨i1, i2, i3⟩ := HI6.out ts HTD.out _ (List.getElem_mem hlt)
      injection hvt with hat0 _ hct
      subst hat0
      subst hct
      have HTK : Hid (ts.take (k + 1) = ts.take k ++ [ts[k]]) := List.take_succ_eq_append_getElem hlt
      obtain ⟨x, hx⟩ : ∃ x, x = ts[k] := ⟨_, rfl⟩
      rw [← hx] at c0 c1 c2 i1 i2 i3 HTK
      have d0 := (HB.out.cell (p := ⟨g, k * 3, none⟩) hgl).trans c0
      have d1 := (HB.out.cell (p := ⟨g, k * 3 + 1, none⟩) hgl).trans c1
      have d2 := (HB.out.cell (p := ⟨g, k * 3 + 2, none⟩) hgl).trans c2
      clear hx c0 c1 c2
      have HKD : Hid (∀ a b, (((Below w2.heap.size w2 a ∧ OwnV a w2.heap.size (.slice af F.length cf) F) ∧ OwnV a w2.heap.size (.slice ao O.length co) O) ∧ BxAt a ⟨wr.heap.size, .int .i64 x.a, .int .i64 x.b, .int .i64 x.c⟩) → Below a.heap.size a b → ((Below w2.heap.size w2 b ∧ OwnV b w2.heap.size (.slice af F.length cf) F) ∧ OwnV b w2.heap.size (.slice ao O.length co) O) ∧ BxAt b ⟨wr.heap.size, .int .i64 x.a, .int .i64 x.b, .int .i64 x.c⟩) := fun a b hx hab => ⟨⟨⟨below_then hx.1.1.1 hab, own_below hx.1.1.2 hab⟩, own_below hx.1.2 hab⟩, keepV3 _ _ _ hx.2 hab⟩
      have HO1 : Hid (((Below w2.heap.size w2 (wr.alloc (.cells #[.int .i64 x.a, .int .i64 x.b, .int .i64 x.c] 31)) ∧ OwnV (wr.alloc (.cells #[.int .i64 x.a, .int .i64 x.b, .int .i64 x.c] 31)) w2.heap.size (.slice af F.length cf) F) ∧ OwnV (wr.alloc (.cells #[.int .i64 x.a, .int .i64 x.b, .int .i64 x.c] 31)) w2.heap.size (.slice ao O.length co) O) ∧ BxAt (wr.alloc (.cells #[.int .i64 x.a, .int .i64 x.b, .int .i64 x.c] 31)) ⟨wr.heap.size, .int .i64 x.a, .int .i64 x.b, .int .i64 x.c⟩) := ⟨⟨⟨below_then HB.out (boxB _ _), own_below HFR.out (boxB _ _)⟩, own_below HOR.out (boxB _ _)⟩, ⟨by simp, by simp, by simp, by simp⟩⟩
      have HLK : Hid (∀ W, Below w2.heap.size w2 W → (Instr.lookup 84 (.map (some w.heap.size)) (.agg #[.int .i64 x.a, .int .i64 x.b, .int .i64 x.c]) false).run Tryz.prog W = .ok (.int .i64 (cntP s ps x)) W) := fun W hb => by
        obtain ⟨n, hn⟩ := HC2.out
        exact (hn.below hb).look i1 i2 i3
      have HIN : Hid (∀ W, Below w2.heap.size w2 W → Calls Tryz.prog 42 #[.slice al R.length cl, .agg #[.int .i64 x.a, .int .i64 x.b, .int .i64 x.c]] W fun e w' => e = .returned (.bool (inB R x)) ∧ Below W.heap.size W w') := fun W hb => HIA.out x W (below_then HB2.out hb)
      clear i1 i2 i3
      obtain ⟨q0, q1, q2, _⟩ := HO1.out.2
      cases hin : inB R x
      · rw [hin] at HIN
        have HF1 : Hid (F = fstV R s ps (ts.take (k + 1))) := by
          unfold Hid fstV
          rw [HTK.out, List.filter_append, HFE.out]
          simp [fstV, hin]
        have HO2 : Hid (O = othV R s ps (ts.take (k + 1))) := by
          unfold Hid othV
          rw [HTK.out, List.filter_append, HOE.out]
          simp [othV, hin]
        clear hin HTK HFE HOE
        go_wp2_with ((go_at_call 42; refine (HIN.out _ HO1.out.1.1.1).mono ?_; rintro e w5 ⟨rfl, hb⟩; have HO5 := hide3 (HKD.out _ _ HO1.out hb); obtain ⟨b0, b1, b2, _⟩ := HO5.out.2; have lk := HLK.out _ HO5.out.1.1.1; clear hb q0 q1 q2))
        exact ⟨⟨k + 1, F, O, by omega, by go_num, HF1.out, HO2.out, HO5.out.1.1.2, HO5.out.1.2, HAP.out, HO5.out.1.1.1⟩, by simp [intOf]; omega⟩
      · rw [hin] at HIN
        by_cases hc : 0 < cntP s ps x
        · have hci : (0 : Int) < ((cntP s ps x : Nat) : Int) := by omega
          have HF1 : Hid (F ++ [x] = fstV R s ps (ts.take (k + 1))) := by
            unfold Hid fstV
            rw [HTK.out, List.filter_append, HFE.out]
            simp [fstV, hin, pinB, hc]
          have HO2 : Hid (O = othV R s ps (ts.take (k + 1))) := by
            unfold Hid othV
            rw [HTK.out, List.filter_append, HOE.out]
            simp [othV, hin, pinB, hc]
          have HFN : Hid (∀ w5 v1 w6, (((Below w2.heap.size w2 w5 ∧ OwnV w5 w2.heap.size (.slice af F.length cf) F) ∧ OwnV w5 w2.heap.size (.slice ao O.length co) O) ∧ BxAt w5 ⟨wr.heap.size, .int .i64 x.a, .int .i64 x.b, .int .i64 x.c⟩) → w6.ownsRow w2.heap.size 31 3 v1 (F.length + 1) (F.flatMap encV ++ encV x) → (w5.alloc (.cells #[.int .i64 x.a, .int .i64 x.b, .int .i64 x.c] 31)).grownBy w6 (Value.slice af F.length cf).ownBlock → (v1.ownBlock = (Value.slice af F.length cf).ownBlock ∨ v1.ownBlock = some (w5.alloc (.cells #[.int .i64 x.a, .int .i64 x.b, .int .i64 x.c] 31)).heap.size) → OwnV w6 w2.heap.size v1 (F ++ [x]) ∧ OwnV w6 w2.heap.size (.slice ao O.length co) O ∧ (∀ g, v1.ownBlock = some g → (Value.slice ao O.length co).ownBlock ≠ some g) ∧ Below w2.heap.size w2 w6) := fun w5 v1 w6 hk ho hg hat => by
            have hg5 := grown_pre (boxB w5 (.cells #[.int .i64 x.a, .int .i64 x.b, .int .i64 x.c] 31)) hg
            have hmine := hk.1.1.2
            have hoth := hk.1.2
            refine ⟨?_, World.ownsRow.kept hoth hg5 ?_, fun g h1 h2 => ?_, hk.1.1.1.grown hg5 hk.1.1.1.size (fun j hj => (World.ownsRow.lt hmine j hj).1)⟩
            · unfold OwnV
              rw [List.length_append, List.flatMap_append]
              simpa using ho
            · cases hv : (Value.slice ao O.length co).ownBlock with
              | none => exact Or.inl rfl
              | some g => exact Or.inr fun e => HAP.out g e.symm hv
            · rcases hat with e | e
              · rw [e] at h1
                exact HAP.out g h1 h2
              · have := (World.ownsRow.lt hoth g h2).2
                rw [e] at h1
                have := Option.some.inj h1
                simp at this
                omega
          clear hin HTK HFE HOE hc
          generalize cntP s ps x = cn at *
          go_wp2_with (first
            | (go_at_call 42; refine (HIN.out _ HO1.out.1.1.1).mono ?_; rintro e w5 ⟨rfl, hb⟩; have HO5 := hide3 (HKD.out _ _ HO1.out hb); obtain ⟨b0, b1, b2, _⟩ := HO5.out.2; have lk := HLK.out _ HO5.out.1.1.1; clear hb q0 q1 q2)
            | (at_builtin; refine wp_ownN (B := w2.heap.size) (wx := w5.alloc (.cells #[.int .i64 x.a, .int .i64 x.b, .int .i64 x.c] 31)) (v := .slice af F.length cf) (ad := ⟨w5.heap.size, 0, none⟩) (news := encV x) infoV Tryz.underlying47 rfl (by decide) (by decide) rfl (.tmp 39) (.tmp 41) rfl rfl (own_below HO5.out.1.1.2 (boxB _ _)) (Nat.le_trans HO5.out.1.1.1.size (by simp)) rfl rfl (news_box w5 _ _) (by simp [encV, Value.oneCell']) (by omega) ?_; intro v1 w6 ho hgr hat; have HP6 := hide3 (HFN.out _ _ _ HO5.out ho hgr hat); obtain ⟨g7, cap7, hu⟩ := HP6.out.1.len; subst hu; clear ho hgr hat))
          exact ⟨⟨k + 1, F ++ [x], O, by omega, by go_num, HF1.out, HO2.out, by have e := HP6.out.1; rw [List.length_append] at e; exact e, HP6.out.2.1, by have e := HP6.out.2.2.1; rw [List.length_append] at e; exact e, HP6.out.2.2.2⟩, by simp [intOf]; omega⟩
        · have hci : ¬ (0 : Int) < ((cntP s ps x : Nat) : Int) := by omega
          have HF1 : Hid (F = fstV R s ps (ts.take (k + 1))) := by
            unfold Hid fstV
            rw [HTK.out, List.filter_append, HFE.out]
            simp [fstV, hin, pinB, hc]
          have HO2 : Hid (O ++ [x] = othV R s ps (ts.take (k + 1))) := by
            unfold Hid othV
            rw [HTK.out, List.filter_append, HOE.out]
            simp [othV, hin, pinB, hc]
          have HFN : Hid (∀ w5 v1 w6, (((Below w2.heap.size w2 w5 ∧ OwnV w5 w2.heap.size (.slice af F.length cf) F) ∧ OwnV w5 w2.heap.size (.slice ao O.length co) O) ∧ BxAt w5 ⟨wr.heap.size, .int .i64 x.a, .int .i64 x.b, .int .i64 x.c⟩) → w6.ownsRow w2.heap.size 31 3 v1 (O.length + 1) (O.flatMap encV ++ encV x) → (w5.alloc (.cells #[.int .i64 x.a, .int .i64 x.b, .int .i64 x.c] 31)).grownBy w6 (Value.slice ao O.length co).ownBlock → (v1.ownBlock = (Value.slice ao O.length co).ownBlock ∨ v1.ownBlock = some (w5.alloc (.cells #[.int .i64 x.a, .int .i64 x.b, .int .i64 x.c] 31)).heap.size) → OwnV w6 w2.heap.size v1 (O ++ [x]) ∧ OwnV w6 w2.heap.size (.slice af F.length cf) F ∧ (∀ g, v1.ownBlock = some g → (Value.slice af F.length cf).ownBlock ≠ some g) ∧ Below w2.heap.size w2 w6) := fun w5 v1 w6 hk ho hg hat => by
            have hg5 := grown_pre (boxB w5 (.cells #[.int .i64 x.a, .int .i64 x.b, .int .i64 x.c] 31)) hg
            have hmine := hk.1.2
            have hoth := hk.1.1.2
            refine ⟨?_, World.ownsRow.kept hoth hg5 ?_, fun g h1 h2 => ?_, hk.1.1.1.grown hg5 hk.1.1.1.size (fun j hj => (World.ownsRow.lt hmine j hj).1)⟩
            · unfold OwnV
              rw [List.length_append, List.flatMap_append]
              simpa using ho
            · cases hv : (Value.slice af F.length cf).ownBlock with
              | none => exact Or.inl rfl
              | some g => exact Or.inr fun e => HAP.out g hv e.symm
            · rcases hat with e | e
              · rw [e] at h1
                exact HAP.out g h2 h1
              · have := (World.ownsRow.lt hoth g h2).2
                rw [e] at h1
                have := Option.some.inj h1
                simp at this
                omega
          clear hin HTK HFE HOE hc
          generalize cntP s ps x = cn at *
          go_wp2_with (first
            | (go_at_call 42; refine (HIN.out _ HO1.out.1.1.1).mono ?_; rintro e w5 ⟨rfl, hb⟩; have HO5 := hide3 (HKD.out _ _ HO1.out hb); obtain ⟨b0, b1, b2, _⟩ := HO5.out.2; have lk := HLK.out _ HO5.out.1.1.1; clear hb q0 q1 q2)
            | (at_builtin; refine wp_ownN (B := w2.heap.size) (wx := w5.alloc (.cells #[.int .i64 x.a, .int .i64 x.b, .int .i64 x.c] 31)) (v := .slice ao O.length co) (ad := ⟨w5.heap.size, 0, none⟩) (news := encV x) infoV Tryz.underlying47 rfl (by decide) (by decide) rfl (.tmp 25) (.tmp 27) rfl rfl (own_below HO5.out.1.2 (boxB _ _)) (Nat.le_trans HO5.out.1.1.1.size (by simp)) rfl rfl (news_box w5 _ _) (by simp [encV, Value.oneCell']) (by omega) ?_; intro v1 w6 ho hgr hat; have HP6 := hide3 (HFN.out _ _ _ HO5.out ho hgr hat); obtain ⟨g7, cap7, hu⟩ := HP6.out.1.len; subst hu; clear ho hgr hat))
          exact ⟨⟨k + 1, F, O ++ [x], by omega, by go_num, HF1.out, HO2.out, HP6.out.2.1, by have e := HP6.out.1; rw [List.length_append] at e; exact e, fun g h1 h2 => HP6.out.2.2.1 g (by rw [List.length_append]; exact h2) h1, HP6.out.2.2.2⟩, by simp [intOf]; omega⟩
    · obtain rfl : k = ts.length := by omega
      have hki : ¬ ((ts.length : Int) < (ts.length : Int)) := by omega
      have HCC : Hid (F ++ O = candV R s ps ts) := by
        unfold Hid candV
        rw [HFE.out, HOE.out, List.take_length]
      have HCO : Hid (∀ W, Below wr.heap.size wr W → W.cell? ⟨wr.heap.size, 0, none⟩ = some (.slice af F.length cf) → W.cell? ⟨wr.heap.size, 1, none⟩ = some (.slice ao O.length co) → Calls Tryz.prog 43 #[.slice (some ⟨wr.heap.size, 0, none⟩) 2 2] W fun e w' => ∃ v, e = .returned v ∧ OwnV w' W.heap.size v (F ++ O) ∧ Below W.heap.size W w') := fun W hb c0 c1 => concat_two (own_below HFR.out hb) (own_below HOR.out hb) c0 c1 (by omega) (by omega)
      clear HFE HOE
      go_wp2_with (go_at_call 43; refine (HCO.out _ (boxB _ _) (by simp) (by simp)).mono ?_; rintro e w5 ⟨v, rfl, ho, hb⟩; have HO5 := hide3 ho; have HB5 := hide3 (below_then (below_then HB.out (boxB _ _)) hb); clear ho hb)
      go_ret
      refine ⟨_, ts, rfl, HTD.out, HCC.out ▸ own_base HO5.out ?_, below_then HB2.out HB5.out⟩
      have e1 := HB2.out.size
      have e2 := HB.out.size
      simp
      omega
end Go.Proofs.YtjpmlagofcgheaaGreatDoor
namespace Go.Proofs.YtjpmlagofcgheaaGreatDoor
open Go.Shelf Go.RowKit Go.Lib Go.Sort
set_option maxRecDepth 100000

def nmL (x : CV) : List UInt8 := x.pg.nm.data.toList
def cmpN (x y : CV) : Int := if Lib.compareBytes (nmL x) (nmL y) = 0 then cmpG (verC x) (verC y) else Lib.compareBytes (nmL x) (nmL y)
/-- By the name, then the greater version first. -/
def ltN (x y : CV) : Bool := bytesBefore (nmL x) (nmL y) || (decide (nmL x = nmL y) && gtV (verC x) (verC y))
theorem ltN_is (x y : CV) : ltOf cmpN x y = ltN x y := by
  unfold ltOf cmpN ltN
  by_cases h : nmL x = nmL y
  · rw [if_pos ((compare_eq _ _).2 h), decide_eq_true h, h, WideAt.bytes_irrefl, Bool.false_or, Bool.true_and, ← ltG]
    rfl
  · rw [if_neg (fun q => h ((compare_eq _ _).1 q)), decide_eq_false h, Bool.false_and, Bool.or_false, Bool.eq_iff_iff, decide_eq_true_iff]
    exact compare_lt _ _
theorem gtV_irrefl (x : Vn) : gtV x x = false := by rw [gtV_no]; omega
theorem gtV_trans {x y z : Vn} (h1 : gtV x y = true) (h2 : gtV y z = true) : gtV x z = true := by rw [gtV_iff] at *; omega
theorem gtV_ntrans {x y z : Vn} (h1 : gtV x y = false) (h2 : gtV y z = false) : gtV x z = false := by rw [gtV_no] at *; omega
theorem ltN_iff {x y : CV} : ltN x y = true ↔ bytesBefore (nmL x) (nmL y) = true ∨ (nmL x = nmL y ∧ gtV (verC x) (verC y) = true) := by
  unfold ltN
  rw [Bool.or_eq_true, Bool.and_eq_true, decide_eq_true_iff]
theorem ltN_no {x y : CV} : ltN x y = false ↔ bytesBefore (nmL x) (nmL y) = false ∧ (nmL x = nmL y → gtV (verC x) (verC y) = false) := by
  rw [Bool.eq_false_iff, ne_eq, ltN_iff, not_or]
  constructor
  · rintro ⟨h1, h2⟩
    exact ⟨Bool.eq_false_iff.2 h1, fun e => Bool.eq_false_iff.2 fun q => h2 ⟨e, q⟩⟩
  · rintro ⟨h1, h2⟩
    exact ⟨Bool.eq_false_iff.1 h1, fun q => by rw [h2 q.1] at q; cases q.2⟩
theorem ltN_total {x y : CV} (h1 : ltN x y = false) (h2 : ltN y x = false) : nmL x = nmL y ∧ verC x = verC y := by
  rw [ltN_no] at h1 h2
  have e : nmL x = nmL y := by
    by_cases e : nmL x = nmL y
    · exact e
    · rcases WideAt.bytes_total _ _ e with r | r
      · rw [h1.1] at r; cases r
      · rw [h2.1] at r; cases r
  exact ⟨e, gtV_total (h1.2 e) (h2.2 e.symm)⟩
theorem swoN : SWO (ltOf cmpN) where
  irrefl x := by rw [ltN_is, ltN_no]; exact ⟨WideAt.bytes_irrefl _, fun _ => gtV_irrefl _⟩
  trans x y z h1 h2 := by
    rw [ltN_is, ltN_iff] at *
    rcases h1 with h1 | ⟨e1, g1⟩
    · rcases h2 with h2 | ⟨e2, g2⟩
      · exact Or.inl (WideShapes.bytes_trans _ _ _ h1 h2)
      · exact Or.inl (e2 ▸ h1)
    · rcases h2 with h2 | ⟨e2, g2⟩
      · exact Or.inl (e1 ▸ h2)
      · exact Or.inr ⟨e1.trans e2, gtV_trans g1 g2⟩
  ntrans x y z h1 h2 := by
    rw [ltN_is, ltN_no] at *
    refine ⟨not_before_trans h1.1 h2.1, fun e => ?_⟩
    have e1 : nmL x = nmL y := by
      by_cases q : nmL x = nmL y
      · exact q
      · rcases WideAt.bytes_total _ _ q with r | r
        · rw [h1.1] at r; cases r
        · rw [e] at r; rw [h2.1] at r; cases r
    exact gtV_ntrans (h1.2 e1) (h2.2 (e1 ▸ e))

end Go.Proofs.YtjpmlagofcgheaaGreatDoor
namespace Go.Proofs.YtjpmlagofcgheaaGreatDoor
open Go.Shelf Go.RowKit Go.Lib Go.Sort Go.Maps Go.WideMaps
set_option maxRecDepth 100000

set_option maxHeartbeats 3200000 in
theorem byName_gd (s t : ByteArray) (a b c x y z : Int) (w : World) : Calls Tryz.prog 47 #[.agg #[.string s, .int .i64 a, .int .i64 b, .int .i64 c], .agg #[.string t, .int .i64 x, .int .i64 y, .int .i64 z]] w fun e w' => e = .returned (.int .i64 (if Lib.compareBytes s.data.toList t.data.toList = 0 then cmpV x y z a b c else Lib.compareBytes s.data.toList t.data.toList)) ∧ Gd w w' := by
  have HSC : Hid (∀ W, Calls Tryz.prog 54 #[.string s, .string t] W fun e w' => e = .returned (.int .i64 (Lib.compareBytes s.data.toList t.data.toList)) ∧ w' = W) := fun W => Tryz.strings_Compare s t W
  have HGF : Hid (∀ W, Calls Tryz.prog 40 #[.agg #[.int .i64 a, .int .i64 b, .int .i64 c], .agg #[.int .i64 x, .int .i64 y, .int .i64 z]] W fun e w' => e = .returned (.int .i64 (cmpV x y z a b c)) ∧ Gd W w') := greatest_gd a b c x y z
  generalize Lib.compareBytes s.data.toList t.data.toList = r1 at *
  generalize cmpV x y z a b c = r2 at *
  have HOR : Hid (∀ W : World, Calls Tryz.prog 83 #[.slice (some ⟨W.heap.size, 0, none⟩) 2 2] (W.alloc (.cells #[.int .i64 r1, .int .i64 r2] 3)) fun e w' => e = .returned (.int .i64 (if r1 = 0 then r2 else r1)) ∧ w' = (W.alloc (.cells #[.int .i64 r1, .int .i64 r2] 3))) := fun W => or_two (by simp) (by simp)
  generalize (if r1 = 0 then r2 else r1) = rr at *
  have HG0 : Hid (Gd w ((w.alloc (.cells #[.string s, .int .i64 a, .int .i64 b, .int .i64 c] 58)).alloc (.cells #[.string t, .int .i64 x, .int .i64 y, .int .i64 z] 58)).drew) := (Gd.box2 _ _ _).trans (Gd.drew _)
  have HCE : Hid (∀ W : World, Gd ((w.alloc (.cells #[.string s, .int .i64 a, .int .i64 b, .int .i64 c] 58)).alloc (.cells #[.string t, .int .i64 x, .int .i64 y, .int .i64 z] 58)).drew W → (W.cell? ⟨w.heap.size, 0, none⟩ = some (.string s) ∧ W.cell? ⟨w.heap.size, 1, none⟩ = some (.int .i64 a) ∧ W.cell? ⟨w.heap.size, 2, none⟩ = some (.int .i64 b) ∧ W.cell? ⟨w.heap.size, 3, none⟩ = some (.int .i64 c)) ∧ W.cell? ⟨w.heap.size + 1, 0, none⟩ = some (.string t) ∧ W.cell? ⟨w.heap.size + 1, 1, none⟩ = some (.int .i64 x) ∧ W.cell? ⟨w.heap.size + 1, 2, none⟩ = some (.int .i64 y) ∧ W.cell? ⟨w.heap.size + 1, 3, none⟩ = some (.int .i64 z)) := fun W hg => by
    have hb := hg.below
    have q : ∀ (g i : Nat), g < w.heap.size + 2 → W.cell? ⟨g, i, none⟩ = ((w.alloc (.cells #[.string s, .int .i64 a, .int .i64 b, .int .i64 c] 58)).alloc (.cells #[.string t, .int .i64 x, .int .i64 y, .int .i64 z] 58)).cell? ⟨g, i, none⟩ := fun g i hg => hb.cell (p := ⟨g, i, none⟩) (by simpa using hg)
    refine ⟨⟨?_, ?_, ?_, ?_⟩, ?_, ?_, ?_, ?_⟩ <;> rw [q _ _ (by omega)] <;> simp
  obtain ⟨⟨k0, k1, k2, k3⟩, j0, j1, j2, j3⟩ := HCE.out _ (Gd.refl _)
  go_enter Tryz.func47, Tryz.ntmps47
  go_wp2_with fail
  generalize ((w.alloc (.cells #[.string s, .int .i64 a, .int .i64 b, .int .i64 c] 58)).alloc (.cells #[.string t, .int .i64 x, .int .i64 y, .int .i64 z] 58)) = W0 at *
  go_region_held3 (fun w' => w'.cell? ⟨w.heap.size, 0, none⟩ = some (.string s) ∧ w'.cell? ⟨w.heap.size, 1, none⟩ = some (.int .i64 a) ∧ w'.cell? ⟨w.heap.size, 2, none⟩ = some (.int .i64 b) ∧ w'.cell? ⟨w.heap.size, 3, none⟩ = some (.int .i64 c) ∧ w'.cell? ⟨w.heap.size + 1, 0, none⟩ = some (.string t) ∧ w'.cell? ⟨w.heap.size + 1, 1, none⟩ = some (.int .i64 x) ∧ w'.cell? ⟨w.heap.size + 1, 2, none⟩ = some (.int .i64 y) ∧ w'.cell? ⟨w.heap.size + 1, 3, none⟩ = some (.int .i64 z)) (go_keep) (first
    | (go_at_call 54; refine (HSC.out _).mono ?_; rintro e w1 ⟨rfl, rfl⟩)
    | (go_at_call 40; refine (HGF.out _).mono ?_; rintro e w2 ⟨rfl, hg⟩; have HG2 := hide3 hg; obtain ⟨⟨k0, k1, k2, k3⟩, j0, j1, j2, j3⟩ := HCE.out _ hg; clear hg)
    | (go_at_call 83; refine (HOR.out w2).mono ?_; rintro e w3 ⟨rfl, rfl⟩))
  all_goals go_wp2
  all_goals go_ret
  all_goals exact ⟨rfl, (HG0.out.trans HG2.out).trans (Gd.box _ _)⟩

/-- A row of names and versions of one's own is sorted. -/
theorem sortP_any {w : World} {base : Nat} {v : Value} {V : List CV} (hown : w.ownsRow base 58 4 v V.length (V.flatMap encC)) (hz : V.length ≤ 1000000000) :
    Calls Tryz.prog 52 #[v, .func (.func 47) #[] #[]] w fun e w' => e = .returned (.tuple #[]) ∧ ∃ ts : List CV, ts.Perm V ∧ (ts.Pairwise fun x y => ltN y x = false) ∧ w'.ownsRow base 58 4 v ts.length (ts.flatMap encC) ∧ w.grownBy w' v.ownBlock := by
  haveI : Inhabited CV := ⟨⟨⟨⟨#[]⟩, 0, 0, 0, [], [], []⟩, undef, undef, undef⟩⟩
  have eg : ∀ args w, (callFunc 47 args).run Tryz.prog w = .ok (.enter 47 args) w := enters_of Tryz.func47 (by kernel_rfl) rfl
  have h := sort_own Tryz.sortP 4 (by decide) Tryz.isAgg58 Tryz.sizeOf58 encC (fun _ => rfl) (fun x v hv => by simp [encC] at hv; rcases hv with rfl | rfl | rfl | rfl <;> rfl) cmpN swoN 47 eg (fun x y W => byName_gd _ _ _ _ _ _ _ _ W) hown (by omega)
  simp only [ltN_is] at h
  exact h

theorem keys_gives (n : Nat) (hn : 1 ≤ n) (Bm b nn : Nat) {L : List CV} (hK : ∀ x ∈ L, KeyOk x.pg.nm x.pg.a x.pg.b x.pg.c) (hP : L.Pairwise fun x y => keyC x ≠ keyC y) (w : World) (hBm : Bm < w.heap.size) (hm : w.cell? ⟨Bm, 0, none⟩ = some (.map (some b))) (hown : w.ownsMap Tryz.prog 58 heldR b nn (.map (L.map cvE))) :
    SeqGives Fence.wide n Tryz.prog 82 #[.pointer (some ⟨Bm, 0, none⟩)] pinC (fun V => V.Perm L) L.length w := fun l J W hW hJ hY h0 =>
  keysP_in n hn l Bm b nn hK hP J hY W hJ ((hW.cell (p := ⟨Bm, 0, none⟩) hBm).trans hm) (ownsMapH_below hown hW) h0

theorem keys_made (mb : Option Nat) (w : World) : Calls Tryz.prog 46 #[.map mb] w fun e w' => e = .returned (.func (.func 82) #[] #[.pointer (some ⟨w.heap.size, 0, none⟩)]) ∧ w' = w.alloc (.cells #[.map mb] 72) := by
  go_enter Tryz.func46, Tryz.ntmps46
  go_wp2
  go_ret
  exact ⟨rfl, rfl⟩

/-- What came out of the iterator, collected. -/
theorem collectC {L : List CV} (hL : L.length ≤ 1000000) (Bm b nn : Nat) (hK : ∀ x ∈ L, KeyOk x.pg.nm x.pg.a x.pg.b x.pg.c) (hP : L.Pairwise fun x y => keyC x ≠ keyC y) (w : World) (hBm : Bm < w.heap.size) (hm : w.cell? ⟨Bm, 0, none⟩ = some (.map (some b))) (hown : w.ownsMap Tryz.prog 58 heldR b nn (.map (L.map cvE))) :
    Calls Tryz.prog 81 #[.func (.func 82) #[] #[.pointer (some ⟨Bm, 0, none⟩)]] w fun e w' => ∃ (v : Value) (V : List CV), e = .returned v ∧ V.Perm L ∧ w'.ownsRow w.heap.size 58 4 v V.length (V.flatMap encC) ∧ Below w.heap.size w w' := by
  have HAP : Hid (Calls Tryz.prog 115 #[.slice none 0 0, .func (.func 82) #[] #[.pointer (some ⟨Bm, 0, none⟩)]] w fun e w' => ∃ (v : Value) (V : List CV), e = .returned v ∧ V.Perm L ∧ w'.ownsRow w.heap.size 58 4 v V.length (V.flatMap encC) ∧ Below w.heap.size w w') :=
    callsIn_wide.1 (appendC_in 5 (by decide) 82 _ (enters_of Tryz.func82 (by kernel_rfl) rfl) (fun V => V.Perm L) L.length hL w (keys_gives 4 (by decide) Bm b nn hK hP w hBm hm hown))
  clear hm hown hK hP
  go_enter Tryz.func81, Tryz.ntmps81
  go_wp2_with (go_at_call 115; refine HAP.out.mono ?_; rintro e w1 ⟨v, V, rfl, hV, ho, hb⟩)
  go_ret
  exact ⟨v, V, rfl, hV, ho, hb⟩

/-- Told: all packages, by names, then the greater version first. -/
def ToldA (L ts : List CV) : Prop := ts.Perm L ∧ ts.Pairwise fun x y => ltN x y = true
theorem ToldA.of {L ts : List CV} (hL : L.Pairwise fun x y => keyC x ≠ keyC y) (hp : ts.Perm L) (hs : ts.Pairwise fun x y => ltN y x = false) : ToldA L ts := by
  refine ⟨hp, ?_⟩
  have hn : ts.Pairwise fun x y => keyC x ≠ keyC y := (hp.pairwise_iff (fun q e => q e.symm)).2 hL
  refine (hs.and hn).imp fun {x y} h => ?_
  cases hg : ltN x y with
  | true => rfl
  | false =>
    obtain ⟨e1, e2⟩ := ltN_total hg h.1
    refine absurd ?_ h.2
    unfold verC at e2
    injection e2 with ea eb ec
    unfold keyC keyP
    unfold nmL at e1
    rw [e1, ea, eb, ec]
theorem ltN_asymm {x y : CV} (h : ltN x y = true) : ltN y x = false := by
  have t := swoN.trans x y x
  have i := swoN.irrefl x
  simp only [ltN_is] at t i
  rw [Bool.eq_false_iff]
  intro q
  rw [t h q] at i
  cases i
theorem ToldA.uniq {L ts us : List CV} (h : ToldA L ts) (h' : ToldA L us) : ts = us := by
  refine List.Perm.eq_of_pairwise (le := fun x y => ltN x y = true) (fun a b _ _ h1 h2 => ?_) h.2 h'.2 (h.1.trans h'.1.symm)
  rw [ltN_asymm h1] at h2
  cases h2

set_option maxHeartbeats 1600000 in
theorem sortedC {L : List CV} (hL : L.length ≤ 1000000) (Bm b nn : Nat) (hK : ∀ x ∈ L, KeyOk x.pg.nm x.pg.a x.pg.b x.pg.c) (hP : L.Pairwise fun x y => keyC x ≠ keyC y) (w : World) (hBm : Bm < w.heap.size) (hm : w.cell? ⟨Bm, 0, none⟩ = some (.map (some b))) (hown : w.ownsMap Tryz.prog 58 heldR b nn (.map (L.map cvE))) :
    Calls Tryz.prog 45 #[.func (.func 82) #[] #[.pointer (some ⟨Bm, 0, none⟩)], .func (.func 47) #[] #[]] w fun e w' => ∃ (v : Value) (ts : List CV), e = .returned v ∧ ToldA L ts ∧ w'.ownsRow w.heap.size 58 4 v ts.length (ts.flatMap encC) ∧ Below w.heap.size w w' := by
  have HCO := hide3 (collectC hL Bm b nn hK hP w hBm hm hown)
  have HPW := hide3 hP
  have HSO : Hid (∀ (W : World) (v : Value) (V : List CV), W.ownsRow w.heap.size 58 4 v V.length (V.flatMap encC) → V.length ≤ 1000000000 → Calls Tryz.prog 52 #[v, .func (.func 47) #[] #[]] W fun e w' => e = .returned (.tuple #[]) ∧ ∃ ts : List CV, ts.Perm V ∧ (ts.Pairwise fun x y => ltN y x = false) ∧ w'.ownsRow w.heap.size 58 4 v ts.length (ts.flatMap encC) ∧ W.grownBy w' v.ownBlock) := fun W v V ho hz => sortP_any ho hz
  clear hm hown hK hP
  go_enter Tryz.func45, Tryz.ntmps45
  go_wp2_with (first
    | (go_at_call 81; refine HCO.out.mono ?_; rintro e w1 ⟨v, V, rfl, hV, ho, hb⟩; have HV := hide3 hV; have HO := hide3 ho; have HB := hide3 hb; obtain ⟨hln⟩ : Nonempty (V.length ≤ 1000000000) := ⟨by have := hV.length_eq; omega⟩; clear hV ho hb)
    | (go_at_call 52; refine (HSO.out _ _ _ HO.out hln).mono ?_; rintro e w2 ⟨rfl, ts, hp, hs, ho, hg⟩; have HR : Hid (ToldA L ts ∧ w2.ownsRow w.heap.size 58 4 v ts.length (ts.flatMap encC) ∧ Below w.heap.size w w2) := ⟨ToldA.of HPW.out (hp.trans HV.out) hs, ho, HB.out.grown hg HB.out.size (fun k hk => (World.ownsRow.lt HO.out k hk).1)⟩; clear hp hs ho hg))
  go_ret
  exact ⟨v, ts, rfl, HR.out.1, HR.out.2.1, HR.out.2.2⟩
end Go.Proofs.YtjpmlagofcgheaaGreatDoor
