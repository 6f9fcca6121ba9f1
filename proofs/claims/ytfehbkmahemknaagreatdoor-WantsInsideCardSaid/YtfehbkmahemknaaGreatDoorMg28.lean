/- We3, laid in one text. -/
import Derived.Test.YtfehbkmahemknaaGreatDoorMg27
namespace Go.Proofs.YtfehbkmahemknaaGreatDoor
open Go.RowKit Go.Maps Go.WideMaps
set_option maxRecDepth 100000

/-- The peers of a package, by its pin. -/
def peersOf (L : List CV) (q : Pn) : List Dp := match catC L q.nm q.a q.b q.c with
  | some x => x.pg.p
  | none => []
/-- All that is asked for. -/
def askL (L : List CV) (O : List Dp) (p : Pn) (ts : List Pn) : List Dp := peersD O (peersOf L p) ++ ts.flatMap fun q => peersD O (peersOf L q)

theorem besL_each {O : List Dp} {E : List Pn} : ∀ {ds : List Dp} {ps : List Pn}, besL O E ds = some ps → ∀ d ∈ ds, ∃ q ∈ ps, besP O E d = some q
  | [], ps, h, d, hd => by cases hd
  | e :: ds, ps, h, d, hd => by
    cases hb : besP O E e with
    | none => rw [besL_none hb] at h; cases h
    | some p =>
      rw [besL_some hb] at h
      obtain ⟨qs, h1, rfl⟩ := Option.map_eq_some_iff.1 h
      rcases List.mem_cons.1 hd with rfl | hd
      · exact ⟨p, List.mem_cons_self, hb⟩
      · obtain ⟨q, h2, h3⟩ := besL_each h1 d hd
        exact ⟨q, List.mem_cons_of_mem _ h2, h3⟩

theorem besL_from {O : List Dp} {E : List Pn} : ∀ {ds : List Dp} {ps : List Pn}, besL O E ds = some ps → ∀ q ∈ ps, ∃ d ∈ ds, d.nm = q.nm
  | [], ps, h, q, hq => by
    cases h
    cases hq
  | e :: ds, ps, h, q, hq => by
    cases hb : besP O E e with
    | none => rw [besL_none hb] at h; cases h
    | some p =>
      rw [besL_some hb] at h
      obtain ⟨qs, h1, rfl⟩ := Option.map_eq_some_iff.1 h
      rcases List.mem_cons.1 hq with rfl | hq
      · exact ⟨e, List.mem_cons_self, (besP_told hb).1.symm⟩
      · obtain ⟨d, h2, h3⟩ := besL_from h1 q hq
        exact ⟨d, List.mem_cons_of_mem _ h2, h3⟩

theorem besP_in {O : List Dp} {E : List Pn} {d : Dp} {q : Pn} (h : besP O E d = some q) : inL (rangeD O d) q.a q.b q.c = true := by
  unfold besP at h
  cases hf : E.find? (isN d.nm) with
  | none => rw [hf] at h; cases h
  | some r =>
    rw [hf] at h
    dsimp only at h
    split at h
    · rename_i hin
      cases h
      exact hin
    · cases h

theorem besC_of {L : List CV} {O : List Dp} {E : List Pn} {y : Pn} {ps : List Pn} (h : besC L O E y.nm y.a y.b y.c = some ps) : (∃ x, catC L y.nm y.a y.b y.c = some x ∧ x.pg.p = peersOf L y) ∧ besL O E (peersOf L y) = some ps := by
  unfold besC at h
  unfold peersOf
  cases hc : catC L y.nm y.a y.b y.c with
  | none => rw [hc] at h; cases h
  | some x => rw [hc] at h; exact ⟨⟨x, rfl, rfl⟩, h⟩

/-- What lies in a context was asked for. -/
theorem ctxF_from {L : List CV} {O : List Dp} {E : List Pn} : ∀ {f : Nat} {rs od out : List Pn}, ctxF L O E f rs od = some out → ∀ z ∈ out, z ∈ od ∨ ∃ y, (y ∈ rs ∨ y ∈ out) ∧ ∃ ps, besC L O E y.nm y.a y.b y.c = some ps ∧ z ∈ ps
  | f, [], od, out, h, z, hz => by
    rw [ctxF_nil] at h
    cases h
    exact Or.inl hz
  | 0, _ :: _, od, out, h, _, _ => by cases h
  | f + 1, x :: rs, od, out, h, z, hz => by
    obtain ⟨ps, h1, h2⟩ := ctxF_step h
    rcases ctxF_from h2 z hz with q | ⟨y, hy, qs, h3, h4⟩
    · rcases List.mem_append.1 q with q | q
      · exact Or.inl q
      · exact Or.inr ⟨x, Or.inl List.mem_cons_self, ps, h1, freshN_mem q⟩
    · rcases hy with hy | hy
      · rcases List.mem_append.1 hy with hy | hy
        · exact Or.inr ⟨y, Or.inl (List.mem_cons_of_mem _ hy), qs, h3, h4⟩
        · exact Or.inr ⟨y, Or.inr (ctxF_mono h2 y (List.mem_append_right _ hy)), qs, h3, h4⟩
      · exact Or.inr ⟨y, Or.inr hy, qs, h3, h4⟩

/-- All of a context is closed: the package itself, too. -/
theorem ctx_closed {L : List CV} {O : List Dp} {E out : List Pn} {p : Pn} (h : ctxC L O E p = some out) {y : Pn} (hy : y = p ∨ y ∈ out) : ClosedP L O E out y := by
  have hto := ctxF_told h fun q hq => (by cases hq)
  have hc := ctxF_closed h hto
  rcases hy with rfl | hy
  · exact hc.1 _ List.mem_cons_self
  · exact (hc.2 y hy).resolve_left fun k => by cases k

theorem ask_there {L : List CV} {O : List Dp} {E ts out : List Pn} {p : Pn} (h : ctxC L O E p = some out) (ht : ts.Perm out) {y : Pn} (hy : y = p ∨ y ∈ ts) : ∃ x, catC L y.nm y.a y.b y.c = some x ∧ x.pg.p = peersOf L y := by
  obtain ⟨ps, h1, _⟩ := ctx_closed h (y := y) (hy.imp id ht.mem_iff.1)
  exact (besC_of h1).1

theorem ask_mem {L : List CV} {O : List Dp} {p : Pn} {ts : List Pn} {e : Dp} (he : e ∈ askL L O p ts) : ∃ y, (y = p ∨ y ∈ ts) ∧ ∃ d ∈ peersOf L y, e = ⟨d.nm, rangeD O d⟩ := by
  unfold askL at he
  rcases List.mem_append.1 he with he | he
  · obtain ⟨d, hd, rfl⟩ := List.mem_map.1 he
    exact ⟨p, Or.inl rfl, d, hd, rfl⟩
  · obtain ⟨y, hy, he⟩ := List.mem_flatMap.1 he
    obtain ⟨d, hd, rfl⟩ := List.mem_map.1 he
    exact ⟨y, Or.inr hy, d, hd, rfl⟩

theorem mem_ask {L : List CV} {O : List Dp} {p : Pn} {ts : List Pn} {y : Pn} (hy : y = p ∨ y ∈ ts) {d : Dp} (hd : d ∈ peersOf L y) : (⟨d.nm, rangeD O d⟩ : Dp) ∈ askL L O p ts := by
  unfold askL
  rcases hy with rfl | hy
  · exact List.mem_append_left _ (List.mem_map.2 ⟨d, hd, rfl⟩)
  · exact List.mem_append_right _ (List.mem_flatMap.2 ⟨y, hy, List.mem_map.2 ⟨d, hd, rfl⟩⟩)

theorem ask_in {L : List CV} {O : List Dp} {E ts out : List Pn} {p : Pn} (h : ctxC L O E p = some out) (ht : ts.Perm out) {e : Dp} (he : e ∈ askL L O p ts) : ∃ q ∈ ts, q.nm = e.nm ∧ inL e.rg q.a q.b q.c = true := by
  obtain ⟨y, hy, d, hd, rfl⟩ := ask_mem he
  obtain ⟨ps, h1, h2⟩ := ctx_closed h (y := y) (hy.imp id ht.mem_iff.1)
  obtain ⟨q, h3, h4⟩ := besL_each (besC_of h1).2 d hd
  exact ⟨q, ht.mem_iff.2 (h2 q h3), (besP_told h4).1, besP_in h4⟩

theorem ask_has {L : List CV} {O : List Dp} {E ts out : List Pn} {p : Pn} (h : ctxC L O E p = some out) (ht : ts.Perm out) {q : Pn} (hq : q ∈ ts) : ∃ e ∈ askL L O p ts, e.nm = q.nm := by
  rcases ctxF_from h q (ht.mem_iff.1 hq) with k | ⟨y, hy, ps, h1, h2⟩
  · cases k
  · obtain ⟨d, h3, h4⟩ := besL_from (besC_of h1).2 q h2
    refine ⟨_, mem_ask (y := y) ?_ h3, h4⟩
    rcases hy with hy | hy
    · exact Or.inl (List.mem_singleton.1 hy)
    · exact Or.inr (ht.mem_iff.2 hy)

theorem ask_snoc {L : List CV} {O : List Dp} {p : Pn} {ts : List Pn} {i : Nat} (hi : i < ts.length) : askL L O p (ts.take (i + 1)) = askL L O p (ts.take i) ++ peersD O (peersOf L ts[i]) := by
  unfold askL
  rw [List.take_succ_eq_append_getElem hi, List.flatMap_append, List.append_assoc]
  simp

theorem ask_len {L : List CV} {O : List Dp} {p : Pn} {ts : List Pn} (h : ∀ y, y = p ∨ y ∈ ts → (peersOf L y).length ≤ 16) : (askL L O p ts).length ≤ 16 * (ts.length + 1) := by
  have e : ∀ l : List Pn, (∀ y ∈ l, (peersOf L y).length ≤ 16) → (l.flatMap fun q => peersD O (peersOf L q)).length ≤ 16 * l.length := by
    intro l
    induction l with
    | nil => intro _; simp
    | cons x l ih =>
      intro hl
      rw [List.flatMap_cons, List.length_append, List.length_cons]
      have h1 := ih fun y hy => hl y (List.mem_cons_of_mem _ hy)
      have h2 : (peersD O (peersOf L x)).length ≤ 16 := by unfold peersD; rw [List.length_map]; exact hl x List.mem_cons_self
      omega
  have h1 := e ts fun y hy => h y (Or.inr hy)
  have h2 : (peersD O (peersOf L p)).length ≤ 16 := by unfold peersD; rw [List.length_map]; exact h p (Or.inl rfl)
  unfold askL
  rw [List.length_append]
  omega

theorem fitP_of {O ds : List Dp} (hO : ∀ d ∈ O, d.rg.length * 48 ≤ 140737488355328) (h : SmD ds) : FitP O ds := by
  refine ⟨Nat.le_trans h.1 (by decide), fun d hd => ⟨Nat.le_trans (h.2 d hd).1 (by decide), ?_⟩⟩
  unfold rangeD
  cases hf : O.find? (isD d.nm) with
  | none => dsimp only; have := (h.2 d hd).2; omega
  | some o => exact hO o (List.mem_of_find?_eq_some hf)

theorem dpCells_two (ps qs : List (Dp × Value)) : dpCells (ps ++ qs) = dpCells ps ++ dpCells qs := by
  unfold dpCells
  rw [List.flatMap_append]

theorem dp_ones {w : World} {B : Nat} {v : Value} {qs : List (Dp × Value)} (h : OwnD w B v qs) : ∀ u ∈ dpCells qs, u.oneCell' = true := fun u hu => by
  unfold dpCells at hu
  obtain ⟨x, hx, hu⟩ := List.mem_flatMap.1 hu
  obtain ⟨a, c, e, _⟩ := (h.2 x hx).sp
  simp at hu
  rcases hu with rfl | rfl
  · rfl
  · rw [e]
    rfl

/-- A row of deps of one's own, put behind another one. -/
theorem OwnD.two {W w1 : World} {B B' : Nat} {vo vq v1 : Value} {ps qs : List (Dp × Value)} (h : OwnD W B vo ps) (h' : OwnD W B' vq qs) (hBB : B ≤ B') (ho : w1.ownsRow B 68 2 v1 (ps.length + qs.length) (dpCells ps ++ dpCells qs)) (hg : W.grownBy w1 vo.ownBlock) : OwnD w1 B v1 (ps ++ qs) := by
  refine ⟨?_, fun p hp => ?_⟩
  · rw [List.length_append, dpCells_two]
    exact ho
  · rcases List.mem_append.1 hp with hp | hp
    · exact World.ownsRow.kept (h.2 p hp) hg (own_apart (h.2 p hp) h.1 (by decide))
    · exact World.ownsRow.kept ((h'.2 p hp).base hBB) hg (own_apart (h'.2 p hp) h.1 (by decide))

/-- What Get answers of a package that is there. -/
def GetQ (W : World) (ds : List Dp) (e : Ending) (w' : World) : Prop := ∃ nm a b c p1 q1 r1 p2 r2 p3 q3 r3 ps, e = .returned (.tuple #[.agg #[.string nm, .int .i64 a, .int .i64 b, .int .i64 c, .slice p1 q1 r1, .slice p2 ds.length r2, .slice p3 q3 r3], .bool true]) ∧ (OwnD w' W.heap.size (.slice p2 ds.length r2) ps ∧ ps.map (·.1) = ds) ∧ Below W.heap.size W w'

theorem get_q {w : World} {B C Q : Nat} {L : List CV} (h : CatAt w B C Q L) {y : Pn} {x : CV} (hx : catC L y.nm y.a y.b y.c = some x) (hp : x.pg.p = peersOf L y) : Calls Tryz.prog 13 #[.pointer (some ⟨C, 0, none⟩), .string y.nm, .agg #[.int .i64 y.a, .int .i64 y.b, .int .i64 y.c]] w (GetQ w (peersOf L y)) := by
  rw [← hp]
  obtain ⟨_, h1, h2, h3, h4, _⟩ := h.find hx
  obtain ⟨P, u1, u2, u3⟩ := x
  simp only at h1 h2 h3 h4
  rw [← h1, ← h2, ← h3, ← h4] at hx ⊢
  refine (get_some h hx).mono ?_
  rintro e w' ⟨v1, v2, v3, rfl, ho, hb⟩
  obtain ⟨p1, q1, r1, rfl⟩ := own_sl1 ho
  obtain ⟨p3, q3, r3, rfl⟩ := own_sl3 ho
  obtain ⟨_, qs, _, _, ⟨g1, g2⟩, _⟩ := ho
  obtain ⟨p2, r2, rfl⟩ := g1.len
  have e : qs.length = P.p.length := by rw [← g2, List.length_map]
  rw [e] at g1 ⊢
  exact ⟨_, _, _, _, p1, q1, r1, p2, r2, p3, q3, r3, qs, rfl, ⟨g1, g2⟩, hb⟩
end Go.Proofs.YtfehbkmahemknaaGreatDoor
