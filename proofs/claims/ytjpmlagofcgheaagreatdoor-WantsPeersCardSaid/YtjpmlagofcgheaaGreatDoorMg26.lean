/- Wc3, laid in one text. -/
import Derived.Test.YtjpmlagofcgheaaGreatDoorMg25
namespace Go.Proofs.YtjpmlagofcgheaaGreatDoor
open Go.RowKit Go.Maps Go.WideMaps
set_option maxRecDepth 100000

def TwoC (L R : List CV) : Prop := (L.map CV.pg).Perm (R.map CV.pg)
theorem isAt_iff {s : ByteArray} {a b c : Int} {x : CV} : isAt s a b c x = true ↔ x.pg.nm = s ∧ x.pg.a = a ∧ x.pg.b = b ∧ x.pg.c = c := by
  unfold isAt
  rw [decide_eq_true_eq]
theorem rcat_self {R : List CV} (hP : R.Pairwise fun x y => isAt x.pg.nm x.pg.a x.pg.b x.pg.c y = false) {x : CV} (hx : x ∈ R) : catC R x.pg.nm x.pg.a x.pg.b x.pg.c = some x := by
  unfold catC
  cases hf : R.find? (isAt x.pg.nm x.pg.a x.pg.b x.pg.c) with
  | none => exact absurd (decide_eq_true ⟨rfl, rfl, rfl, rfl⟩) (List.find?_eq_none.1 hf x hx)
  | some y =>
    have hy := List.mem_of_find?_eq_some hf
    have hk : isAt x.pg.nm x.pg.a x.pg.b x.pg.c y = true := List.find?_some hf
    by_cases e : y = x
    · rw [e]
    · obtain ⟨i, hi, rfl⟩ := List.getElem_of_mem hx
      obtain ⟨j, hj, rfl⟩ := List.getElem_of_mem hy
      rw [List.pairwise_iff_getElem] at hP
      rcases Nat.lt_trichotomy i j with h | h | h
      · rw [hP i j hi hj h] at hk; cases hk
      · subst h; exact absurd rfl e
      · have h2 := isAt_no.1 (hP j i hj hi h)
        rw [h2] at hk; cases hk
theorem keyC_of {x y : CV} (h : isAt x.pg.nm x.pg.a x.pg.b x.pg.c y = true) : keyC y = keyC x := by
  obtain ⟨h1, h2, h3, h4⟩ := isAt_iff.1 h
  unfold keyC
  rw [h1, h2, h3, h4]
theorem lcat_apart {L : List CV} (h : L.Pairwise fun x y => keyC x ≠ keyC y) : L.Pairwise fun x y => isAt x.pg.nm x.pg.a x.pg.b x.pg.c y = false := h.imp fun {_ _} q => Bool.eq_false_iff.2 fun e => q (keyC_of e).symm
theorem two_half {L R : List CV} (hR : R.Pairwise fun x y => isAt x.pg.nm x.pg.a x.pg.b x.pg.c y = false) (h : TwoC L R) {s : ByteArray} {a b c : Int} {x : CV} (hx : catC L s a b c = some x) : ∃ y, catC R s a b c = some y ∧ y.pg = x.pg := by
  have hm := List.mem_of_find?_eq_some hx
  obtain ⟨h1, h2, h3, h4⟩ := isAt_iff.1 (List.find?_some hx)
  obtain ⟨y, hy, e⟩ := List.mem_map.1 (h.mem_iff.1 (List.mem_map.2 ⟨x, hm, rfl⟩))
  refine ⟨y, ?_, e⟩
  have q := rcat_self hR hy
  rw [e, h1, h2, h3, h4] at q
  exact q
theorem two_find {L R : List CV} (hL : L.Pairwise fun x y => isAt x.pg.nm x.pg.a x.pg.b x.pg.c y = false) (hR : R.Pairwise fun x y => isAt x.pg.nm x.pg.a x.pg.b x.pg.c y = false) (h : TwoC L R) (s : ByteArray) (a b c : Int) : (catC L s a b c).map CV.pg = (catC R s a b c).map CV.pg := by
  cases hx : catC L s a b c with
  | some x =>
    obtain ⟨y, hy, e⟩ := two_half hR h hx
    rw [hy]
    show some x.pg = some y.pg
    rw [e]
  | none =>
    cases hy : catC R s a b c with
    | none => rfl
    | some y =>
      obtain ⟨x, hx', _⟩ := two_half hL h.symm hy
      rw [hx] at hx'
      cases hx'
theorem two_bes {L R : List CV} (hf : ∀ s a b c, (catC L s a b c).map CV.pg = (catC R s a b c).map CV.pg) (O : List Dp) (E : List Pn) (s : ByteArray) (a b c : Int) : besC L O E s a b c = besC R O E s a b c := by
  have e := hf s a b c
  unfold besC
  cases hx : catC L s a b c with
  | none =>
    cases hy : catC R s a b c with
    | none => rfl
    | some y => rw [hx, hy] at e; cases e
  | some x =>
    cases hy : catC R s a b c with
    | none => rw [hx, hy] at e; cases e
    | some y =>
      rw [hx, hy] at e
      have e2 : x.pg = y.pg := Option.some.inj e
      simp only
      rw [e2]
theorem two_ctx {L R : List CV} (hf : ∀ s a b c, (catC L s a b c).map CV.pg = (catC R s a b c).map CV.pg) (O : List Dp) (E : List Pn) : ∀ (f : Nat) (rs od : List Pn), ctxF L O E f rs od = ctxF R O E f rs od
  | f, [], od => by rw [ctxF_nil, ctxF_nil]
  | 0, _ :: _, _ => rfl
  | f + 1, x :: rs, od => by
    cases hb : besC R O E x.nm x.a x.b x.c with
    | none => rw [ctxF_none hb, ctxF_none ((two_bes hf O E _ _ _ _).trans hb)]
    | some ps => rw [ctxF_some hb, ctxF_some ((two_bes hf O E _ _ _ _).trans hb), two_ctx hf O E f]
theorem two_put {L R : List CV} (hf : ∀ s a b c, (catC L s a b c).map CV.pg = (catC R s a b c).map CV.pg) (h : TwoC L R) (P : Pg) : rputE L P = rputE R P := by
  have e := hf P.nm P.a P.b P.c
  have hl : L.length = R.length := by
    have := h.length_eq
    rw [List.length_map, List.length_map] at this
    exact this
  have hs : (catC L P.nm P.a P.b P.c).isSome = (catC R P.nm P.a P.b P.c).isSome := by
    have := congrArg Option.isSome e
    rw [Option.isSome_map, Option.isSome_map] at this
    exact this
  unfold rputE
  rw [hs, hl]
/-- What a catalog is behind a Put. -/
def PutL (L L' : List CV) (P : Pg) : Prop := (rputE L P ≠ 0 ∧ L' = L) ∨ (rputE L P = 0 ∧ ∃ u1 u2 u3, L'.Perm (⟨P, u1, u2, u3⟩ :: L))
theorem PutL.two {L L' R R' : List CV} {P : Pg} (hf : ∀ s a b c, (catC L s a b c).map CV.pg = (catC R s a b c).map CV.pg) (h : TwoC L R) (h1 : PutL L L' P) (h2 : PutL R R' P) : TwoC L' R' := by
  have e := two_put hf h P
  rcases h1 with ⟨a1, rfl⟩ | ⟨a1, u1, u2, u3, p1⟩
  · rcases h2 with ⟨_, rfl⟩ | ⟨b1, _⟩
    · exact h
    · exact absurd (e.trans b1) a1
  · rcases h2 with ⟨b1, _⟩ | ⟨_, v1, v2, v3, p2⟩
    · exact absurd (e.symm.trans a1) b1
    · exact (p1.map CV.pg).trans ((h.cons P).trans (p2.map CV.pg).symm)
theorem put_sharp {w : World} {B C M : Nat} {L : List CV} (h : CatAt w B C M L) (hB : B ≤ w.heap.size) (hl : L.length ≤ 128) {P : Pg} {v1 v2 v3 : Value} (hp : PgAt w P v1 v2 v3) (he : Env w) (hf : FL w) :
    Calls Tryz.prog 10 #[.pointer (some ⟨C, 0, none⟩), .agg #[.string P.nm, .int .i64 P.a, .int .i64 P.b, .int .i64 P.c, v1, v2, v3]] w fun e w' => ∃ L', e = .returned (.int .i64 (rputE L P)) ∧ (CatAt w' B C M L' ∧ L'.length ≤ 128) ∧ PutL L L' P ∧ w.grownBy w' (some M) := by
  cases hw : writtenB P
  · have hr : rputE L P = 24 := by unfold rputE; rw [hw, if_neg (by decide)]
    refine (put_no h hp he hf hw).mono ?_
    rintro e w' ⟨rfl, hb⟩
    exact ⟨L, by rw [hr], ⟨h.below hb, hl⟩, Or.inl ⟨by rw [hr]; decide, rfl⟩, below_any hb⟩
  · cases hx : catC L P.nm P.a P.b P.c with
    | some x =>
      have hr : rputE L P = 11 := by unfold rputE; rw [hw, hx]; rfl
      refine (put_there h hp he hf (written_key hw) hw hx).mono ?_
      rintro e w' ⟨rfl, hb⟩
      exact ⟨L, by rw [hr], ⟨h.below hb, hl⟩, Or.inl ⟨by rw [hr]; decide, rfl⟩, below_any hb⟩
    | none =>
      by_cases hn : L.length < 128
      · have hr : rputE L P = 0 := by unfold rputE; rw [hw, hx, if_pos rfl, if_neg (by simp), if_pos hn]
        refine (put_ok h hp he hf hB (written_key hw) hw hx hn).mono ?_
        rintro e w' ⟨rfl, u1, u2, u3, L', hp', hc, hg⟩
        refine ⟨L', by rw [hr], ⟨hc, ?_⟩, Or.inr ⟨hr, u1, u2, u3, hp'⟩, hg⟩
        rw [hp'.length_eq, List.length_cons]
        omega
      · have hr : rputE L P = 26 := by unfold rputE; rw [hw, hx, if_pos rfl, if_neg (by simp), if_neg hn]
        refine (put_full h hp he hf (written_key hw) hw hx (by omega)).mono ?_
        rintro e w' ⟨rfl, hb⟩
        exact ⟨L, by rw [hr], ⟨h.below hb, hl⟩, Or.inl ⟨by rw [hr]; decide, rfl⟩, below_any hb⟩
theorem rput_sharp {w0 w : World} {E : Nat} {R : List CV} (h : RcAt w0 w E R) (hb0 : Below w0.heap.size w0 w) {P : Pg} {v1 v2 v3 : Value} (hp : PgAt w0 P v1 v2 v3) (hok : PgOk P) :
    Calls Tryz.prog 11 #[.pointer (some ⟨E, 0, none⟩), .agg #[.string P.nm, .int .i64 P.a, .int .i64 P.b, .int .i64 P.c, v1, v2, v3]] w fun e w' => ∃ R', e = .returned (.int .i64 (rputE R P)) ∧ RcAt w0 w' E R' ∧ PutL R R' P ∧ w.grownBy w' (some E) := by
  cases hw : writtenB P
  · have hr : rputE R P = 24 := by unfold rputE; rw [hw, if_neg (by decide)]
    refine (rput_no h hb0 hp hok hw).mono ?_
    rintro e w' ⟨rfl, hb⟩
    exact ⟨R, by rw [hr], h.below hb, Or.inl ⟨by rw [hr]; decide, rfl⟩, below_any hb⟩
  · cases hx : catC R P.nm P.a P.b P.c with
    | some x =>
      have hr : rputE R P = 11 := by unfold rputE; rw [hw, hx]; rfl
      refine (rput_there h hb0 hp hok hw hx).mono ?_
      rintro e w' ⟨rfl, hb⟩
      exact ⟨R, by rw [hr], h.below hb, Or.inl ⟨by rw [hr]; decide, rfl⟩, below_any hb⟩
    | none =>
      by_cases hn : R.length < 128
      · have hr : rputE R P = 0 := by unfold rputE; rw [hw, hx, if_pos rfl, if_neg (by simp), if_pos hn]
        refine (rput_ok h hb0 hp hok hw hx hn).mono ?_
        rintro e w' ⟨rfl, hc, hg⟩
        exact ⟨_, by rw [hr], hc, Or.inr ⟨hr, v1, v2, v3, insC_perm _ _⟩, hg⟩
      · have hr : rputE R P = 26 := by unfold rputE; rw [hw, hx, if_pos rfl, if_neg (by simp), if_neg hn]
        refine (rput_full h hb0 hp hok hw hx (by omega)).mono ?_
        rintro e w' ⟨rfl, hb⟩
        exact ⟨R, by rw [hr], h.below hb, Or.inl ⟨by rw [hr]; decide, rfl⟩, below_any hb⟩
end Go.Proofs.YtjpmlagofcgheaaGreatDoor
