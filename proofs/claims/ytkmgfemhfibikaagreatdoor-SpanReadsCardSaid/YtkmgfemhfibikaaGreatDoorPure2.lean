/- Lists of spans that may be are ranges by their places; what is in them. Plain facts. -/
import Derived.Test.YtkmgfemhfibikaaGreatDoorCut1
namespace Go.Proofs.YtkmgfemhfibikaaGreatDoor
open Go.RowKit

/-- A span's places. -/
def rk (s : Sp) : Int × Int := (rankV s.a s.b s.c, rankV s.x s.y s.z)

theorem maySp_true {a b c x y z : Int} : maySp a b c x y z = true ↔ mayV a b c = true ∧ mayV x y z = true ∧ cmpV a b c x y z ≤ 0 := by
  unfold maySp; simp [and_assoc]
theorem cmp_lek {a b c x y z : Int} (h : mayV a b c = true) (k : mayV x y z = true) : cmpV a b c x y z ≤ 0 ↔ rankV a b c ≤ rankV x y z := by
  have h1 := cmp_rank k h
  rw [cmp_neg] at h1
  omega
theorem maySp_rk {s : Sp} (h : maySp s.a s.b s.c s.x s.y s.z = true) : spR (rk s) = s ∧ okP2 (rk s) := by
  obtain ⟨h1, h2, h3⟩ := maySp_true.1 h
  rw [cmp_lek h1 h2] at h3
  obtain ⟨a, b, c, x, y, z⟩ := s
  obtain ⟨e1, e2, e3⟩ := at_rank h1
  obtain ⟨f1, f2, f3⟩ := at_rank h2
  have l1 := rank_low h1
  have l2 := rank_low h2
  refine ⟨?_, ?_, ?_, ?_⟩
  · simp only [spR, rk]
    simp only at e1 e2 e3 f1 f2 f3
    rw [e1, e2, e3, f1, f2, f3]
  · unfold okR rk; simp only at *; omega
  · unfold okR rk; simp only at *; omega
  · exact h3
theorem rk_spR {p : Int × Int} (h : okP2 p) : rk (spR p) = p ∧ maySp (spR p).a (spR p).b (spR p).c (spR p).x (spR p).y (spR p).z = true := by
  obtain ⟨h1, h2, h3⟩ := h
  obtain ⟨m1, e1⟩ := may_at h1.has
  obtain ⟨m2, e2⟩ := may_at h2.has
  refine ⟨?_, ?_⟩
  · unfold rk spR; simp only; rw [e1, e2]
  · rw [maySp_true]
    refine ⟨m1, m2, ?_⟩
    unfold spR
    simp only
    rw [cmp_lek m1 m2, e1, e2]
    exact h3
theorem apart_rk {x y z a b c : Int} (h : mayV x y z = true) (k : mayV a b c = true) : apartV x y z a b c = true ↔ rankV x y z + 2 ≤ rankV a b c := by
  unfold apartV
  have l1 := rank_low h
  have l2 := rank_low k
  rw [Bool.and_eq_true, decide_eq_true_eq]
  constructor
  · rintro ⟨h1, h2⟩
    obtain ⟨_, m, e⟩ := on_may h1
    rw [cmp_rank m k, e] at h2
    omega
  · intro h1
    have h2 : onIs x y z 1 = true := by rw [next_is h]; simp; omega
    obtain ⟨_, m, e⟩ := on_may h2
    refine ⟨h2, ?_⟩
    rw [cmp_rank m k, e]
    omega

theorem okAt_zero {s : Sp} {L : List Sp} : okAt (s :: L) 0 = maySp s.a s.b s.c s.x s.y s.z := by simp [okAt]
theorem okAt_one {s t : Sp} {L : List Sp} : okAt (s :: t :: L) 1 = (maySp t.a t.b t.c t.x t.y t.z && apartV s.x s.y s.z t.a t.b t.c) := by simp [okAt]
theorem okAt_more {s : Sp} {L : List Sp} {i : Nat} : okAt (s :: L) (i + 1 + 1) = okAt L (i + 1) := by simp [okAt]

theorem ok_tail {s : Sp} {L : List Sp} (h : ∀ i, i < (s :: L).length → okAt (s :: L) i = true) : ∀ i, i < L.length → okAt L i = true := by
  intro i hi
  cases i with
  | succ i => rw [← okAt_more (s := s)]; exact h _ (by simpa using hi)
  | zero =>
    cases L with
    | nil => simp at hi
    | cons t L =>
      have := h 1 (by simp)
      rw [okAt_one, Bool.and_eq_true] at this
      rw [okAt_zero]; exact this.1

theorem ok_rise : ∀ {L : List Sp}, (∀ i, i < L.length → okAt L i = true) → (L.map rk).map spR = L ∧ RangeR (L.map rk)
  | [], _ => ⟨rfl, trivial⟩
  | s :: L, h => by
    obtain ⟨e, hr⟩ := ok_rise (ok_tail h)
    have h0 := h 0 (by simp)
    rw [okAt_zero] at h0
    obtain ⟨es, o1, o2, o3⟩ := maySp_rk h0
    refine ⟨by rw [List.map_cons, List.map_cons, e, es], o1.1, o3, o2.2, ?_⟩
    cases L with
    | nil => trivial
    | cons t L =>
      have h1 := h 1 (by simp)
      rw [okAt_one, Bool.and_eq_true] at h1
      have ha := (apart_rk (maySp_true.1 h0).2.1 (maySp_true.1 h1.1).1).1 h1.2
      exact ⟨ha, hr.2⟩

theorem rise_ok : ∀ {A : Rg}, RangeR A → ∀ i, i < (A.map spR).length → okAt (A.map spR) i = true
  | [], _, i, hi => by simp at hi
  | p :: A, h, i, hi => by
    obtain ⟨g, e⟩ := p
    obtain ⟨h1, h2, h3, h4⟩ := h
    have ho : okP2 (g, e) := ⟨⟨h1, by show g ≤ 999999999; omega⟩, ⟨by show 0 ≤ e; omega, h3⟩, h2⟩
    have ih := rise_ok (A := A) (h4.weak (by omega))
    cases i with
    | zero => rw [List.map_cons, okAt_zero]; exact (rk_spR ho).2
    | succ i =>
      cases i with
      | succ i => rw [List.map_cons, okAt_more]; exact ih _ (by simpa using hi)
      | zero =>
        cases A with
        | nil => simp at hi
        | cons q A =>
          obtain ⟨g', e'⟩ := q
          obtain ⟨k1, k2, k3, _⟩ := h4
          have hq : okP2 (g', e') := ⟨⟨by show 0 ≤ g'; omega, by show g' ≤ 999999999; omega⟩, ⟨by show 0 ≤ e'; omega, k3⟩, k2⟩
          rw [List.map_cons, List.map_cons, okAt_one, Bool.and_eq_true]
          refine ⟨(rk_spR hq).2, ?_⟩
          rw [apart_rk (maySp_true.1 (rk_spR ho).2).2.1 (maySp_true.1 (rk_spR hq).2).1]
          have r1 := congrArg Prod.snd (rk_spR ho).1
          have r2 := congrArg Prod.fst (rk_spR hq).1
          simp only [rk] at r1 r2
          rw [r1, r2]
          exact k1

/-- A list may be just if it is a range of at most 64 spans. -/
theorem may_iff {L : List Sp} : mayL L = true ↔ ∃ A : Rg, L = A.map spR ∧ RangeR A ∧ A.length ≤ 64 := by
  unfold mayL
  rw [Bool.and_eq_true, decide_eq_true_eq, List.all_eq_true]
  constructor
  · rintro ⟨h1, h2⟩
    obtain ⟨e, hr⟩ := ok_rise fun i hi => h2 i (List.mem_range.2 hi)
    exact ⟨L.map rk, e.symm, hr, by simpa using h1⟩
  · rintro ⟨A, rfl, hr, hl⟩
    exact ⟨by simpa using hl, fun i hi => rise_ok hr i (List.mem_range.1 hi)⟩
theorem may_rg {A : Rg} (h : RangeR A) (hl : A.length ≤ 64) : mayL (A.map spR) = true := may_iff.2 ⟨A, rfl, h, hl⟩

theorem has_rg {p : Int × Int} (h : okP2 p) {a b c : Int} (k : mayV a b c = true) : hasS a b c (spR p) = true ↔ p.1 ≤ rankV a b c ∧ rankV a b c ≤ p.2 := by
  obtain ⟨h1, h2, h3⟩ := h
  obtain ⟨m1, e1⟩ := may_at h1.has
  obtain ⟨m2, e2⟩ := may_at h2.has
  unfold hasS spR
  simp only
  rw [Bool.and_eq_true, decide_eq_true_eq, decide_eq_true_eq, cmp_lek m1 k, cmp_lek k m2, e1, e2]

theorem any_rg {A : Rg} (h : ∀ p ∈ A, okP2 p) {a b c : Int} (k : mayV a b c = true) : (A.map spR).any (hasS a b c) = true ↔ InR A (rankV a b c) := by
  induction A with
  | nil => simp [InR]
  | cons p A ih =>
    obtain ⟨g, e⟩ := p
    rw [List.map_cons, List.any_cons, Bool.or_eq_true, has_rg (h _ List.mem_cons_self) k, ih fun q hq => h q (List.mem_cons_of_mem _ hq)]
    rfl
theorem in_rg {A : Rg} (h : RangeR A) (hl : A.length ≤ 64) {a b c : Int} : inL (A.map spR) a b c = true ↔ mayV a b c = true ∧ InR A (rankV a b c) := by
  unfold inL
  rw [may_rg h hl, Bool.true_and, Bool.and_eq_true]
  constructor
  · rintro ⟨k, hi⟩
    exact ⟨k, (any_rg (fun p hp => by have := RiseR.mem h hp; unfold okP2 okR; omega) k).1 hi⟩
  · rintro ⟨k, hi⟩
    exact ⟨k, (any_rg (fun p hp => by have := RiseR.mem h hp; unfold okP2 okR; omega) k).2 hi⟩

theorem SpansR.at {w : World} {v : Value} {A : Rg} (h : SpansR w v A) : SpansAt w v (A.map spR) := by
  obtain ⟨ad, cap, hv, hc, hl⟩ := h
  refine ⟨ad, cap, by rw [List.length_map]; exact hv, ?_⟩
  rcases hl with rfl | ⟨g, o, ha, hg, hs⟩
  · exact Or.inl rfl
  · right
    refine ⟨g, o, ha, hg, fun i hi => ?_⟩
    rw [List.getElem_map]
    exact hs i (by simpa using hi)

/-- A list of spans that came in: its length is no more than its room. -/
def SpansC (w : World) (v : Value) (L : List Sp) : Prop := SpansAt w v L ∧ ∃ ad n cap, v = .slice ad n cap ∧ n ≤ cap
theorem SpansC.rg {w : World} {v : Value} {A : Rg} (h : SpansC w v (A.map spR)) : SpansR w v A := by
  obtain ⟨⟨ad, cap, rfl, hl⟩, ad', n', cap', hv, hc⟩ := h
  cases hv
  rw [List.length_map] at hc ⊢
  refine ⟨_, _, rfl, hc, ?_⟩
  rcases hl with hl | ⟨g, o, ha, hg, hs⟩
  · left; simpa using hl
  · right
    refine ⟨g, o, ha, hg, fun i hi => ?_⟩
    have := hs i (by simpa using hi)
    rw [List.getElem_map] at this
    exact this
theorem SpansC.below {w w' : World} {v : Value} {L : List Sp} (h : SpansC w v L) (hb : Below w.heap.size w w') : SpansC w' v L := ⟨h.1.below hb, h.2⟩
theorem SpansR.c {w : World} {v : Value} {A : Rg} (h : SpansR w v A) : SpansC w v (A.map spR) := by
  have := h.at
  obtain ⟨ad, cap, hv, hc, _⟩ := h
  exact ⟨this, ad, _, cap, hv, hc⟩
end Go.Proofs.YtkmgfemhfibikaaGreatDoor
