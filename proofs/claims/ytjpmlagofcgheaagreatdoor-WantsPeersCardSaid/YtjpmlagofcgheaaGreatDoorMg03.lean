/- Fo1, Fo2, Pure2, Fo3, Tx1, Row1, Tab1, Facts2, Ref1, Next1, Next2, Next3, Parse1, Boxes2, Parse2, Parse3, Tx2, Tx3, laid in one text. -/
import Derived.Deep.RegionHeld3
import Derived.Test.YtjpmlagofcgheaaGreatDoorRows
import Derived.Test.YtjpmlagofcgheaaGreatDoorTie
import Derived.Test.YtjpmlagofcgheaaGreatDoorCards
import Derived.ProofKit
import Derived.OpenShut
import Derived.ChangeOld
import Derived.LaidMore
import Derived.Lay
import Derived.SevenTiedAt
import Derived.Stop.Joined
import Derived.Shelf.Vars
import Derived.Deep.Slices
import Derived.Test.YtjpmlagofcgheaaGreatDoorShelfB
import Derived.Lib.LaidTab
import Derived.Lib.AppendIntMem
import Derived.Stop.LaidErr
import Derived.Laws.IdiomStrings
import Derived.Deep.RegionWith
import Derived.Shelf.Strconv.AtoiAll
import Derived.Shelf.Strings.Cut
import Derived.Shelf.Strings.Split
import Derived.Shelf.Strings.IndexAnyAll
import Derived.Test.YtjpmlagofcgheaaGreatDoorShelfC
import Derived.Lib.SplitLaws
import Derived.Test.YtjpmlagofcgheaaGreatDoorMg02
namespace Go.Proofs.YtjpmlagofcgheaaGreatDoor
open Go.RowKit
set_option maxRecDepth 100000

theorem RiseR.len {M : Int} : ∀ {B : Rg} {k : Int}, RiseR k M B → B = [] ∨ 2 * (B.length : Int) + k ≤ M + 2
  | [], _, _ => Or.inl rfl
  | (g, h) :: B, k, hr => by
    obtain ⟨h1, h2, h3, h4⟩ := hr
    right
    rcases RiseR.len h4 with rfl | h5
    · simp; omega
    · simp only [List.length_cons]; omega
theorem RangeR.len {B : Rg} (h : RangeR B) : B.length ≤ 500000001 := by
  rcases RiseR.len h with rfl | h1
  · simp
  · omega
theorem RangeR.ok {B : Rg} (h : RangeR B) : ∀ p ∈ B, okP2 p := fun p hp => by
  have := RiseR.mem h hp
  unfold okP2 okR; omega

theorem spCells_at : ∀ (L : List Sp) (i : Nat) (h : i < L.length), (spCells L)[i * 6]? = some (.int .i64 L[i].a) ∧ (spCells L)[i * 6 + 1]? = some (.int .i64 L[i].b) ∧ (spCells L)[i * 6 + 1 + 1]? = some (.int .i64 L[i].c) ∧
    (spCells L)[i * 6 + 1 + 1 + 1]? = some (.int .i64 L[i].x) ∧ (spCells L)[i * 6 + 1 + 1 + 1 + 1]? = some (.int .i64 L[i].y) ∧ (spCells L)[i * 6 + 1 + 1 + 1 + 1 + 1]? = some (.int .i64 L[i].z)
  | [], i, h => by simp at h
  | s :: L, 0, _ => by simp [spCells]
  | s :: L, i + 1, h => by
    have ih := spCells_at L i (by simpa using h)
    have e : (i + 1) * 6 = i * 6 + 6 := by omega
    have q : ∀ j, (spCells (s :: L))[i * 6 + 6 + j]? = (spCells L)[i * 6 + j]? := fun j => by
      have : i * 6 + 6 + j = (i * 6 + j) + 6 := by omega
      rw [this]; simp [spCells]
    have q0 := q 0
    have q1 := q 1
    have q2 := q 2
    have q3 := q 3
    have q4 := q 4
    have q5 := q 5
    simp only [Nat.add_zero] at q0
    rw [e]
    simp only [List.getElem_cons_succ]
    exact ⟨q0.trans ih.1, q1.trans ih.2.1, q2.trans ih.2.2.1, q3.trans ih.2.2.2.1, q4.trans ih.2.2.2.2.1, q5.trans ih.2.2.2.2.2⟩

theorem OwnS.base {w : World} {B C : Nat} {v : Value} {L : List Sp} (h : OwnS w B v L) (hc : C ≤ B) : OwnS w C v L := by
  refine ⟨h.1, ?_⟩
  rcases h.2 with hn | ⟨g, cap, cur, hv, hB, r⟩
  · exact Or.inl hn
  · exact Or.inr ⟨g, cap, cur, hv, Nat.le_trans hc hB, r⟩

theorem OwnS.sp {w : World} {B : Nat} {v : Value} {L : List Sp} (h : OwnS w B v L) : ∃ ad cap, v = .slice ad L.length cap ∧ L.length ≤ cap ∧ (L = [] ∨ ∃ g o, ad = some ⟨g, o, none⟩ ∧ g < w.heap.size ∧ ∀ i (h : i < L.length), SpAt w g (o + i * 6) L[i]) := by
  rcases h.2 with ⟨rfl, hn⟩ | ⟨g, cap, cur, rfl, hB, hgg, hc, hm, hs, hx⟩
  · have : L = [] := List.eq_nil_of_length_eq_zero hn
    subst this
    exact ⟨none, 0, rfl, Nat.le_refl _, Or.inl rfl⟩
  · refine ⟨_, _, rfl, hc, Or.inr ⟨g, 0, rfl, ?_, fun i hi => ?_⟩⟩
    · rw [Array.getElem?_eq_some_iff] at hgg; exact hgg.1
    · have q : ∀ j v, (spCells L)[j]? = some v → w.cell? ⟨g, 0 + j, none⟩ = some v := fun j v hj => by
        rw [← hx, List.getElem?_take] at hj
        split at hj
        · rw [Nat.zero_add]
          simp [World.cell?, hgg]
          simpa using hj
        · cases hj
      obtain ⟨s0, s1, s2, s3, s4, s5⟩ := spCells_at L i hi
      exact ⟨q _ _ s0, q _ _ s1, q _ _ s2, q _ _ s3, q _ _ s4, q _ _ s5⟩

theorem OwnS.spans {w : World} {B : Nat} {v : Value} {L : Rg} (h : OwnS w B v (L.map spR)) : SpansR w v L := by
  obtain ⟨ad, cap, hv, hc, hl⟩ := h.sp
  simp only [List.length_map] at hv hc hl
  refine ⟨ad, cap, hv, hc, ?_⟩
  rcases hl with hl | ⟨g, o, ha, hg, hs⟩
  · left; simpa using hl
  · right
    refine ⟨g, o, ha, hg, fun i hi => ?_⟩
    have := hs i hi
    rw [List.getElem_map] at this
    exact this

/-- The first and the last version lie in their variables. -/
def FL (w : World) : Prop := (w.cell? ⟨1, 0, none⟩ = some (.int .i64 0) ∧ w.cell? ⟨1, 1, none⟩ = some (.int .i64 0) ∧ w.cell? ⟨1, 2, none⟩ = some (.int .i64 0)) ∧
  (w.cell? ⟨2, 0, none⟩ = some (.int .i64 999) ∧ w.cell? ⟨2, 1, none⟩ = some (.int .i64 999) ∧ w.cell? ⟨2, 2, none⟩ = some (.int .i64 999)) ∧ 1 < w.heap.size ∧ 2 < w.heap.size
theorem FL.below {w w' : World} (h : FL w) (hb : Below w.heap.size w w') : FL w' := by
  obtain ⟨⟨h0, h1, h2⟩, ⟨h3, h4, h5⟩, h6, h7⟩ := h
  have q : ∀ i, w'.cell? ⟨1, i, none⟩ = w.cell? ⟨1, i, none⟩ := fun i => hb.cell (p := ⟨1, i, none⟩) h6
  have r : ∀ i, w'.cell? ⟨2, i, none⟩ = w.cell? ⟨2, i, none⟩ := fun i => hb.cell (p := ⟨2, i, none⟩) h7
  exact ⟨⟨by rw [q]; exact h0, by rw [q]; exact h1, by rw [q]; exact h2⟩, ⟨by rw [r]; exact h3, by rw [r]; exact h4, by rw [r]; exact h5⟩, Nat.lt_of_lt_of_le h6 hb.size, Nat.lt_of_lt_of_le h7 hb.size⟩
theorem keepFL : KeepP FL := fun _ _ h hb => h.below hb

/-- One span in a new block. -/
theorem spans_one {w w1 : World} (hb : Below w.heap.size w w1) (lo hi : Int) {M : Nat} (hM : w1.heap.size = M) : SpansR (w1.alloc (.cells #[.int .i64 (atA lo), .int .i64 (atB lo), .int .i64 (atC lo), .int .i64 (atA hi), .int .i64 (atB hi), .int .i64 (atC hi)] 80)) (.slice (some ⟨M, 0, none⟩) 1 1) [(lo, hi)] ∧ Below w.heap.size w (w1.alloc (.cells #[.int .i64 (atA lo), .int .i64 (atB lo), .int .i64 (atC lo), .int .i64 (atA hi), .int .i64 (atB hi), .int .i64 (atC hi)] 80)) := by
  subst hM
  refine ⟨⟨_, _, rfl, Nat.le_refl _, Or.inr ⟨_, 0, rfl, by simp, fun i hi => ?_⟩⟩, below_then hb (boxB _ _)⟩
  have : i = 0 := by simpa using hi
  subst this
  refine ⟨?_, ?_, ?_, ?_, ?_, ?_⟩ <;> simp [spR]

end Go.Proofs.YtjpmlagofcgheaaGreatDoor
namespace Go.Proofs.YtjpmlagofcgheaaGreatDoor
open Go.RowKit
set_option maxRecDepth 100000

/-- What notFull makes of a list of n spans. -/
def fullV (n : Nat) (v : Value) : Value := if n ≤ 64 then v else .slice none 0 0
def fullE (n : Nat) : Int := if n ≤ 64 then 0 else 26

end Go.Proofs.YtjpmlagofcgheaaGreatDoor
namespace Go.Proofs.YtjpmlagofcgheaaGreatDoor
open Go.RowKit

/-- A span's places. -/
def rk (s : Sp) : Int × Int := (rankV s.a s.b s.c, rankV s.x s.y s.z)

theorem maySp_true {a b c x y z : Int} : maySp a b c x y z = true ↔ mayV a b c = true ∧ mayV x y z = true ∧ cmpV a b c x y z ≤ 0 := by
  unfold maySp; simp [and_assoc]
theorem cmp_lek {a b c x y z : Int} (h : mayV a b c = true) (k : mayV x y z = true) : cmpV a b c x y z ≤ 0 ↔ rankV a b c ≤ rankV x y z := by
  have h1 := cmp_rank k h
  rw [cmp_neg] at h1
  omega
theorem maySp_rk {s : Sp} (h : maySp s.a s.b s.c s.x s.y s.z = true) : spR (rk s) = s ∧ okP2 (rk s) := by
  obtain ⟨h1, h2, h3⟩ := maySp_true.1 h
  rw [cmp_lek h1 h2] at h3
  obtain ⟨a, b, c, x, y, z⟩ := s
  obtain ⟨e1, e2, e3⟩ := at_rank h1
  obtain ⟨f1, f2, f3⟩ := at_rank h2
  have l1 := rank_low h1
  have l2 := rank_low h2
  refine ⟨?_, ?_, ?_, ?_⟩
  · simp only [spR, rk]
    simp only at e1 e2 e3 f1 f2 f3
    rw [e1, e2, e3, f1, f2, f3]
  · unfold okR rk; simp only at *; omega
  · unfold okR rk; simp only at *; omega
  · exact h3
theorem rk_spR {p : Int × Int} (h : okP2 p) : rk (spR p) = p ∧ maySp (spR p).a (spR p).b (spR p).c (spR p).x (spR p).y (spR p).z = true := by
  obtain ⟨h1, h2, h3⟩ := h
  obtain ⟨m1, e1⟩ := may_at h1.has
  obtain ⟨m2, e2⟩ := may_at h2.has
  refine ⟨?_, ?_⟩
  · unfold rk spR; simp only; rw [e1, e2]
  · rw [maySp_true]
    refine ⟨m1, m2, ?_⟩
    unfold spR
    simp only
    rw [cmp_lek m1 m2, e1, e2]
    exact h3
theorem apart_rk {x y z a b c : Int} (h : mayV x y z = true) (k : mayV a b c = true) : apartV x y z a b c = true ↔ rankV x y z + 2 ≤ rankV a b c := by
  unfold apartV
  have l1 := rank_low h
  have l2 := rank_low k
  rw [Bool.and_eq_true, decide_eq_true_eq]
  constructor
  · rintro ⟨h1, h2⟩
    obtain ⟨_, m, e⟩ := on_may h1
    rw [cmp_rank m k, e] at h2
    omega
  · intro h1
    have h2 : onIs x y z 1 = true := by rw [next_is h]; simp; omega
    obtain ⟨_, m, e⟩ := on_may h2
    refine ⟨h2, ?_⟩
    rw [cmp_rank m k, e]
    omega

theorem okAt_zero {s : Sp} {L : List Sp} : okAt (s :: L) 0 = maySp s.a s.b s.c s.x s.y s.z := by simp [okAt]
theorem okAt_one {s t : Sp} {L : List Sp} : okAt (s :: t :: L) 1 = (maySp t.a t.b t.c t.x t.y t.z && apartV s.x s.y s.z t.a t.b t.c) := by simp [okAt]
theorem okAt_more {s : Sp} {L : List Sp} {i : Nat} : okAt (s :: L) (i + 1 + 1) = okAt L (i + 1) := by simp [okAt]

theorem ok_tail {s : Sp} {L : List Sp} (h : ∀ i, i < (s :: L).length → okAt (s :: L) i = true) : ∀ i, i < L.length → okAt L i = true := by
  intro i hi
  cases i with
  | succ i => rw [← okAt_more (s := s)]; exact h _ (by simpa using hi)
  | zero =>
    cases L with
    | nil => simp at hi
    | cons t L =>
      have := h 1 (by simp)
      rw [okAt_one, Bool.and_eq_true] at this
      rw [okAt_zero]; exact this.1

theorem ok_rise : ∀ {L : List Sp}, (∀ i, i < L.length → okAt L i = true) → (L.map rk).map spR = L ∧ RangeR (L.map rk)
  | [], _ => ⟨rfl, trivial⟩
  | s :: L, h => by
    obtain ⟨e, hr⟩ := ok_rise (ok_tail h)
    have h0 := h 0 (by simp)
    rw [okAt_zero] at h0
    obtain ⟨es, o1, o2, o3⟩ := maySp_rk h0
    refine ⟨by rw [List.map_cons, List.map_cons, e, es], o1.1, o3, o2.2, ?_⟩
    cases L with
    | nil => trivial
    | cons t L =>
      have h1 := h 1 (by simp)
      rw [okAt_one, Bool.and_eq_true] at h1
      have ha := (apart_rk (maySp_true.1 h0).2.1 (maySp_true.1 h1.1).1).1 h1.2
      exact ⟨ha, hr.2⟩

theorem rise_ok : ∀ {A : Rg}, RangeR A → ∀ i, i < (A.map spR).length → okAt (A.map spR) i = true
  | [], _, i, hi => by simp at hi
  | p :: A, h, i, hi => by
    obtain ⟨g, e⟩ := p
    obtain ⟨h1, h2, h3, h4⟩ := h
    have ho : okP2 (g, e) := ⟨⟨h1, by show g ≤ 999999999; omega⟩, ⟨by show 0 ≤ e; omega, h3⟩, h2⟩
    have ih := rise_ok (A := A) (h4.weak (by omega))
    cases i with
    | zero => rw [List.map_cons, okAt_zero]; exact (rk_spR ho).2
    | succ i =>
      cases i with
      | succ i => rw [List.map_cons, okAt_more]; exact ih _ (by simpa using hi)
      | zero =>
        cases A with
        | nil => simp at hi
        | cons q A =>
          obtain ⟨g', e'⟩ := q
          obtain ⟨k1, k2, k3, _⟩ := h4
          have hq : okP2 (g', e') := ⟨⟨by show 0 ≤ g'; omega, by show g' ≤ 999999999; omega⟩, ⟨by show 0 ≤ e'; omega, k3⟩, k2⟩
          rw [List.map_cons, List.map_cons, okAt_one, Bool.and_eq_true]
          refine ⟨(rk_spR hq).2, ?_⟩
          rw [apart_rk (maySp_true.1 (rk_spR ho).2).2.1 (maySp_true.1 (rk_spR hq).2).1]
          have r1 := congrArg Prod.snd (rk_spR ho).1
          have r2 := congrArg Prod.fst (rk_spR hq).1
          simp only [rk] at r1 r2
          rw [r1, r2]
          exact k1

/-- A list may be just if it is a range of at most 64 spans. -/
theorem may_iff {L : List Sp} : mayL L = true ↔ ∃ A : Rg, L = A.map spR ∧ RangeR A ∧ A.length ≤ 64 := by
  unfold mayL
  rw [Bool.and_eq_true, decide_eq_true_eq, List.all_eq_true]
  constructor
  · rintro ⟨h1, h2⟩
    obtain ⟨e, hr⟩ := ok_rise fun i hi => h2 i (List.mem_range.2 hi)
    exact ⟨L.map rk, e.symm, hr, by simpa using h1⟩
  · rintro ⟨A, rfl, hr, hl⟩
    exact ⟨by simpa using hl, fun i hi => rise_ok hr i (List.mem_range.1 hi)⟩
theorem may_rg {A : Rg} (h : RangeR A) (hl : A.length ≤ 64) : mayL (A.map spR) = true := may_iff.2 ⟨A, rfl, h, hl⟩

theorem has_rg {p : Int × Int} (h : okP2 p) {a b c : Int} (k : mayV a b c = true) : hasS a b c (spR p) = true ↔ p.1 ≤ rankV a b c ∧ rankV a b c ≤ p.2 := by
  obtain ⟨h1, h2, h3⟩ := h
  obtain ⟨m1, e1⟩ := may_at h1.has
  obtain ⟨m2, e2⟩ := may_at h2.has
  unfold hasS spR
  simp only
  rw [Bool.and_eq_true, decide_eq_true_eq, decide_eq_true_eq, cmp_lek m1 k, cmp_lek k m2, e1, e2]

theorem any_rg {A : Rg} (h : ∀ p ∈ A, okP2 p) {a b c : Int} (k : mayV a b c = true) : (A.map spR).any (hasS a b c) = true ↔ InR A (rankV a b c) := by
  induction A with
  | nil => simp [InR]
  | cons p A ih =>
    obtain ⟨g, e⟩ := p
    rw [List.map_cons, List.any_cons, Bool.or_eq_true, has_rg (h _ List.mem_cons_self) k, ih fun q hq => h q (List.mem_cons_of_mem _ hq)]
    rfl
theorem in_rg {A : Rg} (h : RangeR A) (hl : A.length ≤ 64) {a b c : Int} : inL (A.map spR) a b c = true ↔ mayV a b c = true ∧ InR A (rankV a b c) := by
  unfold inL
  rw [may_rg h hl, Bool.true_and, Bool.and_eq_true]
  constructor
  · rintro ⟨k, hi⟩
    exact ⟨k, (any_rg (fun p hp => by have := RiseR.mem h hp; unfold okP2 okR; omega) k).1 hi⟩
  · rintro ⟨k, hi⟩
    exact ⟨k, (any_rg (fun p hp => by have := RiseR.mem h hp; unfold okP2 okR; omega) k).2 hi⟩

theorem SpansR.at {w : World} {v : Value} {A : Rg} (h : SpansR w v A) : SpansAt w v (A.map spR) := by
  obtain ⟨ad, cap, hv, hc, hl⟩ := h
  refine ⟨ad, cap, by rw [List.length_map]; exact hv, ?_⟩
  rcases hl with rfl | ⟨g, o, ha, hg, hs⟩
  · exact Or.inl rfl
  · right
    refine ⟨g, o, ha, hg, fun i hi => ?_⟩
    rw [List.getElem_map]
    exact hs i (by simpa using hi)

/-- A list of spans that came in: its length is no more than its room. -/
def SpansC (w : World) (v : Value) (L : List Sp) : Prop := SpansAt w v L ∧ ∃ ad n cap, v = .slice ad n cap ∧ n ≤ cap
theorem SpansC.rg {w : World} {v : Value} {A : Rg} (h : SpansC w v (A.map spR)) : SpansR w v A := by
  obtain ⟨⟨ad, cap, rfl, hl⟩, ad', n', cap', hv, hc⟩ := h
  cases hv
  rw [List.length_map] at hc ⊢
  refine ⟨_, _, rfl, hc, ?_⟩
  rcases hl with hl | ⟨g, o, ha, hg, hs⟩
  · left; simpa using hl
  · right
    refine ⟨g, o, ha, hg, fun i hi => ?_⟩
    have := hs i (by simpa using hi)
    rw [List.getElem_map] at this
    exact this
theorem SpansC.below {w w' : World} {v : Value} {L : List Sp} (h : SpansC w v L) (hb : Below w.heap.size w w') : SpansC w' v L := ⟨h.1.below hb, h.2⟩
theorem SpansR.c {w : World} {v : Value} {A : Rg} (h : SpansR w v A) : SpansC w v (A.map spR) := by
  have := h.at
  obtain ⟨ad, cap, hv, hc, _⟩ := h
  exact ⟨this, ad, _, cap, hv, hc⟩
end Go.Proofs.YtjpmlagofcgheaaGreatDoor
namespace Go.Proofs.YtjpmlagofcgheaaGreatDoor
open Go.RowKit
set_option maxRecDepth 100000

/-- A range, unless it has too many spans. -/
def fitR (A : Rg) : Rg := if A.length ≤ 64 then A else []
theorem fit_ok {A : Rg} (h : RangeR A) : RangeR (fitR A) := by unfold fitR; split; exact h; trivial
theorem fit_len (A : Rg) : (fitR A).length ≤ 64 := by unfold fitR; split; assumption; simp
theorem fit_of {A : Rg} (h : A.length ≤ 64) : fitR A = A := by unfold fitR; rw [if_pos h]

end Go.Proofs.YtjpmlagofcgheaaGreatDoor
namespace Go.Proofs.YtjpmlagofcgheaaGreatDoor
open Go.RowKit
set_option maxRecDepth 100000

def minorR (n : Int) : Int := n / 1000 * 1000 + 999
def majorR (n : Int) : Int := n / 1000000 * 1000000 + 999999
def alikeR (n : Int) : Int := if atA n ≠ 0 then majorR n else if atB n ≠ 0 then minorR n else n

theorem at_of {n : Int} (h : okR n) : atA n = n / 1000000 ∧ atB n = n / 1000 % 1000 ∧ atC n = n % 1000 := by
  unfold atA atB atC; rw [h.has]; simp
theorem minor_ok {n : Int} (h : okR n) : okR (minorR n) ∧ n ≤ minorR n := by unfold okR minorR at *; omega
theorem major_ok {n : Int} (h : okR n) : okR (majorR n) ∧ n ≤ majorR n := by unfold okR majorR at *; omega
theorem alike_ok {n : Int} (h : okR n) : okR (alikeR n) ∧ n ≤ alikeR n := by
  unfold alikeR
  split
  · exact major_ok h
  · split
    · exact minor_ok h
    · exact ⟨h, Int.le_refl _⟩
theorem minor_at {n : Int} (h : okR n) : atA (minorR n) = atA n ∧ atB (minorR n) = atB n ∧ atC (minorR n) = 999 := by
  obtain ⟨a, b, c⟩ := at_of h
  obtain ⟨a', b', c'⟩ := at_of (minor_ok h).1
  unfold okR at h
  rw [a, b, a', b', c']
  unfold minorR
  omega
theorem major_at {n : Int} (h : okR n) : atA (majorR n) = atA n ∧ atB (majorR n) = 999 ∧ atC (majorR n) = 999 := by
  obtain ⟨a, b, c⟩ := at_of h
  obtain ⟨a', b', c'⟩ := at_of (major_ok h).1
  unfold okR at h
  rw [a, a', b', c']
  unfold majorR
  omega

/-- What a sign makes of the version at a place. -/
def signR (s : List UInt8) (n : Int) : Option Rg :=
  if s = [] ∨ s = [61] then some [(n, n)] else if s = [60] then some (cutR allR [(n, 999999999)]) else if s = [60, 61] then some [(0, n)] else if s = [62] then some (cutR allR [(0, n)]) else
  if s = [62, 61] then some [(n, 999999999)] else if s = [94] then some [(n, alikeR n)] else if s = [126] then some [(n, minorR n)] else none

theorem one_ok {g h : Int} (hg : okR g) (hh : okR h) (h1 : g ≤ h) : RangeR [(g, h)] := ⟨hg.1, h1, hh.2, trivial⟩
theorem okL : okR 999999999 := by unfold okR; omega
theorem okF : okR 0 := by unfold okR; omega
theorem sign_ok {s : List UInt8} {n : Int} (hn : okR n) {R : Rg} (h : signR s n = some R) : RangeR R := by
  unfold signR at h
  have h1 := one_ok hn okL hn.2
  have h2 := one_ok okF hn hn.1
  repeat' split at h
  all_goals first | (cases h; done) | (injection h with h; subst h)
  · exact one_ok hn hn (Int.le_refl _)
  · exact allR_ok.cut h1
  · exact h2
  · exact allR_ok.cut h2
  · exact h1
  · exact one_ok hn (alike_ok hn).1 (alike_ok hn).2
  · exact one_ok hn (minor_ok hn).1 (minor_ok hn).2

end Go.Proofs.YtjpmlagofcgheaaGreatDoor
namespace Go.Proofs.YtjpmlagofcgheaaGreatDoor
open Go.ChangeShapes Go.WideShapes Go.ChangeAt Go.RowKit
set_option maxRecDepth 100000

/-- The wrap that hands on what is listed, the reach and the world's shape. -/
theorem wrap_shaped {H : Type} {enc : TypeId × Value → H} {a : Assume} {C : Checked} {os : Os} {f : FuncId} {fn : Func} {s : ChangeSpec} {conds : List PathCond} {apart fresh handsOn again : Bool} {X : World → Array Value → Prop}
    (own : ownKnob C.prog.godebug = none) (started : os.Started) (noInit : C.prog.inits.idxOf? f = none) (hfn : C.prog.funcs[f]? = some fn)
    (witness : ∃ (w : World) (tape : Tape) (i : Input), w.os = os ∧ (w.forCall tape i).Shaped C.prog ∧ i.vars = [] ∧ Input.okWide C.prog (w.forCall tape i) .any w.heap.size f i ∧
      ((s.pre enc C.prog fn conds apart (w.forCall tape i).memory i.args ∧ X (w.forCall tape i).memory i.args) ∧ sizedMet enc C.prog fn (OpenSpec.ofChange s) apart (w.forCall tape i).memory i.args) ∧ a.holds C.prog (lone (Frame.enter C.prog f i.args .normal) [] (w.forCall tape i)))
    (contract : ∀ (W : World) (base : Nat) (args : Array Value) (ds gs : List (DataW H)) (before : List MemPlace),
      (∀ (j : Nat) t v, fn.params[j]? = some t → args[j]? = some v → Value.okWide C.prog W .any base t v) →
      DataW.Whole enc C.prog fn.params.toList s.vars apart W args.toList ds gs before →
      (DataW.weightsEach C.prog (fn.params.toList ++ s.plain.varTypes C.prog) (ds ++ gs)).all (· ≤ reachBytes) = true → W.ShapedOpen C.prog →
      Calls C.prog f args W fun e W' => ∃ v, e = .returned v ∧ s.post enc C.prog fn apart fresh handsOn again W args v W') :
    ReturnsInHanded a C os f .any (fun w args => (s.pre enc C.prog fn conds apart w args ∧ X w args) ∧ sizedMet enc C.prog fn (OpenSpec.ofChange s) apart w args) (s.post enc C.prog fn apart fresh handsOn again) := by
  refine returnsInHanded_of_calls own started noInit witness ?_
  intro w tape i _ hsh _ hok hpre _
  obtain ⟨_, _, _, fn', hfn', _, _, _, _, hval⟩ := hok
  have e : fn' = fn := Option.some.inj (hfn'.symm.trans hfn)
  subst e
  obtain ⟨⟨⟨ds, gs, before, hw, _⟩, _⟩, hz⟩ := hpre
  have hw' := DataW.Whole.of_heap (w' := w.forCall tape i) (by rfl) hw
  refine (contract (w.forCall tape i) w.heap.size i.args ds gs before hval hw' (hz.weights hw) hsh).mono fun e W' ⟨v, he, hp⟩ => ?_
  subst he
  exact ChangeSpec.post_blind hp

theorem own : ownKnob Tryz.prog.godebug = none := by kernel_rfl
theorem laidOut : laidOutB Tryz.prog = true := by kernel_rfl
theorem cellsInt : Tryz.prog.cellsOf 3 = 1 := by kernel_rfl
theorem cellsVer : Tryz.prog.cellsOf 31 = 3 := by kernel_rfl

theorem take_one {cs : List Value} {o : Nat} {v : Value} (h : (cs.drop o).take 1 = [v]) : cs[o]? = some v := by
  have h0 : ((cs.drop o).take 1)[0]? = some v := by rw [h]; rfl
  simpa using h0

theorem field_at {fs : Array Field} {i ty off : Nat} (h : (fs[i]?).map (fun f => (f.type, f.offset)) = some (ty, off)) : ∃ f, fs[i]? = some f ∧ f.type = ty ∧ f.offset = off := by
  cases hf : fs[i]? with
  | none => rw [hf] at h; cases h
  | some f =>
    rw [hf] at h
    simp only [Option.map_some, Option.some.injEq, Prod.mk.injEq] at h
    exact ⟨f, rfl, h.1, h.2⟩

theorem list3 {α : Type} {l : List α} (h : l.length = 3) : ∃ a b c, l = [a, b, c] := by
  match l, h with
  | [a, b, c], _ => exact ⟨a, b, c, rfl⟩

/-- A version that came in: three ints. -/
theorem open_ver {H : Type} {enc : TypeId × Value → H} {W : World} {base b0 : Nat} {spare : Nat → Bool} {held : Bool} {v : Value} {d : DataW H} {p : List MemPlace} (hv : Value.okWide Tryz.prog W .any b0 31 v)
    (h : DataW.Trod enc Tryz.prog W base spare held 31 v d p) : ∃ a b c, v = .agg #[.int .i64 a, .int .i64 b, .int .i64 c] ∧ isI a ∧ isI b ∧ isI c := by
  have hs : Tryz.prog.underlying 31 = some (.struct (Tryz.prog.fieldsOf 31)) := by kernel_rfl
  obtain ⟨cs, rfl, hsz⟩ := okWide_struct hs hv
  obtain ⟨n, h⟩ := h
  obtain ⟨xs, n', _, _, _, hxl, hf⟩ := DataW.trod_struct hs h
  have hfz : (Tryz.prog.fieldsOf 31).size = 3 := by kernel_rfl
  rw [cellsVer] at hsz
  have ints : ∀ i off, ((Tryz.prog.fieldsOf 31)[i]?).map (fun f => (f.type, f.offset)) = some (3, off) → i < 3 → ∃ k, cs.toList[off]? = some (.int .i64 k) ∧ (Lit.int .i64 k).wf = true := by
    intro i off hfd hi
    obtain ⟨f, h1, h2, h3⟩ := field_at hfd
    have hr := hf i f h1
    rw [h2, h3, cellsInt, List.getElem?_eq_getElem (by omega : i < xs.length)] at hr
    obtain ⟨k, e1, _, wk⟩ := DataW.trod_int Tryz.underlying3 hr
    exact ⟨k, take_one e1, wk⟩
  obtain ⟨a, a0, wa⟩ := ints 0 0 (by kernel_rfl) (by decide)
  obtain ⟨b, a1, wb⟩ := ints 1 1 (by kernel_rfl) (by decide)
  obtain ⟨c, a2, wc⟩ := ints 2 2 (by kernel_rfl) (by decide)
  obtain ⟨l⟩ := cs
  obtain ⟨x, y, z, rfl⟩ := list3 (l := l) (by simpa using hsz)
  simp at a0 a1 a2
  subst a0 a1 a2
  exact ⟨a, b, c, rfl, bounds_i64 wa, bounds_i64 wb, bounds_i64 wc⟩

end Go.Proofs.YtjpmlagofcgheaaGreatDoor
namespace Go.Proofs.YtjpmlagofcgheaaGreatDoor
open Go.ChangeShapes Go.WideShapes Go.ChangeAt Go.RowKit
set_option maxRecDepth 100000

/-- The wrap that hands on what is listed, the reach and the world's shape, with what the listed variables hold. -/
theorem wrap_laid {H : Type} {enc : TypeId × Value → H} {a : Assume} {C : Checked} {os : Os} {f : FuncId} {fn : Func} {s : ChangeSpec} {conds : List PathCond} {apart fresh handsOn again : Bool} {l : List (String × DataW Unit)}
    (own : ownKnob C.prog.godebug = none) (started : os.Started) (noInit : C.prog.inits.idxOf? f = none) (hfn : C.prog.funcs[f]? = some fn)
    (witness : ∃ (w : World) (tape : Tape) (i : Input), w.os = os ∧ (w.forCall tape i).Shaped C.prog ∧ i.vars = [] ∧ Input.okWide C.prog (w.forCall tape i) .any w.heap.size f i ∧
      ((s.pre enc C.prog fn conds apart (w.forCall tape i).memory i.args ∧ laidMetH C.prog l (w.forCall tape i).memory) ∧ sizedMet enc C.prog fn (OpenSpec.ofChange s) apart (w.forCall tape i).memory i.args) ∧ a.holds C.prog (lone (Frame.enter C.prog f i.args .normal) [] (w.forCall tape i)))
    (contract : ∀ (W : World) (base : Nat) (args : Array Value) (ds gs : List (DataW H)) (before : List MemPlace),
      (∀ (j : Nat) t v, fn.params[j]? = some t → args[j]? = some v → Value.okWide C.prog W .any base t v) →
      DataW.Whole enc C.prog fn.params.toList s.vars apart W args.toList ds gs before →
      (DataW.weightsEach C.prog (fn.params.toList ++ s.plain.varTypes C.prog) (ds ++ gs)).all (· ≤ reachBytes) = true → W.ShapedOpen C.prog → laidMetH C.prog l W →
      Calls C.prog f args W fun e W' => ∃ v, e = .returned v ∧ s.post enc C.prog fn apart fresh handsOn again W args v W') :
    ReturnsInHanded a C os f .any (fun w args => (s.pre enc C.prog fn conds apart w args ∧ laidMetH C.prog l w) ∧ sizedMet enc C.prog fn (OpenSpec.ofChange s) apart w args) (s.post enc C.prog fn apart fresh handsOn again) := by
  refine returnsInHanded_of_calls own started noInit witness ?_
  intro w tape i _ hsh _ hok hpre _
  obtain ⟨_, _, _, fn', hfn', _, _, _, _, hval⟩ := hok
  have e : fn' = fn := Option.some.inj (hfn'.symm.trans hfn)
  subst e
  obtain ⟨⟨⟨ds, gs, before, hw, _⟩, hX⟩, hz⟩ := hpre
  have hw' := DataW.Whole.of_heap (w' := w.forCall tape i) (by rfl) hw
  have hX' := laidMetH.of_heap (w' := w.forCall tape i) (by rfl) hX
  refine (contract (w.forCall tape i) w.heap.size i.args ds gs before hval hw' (hz.weights hw) hsh hX').mono fun e W' ⟨v, he, hp⟩ => ?_
  subst he
  exact ChangeSpec.post_blind hp

theorem tab_is {W : World} {r : List (String × DataW Unit)} (h : laidMet Tryz.prog (("math/bits.deBruijn32tab", Rows.laid_math_bits_deBruijn32tab) :: ("math/bits.deBruijn64tab", Rows.laid_math_bits_deBruijn64tab) :: ("internal/strconv.uint64pow10", Rows.laid_internal_strconv_uint64pow10) :: r) W) :
    Lib.TabIs Tryz.prog W "internal/strconv.uint64pow10" .u64 Lib.pow10Tab := by
  have h2 : laidMet Tryz.prog (("internal/strconv.uint64pow10", Lib.tabData .u64 Lib.pow10Tab) :: r) W := (laidMet.tail (laidMet.tail h))
  exact Lib.tabIs_of_head (g := 3) (t := 205) (e := 162) (n := 20) (by kernel_rfl) (by kernel_rfl) (by kernel_rfl) Tryz.underlying162 (by kernel_rfl) (by kernel_rfl) h2

/-- Itoa answers with the numeral, in whatever world stands on one with the table. -/
theorem spells_tab {W : World} (h : Lib.TabIs Tryz.prog W "internal/strconv.uint64pow10" .u64 Lib.pow10Tab) (w : World) (hw : Below W.heap.size W w) (n : Int) (h0 : 0 ≤ n) (h1 : n ≤ 999) : Spells w n ⟨(Lib.itoa n).toArray⟩ := by
  intro w1 hb
  have ht := Lib.tabBelow_of_tabIs h w1 (below_then hw hb)
  refine (Tryz.strconv_Itoa n (by omega) (by omega) w1 ht).mono ?_
  rintro e w' ⟨rfl, k, os, rfl⟩
  exact ⟨rfl, Lib.below_grow _ _ (Nat.le_refl _) k os⟩
end Go.Proofs.YtjpmlagofcgheaaGreatDoor
namespace Go.Proofs.YtjpmlagofcgheaaGreatDoor
set_option maxRecDepth 100000

/-- The number that a row of digits spells. -/
def valOf (l : List UInt8) : Nat := l.foldl (fun n d => n * 10 + (d.toNat - 48)) 0

theorem val_snoc (l : List UInt8) (d : UInt8) : valOf (l ++ [d]) = valOf l * 10 + (d.toNat - 48) := by simp [valOf]

theorem digit_nat {k : Nat} (h : k < 10) : (UInt8.ofNat (48 + k)).toNat = 48 + k := by
  rw [UInt8.toNat_ofNat']; omega

theorem val_dec (u : Nat) : valOf (Lib.decDigits u) = u := by
  induction u using Nat.strongRecOn with
  | _ u ih =>
    rw [Lib.decDigits]
    split
    · rename_i h
      have := digit_nat h
      simp [valOf]; omega
    · rename_i h
      rw [val_snoc, ih (u / 10) (by omega)]
      have := digit_nat (k := u % 10) (by omega)
      omega

theorem dec_digits (u : Nat) : ∀ d ∈ Lib.decDigits u, 48 ≤ d.toNat ∧ d.toNat ≤ 57 := by
  induction u using Nat.strongRecOn with
  | _ u ih =>
    rw [Lib.decDigits]
    split
    · rename_i h
      intro d hd
      have := digit_nat h
      rw [List.mem_singleton] at hd; subst hd; omega
    · rename_i h
      intro d hd
      rcases List.mem_append.1 hd with h1 | h1
      · exact ih (u / 10) (by omega) d h1
      · have := digit_nat (k := u % 10) (by omega)
        rw [List.mem_singleton] at h1; subst h1; omega

theorem dec_ne (u : Nat) : Lib.decDigits u ≠ [] := by
  rw [Lib.decDigits]; split <;> simp

theorem itoa_of {n : Int} (h : 0 ≤ n) : Lib.itoa n = Lib.decDigits n.toNat := by
  obtain ⟨u, rfl⟩ : ∃ u : Nat, n = u := ⟨n.toNat, by omega⟩
  rw [Lib.itoa_nonneg]; rfl

theorem no_dot {n : Int} (h : 0 ≤ n) : (46 : UInt8) ∉ Lib.itoa n := by
  rw [itoa_of h]
  intro hd
  have := (dec_digits _ _ hd).1
  revert this; decide

theorem itoa_inj {m n : Int} (hm : 0 ≤ m) (hn : 0 ≤ n) (h : Lib.itoa m = Lib.itoa n) : m = n := by
  rw [itoa_of hm, itoa_of hn] at h
  have := congrArg valOf h
  rw [val_dec, val_dec] at this
  omega

theorem split_dot {l1 l2 r1 r2 : List UInt8} (h1 : (46 : UInt8) ∉ l1) (h2 : (46 : UInt8) ∉ l2) (h : l1 ++ 46 :: r1 = l2 ++ 46 :: r2) : l1 = l2 ∧ r1 = r2 := by
  induction l1 generalizing l2 with
  | nil =>
    cases l2 with
    | nil => simp at h; exact ⟨rfl, h⟩
    | cons x l2 => simp at h; exact absurd (by rw [h.1]; simp) h2
  | cons y l1 ih =>
    cases l2 with
    | nil => simp at h; exact absurd (by rw [h.1]; simp) h1
    | cons x l2 =>
      simp at h
      obtain ⟨e1, e2⟩ := ih (fun m => h1 (List.mem_cons_of_mem _ m)) (fun m => h2 (List.mem_cons_of_mem _ m)) h.2
      exact ⟨by rw [h.1, e1], e2⟩

theorem text_list {a b c : Int} (h : mayV a b c = true) : (textV a b c).data.toList = Lib.itoa a ++ 46 :: (Lib.itoa b ++ 46 :: Lib.itoa c) := by
  unfold textV; rw [if_pos h]
  simp [ByteArray.data_append]

theorem text_inj {a b c x y z : Int} (h : mayV a b c = true) (k : mayV x y z = true) : textV a b c = textV x y z ↔ a = x ∧ b = y ∧ c = z := by
  constructor
  · intro e
    have e1 := congrArg (fun s : ByteArray => s.data.toList) e
    simp only [text_list h, text_list k] at e1
    obtain ⟨a0, _, b0, _, c0, _⟩ := may_all h
    obtain ⟨x0, _, y0, _, z0, _⟩ := may_all k
    obtain ⟨f1, f2⟩ := split_dot (no_dot a0) (no_dot x0) e1
    obtain ⟨f3, f4⟩ := split_dot (no_dot b0) (no_dot y0) f2
    exact ⟨itoa_inj a0 x0 f1, itoa_inj b0 y0 f3, itoa_inj c0 z0 f4⟩
  · rintro ⟨rfl, rfl, rfl⟩; rfl
end Go.Proofs.YtjpmlagofcgheaaGreatDoor
namespace Go.Proofs.YtjpmlagofcgheaaGreatDoor
open Go.RowKit
set_option maxRecDepth 100000

/-- A byte wherever it lies, as a string. -/
theorem byte_at (d : Int) (h0 : 0 ≤ d) (h1 : d < 10) (W : World) (N : Nat) (hN : W.cell? ⟨N, 0, none⟩ = some (.int .u8 (48 + d))) :
    (convert 135 9 (.slice (some ⟨N, 0, none⟩) 1 1)).run Tryz.prog W = .ok (.string ⟨#[UInt8.ofNat (48 + d.toNat)]⟩) W := by
  have e := digit_nat (k := d.toNat) (by omega)
  exact run_convert_bytes_back (P := Tryz.prog) W 135 9 5 ⟨N, 0, none⟩ 1 [UInt8.ofNat (48 + d.toNat)] Tryz.underlying135 Tryz.underlying5 Tryz.underlying9 (fun j hj => by
    have hj0 : j = 0 := by simp at hj; exact hj
    subst hj0
    rw [show (⟨N, 0, none⟩ : Addr).add 0 = ⟨N, 0, none⟩ from rfl, hN]
    simp only [List.getElem_cons_zero]
    rw [e]
    congr 2
    omega)

theorem byte_back (d : Int) (h0 : 0 ≤ d) (h1 : d < 10) (W : World) :
    (convert 135 9 (.slice (some ⟨W.heap.size, 0, none⟩) 1 1)).run Tryz.prog (W.alloc (.cells #[.int .u8 (48 + d)] 5)) = .ok (.string ⟨#[UInt8.ofNat (48 + d.toNat)]⟩) (W.alloc (.cells #[.int .u8 (48 + d)] 5)) :=
  byte_at d h0 h1 _ _ (by rw [World.cell?_alloc_new]; rfl)

theorem itoa_small {n : Int} (h0 : 0 ≤ n) (h1 : n < 10) : Lib.itoa n = [UInt8.ofNat (48 + n.toNat)] := by
  rw [itoa_of h0, Lib.decDigits_one (by omega)]
theorem itoa_more {n : Int} (h0 : 10 ≤ n) : Lib.itoa n = Lib.itoa (n / 10) ++ [UInt8.ofNat (48 + (n % 10).toNat)] := by
  rw [itoa_of (by omega), itoa_of (by omega), Lib.decDigits, dif_neg (by omega)]
  have e1 : n.toNat / 10 = (n / 10).toNat := by omega
  have e2 : n.toNat % 10 = (n % 10).toNat := by omega
  rw [e1, e2]

set_option maxHeartbeats 1600000 in
theorem Number_small (n : Int) (h0 : 0 ≤ n) (h1 : n < 10) (w : World) :
    Calls Tryz.prog 131 #[.int .i64 n] w fun e w' => e = .returned (.string ⟨(Lib.itoa n).toArray⟩) ∧ Below w.heap.size w w' := by
  have hc := byte_back n h0 h1
  go_enter Tryz.func131, Tryz.ntmps131
  go_wp2
  go_returns
  exact ⟨ret_str (by simp [itoa_small h0 h1]), boxB _ _⟩

set_option maxHeartbeats 1600000 in
theorem Number_more (n : Int) (h0 : 10 ≤ n) (h1 : n ≤ 999) (w : World) (A : ByteArray) (hA : A.size ≤ 100) (D : UInt8) (hD : UInt8.ofNat (48 + (n % 10).toNat) = D)
    (HN : Hid (∀ w1, Calls Tryz.prog 131 #[.int .i64 (n / 10)] w1 fun e w' => e = .returned (.string A) ∧ Below w1.heap.size w1 w')) :
    Calls Tryz.prog 131 #[.int .i64 n] w fun e w' => e = .returned (.string (A ++ ⟨#[D]⟩)) ∧ Below w.heap.size w w' := by
  have HA : Hid (∀ (W : World) (N : Nat), W.cell? ⟨N, 0, none⟩ = some (.int .u8 (48 + n % 10)) → (convert 135 9 (.slice (some ⟨N, 0, none⟩) 1 1)).run Tryz.prog W = .ok (.string ⟨#[D]⟩) W) := by
    intro W N hN
    have := byte_at (n % 10) (by omega) (by omega) W N hN
    rw [hD] at this
    exact this
  have hc : ∀ W : World, (convert 135 9 (.slice (some ⟨W.heap.size, 0, none⟩) 1 1)).run Tryz.prog (W.alloc (.cells #[.int .u8 (48 + n % 10)] 5)) = .ok (.string ⟨#[D]⟩) (W.alloc (.cells #[.int .u8 (48 + n % 10)] 5)) := fun W => HA.out _ _ (by rw [World.cell?_alloc_new]; rfl)
  have hc2 : ∀ W : World, (convert 135 9 (.slice (some ⟨W.heap.size, 0, none⟩) 1 1)).run Tryz.prog (W.alloc (.cells #[.int .u8 (48 + n % 10)] 5)).drew = .ok (.string ⟨#[D]⟩) (W.alloc (.cells #[.int .u8 (48 + n % 10)] 5)).drew := fun W => HA.out _ _ (by rw [World.cell?_drew, World.cell?_alloc_new]; rfl)
  have e1 := fun W : World => run_string_add_sum (P := Tryz.prog) (w := W) A ⟨#[D]⟩ (by have : (⟨#[D]⟩ : ByteArray).size = 1 := rfl; omega)
  have hq : IntKind.i64.wrap (n.tdiv 10) = n / 10 := by rw [Int.tdiv_eq_ediv_of_nonneg (by omega), IntKind.wrap_i64]; omega
  have hr : n.tmod 10 = n % 10 := Int.tmod_eq_emod_of_nonneg (by omega)
  have hs : IntKind.i64.wrap (48 + n % 10) = 48 + n % 10 := by rw [IntKind.wrap_i64]; omega
  have hu : IntKind.u8.wrap (48 + n % 10) = 48 + n % 10 := by rw [IntKind.wrap_u8]; omega
  clear hD
  go_enter Tryz.func131, Tryz.ntmps131
  go_wp2_with fail
  go_region_with (go_at_call 131; refine (HN.out _).mono ?_; rintro e w1 ⟨rfl, hb⟩; have hcc := hb.cell (p := ⟨w.heap.size, 0, none⟩); have hcd := HA.out w1 w.heap.size; have HB : Hid (Below w.heap.size w w1) := below_then (by go_grown) hb; clear hb)
  all_goals go_wp2
  all_goals
    go_returns
    have hb := HB.out
    have hbs := hb.size
    exact ⟨rfl, by go_grown⟩

theorem Number_any (n : Int) (h0 : 0 ≤ n) (h1 : n ≤ 999) (w : World) :
    Calls Tryz.prog 131 #[.int .i64 n] w fun e w' => e = .returned (.string ⟨(Lib.itoa n).toArray⟩) ∧ Below w.heap.size w w' := by
  obtain ⟨k, hk⟩ : ∃ k : Nat, n.toNat = k := ⟨_, rfl⟩
  induction k using Nat.strongRecOn generalizing n w with
  | _ k ih =>
    by_cases h : n < 10
    · exact Number_small n h0 h w
    · have := Number_more n (by omega) h1 w ⟨(Lib.itoa (n / 10)).toArray⟩ (Nat.le_trans (itoa_three (by omega) (by omega)) (by decide)) _ rfl (fun w1 => ih (n / 10).toNat (by omega) (n / 10) (by omega) (by omega) w1 rfl)
      refine this.mono ?_
      rintro e w' ⟨rfl, hb⟩
      refine ⟨ret_str ?_, hb⟩
      have e := itoa_more (n := n) (by omega)
      rw [e]
      simp [ByteArray.ext_iff, ByteArray.data_append]

/-- What Print asks of Number. -/
def SpellsR (w : World) (n : Int) (S : ByteArray) : Prop := ∀ w1, Below w.heap.size w w1 → Calls Tryz.prog 131 #[.int .i64 n] w1 fun e w' => e = .returned (.string S) ∧ Below w1.heap.size w1 w'

theorem SpellsR.next {w : World} {n : Int} {S : ByteArray} (h : SpellsR w n S) {N : Nat} {x y z : Value} (w1 : World) (hb : Below w.heap.size w w1) (hl : N < w1.heap.size) (c0 : w1.cell? ⟨N, 0, none⟩ = some x) (c1 : w1.cell? ⟨N, 1, none⟩ = some y) (c2 : w1.cell? ⟨N, 2, none⟩ = some z) :
    Calls Tryz.prog 131 #[.int .i64 n] w1 fun e w' => e = .returned (.string S) ∧ w'.cell? ⟨N, 0, none⟩ = some x ∧ w'.cell? ⟨N, 1, none⟩ = some y ∧ w'.cell? ⟨N, 2, none⟩ = some z ∧ N < w'.heap.size ∧ Below w.heap.size w w' := by
  refine (h w1 hb).mono ?_
  rintro e w' ⟨rfl, hb1⟩
  exact ⟨rfl, (hb1.cell (p := ⟨N, 0, none⟩) hl).trans c0, (hb1.cell (p := ⟨N, 1, none⟩) hl).trans c1, (hb1.cell (p := ⟨N, 2, none⟩) hl).trans c2, Nat.lt_of_lt_of_le hl hb1.size, hb.trans (hb1.mono hb.size)⟩

set_option maxHeartbeats 1600000 in
theorem rPrint_all (a b c : Int) (w : World) (ha : mayV a b c = true → SpellsR w a ⟨(Lib.itoa a).toArray⟩) (hb : mayV a b c = true → SpellsR w b ⟨(Lib.itoa b).toArray⟩) (hc : mayV a b c = true → SpellsR w c ⟨(Lib.itoa c).toArray⟩) :
    Calls Tryz.prog 99 #[.agg #[.int .i64 a, .int .i64 b, .int .i64 c]] w fun e w' => e = .returned (.string (textV a b c)) ∧ Below w.heap.size w w' := by
  have HM : Hid (∀ w1, Calls Tryz.prog 63 #[.agg #[.int .i64 a, .int .i64 b, .int .i64 c]] w1 fun e w' => e = .returned (.bool (mayV a b c)) ∧ Below w1.heap.size w1 w') := rMay_any a b c
  cases hm : mayV a b c
  · have HR : Hid (textV a b c = ByteArray.empty) := by unfold Hid textV; rw [hm]; rfl
    rw [hm] at HM
    clear ha hb hc
    go_enter Tryz.func99, Tryz.ntmps99
    go_wp2_with (go_at_call 63; refine (HM.out _).mono ?_; rintro e w' ⟨rfl, hb⟩)
    go_returns
    exact ⟨ret_str HR.out.symm, below_then (boxB _ _) hb⟩
  · have HR : Hid (textV a b c = (((⟨(Lib.itoa a).toArray⟩ ++ ⟨#[46]⟩) ++ ⟨(Lib.itoa b).toArray⟩) ++ ⟨#[46]⟩) ++ ⟨(Lib.itoa c).toArray⟩) := by unfold Hid textV; rw [hm]; rfl
    have HA : Hid (SpellsR w a ⟨(Lib.itoa a).toArray⟩) := ha hm
    have HB : Hid (SpellsR w b ⟨(Lib.itoa b).toArray⟩) := hb hm
    have HC : Hid (SpellsR w c ⟨(Lib.itoa c).toArray⟩) := hc hm
    obtain ⟨a0, a1, b0, b1, c0, c1⟩ := may_all hm
    have za := itoa_three a0 a1
    have zb := itoa_three b0 b1
    have zc := itoa_three c0 c1
    rw [hm] at HM
    clear ha hb hc a0 a1 b0 b1 c0 c1
    generalize (⟨(Lib.itoa a).toArray⟩ : ByteArray) = A at *
    generalize (⟨(Lib.itoa b).toArray⟩ : ByteArray) = B at *
    generalize (⟨(Lib.itoa c).toArray⟩ : ByteArray) = C at *
    have zd : (⟨#[46]⟩ : ByteArray).size = 1 := rfl
    have e1 := fun W : World => run_string_add_sum (P := Tryz.prog) (w := W) A ⟨#[46]⟩ (by omega)
    have e2 := fun W : World => run_string_add_sum (P := Tryz.prog) (w := W) (A ++ ⟨#[46]⟩) B (by rw [size_cat]; omega)
    have e3 := fun W : World => run_string_add_sum (P := Tryz.prog) (w := W) ((A ++ ⟨#[46]⟩) ++ B) ⟨#[46]⟩ (by rw [size_cat, size_cat]; omega)
    have e4 := fun W : World => run_string_add_sum (P := Tryz.prog) (w := W) (((A ++ ⟨#[46]⟩) ++ B) ++ ⟨#[46]⟩) C (by rw [size_cat, size_cat, size_cat]; omega)
    clear za zb zc zd
    go_enter Tryz.func99, Tryz.ntmps99
    go_wp2_with (go_at_call 63; refine (HM.out _).mono ?_; rintro e w0 ⟨rfl, hb0⟩; obtain ⟨k0, k1, k2, k3, k4⟩ := boxV hb0)
    have HB0 : Hid (Below w.heap.size w w0) := k4
    have HK0 : Hid (w.heap.size < w0.heap.size ∧ w0.cell? ⟨w.heap.size, 0, none⟩ = some (.int .i64 a) ∧ w0.cell? ⟨w.heap.size, 1, none⟩ = some (.int .i64 b) ∧ w0.cell? ⟨w.heap.size, 2, none⟩ = some (.int .i64 c)) := ⟨k3, k0, k1, k2⟩
    have t1 : True := trivial
    have t2 : True := trivial
    have t3 : True := trivial
    clear k4 hb0
    go_region_held3 (fun w' => w'.cell? ⟨w.heap.size, 0, none⟩ = some (.int .i64 a) ∧ w'.cell? ⟨w.heap.size, 1, none⟩ = some (.int .i64 b) ∧ w'.cell? ⟨w.heap.size, 2, none⟩ = some (.int .i64 c)) (go_keep)
      (first
        | (go_at_call 131; clear t1; refine (HA.out.next (N := w.heap.size) (x := .int .i64 a) (y := .int .i64 b) (z := .int .i64 c) _ ?_ ?_ ?_ ?_ ?_).mono ?_; (first | exact HB0.out | exact HB0.out.drew); exact HK0.out.1; exact HK0.out.2.1; exact HK0.out.2.2.1; exact HK0.out.2.2.2; rintro e w1 ⟨rfl, q0, q1, q2, l1, b1⟩; have HB1 : Hid (Below w.heap.size w w1) := b1; have HK1 : Hid (w.heap.size < w1.heap.size ∧ w1.cell? ⟨w.heap.size, 0, none⟩ = some (.int .i64 a) ∧ w1.cell? ⟨w.heap.size, 1, none⟩ = some (.int .i64 b) ∧ w1.cell? ⟨w.heap.size, 2, none⟩ = some (.int .i64 c)) := ⟨l1, q0, q1, q2⟩; clear b1)
        | (go_at_call 131; clear t2; refine (HB.out.next (N := w.heap.size) (x := .int .i64 a) (y := .int .i64 b) (z := .int .i64 c) _ ?_ ?_ ?_ ?_ ?_).mono ?_; (first | exact HB1.out | exact HB1.out.drew); exact HK1.out.1; exact HK1.out.2.1; exact HK1.out.2.2.1; exact HK1.out.2.2.2; rintro e w2 ⟨rfl, r0, r1, r2, l2, b2⟩; have HB2 : Hid (Below w.heap.size w w2) := b2; have HK2 : Hid (w.heap.size < w2.heap.size ∧ w2.cell? ⟨w.heap.size, 0, none⟩ = some (.int .i64 a) ∧ w2.cell? ⟨w.heap.size, 1, none⟩ = some (.int .i64 b) ∧ w2.cell? ⟨w.heap.size, 2, none⟩ = some (.int .i64 c)) := ⟨l2, r0, r1, r2⟩; clear b2)
        | (go_at_call 131; clear t3; refine (HC.out.next (N := w.heap.size) (x := .int .i64 a) (y := .int .i64 b) (z := .int .i64 c) _ ?_ ?_ ?_ ?_ ?_).mono ?_; (first | exact HB2.out | exact HB2.out.drew); exact HK2.out.1; exact HK2.out.2.1; exact HK2.out.2.2.1; exact HK2.out.2.2.2; rintro e w3 ⟨rfl, u0, u1, u2, l3, b3⟩; have HB3 : Hid (Below w.heap.size w w3) := b3; clear b3))
    all_goals go_wp2
    all_goals
      go_returns
      refine ⟨ret_str (by rw [HR.out]), ?_⟩
      exact HB3.out

theorem rPrint_any (a b c : Int) (w : World) :
    Calls Tryz.prog 99 #[.agg #[.int .i64 a, .int .i64 b, .int .i64 c]] w fun e w' => e = .returned (.string (textV a b c)) ∧ Below w.heap.size w w' := by
  refine rPrint_all a b c w (fun m => ?_) (fun m => ?_) (fun m => ?_) <;> (obtain ⟨a0, a1, b0, b1, c0, c1⟩ := may_all m)
  · exact fun w1 _ => Number_any a a0 a1 w1
  · exact fun w1 _ => Number_any b b0 b1 w1
  · exact fun w1 _ => Number_any c c0 c1 w1
end Go.Proofs.YtjpmlagofcgheaaGreatDoor
namespace Go.Proofs.YtjpmlagofcgheaaGreatDoor
open Go.RowKit
set_option maxRecDepth 100000

/-- A call whose contract asks that nothing old has turned. -/
theorem lift_on {P : Program} {f : Nat} {args : Array Value} {R : Ending} {w : World} (h : ∀ w1, Below w.heap.size w w1 → Calls P f args w1 fun e w' => e = R ∧ Below w1.heap.size w1 w') {bs : List Bx} (w1 : World) (ok : OKs w bs w1) :
    Calls P f args w1 fun e w' => e = R ∧ OKs w bs w' := by
  refine (h w1 ok.1).mono ?_
  rintro e w' ⟨rfl, hb⟩
  exact ⟨rfl, ok.below hb⟩

end Go.Proofs.YtjpmlagofcgheaaGreatDoor
namespace Go.Proofs.YtjpmlagofcgheaaGreatDoor
open Go.RowKit
set_option maxRecDepth 100000

end Go.Proofs.YtjpmlagofcgheaaGreatDoor
namespace Go.Proofs.YtjpmlagofcgheaaGreatDoor
open Go.RowKit
set_option maxRecDepth 100000

theorem cmp_le {a b c x y z r s t : Int} (h1 : mayV a b c = true) (h2 : mayV x y z = true) (h3 : mayV r s t = true) (hk : 0 ≤ cmpV x y z a b c) (hj : cmpV x y z r s t ≤ 0) : cmpV a b c r s t ≤ 0 := by
  have e1 := cmp_rank h2 h1
  have e2 := cmp_rank h3 h2
  have e3 := cmp_rank h3 h1
  have n1 := cmp_neg a b c r s t
  have n2 := cmp_neg x y z r s t
  have r1 := cmp_rank_eq h1 h3
  rcases cmp_range a b c r s t with e | e | e
  · omega
  · omega
  · have : rankV r s t < rankV a b c := e3.1 (by omega)
    omega

theorem print_on {W : World} (h : Lib.TabIs Tryz.prog W "internal/strconv.uint64pow10" .u64 Lib.pow10Tab) (a b c : Int) (w1 : World) (hb : Below W.heap.size W w1) :
    Calls Tryz.prog 93 #[.agg #[.int .i64 a, .int .i64 b, .int .i64 c]] w1 fun e w' => e = .returned (.string (textV a b c)) ∧ Below w1.heap.size w1 w' := by
  refine Print_any a b c w1 (fun m => ?_) (fun m => ?_) (fun m => ?_) <;> (obtain ⟨a0, a1, b0, b1, c0, c1⟩ := may_all m)
  · exact spells_tab h w1 hb a a0 a1
  · exact spells_tab h w1 hb b b0 b1
  · exact spells_tab h w1 hb c c0 c1

end Go.Proofs.YtjpmlagofcgheaaGreatDoor
namespace Go.Proofs.YtjpmlagofcgheaaGreatDoor
open Go.RowKit
set_option maxRecDepth 100000

/-- What the library's variables hold. -/
structure Env (W : World) : Prop where
  tab : Lib.TabIs Tryz.prog W "internal/strconv.uint64pow10" .u64 Lib.pow10Tab

theorem cell_in {W : World} {a : Addr} {v : Value} (h : W.cell? a = some v) : a.block < W.heap.size := by
  rcases Nat.lt_or_ge a.block W.heap.size with h' | h'
  · exact h'
  · simp [World.cell?, Array.getElem?_eq_none h'] at h

theorem Env.below {W w : World} (h : Env W) (hb : Below W.heap.size W w) : Env w := { tab := Lib.tabBelow_of_tabIs h.tab w hb }

/-- What a part is read as. -/
def numV (l : List UInt8) : Int := match Lib.atoiAll l with
  | .ok v => v
  | _ => -1

theorem numV_i64 (l : List UInt8) : -9223372036854775808 ≤ numV l ∧ numV l ≤ 9223372036854775807 := by
  unfold numV
  cases h : Lib.atoiAll l with
  | ok v => exact Lib.atoiAll_bounds h
  | _ => simp

theorem below_bytes {w w' : World} {t : TypeId} (h : w' = w ∨ ∃ b, w' = Lib.bytesWorld w t b) : Below w.heap.size w w' := by
  rcases h with rfl | ⟨b, rfl⟩
  · exact Below.refl _ _
  · exact Lib.bytesWorld_below _ _ _

end Go.Proofs.YtjpmlagofcgheaaGreatDoor
namespace Go.Proofs.YtjpmlagofcgheaaGreatDoor
open Go.RowKit
set_option maxRecDepth 100000

def OKr (w : World) (N : Nat) (bs : List Bx) (w1 : World) : Prop := OKs w bs w1 ∧ w1.frozen? ⟨N, 0, none⟩ = false ∧ w1.frozen? ⟨N, 1, none⟩ = false ∧ w1.frozen? ⟨N, 2, none⟩ = false ∧ N < w1.heap.size

theorem OKr.below {w : World} {N : Nat} {bs : List Bx} {w1 w' : World} (h : OKr w N bs w1) (hb : Below w1.heap.size w1 w') : OKr w N bs w' :=
  ⟨h.1.below hb, (hb.frozen (p := ⟨N, 0, none⟩) h.2.2.2.2).trans h.2.1, (hb.frozen (p := ⟨N, 1, none⟩) h.2.2.2.2).trans h.2.2.1, (hb.frozen (p := ⟨N, 2, none⟩) h.2.2.2.2).trans h.2.2.2.1, Nat.lt_of_lt_of_le h.2.2.2.2 hb.size⟩
theorem OKr.drew {w : World} {N : Nat} {bs : List Bx} {w1 : World} (h : OKr w N bs w1) : OKr w N bs w1.drew := ⟨h.1.drew, h.2⟩
theorem OKr.box {w : World} {N : Nat} {bs : List Bx} {w1 : World} (h : OKr w N bs w1) {M : Nat} (hM : w1.heap.size = M) (x y z : Value) : OKr w N (⟨M, x, y, z⟩ :: bs) (w1.alloc (.cells #[x, y, z] 31)) := by
  have := h.below (boxB w1 (.cells #[x, y, z] 31))
  exact ⟨h.1.box hM x y z, this.2⟩
theorem OKr.start {w : World} {bs : List Bx} {w1 : World} (h : OKs w bs w1) {M : Nat} (hM : w1.heap.size = M) (x y z : Value) : OKr w M (⟨M, x, y, z⟩ :: bs) (w1.alloc (.cells #[x, y, z] 31)) := by
  refine ⟨h.box hM x y z, ?_⟩
  subst hM
  refine ⟨?_, ?_, ?_, ?_⟩
  · simp
  · simp
  · simp
  · show w1.heap.size < (w1.alloc _).heap.size
    simp

theorem liftr {P : Program} {f : Nat} {args : Array Value} {R : Ending} {w : World} (h : ∀ w1, Below w.heap.size w w1 → Calls P f args w1 fun e w' => e = R ∧ Below w1.heap.size w1 w') {N : Nat} {bs : List Bx} (w1 : World) (ok : OKr w N bs w1) :
    Calls P f args w1 fun e w' => e = R ∧ OKr w N bs w' := by
  refine (h w1 ok.1.1).mono ?_
  rintro e w' ⟨rfl, hb⟩
  exact ⟨rfl, ok.below hb⟩
end Go.Proofs.YtjpmlagofcgheaaGreatDoor
namespace Go.Proofs.YtjpmlagofcgheaaGreatDoor
open Go.RowKit
set_option maxRecDepth 100000

end Go.Proofs.YtjpmlagofcgheaaGreatDoor
namespace Go.Proofs.YtjpmlagofcgheaaGreatDoor
open Go.RowKit
set_option maxRecDepth 100000

def pA (l : List UInt8) : Int := numV (Lib.cut l [46]).1
def pB (l : List UInt8) : Int := numV (Lib.cut (Lib.cut l [46]).2.1 [46]).1
def pC (l : List UInt8) : Int := numV (Lib.cut (Lib.cut l [46]).2.1 [46]).2.1
/-- Is a text a version's? -/
def okP (s : ByteArray) : Bool := mayV (pA s.data.toList) (pB s.data.toList) (pC s.data.toList) && decide (textV (pA s.data.toList) (pB s.data.toList) (pC s.data.toList) = s)
def resA (s : ByteArray) : Int := if okP s then pA s.data.toList else 0
def resB (s : ByteArray) : Int := if okP s then pB s.data.toList else 0
def resC (s : ByteArray) : Int := if okP s then pC s.data.toList else 0

theorem cut_le (l sep : List UInt8) : (Lib.cut l sep).1.length ≤ l.length ∧ (Lib.cut l sep).2.1.length ≤ l.length := by
  unfold Lib.cut
  split
  · simp; omega
  · simp

theorem bytes_list (l : List UInt8) : (⟨l.toArray⟩ : ByteArray).data.toList = l := by simp
theorem bytes_size (l : List UInt8) : (⟨l.toArray⟩ : ByteArray).size = l.length := by show l.toArray.size = _; simp
theorem list_size (s : ByteArray) : s.data.toList.length = s.size := rfl

theorem bytes_same {s t : ByteArray} (h : s.toList = t.toList) : s = t := by
  rw [ByteArray.toList_eq, ByteArray.toList_eq] at h
  cases s; cases t
  simp only [ByteArray.mk.injEq]
  exact Array.toList_inj.1 h

/-- What is told is a version's text. -/
theorem okP_text {s : ByteArray} (h : okP s = true) : mayV (resA s) (resB s) (resC s) = true ∧ s = textV (resA s) (resB s) (resC s) := by
  unfold resA resB resC
  rw [h]
  unfold okP at h
  simp only [Bool.and_eq_true, decide_eq_true_eq] at h
  exact ⟨h.1, h.2.symm⟩

theorem cut_dot (l r : List UInt8) (h : (46 : UInt8) ∉ l) : Lib.cut (l ++ 46 :: r) [46] = (l, r, true) := by
  have hi : Lib.index (l ++ 46 :: r) [46] = l.length := by
    refine Lib.index_first (by simp) (by simp [Lib.occAt]) ?_
    intro j hj
    unfold Lib.occAt
    rw [List.drop_append_of_le_length (by omega)]
    have hd : l.drop j = l[j] :: l.drop (j + 1) := List.drop_eq_getElem_cons hj
    rw [hd]
    simp only [List.cons_append, List.isPrefixOf, Bool.and_true]
    rw [beq_eq_false_iff_ne]
    intro e
    exact h (by rw [e]; exact List.getElem_mem hj)
  unfold Lib.cut
  rw [hi, if_pos (by omega)]
  simp

theorem dec_from (l : List UInt8) (h : ∀ d ∈ l, 48 ≤ d.toNat ∧ d.toNat ≤ 57) (acc : Nat) : Lib.decFrom acc l = some (l.foldl (fun n d => n * 10 + (d.toNat - 48)) acc) := by
  induction l generalizing acc with
  | nil => rfl
  | cons d l ih =>
    have hd := h d (List.mem_cons_self)
    unfold Lib.decFrom
    have : Lib.digitVal d = some (d.toNat - 48) := by
      unfold Lib.digitVal; simp; omega
    rw [this]
    simp only [List.foldl_cons]
    exact ih (fun x hx => h x (List.mem_cons_of_mem _ hx)) _

/-- The numeral of a part is read as that part. -/
theorem num_itoa {n : Int} (h0 : 0 ≤ n) (h1 : n ≤ 999) : numV (Lib.itoa n) = n := by
  have e := itoa_of h0
  have hl : (Lib.itoa n).length ≤ 3 := by have := itoa_three h0 h1; rw [bytes_size] at this; exact this
  have hd := dec_digits n.toNat
  have hv := val_dec n.toNat
  have ha : Lib.atoi (Lib.itoa n) = some n := by
    rw [e]
    cases hc : Lib.decDigits n.toNat with
    | nil => exact absurd hc (dec_ne _)
    | cons b r =>
      rw [hc] at hd hv
      have hb := hd b (List.mem_cons_self)
      have n45 : (b == 45) = false := by rw [beq_eq_false_iff_ne]; rintro rfl; revert hb; decide
      have n43 : (b == 43) = false := by rw [beq_eq_false_iff_ne]; rintro rfl; revert hb; decide
      unfold Lib.atoi
      simp only [n45, n43, Bool.false_eq_true, if_false]
      unfold Lib.decNat
      simp only [List.isEmpty_cons, Bool.false_eq_true, if_false]
      rw [dec_from _ hd]
      unfold valOf at hv
      rw [hv]
      simp
      omega
  unfold numV
  rw [Lib.atoiAll_short _ (by omega), ha]
  rfl

theorem parts_text {a b c : Int} (h : mayV a b c = true) : pA (textV a b c).data.toList = a ∧ pB (textV a b c).data.toList = b ∧ pC (textV a b c).data.toList = c := by
  obtain ⟨a0, a1, b0, b1, c0, c1⟩ := may_all h
  unfold pA pB pC
  rw [text_list h, cut_dot _ _ (no_dot a0)]
  simp only
  rw [cut_dot _ _ (no_dot b0)]
  exact ⟨num_itoa a0 a1, num_itoa b0 b1, num_itoa c0 c1⟩

/-- A version's text is told, as that version. -/
theorem okP_of {a b c : Int} (h : mayV a b c = true) : okP (textV a b c) = true ∧ resA (textV a b c) = a ∧ resB (textV a b c) = b ∧ resC (textV a b c) = c := by
  obtain ⟨e1, e2, e3⟩ := parts_text h
  have ho : okP (textV a b c) = true := by
    unfold okP
    rw [e1, e2, e3, h]
    simp
  unfold resA resB resC
  rw [ho]
  exact ⟨rfl, e1, e2, e3⟩

theorem okP_empty : okP ByteArray.empty = false := by
  rw [Bool.eq_false_iff]
  intro h
  obtain ⟨hm, he⟩ := okP_text h
  have := congrArg (fun s : ByteArray => s.data.toList) he
  simp only [text_list hm] at this
  have h2 := congrArg List.length this
  simp at h2
end Go.Proofs.YtjpmlagofcgheaaGreatDoor
namespace Go.Proofs.YtjpmlagofcgheaaGreatDoor
open Go.RowKit
set_option maxRecDepth 100000

theorem of_list {s : ByteArray} {l : List UInt8} (h : s.data.toList = l) : s = ⟨l.toArray⟩ := by
  cases s with
  | mk d => simp only at h; subst h; simp
theorem beq_no {s : ByteArray} {l : List UInt8} (h : ¬ s.data.toList = l) : (s.toList == l) = false := by
  rw [ByteArray.toList_eq]; simpa using h

/-- The place of the version that a text is. -/
def plP (t : ByteArray) : Int := rankV (resA t) (resB t) (resC t)
theorem plP_ok {t : ByteArray} (h : okP t = true) : okR (plP t) ∧ atA (plP t) = resA t ∧ atB (plP t) = resB t ∧ atC (plP t) = resC t := by
  have m := (okP_text h).1
  have l := rank_low m
  exact ⟨by unfold okR plP; omega, at_rank m⟩

end Go.Proofs.YtjpmlagofcgheaaGreatDoor
namespace Go.Proofs.YtjpmlagofcgheaaGreatDoor
open Go.RowKit
set_option maxRecDepth 100000

/-- Where a word's version begins. -/
def idxK (s : ByteArray) : Nat := (max (Lib.indexAny s.data.toList [48, 49, 50, 51, 52, 53, 54, 55, 56, 57]) 0).toNat
theorem indexAny_lt (c : List UInt8) : ∀ l : List UInt8, Lib.indexAny l c < l.length ∨ Lib.indexAny l c = -1
  | [] => Or.inr rfl
  | b :: l => by
    have ih := indexAny_lt c l
    unfold Lib.indexAny
    simp only [List.length_cons]
    split
    · left; omega
    · split
      · exact Or.inr rfl
      · left
        rename_i h
        simp at h
        omega
theorem idxK_le (s : ByteArray) : idxK s ≤ s.size := by
  unfold idxK
  have h1 := indexAny_lt [48, 49, 50, 51, 52, 53, 54, 55, 56, 57] s.data.toList
  have h2 := list_size s
  have h3 := Lib.indexAny_ge [48, 49, 50, 51, 52, 53, 54, 55, 56, 57] s.data.toList
  omega

/-- A word's versions. -/
def wordR (s : ByteArray) : Option Rg := if s.data.toList = [42] then some allR else if okP (s.extract (idxK s) s.size) = true then signR (s.extract 0 (idxK s)).data.toList (plP (s.extract (idxK s) s.size)) else none
theorem word_rg {s : ByteArray} {R : Rg} (h : wordR s = some R) : RangeR R := by
  unfold wordR at h
  split at h
  · injection h with h; subst h; exact allR_ok
  · split at h
    · rename_i ho
      exact sign_ok (plP_ok ho).1 h
    · cases h

/-- A text whose bytes are all ASCII, or that is long. -/
def Plain8 (s : ByteArray) : Prop := 8 < s.size ∨ ∀ (j : Nat) b, s.data.toList[j]? = some b → b.toNat < 128

end Go.Proofs.YtjpmlagofcgheaaGreatDoor
