/- cut of any two ranges; from, All, meet, join of package span. -/
import Derived.Test.YtkmgfemhfibikaaGreatDoorCut2
namespace Go.Proofs.YtkmgfemhfibikaaGreatDoor
open Go.RowKit
set_option maxRecDepth 100000

theorem RiseR.len {M : Int} : ∀ {B : Rg} {k : Int}, RiseR k M B → B = [] ∨ 2 * (B.length : Int) + k ≤ M + 2
  | [], _, _ => Or.inl rfl
  | (g, h) :: B, k, hr => by
    obtain ⟨h1, h2, h3, h4⟩ := hr
    right
    rcases RiseR.len h4 with rfl | h5
    · simp; omega
    · simp only [List.length_cons]; omega
theorem RangeR.len {B : Rg} (h : RangeR B) : B.length ≤ 500000001 := by
  rcases RiseR.len h with rfl | h1
  · simp
  · omega
theorem RangeR.ok {B : Rg} (h : RangeR B) : ∀ p ∈ B, okP2 p := fun p hp => by
  have := RiseR.mem h hp
  unfold okP2 okR; omega

theorem spCells_at : ∀ (L : List Sp) (i : Nat) (h : i < L.length), (spCells L)[i * 6]? = some (.int .i64 L[i].a) ∧ (spCells L)[i * 6 + 1]? = some (.int .i64 L[i].b) ∧ (spCells L)[i * 6 + 1 + 1]? = some (.int .i64 L[i].c) ∧
    (spCells L)[i * 6 + 1 + 1 + 1]? = some (.int .i64 L[i].x) ∧ (spCells L)[i * 6 + 1 + 1 + 1 + 1]? = some (.int .i64 L[i].y) ∧ (spCells L)[i * 6 + 1 + 1 + 1 + 1 + 1]? = some (.int .i64 L[i].z)
  | [], i, h => by simp at h
  | s :: L, 0, _ => by simp [spCells]
  | s :: L, i + 1, h => by
    have ih := spCells_at L i (by simpa using h)
    have e : (i + 1) * 6 = i * 6 + 6 := by omega
    have q : ∀ j, (spCells (s :: L))[i * 6 + 6 + j]? = (spCells L)[i * 6 + j]? := fun j => by
      have : i * 6 + 6 + j = (i * 6 + j) + 6 := by omega
      rw [this]; simp [spCells]
    have q0 := q 0
    have q1 := q 1
    have q2 := q 2
    have q3 := q 3
    have q4 := q 4
    have q5 := q 5
    simp only [Nat.add_zero] at q0
    rw [e]
    simp only [List.getElem_cons_succ]
    exact ⟨q0.trans ih.1, q1.trans ih.2.1, q2.trans ih.2.2.1, q3.trans ih.2.2.2.1, q4.trans ih.2.2.2.2.1, q5.trans ih.2.2.2.2.2⟩

theorem OwnS.base {w : World} {B C : Nat} {v : Value} {L : List Sp} (h : OwnS w B v L) (hc : C ≤ B) : OwnS w C v L := by
  refine ⟨h.1, ?_⟩
  rcases h.2 with hn | ⟨g, cap, cur, hv, hB, r⟩
  · exact Or.inl hn
  · exact Or.inr ⟨g, cap, cur, hv, Nat.le_trans hc hB, r⟩

theorem OwnS.sp {w : World} {B : Nat} {v : Value} {L : List Sp} (h : OwnS w B v L) : ∃ ad cap, v = .slice ad L.length cap ∧ L.length ≤ cap ∧ (L = [] ∨ ∃ g o, ad = some ⟨g, o, none⟩ ∧ g < w.heap.size ∧ ∀ i (h : i < L.length), SpAt w g (o + i * 6) L[i]) := by
  rcases h.2 with ⟨rfl, hn⟩ | ⟨g, cap, cur, rfl, hB, hgg, hc, hm, hs, hx⟩
  · have : L = [] := List.eq_nil_of_length_eq_zero hn
    subst this
    exact ⟨none, 0, rfl, Nat.le_refl _, Or.inl rfl⟩
  · refine ⟨_, _, rfl, hc, Or.inr ⟨g, 0, rfl, ?_, fun i hi => ?_⟩⟩
    · rw [Array.getElem?_eq_some_iff] at hgg; exact hgg.1
    · have q : ∀ j v, (spCells L)[j]? = some v → w.cell? ⟨g, 0 + j, none⟩ = some v := fun j v hj => by
        rw [← hx, List.getElem?_take] at hj
        split at hj
        · rw [Nat.zero_add]
          simp [World.cell?, hgg]
          simpa using hj
        · cases hj
      obtain ⟨s0, s1, s2, s3, s4, s5⟩ := spCells_at L i hi
      exact ⟨q _ _ s0, q _ _ s1, q _ _ s2, q _ _ s3, q _ _ s4, q _ _ s5⟩

theorem OwnS.spans {w : World} {B : Nat} {v : Value} {L : Rg} (h : OwnS w B v (L.map spR)) : SpansR w v L := by
  obtain ⟨ad, cap, hv, hc, hl⟩ := h.sp
  simp only [List.length_map] at hv hc hl
  refine ⟨ad, cap, hv, hc, ?_⟩
  rcases hl with hl | ⟨g, o, ha, hg, hs⟩
  · left; simpa using hl
  · right
    refine ⟨g, o, ha, hg, fun i hi => ?_⟩
    have := hs i hi
    rw [List.getElem_map] at this
    exact this

theorem cut_none (ad : Option Addr) (cap : Nat) (vb : Value) (w : World) :
    Calls Tryz.prog 20 #[.slice ad 0 cap, vb] w fun e w' => e = .returned (.slice none 0 0) ∧ Below w.heap.size w w' := by
  go_enter Tryz.func20, Tryz.ntmps20
  go_wp2
  go_step3
  go_wp2
  go_step3
  go_wp2_with fail
  go_loop [1, 5, 14] (fun b out i => b = vb ∧ out = .slice none 0 0 ∧ i = .int .i64 0) (fun _ _ _ => 0)
  case atStart => exact ⟨rfl, rfl, rfl⟩
  case round =>
    obtain ⟨h1, h5, h14⟩ := hrel
    subst u1
    subst u5
    subst u14
    go_wp2
    go_ret
    exact ⟨rfl, Below.refl _ _⟩

theorem cut_rg {A B : Rg} (hA : RangeR A) (hB : RangeR B) {va vb : Value} {w : World} (ha : SpansR w va A) (hb : SpansR w vb B) :
    Calls Tryz.prog 20 #[va, vb] w fun e w' => ∃ v, e = .returned v ∧ OwnS w' w.heap.size v ((cutR A B).map spR) ∧ Below w.heap.size w w' := by
  obtain ⟨ad, cap, rfl, hc, hl⟩ := ha
  rcases hl with rfl | ⟨g, o, rfl, hg, hs⟩
  · refine (cut_none ad cap vb w).mono ?_
    rintro e w' ⟨rfl, h⟩
    exact ⟨_, rfl, OwnS.nil _ _, h⟩
  · have h1 := hA.len
    have h2 := hB.len
    have h3 := cutR_len (B := B) hA
    exact cut_walk A B g o cap vb w hA.ok hB.ok hg hs hb (by omega) (by omega) (by omega)

theorem meet_rg {A B : Rg} (hA : RangeR A) (hB : RangeR B) {va vb : Value} {w : World} (ha : SpansR w va A) (hb : SpansR w vb B) :
    Calls Tryz.prog 17 #[va, vb] w fun e w' => ∃ v, e = .returned v ∧ OwnS w' w.heap.size v ((meetR A B).map spR) ∧ Below w.heap.size w w' := by
  have H1 : Hid (Calls Tryz.prog 20 #[va, vb] w fun e w' => ∃ v, e = .returned v ∧ OwnS w' w.heap.size v ((cutR A B).map spR) ∧ Below w.heap.size w w') := cut_rg hA hB ha hb
  have H2 : Hid (∀ v1 w1, OwnS w1 w.heap.size v1 ((cutR A B).map spR) → Below w.heap.size w w1 → Calls Tryz.prog 20 #[va, v1] w1 fun e w' => ∃ v, e = .returned v ∧ OwnS w' w1.heap.size v ((meetR A B).map spR) ∧ Below w1.heap.size w1 w') := fun v1 w1 ho hbl => cut_rg hA (hA.cut hB) (ha.below hbl) ho.spans
  have t1 : True := trivial
  clear ha hb
  go_enter Tryz.func17, Tryz.ntmps17
  go_wp2_with (first
    | (have _t := t1; go_at_call 20; refine H1.out.mono ?_; rintro e w1 ⟨v1, rfl, ok1⟩; clear t1; have HO1 := hide3 ok1; clear ok1)
    | (go_at_call 20; refine (H2.out _ _ HO1.out.1 HO1.out.2).mono ?_; rintro e w2 ⟨v2, rfl, ok2⟩; have HO2 := hide3 ok2; clear ok2))
  go_ret
  exact ⟨v2, rfl, HO2.out.1.base HO1.out.2.size, below_then HO1.out.2 HO2.out.2⟩

/-- The first and the last version lie in their variables. -/
def FL (w : World) : Prop := (w.cell? ⟨0, 0, none⟩ = some (.int .i64 0) ∧ w.cell? ⟨0, 1, none⟩ = some (.int .i64 0) ∧ w.cell? ⟨0, 2, none⟩ = some (.int .i64 0)) ∧
  (w.cell? ⟨1, 0, none⟩ = some (.int .i64 999) ∧ w.cell? ⟨1, 1, none⟩ = some (.int .i64 999) ∧ w.cell? ⟨1, 2, none⟩ = some (.int .i64 999)) ∧ 0 < w.heap.size ∧ 1 < w.heap.size
theorem FL.below {w w' : World} (h : FL w) (hb : Below w.heap.size w w') : FL w' := by
  obtain ⟨⟨h0, h1, h2⟩, ⟨h3, h4, h5⟩, h6, h7⟩ := h
  have q : ∀ i, w'.cell? ⟨0, i, none⟩ = w.cell? ⟨0, i, none⟩ := fun i => hb.cell (p := ⟨0, i, none⟩) h6
  have r : ∀ i, w'.cell? ⟨1, i, none⟩ = w.cell? ⟨1, i, none⟩ := fun i => hb.cell (p := ⟨1, i, none⟩) h7
  exact ⟨⟨by rw [q]; exact h0, by rw [q]; exact h1, by rw [q]; exact h2⟩, ⟨by rw [r]; exact h3, by rw [r]; exact h4, by rw [r]; exact h5⟩, Nat.lt_of_lt_of_le h6 hb.size, Nat.lt_of_lt_of_le h7 hb.size⟩
theorem keepFL : KeepP FL := fun _ _ h hb => h.below hb

/-- One span in a new block. -/
theorem spans_one {w w1 : World} (hb : Below w.heap.size w w1) (lo hi : Int) {M : Nat} (hM : w1.heap.size = M) : SpansR (w1.alloc (.cells #[.int .i64 (atA lo), .int .i64 (atB lo), .int .i64 (atC lo), .int .i64 (atA hi), .int .i64 (atB hi), .int .i64 (atC hi)] 37)) (.slice (some ⟨M, 0, none⟩) 1 1) [(lo, hi)] ∧ Below w.heap.size w (w1.alloc (.cells #[.int .i64 (atA lo), .int .i64 (atB lo), .int .i64 (atC lo), .int .i64 (atA hi), .int .i64 (atB hi), .int .i64 (atC hi)] 37)) := by
  subst hM
  refine ⟨⟨_, _, rfl, Nat.le_refl _, Or.inr ⟨_, 0, rfl, by simp, fun i hi => ?_⟩⟩, below_then hb (boxB _ _)⟩
  have : i = 0 := by simpa using hi
  subst this
  refine ⟨?_, ?_, ?_, ?_, ?_, ?_⟩ <;> simp [spR]

theorem from_at (lo hi : Int) (w : World) :
    Calls Tryz.prog 41 #[.agg #[.int .i64 (atA lo), .int .i64 (atB lo), .int .i64 (atC lo)], .agg #[.int .i64 (atA hi), .int .i64 (atB hi), .int .i64 (atC hi)]] w fun e w' => ∃ v, e = .returned v ∧ SpansR w' v [(lo, hi)] ∧ Below w.heap.size w w' := by
  have H := hide3 (fun w1 (hb : Below w.heap.size w w1) M hM => spans_one hb lo hi (M := M) hM)
  have HB := hide3 (boxB2 w)
  go_enter Tryz.func41, Tryz.ntmps41
  go_wp2
  go_ret
  exact ⟨_, rfl, H.out _ (HB.out _ _) _ (by simp)⟩
end Go.Proofs.YtkmgfemhfibikaaGreatDoor
