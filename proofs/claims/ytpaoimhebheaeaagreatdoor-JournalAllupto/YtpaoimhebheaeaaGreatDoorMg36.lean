/- Jq5, Dx9, Dx13, laid in one text. -/
import Derived.Test.YtpaoimhebheaeaaGreatDoorMg35
namespace Go.Proofs.YtpaoimhebheaeaaGreatDoor
open Go.RowKit Go.Maps Go.WideMaps Go.WideElems Dk
set_option maxRecDepth 100000

def jd : Fl := (jn, true, ByteArray.empty)
def fN (t : ByteArray) : Fl := (pN, false, t)
def fP (t : ByteArray) : Fl := (pP, false, t)
theorem jn_par : ((parentOf jn).toList == [47]) = true := by decide +kernel
theorem jn_parn : parentOf jn ≠ jn := by decide +kernel
theorem jok (J : List Fl) (h : ∀ y ∈ J, y = jd ∨ (∃ t, y = fN t) ∨ ∃ t, y = fP t) : JOk J := fun y hy => by
  rcases h y hy with rfl | ⟨t, rfl⟩ | ⟨t, rfl⟩
  · exact ⟨jB_jn, Or.inr jn_par⟩
  · exact ⟨jB_pN, Or.inl pN_par⟩
  · exact ⟨jB_pP, Or.inl pP_par⟩
theorem is0 : ∀ y ∈ ([] : List Fl), y = jd ∨ (∃ t, y = fN t) ∨ ∃ t, y = fP t := fun _ h => by cases h
theorem is1 : ∀ y ∈ [jd], y = jd ∨ (∃ t, y = fN t) ∨ ∃ t, y = fP t := fun _ h => Or.inl (List.mem_singleton.1 h)
theorem isN (t : ByteArray) : ∀ y ∈ [jd, fN t], y = jd ∨ (∃ t, y = fN t) ∨ ∃ t, y = fP t := fun _ h => by
  rcases List.mem_cons.1 h with h | h
  · exact Or.inl h
  · exact Or.inr (Or.inl ⟨t, List.mem_singleton.1 h⟩)
theorem isP (t : ByteArray) : ∀ y ∈ [jd, fP t], y = jd ∨ (∃ t, y = fN t) ∨ ∃ t, y = fP t := fun _ h => by
  rcases List.mem_cons.1 h with h | h
  · exact Or.inl h
  · exact Or.inr (Or.inr ⟨t, List.mem_singleton.1 h⟩)
theorem noJ_par {D : DataW Unit} (hP : Plain D) (hn : NoJ D) {y : Fl} (hy : y ∈ filesD D) : parentOf y.1 ≠ jn := fun e => by
  have := jB_par (hP.ok hy) (by rw [e]; exact jB_jn)
  rw [hn y hy] at this
  cases this
theorem list_ov {J : List Fl} {D X : DataW Unit} (h : Ov J D X) (hD : Plain D) (hn : NoJ D) (hJ : ∀ y ∈ J, y = jd ∨ (∃ t, y = fN t) ∨ ∃ t, y = fP t) : (listT X jn).any (badL X) = false := by
  rw [List.any_eq_false]
  intro n hn2
  rw [Bool.not_eq_true]
  unfold listT at hn2
  split at hn2
  · unfold namesD at hn2
    obtain ⟨f, hf, rfl⟩ := List.mem_map.1 hn2
    obtain ⟨h1, h2⟩ := mem_kids.1 hf
    rcases (h.mem f).1 h1 with q | q
    · exact absurd h2 (noJ_par hD hn q)
    · rcases hJ f q with rfl | ⟨t, rfl⟩ | ⟨t, rfl⟩
      · exact absurd h2 jn_parn
      · have hk : kindD X pN = 1 := kind_J h q
        unfold badL badN
        rw [bytes_mk]
        show ((!((nameOf pN).toList == [112, 108, 97, 110]) && !((nameOf pN).toList == [112, 108, 97, 110, 46, 110, 101, 119])) || kindD X (jS ++ nameOf pN) != 1) = false
        rw [pN_nam, hk, show ((nameOf pN).toList == [112, 108, 97, 110, 46, 110, 101, 119]) = true by decide +kernel]
        simp
      · have hk : kindD X pP = 1 := kind_J h q
        unfold badL badN
        rw [bytes_mk]
        show ((!((nameOf pP).toList == [112, 108, 97, 110]) && !((nameOf pP).toList == [112, 108, 97, 110, 46, 110, 101, 119])) || kindD X (jS ++ nameOf pP) != 1) = false
        rw [pP_nam, hk, show ((nameOf pP).toList == [112, 108, 97, 110]) = true by decide +kernel]
        simp
  · cases hn2
/-- A plan that can be done on a disk without a journal. -/
structure Run (D0 : DataW Unit) (l : List De) : Prop where
  plan : Plan l
  fine : Fine ⟨D0, [], -1⟩
  noj : NoJ D0
  can : canA l ⟨D0, [], -1⟩ = true
/-- The disk behind the first deeds. -/
def En (D0 : DataW Unit) (l : List De) (j : Nat) : DataW Unit := (runA (l.take j) ⟨D0, [], -1⟩).2.D
theorem canA_take {l : List De} {x : Ab} (h : canA l x = true) (j : Nat) : canA (l.take j) x = true := by
  rw [← List.take_append_drop j l, canA_app, Bool.and_eq_true] at h
  exact h.1
theorem Run.fineE {D0 : DataW Unit} {l : List De} (h : Run D0 l) (j : Nat) : Fine ⟨En D0 l j, [], -1⟩ := by
  have := (run_fine (l.take j) h.fine).1
  exact ⟨this.pl, this.so, by simp, by simp⟩
theorem Run.okX {D0 : DataW Unit} {l : List De} (h : Run D0 l) {d : De} (hd : d ∈ l) : OkX d := by
  have := h.plan.parts d hd
  exact ⟨this.1, this.2.1, this.2.2.2⟩
theorem Run.out {D0 : DataW Unit} {l : List De} (h : Run D0 l) {d : De} (hd : d ∈ l) : jB d.pa = false := by
  cases e : jB d.pa
  · rfl
  · exact absurd ⟨d, hd, rfl⟩ (plan_out h.plan e)
theorem Run.next {D0 : DataW Unit} {l : List De} (h : Run D0 l) {j : Nat} (hj : j < l.length) : (doA ⟨En D0 l j, [], -1⟩ l[j]).1 = 0 ∧ (doA ⟨En D0 l j, [], -1⟩ l[j]).2.D = En D0 l (j + 1) ∧ En D0 l (j + 1) = appD (En D0 l j) l[j] := by
  have hc := canA_take h.can j
  have h1 := canA_step hj hc
  rw [canA_take h.can (j + 1), eq_comm, Bool.and_eq_true] at h1
  have h2 := runA_next hj (canA_run _ hc)
  have hl : (runA (l.take j) ⟨D0, [], -1⟩).2.left = -1 := (tch_run (l.take j) ⟨D0, [], -1⟩).up rfl
  have hs := do_left (x := (runA (l.take j) ⟨D0, [], -1⟩).2) (by rw [hl]; decide) l[j]
  have e0 : (doA ⟨En D0 l j, [], -1⟩ l[j]).1 = 0 := hs.1.symm.trans (beq_iff_eq.1 h1.2)
  have e1 : (doA ⟨En D0 l j, [], -1⟩ l[j]).2.D = En D0 l (j + 1) := by
    show _ = (runA (l.take (j + 1)) ⟨D0, [], -1⟩).2.D
    rw [h2]
    exact hs.2.symm
  exact ⟨e0, e1, e1.symm.trans (do_app (h.fineE j) (h.okX (List.getElem_mem hj)) h1.1 e0)⟩
theorem Run.done {D0 : DataW Unit} {l : List De} (h : Run D0 l) : ∀ j, j ≤ l.length → ∀ a ∈ l.take j, OkX a ∧ Done (En D0 l j) a := by
  intro j
  induction j with
  | zero => intro _ a ha; cases ha
  | succ j ih =>
    intro hj a ha
    have hj2 : j < l.length := by omega
    rw [List.take_succ_eq_append_getElem hj2] at ha
    refine ⟨?_, ?_⟩
    · rcases List.mem_append.1 ha with q | q
      · exact h.okX (List.mem_of_mem_take q)
      · rw [List.mem_singleton.1 q]; exact h.okX (List.getElem_mem hj2)
    · rw [(h.next hj2).2.2]
      exact done_next ⟨(h.fineE j).pl, (h.fineE j).so⟩ (h.okX (List.getElem_mem hj2)) (h.plan j hj2) (ih (by omega)) a ha
theorem Run.noE {D0 : DataW Unit} {l : List De} (h : Run D0 l) (j : Nat) : NoJ (En D0 l j) := fun y hy => by
  cases e : jB y.1
  · rfl
  · exfalso
    have hP := (h.fineE j).pl
    have hk := kindP_in hP hy
    have h1 := (tch_run (l.take j) ⟨D0, [], -1⟩).kind y.1 fun ⟨d, hd, q⟩ => plan_out h.plan e ⟨d, List.mem_of_mem_take hd, q⟩
    have h2 : kindD D0 y.1 = 0 := kindP_out h.fine.pl (root_not (hP.ok hy)) fun z hz q => by
      have := h.noj z hz
      rw [q, e] at this
      cases this
    have h3 : kindD (En D0 l j) y.1 = 0 := h1.trans h2
    rw [h3] at hk
    split at hk <;> cases hk
theorem done_ov {J : List Fl} {D X : DataW Unit} (h : Ov J D X) (hD : Plain D) (hJ : JOk J) {d : De} (hp : jB d.pa = false) (hd : Done D d) : Done X d := by
  obtain ⟨d1, d2, d3, d4⟩ := hd
  have hk := kind_ov h hD hJ hp
  exact ⟨fun e => by rw [hk]; exact d1 e, fun e => by rw [hk]; exact d2 e, fun e => by rw [hk]; exact d3 e, fun e => (h.mem _).2 (Or.inl (d4 e))⟩
/-- Deeds done once more, from the beginning, with the power as it is. -/
theorem redo {D0 : DataW Unit} {l : List De} (h : Run D0 l) {t : ByteArray} {x : Ab} (hf : Fine x) {g : Nat} (hg : g ≤ l.length) (ho : Ov [jd, fP t] (En D0 l g) x.D) : ∀ j, j ≤ l.length → ((runA (l.take j) x).1 = 0 ∧ Ov [jd, fP t] (En D0 l (max g j)) (runA (l.take j) x).2.D) ∨ ((runA (l.take j) x).1 = 15 ∧ x.left ≠ -1 ∧ ∃ g', g' ≤ l.length ∧ Ov [jd, fP t] (En D0 l g') (runA (l.take j) x).2.D) := by
  have hJ := jok _ (isP t)
  intro j
  induction j with
  | zero => intro _; exact Or.inl ⟨rfl, by rw [Nat.max_eq_left (Nat.zero_le _)]; exact ho⟩
  | succ j ih =>
    intro hj
    have hj2 : j < l.length := by omega
    rcases ih (by omega) with ⟨h0, hov⟩ | ⟨h15, hl, g', hg', hov⟩
    · have hn := runA_next (x := x) hj2 h0
      have hfy := (run_fine (l.take j) hf).1
      have hup := (tch_run (l.take j) x).up
      rw [hn]
      generalize (runA (l.take j) x).2 = y at *
      have hjb := h.out (List.getElem_mem hj2)
      have hx := h.okX (List.getElem_mem hj2)
      by_cases hlt : j < g
      · rw [Nat.max_eq_left (by omega)] at hov
        have hm : l[j] ∈ l.take g := List.mem_take_iff_getElem.2 ⟨j, by omega, rfl⟩
        have hd := (h.done g hg l[j] hm).2
        rw [do_done hov.pl hx (done_ov hov (h.fineE g).pl hJ hjb hd)]
        exact Or.inl ⟨rfl, by rw [Nat.max_eq_left (by omega)]; exact hov⟩
      · rw [Nat.max_eq_right (by omega)] at hov
        rw [Nat.max_eq_right (by omega)]
        obtain ⟨n1, n2, _⟩ := h.next hj2
        obtain ⟨m1, m2⟩ := do_ov (rs := []) hov (h.fineE j).pl hJ hx.path hjb
        rw [n1] at m1
        rw [n2] at m2
        have hf2 : Fine ⟨y.D, [], -1⟩ := ⟨hfy.pl, hfy.so, by simp, by simp⟩
        have hfd := (do_fine hf2 l[j]).1
        have hov2 : Ov [jd, fP t] (En D0 l (j + 1)) (doA ⟨y.D, [], -1⟩ l[j]).2.D := ⟨hfd.pl, hfd.so, m2⟩
        by_cases hl0 : y.left = 0
        · rcases do_down hl0 l[j] with ⟨q1, q2⟩ | q
          · rw [q2] at hov2
            rw [q1]
            exact Or.inl ⟨rfl, hov2⟩
          · rw [q]
            exact Or.inr ⟨rfl, (fun e => by rw [hup e] at hl0; cases hl0), j, by omega, hov⟩
        · obtain ⟨s1, s2⟩ := do_left hl0 l[j]
          exact Or.inl ⟨s1.trans m1, by rw [s2]; exact hov2⟩
    · have e : runA (l.take (j + 1)) x = runA (l.take j) x := by
        rw [List.take_succ_eq_append_getElem hj2, runA_snoc, if_pos (by rw [h15]; decide)]
      rw [e]
      exact Or.inr ⟨h15, hl, g', hg', hov⟩
theorem rem_J {x : Ab} {s : ByteArray} (hok : okPath s = true) (hk : kindD x.D s ≠ 0) (hu : kindD x.D s = 2 → usedD x.D s = false) : (x.left = 0 ∧ removeD x s = (15, x)) ∨ (x.left ≠ 0 ∧ (removeD x s).1 = 0 ∧ (removeD x s).2.D = x.D.del (keyD s)) := by
  by_cases hl : x.left = 0
  · exact Or.inl ⟨hl, rem_down hl s⟩
  · right
    have hw : writeD x.left [s] = 0 := by
      rw [wr_left hl]
      unfold writeD
      simp [hok]
    have h3 : (kindD x.D s == 2 && usedD x.D s) = false := by
      by_cases q : kindD x.D s = 2
      · rw [hu q, Bool.and_false]
      · rw [beq_eq_false_iff_ne.2 q, Bool.false_and]
    refine ⟨hl, ?_, ?_⟩
    · unfold removeD
      rw [hw, if_neg (by decide), beq_eq_false_iff_ne.2 hk, if_neg (by decide), h3]
      rfl
    · unfold removeD
      rw [hw, if_neg (by decide), beq_eq_false_iff_ne.2 hk, if_neg (by decide), h3]
      rfl
theorem ov_del {J J2 : List Fl} {D X : DataW Unit} (h : Ov J D X) (hn : NoJ D) {s : ByteArray} (hs : jB s = true) (hJ : ∀ y, y ∈ J2 ↔ y ∈ J ∧ y.1 ≠ s) (hP : Plain (X.del (keyD s))) (hS : Sound (X.del (keyD s))) : Ov J2 D (X.del (keyD s)) := by
  refine ⟨hP, hS, fun y => ?_⟩
  rw [memP_del h.pl, h.mem, hJ]
  constructor
  · rintro ⟨q | q, n⟩
    · exact Or.inl q
    · exact Or.inr ⟨q, n⟩
  · rintro (q | ⟨q, n⟩)
    · exact ⟨Or.inl q, fun e => by have := hn y q; rw [e, hs] at this; cases this⟩
    · exact ⟨Or.inr q, n⟩
/-- The journal's directory goes. -/
theorem rem_dir {D : DataW Unit} {x : Ab} (hf : Fine x) (hD : Plain D) (hn : NoJ D) (h : Ov [jd] D x.D) : (x.left = 0 ∧ removeD x jn = (15, x)) ∨ (x.left ≠ 0 ∧ (removeD x jn).1 = 0 ∧ (removeD x jn).2.D = D) := by
  have hk : kindD x.D jn = 2 := kind_J h (List.mem_singleton.2 rfl : jd ∈ [jd])
  have hu : usedD x.D jn = false := by
    cases e : usedD x.D jn
    · rfl
    · exfalso
      obtain ⟨y, hy, q⟩ := (used_iff hf.pl.strKeys jn).1 e
      obtain ⟨f, hf2, rfl⟩ := (has_mem hf.pl y).1 hy
      rcases (h.mem f).1 hf2 with r | r
      · exact noJ_par hD hn r q
      · rw [List.mem_singleton.1 r] at q
        exact jn_parn q
  rcases rem_J jn_ok (by rw [hk]; decide) (fun _ => hu) with q | ⟨q1, q2, q3⟩
  · exact Or.inl q
  · right
    have hfr := (rem_fine hf jn).1
    have hov : Ov [] D (x.D.del (keyD jn)) := ov_del h hn jB_jn (fun y => ⟨(fun q => by cases q), fun q => absurd (by rw [List.mem_singleton.1 q.1]; rfl) q.2⟩) (q3 ▸ hfr.pl) (q3 ▸ hfr.so)
    refine ⟨q1, q2, q3.trans (plain_eq hov.pl hD fun y => ?_)⟩
    rw [hov.mem]
    exact ⟨fun q => q.elim id (fun q => by cases q), Or.inl⟩
/-- What a call comes to: done, or the power has gone. -/
def Out (x : Ab) (F : DataW Unit) (P : DataW Unit → Prop) (a : Int × Ab) : Prop := (a.1 = 0 ∧ a.2.D = F) ∨ (a.1 = 15 ∧ x.left ≠ -1 ∧ P a.2.D)
theorem gone_dir {D : DataW Unit} {x : Ab} (hf : Fine x) (hD : Plain D) (hn : NoJ D) (h : Ov [jd] D x.D) : Out x D (fun X => Ov [jd] D X) (goneA x) := by
  have hk : kindD x.D pN = 0 := kind_noJ h hn jB_pN (root_not pN_ok) fun y hy => by rw [List.mem_singleton.1 hy]; exact jn_pN
  have e : goneA x = removeD x jn := by
    unfold goneA
    rw [hk]
    rfl
  rw [e]
  rcases rem_dir hf hD hn h with ⟨q1, q2⟩ | ⟨_, q2, q3⟩
  · rw [q2]; exact Or.inr ⟨rfl, (fun e => by rw [e] at q1; cases q1), h⟩
  · exact Or.inl ⟨q2, q3⟩
theorem gone_new {D : DataW Unit} {x : Ab} {t : ByteArray} (hf : Fine x) (hD : Plain D) (hn : NoJ D) (h : Ov [jd, fN t] D x.D) : Out x D (fun X => Ov [jd] D X ∨ Ov [jd, fN t] D X) (goneA x) := by
  have hk : kindD x.D pN = 1 := kind_J h (List.mem_cons_of_mem _ (List.mem_singleton.2 rfl) : fN t ∈ [jd, fN t])
  have e : goneA x = if ((removeD x pN).1 != 0) = true then removeD x pN else removeD (removeD x pN).2 jn := by
    unfold goneA
    rw [hk]
    rfl
  rw [e]
  rcases rem_J pN_ok (by rw [hk]; decide) (fun q => by rw [hk] at q; cases q) with ⟨q1, q2⟩ | ⟨_, q2, q3⟩
  · rw [q2, if_pos (show ((15 : Int) != 0) = true by decide)]
    exact Or.inr ⟨rfl, (fun e => by rw [e] at q1; cases q1), Or.inr h⟩
  · rw [q2, if_neg (by decide)]
    have hfr := (rem_fine hf pN).1
    have hov : Ov [jd] D (removeD x pN).2.D := by
      rw [q3]
      refine ov_del h hn jB_pN (fun y => ?_) (q3 ▸ hfr.pl) (q3 ▸ hfr.so)
      constructor
      · intro q
        rw [List.mem_singleton.1 q]
        exact ⟨List.mem_cons_self, jn_pN⟩
      · rintro ⟨q, n⟩
        rcases List.mem_cons.1 q with q | q
        · exact List.mem_singleton.2 q
        · exact absurd (by rw [List.mem_singleton.1 q]; rfl) n
    rcases rem_dir hfr hD hn hov with ⟨r1, r2⟩ | ⟨_, r2, r3⟩
    · rw [r2]
      exact Or.inr ⟨rfl, (fun e => by rw [(tch_rem x pN).up e] at r1; cases r1), Or.inl hov⟩
    · exact Or.inl ⟨r2, r3⟩
/-- The phases. -/
def PhO (D0 : DataW Unit) (t : ByteArray) (X : DataW Unit) : Prop := Ov [] D0 X ∨ Ov [jd] D0 X ∨ Ov [jd, fN t] D0 X
def PhN (D0 : DataW Unit) (l : List De) (t : ByteArray) (X : DataW Unit) : Prop := (∃ g, g ≤ l.length ∧ Ov [jd, fP t] (En D0 l g) X) ∨ Ov [jd] (En D0 l l.length) X ∨ Ov [] (En D0 l l.length) X
theorem end_ph {D0 : DataW Unit} {l : List De} (h : Run D0 l) {t : ByteArray} {x : Ab} (hf : Fine x) {g : Nat} (hg : g ≤ l.length) (ho : Ov [jd, fP t] (En D0 l g) x.D) : Out x (En D0 l l.length) (PhN D0 l t) (endA l x) := by
  unfold endA
  have hr := redo h hf hg ho l.length (Nat.le_refl _)
  rw [List.take_length] at hr
  rcases hr with ⟨h0, hov⟩ | ⟨h15, hl, g', hg', hov⟩
  · rw [Nat.max_eq_right hg] at hov
    rw [h0, if_neg (by decide)]
    have hfy := (run_fine l hf).1
    have hup := (tch_run l x).up
    generalize (runA l x).2 = y at *
    have hk : kindD y.D pP = 1 := kind_J hov (List.mem_cons_of_mem _ (List.mem_singleton.2 rfl) : fP t ∈ [jd, fP t])
    rcases rem_J pP_ok (by rw [hk]; decide) (fun q => by rw [hk] at q; cases q) with ⟨q1, q2⟩ | ⟨_, q2, q3⟩
    · rw [q2, if_pos (show ((15 : Int) != 0) = true by decide)]
      exact Or.inr ⟨rfl, (fun e => by rw [hup e] at q1; cases q1), Or.inl ⟨l.length, Nat.le_refl _, hov⟩⟩
    · rw [q2, if_neg (by decide)]
      have hfr := (rem_fine hfy pP).1
      have hov2 : Ov [jd] (En D0 l l.length) (removeD y pP).2.D := by
        rw [q3]
        refine ov_del hov (h.noE _) jB_pP (fun z => ?_) (q3 ▸ hfr.pl) (q3 ▸ hfr.so)
        constructor
        · intro q
          rw [List.mem_singleton.1 q]
          exact ⟨List.mem_cons_self, jn_pP⟩
        · rintro ⟨q, n⟩
          rcases List.mem_cons.1 q with q | q
          · exact List.mem_singleton.2 q
          · exact absurd (by rw [List.mem_singleton.1 q]; rfl) n
      rcases gone_dir hfr (h.fineE _).pl (h.noE _) hov2 with r | ⟨r1, r2, r3⟩
      · exact Or.inl r
      · exact Or.inr ⟨r1, fun e => r2 ((tch_rem y pP).up (hup e)), Or.inr (Or.inl r3)⟩
  · rw [h15, if_pos (by decide)]
    exact Or.inr ⟨h15, hl, Or.inl ⟨g', hg', hov⟩⟩
theorem ov_eq {D X : DataW Unit} (hD : Plain D) (h : Ov [] D X) : X = D := plain_eq h.pl hD fun y => by
  rw [h.mem]
  exact ⟨fun q => q.elim id (fun q => by cases q), Or.inl⟩
theorem rec_stay2 {x : Ab} (h0 : x.left ≠ 0) (hj : kindD x.D jn = 0) : recA x = (0, x) := by
  unfold recA
  rw [if_neg (by rw [beq_iff_eq]; exact h0), hj, if_pos (show ((0 : Int) == 0) = true from rfl)]
theorem rec_none {D : DataW Unit} {x : Ab} (hD : Plain D) (hn : NoJ D) (h : Ov [] D x.D) : Out x D (fun X => Ov [] D X) (recA x) := by
  have hk : kindD x.D jn = 0 := kind_noJ h hn jB_jn (root_not jn_ok) fun y hy => by cases hy
  by_cases hl : x.left = 0
  · have e : recA x = (15, x) := by unfold recA; rw [if_pos (beq_iff_eq.2 hl)]
    rw [e]
    exact Or.inr ⟨rfl, (fun e => by rw [e] at hl; cases hl), h⟩
  · rw [rec_stay2 hl hk]
    exact Or.inl ⟨rfl, ov_eq hD h⟩
theorem rec_dir {J : List Fl} {D : DataW Unit} {x : Ab} (hD : Plain D) (hn : NoJ D) (hJ : ∀ y ∈ J, y = jd ∨ (∃ t, y = fN t) ∨ ∃ t, y = fP t) (hjd : jd ∈ J) (h : Ov J D x.D) (hl : x.left ≠ 0) : recA x = if (kindD x.D pP == 0) = true then goneA x else if ((parO (readT x.D pP)).1 != 0) = true then (44, x) else endA (parO (readT x.D pP)).2 x := by
  have hk : kindD x.D jn = 2 := kind_J h hjd
  unfold recA
  rw [if_neg (by rw [beq_iff_eq]; exact hl), hk, if_neg (by decide), if_neg (by decide), list_ov h hD hn hJ, if_neg (by decide)]
/-- A Recover with the old files there. -/
theorem rec_old {D0 : DataW Unit} {t : ByteArray} {x : Ab} (hf : Fine x) (hD : Plain D0) (hn : NoJ D0) (h : PhO D0 t x.D) : Out x D0 (PhO D0 t) (recA x) := by
  by_cases hl : x.left = 0
  · have e : recA x = (15, x) := by unfold recA; rw [if_pos (beq_iff_eq.2 hl)]
    rw [e]
    exact Or.inr ⟨rfl, (fun e => by rw [e] at hl; cases hl), h⟩
  · rcases h with h | h | h
    · exact (rec_none hD hn h).imp id fun q => ⟨q.1, q.2.1, Or.inl q.2.2⟩
    · have hk : kindD x.D pP = 0 := kind_noJ h hn jB_pP (root_not pP_ok) fun y hy => by rw [List.mem_singleton.1 hy]; exact jn_pP
      rw [rec_dir hD hn is1 (List.mem_singleton.2 rfl) h hl, hk, if_pos (by decide)]
      exact (gone_dir hf hD hn h).imp id fun q => ⟨q.1, q.2.1, Or.inr (Or.inl q.2.2)⟩
    · have hk : kindD x.D pP = 0 := kind_noJ h hn jB_pP (root_not pP_ok) fun y hy => by
        rcases List.mem_cons.1 hy with q | q
        · rw [q]; exact jn_pP
        · rw [List.mem_singleton.1 q]; exact pN_pP
      rw [rec_dir hD hn (isN t) List.mem_cons_self h hl, hk, if_pos (by decide)]
      exact (gone_new hf hD hn h).imp id fun q => ⟨q.1, q.2.1, Or.inr q.2.2⟩
/-- A Recover with the plan there. -/
theorem rec_new {D0 : DataW Unit} {l : List De} (hR : Run D0 l) {x : Ab} (hf : Fine x) (h : PhN D0 l (textD l) x.D) : Out x (En D0 l l.length) (PhN D0 l (textD l)) (recA x) := by
  by_cases hl : x.left = 0
  · have e : recA x = (15, x) := by unfold recA; rw [if_pos (beq_iff_eq.2 hl)]
    rw [e]
    exact Or.inr ⟨rfl, (fun e => by rw [e] at hl; cases hl), h⟩
  · rcases h with ⟨g, hg, h⟩ | h | h
    · have hm : fP (textD l) ∈ [jd, fP (textD l)] := List.mem_cons_of_mem _ (List.mem_singleton.2 rfl)
      have hk : kindD x.D pP = 1 := kind_J h hm
      have hr : readT x.D pP = textD l := read_file h.pl pP_ok ((h.mem _).2 (Or.inr hm))
      rw [rec_dir (hR.fineE g).pl (hR.noE g) (isP _) List.mem_cons_self h hl, hk, if_neg (by decide), hr, parO_text hR.plan, if_neg (show ¬ ((0 : Int) != 0) = true by decide)]
      exact end_ph hR hf hg h
    · have hk : kindD x.D pP = 0 := kind_noJ h (hR.noE _) jB_pP (root_not pP_ok) fun y hy => by rw [List.mem_singleton.1 hy]; exact jn_pP
      rw [rec_dir (hR.fineE _).pl (hR.noE _) is1 (List.mem_singleton.2 rfl) h hl, hk, if_pos (by decide)]
      exact (gone_dir hf (hR.fineE _).pl (hR.noE _) h).imp id fun q => ⟨q.1, q.2.1, Or.inr (Or.inl q.2.2)⟩
    · exact (rec_none (hR.fineE _).pl (hR.noE _) h).imp id fun q => ⟨q.1, q.2.1, Or.inr (Or.inr q.2.2)⟩
end Go.Proofs.YtpaoimhebheaeaaGreatDoor
namespace Go.Proofs.YtpaoimhebheaeaaGreatDoor
open Go.RowKit Go.Maps Dk
set_option maxRecDepth 100000

/-- A set of files that hangs together. -/
structure Hang (L : List Fl) : Prop where
  rise : Rising L
  ok : ∀ y ∈ L, okPath y.1 = true
  dirs : ∀ y ∈ L, y.2.1 = true → y.2.2 = ByteArray.empty
  above : ∀ y ∈ L, ((parentOf y.1).toList == [47]) = true ∨ ∃ z ∈ L, z.1 = parentOf y.1 ∧ z.2.1 = true
theorem Hang.apart {L : List Fl} (h : Hang L) : Apart L := rising_apart h.rise

theorem kind_in {D : DataW Unit} (hP : Plain D) {y : Fl} (hy : y ∈ filesD D) : kindD D y.1 = kdF y := by
  have hG := hP.good
  obtain ⟨h1, h2⟩ := (hG.mem y).1 hy
  obtain ⟨s, e, hok⟩ := hG.keys _ h1
  rw [← keyD_inj e] at hok
  unfold kindD kdF
  rw [if_neg (by rw [not_root hok]; decide), if_pos h1, h2, itDir_mk]
theorem kind_out {D : DataW Unit} (hP : Plain D) {s : ByteArray} (hr : (s.toList == [47]) = false) (hn : ∀ y ∈ filesD D, y.1 ≠ s) : kindD D s = 0 := by
  refine kind_none hr ?_
  rw [Bool.eq_false_iff]
  intro h
  obtain ⟨c, t, hct⟩ := hP.good.item s h
  exact hn (s, c, t) ((hP.good.mem _).2 ⟨h, hct⟩) rfl
theorem mem_put {D : DataW Unit} (hP : Plain D) {s : ByteArray} (c : Bool) (t : ByteArray) (hok : okPath s = true) (y : Fl) : y ∈ filesD (D.put (keyD s) (itemD c t)) ↔ y = (s, c, t) ∨ (y ∈ filesD D ∧ y.1 ≠ s) := by
  rw [← put_files hP.good hP.isMap (hP.put c t hok).good, putD_ins, mem_ins]
theorem mem_del {D : DataW Unit} (hP : Plain D) (s : ByteArray) (y : Fl) : y ∈ filesD (D.del (keyD s)) ↔ y ∈ filesD D ∧ y.1 ≠ s := by
  have := del_files (f := (s, false, ByteArray.empty)) hP.good (hP.del _).good
  rw [← this, putD_del, mem_filterF]
theorem hang_of {fs : List Fl} (h : OkJ fs) : Hang (filesD (loadD fs)) := by
  have hP := loads_plain h.1
  have o := ordL h.1
  refine ⟨o.rise, fun y hy => okF_path (loads_ok h.1 y ((o.mem y).1 hy)), fun y hy => o.dirs y ((o.mem y).1 hy), fun y hy => ?_⟩
  have hs := load_sound h.1 y.1 ((hP.good.mem y).1 hy).1
  cases hr : ((parentOf y.1).toList == [47]) with
  | true => exact Or.inl rfl
  | false =>
    right
    have hh := kind_two_has hs hr
    obtain ⟨c, t, hct⟩ := hP.good.item _ hh
    have hz : ((parentOf y.1, c, t) : Fl) ∈ filesD (loadD fs) := (hP.good.mem _).2 ⟨hh, hct⟩
    refine ⟨_, hz, rfl, ?_⟩
    have := kind_in hP hz
    rw [show ((parentOf y.1, c, t) : Fl).1 = parentOf y.1 from rfl, hs] at this
    unfold kdF at this
    cases c
    · simp at this
    · rfl

theorem before_take : ∀ (l : List UInt8) (i : Nat), i < l.length → bytesBefore (l.take i) l = true
  | [], i, h => by cases h
  | x :: l, 0, _ => by simp [bytesBefore]
  | x :: l, i + 1, h => by
    rw [List.take_succ_cons]
    unfold bytesBefore
    simp [before_take l i (by simpa using h)]
theorem parent_before {s : ByteArray} (hok : okPath s = true) (hr : ((parentOf s).toList == [47]) = false) : bytesBefore (parentOf s).data.toList s.data.toList = true := by
  obtain ⟨i, hi, hl, _, _⟩ := last_at (okPath_parts hok).2
  have hp : parentOf s = s.extract 0 i := by
    unfold parentOf at hr ⊢
    rw [hl] at hr ⊢
    by_cases h0 : (i : Int) = 0
    · rw [if_pos h0] at hr
      exact absurd hr (by decide +kernel)
    · rw [if_neg h0, Int.toNat_natCast]
  rw [hp, ext_list]
  refine before_take _ _ ?_
  rw [Array.length_toList]
  exact hi

/-- What a deed is. -/
theorem mem_deD {L M : List Fl} {d : De} : d ∈ deD L M ↔ (∃ y ∈ L, wU M y = true ∧ d = dU y) ∨ (∃ y ∈ L, wR M y = true ∧ d = dR y) ∨ (∃ y ∈ M, wM L y = true ∧ d = dM y) ∨ (∃ y ∈ M, wP L y = true ∧ d = dP y) := by
  unfold deD lU lR lM lP
  simp only [List.mem_append, List.mem_map, List.mem_filter, List.mem_reverse]
  constructor
  · rintro (((⟨y, ⟨h1, h2⟩, rfl⟩ | ⟨y, ⟨h1, h2⟩, rfl⟩) | ⟨y, ⟨h1, h2⟩, rfl⟩) | ⟨y, ⟨h1, h2⟩, rfl⟩)
    · exact Or.inl ⟨y, h1, h2, rfl⟩
    · exact Or.inr (Or.inl ⟨y, h1, h2, rfl⟩)
    · exact Or.inr (Or.inr (Or.inl ⟨y, h1, h2, rfl⟩))
    · exact Or.inr (Or.inr (Or.inr ⟨y, h1, h2, rfl⟩))
  · rintro (⟨y, h1, h2, rfl⟩ | ⟨y, h1, h2, rfl⟩ | ⟨y, h1, h2, rfl⟩ | ⟨y, h1, h2, rfl⟩)
    · exact Or.inl (Or.inl (Or.inl ⟨y, ⟨h1, h2⟩, rfl⟩))
    · exact Or.inl (Or.inl (Or.inr ⟨y, ⟨h1, h2⟩, rfl⟩))
    · exact Or.inl (Or.inr ⟨y, ⟨h1, h2⟩, rfl⟩)
    · exact Or.inr ⟨y, ⟨h1, h2⟩, rfl⟩
theorem wU_iff {M : List Fl} (hM : Apart M) {y : Fl} : wU M y = true ↔ y.2.1 = false ∧ ∀ z ∈ M, z.1 = y.1 → z.2.1 = true := by
  unfold wU
  rw [Bool.and_eq_true, Bool.not_eq_true', Bool.not_eq_true']
  refine and_congr_right fun _ => ?_
  rcases atL_cases hM y.1 with ⟨z, hz, e1, e2⟩ | ⟨hn, e2⟩
  · rw [e2]
    unfold toldF
    constructor
    · intro h z' hz' e'
      obtain rfl := uniq_key hM hz hz' (e1.trans e'.symm)
      cases hc : z.2.1 with
      | true => rfl
      | false => rw [hc] at h; simp at h
    · intro h; rw [h z hz e1]; rfl
  · rw [e2]
    exact ⟨fun _ z hz e => absurd e (hn z hz), fun _ => rfl⟩
theorem wR_iff {M : List Fl} (hM : Apart M) {y : Fl} : wR M y = true ↔ y.2.1 = true ∧ ∀ z ∈ M, z.1 = y.1 → z.2.1 = false := by
  unfold wR
  rw [Bool.and_eq_true, Bool.not_eq_true']
  refine and_congr_right fun _ => ?_
  rcases atL_cases hM y.1 with ⟨z, hz, e1, e2⟩ | ⟨hn, e2⟩
  · rw [e2]
    unfold toldF
    constructor
    · intro h z' hz' e'
      obtain rfl := uniq_key hM hz hz' (e1.trans e'.symm)
      cases hc : z.2.1 with
      | false => rfl
      | true => rw [hc] at h; simp at h
    · intro h; rw [h z hz e1]; rfl
  · rw [e2]
    exact ⟨fun _ z hz e => absurd e (hn z hz), fun _ => rfl⟩
theorem wP_iff {L : List Fl} (hL : Apart L) {y : Fl} : wP L y = true ↔ y.2.1 = false ∧ ∀ z ∈ L, z.1 = y.1 → z.2.1 = true ∨ z.2.2 ≠ y.2.2 := by
  unfold wP
  rw [Bool.and_eq_true, Bool.not_eq_true']
  refine and_congr_right fun _ => ?_
  rcases atL_cases hL y.1 with ⟨z, hz, e1, e2⟩ | ⟨hn, e2⟩
  · rw [e2]
    unfold toldF
    constructor
    · intro h z' hz' e'
      obtain rfl := uniq_key hL hz hz' (e1.trans e'.symm)
      cases hc : z.2.1 with
      | true => exact Or.inl rfl
      | false =>
        right
        intro e
        rw [hc, e] at h
        simp at h
    · intro h
      rcases h z hz e1 with q | q
      · rw [q]; rfl
      · cases hc : z.2.1 with
        | true => rfl
        | false =>
          have : (z.2.2.toList == y.2.2.toList) = false := Bool.eq_false_iff.2 fun e => q (beq_bytes.1 e)
          simp [this]
  · rw [e2]
    exact ⟨fun _ z hz e => absurd e (hn z hz), fun _ => rfl⟩

/-- The order of all deeds. -/
def ordD (a b : De) : Prop := a.kd < b.kd ∨ (a.kd = b.kd ∧ (a.kd ≤ 2 → bytesBefore b.pa.data.toList a.pa.data.toList = true) ∧ (3 ≤ a.kd → bytesBefore a.pa.data.toList b.pa.data.toList = true))
theorem ord_deD {L M : List Fl} (hL : Rising L) (hM : Rising M) : (deD L M).Pairwise ordD := by
  have h1 : (lU M L.reverse).Pairwise ordD := by
    refine (pair_fall hL (k := 1) (f := dU) (w := wU M) (fun _ => rfl) (fun _ => rfl)).imp_of_mem fun {a b} ha hb h => ?_
    obtain ⟨x, _, rfl⟩ := List.mem_map.1 ha
    obtain ⟨y, _, rfl⟩ := List.mem_map.1 hb
    rcases h with h | ⟨e, h⟩
    · exact Or.inl h
    · exact Or.inr ⟨e, fun _ => by simpa using h, fun q => absurd q (by show ¬ (3 : Int) ≤ 1; omega)⟩
  have h2 : (lR M L.reverse).Pairwise ordD := by
    refine (pair_fall hL (k := 2) (f := dR) (w := wR M) (fun _ => rfl) (fun _ => rfl)).imp_of_mem fun {a b} ha hb h => ?_
    obtain ⟨x, _, rfl⟩ := List.mem_map.1 ha
    obtain ⟨y, _, rfl⟩ := List.mem_map.1 hb
    rcases h with h | ⟨e, h⟩
    · exact Or.inl h
    · exact Or.inr ⟨e, fun _ => by simpa using h, fun q => absurd q (by show ¬ (3 : Int) ≤ 2; omega)⟩
  have h3 : (lM L M).Pairwise ordD := by
    refine (pair_rise hM (k := 3) (f := dM) (w := wM L) (fun _ => rfl) (fun _ => rfl)).imp_of_mem fun {a b} ha hb h => ?_
    obtain ⟨x, _, rfl⟩ := List.mem_map.1 ha
    obtain ⟨y, _, rfl⟩ := List.mem_map.1 hb
    rcases h with h | ⟨e, h⟩
    · exact Or.inl h
    · exact Or.inr ⟨e, fun q => absurd q (by show ¬ (3 : Int) ≤ 2; omega), fun _ => by simpa using h⟩
  have h4 : (lP L M).Pairwise ordD := by
    refine (pair_rise hM (k := 4) (f := dP) (w := wP L) (fun _ => rfl) (fun _ => rfl)).imp_of_mem fun {a b} ha hb h => ?_
    obtain ⟨x, _, rfl⟩ := List.mem_map.1 ha
    obtain ⟨y, _, rfl⟩ := List.mem_map.1 hb
    rcases h with h | ⟨e, h⟩
    · exact Or.inl h
    · exact Or.inr ⟨e, fun q => absurd q (by show ¬ (4 : Int) ≤ 2; omega), fun _ => by simpa using h⟩
  have k1 : ∀ a ∈ lU M L.reverse, a.kd = 1 := fun a ha => by obtain ⟨x, _, rfl⟩ := List.mem_map.1 ha; rfl
  have k2 : ∀ a ∈ lR M L.reverse, a.kd = 2 := fun a ha => by obtain ⟨x, _, rfl⟩ := List.mem_map.1 ha; rfl
  have k3 : ∀ a ∈ lM L M, a.kd = 3 := fun a ha => by obtain ⟨x, _, rfl⟩ := List.mem_map.1 ha; rfl
  have k4 : ∀ a ∈ lP L M, a.kd = 4 := fun a ha => by obtain ⟨x, _, rfl⟩ := List.mem_map.1 ha; rfl
  unfold deD
  rw [List.pairwise_append, List.pairwise_append, List.pairwise_append]
  refine ⟨⟨⟨h1, h2, fun a ha b hb => Or.inl (by rw [k1 a ha, k2 b hb]; decide)⟩, h3, fun a ha b hb => Or.inl ?_⟩, h4, fun a ha b hb => Or.inl ?_⟩
  · rw [k3 b hb]
    rcases List.mem_append.1 ha with q | q
    · rw [k1 a q]; decide
    · rw [k2 a q]; decide
  · rw [k4 b hb]
    rcases List.mem_append.1 ha with q | q
    · rcases List.mem_append.1 q with q | q
      · rw [k1 a q]; decide
      · rw [k2 a q]; decide
    · rw [k3 a q]; decide

/-- What is there when some deeds are done. -/
def StD (L : List Fl) (pre : List De) (y : Fl) : Prop := (y ∈ L ∧ ∀ d ∈ pre, d.kd ≠ 3 → d.pa ≠ y.1) ∨ (∃ d ∈ pre, d.kd = 3 ∧ y = (d.pa, true, ByteArray.empty)) ∨ (∃ d ∈ pre, d.kd = 4 ∧ y = (d.pa, false, d.da))
/-- A deed done on a disk. -/
def doesD (x : Ab) (d : De) : Int × Ab := if d.kd ≤ 2 then removeD x d.pa else if d.kd = 3 then mkdirD x d.pa else writeFD x d.pa d.da

theorem kinds1 {L M : List Fl} {d : De} (h : d ∈ deD L M) : d.kd = 1 ∨ d.kd = 2 ∨ d.kd = 3 ∨ d.kd = 4 := by
  rcases mem_deD.1 h with ⟨y, _, _, rfl⟩ | ⟨y, _, _, rfl⟩ | ⟨y, _, _, rfl⟩ | ⟨y, _, _, rfl⟩
  · exact Or.inl rfl
  · exact Or.inr (Or.inl rfl)
  · exact Or.inr (Or.inr (Or.inl rfl))
  · exact Or.inr (Or.inr (Or.inr rfl))
/-- What is taken away is there no more. -/
theorem st_remove {L : List Fl} {pre : List De} {d : De} {y : Fl} {s : ByteArray} (hk : ∀ a ∈ pre, a.kd ≤ d.kd) (hs : d.pa = s) (h2 : d.kd ≤ 2) : (StD L pre y ∧ y.1 ≠ s) ↔ StD L (pre ++ [d]) y := by
  constructor
  · rintro ⟨⟨h1, h3⟩ | ⟨a, ha, q, _⟩ | ⟨a, ha, q, _⟩, hne⟩
    · refine Or.inl ⟨h1, fun a ha h4 => ?_⟩
      rcases List.mem_append.1 ha with q | q
      · exact h3 a q h4
      · rw [List.mem_singleton.1 q, hs]
        exact fun e => hne e.symm
    · have := hk a ha; omega
    · have := hk a ha; omega
  · rintro (⟨h1, h3⟩ | ⟨a, ha, q, _⟩ | ⟨a, ha, q, _⟩)
    · exact ⟨Or.inl ⟨h1, fun a ha => h3 a (List.mem_append_left _ ha)⟩, fun e => h3 d (by simp) (by omega) (by rw [hs, e])⟩
    · rcases List.mem_append.1 ha with r | r
      · have := hk a r; omega
      · rw [List.mem_singleton.1 r] at q; omega
    · rcases List.mem_append.1 ha with r | r
      · have := hk a r; omega
      · rw [List.mem_singleton.1 r] at q; omega

theorem bb_irr {s t : ByteArray} (h : bytesBefore s.data.toList t.data.toList = true) : s ≠ t := fun e => by rw [e, WideAt.bytes_irrefl] at h; cases h
theorem writeD_zero {s : ByteArray} (h : okPath s = true) : (writeD (-1) [s] != 0) = false := by unfold writeD; simp [h]

theorem st_ord {L M : List Fl} (hL : Hang L) (hM : Hang M) {pre rest : List De} {d : De} (hd : pre ++ d :: rest = deD L M) : (∀ a ∈ pre, ordD a d) ∧ ∀ b ∈ rest, ordD d b := by
  have h := ord_deD hL.rise hM.rise
  rw [← hd, List.pairwise_append, List.pairwise_cons] at h
  exact ⟨fun a ha => h.2.2 a ha d List.mem_cons_self, h.2.1.1⟩
theorem st_in {L M : List Fl} {pre rest : List De} {d : De} (hd : pre ++ d :: rest = deD L M) : d ∈ deD L M := by rw [← hd]; exact List.mem_append_right _ List.mem_cons_self
theorem st_pre {L M : List Fl} {pre rest : List De} {d : De} (hd : pre ++ d :: rest = deD L M) {a : De} (ha : a ∈ pre) : a ∈ deD L M := by rw [← hd]; exact List.mem_append_left _ ha
/-- What comes ahead was done. -/
theorem st_done {L M : List Fl} (hL : Hang L) (hM : Hang M) {pre rest : List De} {d : De} (hd : pre ++ d :: rest = deD L M) {a : De} (ha : a ∈ deD L M) (h : a.kd < d.kd ∨ (a.kd = d.kd ∧ ((a.kd ≤ 2 ∧ bytesBefore d.pa.data.toList a.pa.data.toList = true) ∨ (3 ≤ a.kd ∧ bytesBefore a.pa.data.toList d.pa.data.toList = true)))) : a ∈ pre := by
  rw [← hd] at ha
  rcases List.mem_append.1 ha with q | q
  · exact q
  · exfalso
    rcases List.mem_cons.1 q with rfl | q
    · rcases h with h | ⟨_, ⟨_, h⟩ | ⟨_, h⟩⟩
      · omega
      · rw [WideAt.bytes_irrefl] at h; cases h
      · rw [WideAt.bytes_irrefl] at h; cases h
    · rcases (st_ord hL hM hd).2 a q with o | ⟨o1, o2, o3⟩
      · rcases h with h | ⟨h, _⟩ <;> omega
      · rcases h with h | ⟨h, ⟨h1, h2⟩ | ⟨h1, h2⟩⟩
        · omega
        · have := o2 (by omega)
          rw [Dk.before_asymm h2] at this; cases this
        · have := o3 (by omega)
          rw [Dk.before_asymm h2] at this; cases this
theorem st_kd {L M : List Fl} (hL : Hang L) (hM : Hang M) {pre rest : List De} {d : De} (hd : pre ++ d :: rest = deD L M) {a : De} (ha : a ∈ pre) : a.kd ≤ d.kd := by
  rcases (st_ord hL hM hd).1 a ha with o | ⟨o, _⟩ <;> omega
theorem st_ne {L M : List Fl} (hL : Hang L) (hM : Hang M) {pre rest : List De} {d : De} (hd : pre ++ d :: rest = deD L M) {a : De} (ha : a ∈ pre) (hk : a.kd = d.kd) : a.pa ≠ d.pa := by
  rcases (st_ord hL hM hd).1 a ha with o | ⟨o1, o2, o3⟩
  · omega
  · by_cases q : a.kd ≤ 2
    · exact fun e => bb_irr (o2 q) e.symm
    · exact bb_irr (o3 (by omega))

/-- The directory around what comes is there. -/
theorem st_parent {L M : List Fl} (hL : Hang L) (hM : Hang M) {pre rest : List De} {d : De} (hd : pre ++ d :: rest = deD L M) {y : Fl} (hy : y ∈ M) (hdy : d.pa = y.1) (hk : d.kd = 3 ∨ d.kd = 4) : ((parentOf y.1).toList == [47]) = true ∨ StD L pre (parentOf y.1, true, ByteArray.empty) := by
  rcases hM.above y hy with h | ⟨z, hz, e1, e2⟩
  · exact Or.inl h
  · cases hr : ((parentOf y.1).toList == [47]) with
    | true => exact Or.inl rfl
    | false =>
      right
      have hzE : z = (parentOf y.1, true, ByteArray.empty) := by
        obtain ⟨a, b, c⟩ := z
        have := hM.dirs _ hz e2
        simp only at e1 e2 this
        rw [e1, e2, this]
      by_cases hzL : ∃ z' ∈ L, z'.1 = z.1 ∧ z'.2.1 = true
      · obtain ⟨z', hz', e3, e4⟩ := hzL
        have hzz : z' = z := by
          obtain ⟨a, b, c⟩ := z'
          obtain ⟨a', b', c'⟩ := z
          have q1 := hL.dirs _ hz' e4
          have q2 := hM.dirs _ hz e2
          simp only at e2 e3 e4 q1 q2
          rw [e3, e4, e2, q1, q2]
        subst hzz
        left
        rw [← hzE]
        refine ⟨hz', fun a ha h3 e => ?_⟩
        rcases mem_deD.1 (st_pre hd ha) with ⟨u, hu, hw, rfl⟩ | ⟨u, hu, hw, rfl⟩ | ⟨u, hu, hw, rfl⟩ | ⟨u, hu, hw, rfl⟩
        · have : u = z' := uniq_key hL.apart hu hz' e
          subst this
          rw [((wU_iff hM.apart).1 hw).1] at e2; cases e2
        · have : u = z' := uniq_key hL.apart hu hz' e
          subst this
          have := ((wR_iff hM.apart).1 hw).2 u hz rfl
          rw [e2] at this; cases this
        · exact h3 rfl
        · have : u = z' := uniq_key hM.apart hu hz e
          subst this
          rw [((wP_iff hL.apart).1 hw).1] at e2; cases e2
      · have hw : wM L z = true := (wR_iff hL.apart).2 ⟨e2, fun z' hz' e => by
          cases hc : z'.2.1 with
          | false => rfl
          | true => exact absurd ⟨z', hz', e, hc⟩ hzL⟩
        have hin : dM z ∈ deD L M := mem_deD.2 (Or.inr (Or.inr (Or.inl ⟨z, hz, hw, rfl⟩)))
        have hpre : dM z ∈ pre := by
          refine st_done hL hM hd hin ?_
          rcases hk with hk | hk
          · right
            refine ⟨hk.symm, Or.inr ⟨by show (3 : Int) ≤ 3; omega, ?_⟩⟩
            show bytesBefore z.1.data.toList d.pa.data.toList = true
            rw [e1, hdy]
            exact parent_before (hM.ok y hy) hr
          · left
            rw [hk]
            show (3 : Int) < 4
            omega
        right; left
        exact ⟨dM z, hpre, rfl, by show _ = (z.1, true, ByteArray.empty); rw [e1]⟩

/-- Each deed is possible, and does what it says. -/
theorem does_step {L M : List Fl} (hL : Hang L) (hM : Hang M) {pre rest : List De} {d : De} (hd : pre ++ d :: rest = deD L M) {D : DataW Unit} (hP : Plain D) (hS : ∀ y : Fl, y ∈ filesD D ↔ StD L pre y) (rs : List (Int × ByteArray × ByteArray)) :
    okPath d.pa = true ∧ (d.kd = 1 → kindD D d.pa = 1) ∧ (d.kd = 2 → kindD D d.pa = 2) ∧ ∃ D' r, doesD ⟨D, rs, -1⟩ d = (0, ⟨D', rs ++ [r], -1⟩) ∧ Plain D' ∧ ∀ y : Fl, y ∈ filesD D' ↔ StD L (pre ++ [d]) y := by
  have hin := st_in hd
  have hkd := fun {a} => st_kd hL hM hd (a := a)
  have hne := fun {a} => st_ne hL hM hd (a := a)
  rcases mem_deD.1 hin with ⟨x, hx, hw, rfl⟩ | ⟨x, hx, hw, rfl⟩ | ⟨x, hx, hw, rfl⟩ | ⟨x, hx, hw, rfl⟩
  · -- a file goes
    obtain ⟨hf, hz⟩ := (wU_iff hM.apart).1 hw
    have hok := hL.ok x hx
    have hxS : x ∈ filesD D := (hS x).2 (Or.inl ⟨hx, fun a ha _ e => by
      have h1 : a.kd ≤ 1 := hkd ha
      rcases kinds1 (st_pre hd ha) with q | q | q | q
      · exact hne ha q e
      all_goals omega⟩)
    have hk : kindD D x.1 = 1 := by rw [kind_in hP hxS]; unfold kdF; rw [hf]; rfl
    refine ⟨hok, fun _ => hk, fun q => absurd q (by show ¬ (1 : Int) = 2; omega), D.del (keyD x.1), (4, x.1, ByteArray.empty), ?_, hP.del _, fun y => ?_⟩
    · show (if (1 : Int) ≤ 2 then removeD _ x.1 else _) = _
      rw [if_pos (by decide)]
      unfold removeD noteAb
      simp only
      rw [if_neg (by rw [writeD_zero hok]; decide), if_neg (by rw [hk]; decide), if_neg (by rw [hk]; simp)]
      rfl
    · rw [mem_del hP, hS]
      exact st_remove (fun a ha => hkd ha) rfl (by show (1 : Int) ≤ 2; omega)
  · -- a directory goes
    obtain ⟨hf, hz⟩ := (wR_iff hM.apart).1 hw
    have hok := hL.ok x hx
    have hxS : x ∈ filesD D := (hS x).2 (Or.inl ⟨hx, fun a ha _ e => by
      have h1 : a.kd ≤ 2 := hkd ha
      rcases mem_deD.1 (st_pre hd ha) with ⟨u, hu, hwu, rfl⟩ | ⟨u, hu, hwu, rfl⟩ | ⟨u, hu, hwu, rfl⟩ | ⟨u, hu, hwu, rfl⟩
      · have : u = x := uniq_key hL.apart hu hx e
        subst this
        rw [((wU_iff hM.apart).1 hwu).1] at hf; cases hf
      · exact hne ha rfl e
      · exact absurd h1 (by show ¬ (3 : Int) ≤ 2; omega)
      · exact absurd h1 (by show ¬ (4 : Int) ≤ 2; omega)⟩)
    have hk : kindD D x.1 = 2 := by rw [kind_in hP hxS]; unfold kdF; rw [hf]; rfl
    have hu : usedD D x.1 = false := by
      rw [Bool.eq_false_iff]
      intro hu
      obtain ⟨s, hs, hps⟩ := (used_iff hP.strKeys x.1).1 hu
      obtain ⟨c, t, hct⟩ := hP.good.item s hs
      have hy : ((s, c, t) : Fl) ∈ filesD D := (hP.good.mem _).2 ⟨hs, hct⟩
      rcases (hS _).1 hy with ⟨hyL, hno⟩ | ⟨a, ha, h3, _⟩ | ⟨a, ha, h4, _⟩
      · have hyM : ∀ z ∈ M, z.1 ≠ s := fun z hzM e => by
          rcases hM.above z hzM with q | ⟨v, hv, e1, e2⟩
          · rw [e, hps, not_root hok] at q; cases q
          · have := hz v hv (by rw [e1, e, hps])
            rw [e2] at this; cases this
        cases hc : c with
        | false =>
          subst hc
          have hwy : wU M (s, false, t) = true := (wU_iff hM.apart).2 ⟨rfl, fun z hz e => absurd e (hyM z hz)⟩
          have hpre := st_done hL hM hd (mem_deD.2 (Or.inl ⟨_, hyL, hwy, rfl⟩)) (Or.inl (by show (1 : Int) < 2; omega))
          exact hno _ hpre (by show ¬ (1 : Int) = 3; omega) rfl
        | true =>
          subst hc
          have hwy : wR M (s, true, t) = true := (wR_iff hM.apart).2 ⟨rfl, fun z hz e => absurd e (hyM z hz)⟩
          have hbb : bytesBefore x.1.data.toList s.data.toList = true := by
            have h1 := parent_before (s := s) (hL.ok _ hyL) (by rw [hps]; exact not_root hok)
            rwa [hps] at h1
          have hpre := st_done hL hM hd (mem_deD.2 (Or.inr (Or.inl ⟨_, hyL, hwy, rfl⟩))) (Or.inr ⟨rfl, Or.inl ⟨by show (2 : Int) ≤ 2; omega, hbb⟩⟩)
          exact hno _ hpre (by show ¬ (2 : Int) = 3; omega) rfl
      · have : a.kd ≤ 2 := hkd ha
        omega
      · have : a.kd ≤ 2 := hkd ha
        omega
    refine ⟨hok, fun q => absurd q (by show ¬ (2 : Int) = 1; omega), fun _ => hk, D.del (keyD x.1), (4, x.1, ByteArray.empty), ?_, hP.del _, fun y => ?_⟩
    · show (if (2 : Int) ≤ 2 then removeD _ x.1 else _) = _
      rw [if_pos (by decide)]
      unfold removeD noteAb
      simp only
      rw [if_neg (by rw [writeD_zero hok]; decide), if_neg (by rw [hk]; decide), if_neg (by rw [hu, Bool.and_false]; decide)]
      rfl
    · rw [mem_del hP, hS]
      exact st_remove (fun a ha => hkd ha) rfl (by show (2 : Int) ≤ 2; omega)
  · -- a directory comes
    obtain ⟨hf, hz⟩ := (wR_iff hL.apart).1 hw
    have hok := hM.ok x hx
    have hout : ∀ y ∈ filesD D, y.1 ≠ x.1 := fun y hy e => by
      rcases (hS y).1 hy with ⟨hyL, hno⟩ | ⟨a, ha, h3, rfl⟩ | ⟨a, ha, h4, rfl⟩
      · have hyf := hz y hyL e
        have hwy : wU M y = true := (wU_iff hM.apart).2 ⟨hyf, fun z hzM ez => by
          have : z = x := uniq_key hM.apart hzM hx (ez.trans e)
          rw [this]; exact hf⟩
        have hpre := st_done hL hM hd (mem_deD.2 (Or.inl ⟨_, hyL, hwy, rfl⟩)) (Or.inl (by show (1 : Int) < 3; omega))
        exact hno _ hpre (by show ¬ (1 : Int) = 3; omega) rfl
      · exact hne ha h3 e
      · have : a.kd ≤ 3 := hkd ha
        omega
    have hk : kindD D x.1 = 0 := kind_out hP (not_root hok) hout
    have hpar : parentD D x.1 = 0 := by
      have h2 : kindD D (parentOf x.1) = 2 := by
        rcases st_parent hL hM hd hx rfl (Or.inl rfl) with q | q
        · unfold kindD; rw [if_pos q]
        · rw [kind_in hP ((hS _).2 q)]; rfl
      unfold parentD
      rw [h2]; rfl
    refine ⟨hok, fun q => absurd q (by show ¬ (3 : Int) = 1; omega), fun q => absurd q (by show ¬ (3 : Int) = 2; omega), D.put (keyD x.1) (itemD true ByteArray.empty), (1, x.1, ByteArray.empty), ?_, hP.put _ _ hok, fun y => ?_⟩
    · show (if (3 : Int) ≤ 2 then _ else if (3 : Int) = 3 then mkdirD _ x.1 else _) = _
      rw [if_neg (by decide), if_pos rfl]
      unfold mkdirD noteAb
      simp only
      rw [if_neg (by rw [writeD_zero hok]; decide), if_neg (by rw [hpar]; decide), if_neg (by rw [hk]; decide)]
      rfl
    · rw [mem_put hP _ _ hok, hS]
      constructor
      · rintro (rfl | ⟨h, _⟩)
        · exact Or.inr (Or.inl ⟨dM x, by simp, rfl, rfl⟩)
        · rcases h with ⟨h1, h2⟩ | ⟨a, ha, h3, e⟩ | ⟨a, ha, h4, e⟩
          · refine Or.inl ⟨h1, fun a ha h3 => ?_⟩
            rcases List.mem_append.1 ha with q | q
            · exact h2 a q h3
            · rw [List.mem_singleton.1 q] at h3
              exact absurd rfl h3
          · exact Or.inr (Or.inl ⟨a, List.mem_append_left _ ha, h3, e⟩)
          · exact Or.inr (Or.inr ⟨a, List.mem_append_left _ ha, h4, e⟩)
      · rintro (⟨h1, h2⟩ | ⟨a, ha, h3, e⟩ | ⟨a, ha, h4, e⟩)
        · have hh : StD L pre y := Or.inl ⟨h1, fun a ha => h2 a (List.mem_append_left _ ha)⟩
          exact Or.inr ⟨hh, hout y ((hS y).2 hh)⟩
        · rcases List.mem_append.1 ha with q | q
          · have hh : StD L pre y := Or.inr (Or.inl ⟨a, q, h3, e⟩)
            exact Or.inr ⟨hh, hout y ((hS y).2 hh)⟩
          · rw [List.mem_singleton.1 q] at e
            exact Or.inl e
        · rcases List.mem_append.1 ha with q | q
          · have hh : StD L pre y := Or.inr (Or.inr ⟨a, q, h4, e⟩)
            exact Or.inr ⟨hh, hout y ((hS y).2 hh)⟩
          · rw [List.mem_singleton.1 q] at h4
            exact absurd h4 (by show ¬ (3 : Int) = 4; omega)
  · -- a file is put
    obtain ⟨hf, hz⟩ := (wP_iff hL.apart).1 hw
    have hok := hM.ok x hx
    have hnd : ∀ y ∈ filesD D, y.1 = x.1 → y.2.1 = false := fun y hy e => by
      cases hc : y.2.1 with
      | false => rfl
      | true =>
        exfalso
        rcases (hS y).1 hy with ⟨hyL, hno⟩ | ⟨a, ha, h3, rfl⟩ | ⟨a, ha, h4, rfl⟩
        · have hwy : wR M y = true := (wR_iff hM.apart).2 ⟨hc, fun z hzM ez => by
            have : z = x := uniq_key hM.apart hzM hx (ez.trans e)
            rw [this]; exact hf⟩
          have hpre := st_done hL hM hd (mem_deD.2 (Or.inr (Or.inl ⟨_, hyL, hwy, rfl⟩))) (Or.inl (by show (2 : Int) < 4; omega))
          exact hno _ hpre (by show ¬ (2 : Int) = 3; omega) rfl
        · rcases mem_deD.1 (st_pre hd ha) with ⟨u, hu, hwu, rfl⟩ | ⟨u, hu, hwu, rfl⟩ | ⟨u, hu, hwu, rfl⟩ | ⟨u, hu, hwu, rfl⟩
          · exact absurd h3 (by show ¬ (1 : Int) = 3; omega)
          · exact absurd h3 (by show ¬ (2 : Int) = 3; omega)
          · have : u = x := uniq_key hM.apart hu hx e
            subst this
            rw [((wR_iff hL.apart).1 hwu).1] at hf; cases hf
          · exact absurd h3 (by show ¬ (4 : Int) = 3; omega)
        · cases hc
    have hk : kindD D x.1 ≠ 2 := fun h => by
      have hh := kind_two_has h (not_root hok)
      obtain ⟨c, t, hct⟩ := hP.good.item _ hh
      have hy : ((x.1, c, t) : Fl) ∈ filesD D := (hP.good.mem _).2 ⟨hh, hct⟩
      have h1 := kind_in hP hy
      have h2 := hnd _ hy rfl
      rw [show ((x.1, c, t) : Fl).1 = x.1 from rfl, h] at h1
      unfold kdF at h1
      rw [h2] at h1
      cases h1
    have hpar : parentD D x.1 = 0 := by
      have h2 : kindD D (parentOf x.1) = 2 := by
        rcases st_parent hL hM hd hx rfl (Or.inr rfl) with q | q
        · unfold kindD; rw [if_pos q]
        · rw [kind_in hP ((hS _).2 q)]; rfl
      unfold parentD
      rw [h2]; rfl
    have hfile : fileD D x.1 = 0 := by
      unfold fileD
      rw [if_neg (by rw [hpar]; decide), if_neg (by simpa using hk)]
    refine ⟨hok, fun q => absurd q (by show ¬ (4 : Int) = 1; omega), fun q => absurd q (by show ¬ (4 : Int) = 2; omega), D.put (keyD x.1) (itemD false x.2.2), (2, x.1, ByteArray.empty), ?_, hP.put _ _ hok, fun y => ?_⟩
    · show (if (4 : Int) ≤ 2 then _ else if (4 : Int) = 3 then _ else writeFD _ x.1 x.2.2) = _
      rw [if_neg (by decide), if_neg (by decide)]
      unfold writeFD noteAb
      simp only
      rw [if_neg (by rw [writeD_zero hok]; decide), if_neg (by rw [hfile]; decide)]
      rfl
    · rw [mem_put hP _ _ hok, hS]
      constructor
      · rintro (rfl | ⟨h, hnx⟩)
        · exact Or.inr (Or.inr ⟨dP x, by simp, rfl, rfl⟩)
        · rcases h with ⟨h1, h2⟩ | ⟨a, ha, h3, e⟩ | ⟨a, ha, h4, e⟩
          · refine Or.inl ⟨h1, fun a ha h3 => ?_⟩
            rcases List.mem_append.1 ha with q | q
            · exact h2 a q h3
            · rw [List.mem_singleton.1 q]
              exact fun e => hnx e.symm
          · exact Or.inr (Or.inl ⟨a, List.mem_append_left _ ha, h3, e⟩)
          · exact Or.inr (Or.inr ⟨a, List.mem_append_left _ ha, h4, e⟩)
      · rintro (⟨h1, h2⟩ | ⟨a, ha, h3, e⟩ | ⟨a, ha, h4, e⟩)
        · exact Or.inr ⟨Or.inl ⟨h1, fun a ha => h2 a (List.mem_append_left _ ha)⟩, fun q => h2 (dP x) (by simp) (by show ¬ (4 : Int) = 3; omega) q.symm⟩
        · rcases List.mem_append.1 ha with q | q
          · refine Or.inr ⟨Or.inr (Or.inl ⟨a, q, h3, e⟩), fun ex => ?_⟩
            have hy : y ∈ filesD D := (hS y).2 (Or.inr (Or.inl ⟨a, q, h3, e⟩))
            have := hnd y hy ex
            rw [e] at this
            cases this
          · rw [List.mem_singleton.1 q] at h3
            exact absurd h3 (by show ¬ (4 : Int) = 3; omega)
        · rcases List.mem_append.1 ha with q | q
          · refine Or.inr ⟨Or.inr (Or.inr ⟨a, q, h4, e⟩), fun ex => ?_⟩
            rw [e] at ex
            exact hne q h4 ex
          · rw [List.mem_singleton.1 q] at e
            exact Or.inl e

/-- In the end there is just the other set. -/
theorem does_end {L M : List Fl} (hL : Hang L) (hM : Hang M) {D : DataW Unit} (hP : Plain D) (hS : ∀ y : Fl, y ∈ filesD D ↔ StD L (deD L M) y) : filesD D = M := by
  refine eq_of_rising hP.good.rise hM.rise fun y => ?_
  rw [hS]
  constructor
  · rintro (⟨h1, h2⟩ | ⟨a, ha, h3, rfl⟩ | ⟨a, ha, h4, rfl⟩)
    · by_cases hex : ∃ z ∈ M, z.1 = y.1
      · obtain ⟨z, hz, e⟩ := hex
        cases hc : y.2.1 with
        | true =>
          cases hcz : z.2.1 with
          | true =>
            have : y = z := by
              obtain ⟨a, b, c⟩ := y
              obtain ⟨a', b', c'⟩ := z
              have q1 := hL.dirs _ h1 hc
              have q2 := hM.dirs _ hz hcz
              simp only at e hc hcz q1 q2
              rw [e, hc, hcz, q1, q2]
            rw [this]; exact hz
          | false =>
            have hwy : wR M y = true := (wR_iff hM.apart).2 ⟨hc, fun z' hz' e' => by rw [uniq_key hM.apart hz' hz (e'.trans e.symm)]; exact hcz⟩
            exact absurd rfl (h2 (dR y) (mem_deD.2 (Or.inr (Or.inl ⟨y, h1, hwy, rfl⟩))) (by show ¬ (2 : Int) = 3; omega))
        | false =>
          cases hcz : z.2.1 with
          | true =>
            have hwy : wU M y = true := (wU_iff hM.apart).2 ⟨hc, fun z' hz' e' => by rw [uniq_key hM.apart hz' hz (e'.trans e.symm)]; exact hcz⟩
            exact absurd rfl (h2 (dU y) (mem_deD.2 (Or.inl ⟨y, h1, hwy, rfl⟩)) (by show ¬ (1 : Int) = 3; omega))
          | false =>
            by_cases ht : y.2.2 = z.2.2
            · have : y = z := by
                obtain ⟨a, b, c⟩ := y
                obtain ⟨a', b', c'⟩ := z
                simp only at e hc hcz ht
                rw [e, hc, hcz, ht]
              rw [this]; exact hz
            · have hwz : wP L z = true := (wP_iff hL.apart).2 ⟨hcz, fun z' hz' e' => by rw [uniq_key hL.apart hz' h1 (e'.trans e)]; exact Or.inr ht⟩
              exact absurd e (h2 (dP z) (mem_deD.2 (Or.inr (Or.inr (Or.inr ⟨z, hz, hwz, rfl⟩)))) (by show ¬ (4 : Int) = 3; omega))
      · have hno : ∀ z ∈ M, z.1 ≠ y.1 := fun z hz e => hex ⟨z, hz, e⟩
        cases hc : y.2.1 with
        | true =>
          have hwy : wR M y = true := (wR_iff hM.apart).2 ⟨hc, fun z hz e => absurd e (hno z hz)⟩
          exact absurd rfl (h2 (dR y) (mem_deD.2 (Or.inr (Or.inl ⟨y, h1, hwy, rfl⟩))) (by show ¬ (2 : Int) = 3; omega))
        | false =>
          have hwy : wU M y = true := (wU_iff hM.apart).2 ⟨hc, fun z hz e => absurd e (hno z hz)⟩
          exact absurd rfl (h2 (dU y) (mem_deD.2 (Or.inl ⟨y, h1, hwy, rfl⟩)) (by show ¬ (1 : Int) = 3; omega))
    · rcases mem_deD.1 ha with ⟨u, hu, hwu, rfl⟩ | ⟨u, hu, hwu, rfl⟩ | ⟨u, hu, hwu, rfl⟩ | ⟨u, hu, hwu, rfl⟩
      · exact absurd h3 (by show ¬ (1 : Int) = 3; omega)
      · exact absurd h3 (by show ¬ (2 : Int) = 3; omega)
      · have hc := ((wR_iff hL.apart).1 hwu).1
        have : ((dM u).pa, true, ByteArray.empty) = u := by
          obtain ⟨a, b, c⟩ := u
          have q := hM.dirs _ hu hc
          simp only at hc q
          rw [hc, q]; rfl
        rw [this]; exact hu
      · exact absurd h3 (by show ¬ (4 : Int) = 3; omega)
    · rcases mem_deD.1 ha with ⟨u, hu, hwu, rfl⟩ | ⟨u, hu, hwu, rfl⟩ | ⟨u, hu, hwu, rfl⟩ | ⟨u, hu, hwu, rfl⟩
      · exact absurd h4 (by show ¬ (1 : Int) = 4; omega)
      · exact absurd h4 (by show ¬ (2 : Int) = 4; omega)
      · exact absurd h4 (by show ¬ (3 : Int) = 4; omega)
      · have hc := ((wP_iff hL.apart).1 hwu).1
        have : ((dP u).pa, false, (dP u).da) = u := by
          obtain ⟨a, b, c⟩ := u
          simp only at hc
          rw [hc]; rfl
        rw [this]; exact hu
  · intro hy
    cases hc : y.2.1 with
    | true =>
      by_cases hw : wM L y = true
      · right; left
        refine ⟨dM y, mem_deD.2 (Or.inr (Or.inr (Or.inl ⟨y, hy, hw, rfl⟩))), rfl, ?_⟩
        obtain ⟨a, b, c⟩ := y
        have q := hM.dirs _ hy hc
        simp only at hc q
        rw [hc, q]; rfl
      · have hex : ∃ z ∈ L, z.1 = y.1 ∧ z.2.1 = true := by
          by_cases hex : ∃ z ∈ L, z.1 = y.1 ∧ z.2.1 = true
          · exact hex
          · exfalso
            refine hw ((wR_iff hL.apart).2 ⟨hc, fun z hz e => ?_⟩)
            cases hcz : z.2.1 with
            | false => rfl
            | true => exact absurd ⟨z, hz, e, hcz⟩ hex
        obtain ⟨z, hz, e, hcz⟩ := hex
        have : z = y := by
          obtain ⟨a, b, c⟩ := z
          obtain ⟨a', b', c'⟩ := y
          have q1 := hL.dirs _ hz hcz
          have q2 := hM.dirs _ hy hc
          simp only at e hc hcz q1 q2
          rw [e, hc, hcz, q1, q2]
        subst this
        left
        refine ⟨hz, fun a ha h3 e => ?_⟩
        rcases mem_deD.1 ha with ⟨u, hu, hwu, rfl⟩ | ⟨u, hu, hwu, rfl⟩ | ⟨u, hu, hwu, rfl⟩ | ⟨u, hu, hwu, rfl⟩
        · have := uniq_key hL.apart hu hz e
          rw [← this, ((wU_iff hM.apart).1 hwu).1] at hc; cases hc
        · have := uniq_key hL.apart hu hz e
          have q := ((wR_iff hM.apart).1 hwu).2 z hy (by rw [this])
          rw [hc] at q; cases q
        · exact h3 rfl
        · have := uniq_key hM.apart hu hy e
          rw [← this, ((wP_iff hL.apart).1 hwu).1] at hc; cases hc
    | false =>
      by_cases hw : wP L y = true
      · right; right
        refine ⟨dP y, mem_deD.2 (Or.inr (Or.inr (Or.inr ⟨y, hy, hw, rfl⟩))), rfl, ?_⟩
        obtain ⟨a, b, c⟩ := y
        simp only at hc
        rw [hc]; rfl
      · have hex : ∃ z ∈ L, z.1 = y.1 ∧ z.2.1 = false ∧ z.2.2 = y.2.2 := by
          by_cases hex : ∃ z ∈ L, z.1 = y.1 ∧ z.2.1 = false ∧ z.2.2 = y.2.2
          · exact hex
          · exfalso
            refine hw ((wP_iff hL.apart).2 ⟨hc, fun z hz e => ?_⟩)
            cases hcz : z.2.1 with
            | true => exact Or.inl rfl
            | false => exact Or.inr fun q => hex ⟨z, hz, e, hcz, q⟩
        obtain ⟨z, hz, e, hcz, ht⟩ := hex
        have : z = y := by
          obtain ⟨a, b, c⟩ := z
          obtain ⟨a', b', c'⟩ := y
          simp only at e hc hcz ht
          rw [e, hc, hcz, ht]
        subst this
        left
        refine ⟨hz, fun a ha h3 e => ?_⟩
        rcases mem_deD.1 ha with ⟨u, hu, hwu, rfl⟩ | ⟨u, hu, hwu, rfl⟩ | ⟨u, hu, hwu, rfl⟩ | ⟨u, hu, hwu, rfl⟩
        · have := uniq_key hL.apart hu hz e
          have q := ((wU_iff hM.apart).1 hwu).2 z hy (by rw [this])
          rw [hc] at q; cases q
        · have := uniq_key hL.apart hu hz e
          rw [← this, ((wR_iff hM.apart).1 hwu).1] at hc; cases hc
        · exact h3 rfl
        · have := uniq_key hM.apart hu hy e
          rcases ((wP_iff hL.apart).1 hwu).2 z hz (by rw [this]) with q | q
          · rw [hc] at q; cases q
          · exact q (by rw [this])
end Go.Proofs.YtpaoimhebheaeaaGreatDoor
