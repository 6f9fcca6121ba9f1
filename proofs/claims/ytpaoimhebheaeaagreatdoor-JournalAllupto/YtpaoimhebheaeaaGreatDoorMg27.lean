/- Jq3, laid in one text. -/
import Derived.Test.YtpaoimhebheaeaaGreatDoorMg26
namespace Go.Proofs.YtpaoimhebheaeaaGreatDoor
open Go.RowKit Go.Maps Go.WideMaps Go.WideElems Dk
set_option maxRecDepth 100000

theorem gone_ok {x : Ab} (h : (goneA x).1 = 0) : kindD (goneA x).2.D jn = 0 := by
  unfold goneA at h ⊢
  split
  · rename_i h1
    rw [if_pos h1] at h
    split
    · rename_i h2
      rw [if_pos h2] at h
      exact absurd h (ne_of_bne h2)
    · rename_i h2
      rw [if_neg h2] at h
      exact (rem_done h).2.2
  · rename_i h1
    rw [if_neg h1] at h
    exact (rem_done h).2.2
theorem gone_fail {x : Ab} (h : (goneA x).1 ≠ 0) : kindD (goneA x).2.D jn = kindD x.D jn := by
  unfold goneA at h ⊢
  split
  · rename_i h1
    rw [if_pos h1] at h
    split
    · exact (tch_rem x pN).kind jn jn_pN
    · rename_i h2
      rw [if_neg h2] at h
      rw [rem_fail h]
      exact (tch_rem x pN).kind jn jn_pN
  · rename_i h1
    rw [if_neg h1] at h
    rw [rem_fail h]
theorem end_ok {l : List De} {x : Ab} (h : (endA l x).1 = 0) : kindD (endA l x).2.D jn = 0 := by
  unfold endA at h ⊢
  split
  · rename_i h1
    rw [if_pos h1] at h
    exact absurd h (ne_of_bne h1)
  · rename_i h1
    rw [if_neg h1] at h
    split
    · rename_i h2
      rw [if_pos h2] at h
      exact absurd h (ne_of_bne h2)
    · rename_i h2
      rw [if_neg h2] at h
      exact gone_ok h
theorem end_fail {l : List De} {x : Ab} (hp : Plan l) (h : (endA l x).1 ≠ 0) : kindD (endA l x).2.D jn = kindD x.D jn := by
  have k1 := (tch_run l x).kind jn (plan_out hp jB_jn)
  unfold endA at h ⊢
  split
  · exact k1
  · rename_i h1
    rw [if_neg h1] at h
    split
    · exact ((tch_rem _ pP).kind jn jn_pP).trans k1
    · rename_i h2
      rw [if_neg h2] at h
      exact (gone_fail h).trans (((tch_rem _ pP).kind jn jn_pP).trans k1)
/-- A Recover that answers OK leaves no journal. -/
theorem rec_ok {x : Ab} (h0 : x.left ≠ 0) (h : (recA x).1 = 0) : kindD (recA x).2.D jn = 0 := by
  unfold recA at h ⊢
  rw [if_neg (by rw [beq_iff_eq]; exact h0)] at h ⊢
  split
  · rename_i h1
    exact beq_iff_eq.1 h1
  · rename_i h1
    rw [if_neg h1] at h
    split
    · rename_i h2
      rw [if_pos h2] at h
      cases h
    · rename_i h2
      rw [if_neg h2] at h
      split
      · rename_i h3
        rw [if_pos h3] at h
        cases h
      · rename_i h3
        rw [if_neg h3] at h
        split
        · rename_i h4
          rw [if_pos h4] at h
          exact gone_ok h
        · rename_i h4
          rw [if_neg h4] at h
          split
          · rename_i h5
            rw [if_pos h5] at h
            cases h
          · rename_i h5
            rw [if_neg h5] at h
            exact end_ok h
/-- One that answers otherwise leaves one. -/
theorem rec_fail {x : Ab} (h0 : x.left ≠ 0) (h : (recA x).1 ≠ 0) : kindD (recA x).2.D jn ≠ 0 := by
  unfold recA at h ⊢
  rw [if_neg (by rw [beq_iff_eq]; exact h0)] at h ⊢
  split
  · rename_i h1
    rw [if_pos h1] at h
    exact absurd rfl h
  · rename_i h1
    have hk : kindD x.D jn ≠ 0 := fun e => h1 (beq_iff_eq.2 e)
    rw [if_neg h1] at h
    split
    · exact hk
    · rename_i h2
      rw [if_neg h2] at h
      split
      · exact hk
      · rename_i h3
        rw [if_neg h3] at h
        split
        · rename_i h4
          rw [if_pos h4] at h
          rw [gone_fail h]
          exact hk
        · rename_i h4
          rw [if_neg h4] at h
          split
          · exact hk
          · rename_i h5
            rw [if_neg h5] at h
            have h6 : (parO (readT x.D pP)).1 = 0 := bne_eq_false_iff_eq.1 (Bool.eq_false_iff.2 h5)
            have hpl : Plan (parO (readT x.D pP)).2 := (parO_ok (t := readT x.D pP) (l := (parO (readT x.D pP)).2) (by rw [← h6])).1
            rw [end_fail hpl h]
            exact hk
/-- The plan's text stays, or goes. -/
theorem gone_read (x : Ab) : readT (goneA x).2.D pP = readT x.D pP := by
  unfold goneA
  have h1 := (tch_rem x pN).text pP fun e => pN_pP e.symm
  split
  · split
    · exact h1
    · exact ((tch_rem _ jn).text pP fun e => jn_pP e.symm).trans h1
  · exact (tch_rem x jn).text pP fun e => jn_pP e.symm
theorem end_read {l : List De} (hp : Plan l) (x : Ab) : readT (endA l x).2.D pP = readT x.D pP ∨ readT (endA l x).2.D pP = ByteArray.empty := by
  have k1 := (tch_run l x).text pP (plan_out hp jB_pP)
  unfold endA
  split
  · exact Or.inl k1
  · split
    · rename_i h2
      rw [rem_fail (ne_of_bne h2)]
      exact Or.inl k1
    · rename_i h2
      have h3 := rem_done (bne_eq_false_iff_eq.1 (Bool.eq_false_iff.2 h2))
      right
      rw [gone_read]
      exact read_gone h3.2.2
theorem rec_read (x : Ab) : readT (recA x).2.D pP = readT x.D pP ∨ readT (recA x).2.D pP = ByteArray.empty := by
  unfold recA
  split
  · exact Or.inl rfl
  · split
    · exact Or.inl rfl
    · split
      · exact Or.inl rfl
      · split
        · exact Or.inl rfl
        · split
          · exact Or.inl (gone_read x)
          · split
            · exact Or.inl rfl
            · rename_i h5
              have h6 : (parO (readT x.D pP)).1 = 0 := bne_eq_false_iff_eq.1 (Bool.eq_false_iff.2 h5)
              exact end_read (parO_ok (t := readT x.D pP) (l := (parO (readT x.D pP)).2) (by rw [← h6])).1 x
theorem ren_fail {x : Ab} {s t : ByteArray} (h : (renameD x s t).1 ≠ 0) : (renameD x s t).2 = x := by
  unfold renameD at h ⊢
  split
  · rfl
  · rename_i h1
    rw [if_neg h1] at h
    split
    · rfl
    · rename_i h2
      rw [if_neg h2] at h
      split
      · rfl
      · rename_i h3
        rw [if_neg h3] at h
        exact absurd rfl h
theorem wr3_read {l : List De} {x : Ab} (hf : Fine x) : readT (wr3 l x).2.D pP = readT x.D pP ∨ readT (wr3 l x).2.D pP = textD l := by
  by_cases h0 : (wr3 l x).1 = 0
  · exact Or.inr (wr3_done hf h0).2.2.2.2.1
  · left
    have t1 := (tch_mk x jn).text pP fun e => jn_pP e.symm
    have t2 := ((tch_wt (mkdirD x jn).2 pN (textD l)).text pP fun e => pN_pP e.symm).trans t1
    unfold wr3 at h0 ⊢
    split
    · exact t1
    · rename_i h1
      rw [if_neg h1] at h0
      split
      · exact t2
      · rename_i h2
        rw [if_neg h2] at h0
        rw [ren_fail h0]
        exact t2
theorem canR_plan {l : List De} {x : Ab} (h : ¬ canR l x = false) : Plan l := by
  by_cases hp : Plan l
  · exact hp
  · exact absurd (canR_no hp) h
theorem commit_read {l : List De} {x : Ab} (hf : Fine x) : readT (commitA l x).2.D pP = readT x.D pP ∨ readT (commitA l x).2.D pP = ByteArray.empty ∨ readT (commitA l x).2.D pP = textD l := by
  unfold commitA
  split
  · exact Or.inl rfl
  · split
    · exact Or.inl rfl
    · split
      · exact Or.inl rfl
      · rename_i hc
        split
        · exact Or.inl rfl
        · rw [writ_wr3]
          have hw := wr3_read (l := l) hf
          split
          · exact hw.imp id Or.inr
          · rcases end_read (canR_plan hc) (wr3 l x).2 with e | e
            · rw [e]; exact hw.imp id Or.inr
            · exact Or.inr (Or.inl e)
/-- Without a journal there is no plan. -/
theorem no_plan {x : Ab} (hf : Fine x) (h : kindD x.D jn = 0) : kindD x.D pP = 0 ∧ kindD x.D pN = 0 := by
  refine ⟨?_, ?_⟩
  · cases q : Maps.has x.D (keyD pP)
    · exact kind_none (root_not pP_ok) q
    · have := hf.so pP q
      rw [pP_par, h] at this
      cases this
  · cases q : Maps.has x.D (keyD pN)
    · exact kind_none (root_not pN_ok) q
    · have := hf.so pN q
      rw [pN_par, h] at this
      cases this
theorem par_empty : (parO ByteArray.empty).2 = [] := List.eq_nil_of_length_eq_zero (Nat.le_zero.1 (parO_sizes ByteArray.empty).1)
/-- A Commit that wrote something found no journal. -/
theorem commit_wrote {l : List De} {x : Ab} (h : (commitA l x).2.rs ≠ x.rs) : kindD x.D jn = 0 ∧ Plan l := by
  unfold commitA at h
  split at h
  · exact absurd rfl h
  · split at h
    · exact absurd rfl h
    · rename_i h1
      split at h
      · exact absurd rfl h
      · rename_i h2
        exact ⟨bne_eq_false_iff_eq.1 (Bool.eq_false_iff.2 h1), canR_plan h2⟩
theorem commit_nothing (x : Ab) : (commitA [] x).2 = x := by
  unfold commitA
  split
  · rfl
  · split
    · rfl
    · split
      · rfl
      · rfl
/-- Quiet: what is written through the journal. -/
theorem quiet {l : List De} {x : Ab} (hf : Fine x) (h0 : x.rs = []) (lf : Int) (hm : kindD (commitA l x).2.D jn = 0 ∨ (commitA l x).2.rs ≠ []) : ∀ z ∈ (recA { (commitA l x).2 with left := lf }).2.rs, ofJ z.2.1 ∨ ofDs l z.2.1 := by
  obtain ⟨r, hr, hp⟩ := (tch_commit l x).raw
  rw [h0, List.nil_append] at hr
  obtain ⟨r2, hr2, hp2⟩ := (tch_rec { (commitA l x).2 with left := lf }).raw
  intro z hz
  rw [hr2] at hz
  rcases List.mem_append.1 hz with hz | hz
  · rw [show ({ (commitA l x).2 with left := lf } : Ab).rs = r from hr] at hz
    exact hp z hz
  · by_cases hj : kindD (commitA l x).2.D jn = 0
    · have e : (recA { (commitA l x).2 with left := lf }).2 = { (commitA l x).2 with left := lf } := by
        unfold recA
        split
        · rfl
        · rw [if_pos (beq_iff_eq.2 hj)]
      rw [e] at hr2
      have : r2 = [] := List.append_right_eq_self.1 hr2.symm
      rw [this] at hz
      cases hz
    · have hw := hm.resolve_left hj
      obtain ⟨k0, hpl⟩ := commit_wrote (l := l) (x := x) (by rw [h0]; exact hw)
      have he : readT x.D pP = ByteArray.empty := read_gone (no_plan hf k0).1
      refine (hp2 z hz).imp id fun q => ?_
      rcases commit_read (l := l) hf with e | e | e
      · rw [show readT ({ (commitA l x).2 with left := lf } : Ab).D pP = ByteArray.empty from e.trans he, par_empty] at q
        obtain ⟨_, h, _⟩ := q
        cases h
      · rw [show readT ({ (commitA l x).2 with left := lf } : Ab).D pP = ByteArray.empty from e, par_empty] at q
        obtain ⟨_, h, _⟩ := q
        cases h
      · rw [show readT ({ (commitA l x).2 with left := lf } : Ab).D pP = textD l from e, parO_text hpl] at q
        exact q
end Go.Proofs.YtpaoimhebheaeaaGreatDoor
