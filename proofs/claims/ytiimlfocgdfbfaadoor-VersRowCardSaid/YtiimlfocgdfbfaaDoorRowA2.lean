/- VersRow of any two versions: the ways put together. -/
import Derived.Test.YtiimlfocgdfbfaaDoorRowA1
namespace Go.Proofs.YtiimlfocgdfbfaaDoor
open Go.RowKit
set_option maxRecDepth 100000

theorem row_walk (a b c x y z : Int) (w : World) :
    Calls Tryd.prog 7 #[.agg #[.int .i64 a, .int .i64 b, .int .i64 c], .agg #[.int .i64 x, .int .i64 y, .int .i64 z]] w fun e w' => e = .returned (.bool true) ∧ Below w.heap.size w w' := by
  have HR := Rank_any a b c
  have HS := Rank_any x y z
  have HC := Compare_any a b c x y z
  have HD := Compare_any x y z a b c
  have HM := May_any a b c
  have hneg := cmp_neg x y z a b c
  rw [hneg] at HD
  cases hm : mayV a b c
  · rw [hm] at HR HM
    rcases cmp_range a b c x y z with e | e | e
    · rw [e] at HC HD
      exact row_no_lt a b c _ _ x y z _ w (fun h => by have := (cmp_zero a b c x y z).2 h; omega) HR HS HC HD HM known_any
    · obtain ⟨rfl, rfl, rfl⟩ := (cmp_zero a b c x y z).1 e
      rw [e] at HC HD
      exact row_no_eq a b c _ _ _ w HR HS HC HD HM known_any
    · rw [e] at HC HD
      exact row_no_gt a b c _ _ x y z _ w (fun h => by have := (cmp_zero a b c x y z).2 h; omega) HR HS HC HD HM known_any
  · rw [hm] at HR HM
    have HA := At_any (rankV a b c)
    rw [has_rank hm, (at_rank hm).1, (at_rank hm).2.1, (at_rank hm).2.2] at HA
    have HP := Prev_any a b c
    have hpi := prev_is hm
    cases hp : onIs a b c (-1)
    · have h0 : rankV a b c ≤ 0 := by rw [hp] at hpi; have := of_decide_eq_false hpi.symm; omega
      rw [hp] at HP
      have HN := Next_any (onA a b c (-1)) (onB a b c (-1)) (onC a b c (-1))
      rcases cmp_range a b c x y z with e | e | e
      · rw [e] at HC HD
        have hne : ¬ (a = x ∧ b = y ∧ c = z) := fun h => by have := (cmp_zero a b c x y z).2 h; omega
        cases hb : mayV x y z
        · rw [hb] at HS
          exact row_yes_lt_n_z a b c _ _ x y z _ _ _ _ _ _ _ w hne h0 HR HS HC HD HM known_any HA HP HN
        · rw [hb] at HS
          exact row_yes_lt_b_z a b c _ _ x y z _ _ _ _ _ _ _ w hne ((cmp_rank hm hb).1 (by omega)) h0 HR HS HC HD HM known_any HA HP HN
      · obtain ⟨rfl, rfl, rfl⟩ := (cmp_zero a b c x y z).1 e
        rw [e] at HC HD
        rw [hm] at HS
        exact row_yes_eq_b_z a b c _ _ _ _ _ _ _ _ _ w (Int.le_refl _) h0 HR HS HC HD HM known_any HA HP HN
      · rw [e] at HC HD
        have hne : ¬ (a = x ∧ b = y ∧ c = z) := fun h => by have := (cmp_zero a b c x y z).2 h; omega
        cases hb : mayV x y z
        · rw [hb] at HS
          exact row_yes_gt_n_z a b c _ _ x y z _ _ _ _ _ _ _ w hne h0 HR HS HC HD HM known_any HA HP HN
        · rw [hb] at HS
          exact row_yes_gt_b_z a b c _ _ x y z _ _ _ _ _ _ _ w hne (by have := cmp_rank hm hb; omega) h0 HR HS HC HD HM known_any HA HP HN
    · have h0 : 0 < rankV a b c := by rw [hp] at hpi; exact of_decide_eq_true hpi.symm
      rw [hp] at HP
      have HN := Next_any (onA a b c (-1)) (onB a b c (-1)) (onC a b c (-1))
      obtain ⟨n1, n2, n3, n4⟩ := next_prev hp
      rw [n1, n2, n3, n4] at HN
      have HL := Compare_any (onA a b c (-1)) (onB a b c (-1)) (onC a b c (-1)) a b c
      rw [prev_less hp] at HL
      rcases cmp_range a b c x y z with e | e | e
      · rw [e] at HC HD
        have hne : ¬ (a = x ∧ b = y ∧ c = z) := fun h => by have := (cmp_zero a b c x y z).2 h; omega
        cases hb : mayV x y z
        · rw [hb] at HS
          exact row_yes_lt_n_p a b c _ _ x y z _ _ _ w hne h0 HR HS HC HD HM known_any HA HP HN HL
        · rw [hb] at HS
          exact row_yes_lt_b_p a b c _ _ x y z _ _ _ w hne ((cmp_rank hm hb).1 (by omega)) h0 HR HS HC HD HM known_any HA HP HN HL
      · obtain ⟨rfl, rfl, rfl⟩ := (cmp_zero a b c x y z).1 e
        rw [e] at HC HD
        rw [hm] at HS
        exact row_yes_eq_b_p a b c _ _ _ _ _ w (Int.le_refl _) h0 HR HS HC HD HM known_any HA HP HN HL
      · rw [e] at HC HD
        have hne : ¬ (a = x ∧ b = y ∧ c = z) := fun h => by have := (cmp_zero a b c x y z).2 h; omega
        cases hb : mayV x y z
        · rw [hb] at HS
          exact row_yes_gt_n_p a b c _ _ x y z _ _ _ w hne h0 HR HS HC HD HM known_any HA HP HN HL
        · rw [hb] at HS
          exact row_yes_gt_b_p a b c _ _ x y z _ _ _ w hne (by have := cmp_rank hm hb; omega) h0 HR HS HC HD HM known_any HA HP HN HL
end Go.Proofs.YtiimlfocgdfbfaaDoor
