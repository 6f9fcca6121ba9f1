/- Plain facts on versions, their order and their ranks. -/
import Derived.Test.YtkmgfemhfibikaaGreatDoorVers6
namespace Go.Proofs.YtkmgfemhfibikaaGreatDoor
set_option maxRecDepth 100000

theorem cmp_neg (a b c x y z : Int) : cmpV a b c x y z = -cmpV x y z a b c := by unfold cmpV; grind
theorem cmp_range (a b c x y z : Int) : cmpV a b c x y z = -1 ∨ cmpV a b c x y z = 0 ∨ cmpV a b c x y z = 1 := by unfold cmpV; grind
theorem cmp_zero (a b c x y z : Int) : cmpV a b c x y z = 0 ↔ a = x ∧ b = y ∧ c = z := by unfold cmpV; grind
theorem rank_of {a b c : Int} (h : mayV a b c = true) : rankV a b c = (a * 1000 + b) * 1000 + c := by unfold rankV; rw [if_pos h]
theorem rank_low {a b c : Int} (h : mayV a b c = true) : 0 ≤ rankV a b c ∧ rankV a b c < 1000000000 := by
  have := may_all h; rw [rank_of h]; omega
theorem cmp_rank {a b c x y z : Int} (h : mayV a b c = true) (k : mayV x y z = true) : cmpV a b c x y z < 0 ↔ rankV a b c < rankV x y z := by
  have h1 := may_all h; have k1 := may_all k
  rw [rank_of h, rank_of k]
  unfold cmpV
  split
  · subst_vars
    split
    · subst_vars
      split
      · omega
      · split <;> omega
    · split <;> omega
  · split <;> omega
theorem cmp_rank_eq {a b c x y z : Int} (h : mayV a b c = true) (k : mayV x y z = true) : cmpV a b c x y z = 0 ↔ rankV a b c = rankV x y z := by
  have h1 := may_all h; have k1 := may_all k
  rw [rank_of h, rank_of k, cmp_zero]
  omega
theorem has_rank {a b c : Int} (h : mayV a b c = true) : hasV (rankV a b c) = true := by
  have := rank_low h; unfold hasV; simp; omega
theorem at_rank {a b c : Int} (h : mayV a b c = true) : atA (rankV a b c) = a ∧ atB (rankV a b c) = b ∧ atC (rankV a b c) = c := by
  have h1 := may_all h
  unfold atA atB atC
  rw [has_rank h, rank_of h]
  simp
  omega
theorem may_at {n : Int} (h : hasV n = true) : mayV (atA n) (atB n) (atC n) = true ∧ rankV (atA n) (atB n) (atC n) = n := by
  have h1 : 0 ≤ n ∧ n < 1000000000 := by unfold hasV at h; simpa using h
  have m : mayV (atA n) (atB n) (atC n) = true := by
    unfold mayV partB atA atB atC
    rw [h]
    simp
    omega
  refine ⟨m, ?_⟩
  rw [rank_of m]
  unfold atA atB atC
  rw [h]
  simp
  omega
theorem on_is {a b c k : Int} (h : mayV a b c = true) : onIs a b c k = hasV (rankV a b c + k) := by unfold onIs; rw [h]; rfl
theorem on_at {a b c k : Int} (h : mayV a b c = true) : onA a b c k = atA (rankV a b c + k) ∧ onB a b c k = atB (rankV a b c + k) ∧ onC a b c k = atC (rankV a b c + k) := by
  unfold onA onB onC; rw [h]; exact ⟨rfl, rfl, rfl⟩
theorem on_may {a b c k : Int} (h : onIs a b c k = true) : mayV a b c = true ∧ mayV (onA a b c k) (onB a b c k) (onC a b c k) = true ∧ rankV (onA a b c k) (onB a b c k) (onC a b c k) = rankV a b c + k := by
  have hm : mayV a b c = true := by unfold onIs at h; revert h; cases mayV a b c <;> simp
  rw [on_is hm] at h
  obtain ⟨e1, e2, e3⟩ := on_at (k := k) hm
  rw [e1, e2, e3]
  exact ⟨hm, may_at h⟩
theorem prev_is {a b c : Int} (h : mayV a b c = true) : onIs a b c (-1) = decide (0 < rankV a b c) := by
  have := rank_low h
  rw [on_is h]; unfold hasV
  rw [Bool.eq_iff_iff]; simp; omega
theorem next_is {a b c : Int} (h : mayV a b c = true) : onIs a b c 1 = decide (rankV a b c < 999999999) := by
  have := rank_low h
  rw [on_is h]; unfold hasV
  rw [Bool.eq_iff_iff]; simp; omega
/-- Next of Prev is the version. -/
theorem next_prev {a b c : Int} (h : onIs a b c (-1) = true) :
    onIs (onA a b c (-1)) (onB a b c (-1)) (onC a b c (-1)) 1 = true ∧ onA (onA a b c (-1)) (onB a b c (-1)) (onC a b c (-1)) 1 = a ∧ onB (onA a b c (-1)) (onB a b c (-1)) (onC a b c (-1)) 1 = b ∧ onC (onA a b c (-1)) (onB a b c (-1)) (onC a b c (-1)) 1 = c := by
  obtain ⟨hm, hp, hr⟩ := on_may h
  rw [on_is hp]
  obtain ⟨e1, e2, e3⟩ := on_at (k := 1) hp
  rw [e1, e2, e3, hr]
  have e : rankV a b c + -1 + 1 = rankV a b c := by omega
  rw [e]
  exact ⟨has_rank hm, at_rank hm⟩
theorem prev_less {a b c : Int} (h : onIs a b c (-1) = true) : cmpV (onA a b c (-1)) (onB a b c (-1)) (onC a b c (-1)) a b c = -1 := by
  obtain ⟨hm, hp, hr⟩ := on_may h
  have := (cmp_rank hp hm).2 (by omega)
  rcases cmp_range (onA a b c (-1)) (onB a b c (-1)) (onC a b c (-1)) a b c with e | e | e <;> omega
end Go.Proofs.YtkmgfemhfibikaaGreatDoor
