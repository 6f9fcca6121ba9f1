/- VersNext of any three versions: the ways put together. -/
import Derived.Test.YtiimlfocgdfbfaaDoorNext2
namespace Go.Proofs.YtiimlfocgdfbfaaDoor
open Go.RowKit
set_option maxRecDepth 100000

theorem cmp_le {a b c x y z r s t : Int} (h1 : mayV a b c = true) (h2 : mayV x y z = true) (h3 : mayV r s t = true) (hk : 0 ≤ cmpV x y z a b c) (hj : cmpV x y z r s t ≤ 0) : cmpV a b c r s t ≤ 0 := by
  have e1 := cmp_rank h2 h1
  have e2 := cmp_rank h3 h2
  have e3 := cmp_rank h3 h1
  have n1 := cmp_neg a b c r s t
  have n2 := cmp_neg x y z r s t
  have r1 := cmp_rank_eq h1 h3
  rcases cmp_range a b c r s t with e | e | e
  · omega
  · omega
  · have : rankV r s t < rankV a b c := e3.1 (by omega)
    omega

theorem print_on {W : World} (h : Lib.TabIs Tryd.prog W "internal/strconv.uint64pow10" .u64 Lib.pow10Tab) (a b c : Int) (w1 : World) (hb : Below W.heap.size W w1) :
    Calls Tryd.prog 24 #[.agg #[.int .i64 a, .int .i64 b, .int .i64 c]] w1 fun e w' => e = .returned (.string (textV a b c)) ∧ Below w1.heap.size w1 w' := by
  refine Print_any a b c w1 (fun m => ?_) (fun m => ?_) (fun m => ?_) <;> (obtain ⟨a0, a1, b0, b1, c0, c1⟩ := may_all m)
  · exact spells_tab h w1 hb a a0 a1
  · exact spells_tab h w1 hb b b0 b1
  · exact spells_tab h w1 hb c c0 c1

theorem next_walk (a b c x y z r s t : Int) (w : World) (ht : Lib.TabIs Tryd.prog w "internal/strconv.uint64pow10" .u64 Lib.pow10Tab) :
    Calls Tryd.prog 8 #[.agg #[.int .i64 a, .int .i64 b, .int .i64 c], .agg #[.int .i64 x, .int .i64 y, .int .i64 z], .agg #[.int .i64 r, .int .i64 s, .int .i64 t]] w fun e w' => e = .returned (.bool true) ∧ Below w.heap.size w w' := by
  have H0 := rMay_any a b c
  have H1 := rMay_any x y z
  have H2 := rMay_any r s t
  cases h0 : mayV a b c
  · rw [h0] at H0
    exact next_no_a a b c x y z r s t w known_any H0
  cases h1 : mayV x y z
  · rw [h0] at H0; rw [h1] at H1
    exact next_no_b a b c x y z r s t w known_any H0 H1
  cases h2 : mayV r s t
  · rw [h0] at H0; rw [h1] at H1; rw [h2] at H2
    exact next_no_c a b c x y z r s t w known_any H0 H1 H2
  rw [h0] at H0; rw [h1] at H1; rw [h2] at H2
  have HN := Next_any a b c
  have HP := Prev_any a b c
  have HC := Compare_any x y z a b c
  have HI := Compare_any x y z (onA a b c 1) (onB a b c 1) (onC a b c 1)
  have HJ := Compare_any x y z (onA a b c (-1)) (onB a b c (-1)) (onC a b c (-1))
  have HL := Compare_any a b c x y z
  rw [cmp_neg a b c x y z] at HL
  have HM := Compare_any x y z r s t
  have HQ := Compare_any a b c r s t
  have HS := print_on ht a b c
  have HT := print_on ht x y z
  have hj : 0 ≤ cmpV x y z a b c → cmpV x y z r s t ≤ 0 → cmpV a b c r s t ≤ 0 := cmp_le h0 h1 h2
  have lo := rank_low h0
  have lo1 := rank_low h1
  have e1 := cmp_rank h1 h0
  have e2 := cmp_rank_eq h1 h0
  have er := cmp_range x y z a b c
  have hn1 : onIs a b c 1 = true → (0 < cmpV x y z a b c ↔ 0 ≤ cmpV x y z (onA a b c 1) (onB a b c 1) (onC a b c 1)) := by
    intro h
    obtain ⟨_, hp, hr⟩ := on_may h
    have f1 := cmp_rank h1 hp
    have fr := cmp_range x y z (onA a b c 1) (onB a b c 1) (onC a b c 1)
    omega
  have hn0 : onIs a b c 1 = false → cmpV x y z a b c ≤ 0 := by
    intro h
    rw [next_is h0] at h
    have := of_decide_eq_false h
    omega
  have hp1 : onIs a b c (-1) = true → (cmpV x y z a b c < 0 ↔ cmpV x y z (onA a b c (-1)) (onB a b c (-1)) (onC a b c (-1)) ≤ 0) := by
    intro h
    obtain ⟨_, hp, hr⟩ := on_may h
    have f1 := cmp_rank h1 hp
    have f2 := cmp_rank_eq h1 hp
    have fr := cmp_range x y z (onA a b c (-1)) (onB a b c (-1)) (onC a b c (-1))
    omega
  have hp0 : onIs a b c (-1) = false → 0 ≤ cmpV x y z a b c := by
    intro h
    rw [prev_is h0] at h
    have := of_decide_eq_false h
    omega
  by_cases hE : a = x ∧ b = y ∧ c = z
  · obtain ⟨rfl, rfl, rfl⟩ := hE
    cases i1 : onIs a b c 1 <;> cases i2 : onIs a b c (-1)
    · rw [next_is h0] at i1; rw [prev_is h0] at i2
      have := of_decide_eq_false i1; have := of_decide_eq_false i2; omega
    · rw [i1] at HN; rw [i2] at HP
      exact next_last_eq a b c r s t _ _ _ _ _ _ _ _ _ _ _ w hj (hn0 i1) (hp1 i2) known_any H0 H1 H2 HN HP HC HJ HL HM HQ HS HT
    · rw [i1] at HN; rw [i2] at HP
      exact next_first_eq a b c r s t _ _ _ _ _ _ _ _ _ _ _ w hj (hn1 i1) (hp0 i2) known_any H0 H1 H2 HN HP HC HI HL HM HQ HS HT
    · rw [i1] at HN; rw [i2] at HP
      exact next_both_eq a b c r s t _ _ _ _ _ _ _ _ _ _ _ _ w hj (hn1 i1) (hp1 i2) known_any H0 H1 H2 HN HP HC HI HJ HL HM HQ HS HT
  · have hST : (textV a b c).toList ≠ (textV x y z).toList := by
      intro e
      refine hE ((text_inj h0 h1).1 ?_)
      rw [ByteArray.toList_eq, ByteArray.toList_eq] at e
      revert e
      cases textV a b c; cases textV x y z
      intro e
      simp only [ByteArray.mk.injEq]
      exact Array.toList_inj.1 e
    cases i1 : onIs a b c 1 <;> cases i2 : onIs a b c (-1)
    · rw [next_is h0] at i1; rw [prev_is h0] at i2
      have := of_decide_eq_false i1; have := of_decide_eq_false i2; omega
    · rw [i1] at HN; rw [i2] at HP
      exact next_last_ne a b c x y z r s t _ _ _ _ _ _ _ _ _ _ _ _ w hj hST hE (hn0 i1) (hp1 i2) known_any H0 H1 H2 HN HP HC HJ HL HM HQ HS HT
    · rw [i1] at HN; rw [i2] at HP
      exact next_first_ne a b c x y z r s t _ _ _ _ _ _ _ _ _ _ _ _ w hj hST hE (hn1 i1) (hp0 i2) known_any H0 H1 H2 HN HP HC HI HL HM HQ HS HT
    · rw [i1] at HN; rw [i2] at HP
      exact next_both_ne a b c x y z r s t _ _ _ _ _ _ _ _ _ _ _ _ _ w hj hST hE (hn1 i1) (hp1 i2) known_any H0 H1 H2 HN HP HC HI HJ HL HM HQ HS HT
end Go.Proofs.YtiimlfocgdfbfaaDoor
