/- The document's digit of package halyardref17. -/
import Derived.Test.YtefcndfeemnglaaDoorPy5
namespace Go.Proofs.YtefcndfeemnglaaDoor
open Go.RowKit Dk
set_option maxRecDepth 100000

/-- The worth of a digit; what is none is 0. -/
def digN (n : Nat) : Nat := if 48 ≤ n ∧ n ≤ 57 then n - 48 else if 97 ≤ n ∧ n ≤ 102 then n - 87 else 0
theorem digN_lt (n : Nat) : digN n < 16 := by unfold digN; split <;> (try split) <;> omega

set_option maxHeartbeats 800000 in
theorem digit_any (n : Nat) (hn : n < 256) (w : World) : Calls Tryd.prog 47 #[.int .u8 n] w fun e w' => e = .returned (.int .u8 (digN n)) ∧ w' = w := by
  by_cases h1 : 48 ≤ n
  · by_cases h2 : n ≤ 57
    · have HR : Hid (digN n = n - 48) := by unfold Hid digN; rw [if_pos ⟨h1, h2⟩]
      have w1 : IntKind.u8.wrap ((n : Int) - 48) = ((n - 48 : Nat) : Int) := by rw [IntKind.wrap_u8]; omega
      have i1 : (48 : Int) ≤ (n : Int) := by omega
      have i2 : (n : Int) ≤ 57 := by omega
      go_enter Tryd.func47, Tryd.ntmps47
      go_wp2
      go_ret
      exact ⟨by rw [HR.out]; rfl, rfl⟩
    · have i2 : ¬ (n : Int) ≤ 57 := by omega
      have i1 : (48 : Int) ≤ (n : Int) := by omega
      by_cases h3 : 97 ≤ n
      · have i3 : (97 : Int) ≤ (n : Int) := by omega
        by_cases h4 : n ≤ 102
        · have i4 : (n : Int) ≤ 102 := by omega
          have HR : Hid (digN n = n - 87) := by unfold Hid digN; rw [if_neg (by omega), if_pos ⟨h3, h4⟩]
          have w1 : IntKind.u8.wrap ((n : Int) - 97) = (n : Int) - 97 := by rw [IntKind.wrap_u8]; omega
          have w2 : IntKind.u8.wrap ((n : Int) - 97 + 10) = ((n - 87 : Nat) : Int) := by rw [IntKind.wrap_u8]; omega
          go_enter Tryd.func47, Tryd.ntmps47
          go_wp2
          go_ret
          exact ⟨by rw [HR.out]; rfl, rfl⟩
        · have i4 : ¬ (n : Int) ≤ 102 := by omega
          have HR : Hid (digN n = 0) := by unfold Hid digN; rw [if_neg (by omega), if_neg (by omega)]
          go_enter Tryd.func47, Tryd.ntmps47
          go_wp2
          go_ret
          exact ⟨by rw [HR.out]; rfl, rfl⟩
      · have i3 : ¬ (97 : Int) ≤ (n : Int) := by omega
        have HR : Hid (digN n = 0) := by unfold Hid digN; rw [if_neg (by omega), if_neg (by omega)]
        go_enter Tryd.func47, Tryd.ntmps47
        go_wp2
        go_ret
        exact ⟨by rw [HR.out]; rfl, rfl⟩
  · have i1 : ¬ (48 : Int) ≤ (n : Int) := by omega
    have i3 : ¬ (97 : Int) ≤ (n : Int) := by omega
    have HR : Hid (digN n = 0) := by unfold Hid digN; rw [if_neg (by omega), if_neg (by omega)]
    go_enter Tryd.func47, Tryd.ntmps47
    go_wp2
    go_ret
    exact ⟨by rw [HR.out]; rfl, rfl⟩
end Go.Proofs.YtefcndfeemnglaaDoor
