/- The walks of isPartByte and isPart: each answers as the plain function of the same name. No condition but the string's own length. -/
import Derived.Test.YtpkllhgohkgcmaaGreatDoorRows
import Derived.Test.YtpkllhgohkgcmaaGreatDoorMath1
import Derived.WalkKit
import Derived.WalkSpells
import Derived.WalkLawsBesides
namespace Go.Proofs.YtpkllhgohkgcmaaGreatDoor
open Go.RowKit

theorem ret_bool {a b : Bool} (h : a = b) : Ending.returned (.bool a) = .returned (.bool b) := by rw [h]

set_option maxHeartbeats 400000 in
theorem isPartByte_any (b : UInt8) (w : World) :
    Calls Tryz.prog 84 #[.int .u8 (b.toNat : Int)] w fun e w' => e = .returned (.bool (partByteB b)) ∧ w' = w := by
  go_enter Tryz.func84, Tryz.ntmps84
  go_wp2
  all_goals
    go_ret
    refine ⟨ret_bool ?_, rfl⟩
    rw [Bool.eq_iff_iff]
    simp [partByteB]
    omega

theorem size_list (s : ByteArray) : s.data.toList.length = s.size := rfl
theorem bytes_eq {s t : ByteArray} (h : s.data.toList = t.data.toList) : s = t := by
  cases s; cases t; simp only [ByteArray.mk.injEq]; exact Array.toList_inj.1 h

theorem all_get {p : UInt8 → Bool} {l : List UInt8} (h : ∀ i (hi : i < l.length), p l[i] = true) : l.all p = true := by
  rw [List.all_eq_true]
  intro x hx
  obtain ⟨i, hi, rfl⟩ := List.getElem_of_mem hx
  exact h i hi

theorem all_not {p : UInt8 → Bool} {l : List UInt8} (i : Nat) (hi : i < l.length) (h : p l[i] = false) : l.all p = false := by
  rw [Bool.eq_false_iff]
  intro ha
  rw [List.all_eq_true] at ha
  have := ha _ (List.getElem_mem hi)
  rw [h] at this
  cases this

theorem toList_data (s : ByteArray) : s.toList = s.data.toList := ByteArray.toList_eq s

theorem get_byte (s : ByteArray) (k : Nat) (h : k < s.size) : s.data.toList[k]'(by rw [size_list]; exact h) = s[k] := rfl

set_option maxHeartbeats 400000 in
theorem isPart_any (s : ByteArray) (w : World) (hs : s.size ≤ maxLen) :
    Calls Tryz.prog 68 #[.string s] w fun e w' => e = .returned (.bool (partB s.data.toList)) ∧ w' = w := by
  unfold maxLen at hs
  by_cases h0 : s.size = 0
  · have HP : Hid (partB s.data.toList = false) := by unfold Hid partB; rw [size_list]; simp [h0]
    go_enter Tryz.func68, Tryz.ntmps68
    go_wp2
    go_ret
    exact ⟨ret_bool HP.out.symm, rfl⟩
  by_cases h24 : 24 < s.size
  · have HP : Hid (partB s.data.toList = false) := by
      unfold Hid partB; rw [size_list]
      have : decide (s.size ≤ 24) = false := by simp; omega
      rw [this]; simp
    go_enter Tryz.func68, Tryz.ntmps68
    go_wp2
    go_ret
    exact ⟨ret_bool HP.out.symm, rfl⟩
  have b0 : ((s.size : Int) == 0) = false := beq_eq_false_iff_ne.2 (by omega)
  have b24 : decide (24 < (s.size : Int)) = false := by simp; omega
  have i24 : s.size ≤ 24 := by omega
  clear h0 h24
  by_cases h1 : (s.toList == [46]) = true
  · have HP : Hid (partB s.data.toList = false) := by
      unfold Hid partB; rw [← toList_data, h1]; simp
    go_enter Tryz.func68, Tryz.ntmps68
    go_wp2
    go_ret
    exact ⟨ret_bool HP.out.symm, rfl⟩
  rw [Bool.not_eq_true] at h1
  by_cases h2 : (s.toList == [46, 46]) = true
  · have HP : Hid (partB s.data.toList = false) := by
      unfold Hid partB; rw [← toList_data, h2]; simp
    go_enter Tryz.func68, Tryz.ntmps68
    go_wp2
    go_ret
    exact ⟨ret_bool HP.out.symm, rfl⟩
  rw [Bool.not_eq_true] at h2
  have HP : Hid (partB s.data.toList = s.data.toList.all partByteB) := by
    unfold Hid partB
    rw [← toList_data, h1, h2, toList_data, size_list]
    have : decide (s.size ≤ 24) = true := by simp; omega
    have e0 : (s.size == 0) = false := beq_eq_false_iff_ne.2 (by have := beq_eq_false_iff_ne.1 b0; omega)
    rw [this, e0]; simp
  go_enter Tryz.func68, Tryz.ntmps68
  go_wp2_with fail
  go_loop [22] (fun i => ∃ k : Nat, k ≤ s.size ∧ i = .int .i64 k ∧ ∀ j (hj : j < k) (hj' : j < s.size), partByteB s[j] = true) (fun i => s.size - (intOf i).toNat)
  case atStart => exact ⟨0, Nat.zero_le _, rfl, fun j hj => absurd hj (Nat.not_lt_zero _)⟩
  case round =>
    obtain ⟨k, hk, rfl, hall⟩ := hrel
    have HA : Hid (∀ j (hj : j < k) (hj' : j < s.size), partByteB s[j] = true) := hall
    clear hall
    by_cases hlt : k < s.size
    · by_cases hb : partByteB s[k] = true
      · go_wp2_with (go_at_call 84; refine (isPartByte_any _ _).mono ?_; rintro e w' ⟨rfl, rfl⟩)
        refine ⟨⟨k + 1, by omega, by go_num, fun j hj hj' => ?_⟩, by simp [intOf]; omega⟩
        by_cases e : j = k
        · subst e; exact hb
        · exact HA.out j (by omega) hj'
      · rw [Bool.not_eq_true] at hb
        go_wp2_with (go_at_call 84; refine (isPartByte_any _ _).mono ?_; rintro e w' ⟨rfl, rfl⟩)
        go_ret
        exact ⟨ret_bool (by rw [HP.out, all_not k hlt hb]), rfl⟩
    · go_wp2
      go_ret
      exact ⟨ret_bool (by rw [HP.out, all_get (fun j hj => HA.out j (by rw [size_list] at hj; omega) hj)]), rfl⟩

end Go.Proofs.YtpkllhgohkgcmaaGreatDoor
