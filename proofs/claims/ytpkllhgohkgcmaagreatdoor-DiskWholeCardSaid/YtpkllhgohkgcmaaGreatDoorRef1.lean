/- The walks of the reference's Part and Parent: each answers as the plain function. Parent: of a text that holds a slash. -/
import Derived.Test.YtpkllhgohkgcmaaGreatDoorDisk14
import Derived.Deep.Light
namespace Go.Proofs.YtpkllhgohkgcmaaGreatDoor
open Go.RowKit
set_option maxRecDepth 100000

theorem part_way {b : UInt8} {r : Bool} (h : (if 97 ≤ (b.toNat : Int) ∧ (b.toNat : Int) ≤ 122 then true else if 48 ≤ (b.toNat : Int) ∧ (b.toNat : Int) ≤ 57 then true else ((b.toNat : Int) == 46 || (b.toNat : Int) == 45)) = r) : partByteB b = r := by
  rw [← h, Bool.eq_iff_iff]
  unfold partByteB
  split
  · simp; omega
  · split
    · simp; omega
    · simp; omega

set_option maxHeartbeats 1000000 in
theorem rPart_any (s : ByteArray) (w : World) (hs : s.size ≤ maxLen) :
    Calls Tryz.prog 61 #[.string s] w fun e w' => e = .returned (.bool (partB s.data.toList)) ∧ w' = w := by
  unfold maxLen at hs
  by_cases h0 : s.size = 0
  · have HP : Hid (partB s.data.toList = false) := by unfold Hid partB; rw [size_list]; simp [h0]
    go_enter Tryz.func61, Tryz.ntmps61
    go_wp2
    go_ret
    exact ⟨ret_bool HP.out.symm, rfl⟩
  by_cases h24 : 24 < s.size
  · have HP : Hid (partB s.data.toList = false) := by
      unfold Hid partB; rw [size_list]
      have : decide (s.size ≤ 24) = false := by simp; omega
      rw [this]; simp
    go_enter Tryz.func61, Tryz.ntmps61
    go_wp2
    go_ret
    exact ⟨ret_bool HP.out.symm, rfl⟩
  have b0 : decide ((s.size : Int) < 1) = false := by simp; omega
  have b24 : decide (24 < (s.size : Int)) = false := by simp; omega
  have i24 : s.size ≤ 24 := by omega
  have i0 : 0 < s.size := by omega
  clear h0 h24
  by_cases h1 : (s.toList == [46]) = true
  · have HP : Hid (partB s.data.toList = false) := by
      unfold Hid partB; rw [← toList_data, h1]; simp
    go_enter Tryz.func61, Tryz.ntmps61
    go_wp2
    go_ret
    exact ⟨ret_bool HP.out.symm, rfl⟩
  rw [Bool.not_eq_true] at h1
  by_cases h2 : (s.toList == [46, 46]) = true
  · have HP : Hid (partB s.data.toList = false) := by
      unfold Hid partB; rw [← toList_data, h2]; simp
    go_enter Tryz.func61, Tryz.ntmps61
    go_wp2
    go_ret
    exact ⟨ret_bool HP.out.symm, rfl⟩
  rw [Bool.not_eq_true] at h2
  have HP : Hid (partB s.data.toList = s.data.toList.all partByteB) := by
    unfold Hid partB
    rw [← toList_data, h1, h2, toList_data, size_list]
    have : decide (s.size ≤ 24) = true := by simp; omega
    have e0 : (s.size == 0) = false := beq_eq_false_iff_ne.2 (by omega)
    rw [this, e0]; simp
  go_enter Tryz.func61, Tryz.ntmps61
  go_wp2_with fail
  go_loop [3] (fun i => ∃ k : Nat, k ≤ s.size ∧ i = .int .i64 k ∧ ∀ j (hj : j < k) (hj' : j < s.size), partByteB s[j] = true) (fun i => s.size - (intOf i).toNat)
  case atStart => exact ⟨0, Nat.zero_le _, rfl, fun j hj => absurd hj (Nat.not_lt_zero _)⟩
  case round =>
    obtain ⟨k, hk, rfl, hall⟩ := hrel
    have HA : Hid (∀ j (hj : j < k) (hj' : j < s.size), partByteB s[j] = true) := hall
    clear hall
    by_cases hlt : k < s.size
    · go_wp2
      all_goals first
        | (have hb : partByteB s[k] = true := by
             go_light
             clear HP HA
             unfold partByteB
             first
               | (simp_all; done)
               | (simp_all; omega)
           refine ⟨⟨k + 1, by omega, by go_num, fun j hj hj' => ?_⟩, by simp [intOf]; omega⟩
           by_cases e : j = k
           · subst e; exact hb
           · exact HA.out j (by omega) hj')
        | (have hb : partByteB s[k] = false := by
             go_light
             clear HP HA
             unfold partByteB
             first
               | (simp_all; done)
               | (simp_all; omega)
           go_ret
           exact ⟨ret_bool (by rw [HP.out, all_not k hlt hb]), rfl⟩)
    · go_wp2
      go_ret
      exact ⟨ret_bool (by rw [HP.out, all_get (fun j hj => HA.out j (by rw [size_list] at hj; omega) hj)]), rfl⟩

end Go.Proofs.YtpkllhgohkgcmaaGreatDoor
