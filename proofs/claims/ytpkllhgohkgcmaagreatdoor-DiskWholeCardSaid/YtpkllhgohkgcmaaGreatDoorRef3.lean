/- The reference's Parent answers as the plain function parentOf, of a text that holds a slash. -/
import Derived.Test.YtpkllhgohkgcmaaGreatDoorRef2
namespace Go.Proofs.YtpkllhgohkgcmaaGreatDoor
open Go.RowKit
set_option maxRecDepth 100000

/-- Where the last slash is. -/
theorem last_at {s : ByteArray} (h : 0 ≤ Lib.lastIndexByte s 47) : ∃ (i : Nat) (hi : i < s.size), Lib.lastIndexByte s 47 = i ∧ s[i] = 47 ∧ ∀ j (hj : j < s.size), i < j → s[j] ≠ 47 := by
  have get : ∀ j (hj : j < s.size), s.data[j]! = s[j] := fun j hj => by rw [getElem!_pos s.data j hj]; rfl
  have num : ∀ b : UInt8, ((b.toNat : Int) = 47) ↔ b = 47 := fun b => by
    constructor
    · intro e
      exact UInt8.toNat_inj.1 (by have : b.toNat = 47 := by omega
                                  rw [this]; rfl)
    · rintro rfl; rfl
  unfold Lib.lastIndexByte at h ⊢
  rcases Lib.lastIdx_spec s 47 s.size with ⟨e, _⟩ | ⟨i, hi, e, hc, hn⟩
  · rw [e] at h; omega
  · refine ⟨i, hi, e, ?_, fun j hj hij hc' => ?_⟩
    · rw [get i hi] at hc; exact (num _).1 hc
    · have := hn j hij hj
      rw [get j hj] at this
      exact this ((num _).2 hc')

theorem ret_str {a b : ByteArray} (h : a = b) : Ending.returned (.string a) = .returned (.string b) := by rw [h]

set_option maxHeartbeats 1000000 in
theorem rParent_any (s : ByteArray) (w : World) (hs : s.size ≤ maxLen) (hl : 0 ≤ Lib.lastIndexByte s 47) :
    Calls Tryz.prog 21 #[.string s] w fun e w' => e = .returned (.string (parentOf s)) ∧ w' = w := by
  unfold maxLen at hs
  obtain ⟨i, hi, he, hc, hn⟩ := last_at hl
  have HP : Hid (parentOf s = if (i : Int) = 0 then ⟨#[47]⟩ else s.extract 0 i) := by unfold Hid parentOf; rw [he]; simp
  have HC : Hid (s[i] = 47) := hc
  have HN : Hid (∀ j (hj : j < s.size), i < j → s[j] ≠ 47) := hn
  clear hl he hc hn
  go_enter Tryz.func21, Tryz.ntmps21
  go_wp2_with fail
  go_loop [3] (fun t => ∃ k : Nat, k < s.size ∧ i ≤ k ∧ t = .int .i64 k) (fun t => (intOf t).toNat)
  case atStart => exact ⟨s.size - 1, by omega, by omega, by go_num⟩
  case round =>
    obtain ⟨k, hk, hik, rfl⟩ := hrel
    by_cases h0 : 0 < k
    · by_cases hki : k = i
      · subst hki
        have hcn : ((s[k].toNat : Int) == 47) = true := by rw [HC.out]; rfl
        go_wp2
        go_ret
        exact ⟨ret_str (by rw [HP.out, if_neg (by omega)]), rfl⟩
      · have hcn : ((s[k].toNat : Int) == 47) = false := by
          rw [beq_eq_false_iff_ne]
          intro e
          exact HN.out k hk (by omega) (UInt8.toNat_inj.1 (by have : s[k].toNat = 47 := by omega
                                                              rw [this]; rfl))
        go_wp2
        refine ⟨⟨k - 1, by omega, by omega, by go_num⟩, by simp [intOf]; omega⟩
    · have hk0 : k = 0 := by omega
      subst hk0
      have hi0 : i = 0 := by omega
      go_wp2
      go_ret
      exact ⟨ret_str (by rw [HP.out, if_pos (by omega)]), rfl⟩

end Go.Proofs.YtpkllhgohkgcmaaGreatDoor
