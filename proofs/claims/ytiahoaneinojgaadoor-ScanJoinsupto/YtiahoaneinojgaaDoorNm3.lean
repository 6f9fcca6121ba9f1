/- The document's Name. -/
import Derived.Test.YtiahoaneinojgaaDoorNm2
namespace Go.Proofs.YtiahoaneinojgaaDoor.Sc
open Go.RowKit
set_option maxRecDepth 100000

theorem ltB_iff (b : UInt8) : ltB b = true ↔ 97 ≤ b.toNat ∧ b.toNat ≤ 122 := by simp [ltB]
theorem dgB_iff (b : UInt8) : dgB b = true ↔ 48 ≤ b.toNat ∧ b.toNat ≤ 57 := by simp [dgB]
theorem nmB_iff (b : UInt8) : nmB b = true ↔ (97 ≤ b.toNat ∧ b.toNat ≤ 122) ∨ (48 ≤ b.toNat ∧ b.toNat ≤ 57) ∨ b.toNat = 45 := by
  unfold nmB
  rw [Bool.or_eq_true, Bool.or_eq_true, ltB_iff, dgB_iff, decide_eq_true_eq, or_assoc]

set_option maxHeartbeats 6400000 in
theorem rName_any (s : ByteArray) (hs : s.size ≤ 281474976710656) (w : World) : Calls Tryd.prog 17 #[.string s] w fun e w' => e = .returned (.bool (nameA s.data.toList)) ∧ w' = w := by
  go_enter Tryd.func17, Tryd.ntmps17
  go_wp2
  go_loop [3] (fun i => ∃ k : Nat, k ≤ s.size ∧ i = .int .i64 k ∧ (s.data.toList.take k).all nmB = true ∧ (k = 0 ∨ headB s.data.toList = true)) (fun i => s.size - (intOf i).toNat)
  case atStart => exact ⟨0, Nat.zero_le _, rfl, rfl, Or.inl rfl⟩
  case round =>
    obtain ⟨k, hk, rfl, hal, hhd⟩ := hrel
    have HA := hide3 hal
    have HH := hide3 hhd
    clear hal hhd
    by_cases hlt : k < s.size
    · by_cases h1 : 97 ≤ s[k].toNat ∧ s[k].toNat ≤ 122
      · have HA2 := hide3 (all_more hlt HA.out ((nmB_iff _).2 (Or.inl h1)))
        have HH2 : Hid (k + 1 = 0 ∨ headB s.data.toList = true) := by
          rcases HH.out with rfl | h
          · exact Or.inr (by rw [head_at hlt]; exact (ltB_iff _).2 h1)
          · exact Or.inr h
        obtain ⟨a1, a2⟩ := h1
        have b2 : decide ((s[k].toNat : Int) ≤ 122) = true := decide_eq_true (by omega)
        have b4 : decide ((s[k].toNat : Int) ≤ 57) = false := decide_eq_false (by omega)
        go_wp2
        exact ⟨⟨k + 1, by omega, by go_num, HA2.out, HH2.out⟩, by simp [intOf]; omega⟩
      · by_cases hz : k = 0
        · have HR : Hid (nameA s.data.toList = false) := by
            unfold Hid nameA
            subst hz
            rw [head_at hlt]
            have : ltB s[0] = false := by rw [Bool.eq_false_iff]; intro h; exact h1 ((ltB_iff _).1 h)
            rw [this]; rfl
          have ez : ((k : Int) == 0) = true := by rw [hz]; rfl
          by_cases h2 : 97 ≤ s[k].toNat
          · have h3 : 122 < s[k].toNat := by omega
            have b2 : decide ((s[k].toNat : Int) ≤ 122) = false := decide_eq_false (by omega)
            have b4 : decide ((s[k].toNat : Int) ≤ 57) = false := decide_eq_false (by omega)
            clear h1 hz
            go_wp2
            go_ret
            exact ⟨ret_bool HR.out.symm, rfl⟩
          · clear h1 hz
            by_cases d1 : 48 ≤ s[k].toNat
            · by_cases d2 : s[k].toNat ≤ 57
              · have b4 : decide ((s[k].toNat : Int) ≤ 57) = true := decide_eq_true (by omega)
                go_wp2
                go_ret
                exact ⟨ret_bool HR.out.symm, rfl⟩
              · have b4 : decide ((s[k].toNat : Int) ≤ 57) = false := decide_eq_false (by omega)
                go_wp2
                go_ret
                exact ⟨ret_bool HR.out.symm, rfl⟩
            · go_wp2
              all_goals
                go_ret
                exact ⟨ret_bool HR.out.symm, rfl⟩
        · have ez : ((k : Int) == 0) = false := by rw [beq_eq_false_iff_ne]; omega
          have HH2 : Hid (k + 1 = 0 ∨ headB s.data.toList = true) := Or.inr (HH.out.resolve_left hz)
          by_cases h2 : (48 ≤ s[k].toNat ∧ s[k].toNat ≤ 57) ∨ s[k].toNat = 45
          · have HA2 := hide3 (all_more hlt HA.out ((nmB_iff _).2 (Or.inr h2)))
            by_cases hm : s[k].toNat = 45
            · have em : ((s[k].toNat : Int) == 45) = true := by rw [beq_iff_eq]; omega
              have c1 : ¬ 97 ≤ s[k].toNat := by omega
              have c2 : ¬ 48 ≤ s[k].toNat := by omega
              clear h1 h2 hz hm
              go_wp2
              exact ⟨⟨k + 1, by omega, by go_num, HA2.out, HH2.out⟩, by simp [intOf]; omega⟩
            · obtain ⟨d1, d2⟩ := h2.resolve_right hm
              have c1 : ¬ 97 ≤ s[k].toNat := by omega
              have b4 : decide ((s[k].toNat : Int) ≤ 57) = true := decide_eq_true (by omega)
              clear h1 h2 hz hm
              go_wp2
              exact ⟨⟨k + 1, by omega, by go_num, HA2.out, HH2.out⟩, by simp [intOf]; omega⟩
          · have hn : nmB s[k] = false := by rw [Bool.eq_false_iff]; intro h; rcases (nmB_iff _).1 h with h | h; exact h1 h; exact h2 h
            have HR : Hid (nameA s.data.toList = false) := by unfold Hid nameA; rw [all_bad hlt hn]; simp
            have em : ((s[k].toNat : Int) == 45) = false := by rw [beq_eq_false_iff_ne]; omega
            by_cases c1 : 97 ≤ s[k].toNat
            · have c2 : 122 < s[k].toNat := by omega
              have b2 : decide ((s[k].toNat : Int) ≤ 122) = false := decide_eq_false (by omega)
              have b4 : decide ((s[k].toNat : Int) ≤ 57) = false := decide_eq_false (by omega)
              clear h1 h2 hz hn
              go_wp2
              go_ret
              exact ⟨ret_bool HR.out.symm, rfl⟩
            · by_cases d1 : 48 ≤ s[k].toNat
              · have d2 : 57 < s[k].toNat := by omega
                have b4 : decide ((s[k].toNat : Int) ≤ 57) = false := decide_eq_false (by omega)
                clear h1 h2 hz hn
                go_wp2
                go_ret
                exact ⟨ret_bool HR.out.symm, rfl⟩
              · clear h1 h2 hz hn
                go_wp2
                go_ret
                exact ⟨ret_bool HR.out.symm, rfl⟩
    · have hke : k = s.size := by omega
      subst hke
      cases he : s.toList.isEmpty
      · have h0 := size_pos he
        have hh := HH.out.resolve_left (by omega)
        by_cases h16 : s.size ≤ 16
        · have HR : Hid (nameA s.data.toList = true) := by unfold Hid nameA; rw [hh, all_end HA.out, list_size, decide_eq_true h16]; rfl
          clear hh
          go_wp2
          go_ret
          exact ⟨ret_bool ((decide_eq_true (by omega)).trans HR.out.symm), rfl⟩
        · have HR : Hid (nameA s.data.toList = false) := by unfold Hid nameA; rw [list_size, decide_eq_false h16]; simp
          clear hh
          go_wp2
          go_ret
          exact ⟨ret_bool ((decide_eq_false (by omega)).trans HR.out.symm), rfl⟩
      · have HR : Hid (nameA s.data.toList = false) := nameA_empty (by rw [← empty_is]; exact he)
        go_wp2
        go_ret
        exact ⟨ret_bool HR.out.symm, rfl⟩
end Go.Proofs.YtiahoaneinojgaaDoor.Sc
