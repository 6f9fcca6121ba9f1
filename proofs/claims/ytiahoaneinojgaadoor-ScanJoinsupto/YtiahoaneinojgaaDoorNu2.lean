/- The document's Number. -/
import Derived.Test.YtiahoaneinojgaaDoorNu1
namespace Go.Proofs.YtiahoaneinojgaaDoor.Sc
open Go.RowKit
set_option maxRecDepth 100000

theorem drop_at' {t : ByteArray} {k : Nat} (h : k < t.size) : t.data.toList.drop k = t[k] :: t.data.toList.drop (k + 1) := List.drop_eq_getElem_cons (by rw [list_size]; exact h)
theorem numF_ok {n : Nat} {b : UInt8} (r : Bs) (h : 48 ≤ b.toNat ∧ b.toNat ≤ 57) (hf : n ≤ (9223372036854775807 - (b.toNat - 48)) / 10) : numF n (b :: r) = numF (10 * n + (b.toNat - 48)) r := by
  conv => lhs; unfold numF; rw [if_pos ⟨h.1, h.2, (fitN_iff _ _).2 hf⟩]
theorem numF_no {n : Nat} {b : UInt8} (r : Bs) (h : ¬ (48 ≤ b.toNat ∧ b.toNat ≤ 57 ∧ n ≤ (9223372036854775807 - (b.toNat - 48)) / 10)) : numF n (b :: r) = none := by
  unfold numF
  rw [if_neg]
  rw [fitN_iff]
  exact h

set_option maxHeartbeats 6400000 in
theorem rNumber_any (s : ByteArray) (hs : s.size ≤ 281474976710656) (most : Int) (w : World) : NumP 15 s most w := by
  unfold NumP
  cases he : s.toList.isEmpty
  · have h0 := size_pos he
    have hd0 := drop_at' h0
    rw [List.drop_zero] at hd0
    by_cases hz : s[0].toNat = 48 ∧ 1 < s.size
    · have HA : Hid (ansI s.data.toList most = 0 ∧ ansB s.data.toList most = false) := by
        have hh : s.data.toList.head? = some 48 := by
          have : s[0] = 48 := UInt8.toNat_inj.1 hz.1
          rw [hd0, this]
          rfl
        refine ans_none ?_ most
        unfold refN
        rw [if_pos (Or.inr ⟨hh, by rw [list_size]; exact hz.2⟩)]
      have e48 : ((s[0].toNat : Int) == 48) = true := by rw [beq_iff_eq]; omega
      obtain ⟨_, h1⟩ := hz
      clear hd0
      go_enter Tryd.func15, Tryd.ntmps15
      go_wp2
      go_ret2
      exact ⟨ret_num HA.out.1.symm HA.out.2.symm, Below.refl _ _⟩
    · have HF : Hid (refN s.data.toList = numF 0 s.data.toList) := by
        unfold Hid refN
        rw [if_neg]
        rintro (h1 | ⟨h1, h2⟩)
        · rw [hd0] at h1; cases h1
        · rw [hd0] at h1
          injection h1 with h1
          exact hz ⟨by rw [h1]; rfl, by rw [list_size] at h2; exact h2⟩
      have HT : Hid (s[0].toNat ≠ 48 ∨ s.size = 1) := by
        unfold Hid
        rcases Nat.lt_or_ge 1 s.size with h | h
        · exact Or.inl fun e => hz ⟨e, h⟩
        · exact Or.inr (by omega)
      have key : Calls Tryd.prog 15 #[.string s, .int .i64 most] w fun e w' => e = .returned (.tuple #[.int .i64 (ansI s.data.toList most), .bool (ansB s.data.toList most)]) ∧ Below w.heap.size w w' := by
        clear hd0 hz
        rcases HT.out with h48 | h1
        · have e48 : ((s[0].toNat : Int) == 48) = false := by rw [beq_eq_false_iff_ne]; omega
          clear h48
          go_enter Tryd.func15, Tryd.ntmps15
          go_wp2
          go_loop [6, 7] (fun n i => ∃ k m : Nat, k ≤ s.size ∧ i = .int .i64 k ∧ n = .int .i64 m ∧ m ≤ 9223372036854775807 ∧ numF 0 s.data.toList = numF m (s.data.toList.drop k)) (fun _ i => s.size - (intOf i).toNat)
          case atStart => exact ⟨0, 0, Nat.zero_le _, rfl, rfl, Nat.zero_le _, rfl⟩
          case round =>
            obtain ⟨k, m, hk, rfl, rfl, hmm, hnf⟩ := hrel
            have HN := hide3 hnf
            clear hnf
            by_cases hlt : k < s.size
            · have hd := drop_at' hlt
              by_cases hdg : 48 ≤ s[k].toNat ∧ s[k].toNat ≤ 57
              · obtain ⟨c, hc⟩ : ∃ c, c = (9223372036854775807 - (s[k].toNat - 48)) / 10 := ⟨_, rfl⟩
                have hq : (9223372036854775807 - ((s[k].toNat : Int) - 48)).tdiv 10 = (c : Int) := by rw [Int.tdiv_eq_ediv_of_nonneg (by omega)]; omega
                have hcb : c ≤ 922337203685477580 := by omega
                by_cases hf : m ≤ c
                · have HN2 : Hid (numF 0 s.data.toList = numF (10 * m + (s[k].toNat - 48)) (s.data.toList.drop (k + 1))) := by
                    unfold Hid
                    rw [HN.out, hd, numF_ok _ hdg (by omega)]
                  have hb : 10 * m + (s[k].toNat - 48) ≤ 9223372036854775807 := by omega
                  have hi : ((10 * m + (s[k].toNat - 48) : Nat) : Int) = 10 * (m : Int) + ((s[k].toNat : Int) - 48) := by omega
                  obtain ⟨a1, a2⟩ := hdg
                  clear hd hc
                  go_wp2
                  exact ⟨⟨k + 1, 10 * m + (s[k].toNat - 48), by omega, by go_num, by rw [hi], hb, HN2.out⟩, by simp [intOf]; omega⟩
                · have HA : Hid (ansI s.data.toList most = 0 ∧ ansB s.data.toList most = false) := ans_none (by rw [HF.out, HN.out, hd, numF_no _ (by omega)]) most
                  obtain ⟨a1, a2⟩ := hdg
                  clear hd hc
                  go_wp2
                  go_ret2
                  exact ⟨ret_num HA.out.1.symm HA.out.2.symm, Below.refl _ _⟩
              · have HA : Hid (ansI s.data.toList most = 0 ∧ ansB s.data.toList most = false) := ans_none (by rw [HF.out, HN.out, hd, numF_no _ (by omega)]) most
                have hu : s[k].toNat < 256 := UInt8.toNat_lt _
                by_cases a1 : s[k].toNat < 48
                · clear hd hdg
                  go_wp2
                  go_ret2
                  exact ⟨ret_num HA.out.1.symm HA.out.2.symm, Below.refl _ _⟩
                · have a2 : 57 < s[k].toNat := by omega
                  clear hd hdg
                  go_wp2
                  go_ret2
                  exact ⟨ret_num HA.out.1.symm HA.out.2.symm, Below.refl _ _⟩
            · have hr : refN s.data.toList = some m := by
                rw [HF.out, HN.out, List.drop_of_length_le (by rw [list_size]; omega)]
                rfl
              by_cases hm : (m : Int) ≤ most
              · have HA := hide3 (ans_ok hr hm)
                clear hr
                go_wp2
                go_ret2
                exact ⟨ret_num HA.out.1.symm HA.out.2.symm, Below.refl _ _⟩
              · have HA := hide3 (ans_far hr hm)
                clear hr
                go_wp2
                go_ret2
                exact ⟨ret_num HA.out.1.symm HA.out.2.symm, Below.refl _ _⟩
        · have h1' : ¬ 1 < s.size := by omega
          go_enter Tryd.func15, Tryd.ntmps15
          by_cases h48 : s[0].toNat = 48
          · have e48 : ((s[0].toNat : Int) == 48) = true := by rw [beq_iff_eq]; omega
            clear h48
            go_wp2
            go_loop [6, 7] (fun n i => ∃ k m : Nat, k ≤ s.size ∧ i = .int .i64 k ∧ n = .int .i64 m ∧ m ≤ 9223372036854775807 ∧ numF 0 s.data.toList = numF m (s.data.toList.drop k)) (fun _ i => s.size - (intOf i).toNat)
            case atStart => exact ⟨0, 0, Nat.zero_le _, rfl, rfl, Nat.zero_le _, rfl⟩
            case round =>
              obtain ⟨k, m, hk, rfl, rfl, hmm, hnf⟩ := hrel
              have HN := hide3 hnf
              clear hnf
              by_cases hlt : k < s.size
              · have hd := drop_at' hlt
                by_cases hdg : 48 ≤ s[k].toNat ∧ s[k].toNat ≤ 57
                · obtain ⟨c, hc⟩ : ∃ c, c = (9223372036854775807 - (s[k].toNat - 48)) / 10 := ⟨_, rfl⟩
                  have hq : (9223372036854775807 - ((s[k].toNat : Int) - 48)).tdiv 10 = (c : Int) := by rw [Int.tdiv_eq_ediv_of_nonneg (by omega)]; omega
                  have hcb : c ≤ 922337203685477580 := by omega
                  by_cases hf : m ≤ c
                  · have HN2 : Hid (numF 0 s.data.toList = numF (10 * m + (s[k].toNat - 48)) (s.data.toList.drop (k + 1))) := by
                      unfold Hid
                      rw [HN.out, hd, numF_ok _ hdg (by omega)]
                    have hb : 10 * m + (s[k].toNat - 48) ≤ 9223372036854775807 := by omega
                    have hi : ((10 * m + (s[k].toNat - 48) : Nat) : Int) = 10 * (m : Int) + ((s[k].toNat : Int) - 48) := by omega
                    obtain ⟨a1, a2⟩ := hdg
                    clear hd hc
                    go_wp2
                    exact ⟨⟨k + 1, 10 * m + (s[k].toNat - 48), by omega, by go_num, by rw [hi], hb, HN2.out⟩, by simp [intOf]; omega⟩
                  · have HA : Hid (ansI s.data.toList most = 0 ∧ ansB s.data.toList most = false) := ans_none (by rw [HF.out, HN.out, hd, numF_no _ (by omega)]) most
                    obtain ⟨a1, a2⟩ := hdg
                    clear hd hc
                    go_wp2
                    go_ret2
                    exact ⟨ret_num HA.out.1.symm HA.out.2.symm, Below.refl _ _⟩
                · have HA : Hid (ansI s.data.toList most = 0 ∧ ansB s.data.toList most = false) := ans_none (by rw [HF.out, HN.out, hd, numF_no _ (by omega)]) most
                  have hu : s[k].toNat < 256 := UInt8.toNat_lt _
                  by_cases a1 : s[k].toNat < 48
                  · clear hd hdg
                    go_wp2
                    go_ret2
                    exact ⟨ret_num HA.out.1.symm HA.out.2.symm, Below.refl _ _⟩
                  · have a2 : 57 < s[k].toNat := by omega
                    clear hd hdg
                    go_wp2
                    go_ret2
                    exact ⟨ret_num HA.out.1.symm HA.out.2.symm, Below.refl _ _⟩
              · have hr : refN s.data.toList = some m := by
                  rw [HF.out, HN.out, List.drop_of_length_le (by rw [list_size]; omega)]
                  rfl
                by_cases hm : (m : Int) ≤ most
                · have HA := hide3 (ans_ok hr hm)
                  clear hr
                  go_wp2
                  go_ret2
                  exact ⟨ret_num HA.out.1.symm HA.out.2.symm, Below.refl _ _⟩
                · have HA := hide3 (ans_far hr hm)
                  clear hr
                  go_wp2
                  go_ret2
                  exact ⟨ret_num HA.out.1.symm HA.out.2.symm, Below.refl _ _⟩
          · have e48 : ((s[0].toNat : Int) == 48) = false := by rw [beq_eq_false_iff_ne]; omega
            clear h48
            go_wp2
            go_loop [6, 7] (fun n i => ∃ k m : Nat, k ≤ s.size ∧ i = .int .i64 k ∧ n = .int .i64 m ∧ m ≤ 9223372036854775807 ∧ numF 0 s.data.toList = numF m (s.data.toList.drop k)) (fun _ i => s.size - (intOf i).toNat)
            case atStart => exact ⟨0, 0, Nat.zero_le _, rfl, rfl, Nat.zero_le _, rfl⟩
            case round =>
              obtain ⟨k, m, hk, rfl, rfl, hmm, hnf⟩ := hrel
              have HN := hide3 hnf
              clear hnf
              by_cases hlt : k < s.size
              · have hd := drop_at' hlt
                by_cases hdg : 48 ≤ s[k].toNat ∧ s[k].toNat ≤ 57
                · obtain ⟨c, hc⟩ : ∃ c, c = (9223372036854775807 - (s[k].toNat - 48)) / 10 := ⟨_, rfl⟩
                  have hq : (9223372036854775807 - ((s[k].toNat : Int) - 48)).tdiv 10 = (c : Int) := by rw [Int.tdiv_eq_ediv_of_nonneg (by omega)]; omega
                  have hcb : c ≤ 922337203685477580 := by omega
                  by_cases hf : m ≤ c
                  · have HN2 : Hid (numF 0 s.data.toList = numF (10 * m + (s[k].toNat - 48)) (s.data.toList.drop (k + 1))) := by
                      unfold Hid
                      rw [HN.out, hd, numF_ok _ hdg (by omega)]
                    have hb : 10 * m + (s[k].toNat - 48) ≤ 9223372036854775807 := by omega
                    have hi : ((10 * m + (s[k].toNat - 48) : Nat) : Int) = 10 * (m : Int) + ((s[k].toNat : Int) - 48) := by omega
                    obtain ⟨a1, a2⟩ := hdg
                    clear hd hc
                    go_wp2
                    exact ⟨⟨k + 1, 10 * m + (s[k].toNat - 48), by omega, by go_num, by rw [hi], hb, HN2.out⟩, by simp [intOf]; omega⟩
                  · have HA : Hid (ansI s.data.toList most = 0 ∧ ansB s.data.toList most = false) := ans_none (by rw [HF.out, HN.out, hd, numF_no _ (by omega)]) most
                    obtain ⟨a1, a2⟩ := hdg
                    clear hd hc
                    go_wp2
                    go_ret2
                    exact ⟨ret_num HA.out.1.symm HA.out.2.symm, Below.refl _ _⟩
                · have HA : Hid (ansI s.data.toList most = 0 ∧ ansB s.data.toList most = false) := ans_none (by rw [HF.out, HN.out, hd, numF_no _ (by omega)]) most
                  have hu : s[k].toNat < 256 := UInt8.toNat_lt _
                  by_cases a1 : s[k].toNat < 48
                  · clear hd hdg
                    go_wp2
                    go_ret2
                    exact ⟨ret_num HA.out.1.symm HA.out.2.symm, Below.refl _ _⟩
                  · have a2 : 57 < s[k].toNat := by omega
                    clear hd hdg
                    go_wp2
                    go_ret2
                    exact ⟨ret_num HA.out.1.symm HA.out.2.symm, Below.refl _ _⟩
              · have hr : refN s.data.toList = some m := by
                  rw [HF.out, HN.out, List.drop_of_length_le (by rw [list_size]; omega)]
                  rfl
                by_cases hm : (m : Int) ≤ most
                · have HA := hide3 (ans_ok hr hm)
                  clear hr
                  go_wp2
                  go_ret2
                  exact ⟨ret_num HA.out.1.symm HA.out.2.symm, Below.refl _ _⟩
                · have HA := hide3 (ans_far hr hm)
                  clear hr
                  go_wp2
                  go_ret2
                  exact ⟨ret_num HA.out.1.symm HA.out.2.symm, Below.refl _ _⟩
      exact key
  · have HA : Hid (ansI s.data.toList most = 0 ∧ ansB s.data.toList most = false) := by
      refine ans_none ?_ most
      unfold refN
      rw [empty_is] at he
      rw [if_pos (Or.inl (List.isEmpty_iff.1 he))]
    go_enter Tryd.func15, Tryd.ntmps15
    go_wp2
    go_ret2
    exact ⟨ret_num HA.out.1.symm HA.out.2.symm, Below.refl _ _⟩
end Go.Proofs.YtiahoaneinojgaaDoor.Sc
