/- Name of both packages: the walks. -/
import Derived.Test.YtiahoaneinojgaaDoorNm1
namespace Go.Proofs.YtiahoaneinojgaaDoor.Sc
open Go.RowKit
set_option maxRecDepth 100000

def headB : Bs → Bool
  | [] => false
  | b :: _ => ltB b
/-- A name. -/
def nameA (t : Bs) : Bool := headB t && t.all nmB && decide (t.length ≤ 16)
theorem empty_is {p : ByteArray} : p.toList.isEmpty = p.data.toList.isEmpty := by rw [ByteArray.toList_eq]
theorem nameA_empty {t : Bs} (h : t.isEmpty = true) : nameA t = false := by cases t <;> simp_all [nameA, headB]
theorem head_at {s : ByteArray} (h : 0 < s.size) : headB s.data.toList = ltB s[0] := by
  have : s.data.toList = s[0] :: s.data.toList.drop 1 := by
    have := List.drop_eq_getElem_cons (l := s.data.toList) (i := 0) (by rw [list_size]; exact h)
    rw [List.drop_zero] at this
    exact this
  rw [this]
  rfl
theorem size_pos {s : ByteArray} (h : s.toList.isEmpty = false) : 0 < s.size := by
  rw [empty_is] at h
  rw [← list_size]
  cases hs : s.data.toList with
  | nil => rw [hs] at h; cases h
  | cons _ _ => simp
theorem all_bad {s : ByteArray} {k : Nat} (hk : k < s.size) {f : UInt8 → Bool} (h : f s[k] = false) : s.data.toList.all f = false := by
  rw [Bool.eq_false_iff]
  intro ha
  rw [List.all_eq_true] at ha
  have := ha s[k] (List.getElem_mem (l := s.data.toList) (n := k) (by rw [list_size]; exact hk))
  rw [h] at this; cases this
theorem all_more {s : ByteArray} {k : Nat} (hk : k < s.size) {f : UInt8 → Bool} (h : (s.data.toList.take k).all f = true) (hb : f s[k] = true) : (s.data.toList.take (k + 1)).all f = true := by
  rw [List.take_succ_eq_append_getElem (by rw [list_size]; exact hk), List.all_append, h]
  simp only [List.all_cons, List.all_nil, Bool.and_true, Bool.true_and]
  exact hb
theorem all_end {s : ByteArray} {f : UInt8 → Bool} (h : (s.data.toList.take s.size).all f = true) : s.data.toList.all f = true := by
  rw [List.take_of_length_le (by rw [list_size]; exact Nat.le_refl _)] at h
  exact h

set_option maxHeartbeats 3200000 in
theorem Name_any (s : ByteArray) (w : World) : Calls Tryd.prog 16 #[.string s] w fun e w' => e = .returned (.bool (nameA s.data.toList)) ∧ w' = w := by
  cases he : s.toList.isEmpty
  · have h0 := size_pos he
    by_cases h16 : s.size ≤ 16
    · have HH := hide3 (head_at h0)
      have HL := hide3 (letter_any s[0])
      cases hl : ltB s[0]
      · have HR : Hid (nameA s.data.toList = false) := by unfold Hid nameA; rw [HH.out, hl]; rfl
        rw [hl] at HL
        clear hl
        go_enter Tryd.func16, Tryd.ntmps16
        go_wp2_with (go_at_call 31; refine (HL.out _).mono ?_; rintro e w1 ⟨rfl, hw1⟩; subst hw1)
        go_ret
        exact ⟨ret_bool HR.out.symm, rfl⟩
      · rw [hl] at HL HH
        clear hl
        have HLT : Hid (∀ b : UInt8, ∀ w1, Calls Tryd.prog 31 #[.int .u8 (b.toNat : Int)] w1 fun e w' => e = .returned (.bool (ltB b)) ∧ w' = w1) := letter_any
        have HDG : Hid (∀ b : UInt8, ∀ w1, Calls Tryd.prog 32 #[.int .u8 (b.toNat : Int)] w1 fun e w' => e = .returned (.bool (dgB b)) ∧ w' = w1) := digit_any
        go_enter Tryd.func16, Tryd.ntmps16
        go_wp2_with (go_at_call 31; refine (HL.out _).mono ?_; rintro e w1 ⟨rfl, hw1⟩; subst hw1; clear HL)
        go_loop [19] (fun i => ∃ k : Nat, k ≤ s.size ∧ i = .int .i64 k ∧ (s.data.toList.take k).all nmB = true) (fun i => s.size - (intOf i).toNat)
        case atStart => exact ⟨0, Nat.zero_le _, rfl, rfl⟩
        case round =>
          obtain ⟨k, hk, rfl, hal⟩ := hrel
          have HA := hide3 hal
          clear hal
          by_cases hlt : k < s.size
          · have HLk := hide3 (HLT.out s[k])
            have HDk := hide3 (HDG.out s[k])
            cases h1 : ltB s[k]
            · cases h2 : dgB s[k]
              · by_cases h3 : s[k].toNat = 45
                · have hn : nmB s[k] = true := by unfold nmB; rw [h1, h2, decide_eq_true h3]; rfl
                  have HA2 := hide3 (all_more hlt HA.out hn)
                  have e3 : ((s[k].toNat : Int) == 45) = true := by rw [beq_iff_eq]; omega
                  rw [h1] at HLk
                  rw [h2] at HDk
                  clear h1 h2 h3 hn
                  go_wp2_with (first | (go_at_call 31; refine (HLk.out _).mono ?_; rintro e w1 ⟨rfl, hw1⟩; subst hw1) | (go_at_call 32; refine (HDk.out _).mono ?_; rintro e w1 ⟨rfl, hw1⟩; subst hw1))
                  exact ⟨⟨k + 1, by omega, by go_num, HA2.out⟩, by simp [intOf]; omega⟩
                · have hn : nmB s[k] = false := by unfold nmB; rw [h1, h2, decide_eq_false h3]; rfl
                  have HR : Hid (nameA s.data.toList = false) := by unfold Hid nameA; rw [all_bad hlt hn]; simp
                  have e3 : ((s[k].toNat : Int) == 45) = false := by rw [beq_eq_false_iff_ne]; omega
                  rw [h1] at HLk
                  rw [h2] at HDk
                  clear h1 h2 h3 hn
                  go_wp2_with (first | (go_at_call 31; refine (HLk.out _).mono ?_; rintro e w1 ⟨rfl, hw1⟩; subst hw1) | (go_at_call 32; refine (HDk.out _).mono ?_; rintro e w1 ⟨rfl, hw1⟩; subst hw1))
                  go_ret
                  exact ⟨ret_bool HR.out.symm, rfl⟩
              · have hn : nmB s[k] = true := by unfold nmB; rw [h1, h2]; rfl
                have HA2 := hide3 (all_more hlt HA.out hn)
                rw [h1] at HLk
                rw [h2] at HDk
                clear h1 h2 hn
                go_wp2_with (first | (go_at_call 31; refine (HLk.out _).mono ?_; rintro e w1 ⟨rfl, hw1⟩; subst hw1) | (go_at_call 32; refine (HDk.out _).mono ?_; rintro e w1 ⟨rfl, hw1⟩; subst hw1))
                exact ⟨⟨k + 1, by omega, by go_num, HA2.out⟩, by simp [intOf]; omega⟩
            · have hn : nmB s[k] = true := by unfold nmB; rw [h1]; rfl
              have HA2 := hide3 (all_more hlt HA.out hn)
              rw [h1] at HLk
              clear h1 hn
              go_wp2_with (go_at_call 31; refine (HLk.out _).mono ?_; rintro e w1 ⟨rfl, hw1⟩; subst hw1)
              exact ⟨⟨k + 1, by omega, by go_num, HA2.out⟩, by simp [intOf]; omega⟩
          · have hke : k = s.size := by omega
            subst hke
            have HR : Hid (nameA s.data.toList = true) := by unfold Hid nameA; rw [HH.out, all_end HA.out, list_size, decide_eq_true h16]; rfl
            go_wp2
            go_ret
            exact ⟨ret_bool HR.out.symm, rfl⟩
    · have HR : Hid (nameA s.data.toList = false) := by unfold Hid nameA; rw [list_size, decide_eq_false h16]; simp
      go_enter Tryd.func16, Tryd.ntmps16
      go_wp2
      go_ret
      exact ⟨ret_bool HR.out.symm, rfl⟩
  · have HR : Hid (nameA s.data.toList = false) := nameA_empty (by rw [← empty_is]; exact he)
    go_enter Tryd.func16, Tryd.ntmps16
    go_wp2
    go_ret
    exact ⟨ret_bool HR.out.symm, rfl⟩
end Go.Proofs.YtiahoaneinojgaaDoor.Sc
