/- The document's path of package halyardref17: okPath. Conditions: sizes. -/
import Derived.Test.YtefcndfeemnglaaDoorPy1
namespace Go.Proofs.YtefcndfeemnglaaDoor
open Go.RowKit Dk
set_option maxRecDepth 100000

theorem path_rest {s : ByteArray} (h1 : 1 ≤ s.size) (h2 : s.size ≤ 4096) : okPath s = ((s[0] == 47) && restOk [] (s.data.toList.drop 1)) := by
  have hhd : s.data.toList.head? = some s[0] := by
    rw [List.head?_eq_getElem?, List.getElem?_eq_getElem (by rw [size_list]; exact h1)]; rfl
  rw [okPath_rest, hhd, decide_eq_true h2]
  by_cases h : 2 ≤ s.size
  · rw [decide_eq_true h]; simp
  · rw [decide_eq_false h]
    have : s.data.toList.drop 1 = [] := List.drop_eq_nil_of_le (by rw [size_list]; omega)
    rw [this, restOk_nil]
    have hp : partB [] = false := rfl
    rw [hp]; simp

set_option maxHeartbeats 4000000 in
theorem pPath_any (s : ByteArray) (w : World) (hs : s.size ≤ maxLen) :
    Calls Tryd.prog 22 #[.string s] w fun e w' => e = .returned (.bool (okPath s)) ∧ w' = w := by
  unfold maxLen at hs
  cases he : (s.toList == [])
  · have hpos : 0 < s.size := by
      rw [← size_list]
      rw [toList_data] at he
      cases hl : s.data.toList with
      | nil => rw [hl] at he; cases he
      | cons a t => simp
    by_cases h2 : s[0] = 47
    · have hn : ((s[0].toNat : Int) != 47) = false := by rw [h2]; rfl
      by_cases h0 : 4096 < s.size
      · have h0i : (4096 : Int) < (s.size : Int) := by omega
        have HP : Hid (okPath s = false) := by
          unfold Hid; rw [okPath_rest]
          have : decide (s.size ≤ 4096) = false := by simp; omega
          rw [this]; simp
        clear h2
        go_enter Tryd.func22, Tryd.ntmps22
        go_wp2
        go_ret
        exact ⟨ret_bool HP.out.symm, rfl⟩
      have h0i : ¬ (4096 : Int) < (s.size : Int) := by omega
      have i0 : s.size ≤ 4096 := by omega
      have HR2 : Hid (okPath s = restOk [] (s.data.toList.drop 1)) := by unfold Hid; rw [path_rest hpos i0, h2]; simp
      clear h2
      go_enter Tryd.func22, Tryd.ntmps22
      go_wp2_with fail
      go_loop [3, 4] (fun f i => ∃ a k : Nat, f = .int .i64 a ∧ i = .int .i64 k ∧ 1 ≤ a ∧ ((k ≤ s.size ∧ a ≤ k ∧ restOk (s.extract a k).data.toList (s.data.toList.drop k) = restOk [] (s.data.toList.drop 1)) ∨ (k = s.size + 1 ∧ restOk [] (s.data.toList.drop 1) = true))) (fun _ i => s.size + 2 - (intOf i).toNat)
      case atStart => exact ⟨1, 1, rfl, rfl, Nat.le_refl _, Or.inl ⟨by omega, Nat.le_refl _, by rw [extract_list]; simp⟩⟩
      case round =>
        obtain ⟨a, k, rfl, rfl, ha1, hor⟩ := hrel
        rcases hor with ⟨hk, hak, hinv⟩ | ⟨hk, hR⟩
        · have HI : Hid (restOk (s.extract a k).data.toList (s.data.toList.drop k) = restOk [] (s.data.toList.drop 1)) := hinv
          clear hinv
          have hpt := pPart_any (s.extract a k) w (by rw [ByteArray.size_extract]; unfold maxLen; omega)
          obtain ⟨pb, hpb⟩ : ∃ pb, pb = partB (s.extract a k).data.toList := ⟨_, rfl⟩
          rw [← hpb] at hpt
          have HPT : Hid (Calls Tryd.prog 40 #[.string (s.extract a k)] w fun e w' => e = .returned (.bool pb) ∧ w' = w) := hpt
          have HPB : Hid (pb = partB (s.extract a k).data.toList) := hpb
          clear hpt hpb
          have hle : (k : Int) ≤ (s.size : Int) := by omega
          by_cases hlt : k < s.size
          · have hne : ((k : Int) == (s.size : Int)) = false := by rw [beq_eq_false_iff_ne]; omega
            by_cases hc : s[k] = 47
            · have hcn : ((s[k].toNat : Int) == 47) = true := by rw [hc]; rfl
              have HJ : Hid (restOk [] (s.data.toList.drop 1) = (partB (s.extract a k).data.toList && restOk [] (s.data.toList.drop (k + 1)))) := by
                unfold Hid; rw [← HI.out, drop_cons s k hlt, hc, restOk_slash]
              clear hc
              cases pb
              · go_wp2_with (go_at_call 40; refine HPT.out.mono ?_; rintro e w' ⟨rfl, rfl⟩)
                go_ret
                exact ⟨ret_bool (by rw [HR2.out, HJ.out, ← HPB.out]; rfl), rfl⟩
              · go_wp2_with (go_at_call 40; refine HPT.out.mono ?_; rintro e w' ⟨rfl, rfl⟩)
                refine ⟨⟨k + 1, k + 1, by go_num, by go_num, by omega, Or.inl ⟨by omega, Nat.le_refl _, ?_⟩⟩, by simp [intOf]; omega⟩
                rw [HJ.out, ← HPB.out, extract_list]; simp
            · have hcn : ((s[k].toNat : Int) == 47) = false := by
                rw [beq_eq_false_iff_ne]
                intro e
                exact hc (UInt8.toNat_inj.1 (by have : s[k].toNat = 47 := by omega
                                                rw [this]; rfl))
              have HJ : Hid (restOk (s.extract a (k + 1)).data.toList (s.data.toList.drop (k + 1)) = restOk [] (s.data.toList.drop 1)) := by
                unfold Hid; rw [← HI.out, drop_cons s k hlt, restOk_other _ _ _ hc, Dk.take_snoc s a k hlt hak]
              clear hc
              go_wp2_with fail
              refine ⟨⟨a, k + 1, rfl, by go_num, ha1, Or.inl ⟨by omega, by omega, HJ.out⟩⟩, by simp [intOf]; omega⟩
          · have hke : k = s.size := by omega
            have HJ : Hid (restOk [] (s.data.toList.drop 1) = partB (s.extract a k).data.toList) := by
              unfold Hid; rw [← HI.out, List.drop_eq_nil_of_le (by rw [size_list]; omega), restOk_nil]
            have hne : ((k : Int) == (s.size : Int)) = true := by rw [beq_iff_eq]; omega
            have HKE : Hid (k = s.size) := hke
            clear hke
            cases pb
            · go_wp2_with (go_at_call 40; refine HPT.out.mono ?_; rintro e w' ⟨rfl, rfl⟩)
              go_ret
              exact ⟨ret_bool (by rw [HR2.out, HJ.out, ← HPB.out]), rfl⟩
            · go_wp2_with (go_at_call 40; refine HPT.out.mono ?_; rintro e w' ⟨rfl, rfl⟩)
              refine ⟨⟨k + 1, k + 1, by go_num, by go_num, by omega, Or.inr ⟨by rw [HKE.out], by rw [HJ.out, ← HPB.out]⟩⟩, by simp [intOf]; have := HKE.out; omega⟩
        · have hle : ¬ (k : Int) ≤ (s.size : Int) := by omega
          have hgt : (s.size : Int) < k := by omega
          have HRR : Hid (restOk [] (s.data.toList.drop 1) = true) := hR
          clear hk hR
          go_wp2
          go_ret
          exact ⟨ret_bool (by rw [HR2.out, HRR.out]), rfl⟩
    · have hn : ((s[0].toNat : Int) != 47) = true := by
        rw [bne_iff_ne]
        intro e
        exact h2 (UInt8.toNat_inj.1 (by have : s[0].toNat = 47 := by omega
                                        rw [this]; rfl))
      have HR2 : Hid (okPath s = false) := by
        unfold Hid
        by_cases i0 : s.size ≤ 4096
        · rw [path_rest hpos i0, beq_eq_false_iff_ne.2 h2]; rfl
        · rw [okPath_rest, decide_eq_false i0]; simp
      clear h2
      go_enter Tryd.func22, Tryd.ntmps22
      go_wp2
      go_ret
      exact ⟨ret_bool HR2.out.symm, rfl⟩
  · have HR2 : Hid (okPath s = false) := by
      unfold Hid
      rw [okPath_rest]
      have : s.size = 0 := by
        rw [toList_data, beq_iff_eq] at he
        rw [← size_list, he]; rfl
      rw [this]; rfl
    go_enter Tryd.func22, Tryd.ntmps22
    go_wp2
    go_ret
    exact ⟨ret_bool HR2.out.symm, rfl⟩
end Go.Proofs.YtefcndfeemnglaaDoor
