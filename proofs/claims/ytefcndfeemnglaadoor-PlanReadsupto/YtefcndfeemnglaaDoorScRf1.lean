/- The document's isWord, split, line, Lines. -/
import Derived.Test.YtefcndfeemnglaaDoorScLi2
import Derived.Test.YtefcndfeemnglaaDoorScNm2
namespace Go.Proofs.YtefcndfeemnglaaDoor.Sc
open Go.RowKit
set_option maxRecDepth 100000

theorem wB_of {b : UInt8} (h : wB b = true) : 33 ≤ b.toNat ∧ b.toNat ≤ 126 := by simpa [wB] using h
theorem wB_no {b : UInt8} (h : wB b = false) : b.toNat < 33 ∨ 126 < b.toNat := by
  simp [wB] at h
  omega

set_option maxHeartbeats 1600000 in
theorem isWord_any (s : ByteArray) (hs : s.size ≤ 1000000000000) (w : World) : Calls Tryd.prog 56 #[.string s] w fun e w' => e = .returned (.bool (isW s.data.toList)) ∧ Below w.heap.size w w' := by
  go_enter Tryd.func56, Tryd.ntmps56
  go_wp2
  go_loop [3] (fun i => ∃ k : Nat, k ≤ s.size ∧ i = .int .i64 k ∧ (s.data.toList.take k).all wB = true) (fun i => s.size - (intOf i).toNat)
  case atStart => exact ⟨0, Nat.zero_le _, rfl, rfl⟩
  case round =>
    obtain ⟨k, hk, rfl, hal⟩ := hrel
    have HA := hide3 hal
    clear hal
    by_cases hlt : k < s.size
    · cases hw : wB s[k]
      · have hn := wB_no hw
        have HR : Hid (isW s.data.toList = false) := by
          unfold Hid isW
          have : s.data.toList.all wB = false := by
            rw [Bool.eq_false_iff]
            intro h
            rw [List.all_eq_true] at h
            have := h s[k] (List.getElem_mem (l := s.data.toList) (n := k) (by rw [list_size]; exact hlt))
            rw [hw] at this; cases this
          rw [this]; rfl
        clear hw
        by_cases h33 : s[k].toNat < 33
        · clear hn
          go_wp2
          go_ret
          exact ⟨ret_bool HR.out.symm, Below.refl _ _⟩
        · have h126 : 126 < s[k].toNat := by omega
          clear hn
          go_wp2
          go_ret
          exact ⟨ret_bool HR.out.symm, Below.refl _ _⟩
      · obtain ⟨h1, h2⟩ := wB_of hw
        have HA2 : Hid ((s.data.toList.take (k + 1)).all wB = true) := by
          unfold Hid
          rw [List.take_succ_eq_append_getElem (by rw [list_size]; exact hlt), List.all_append, HA.out]
          simp only [List.all_cons, List.all_nil, Bool.and_true, Bool.true_and]
          exact hw
        clear hw
        go_wp2
        exact ⟨⟨k + 1, by omega, by go_num, HA2.out⟩, by simp [intOf]; omega⟩
    · have hke : k = s.size := by omega
      subst hke
      have HR : Hid (isW s.data.toList = !s.data.toList.isEmpty) := by
        unfold Hid isW
        have := HA.out
        rw [List.take_of_length_le (by rw [list_size]; exact Nat.le_refl _)] at this
        rw [this]; rfl
      rw [← empty_is] at HR
      cases he : s.toList.isEmpty
      · rw [he] at HR
        go_wp2
        go_ret
        exact ⟨ret_bool HR.out.symm, Below.refl _ _⟩
      · rw [he] at HR
        go_wp2
        go_ret
        exact ⟨ret_bool HR.out.symm, Below.refl _ _⟩

set_option maxHeartbeats 3200000 in
theorem split_walk (s : ByteArray) (b : UInt8) (hs : s.size ≤ 4194304) (w : World) :
    Calls Tryd.prog 45 #[.string s, .int .u8 (b.toNat : Int)] w fun e w' => ∃ v, e = .returned v ∧ OwnW w' w.heap.size v (cutF b [] s.data.toList) ∧ Below w.heap.size w w' := by
  obtain ⟨i0, hi, hz0, hz1, hz2⟩ := info_parts infoStr
  go_enter Tryd.func45, Tryd.ntmps45
  go_wp2
  go_loopw [5, 6, 7] (fun v fr i wr => ∃ (k f : Nat) (pre : List Bs), k ≤ s.size ∧ i = .int .i64 k ∧ fr = .int .i64 f ∧ f ≤ k ∧ pre.length ≤ k ∧ OwnW wr w.heap.size v pre ∧ Below w.heap.size w wr ∧ cutF b [] s.data.toList = pre ++ cutF b ((s.data.toList.take k).drop f) (s.data.toList.drop k)) (fun _ _ i _ => s.size - (intOf i).toNat)
  case atStart => exact ⟨0, 0, [], Nat.zero_le _, rfl, rfl, Nat.le_refl _, Nat.le_refl _, OwnW.nil _ _, Below.refl _ _, rfl⟩
  case round =>
    obtain ⟨k, f, pre, hk, rfl, rfl, hf, hpl, how, hb, heq⟩ := hrel
    have HO := hide3 how
    have HB := hide3 hb
    have HE := hide3 heq
    clear how hb heq
    by_cases hlt : k < s.size
    · have hd := drop_at hlt
      by_cases hx : s[k] = b
      · have e1 : ((s[k].toNat : Int) == (b.toNat : Int)) = true := by rw [hx]; simp
        have HE2 : Hid (cutF b [] s.data.toList = (pre ++ [(s.data.toList.take k).drop f]) ++ cutF b ((s.data.toList.take (k + 1)).drop (k + 1)) (s.data.toList.drop (k + 1))) := by
          unfold Hid
          rw [cur_nil, HE.out, hd, hx, cutF_hit]
          simp
        clear hd hx
        go_wp2_with (at_builtin; refine wpList_append_own_at _ rfl _ _ 34 rfl w.heap.size 9 i0 _ 1 16 Tryd.underlying34 hi hz0 hz1 hz2 rfl (by decide) _ _ _ rfl (HO.out.alloc _) ⟨wr.heap.size, 0, none⟩ 1 1 [.string (s.extract f k)] rfl rfl (cell_one_new _ _ _) (by simp [Value.oneCell']) (by unfold maxLen; omega) (by omega) (by have := HB.out.size; simp; omega) ?_; intro v2 w2 hown2 hg2 hnil2 hat2; have HO2 : Hid (OwnW w2 w.heap.size v2 (pre ++ [(s.data.toList.take k).drop f]) ∧ Below w.heap.size w w2) := (⟨by unfold OwnW; rw [strs_snoc, List.length_append, ← ba_extract]; exact hown2, (below_then HB.out (boxB _ _)).grown hg2 (below_then HB.out (boxB _ _)).size fun j hj => (World.ownsRow.lt HO.out j hj).1⟩); clear hown2 hg2 hnil2 hat2; go_frame)
        exact ⟨⟨k + 1, k + 1, _, by omega, by go_num, by go_num, Nat.le_refl _, by simp; omega, HO2.out.1, HO2.out.2, HE2.out⟩, by simp [intOf]; omega⟩
      · have e1 : ((s[k].toNat : Int) == (b.toNat : Int)) = false := by rw [beq_eq_false_iff_ne]; intro e; exact hx (UInt8.toNat_inj.1 (by omega))
        have HE2 : Hid (cutF b [] s.data.toList = pre ++ cutF b ((s.data.toList.take (k + 1)).drop f) (s.data.toList.drop (k + 1))) := by
          unfold Hid
          rw [take_at hlt hf, HE.out, hd, cutF_go hx]
        clear hd hx
        go_wp2
        exact ⟨⟨k + 1, f, pre, by omega, by go_num, rfl, by omega, by omega, HO.out, HB.out, HE2.out⟩, by simp [intOf]; omega⟩
    · have hke : k = s.size := by omega
      subst hke
      have HE2 : Hid (cutF b [] s.data.toList = pre ++ [(s.data.toList.take s.size).drop f]) := by unfold Hid; rw [HE.out, drop_end hlt]; rfl
      go_wp2_with (at_builtin; refine wpList_append_own_at _ rfl _ _ 34 rfl w.heap.size 9 i0 _ 1 16 Tryd.underlying34 hi hz0 hz1 hz2 rfl (by decide) _ _ _ rfl (HO.out.alloc _) ⟨wr.heap.size, 0, none⟩ 1 1 [.string (s.extract f s.size)] rfl rfl (cell_one_new _ _ _) (by simp [Value.oneCell']) (by unfold maxLen; omega) (by omega) (by have := HB.out.size; simp; omega) ?_; intro v2 w2 hown2 hg2 hnil2 hat2; have HO2 : Hid (OwnW w2 w.heap.size v2 (pre ++ [(s.data.toList.take s.size).drop f]) ∧ Below w.heap.size w w2) := (⟨by unfold OwnW; rw [strs_snoc, List.length_append, ← ba_extract]; exact hown2, (below_then HB.out (boxB _ _)).grown hg2 (below_then HB.out (boxB _ _)).size fun j hj => (World.ownsRow.lt HO.out j hj).1⟩); clear hown2 hg2 hnil2 hat2; go_frame)
      go_ret
      exact ⟨_, rfl, by rw [HE2.out]; exact HO2.out.1, HO2.out.2⟩
end Go.Proofs.YtefcndfeemnglaaDoor.Sc
