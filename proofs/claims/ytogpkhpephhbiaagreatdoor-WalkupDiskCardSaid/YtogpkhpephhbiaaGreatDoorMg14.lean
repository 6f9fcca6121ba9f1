/- Ta3, Ta4, Td1, laid in one text. -/
import Derived.Test.YtogpkhpephhbiaaGreatDoorMg13
namespace Go.Proofs.YtogpkhpephhbiaaGreatDoor
open Go.RowKit
set_option maxRecDepth 100000

theorem headS_at {r : List UInt8} {i : Nat} (h : i < (headS r).length) (h2 : i < r.length) : r[i] ≠ 47 := fun e => by
  have h3 : (headS r)[i] = r[i] := by
    have q := List.getElem_take (xs := r) (j := (headS r).length) (i := i) (h := by rw [List.length_take]; omega)
    simp only [headS_take] at q
    exact q
  exact headS_no r (by rw [← e, ← h3]; exact List.getElem_mem h)
theorem headS_end {r : List UInt8} (h : (headS r).length < r.length) : r[(headS r).length] = 47 := by
  rcases headS_next r with e | ⟨t, e⟩
  · rw [List.drop_eq_nil_iff] at e
    omega
  · have q := List.drop_eq_getElem_cons h
    rw [e] at q
    exact (List.cons.inj q).1.symm
theorem drop_get {s : ByteArray} {k i : Nat} (h : k + i < s.size) : (s.data.toList.drop k)[i]'(by rw [List.length_drop, list_size]; omega) = s[k + i] := by
  rw [List.getElem_drop]
  rfl

set_option maxHeartbeats 3200000 in
theorem rParseP_loop (t : ByteArray) (ht : t.size ≤ 9223372036854775000) (hf : FewN t.data.toList) (h0 : t.data.toList ≠ [47]) (w : World) :
    Calls Tryz.prog 25 #[.string t] w fun e w' => ∃ v, e = .returned (.tuple #[v, .bool (parseV t.data.toList).isSome]) ∧ OwnPa w' w.heap.size v ((parseV t.data.toList).getD []) ∧ Below w.heap.size w w' := by
  have HV : Hid (parseV t.data.toList = if t.data.toList = [] then none else parts t.data.toList) := by unfold Hid parseV; rw [if_neg h0]
  have HF := hide3 hf
  have HNA : Hid (∀ (s : ByteArray), s.size ≤ 9223372036854775807 → ∀ w1, Calls Tryz.prog 26 #[.string s] w1 fun e w' => e = .returned (.bool (Sc.nameA s.data.toList)) ∧ w' = w1) := fun s hs w1 => Sc.rName_any s hs w1
  have HON : Hid (OwnPa w w.heap.size (.slice none 0 0) []) := ⟨rfl, Or.inl ⟨rfl, rfl⟩⟩
  obtain ⟨i0, hi, hz0, hz1, hz2⟩ := Sc.info_parts Sc.infoStr
  have hq0 : (t.toList == [47]) = false := by rw [beq_eq_false_iff_ne, ByteArray.toList_eq]; exact h0
  clear hf h0
  go_enter Tryz.func25, Tryz.ntmps25
  go_wp2_with fail
  go_loopw [4, 5] (fun vp vk wr => ∃ (L : List ByteArray) (k : Nat), vk = .int .i64 k ∧ k ≤ t.size ∧ namesB L = true ∧ textN L ++ t.data.toList.drop k = t.data.toList ∧ parts t.data.toList = (parts (t.data.toList.drop k)).map (fun M => L ++ M) ∧ OwnPa wr w.heap.size vp L ∧ Below w.heap.size w wr) (fun _ vk _ => t.size - (intOf vk).toNat)
  case atStart => exact ⟨[], 0, rfl, Nat.zero_le _, rfl, rfl, by simp, HON.out, Below.refl _ _⟩
  case round =>
    obtain ⟨L, k, rfl, hk, hns, htx, hpt, hown, hb⟩ := hrel
    have HN := hide3 hns
    have HT := hide3 htx
    have HP := hide3 hpt
    have HO := hide3 hown
    have HB := hide3 hb
    obtain ⟨pa, pc, rfl, hpc⟩ := hown.form
    clear hns htx hpt hown hb
    by_cases hlt : k < t.size
    · have hr : t.data.toList.drop k ≠ [] := fun e => by rw [List.drop_eq_nil_iff, list_size] at e; omega
      have HNE : Hid (t.data.toList ≠ []) := fun e => by rw [e] at hr; simp at hr
      by_cases h9 : t.size < k + 9
      · have hp : modL.isPrefixOf (t.data.toList.drop k) = false := by
          rw [Bool.eq_false_iff]
          intro e
          have q := (List.isPrefixOf_iff_prefix.1 e).length_le
          rw [modL_len, List.length_drop, list_size] at q
          omega
        have HR : Hid (parseV t.data.toList = none) := by unfold Hid; rw [HV.out, if_neg HNE.out, HP.out, parts_no hr (by rw [hp]; simp)]; rfl
        have h9i : decide ((t.size : Int) < (k : Int) + 9) = true := decide_eq_true (by omega)
        clear hp hr
        go_wp2
        go_ret2
        exact ⟨_, by rw [HR.out]; rfl, by rw [HR.out]; exact ⟨rfl, Or.inl ⟨rfl, rfl⟩⟩, HB.out⟩
      · have HX : Hid ((t.extract k (k + 9)).toList = (t.data.toList.drop k).take 9) := by
          unfold Hid
          rw [ByteArray.toList_eq, Sc.ba_extract, Sc.ba_list, List.drop_take]
          congr 1
          omega
        cases hp : modL.isPrefixOf (t.data.toList.drop k)
        · have HR : Hid (parseV t.data.toList = none) := by unfold Hid; rw [HV.out, if_neg HNE.out, HP.out, parts_no hr (by rw [hp]; simp)]; rfl
          have hq : ((t.extract k (k + 9)).toList == [47, 109, 111, 100, 117, 108, 101, 115, 47]) = false := by
            rw [beq_eq_false_iff_ne, HX.out]
            intro e
            have : modL.isPrefixOf (t.data.toList.drop k) = true := by rw [List.isPrefixOf_iff_prefix, List.prefix_iff_eq_take]; exact e.symm
            rw [hp] at this
            cases this
          clear hp hr HX
          go_wp2
          go_ret2
          exact ⟨_, by rw [HR.out]; rfl, by rw [HR.out]; exact ⟨rfl, Or.inl ⟨rfl, rfl⟩⟩, HB.out⟩
        · have hq : ((t.extract k (k + 9)).toList == [47, 109, 111, 100, 117, 108, 101, 115, 47]) = true := by
            rw [beq_iff_eq, HX.out]
            exact (List.prefix_iff_eq_take.1 (List.isPrefixOf_iff_prefix.1 hp)).symm
          have hdd : (t.data.toList.drop k).drop 9 = t.data.toList.drop (k + 9) := List.drop_drop
          have HPE := hide3 (piece_eq hp)
          have HPN : Hid (Sc.nameA (headS (t.data.toList.drop (k + 9))) = false → parseV t.data.toList = none) := fun e => by
            rw [HV.out, if_neg HNE.out, HP.out, parts_no hr (by rw [hdd, e]; simp)]; rfl
          have hhl : (headS (t.data.toList.drop (k + 9))).length ≤ t.size - (k + 9) := by have := headS_le (t.data.toList.drop (k + 9)); rw [List.length_drop, list_size] at this; exact this
          have HBY : Hid (∀ j (_ : j < (headS (t.data.toList.drop (k + 9))).length) (h2 : k + 9 + j < t.size), t[k + 9 + j] ≠ 47) := fun j hj h2 => by
            have := headS_at hj (by rw [List.length_drop, list_size]; omega)
            rwa [drop_get h2] at this
          have HBE : Hid (∀ (h2 : k + 9 + (headS (t.data.toList.drop (k + 9))).length < t.size), t[k + 9 + (headS (t.data.toList.drop (k + 9))).length] = 47) := fun h2 => by
            have := headS_end (r := t.data.toList.drop (k + 9)) (by rw [List.length_drop, list_size]; omega)
            rwa [drop_get h2] at this
          have HXN : Hid ((t.extract (k + 9) (k + 9 + (headS (t.data.toList.drop (k + 9))).length)) = Sc.ba (headS (t.data.toList.drop (k + 9)))) := by
            unfold Hid
            rw [Sc.ba_extract, List.drop_take, show k + 9 + (headS (t.data.toList.drop (k + 9))).length - (k + 9) = (headS (t.data.toList.drop (k + 9))).length by omega, headS_take]
          rw [hdd, List.drop_drop] at HPE
          have HY : Hid (Sc.nameA (headS (t.data.toList.drop (k + 9))) = true → namesB (L ++ [t.extract (k + 9) (k + 9 + (headS (t.data.toList.drop (k + 9))).length)]) = true ∧ textN (L ++ [t.extract (k + 9) (k + 9 + (headS (t.data.toList.drop (k + 9))).length)]) ++ t.data.toList.drop (k + 9 + (headS (t.data.toList.drop (k + 9))).length) = t.data.toList ∧ parts t.data.toList = (parts (t.data.toList.drop (k + 9 + (headS (t.data.toList.drop (k + 9))).length))).map (fun M => (L ++ [t.extract (k + 9) (k + 9 + (headS (t.data.toList.drop (k + 9))).length)]) ++ M) ∧ 0 < (headS (t.data.toList.drop (k + 9))).length ∧ L.length + 1 ≤ 14073748835124) := fun e => by
            rw [HXN.out]
            have y1 := names_snoc HN.out e
            have y2 : textN (L ++ [Sc.ba (headS (t.data.toList.drop (k + 9)))]) ++ t.data.toList.drop (k + 9 + (headS (t.data.toList.drop (k + 9))).length) = t.data.toList := by
              rw [textN_snoc, Sc.ba_list]
              conv => rhs; rw [← HT.out, HPE.out]
              simp only [List.append_assoc]
              rfl
            refine ⟨y1, y2, ?_, nameA_pos e, ?_⟩
            · rw [HP.out, parts_on hr hp (by rw [hdd]; exact e), map_map_app, hdd, List.drop_drop]
            · have := HF.out _ _ y1 y2
              rw [List.length_append] at this
              exact this
          have HNM : Hid (∀ w1, Calls Tryz.prog 26 #[.string (t.extract (k + 9) (k + 9 + (headS (t.data.toList.drop (k + 9))).length))] w1 fun e w' => e = .returned (.bool (Sc.nameA (headS (t.data.toList.drop (k + 9))))) ∧ w' = w1) := fun w1 => by
            have h := HNA.out (t.extract (k + 9) (k + 9 + (headS (t.data.toList.drop (k + 9))).length)) (by rw [ByteArray.size_extract]; omega) w1
            rw [HXN.out] at h ⊢
            rw [Sc.ba_list] at h
            exact h
          clear HXN HPE
          generalize (headS (t.data.toList.drop (k + 9))).length = m at *
          generalize Sc.nameA (headS (t.data.toList.drop (k + 9))) = b at *
          clear hp hr HX hdd HNA
          obtain ⟨wa, rfl⟩ : ∃ x, x = wr := ⟨wr, rfl⟩
          go_wp2_with fail
          go_loopw [6] (fun vj wq => ∃ j : Nat, vj = .int .i64 (k + 9 + j : Nat) ∧ j ≤ m ∧ wq = wa) (fun vj _ => t.size - (intOf vj).toNat)
          case atStart => exact ⟨0, by go_num, Nat.zero_le _, rfl⟩
          case round =>
            obtain ⟨j, rfl, hj, hww⟩ := hrel
            subst hww
            by_cases hjm : j < m
            · have hjs : k + 9 + j < t.size := by omega
              have e47 : ((t[k + 9 + j].toNat : Int) == 47) = false := by
                rw [beq_eq_false_iff_ne]
                intro e
                exact HBY.out j hjm hjs (UInt8.toNat_inj.1 (by have h47 : (47 : UInt8).toNat = 47 := rfl; omega))
              go_wp2
              exact ⟨⟨j + 1, by go_num, by omega, trivial⟩, by simp [intOf]; omega⟩
            · have hmj : m = j := by omega
              subst hmj
              by_cases he : k + 9 + m < t.size
              · have hjs : decide (((k + 9 + m : Nat) : Int) < (t.size : Int)) = true := decide_eq_true (by omega)
                have e47 : ((t[k + 9 + m].toNat : Int) == 47) = true := by rw [HBE.out he]; rfl
                cases b
                · have HR := hide3 (HPN.out rfl)
                  clear HPN HY
                  go_wp2_with (go_at_call 26; refine (HNM.out _).mono ?_; rintro e w1 ⟨rfl, hw1⟩; subst w1)
                  go_ret2
                  exact ⟨_, by rw [HR.out]; rfl, by rw [HR.out]; exact ⟨rfl, Or.inl ⟨rfl, rfl⟩⟩, HB.out⟩
                · obtain ⟨y1, y2, y3, y4, y5⟩ := HY.out rfl
                  have HNN := hide3 y1
                  have HTN := hide3 y2
                  have HPP := hide3 y3
                  clear HPN HY y1 y2 y3
                  go_wp2_with (first
                    | (go_at_call 26; refine (HNM.out _).mono ?_; rintro e w1 ⟨rfl, hw1⟩; subst w1)
                    | (at_builtin; refine wpList_append_own_wide _ rfl _ _ 53 rfl w.heap.size 9 i0 _ 1 16 Tryz.underlying53 hi hz0 hz1 hz2 rfl (by decide) _ _ _ rfl (HO.out.alloc _) ⟨wr.heap.size, 0, none⟩ 1 1 [.string (t.extract (k + 9) (k + 9 + m))] rfl rfl (cell_one_new _ _ _) (by simp [Value.oneCell']) (by unfold maxLen; omega) (by omega) (by have := HB.out.size; simp; omega) ?_; intro v3 w3 ho3 hg3 _; have HO3 : Hid (OwnPa w3 w.heap.size v3 (L ++ [t.extract (k + 9) (k + 9 + m)])) := (by have e := ho3; unfold Hid OwnPa pcs; rw [List.map_append, List.length_append]; exact e); have HB3 : Hid (Below w.heap.size w w3) := (HB.out.alloc (by have := HB.out.size; omega) _).grown hg3 (by have := HB.out.size; simp; omega) (fun k hk => (World.ownsRow.lt HO.out k hk).1); clear ho3 hg3))
                  exact ⟨⟨_, k + 9 + m, by go_num, by omega, HNN.out, HTN.out, HPP.out, HO3.out, HB3.out⟩, by simp [intOf]; omega⟩
              · have hjs : decide (((k + 9 + m : Nat) : Int) < (t.size : Int)) = false := decide_eq_false (by omega)
                cases b
                · have HR := hide3 (HPN.out rfl)
                  clear HPN HY
                  go_wp2_with (go_at_call 26; refine (HNM.out _).mono ?_; rintro e w1 ⟨rfl, hw1⟩; subst w1)
                  go_ret2
                  exact ⟨_, by rw [HR.out]; rfl, by rw [HR.out]; exact ⟨rfl, Or.inl ⟨rfl, rfl⟩⟩, HB.out⟩
                · obtain ⟨y1, y2, y3, y4, y5⟩ := HY.out rfl
                  have HNN := hide3 y1
                  have HTN := hide3 y2
                  have HPP := hide3 y3
                  clear HPN HY y1 y2 y3
                  go_wp2_with (first
                    | (go_at_call 26; refine (HNM.out _).mono ?_; rintro e w1 ⟨rfl, hw1⟩; subst w1)
                    | (at_builtin; refine wpList_append_own_wide _ rfl _ _ 53 rfl w.heap.size 9 i0 _ 1 16 Tryz.underlying53 hi hz0 hz1 hz2 rfl (by decide) _ _ _ rfl (HO.out.alloc _) ⟨wr.heap.size, 0, none⟩ 1 1 [.string (t.extract (k + 9) (k + 9 + m))] rfl rfl (cell_one_new _ _ _) (by simp [Value.oneCell']) (by unfold maxLen; omega) (by omega) (by have := HB.out.size; simp; omega) ?_; intro v3 w3 ho3 hg3 _; have HO3 : Hid (OwnPa w3 w.heap.size v3 (L ++ [t.extract (k + 9) (k + 9 + m)])) := (by have e := ho3; unfold Hid OwnPa pcs; rw [List.map_append, List.length_append]; exact e); have HB3 : Hid (Below w.heap.size w w3) := (HB.out.alloc (by have := HB.out.size; omega) _).grown hg3 (by have := HB.out.size; simp; omega) (fun k hk => (World.ownsRow.lt HO.out k hk).1); clear ho3 hg3))
                  exact ⟨⟨_, k + 9 + m, by go_num, by omega, HNN.out, HTN.out, HPP.out, HO3.out, HB3.out⟩, by simp [intOf]; omega⟩
    · obtain rfl : k = t.size := by omega
      have HLL : Hid (textN L = t.data.toList) := by have e := HT.out; rw [List.drop_eq_nil_iff.2 (by rw [list_size]; exact Nat.le_refl _), List.append_nil] at e; exact e
      have HPE : Hid (parts t.data.toList = some L) := by unfold Hid; rw [HP.out, List.drop_eq_nil_iff.2 (by rw [list_size]; exact Nat.le_refl _), parts_nil]; simp
      cases L with
      | nil =>
        have HR : Hid (parseV t.data.toList = none) := by unfold Hid; rw [HV.out, if_pos (by rw [← HLL.out]; rfl)]
        rw [List.length_nil]
        go_wp2
        go_ret2
        exact ⟨_, by rw [HR.out]; rfl, by rw [HR.out]; exact HO.out, HB.out⟩
      | cons n L =>
        have HR : Hid (parseV t.data.toList = some (n :: L)) := by unfold Hid; rw [HV.out, if_neg (by rw [← HLL.out]; simp [textN, modS]), HPE.out]
        have hp : (0 : Int) < (((n :: L).length : Nat) : Int) := by rw [List.length_cons]; omega
        go_wp2
        go_ret2
        exact ⟨_, by rw [HR.out]; rfl, by rw [HR.out]; exact HO.out, HB.out⟩

theorem rParseP_any (t : ByteArray) (ht : t.size ≤ 9223372036854775000) (hf : FewN t.data.toList) (w : World) :
    Calls Tryz.prog 25 #[.string t] w fun e w' => ∃ v, e = .returned (.tuple #[v, .bool (parseV t.data.toList).isSome]) ∧ OwnPa w' w.heap.size v ((parseV t.data.toList).getD []) ∧ Below w.heap.size w w' := by
  by_cases h0 : t.data.toList = [47]
  · obtain rfl : t = ⟨#[47]⟩ := bytes_same (by rw [ByteArray.toList_eq, ByteArray.toList_eq, h0])
    have HR : Hid (parseV (⟨#[47]⟩ : ByteArray).data.toList = some []) := rfl
    rw [HR.out]
    clear hf ht h0
    go_enter Tryz.func25, Tryz.ntmps25
    go_wp2
    go_ret2
    exact ⟨_, rfl, ⟨rfl, Or.inl ⟨rfl, rfl⟩⟩, Below.refl _ _⟩
  · exact rParseP_loop t ht hf h0 w
end Go.Proofs.YtogpkhpephhbiaaGreatDoor
namespace Go.Proofs.YtogpkhpephhbiaaGreatDoor
open Go.RowKit
set_option maxRecDepth 100000

set_option maxHeartbeats 3200000 in
theorem tText_w {L : List ByteArray} {v : Value} {w : World} (h : PathAt w v L) (hz : L.length ≤ 4611686018427387904) (hlen : ∀ k, k ≤ L.length → namesB (L.take k) = true → (textN (L.take k)).length ≤ 219902325555200) :
    Calls Tryz.prog 21 #[v] w fun e w' => e = .returned (.string (textPa L)) ∧ Below w.heap.size w w' := by
  have HP : Hid (∀ w1, Below w.heap.size w w1 → PathAt w1 v L) := fun w1 hb => h.below hb
  obtain ⟨ad, cap, rfl⟩ := h.sl
  have HLE := hide3 hlen
  clear h hlen
  by_cases h0 : L = []
  · subst h0
    have HR : Hid (textPa [] = ⟨#[47]⟩) := rfl
    rw [List.length_nil]
    go_enter Tryz.func21, Tryz.ntmps21
    go_wp2
    go_ret
    exact ⟨by rw [HR.out]; rfl, Below.refl _ _⟩
  · have hpos : 0 < L.length := List.length_pos_iff.2 h0
    have HNO : Hid (namesB L = false → textPa L = ⟨#[]⟩) := fun e => by unfold textPa; rw [if_neg h0, if_neg (by rw [e]; simp)]
    have HYE : Hid (namesB L = true → textPa L = ⟨(textN L).toArray⟩) := fun e => by unfold textPa; rw [if_neg h0, if_pos e]
    have HNA : Hid (∀ s w1, Calls Tryz.prog 20 #[.string s] w1 fun e w' => e = .returned (.bool (Sc.nameA s.data.toList)) ∧ w' = w1) := fun s w1 => Sc.Name_any s w1
    have HW : Hid (∀ l wz s, TW w l wz → s.size ≤ 1000 → l.length ≤ 219902325555300 → Calls Tryz.prog 36 #[.pointer (some ⟨w.heap.size, 0, none⟩), .string s] wz fun e w' => e = .returned (.tuple #[.int .i64 s.size, .nilIface]) ∧ TW w (l ++ s.data.toList) w') := fun l wz s h1 h2 h3 => by
      refine (putText_w s h1.1 h2 (by omega) h1.2.size).mono ?_
      rintro e w' ⟨rfl, g1, g2⟩
      exact ⟨rfl, g1, h1.2.trans g2⟩
    have HST : Hid (∀ l wz, TW w l wz → Calls Tryz.prog 37 #[.pointer (some ⟨w.heap.size, 0, none⟩)] wz fun e w2 => e = .returned (.string ⟨l.toArray⟩) ∧ Below w.heap.size wz w2) := fun l w' h => Tryz.Builder_String_any _ _ l w' h.1 h.2.size
    have HT0 : Hid (TW w [] (w.alloc (.cells #[.pointer none, .slice none 0 0] 90))) := TW.new w
    have HL : Hid (∀ k, k ≤ L.length → namesB (L.take k) = true → (textN (L.take k)).length ≤ 219902325555200) := HLE.out
    have hne0 : ((L.length : Int) == 0) = false := by rw [beq_eq_false_iff_ne]; omega
    go_enter Tryz.func21, Tryz.ntmps21
    go_wp2_with fail
    go_loopw [11] (fun i wr => ∃ k : Nat, k ≤ L.length ∧ i = .int .i64 k ∧ TW w (textN (L.take k)) wr ∧ namesB (L.take k) = true) (fun i _ => L.length - (intOf i).toNat)
    case atStart => exact ⟨0, Nat.zero_le _, rfl, HT0.out, rfl⟩
    case round =>
      obtain ⟨k, hk, rfl, htw, hns⟩ := hrel
      have HTW := hide3 htw
      by_cases hlt : k < L.length
      · obtain ⟨ad', cap', e, _, hcs⟩ := HP.out wr htw.2
        cases e
        obtain ⟨g, o, rfl, hcz⟩ : ∃ g o, ad = some ⟨g, o, none⟩ ∧ ∀ i (h : i < L.length), StIn wr g (o + i) L[i] := by
          rcases hcs with h | h
          · exact absurd h h0
          · exact h
        clear hcs
        obtain ⟨c0, c1⟩ := hcz k hlt
        have HLK := hide3 (HL.out k hk hns)
        have HTS : Hid (textN (L.take (k + 1)) = textN (L.take k) ++ modS.data.toList ++ L[k].data.toList) := by
          unfold Hid
          rw [List.take_succ_eq_append_getElem hlt, textN_snoc]
        have HNT : Hid (Sc.nameA L[k].data.toList = true → namesB (L.take (k + 1)) = true) := fun e => by rw [names_take hlt, hns, e]; rfl
        have HNB : Hid (Sc.nameA L[k].data.toList = false → namesB L = false) := fun e => names_bad hlt e
        clear hcz htw hns
        have HNM := hide3 (HNA.out L[k])
        generalize L[k] = s at *
        cases hn : Sc.nameA s.data.toList
        · have HR := hide3 (HNO.out (HNB.out hn))
          rw [hn] at HNM
          clear HNT HNB HNO HYE
          go_wp2_with (go_at_call 20; refine (HNM.out _).mono ?_; rintro e w1 ⟨rfl, hw1⟩; subst w1)
          go_ret
          exact ⟨by rw [HR.out]; rfl, HTW.out.2⟩
        · have HR := hide3 (HNT.out hn)
          rw [hn] at HNM
          have hs16 : s.size ≤ 16 := name_size hn
          have hms : modS.size = 9 := rfl
          clear HNT HNB HNO HYE
          have t1 : True := trivial
          go_wp2_with (first
            | (go_at_call 20; refine (HNM.out _).mono ?_; rintro e w1 ⟨rfl, hw1⟩; subst w1)
            | (have _t := t1; go_at_call 36; refine (HW.out (textN (L.take k)) _ modS HTW.out (by omega) (by have := HLK.out; omega)).mono ?_; rintro e w2 ⟨rfl, ok⟩; have HT2 := hide3 ok; clear ok t1)
            | (have _t := HT2; go_at_call 36; refine (HW.out (textN (L.take k) ++ modS.data.toList) _ s HT2.out (by omega) (by have := HLK.out; rw [List.length_append, list_size]; omega)).mono ?_; rintro e w3 ⟨rfl, ok⟩; have HT3 := hide3 ok; clear ok))
          exact ⟨⟨k + 1, by omega, by go_num, by rw [HTS.out]; exact HT3.out, HR.out⟩, by simp [intOf]; omega⟩
      · obtain rfl : k = L.length := by omega
        have HTE : Hid (TW w (textN L) wr) := by have e := HTW.out; rw [List.take_length] at e; exact e
        have HR : Hid (textPa L = ⟨(textN L).toArray⟩) := HYE.out (by rw [List.take_length] at hns; exact hns)
        clear htw hns HTW
        go_wp2_with (go_at_call 37; refine (HST.out _ _ HTE.out).mono ?_; rintro e w6 ⟨rfl, ok⟩; have HB6 := hide3 (HTE.out.2.trans ok); clear ok)
        go_ret
        exact ⟨by rw [HR.out]; rfl, HB6.out⟩
end Go.Proofs.YtogpkhpephhbiaaGreatDoor
namespace Go.Proofs.YtogpkhpephhbiaaGreatDoor
open Go.RowKit
set_option maxRecDepth 100000

theorem names_cons {s : ByteArray} {L : List ByteArray} : namesB (s :: L) = true ↔ Sc.nameA s.data.toList = true ∧ namesB L = true := by
  unfold namesB
  rw [List.all_cons, Bool.and_eq_true]
theorem textN_cons (s : ByteArray) (L : List ByteArray) : textN (s :: L) = modL ++ (s.data.toList ++ textN L) := by
  unfold textN modL
  rw [List.flatMap_cons, List.append_assoc]
theorem textN_open (L : List ByteArray) : textN L = [] ∨ ∃ t, textN L = 47 :: t := by
  cases L with
  | nil => exact Or.inl rfl
  | cons s L => exact Or.inr ⟨_, textN_cons s L⟩
theorem ba_self (s : ByteArray) : Sc.ba s.data.toList = s := rfl
theorem mod_pre (r : List UInt8) : modL.isPrefixOf (modL ++ r) = true := by rw [List.isPrefixOf_iff_prefix]; exact List.prefix_append _ _
theorem mod_drop (r : List UInt8) : (modL ++ r).drop 9 = r := List.drop_left (l₁ := modL)
theorem partsP_text : ∀ {L : List ByteArray}, namesB L = true → parts (textN L) = some L
  | [], _ => parts_nil
  | s :: L, h => by
    obtain ⟨h1, h2⟩ := names_cons.1 h
    have hh : headS (s.data.toList ++ textN L) = s.data.toList := headS_app (nameA_no h1) (textN_open L)
    have e := parts_on (r := textN (s :: L)) (by rw [textN_cons]; simp [modL, modS]) (by rw [textN_cons]; exact mod_pre _) (by rw [textN_cons, mod_drop, hh]; exact h1)
    rw [e, textN_cons, mod_drop, hh, List.drop_left, partsP_text h2]
    rfl
theorem textP_parts : ∀ (n : Nat) {r : List UInt8} {L : List ByteArray}, r.length ≤ n → parts r = some L → textN L = r ∧ namesB L = true
  | n, [], L, _, h => by
    rw [parts_nil] at h
    cases h
    exact ⟨rfl, rfl⟩
  | 0, _ :: _, _, hn, _ => by simp at hn
  | n + 1, b :: r, L, hn, h => by
    by_cases hq : modL.isPrefixOf (b :: r) = true ∧ Sc.nameA (headS ((b :: r).drop 9)) = true
    · rw [parts_on (by simp) hq.1 hq.2] at h
      cases hp : parts (((b :: r).drop 9).drop (headS ((b :: r).drop 9)).length) with
      | none => rw [hp] at h; cases h
      | some M =>
        rw [hp] at h
        cases h
        have ih := textP_parts n (by simp only [List.length_drop, List.length_cons] at hn ⊢; omega) hp
        refine ⟨?_, names_cons.2 ⟨by rw [Sc.ba_list]; exact hq.2, ih.2⟩⟩
        rw [textN_cons, ih.1, Sc.ba_list, ← List.append_assoc]
        exact (piece_eq hq.1).symm
    · rw [parts_no (by simp) hq] at h
      cases h

/-- What is written is read again. -/
theorem parse_text {L : List ByteArray} (h : L = [] ∨ namesB L = true) : parseV (textPa L).data.toList = some L := by
  rcases Classical.em (L = []) with rfl | h0
  · rfl
  · have hn : namesB L = true := h.resolve_left h0
    have e : (textPa L).data.toList = textN L := by unfold textPa; rw [if_neg h0, if_pos hn]
    rw [e]
    cases L with
    | nil => exact absurd rfl h0
    | cons s L =>
      unfold parseV
      rw [if_neg (by rw [textN_cons]; simp [modL, modS]), if_neg (by rw [textN_cons]; simp [modL, modS])]
      exact partsP_text hn
/-- What is read is written as that text. -/
theorem text_parse {t : ByteArray} {L : List ByteArray} (h : parseV t.data.toList = some L) : textPa L = t := by
  unfold parseV at h
  by_cases h1 : t.data.toList = [47]
  · rw [if_pos h1] at h
    cases h
    exact bytes_same (by rw [ByteArray.toList_eq, ByteArray.toList_eq, h1]; rfl)
  · rw [if_neg h1] at h
    by_cases h2 : t.data.toList = []
    · rw [if_pos h2] at h
      cases h
    · rw [if_neg h2] at h
      obtain ⟨e1, e2⟩ := textP_parts _ (Nat.le_refl _) h
      have h0 : L ≠ [] := fun e => h2 (by rw [← e1, e]; rfl)
      unfold textPa
      rw [if_neg h0, if_pos e2]
      exact bytes_same (by rw [ByteArray.toList_eq, ByteArray.toList_eq, ← e1])
theorem textPa_none {L : List ByteArray} (h0 : L ≠ []) (h : namesB L = false) : textPa L = ⟨#[]⟩ := by unfold textPa; rw [if_neg h0, if_neg (by rw [h]; simp)]
theorem textPa_some {L : List ByteArray} (h : L = [] ∨ namesB L = true) : (textPa L).data.toList ≠ [] := by
  rcases Classical.em (L = []) with rfl | h0
  · decide
  · unfold textPa
    rw [if_neg h0, if_pos (h.resolve_left h0)]
    cases L with
    | nil => exact absurd rfl h0
    | cons s L =>
      show textN (s :: L) ≠ []
      rw [textN_cons]
      simp [modL, modS]
theorem parse_names {t : ByteArray} {L : List ByteArray} (h : parseV t.data.toList = some L) : L = [] ∨ namesB L = true := by
  unfold parseV at h
  split at h
  · cases h; exact Or.inl rfl
  · split at h
    · cases h
    · exact Or.inr (textP_parts _ (Nat.le_refl _) h).2

theorem textN_ge : ∀ {L : List ByteArray}, namesB L = true → 10 * L.length ≤ (textN L).length
  | [], _ => by simp
  | s :: L, h => by
    obtain ⟨h1, h2⟩ := names_cons.1 h
    have := textN_ge h2
    have := nameA_pos h1
    rw [textN_cons, List.length_append, List.length_append, modL_len, List.length_cons]
    omega
theorem few_size {t : ByteArray} (h : t.size ≤ 140737488351232) : FewN t.data.toList := fun L r hn e => by
  have h1 := congrArg List.length e
  have h2 := textN_ge hn
  rw [List.length_append, list_size] at h1
  omega
theorem textN_count : ∀ {L : List ByteArray}, namesB L = true → (textN L).count 47 = 2 * L.length
  | [], _ => by simp [textN]
  | s :: L, h => by
    obtain ⟨h1, h2⟩ := names_cons.1 h
    have e1 : modL.count 47 = 2 := by decide
    have e2 : s.data.toList.count 47 = 0 := List.count_eq_zero.2 (nameA_no h1)
    rw [textN_cons, List.count_append, List.count_append, e1, e2, textN_count h2, List.length_cons]
    omega
theorem few_text {P : List ByteArray} (hp : P = [] ∨ namesB P = true) (hl : P.length * 16 ≤ 140737488355328) : FewN (textPa P).data.toList := fun L r hn e => by
  have h1 := congrArg (List.count 47) e
  rw [List.count_append, textN_count hn] at h1
  rcases Classical.em (P = []) with rfl | h0
  · have : (textPa []).data.toList.count 47 = 1 := by decide
    omega
  · have e2 : (textPa P).data.toList = textN P := by unfold textPa; rw [if_neg h0, if_pos (hp.resolve_left h0)]
    rw [e2, textN_count (hp.resolve_left h0)] at h1
    omega
theorem textN_take (L : List ByteArray) (k : Nat) : (textN (L.take k)).length ≤ (textN L).length := by
  have e : textN L = textN (L.take k) ++ textN (L.drop k) := by rw [← textN_app, List.take_append_drop]
  rw [e, List.length_append]
  omega
theorem few_take {t : ByteArray} (h : (parseV t.data.toList).isSome = true) {k : Nat} : (textN (((parseV t.data.toList).getD []).take k)).length ≤ t.size := by
  cases e : parseV t.data.toList with
  | none => rw [e] at h; cases h
  | some L =>
    show (textN (L.take k)).length ≤ _
    have h1 := textN_take L k
    have h2 := text_parse e
    rcases parse_names e with rfl | hn
    · simp [textN]
    · rcases Classical.em (L = []) with rfl | hL
      · simp [textN]
      · have : t.data.toList = textN L := by rw [← h2]; unfold textPa; rw [if_neg hL, if_pos hn]
        rw [← list_size, this]
        exact h1
theorem textPa_size {P : List ByteArray} (hp : P = [] ∨ namesB P = true) (hl : P.length * 16 ≤ 140737488355328) : (textPa P).size ≤ 9223372036854775000 := by
  rcases Classical.em (P = []) with rfl | h0
  · decide
  · have e2 : (textPa P).data.toList = textN P := by unfold textPa; rw [if_neg h0, if_pos (hp.resolve_left h0)]
    have := textN_len (hp.resolve_left h0)
    rw [← list_size, e2]
    omega
end Go.Proofs.YtogpkhpephhbiaaGreatDoor
