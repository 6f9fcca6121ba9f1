/- Ta3, Ta4, Td1, Rd0, Ct0, Srt, Gd0, laid in one text. -/
import Derived.OneCell
import Derived.Maps.AppendAt
import Derived.Shelf.SlSortCmp.NoneTotal
import Derived.Sort.OwnSorted
import Derived.Deep.RegionHeld3
import Derived.Test.YtcclfaioicklaaaGreatDoorMg12
namespace Go.Proofs.YtcclfaioicklaaaGreatDoor
open Go.RowKit
set_option maxRecDepth 100000

theorem headS_at {r : List UInt8} {i : Nat} (h : i < (headS r).length) (h2 : i < r.length) : r[i] ≠ 47 := fun e => by
  have h3 : (headS r)[i] = r[i] := by
    have q := List.getElem_take (xs := r) (j := (headS r).length) (i := i) (h := by rw [List.length_take]; omega)
    simp only [headS_take] at q
    exact q
  exact headS_no r (by rw [← e, ← h3]; exact List.getElem_mem h)
theorem headS_end {r : List UInt8} (h : (headS r).length < r.length) : r[(headS r).length] = 47 := by
  rcases headS_next r with e | ⟨t, e⟩
  · rw [List.drop_eq_nil_iff] at e
    omega
  · have q := List.drop_eq_getElem_cons h
    rw [e] at q
    exact (List.cons.inj q).1.symm
theorem drop_get {s : ByteArray} {k i : Nat} (h : k + i < s.size) : (s.data.toList.drop k)[i]'(by rw [List.length_drop, list_size]; omega) = s[k + i] := by
  rw [List.getElem_drop]
  rfl

set_option maxHeartbeats 3200000 in
theorem rParseP_loop (t : ByteArray) (ht : t.size ≤ 9223372036854775000) (hf : FewN t.data.toList) (h0 : t.data.toList ≠ [47]) (w : World) :
    Calls Tryz.prog 14 #[.string t] w fun e w' => ∃ v, e = .returned (.tuple #[v, .bool (parseV t.data.toList).isSome]) ∧ OwnPa w' w.heap.size v ((parseV t.data.toList).getD []) ∧ Below w.heap.size w w' := by
  have HV : Hid (parseV t.data.toList = if t.data.toList = [] then none else parts t.data.toList) := by unfold Hid parseV; rw [if_neg h0]
  have HF := hide3 hf
  have HNA : Hid (∀ (s : ByteArray), s.size ≤ 9223372036854775807 → ∀ w1, Calls Tryz.prog 39 #[.string s] w1 fun e w' => e = .returned (.bool (Sc.nameA s.data.toList)) ∧ w' = w1) := fun s hs w1 => Sc.rName_any s hs w1
  have HON : Hid (OwnPa w w.heap.size (.slice none 0 0) []) := ⟨rfl, Or.inl ⟨rfl, rfl⟩⟩
  obtain ⟨i0, hi, hz0, hz1, hz2⟩ := Sc.info_parts Sc.infoStr
  have hq0 : (t.toList == [47]) = false := by rw [beq_eq_false_iff_ne, ByteArray.toList_eq]; exact h0
  clear hf h0
  go_enter Tryz.func14, Tryz.ntmps14
  go_wp2_with fail
  go_loopw [4, 5] (fun vp vk wr => ∃ (L : List ByteArray) (k : Nat), vk = .int .i64 k ∧ k ≤ t.size ∧ namesB L = true ∧ textN L ++ t.data.toList.drop k = t.data.toList ∧ parts t.data.toList = (parts (t.data.toList.drop k)).map (fun M => L ++ M) ∧ OwnPa wr w.heap.size vp L ∧ Below w.heap.size w wr) (fun _ vk _ => t.size - (intOf vk).toNat)
  case atStart => exact ⟨[], 0, rfl, Nat.zero_le _, rfl, rfl, by simp, HON.out, Below.refl _ _⟩
  case round =>
    obtain ⟨L, k, rfl, hk, hns, htx, hpt, hown, hb⟩ := hrel
    have HN := hide3 hns
    have HT := hide3 htx
    have HP := hide3 hpt
    have HO := hide3 hown
    have HB := hide3 hb
    obtain ⟨pa, pc, rfl, hpc⟩ := hown.form
    clear hns htx hpt hown hb
    by_cases hlt : k < t.size
    · have hr : t.data.toList.drop k ≠ [] := fun e => by rw [List.drop_eq_nil_iff, list_size] at e; omega
      have HNE : Hid (t.data.toList ≠ []) := fun e => by rw [e] at hr; simp at hr
      by_cases h9 : t.size < k + 9
      · have hp : modL.isPrefixOf (t.data.toList.drop k) = false := by
          rw [Bool.eq_false_iff]
          intro e
          have q := (List.isPrefixOf_iff_prefix.1 e).length_le
          rw [modL_len, List.length_drop, list_size] at q
          omega
        have HR : Hid (parseV t.data.toList = none) := by unfold Hid; rw [HV.out, if_neg HNE.out, HP.out, parts_no hr (by rw [hp]; simp)]; rfl
        have h9i : decide ((t.size : Int) < (k : Int) + 9) = true := decide_eq_true (by omega)
        clear hp hr
        go_wp2
        go_ret2
        exact ⟨_, by rw [HR.out]; rfl, by rw [HR.out]; exact ⟨rfl, Or.inl ⟨rfl, rfl⟩⟩, HB.out⟩
      · have HX : Hid ((t.extract k (k + 9)).toList = (t.data.toList.drop k).take 9) := by
          unfold Hid
          rw [ByteArray.toList_eq, Sc.ba_extract, Sc.ba_list, List.drop_take]
          congr 1
          omega
        cases hp : modL.isPrefixOf (t.data.toList.drop k)
        · have HR : Hid (parseV t.data.toList = none) := by unfold Hid; rw [HV.out, if_neg HNE.out, HP.out, parts_no hr (by rw [hp]; simp)]; rfl
          have hq : ((t.extract k (k + 9)).toList == [47, 109, 111, 100, 117, 108, 101, 115, 47]) = false := by
            rw [beq_eq_false_iff_ne, HX.out]
            intro e
            have : modL.isPrefixOf (t.data.toList.drop k) = true := by rw [List.isPrefixOf_iff_prefix, List.prefix_iff_eq_take]; exact e.symm
            rw [hp] at this
            cases this
          clear hp hr HX
          go_wp2
          go_ret2
          exact ⟨_, by rw [HR.out]; rfl, by rw [HR.out]; exact ⟨rfl, Or.inl ⟨rfl, rfl⟩⟩, HB.out⟩
        · have hq : ((t.extract k (k + 9)).toList == [47, 109, 111, 100, 117, 108, 101, 115, 47]) = true := by
            rw [beq_iff_eq, HX.out]
            exact (List.prefix_iff_eq_take.1 (List.isPrefixOf_iff_prefix.1 hp)).symm
          have hdd : (t.data.toList.drop k).drop 9 = t.data.toList.drop (k + 9) := List.drop_drop
          have HPE := hide3 (piece_eq hp)
          have HPN : Hid (Sc.nameA (headS (t.data.toList.drop (k + 9))) = false → parseV t.data.toList = none) := fun e => by
            rw [HV.out, if_neg HNE.out, HP.out, parts_no hr (by rw [hdd, e]; simp)]; rfl
          have hhl : (headS (t.data.toList.drop (k + 9))).length ≤ t.size - (k + 9) := by have := headS_le (t.data.toList.drop (k + 9)); rw [List.length_drop, list_size] at this; exact this
          have HBY : Hid (∀ j (_ : j < (headS (t.data.toList.drop (k + 9))).length) (h2 : k + 9 + j < t.size), t[k + 9 + j] ≠ 47) := fun j hj h2 => by
            have := headS_at hj (by rw [List.length_drop, list_size]; omega)
            rwa [drop_get h2] at this
          have HBE : Hid (∀ (h2 : k + 9 + (headS (t.data.toList.drop (k + 9))).length < t.size), t[k + 9 + (headS (t.data.toList.drop (k + 9))).length] = 47) := fun h2 => by
            have := headS_end (r := t.data.toList.drop (k + 9)) (by rw [List.length_drop, list_size]; omega)
            rwa [drop_get h2] at this
          have HXN : Hid ((t.extract (k + 9) (k + 9 + (headS (t.data.toList.drop (k + 9))).length)) = Sc.ba (headS (t.data.toList.drop (k + 9)))) := by
            unfold Hid
            rw [Sc.ba_extract, List.drop_take, show k + 9 + (headS (t.data.toList.drop (k + 9))).length - (k + 9) = (headS (t.data.toList.drop (k + 9))).length by omega, headS_take]
          rw [hdd, List.drop_drop] at HPE
          have HY : Hid (Sc.nameA (headS (t.data.toList.drop (k + 9))) = true → namesB (L ++ [t.extract (k + 9) (k + 9 + (headS (t.data.toList.drop (k + 9))).length)]) = true ∧ textN (L ++ [t.extract (k + 9) (k + 9 + (headS (t.data.toList.drop (k + 9))).length)]) ++ t.data.toList.drop (k + 9 + (headS (t.data.toList.drop (k + 9))).length) = t.data.toList ∧ parts t.data.toList = (parts (t.data.toList.drop (k + 9 + (headS (t.data.toList.drop (k + 9))).length))).map (fun M => (L ++ [t.extract (k + 9) (k + 9 + (headS (t.data.toList.drop (k + 9))).length)]) ++ M) ∧ 0 < (headS (t.data.toList.drop (k + 9))).length ∧ L.length + 1 ≤ 14073748835124) := fun e => by
            rw [HXN.out]
            have y1 := names_snoc HN.out e
            have y2 : textN (L ++ [Sc.ba (headS (t.data.toList.drop (k + 9)))]) ++ t.data.toList.drop (k + 9 + (headS (t.data.toList.drop (k + 9))).length) = t.data.toList := by
              rw [textN_snoc, Sc.ba_list]
              conv => rhs; rw [← HT.out, HPE.out]
              simp only [List.append_assoc]
              rfl
            refine ⟨y1, y2, ?_, nameA_pos e, ?_⟩
            · rw [HP.out, parts_on hr hp (by rw [hdd]; exact e), map_map_app, hdd, List.drop_drop]
            · have := HF.out _ _ y1 y2
              rw [List.length_append] at this
              exact this
          have HNM : Hid (∀ w1, Calls Tryz.prog 39 #[.string (t.extract (k + 9) (k + 9 + (headS (t.data.toList.drop (k + 9))).length))] w1 fun e w' => e = .returned (.bool (Sc.nameA (headS (t.data.toList.drop (k + 9))))) ∧ w' = w1) := fun w1 => by
            have h := HNA.out (t.extract (k + 9) (k + 9 + (headS (t.data.toList.drop (k + 9))).length)) (by rw [ByteArray.size_extract]; omega) w1
            rw [HXN.out] at h ⊢
            rw [Sc.ba_list] at h
            exact h
          clear HXN HPE
          generalize (headS (t.data.toList.drop (k + 9))).length = m at *
          generalize Sc.nameA (headS (t.data.toList.drop (k + 9))) = b at *
          clear hp hr HX hdd HNA
          obtain ⟨wa, rfl⟩ : ∃ x, x = wr := ⟨wr, rfl⟩
          go_wp2_with fail
          go_loopw [6] (fun vj wq => ∃ j : Nat, vj = .int .i64 (k + 9 + j : Nat) ∧ j ≤ m ∧ wq = wa) (fun vj _ => t.size - (intOf vj).toNat)
          case atStart => exact ⟨0, by go_num, Nat.zero_le _, rfl⟩
          case round =>
            obtain ⟨j, rfl, hj, hww⟩ := hrel
            subst hww
            by_cases hjm : j < m
            · have hjs : k + 9 + j < t.size := by omega
              have e47 : ((t[k + 9 + j].toNat : Int) == 47) = false := by
                rw [beq_eq_false_iff_ne]
                intro e
                exact HBY.out j hjm hjs (UInt8.toNat_inj.1 (by have h47 : (47 : UInt8).toNat = 47 := rfl; omega))
              go_wp2
              exact ⟨⟨j + 1, by go_num, by omega, trivial⟩, by simp [intOf]; omega⟩
            · have hmj : m = j := by omega
              subst hmj
              by_cases he : k + 9 + m < t.size
              · have hjs : decide (((k + 9 + m : Nat) : Int) < (t.size : Int)) = true := decide_eq_true (by omega)
                have e47 : ((t[k + 9 + m].toNat : Int) == 47) = true := by rw [HBE.out he]; rfl
                cases b
                · have HR := hide3 (HPN.out rfl)
                  clear HPN HY
                  go_wp2_with (go_at_call 39; refine (HNM.out _).mono ?_; rintro e w1 ⟨rfl, hw1⟩; subst w1)
                  go_ret2
                  exact ⟨_, by rw [HR.out]; rfl, by rw [HR.out]; exact ⟨rfl, Or.inl ⟨rfl, rfl⟩⟩, HB.out⟩
                · obtain ⟨y1, y2, y3, y4, y5⟩ := HY.out rfl
                  have HNN := hide3 y1
                  have HTN := hide3 y2
                  have HPP := hide3 y3
                  clear HPN HY y1 y2 y3
                  go_wp2_with (first
                    | (go_at_call 39; refine (HNM.out _).mono ?_; rintro e w1 ⟨rfl, hw1⟩; subst w1)
                    | (at_builtin; refine wpList_append_own_wide _ rfl _ _ 29 rfl w.heap.size 9 i0 _ 1 16 Tryz.underlying29 hi hz0 hz1 hz2 rfl (by decide) _ _ _ rfl (HO.out.alloc _) ⟨wr.heap.size, 0, none⟩ 1 1 [.string (t.extract (k + 9) (k + 9 + m))] rfl rfl (cell_one_new _ _ _) (by simp [Value.oneCell']) (by unfold maxLen; omega) (by omega) (by have := HB.out.size; simp; omega) ?_; intro v3 w3 ho3 hg3 _; have HO3 : Hid (OwnPa w3 w.heap.size v3 (L ++ [t.extract (k + 9) (k + 9 + m)])) := (by have e := ho3; unfold Hid OwnPa pcs; rw [List.map_append, List.length_append]; exact e); have HB3 : Hid (Below w.heap.size w w3) := (HB.out.alloc (by have := HB.out.size; omega) _).grown hg3 (by have := HB.out.size; simp; omega) (fun k hk => (World.ownsRow.lt HO.out k hk).1); clear ho3 hg3))
                  exact ⟨⟨_, k + 9 + m, by go_num, by omega, HNN.out, HTN.out, HPP.out, HO3.out, HB3.out⟩, by simp [intOf]; omega⟩
              · have hjs : decide (((k + 9 + m : Nat) : Int) < (t.size : Int)) = false := decide_eq_false (by omega)
                cases b
                · have HR := hide3 (HPN.out rfl)
                  clear HPN HY
                  go_wp2_with (go_at_call 39; refine (HNM.out _).mono ?_; rintro e w1 ⟨rfl, hw1⟩; subst w1)
                  go_ret2
                  exact ⟨_, by rw [HR.out]; rfl, by rw [HR.out]; exact ⟨rfl, Or.inl ⟨rfl, rfl⟩⟩, HB.out⟩
                · obtain ⟨y1, y2, y3, y4, y5⟩ := HY.out rfl
                  have HNN := hide3 y1
                  have HTN := hide3 y2
                  have HPP := hide3 y3
                  clear HPN HY y1 y2 y3
                  go_wp2_with (first
                    | (go_at_call 39; refine (HNM.out _).mono ?_; rintro e w1 ⟨rfl, hw1⟩; subst w1)
                    | (at_builtin; refine wpList_append_own_wide _ rfl _ _ 29 rfl w.heap.size 9 i0 _ 1 16 Tryz.underlying29 hi hz0 hz1 hz2 rfl (by decide) _ _ _ rfl (HO.out.alloc _) ⟨wr.heap.size, 0, none⟩ 1 1 [.string (t.extract (k + 9) (k + 9 + m))] rfl rfl (cell_one_new _ _ _) (by simp [Value.oneCell']) (by unfold maxLen; omega) (by omega) (by have := HB.out.size; simp; omega) ?_; intro v3 w3 ho3 hg3 _; have HO3 : Hid (OwnPa w3 w.heap.size v3 (L ++ [t.extract (k + 9) (k + 9 + m)])) := (by have e := ho3; unfold Hid OwnPa pcs; rw [List.map_append, List.length_append]; exact e); have HB3 : Hid (Below w.heap.size w w3) := (HB.out.alloc (by have := HB.out.size; omega) _).grown hg3 (by have := HB.out.size; simp; omega) (fun k hk => (World.ownsRow.lt HO.out k hk).1); clear ho3 hg3))
                  exact ⟨⟨_, k + 9 + m, by go_num, by omega, HNN.out, HTN.out, HPP.out, HO3.out, HB3.out⟩, by simp [intOf]; omega⟩
    · obtain rfl : k = t.size := by omega
      have HLL : Hid (textN L = t.data.toList) := by have e := HT.out; rw [List.drop_eq_nil_iff.2 (by rw [list_size]; exact Nat.le_refl _), List.append_nil] at e; exact e
      have HPE : Hid (parts t.data.toList = some L) := by unfold Hid; rw [HP.out, List.drop_eq_nil_iff.2 (by rw [list_size]; exact Nat.le_refl _), parts_nil]; simp
      cases L with
      | nil =>
        have HR : Hid (parseV t.data.toList = none) := by unfold Hid; rw [HV.out, if_pos (by rw [← HLL.out]; rfl)]
        rw [List.length_nil]
        go_wp2
        go_ret2
        exact ⟨_, by rw [HR.out]; rfl, by rw [HR.out]; exact HO.out, HB.out⟩
      | cons n L =>
        have HR : Hid (parseV t.data.toList = some (n :: L)) := by unfold Hid; rw [HV.out, if_neg (by rw [← HLL.out]; simp [textN, modS]), HPE.out]
        have hp : (0 : Int) < (((n :: L).length : Nat) : Int) := by rw [List.length_cons]; omega
        go_wp2
        go_ret2
        exact ⟨_, by rw [HR.out]; rfl, by rw [HR.out]; exact HO.out, HB.out⟩

theorem rParseP_any (t : ByteArray) (ht : t.size ≤ 9223372036854775000) (hf : FewN t.data.toList) (w : World) :
    Calls Tryz.prog 14 #[.string t] w fun e w' => ∃ v, e = .returned (.tuple #[v, .bool (parseV t.data.toList).isSome]) ∧ OwnPa w' w.heap.size v ((parseV t.data.toList).getD []) ∧ Below w.heap.size w w' := by
  by_cases h0 : t.data.toList = [47]
  · obtain rfl : t = ⟨#[47]⟩ := bytes_same (by rw [ByteArray.toList_eq, ByteArray.toList_eq, h0])
    have HR : Hid (parseV (⟨#[47]⟩ : ByteArray).data.toList = some []) := rfl
    rw [HR.out]
    clear hf ht h0
    go_enter Tryz.func14, Tryz.ntmps14
    go_wp2
    go_ret2
    exact ⟨_, rfl, ⟨rfl, Or.inl ⟨rfl, rfl⟩⟩, Below.refl _ _⟩
  · exact rParseP_loop t ht hf h0 w
end Go.Proofs.YtcclfaioicklaaaGreatDoor
namespace Go.Proofs.YtcclfaioicklaaaGreatDoor
open Go.RowKit
set_option maxRecDepth 100000

set_option maxHeartbeats 3200000 in
theorem tText_w {L : List ByteArray} {v : Value} {w : World} (h : PathAt w v L) (hz : L.length ≤ 4611686018427387904) (hlen : ∀ k, k ≤ L.length → namesB (L.take k) = true → (textN (L.take k)).length ≤ 219902325555200) :
    Calls Tryz.prog 12 #[v] w fun e w' => e = .returned (.string (textPa L)) ∧ Below w.heap.size w w' := by
  have HP : Hid (∀ w1, Below w.heap.size w w1 → PathAt w1 v L) := fun w1 hb => h.below hb
  obtain ⟨ad, cap, rfl⟩ := h.sl
  have HLE := hide3 hlen
  clear h hlen
  by_cases h0 : L = []
  · subst h0
    have HR : Hid (textPa [] = ⟨#[47]⟩) := rfl
    rw [List.length_nil]
    go_enter Tryz.func12, Tryz.ntmps12
    go_wp2
    go_ret
    exact ⟨by rw [HR.out]; rfl, Below.refl _ _⟩
  · have hpos : 0 < L.length := List.length_pos_iff.2 h0
    have HNO : Hid (namesB L = false → textPa L = ⟨#[]⟩) := fun e => by unfold textPa; rw [if_neg h0, if_neg (by rw [e]; simp)]
    have HYE : Hid (namesB L = true → textPa L = ⟨(textN L).toArray⟩) := fun e => by unfold textPa; rw [if_neg h0, if_pos e]
    have HNA : Hid (∀ s w1, Calls Tryz.prog 34 #[.string s] w1 fun e w' => e = .returned (.bool (Sc.nameA s.data.toList)) ∧ w' = w1) := fun s w1 => Sc.Name_any s w1
    have HW : Hid (∀ l wz s, TW w l wz → s.size ≤ 1000 → l.length ≤ 219902325555300 → Calls Tryz.prog 35 #[.pointer (some ⟨w.heap.size, 0, none⟩), .string s] wz fun e w' => e = .returned (.tuple #[.int .i64 s.size, .nilIface]) ∧ TW w (l ++ s.data.toList) w') := fun l wz s h1 h2 h3 => by
      refine (putText_w s h1.1 h2 (by omega) h1.2.size).mono ?_
      rintro e w' ⟨rfl, g1, g2⟩
      exact ⟨rfl, g1, h1.2.trans g2⟩
    have HST : Hid (∀ l wz, TW w l wz → Calls Tryz.prog 36 #[.pointer (some ⟨w.heap.size, 0, none⟩)] wz fun e w2 => e = .returned (.string ⟨l.toArray⟩) ∧ Below w.heap.size wz w2) := fun l w' h => Tryz.Builder_String_any _ _ l w' h.1 h.2.size
    have HT0 : Hid (TW w [] (w.alloc (.cells #[.pointer none, .slice none 0 0] 63))) := TW.new w
    have HL : Hid (∀ k, k ≤ L.length → namesB (L.take k) = true → (textN (L.take k)).length ≤ 219902325555200) := HLE.out
    have hne0 : ((L.length : Int) == 0) = false := by rw [beq_eq_false_iff_ne]; omega
    go_enter Tryz.func12, Tryz.ntmps12
    go_wp2_with fail
    go_loopw [11] (fun i wr => ∃ k : Nat, k ≤ L.length ∧ i = .int .i64 k ∧ TW w (textN (L.take k)) wr ∧ namesB (L.take k) = true) (fun i _ => L.length - (intOf i).toNat)
    case atStart => exact ⟨0, Nat.zero_le _, rfl, HT0.out, rfl⟩
    case round =>
      obtain ⟨k, hk, rfl, htw, hns⟩ := hrel
      have HTW := hide3 htw
      by_cases hlt : k < L.length
      · obtain ⟨ad', cap', e, _, hcs⟩ := HP.out wr htw.2
        cases e
        obtain ⟨g, o, rfl, hcz⟩ : ∃ g o, ad = some ⟨g, o, none⟩ ∧ ∀ i (h : i < L.length), StIn wr g (o + i) L[i] := by
          rcases hcs with h | h
          · exact absurd h h0
          · exact h
        clear hcs
        obtain ⟨c0, c1⟩ := hcz k hlt
        have HLK := hide3 (HL.out k hk hns)
        have HTS : Hid (textN (L.take (k + 1)) = textN (L.take k) ++ modS.data.toList ++ L[k].data.toList) := by
          unfold Hid
          rw [List.take_succ_eq_append_getElem hlt, textN_snoc]
        have HNT : Hid (Sc.nameA L[k].data.toList = true → namesB (L.take (k + 1)) = true) := fun e => by rw [names_take hlt, hns, e]; rfl
        have HNB : Hid (Sc.nameA L[k].data.toList = false → namesB L = false) := fun e => names_bad hlt e
        clear hcz htw hns
        have HNM := hide3 (HNA.out L[k])
        generalize L[k] = s at *
        cases hn : Sc.nameA s.data.toList
        · have HR := hide3 (HNO.out (HNB.out hn))
          rw [hn] at HNM
          clear HNT HNB HNO HYE
          go_wp2_with (go_at_call 34; refine (HNM.out _).mono ?_; rintro e w1 ⟨rfl, hw1⟩; subst w1)
          go_ret
          exact ⟨by rw [HR.out]; rfl, HTW.out.2⟩
        · have HR := hide3 (HNT.out hn)
          rw [hn] at HNM
          have hs16 : s.size ≤ 16 := name_size hn
          have hms : modS.size = 9 := rfl
          clear HNT HNB HNO HYE
          have t1 : True := trivial
          go_wp2_with (first
            | (go_at_call 34; refine (HNM.out _).mono ?_; rintro e w1 ⟨rfl, hw1⟩; subst w1)
            | (have _t := t1; go_at_call 35; refine (HW.out (textN (L.take k)) _ modS HTW.out (by omega) (by have := HLK.out; omega)).mono ?_; rintro e w2 ⟨rfl, ok⟩; have HT2 := hide3 ok; clear ok t1)
            | (have _t := HT2; go_at_call 35; refine (HW.out (textN (L.take k) ++ modS.data.toList) _ s HT2.out (by omega) (by have := HLK.out; rw [List.length_append, list_size]; omega)).mono ?_; rintro e w3 ⟨rfl, ok⟩; have HT3 := hide3 ok; clear ok))
          exact ⟨⟨k + 1, by omega, by go_num, by rw [HTS.out]; exact HT3.out, HR.out⟩, by simp [intOf]; omega⟩
      · obtain rfl : k = L.length := by omega
        have HTE : Hid (TW w (textN L) wr) := by have e := HTW.out; rw [List.take_length] at e; exact e
        have HR : Hid (textPa L = ⟨(textN L).toArray⟩) := HYE.out (by rw [List.take_length] at hns; exact hns)
        clear htw hns HTW
        go_wp2_with (go_at_call 36; refine (HST.out _ _ HTE.out).mono ?_; rintro e w6 ⟨rfl, ok⟩; have HB6 := hide3 (HTE.out.2.trans ok); clear ok)
        go_ret
        exact ⟨by rw [HR.out]; rfl, HB6.out⟩
end Go.Proofs.YtcclfaioicklaaaGreatDoor
namespace Go.Proofs.YtcclfaioicklaaaGreatDoor
open Go.RowKit
set_option maxRecDepth 100000

theorem names_cons {s : ByteArray} {L : List ByteArray} : namesB (s :: L) = true ↔ Sc.nameA s.data.toList = true ∧ namesB L = true := by
  unfold namesB
  rw [List.all_cons, Bool.and_eq_true]
theorem textN_cons (s : ByteArray) (L : List ByteArray) : textN (s :: L) = modL ++ (s.data.toList ++ textN L) := by
  unfold textN modL
  rw [List.flatMap_cons, List.append_assoc]
theorem textN_open (L : List ByteArray) : textN L = [] ∨ ∃ t, textN L = 47 :: t := by
  cases L with
  | nil => exact Or.inl rfl
  | cons s L => exact Or.inr ⟨_, textN_cons s L⟩
theorem ba_self (s : ByteArray) : Sc.ba s.data.toList = s := rfl
theorem mod_pre (r : List UInt8) : modL.isPrefixOf (modL ++ r) = true := by rw [List.isPrefixOf_iff_prefix]; exact List.prefix_append _ _
theorem mod_drop (r : List UInt8) : (modL ++ r).drop 9 = r := List.drop_left (l₁ := modL)
theorem partsP_text : ∀ {L : List ByteArray}, namesB L = true → parts (textN L) = some L
  | [], _ => parts_nil
  | s :: L, h => by
    obtain ⟨h1, h2⟩ := names_cons.1 h
    have hh : headS (s.data.toList ++ textN L) = s.data.toList := headS_app (nameA_no h1) (textN_open L)
    have e := parts_on (r := textN (s :: L)) (by rw [textN_cons]; simp [modL, modS]) (by rw [textN_cons]; exact mod_pre _) (by rw [textN_cons, mod_drop, hh]; exact h1)
    rw [e, textN_cons, mod_drop, hh, List.drop_left, partsP_text h2]
    rfl
theorem textP_parts : ∀ (n : Nat) {r : List UInt8} {L : List ByteArray}, r.length ≤ n → parts r = some L → textN L = r ∧ namesB L = true
  | n, [], L, _, h => by
    rw [parts_nil] at h
    cases h
    exact ⟨rfl, rfl⟩
  | 0, _ :: _, _, hn, _ => by simp at hn
  | n + 1, b :: r, L, hn, h => by
    by_cases hq : modL.isPrefixOf (b :: r) = true ∧ Sc.nameA (headS ((b :: r).drop 9)) = true
    · rw [parts_on (by simp) hq.1 hq.2] at h
      cases hp : parts (((b :: r).drop 9).drop (headS ((b :: r).drop 9)).length) with
      | none => rw [hp] at h; cases h
      | some M =>
        rw [hp] at h
        cases h
        have ih := textP_parts n (by simp only [List.length_drop, List.length_cons] at hn ⊢; omega) hp
        refine ⟨?_, names_cons.2 ⟨by rw [Sc.ba_list]; exact hq.2, ih.2⟩⟩
        rw [textN_cons, ih.1, Sc.ba_list, ← List.append_assoc]
        exact (piece_eq hq.1).symm
    · rw [parts_no (by simp) hq] at h
      cases h

/-- What is written is read again. -/
theorem parse_text {L : List ByteArray} (h : L = [] ∨ namesB L = true) : parseV (textPa L).data.toList = some L := by
  rcases Classical.em (L = []) with rfl | h0
  · rfl
  · have hn : namesB L = true := h.resolve_left h0
    have e : (textPa L).data.toList = textN L := by unfold textPa; rw [if_neg h0, if_pos hn]
    rw [e]
    cases L with
    | nil => exact absurd rfl h0
    | cons s L =>
      unfold parseV
      rw [if_neg (by rw [textN_cons]; simp [modL, modS]), if_neg (by rw [textN_cons]; simp [modL, modS])]
      exact partsP_text hn
/-- What is read is written as that text. -/
theorem text_parse {t : ByteArray} {L : List ByteArray} (h : parseV t.data.toList = some L) : textPa L = t := by
  unfold parseV at h
  by_cases h1 : t.data.toList = [47]
  · rw [if_pos h1] at h
    cases h
    exact bytes_same (by rw [ByteArray.toList_eq, ByteArray.toList_eq, h1]; rfl)
  · rw [if_neg h1] at h
    by_cases h2 : t.data.toList = []
    · rw [if_pos h2] at h
      cases h
    · rw [if_neg h2] at h
      obtain ⟨e1, e2⟩ := textP_parts _ (Nat.le_refl _) h
      have h0 : L ≠ [] := fun e => h2 (by rw [← e1, e]; rfl)
      unfold textPa
      rw [if_neg h0, if_pos e2]
      exact bytes_same (by rw [ByteArray.toList_eq, ByteArray.toList_eq, ← e1])
theorem textPa_none {L : List ByteArray} (h0 : L ≠ []) (h : namesB L = false) : textPa L = ⟨#[]⟩ := by unfold textPa; rw [if_neg h0, if_neg (by rw [h]; simp)]
theorem textPa_some {L : List ByteArray} (h : L = [] ∨ namesB L = true) : (textPa L).data.toList ≠ [] := by
  rcases Classical.em (L = []) with rfl | h0
  · decide
  · unfold textPa
    rw [if_neg h0, if_pos (h.resolve_left h0)]
    cases L with
    | nil => exact absurd rfl h0
    | cons s L =>
      show textN (s :: L) ≠ []
      rw [textN_cons]
      simp [modL, modS]
theorem parse_names {t : ByteArray} {L : List ByteArray} (h : parseV t.data.toList = some L) : L = [] ∨ namesB L = true := by
  unfold parseV at h
  split at h
  · cases h; exact Or.inl rfl
  · split at h
    · cases h
    · exact Or.inr (textP_parts _ (Nat.le_refl _) h).2

theorem textN_ge : ∀ {L : List ByteArray}, namesB L = true → 10 * L.length ≤ (textN L).length
  | [], _ => by simp
  | s :: L, h => by
    obtain ⟨h1, h2⟩ := names_cons.1 h
    have := textN_ge h2
    have := nameA_pos h1
    rw [textN_cons, List.length_append, List.length_append, modL_len, List.length_cons]
    omega
theorem few_size {t : ByteArray} (h : t.size ≤ 140737488351232) : FewN t.data.toList := fun L r hn e => by
  have h1 := congrArg List.length e
  have h2 := textN_ge hn
  rw [List.length_append, list_size] at h1
  omega
theorem textN_count : ∀ {L : List ByteArray}, namesB L = true → (textN L).count 47 = 2 * L.length
  | [], _ => by simp [textN]
  | s :: L, h => by
    obtain ⟨h1, h2⟩ := names_cons.1 h
    have e1 : modL.count 47 = 2 := by decide
    have e2 : s.data.toList.count 47 = 0 := List.count_eq_zero.2 (nameA_no h1)
    rw [textN_cons, List.count_append, List.count_append, e1, e2, textN_count h2, List.length_cons]
    omega
theorem few_text {P : List ByteArray} (hp : P = [] ∨ namesB P = true) (hl : P.length * 16 ≤ 140737488355328) : FewN (textPa P).data.toList := fun L r hn e => by
  have h1 := congrArg (List.count 47) e
  rw [List.count_append, textN_count hn] at h1
  rcases Classical.em (P = []) with rfl | h0
  · have : (textPa []).data.toList.count 47 = 1 := by decide
    omega
  · have e2 : (textPa P).data.toList = textN P := by unfold textPa; rw [if_neg h0, if_pos (hp.resolve_left h0)]
    rw [e2, textN_count (hp.resolve_left h0)] at h1
    omega
theorem textN_take (L : List ByteArray) (k : Nat) : (textN (L.take k)).length ≤ (textN L).length := by
  have e : textN L = textN (L.take k) ++ textN (L.drop k) := by rw [← textN_app, List.take_append_drop]
  rw [e, List.length_append]
  omega
theorem few_take {t : ByteArray} (h : (parseV t.data.toList).isSome = true) {k : Nat} : (textN (((parseV t.data.toList).getD []).take k)).length ≤ t.size := by
  cases e : parseV t.data.toList with
  | none => rw [e] at h; cases h
  | some L =>
    show (textN (L.take k)).length ≤ _
    have h1 := textN_take L k
    have h2 := text_parse e
    rcases parse_names e with rfl | hn
    · simp [textN]
    · rcases Classical.em (L = []) with rfl | hL
      · simp [textN]
      · have : t.data.toList = textN L := by rw [← h2]; unfold textPa; rw [if_neg hL, if_pos hn]
        rw [← list_size, this]
        exact h1
theorem textPa_size {P : List ByteArray} (hp : P = [] ∨ namesB P = true) (hl : P.length * 16 ≤ 140737488355328) : (textPa P).size ≤ 9223372036854775000 := by
  rcases Classical.em (P = []) with rfl | h0
  · decide
  · have e2 : (textPa P).data.toList = textN P := by unfold textPa; rw [if_neg h0, if_pos (hp.resolve_left h0)]
    have := textN_len (hp.resolve_left h0)
    rw [← list_size, e2]
    omega
end Go.Proofs.YtcclfaioicklaaaGreatDoor
namespace Go.Proofs.YtcclfaioicklaaaGreatDoor
open Go.RowKit
set_option maxRecDepth 100000

/-- Dependencies as cells, with their ranges' slices. -/
def dpCells (ps : List (Dp × Value)) : List Value := ps.flatMap fun p => [.string p.1.nm, p.2]
theorem dpCells_length (ps : List (Dp × Value)) : (dpCells ps).length = ps.length * 2 := by
  induction ps with
  | nil => rfl
  | cons p ps ih => unfold dpCells at *; simp only [List.flatMap_cons, List.length_append, List.length_cons, List.length_nil, ih]; omega
theorem dpCells_snoc (ps : List (Dp × Value)) (p : Dp × Value) : dpCells (ps ++ [p]) = dpCells ps ++ [.string p.1.nm, p.2] := by simp [dpCells]
theorem dpCells_at : ∀ (ps : List (Dp × Value)) (i : Nat) (h : i < ps.length), (dpCells ps)[i * 2]? = some (.string ps[i].1.nm) ∧ (dpCells ps)[i * 2 + 1]? = some ps[i].2
  | [], i, h => by simp at h
  | p :: ps, 0, _ => by simp [dpCells]
  | p :: ps, i + 1, h => by
    have := dpCells_at ps i (by simpa using h)
    have e : dpCells (p :: ps) = .string p.1.nm :: p.2 :: dpCells ps := by simp [dpCells]
    rw [e, show (i + 1) * 2 = i * 2 + 1 + 1 by omega]
    simpa using this

/-- Dependencies of one's own, with ranges of one's own. -/
def OwnD (w : World) (B : Nat) (v : Value) (ps : List (Dp × Value)) : Prop := w.ownsRow B 113 2 v ps.length (dpCells ps) ∧ ∀ p ∈ ps, OwnS w B p.2 p.1.rg
theorem OwnD.nil (w : World) (B : Nat) : OwnD w B (.slice none 0 0) [] := ⟨⟨rfl, Or.inl ⟨rfl, rfl⟩⟩, fun p hp => by cases hp⟩
theorem own_of {w w' : World} {B : Nat} {e : TypeId} {z : Nat} {v : Value} {n : Nat} {xs : List Value} (h : w.ownsRow B e z v n xs) (hk : ∀ g, v.ownBlock = some g → w'.heap[g]? = w.heap[g]?) : w'.ownsRow B e z v n xs := by
  refine ⟨h.1, ?_⟩
  rcases h.2 with hn | ⟨g, cap, cur, rfl, hB, hgg, r⟩
  · exact Or.inl hn
  · exact Or.inr ⟨g, cap, cur, rfl, hB, (hk g rfl).trans hgg, r⟩
theorem own_below {w w' : World} {B : Nat} {e : TypeId} {z : Nat} {v : Value} {n : Nat} {xs : List Value} (h : w.ownsRow B e z v n xs) (hb : Below w.heap.size w w') : w'.ownsRow B e z v n xs := own_of h fun g hg => hb.block g (h.lt g hg).2
theorem own_base {w : World} {B C : Nat} {e : TypeId} {z : Nat} {v : Value} {n : Nat} {xs : List Value} (h : w.ownsRow B e z v n xs) (hc : C ≤ B) : w.ownsRow C e z v n xs := by
  refine ⟨h.1, ?_⟩
  rcases h.2 with hn | ⟨g, cap, cur, hv, hB, r⟩
  · exact Or.inl hn
  · exact Or.inr ⟨g, cap, cur, hv, Nat.le_trans hc hB, r⟩
/-- Rows of other types are other rows. -/
theorem own_ne {w : World} {B B' : Nat} {e e' : TypeId} {z z' : Nat} {v v' : Value} {n n' : Nat} {xs xs' : List Value} (h : w.ownsRow B e z v n xs) (h' : w.ownsRow B' e' z' v' n' xs') (hne : e ≠ e') {g : Nat} (hg : v.ownBlock = some g) : v'.ownBlock ≠ some g := by
  intro hg'
  rcases h.2 with ⟨rfl, _⟩ | ⟨g1, cap, cur, rfl, _, hgg, _⟩
  · cases hg
  · rcases h'.2 with ⟨rfl, _⟩ | ⟨g2, cap', cur', rfl, _, hgg', _⟩
    · cases hg'
    · cases hg
      cases hg'
      rw [hgg] at hgg'
      injection hgg' with e1
      injection e1 with _ e2 _
      exact hne e2
theorem OwnD.below {w w' : World} {B : Nat} {v : Value} {ps : List (Dp × Value)} (h : OwnD w B v ps) (hb : Below w.heap.size w w') : OwnD w' B v ps := ⟨own_below h.1 hb, fun p hp => (h.2 p hp).below hb⟩
theorem OwnD.base {w : World} {B C : Nat} {v : Value} {ps : List (Dp × Value)} (h : OwnD w B v ps) (hc : C ≤ B) : OwnD w C v ps := ⟨own_base h.1 hc, fun p hp => (h.2 p hp).base hc⟩
theorem OwnS.at {w : World} {B : Nat} {v : Value} {L : List Sp} (h : OwnS w B v L) : SpansC w v L ∧ L.length ≤ 9223372036854775807 := by
  have h0 := h
  obtain ⟨ad, cap, rfl, hc, hl⟩ := h.sp
  refine ⟨⟨⟨ad, cap, rfl, hl⟩, ad, _, cap, rfl, hc⟩, ?_⟩
  rcases h0.2 with ⟨_, hn⟩ | ⟨g, cap', cur, _, _, _, h1, h2, _⟩
  · omega
  · unfold maxLen at h2; omega
theorem OwnD.at {w : World} {B : Nat} {v : Value} {ps : List (Dp × Value)} (h : OwnD w B v ps) : DepsAt w v (ps.map (·.1)) := by
  have h0 := h.1
  rcases h.1.2 with ⟨rfl, hn⟩ | ⟨g, cap, cur, rfl, hB, hg, hc, hm, _⟩
  · have : ps = [] := List.eq_nil_of_length_eq_zero hn
    subst this
    exact ⟨none, 0, rfl, Nat.le_refl _, Or.inl rfl⟩
  · have hlt := (Array.getElem?_eq_some_iff.1 hg).1
    refine ⟨_, cap, by rw [List.length_map], by rw [List.length_map]; exact hc, Or.inr ⟨g, 0, rfl, hlt, fun i hi => ?_⟩⟩
    have hi' : i < ps.length := by simpa using hi
    have c0 := World.ownsRow.cellAt h0 (i * 2) (by omega)
    have c1 := World.ownsRow.cellAt h0 (i * 2 + 1) (by omega)
    rw [(dpCells_at ps i hi').1] at c0
    rw [(dpCells_at ps i hi').2] at c1
    refine ⟨ps[i].2, ?_⟩
    rw [List.getElem_map, Nat.zero_add]
    exact ⟨c0, c1, (h.2 _ (List.getElem_mem hi')).at, hlt⟩
theorem OwnD.len {w : World} {B : Nat} {v : Value} {ps : List (Dp × Value)} (h : OwnD w B v ps) : ∃ ad cap, v = .slice ad ps.length cap := by
  rcases h.1.2 with ⟨rfl, hn⟩ | ⟨g, cap, cur, rfl, _⟩
  · exact ⟨none, 0, by rw [hn]⟩
  · exact ⟨_, cap, rfl⟩
end Go.Proofs.YtcclfaioicklaaaGreatDoor
namespace Go.Proofs.YtcclfaioicklaaaGreatDoor
open Go.RowKit
set_option maxRecDepth 100000

/-- Rows of different kinds share no block. -/
theorem own_apart {w : World} {B B' : Nat} {e e' : TypeId} {z z' : Nat} {v v' : Value} {n n' : Nat} {xs xs' : List Value} (h : w.ownsRow B e z v n xs) (h' : w.ownsRow B' e' z' v' n' xs') (hne : e ≠ e') : v.ownBlock = none ∨ v.ownBlock ≠ v'.ownBlock := by
  cases hv : v.ownBlock with
  | none => exact Or.inl rfl
  | some g => exact Or.inr fun e => own_ne h h' hne hv e.symm

theorem grown_pre {w w' w1 : World} {row : Option Nat} (hb : Below w.heap.size w w') (hg : w'.grownBy w1 row) : w.grownBy w1 row :=
  ⟨hg.os.trans hb.os, hg.tape.trans hb.tape, hg.output.trans hb.output, Nat.le_trans hb.size hg.size, fun k hk hn => (hg.block k (Nat.lt_of_lt_of_le hk hb.size) hn).trans (hb.block k hk)⟩

theorem below_grown {B : Nat} {w w1 : World} {own : Option Nat} (hg : w.grownBy w1 own) (h : ∀ g, own = some g → B ≤ g) (hB : B ≤ w.heap.size) : Below B w w1 := ⟨hg.os, hg.tape, hg.output, hg.size, fun k hk => hg.block k (by omega) (fun e => by have := h k e.symm; omega)⟩

/-- One thing is put behind a row of one's own, in a region that draws its order. -/
theorem step_own {B : Nat} {wx : World} {elt slt : TypeId} {z : Value} {sz bs n : Nat} {v : Value} {xs : List Value} {ops : Array Oper} {o : Oper} {f : Act} {K : Act → World → Prop} {Q : Exit → Act → World → Prop} {E : Prop}
    (hinfo : (Tryz.prog.info? elt).map (fun i => (i.zero, i.size, i.bytes)) = some (some z, sz, bs)) (hund : Tryz.prog.underlying slt = some (.slice elt)) (hzc : z.cells.size = sz) (hsz : 0 < sz) (hbs : bs ≤ 1000)
    (hgd : o.guard = none) (s t : Operand) (ho : o.op = .call { callee := .builtin .append, args := #[s, t], argTypes := #[slt, slt] }) (hs : f.eval s = v)
    (hown : wx.ownsRow B elt sz v n xs) (hB : B ≤ wx.heap.size) (cs : Array Value) (hcs : cs.size = sz) (hone : ∀ u ∈ cs.toList, u.oneCell' = true) {M : Nat} (hM : wx.heap.size = M) (hx : f.eval t = .slice (some ⟨M, 0, none⟩) 1 1) (hlen : n ≤ 1000000000)
    (h : ∀ v1 w1, w1.ownsRow B elt sz v1 (n + 1) (xs ++ cs.toList) → (wx.alloc (.cells cs elt)).grownBy w1 v.ownBlock → (v1.ownBlock = v.ownBlock ∨ v1.ownBlock = some (wx.heap.size + 1)) → K (f.put o.dst v1) w1) :
    if Region.wanted o (yielded ops f.tmps) = true then Oper.wp Tryz.prog o f (wx.alloc (.cells cs elt)) K Q else E := by
  have hw : Region.wanted o (yielded ops f.tmps) = true := by simp [Region.wanted, hgd]
  rw [if_pos hw]
  subst hM
  obtain ⟨i0, hi, hz0, hz1, hz2⟩ := Sc.info_parts hinfo
  have hsz1 : (wx.alloc (.cells cs elt)).heap.size = wx.heap.size + 1 := by simp
  have hbb : (n + 1) * bs ≤ 140737488355328 := by
    have := Nat.mul_le_mul (show n + 1 ≤ 1000000001 by omega) hbs
    omega
  obtain ⟨v1, w1, hr, hown1, hg1, _, hat⟩ := run_append_own_at (P := Tryz.prog) (wx.alloc (.cells cs elt)) B slt o.type elt i0 z sz bs hund hi hz0 hz1 hz2 hzc hsz v n xs (hown.alloc _) ⟨wx.heap.size, 0, none⟩ 1 1 cs.toList (by rw [Array.length_toList, hcs, Nat.one_mul])
    (World.news_of_block (cs := cs) (t := elt) (fr := (0, 0)) (by show (wx.heap.push _)[wx.heap.size]? = _; rw [Array.getElem?_push, if_pos rfl])) hone (by unfold maxLen; omega) hbb (by omega)
  unfold Oper.wp execOp
  simp only [ho, resolve, invoke, builtin, Sem.run_bind, Sem.run_pure, Result.andThen_ok, List.map_toArray, List.map_cons, List.map_nil, hs, hx, hr]
  exact h v1 w1 hown1 hg1 (by rw [hsz1] at hat; exact hat)

/-- Things are put behind a row of one's own, in a region that keeps its order. -/
theorem wp_ownN {B : Nat} {wx : World} {elt slt : TypeId} {z : Value} {sz bs n m c : Nat} {v : Value} {xs news : List Value} {ad : Addr} {ops : Array Oper} {rest : List Oper} {o : Oper} {f : Act} {Q : Exit → Act → World → Prop}
    (hinfo : (Tryz.prog.info? elt).map (fun i => (i.zero, i.size, i.bytes)) = some (some z, sz, bs)) (hund : Tryz.prog.underlying slt = some (.slice elt)) (hzc : z.cells.size = sz) (hsz : 0 < sz) (hbs : bs ≤ 1000)
    (hgd : o.guard = none) (s t : Operand) (ho : o.op = .call { callee := .builtin .append, args := #[s, t], argTypes := #[slt, slt] }) (hs : f.eval s = v)
    (hown : wx.ownsRow B elt sz v n xs) (hB : B ≤ wx.heap.size) (hx : f.eval t = .slice (some ad) m c) (hl : news.length = m * sz) (hnews : ∀ j u, news[j]? = some u → wx.cell? (ad.add j) = some u) (hone : ∀ u ∈ news, u.oneCell' = true) (hlen : n + m ≤ 1000000000)
    (h : ∀ v1 w1, w1.ownsRow B elt sz v1 (n + m) (xs ++ news) → wx.grownBy w1 v.ownBlock → (v1.ownBlock = v.ownBlock ∨ v1.ownBlock = some wx.heap.size) → wpList Tryz.prog ops Q rest (f.put o.dst v1) w1) :
    wpList Tryz.prog ops Q (o :: rest) f wx := by
  obtain ⟨i0, hi, hz0, hz1, hz2⟩ := Sc.info_parts hinfo
  have hbb : (n + m) * bs ≤ 140737488355328 := by
    have := Nat.mul_le_mul hlen hbs
    omega
  refine wpList_append_own_at _ hgd s t slt ho B elt i0 z sz bs hund hi hz0 hz1 hz2 hzc hsz v n xs hs hown ad m c news hx hl hnews hone (by unfold maxLen; omega) hbb hB ?_
  intro v1 w1 hown1 hg1 _ hat
  exact h v1 w1 hown1 hg1 hat
end Go.Proofs.YtcclfaioicklaaaGreatDoor
namespace Go.Proofs.YtcclfaioicklaaaGreatDoor
open Go.Shelf Go.RowKit Go.Lib Go.Sort
set_option maxRecDepth 100000
theorem flatMap_len {α : Type} (enc : α → List Value) (k : Nat) (hk : ∀ x, (enc x).length = k) (l : List α) : (l.flatMap enc).length = l.length * k := by
  induction l with
  | nil => simp
  | cons x t ih => rw [List.flatMap_cons, List.length_append, hk, ih, List.length_cons, Nat.succ_mul]; omega
variable {α : Type} [Inhabited α]

theorem flatMap_get (enc : α → List Value) (k : Nat) (hk : ∀ x, (enc x).length = k) : ∀ (l : List α) (i r : Nat), i < l.length → r < k → (l.flatMap enc)[i * k + r]? = (enc (l[i]!))[r]?
  | [], i, r, h, _ => by cases h
  | x :: t, 0, r, _, hr => by
    rw [List.flatMap_cons, List.getElem?_append_left (by rw [hk]; omega)]
    simp
  | x :: t, i + 1, r, h, hr => by
    rw [List.flatMap_cons, List.getElem?_append_right (by rw [hk, Nat.succ_mul]; omega), hk]
    have e : (i + 1) * k + r - k = i * k + r := by rw [Nat.succ_mul]; omega
    rw [e, flatMap_get enc k hk t i r (by simpa using h) hr]
    simp
theorem flat_gen (enc : α → List Value) (k : Nat) (hk : ∀ x, (enc x).length = k) (hk0 : 0 < k) (d : Array α) : (flatK enc k d).toList = d.toList.flatMap enc := by
  apply List.ext_getElem?
  intro t
  by_cases ht : t < d.size * k
  · have hq : t / k < d.toList.length := by rw [Array.length_toList]; exact (Nat.div_lt_iff_lt_mul hk0).2 ht
    have hr := Nat.mod_lt t hk0
    have hf : (flatK enc k d).toList[t]? = some ((enc d[t / k]!)[t % k]!) := by
      rw [Array.getElem?_toList]
      have : (flatK enc k d)[t]! = (enc d[t / k]!)[t % k]! := get_flatK _ _ _ _ ht
      rw [← this, getElem!_pos _ t (by simpa using ht)]
      exact Array.getElem?_eq_getElem (by simpa using ht)
    have hg := flatMap_get enc k hk d.toList (t / k) (t % k) hq hr
    rw [Nat.mul_comm, Nat.div_add_mod] at hg
    have hd : d.toList[t / k]! = d[t / k]! := by rw [getElem!_pos d (t / k) (by simpa using hq), getElem!_pos d.toList (t / k) hq]; simp
    rw [hf, hg, hd, List.getElem?_eq_getElem (by rw [hk]; exact hr), getElem!_pos _ (t % k) (by rw [hk]; exact hr)]
  · rw [List.getElem?_eq_none (by simp; omega), List.getElem?_eq_none (by rw [flatMap_len enc k hk]; simp; omega)]

theorem holds_gen (enc : α → List Value) (k : Nat) (hk : ∀ x, (enc x).length = k) (hk0 : 0 < k) {w : World} {g : Nat} {cur : Array Value} {e : TypeId} {fs : List α} (hb : w.heap[g]? = some (.cells cur e (0, 0))) (ht : cur.toList.take (fs.length * k) = fs.flatMap enc) : HoldsK enc k w g 0 fs.toArray := by
  intro j hj
  have hj' : j < fs.length * k := by simpa using hj
  refine ⟨?_, by simp [World.frozen?, hb]⟩
  have h1 : (cur.toList.take (fs.length * k))[j]? = (fs.flatMap enc)[j]? := by rw [ht]
  rw [List.getElem?_take_of_lt hj'] at h1
  simp only [World.cell?, hb, Nat.zero_add]
  simp only [Option.isSome_none, Bool.false_eq_true, if_false]
  rw [← Array.getElem?_toList, h1]
  have e := flat_gen enc k hk hk0 fs.toArray
  rw [List.toList_toArray] at e
  rw [← e, Array.getElem?_toList, getElem!_pos _ j hj]
  exact Array.getElem?_eq_getElem hj

theorem heap_gen (enc : α → List Value) (k : Nat) {w : World} {g n : Nat} {os : Array Obj} {cur : Array Value} {e : TypeId} {fr : Nat × Nat} (d : Array α) (hb : w.heap[g]? = some (.cells cur e fr)) :
    (sortWorldK enc k w g 0 n d os).heap[g]? = some (.cells (putCells id 0 (flatK enc k d) cur) e fr) := by
  have hg : g < w.heap.size := (Array.getElem?_eq_some_iff.1 hb).1
  unfold sortWorldK putRowK
  rw [heap_grow_old _ _ (by simpa using hg)]
  simp [putRow, mapBlock, Sort.ahead, Array.getElem?_modify, hb, onCells]
theorem grown_gen (enc : α → List Value) (k : Nat) {w : World} {g n : Nat} {os : Array Obj} (d : Array α) : w.grownBy (sortWorldK enc k w g 0 n d os) (some g) := by
  unfold sortWorldK putRowK
  refine ⟨rfl, rfl, rfl, by simp, fun j hj hne => ?_⟩
  rw [heap_grow_old _ _ (by simpa using hj)]
  have : g ≠ j := fun e => hne (by rw [e])
  simp [putRow, mapBlock, Sort.ahead, Array.getElem?_modify, this]
theorem take_put (cur : Array Value) (F : Array Value) (h : F.size ≤ cur.size) : (putCells id 0 F cur).toList.take F.size = F.toList := by
  apply List.ext_getElem?
  intro j
  by_cases hj : j < F.size
  · rw [List.getElem?_take_of_lt hj, Array.getElem?_toList, Array.getElem?_toList]
    simp [putCells, hj, show j < cur.size by omega]
  · rw [List.getElem?_take_eq_none (by omega), List.getElem?_eq_none (by simp; omega)]
theorem perm_list {d d' : Array α} (h : PermIn 0 d.size d d') : d'.toList.Perm d.toList := by
  obtain ⟨hsz, _, hperm⟩ := h
  have e1 : d'.extract 0 d.size = d' := by rw [← hsz]; exact Array.extract_size
  rw [e1, Array.extract_size] at hperm
  exact hperm
theorem sorted_list {lt : α → α → Bool} {d d' : Array α} (h : PermIn 0 d.size d d') (hS : SortedIn lt 0 d.size d') : d'.toList.Pairwise fun x y => lt y x = false := by
  have hsz := h.1
  rw [List.pairwise_iff_getElem]
  intro i j hi hj hij
  have hi' : i < d'.size := by simpa using hi
  have hj' : j < d'.size := by simpa using hj
  have := hS i j (Nat.zero_le _) hij (by omega)
  rw [getElem!_pos d' j hj', getElem!_pos d' i hi'] at this
  simpa using this
/-- Sorting a row of one's own by a function that may read what lies elsewhere. -/
theorem sort_mem {ρ : Ren} (L : SlLaysF0.n6 Tryz.prog ρ) (k : Nat) (hk0 : 0 < k) (aE : ∀ w, (isAgg (ρ.t 24)).run Tryz.prog w = .ok true w) (zE : ∀ w, (Go.sizeOf (ρ.t 24)).run Tryz.prog w = .ok k w) (enc : α → List Value) (hk : ∀ x, (enc x).length = k) (h1 : ∀ x, ∀ v ∈ enc x, v.oneCell' = true) (cf : α → α → Int) (hO : SWO (ltOf cf)) (g : Nat) (cb : Array Value)
    (eg : ∀ args w, (callFunc g args).run Tryz.prog w = .ok (.enter g args) w)
    {w : World} {base : Nat} {T : TypeId} {v : Value} {fs : List α} (hown : w.ownsRow base T k v fs.length (fs.flatMap enc)) (hz : fs.length < 4611686018427387904)
    (hcmp : ∀ W, w.grownBy W v.ownBlock → ∀ (x y : α), Calls Tryz.prog g (#[.agg (enc x).toArray, .agg (enc y).toArray] ++ cb) W fun e w' => e = .returned (.int .i64 (cf x y)) ∧ ∃ q os', w' = grow (W.drewN q) os') :
    Calls Tryz.prog (ρ.f 6) #[v, .func (.func g) #[] cb] w fun e w' => e = .returned (.tuple #[]) ∧ ∃ ts : List α, ts.Perm fs ∧ (ts.Pairwise fun x y => ltOf cf y x = false) ∧ w'.ownsRow base T k v ts.length (ts.flatMap enc) ∧ w.grownBy w' v.ownBlock := by
  rcases hown.2 with ⟨hv, hn⟩ | ⟨b, cap, cur, hv, hB, hgg, hc1, hc2, hc3, hc4⟩
  · obtain rfl : fs = [] := List.length_eq_zero_iff.1 hn
    subst hv
    refine (AnyF.slices_SortFunc_none L none 0 (.func (.func g) #[] cb) w).mono ?_
    rintro e w' ⟨rfl, rfl⟩
    exact ⟨rfl, [], List.Perm.refl _, List.Pairwise.nil, hown, ⟨rfl, rfl, rfl, Nat.le_refl _, fun _ _ _ => rfl⟩⟩
  · subst hv
    have hH := holds_gen enc k hk hk0 hgg hc4
    have hcon := AnyQ.slices_SortFunc L k aE zE enc hk h1 cf hO g cb b 0 cap fs.toArray w eg (fun m os dk _ x y => hcmp _ (grown_gen enc k dk) x y) hH (Array.getElem?_eq_some_iff.1 hgg).1 (by simp; omega)
    simp only [List.size_toArray] at hcon
    refine hcon.mono ?_
    rintro e w' ⟨rfl, d', n, os, hp, hs, rfl⟩
    have hp' : PermIn 0 fs.toArray.size fs.toArray d' := by simpa using hp
    have hs' : SortedIn (ltOf cf) 0 fs.toArray.size d' := by simpa using hs
    have hpl := perm_list hp'
    rw [List.toList_toArray] at hpl
    refine ⟨rfl, d'.toList, hpl, sorted_list hp' hs', ⟨by rw [flatMap_len enc k hk], .inr ⟨b, cap, _, by rw [hpl.length_eq], hB, heap_gen enc k d' hgg, by rw [hpl.length_eq]; exact hc1, hc2, by simp [putCells, hc3], ?_⟩⟩, grown_gen enc k d'⟩
    have e := flat_gen enc k hk hk0 d'
    have hsz : (flatK enc k d').size = d'.toList.length * k := by simp
    rw [← hsz, take_put cur _ (by rw [hsz, hc3, hpl.length_eq]; exact Nat.mul_le_mul_right k hc1), e]

/-- Sorting a row of one's own. -/
theorem sort_own {ρ : Ren} (L : SlLaysF0.n6 Tryz.prog ρ) (k : Nat) (hk0 : 0 < k) (aE : ∀ w, (isAgg (ρ.t 24)).run Tryz.prog w = .ok true w) (zE : ∀ w, (Go.sizeOf (ρ.t 24)).run Tryz.prog w = .ok k w) (enc : α → List Value) (hk : ∀ x, (enc x).length = k) (h1 : ∀ x, ∀ v ∈ enc x, v.oneCell' = true) (cf : α → α → Int) (hO : SWO (ltOf cf)) (g : Nat)
    (eg : ∀ args w, (callFunc g args).run Tryz.prog w = .ok (.enter g args) w) (hcmp : ∀ (x y : α) (W : World), Calls Tryz.prog g #[.agg (enc x).toArray, .agg (enc y).toArray] W fun e w' => e = .returned (.int .i64 (cf x y)) ∧ ∃ q os', w' = grow (W.drewN q) os')
    {w : World} {base : Nat} {T : TypeId} {v : Value} {fs : List α} (hown : w.ownsRow base T k v fs.length (fs.flatMap enc)) (hz : fs.length < 4611686018427387904) :
    Calls Tryz.prog (ρ.f 6) #[v, .func (.func g) #[] #[]] w fun e w' => e = .returned (.tuple #[]) ∧ ∃ ts : List α, ts.Perm fs ∧ (ts.Pairwise fun x y => ltOf cf y x = false) ∧ w'.ownsRow base T k v ts.length (ts.flatMap enc) ∧ w.grownBy w' v.ownBlock := by
  rcases hown.2 with ⟨hv, hn⟩ | ⟨b, cap, cur, hv, hB, hgg, hc1, hc2, hc3, hc4⟩
  · obtain rfl : fs = [] := List.length_eq_zero_iff.1 hn
    subst hv
    refine (AnyF.slices_SortFunc_none L none 0 (.func (.func g) #[] #[]) w).mono ?_
    rintro e w' ⟨rfl, rfl⟩
    exact ⟨rfl, [], List.Perm.refl _, List.Pairwise.nil, hown, ⟨rfl, rfl, rfl, Nat.le_refl _, fun _ _ _ => rfl⟩⟩
  · subst hv
    have hH := holds_gen enc k hk hk0 hgg hc4
    have hcon := AnyQ.slices_SortFunc L k aE zE enc hk h1 cf hO g #[] b 0 cap fs.toArray w eg (fun m os dk _ x y => by simpa using hcmp x y _) hH (Array.getElem?_eq_some_iff.1 hgg).1 (by simp; omega)
    simp only [List.size_toArray] at hcon
    refine hcon.mono ?_
    rintro e w' ⟨rfl, d', n, os, hp, hs, rfl⟩
    have hp' : PermIn 0 fs.toArray.size fs.toArray d' := by simpa using hp
    have hs' : SortedIn (ltOf cf) 0 fs.toArray.size d' := by simpa using hs
    have hpl := perm_list hp'
    rw [List.toList_toArray] at hpl
    refine ⟨rfl, d'.toList, hpl, sorted_list hp' hs', ⟨by rw [flatMap_len enc k hk], .inr ⟨b, cap, _, by rw [hpl.length_eq], hB, heap_gen enc k d' hgg, by rw [hpl.length_eq]; exact hc1, hc2, by simp [putCells, hc3], ?_⟩⟩, grown_gen enc k d'⟩
    have e := flat_gen enc k hk hk0 d'
    have hsz : (flatK enc k d').size = d'.toList.length * k := by simp
    rw [← hsz, take_put cur _ (by rw [hsz, hc3, hpl.length_eq]; exact Nat.mul_le_mul_right k hc1), e]
end Go.Proofs.YtcclfaioicklaaaGreatDoor
namespace Go.Proofs.YtcclfaioicklaaaGreatDoor
open Go.Shelf Go.RowKit Go.Lib Go.Sort
set_option maxRecDepth 100000

/-- New memory alone, and draws. -/
def Gd (w w' : World) : Prop := ∃ q os', w' = grow (w.drewN q) os'
theorem Gd.refl (w : World) : Gd w w := ⟨0, #[], by rw [grow_empty]; rfl⟩
theorem Gd.drew (w : World) : Gd w w.drew := ⟨1, #[], by rw [grow_empty]; rfl⟩
theorem Gd.box (w : World) (o : Obj) : Gd w (w.alloc o) := ⟨0, #[o], by rw [alloc_eq_grow]; rfl⟩
theorem Gd.trans {a b c : World} (h : Gd a b) (h' : Gd b c) : Gd a c := by
  obtain ⟨q, os, rfl⟩ := h
  obtain ⟨q', os', rfl⟩ := h'
  refine ⟨q + q', os ++ os', ?_⟩
  simp [grow, World.drewN, Array.append_assoc, Nat.add_assoc]
theorem Gd.box2 (w : World) (o u : Obj) : Gd w ((w.alloc o).alloc u) := (Gd.box w o).trans (Gd.box _ u)
theorem Gd.below {w w' : World} (h : Gd w w') : Below w.heap.size w w' := by
  obtain ⟨q, os, rfl⟩ := h
  refine ⟨rfl, rfl, rfl, by simp [grow, World.drewN], fun k hk => ?_⟩
  show (w.heap ++ os)[k]? = _
  rw [Array.getElem?_append_left hk]

set_option maxHeartbeats 400000 in
theorem less_gd (a b c x y z : Int) (w : World) :
    Calls Tryz.prog 156 #[.agg #[.int .i64 a, .int .i64 b, .int .i64 c], .agg #[.int .i64 x, .int .i64 y, .int .i64 z]] w fun e w' => e = .returned (.bool (lessV a b c x y z)) ∧ Gd w w' := by
  go_enter Tryz.func156, Tryz.ntmps156
  go_wp2
  all_goals
    go_ret
    exact ⟨ret_bool (by unfold lessV; simp_all), Gd.box2 _ _ _⟩

set_option maxHeartbeats 800000 in
theorem Compare_gd (a b c x y z : Int) (w : World) :
    Calls Tryz.prog 136 #[.agg #[.int .i64 a, .int .i64 b, .int .i64 c], .agg #[.int .i64 x, .int .i64 y, .int .i64 z]] w fun e w' => e = .returned (.int .i64 (cmpV a b c x y z)) ∧ Gd w w' := by
  have he := eqlV a b c x y z
  have hg := guardV
  have hl := less_gd a b c x y z
  by_cases h : a = x ∧ b = y ∧ c = z
  · have HC : Hid (cmpV a b c x y z = 0) := by unfold Hid cmpV; obtain ⟨h1, h2, h3⟩ := h; rw [if_pos h1, if_pos h2, if_pos h3]
    rw [decide_eq_true h] at he
    clear h
    go_enter Tryz.func136, Tryz.ntmps136
    go_wp2
    go_ret
    exact ⟨ret_int HC.out.symm, Gd.box2 _ _ _⟩
  · rw [decide_eq_false h] at he
    cases hc : lessV a b c x y z
    · have HC : Hid (cmpV a b c x y z = 1) := by unfold Hid cmpV; unfold lessV at hc; grind
      rw [hc] at hl
      clear h hc
      go_enter Tryz.func136, Tryz.ntmps136
      go_wp2_with (go_at_call 156; refine (hl _).mono ?_; rintro e w' ⟨rfl, hb⟩)
      go_ret
      exact ⟨ret_int HC.out.symm, (Gd.box2 _ _ _).trans hb⟩
    · have HC : Hid (cmpV a b c x y z = -1) := by unfold Hid cmpV; unfold lessV at hc; grind
      rw [hc] at hl
      clear h hc
      go_enter Tryz.func136, Tryz.ntmps136
      go_wp2_with (go_at_call 156; refine (hl _).mono ?_; rintro e w' ⟨rfl, hb⟩)
      go_ret
      exact ⟨ret_int HC.out.symm, (Gd.box2 _ _ _).trans hb⟩

theorem compare_lt : ∀ (a b : List UInt8), Lib.compareBytes a b < 0 ↔ bytesBefore a b = true
  | [], [] => by simp [Lib.compareBytes, bytesBefore]
  | [], _ :: _ => by simp [Lib.compareBytes, bytesBefore]
  | _ :: _, [] => by simp [Lib.compareBytes, bytesBefore]
  | a :: ra, b :: rb => by
    have ih := compare_lt ra rb
    unfold Lib.compareBytes bytesBefore
    by_cases h1 : a < b
    · simp [h1]
    · rw [if_neg h1]
      by_cases h2 : b < a
      · rw [if_pos h2]
        have h3 : ¬ a = b := fun e => by subst e; exact h1 h2
        simp [h1, h3]
      · rw [if_neg h2]
        have h3 : a = b := UInt8.le_antisymm (UInt8.not_lt.1 h2) (UInt8.not_lt.1 h1)
        simp [h3, ih]
theorem compare_eq : ∀ (a b : List UInt8), Lib.compareBytes a b = 0 ↔ a = b
  | [], [] => by simp [Lib.compareBytes]
  | [], _ :: _ => by simp [Lib.compareBytes]
  | _ :: _, [] => by simp [Lib.compareBytes]
  | a :: ra, b :: rb => by
    have ih := compare_eq ra rb
    unfold Lib.compareBytes
    by_cases h1 : a < b
    · rw [if_pos h1]
      have h3 : ¬ a = b := fun e => by subst e; exact absurd h1 (UInt8.lt_irrefl _)
      simp [h3]
    · rw [if_neg h1]
      by_cases h2 : b < a
      · rw [if_pos h2]
        have h3 : ¬ a = b := fun e => by subst e; exact h1 h2
        simp [h3]
      · rw [if_neg h2]
        have h3 : a = b := UInt8.le_antisymm (UInt8.not_lt.1 h2) (UInt8.not_lt.1 h1)
        simp [h3, ih]
theorem before_asymm {a b : List UInt8} (h : bytesBefore a b = true) : bytesBefore b a = false := by
  rw [Bool.eq_false_iff]
  intro k
  have := WideShapes.bytes_trans a b a h k
  rw [WideAt.bytes_irrefl] at this
  cases this
theorem not_before_trans {a b c : List UInt8} (h : bytesBefore a b = false) (k : bytesBefore b c = false) : bytesBefore a c = false := by
  rw [Bool.eq_false_iff]
  intro q
  by_cases e : b = c
  · subst e; rw [h] at q; cases q
  · rcases WideAt.bytes_total b c e with r | r
    · rw [k] at r; cases r
    · have := WideShapes.bytes_trans a c b q r
      rw [h] at this; cases this

set_option maxHeartbeats 1600000 in
theorem or_two {w : World} {g : Nat} {r1 r2 : Int} (c0 : w.cell? ⟨g, 0, none⟩ = some (.int .i64 r1)) (c1 : w.cell? ⟨g, 1, none⟩ = some (.int .i64 r2)) : Calls Tryz.prog 46 #[.slice (some ⟨g, 0, none⟩) 2 2] w fun e w' => e = .returned (.int .i64 (if r1 = 0 then r2 else r1)) ∧ w' = w := by
  have HIF : Hid ((r1 = 0 → (if r1 = 0 then r2 else r1) = r2) ∧ (¬ r1 = 0 → (if r1 = 0 then r2 else r1) = r1)) := ⟨fun h => if_pos h, fun h => if_neg h⟩
  generalize (if r1 = 0 then r2 else r1) = rr at *
  go_enter Tryz.func46, Tryz.ntmps46
  go_wp2_with fail
  go_loopw [8] (fun vi wr => wr = w ∧ (vi = .int .i64 0 ∨ (vi = .int .i64 1 ∧ r1 = 0) ∨ (vi = .int .i64 2 ∧ r1 = 0 ∧ r2 = 0))) (fun vi _ => 2 - (intOf vi).toNat)
  case atStart => exact ⟨rfl, Or.inl rfl⟩
  case round =>
    obtain ⟨hww, rfl | ⟨rfl, h1⟩ | ⟨rfl, h1, h2⟩⟩ := hrel
    · obtain rfl : w = wr := hww.symm
      by_cases hz : r1 = 0
      · have HZ := hide3 hz
        have hb : (r1 == 0) = true := by simpa using hz
        rw [hz] at c0
        clear hz hb
        go_wp2_with fail
        exact ⟨⟨trivial, Or.inr (Or.inl ⟨rfl, HZ.out⟩)⟩, by decide⟩
      · have HZ := hide3 hz
        have hb : (r1 == 0) = false := by simpa using hz
        clear hz
        go_wp2_with fail
        go_ret
        exact ⟨ret_int (HIF.out.2 HZ.out).symm, rfl⟩
    · obtain rfl : w = wr := hww.symm
      have HZ := hide3 h1
      clear h1
      by_cases hz : r2 = 0
      · have HZ2 := hide3 hz
        rw [hz] at c1
        clear hz
        go_wp2_with fail
        exact ⟨⟨trivial, Or.inr (Or.inr ⟨rfl, HZ.out, HZ2.out⟩)⟩, by decide⟩
      · have hb : (r2 == 0) = false := by simpa using hz
        clear hz
        go_wp2_with fail
        go_ret
        exact ⟨ret_int (HIF.out.1 HZ.out).symm, rfl⟩
    · obtain rfl : w = wr := hww.symm
      have HZ := hide3 h1
      have HZ2 := hide3 h2
      clear h1 h2
      go_wp2
      go_ret
      exact ⟨ret_int ((HIF.out.1 HZ.out).trans HZ2.out).symm, rfl⟩
end Go.Proofs.YtcclfaioicklaaaGreatDoor
