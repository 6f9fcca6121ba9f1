/- The reference's Path answers as the plain function okPath: the parts found by going along the text are those that strings.Split tells. -/
import Derived.Test.YtpkllhgohkgcmaaGreatDoorRef1
namespace Go.Proofs.YtpkllhgohkgcmaaGreatDoor
open Go.RowKit
set_option maxRecDepth 100000

/-- The parts of a text between slashes. -/
def segs : List UInt8 → List (List UInt8)
  | [] => [[]]
  | c :: r => if c = 47 then [] :: segs r else match segs r with
    | h :: t => (c :: h) :: t
    | [] => [[c]]

theorem splitK_segs : ∀ l : List UInt8, Lib.splitK [47] 0 (Lib.count l [47]) l = segs l
  | [] => by rw [Lib.count_one]; rfl
  | c :: r => by
    have ih := splitK_segs r
    by_cases hc : c = 47
    · subst hc
      have hix : Lib.index ((47 : UInt8) :: r) [47] = 0 := by rw [Lib.index]; simp [List.isPrefixOf]
      rw [Lib.count_cons_eq, Nat.add_comm]
      unfold Lib.splitK segs
      rw [hix, if_neg (by decide), if_pos rfl]
      simp [ih]
    · rw [Lib.count_cons_ne c 47 r hc]
      have hp : ([47] : List UInt8).isPrefixOf (c :: r) = false := by simp [List.isPrefixOf, Ne.symm hc]
      have hix : Lib.index (c :: r) [47] = if Lib.index r [47] == -1 then -1 else Lib.index r [47] + 1 := by rw [Lib.index, hp]; simp
      unfold segs
      rw [if_neg hc, ← ih]
      cases hk : Lib.count r [47] with
      | zero => rfl
      | succ k =>
        have hm : Lib.index r [47] ≠ -1 := fun e => by rw [Lib.count_miss e] at hk; cases hk
        have hge := Lib.index_ge r [47]
        unfold Lib.splitK
        rw [hix]
        have e1 : (Lib.index r [47] == -1) = false := beq_eq_false_iff_ne.2 hm
        rw [e1]
        simp only [Bool.false_eq_true, if_false]
        rw [if_neg (by simp; omega)]
        have e2 : (Lib.index r [47] + 1).toNat = (Lib.index r [47]).toNat + 1 := by omega
        rw [e2]
        simp

/-- All parts will do, the first one begun. -/
def restOk (cur r : List UInt8) : Bool := match segs r with
  | h :: t => partB (cur ++ h) && t.all partB
  | [] => partB cur

theorem segs_ne (r : List UInt8) : ∃ h t, segs r = h :: t := by
  cases r with
  | nil => exact ⟨[], [], rfl⟩
  | cons c r =>
    unfold segs
    split
    · exact ⟨_, _, rfl⟩
    · split <;> exact ⟨_, _, rfl⟩

theorem restOk_nil (cur : List UInt8) : restOk cur [] = partB cur := by simp [restOk, segs]
theorem restOk_slash (cur r : List UInt8) : restOk cur (47 :: r) = (partB cur && restOk [] r) := by
  obtain ⟨h, t, e⟩ := segs_ne r
  simp [restOk, segs, e]
theorem restOk_other (cur r : List UInt8) (c : UInt8) (hc : c ≠ 47) : restOk cur (c :: r) = restOk (cur ++ [c]) r := by
  obtain ⟨h, t, e⟩ := segs_ne r
  simp [restOk, segs, e, hc]
theorem restOk_all (r : List UInt8) : restOk [] r = (segs r).all partB := by
  obtain ⟨h, t, e⟩ := segs_ne r
  simp [restOk, e]

theorem extract_list (s : ByteArray) (a b : Nat) : (s.extract a b).data.toList = (s.data.toList.drop a).take (b - a) := by
  rw [ByteArray.data_extract, Array.toList_extract]

theorem okPath_rest (s : ByteArray) : okPath s = (decide (2 ≤ s.size) && decide (s.size ≤ 4096) && (s.data.toList.head? == some 47) && restOk [] (s.data.toList.drop 1)) := by
  have hsp : (Lib.splitB slash 0 (Lib.countB (s.extract 1 s.size) slash) (s.extract 1 s.size)).all (fun p => partB p.data.toList) = restOk [] (s.data.toList.drop 1) := by
    have e : (s.extract 1 s.size).data.toList = s.data.toList.drop 1 := by rw [extract_list, List.take_of_length_le (by rw [List.length_drop, size_list]; omega)]
    have h1 := Lib.splitB_data slash 0 (Lib.countB (s.extract 1 s.size) slash) (s.extract 1 s.size)
    have h2 : Lib.countB (s.extract 1 s.size) slash = Lib.count (s.extract 1 s.size).data.toList [47] := rfl
    rw [restOk_all, ← splitK_segs, ← e, ← h2]
    have h3 : slash.data.toList = [47] := rfl
    rw [h3] at h1
    rw [← h1, List.all_map]
    rfl
  unfold okPath pathB
  rw [hsp, toList_data]
  cases hl : s.data.toList with
  | nil =>
    have : s.size = 0 := by rw [← size_list, hl]; rfl
    simp [Lib.hasPrefix, this]
  | cons a t =>
    have hsz : s.size = t.length + 1 := by rw [← size_list, hl]; rfl
    rw [hsz]
    cases t with
    | nil =>
      simp [Lib.hasPrefix]
      rintro (h | ⟨h, _⟩)
      · exact h
      · exact h.symm
    | cons b t =>
      have h1 : (a :: b :: t == [47]) = false := by simp
      rw [h1]
      have h2 : decide (2 ≤ (b :: t).length + 1) = true := by simp
      rw [h2]
      have h3 : Lib.hasPrefix (a :: b :: t) [47] = ((a :: b :: t).head? == some 47) := by
        simp only [Lib.hasPrefix, List.isPrefixOf, List.head?_cons, Bool.and_true]
        rw [Bool.eq_iff_iff]; simp; exact eq_comm
      rw [h3]; simp

theorem take_snoc (s : ByteArray) (a k : Nat) (h : k < s.size) (ha : a ≤ k) : (s.extract a k).data.toList ++ [s[k]] = (s.extract a (k + 1)).data.toList := by
  rw [extract_list, extract_list, show k + 1 - a = (k - a) + 1 by omega, List.take_succ_eq_append_getElem (by rw [List.length_drop, size_list]; omega)]
  congr 1
  simp only [List.getElem_drop, List.cons.injEq, and_true]
  have : a + (k - a) = k := by omega
  simp only [this]
  rfl

theorem drop_cons (s : ByteArray) (k : Nat) (h : k < s.size) : s.data.toList.drop k = s[k] :: s.data.toList.drop (k + 1) := List.drop_eq_getElem_cons (by rw [size_list]; exact h)

set_option maxHeartbeats 1000000 in
theorem rPath_any (s : ByteArray) (w : World) (hs : s.size ≤ maxLen) :
    Calls Tryz.prog 43 #[.string s] w fun e w' => e = .returned (.bool (okPath s)) ∧ w' = w := by
  unfold maxLen at hs
  by_cases h0 : 4096 < s.size
  · have HP : Hid (okPath s = false) := by
      unfold Hid; rw [okPath_rest]
      have : decide (s.size ≤ 4096) = false := by simp; omega
      rw [this]; simp
    go_enter Tryz.func43, Tryz.ntmps43
    go_wp2
    go_ret
    exact ⟨ret_bool HP.out.symm, rfl⟩
  by_cases h1 : s.size < 2
  · have HP : Hid (okPath s = false) := by
      unfold Hid; rw [okPath_rest]
      have : decide (2 ≤ s.size) = false := by simp; omega
      rw [this]; simp
    go_enter Tryz.func43, Tryz.ntmps43
    go_wp2
    go_ret
    exact ⟨ret_bool HP.out.symm, rfl⟩
  have b0 : decide (4096 < (s.size : Int)) = false := by simp; omega
  have b1 : decide ((s.size : Int) < 2) = false := by simp; omega
  have i0 : s.size ≤ 4096 := by omega
  have i1 : 2 ≤ s.size := by omega
  clear h0 h1
  have hpos : 0 < s.size := by omega
  have hhd : s.data.toList.head? = some s[0] := by
    rw [List.head?_eq_getElem?, List.getElem?_eq_getElem (by rw [size_list]; exact hpos)]; rfl
  have HR : Hid (okPath s = ((s[0] == 47) && restOk [] (s.data.toList.drop 1))) := by
    unfold Hid; rw [okPath_rest, hhd]
    have e1 : decide (s.size ≤ 4096) = true := by simp; omega
    have e2 : decide (2 ≤ s.size) = true := by simp; omega
    rw [e1, e2]; simp
  clear hhd
  by_cases h2 : s[0] = 47
  · have hn : ((s[0].toNat : Int) != 47) = false := by rw [h2]; rfl
    have HR2 : Hid (okPath s = restOk [] (s.data.toList.drop 1)) := by unfold Hid; rw [HR.out, h2]; simp
    clear h2 HR
    go_enter Tryz.func43, Tryz.ntmps43
    go_wp2_with fail
    go_loop [3, 4] (fun f i => ∃ a k : Nat, f = .int .i64 a ∧ i = .int .i64 k ∧ 1 ≤ a ∧ ((k ≤ s.size ∧ a ≤ k ∧ restOk (s.extract a k).data.toList (s.data.toList.drop k) = restOk [] (s.data.toList.drop 1)) ∨ (k = s.size + 1 ∧ restOk [] (s.data.toList.drop 1) = true))) (fun _ i => s.size + 1 - (intOf i).toNat)
    case atStart => exact ⟨1, 1, rfl, rfl, Nat.le_refl _, Or.inl ⟨by omega, Nat.le_refl _, by rw [extract_list]; simp⟩⟩
    case round =>
      obtain ⟨a, k, rfl, rfl, ha1, hor⟩ := hrel
      rcases hor with ⟨hk, hak, hinv⟩ | ⟨hk, hR⟩
      · have HI : Hid (restOk (s.extract a k).data.toList (s.data.toList.drop k) = restOk [] (s.data.toList.drop 1)) := hinv
        clear hinv
        have hpt := rPart_any (s.extract a k) w (by rw [ByteArray.size_extract]; unfold maxLen; omega)
        obtain ⟨pb, hpb⟩ : ∃ pb, pb = partB (s.extract a k).data.toList := ⟨_, rfl⟩
        rw [← hpb] at hpt
        have HPT : Hid (Calls Tryz.prog 61 #[.string (s.extract a k)] w fun e w' => e = .returned (.bool pb) ∧ w' = w) := hpt
        have HPB : Hid (pb = partB (s.extract a k).data.toList) := hpb
        clear hpt hpb
        by_cases hlt : k < s.size
        · by_cases hc : s[k] = 47
          · have hcn : ((s[k].toNat : Int) != 47) = false := by rw [hc]; rfl
            have HJ : Hid (restOk [] (s.data.toList.drop 1) = (partB (s.extract a k).data.toList && restOk [] (s.data.toList.drop (k + 1)))) := by
              unfold Hid; rw [← HI.out, drop_cons s k hlt, hc, restOk_slash]
            clear hc
            cases pb
            rotate_left
            · go_wp2_with (go_at_call 61; refine HPT.out.mono ?_; rintro e w' ⟨rfl, rfl⟩)
              refine ⟨⟨k + 1, k + 1, by go_num, by go_num, by omega, Or.inl ⟨by omega, Nat.le_refl _, ?_⟩⟩, by simp [intOf]; omega⟩
              rw [HJ.out, ← HPB.out, extract_list]; simp
            · go_wp2_with (go_at_call 61; refine HPT.out.mono ?_; rintro e w' ⟨rfl, rfl⟩)
              go_ret
              exact ⟨ret_bool (by rw [HR2.out, HJ.out, ← HPB.out]; rfl), rfl⟩
          · have hcn : ((s[k].toNat : Int) != 47) = true := by
              rw [bne_iff_ne]
              intro e
              exact hc (UInt8.toNat_inj.1 (by have : s[k].toNat = 47 := by omega
                                              rw [this]; rfl))
            have HJ : Hid (restOk (s.extract a (k + 1)).data.toList (s.data.toList.drop (k + 1)) = restOk [] (s.data.toList.drop 1)) := by
              unfold Hid; rw [← HI.out, drop_cons s k hlt, restOk_other _ _ _ hc, take_snoc s a k hlt hak]
            clear hc
            go_wp2_with (go_at_call 61; refine HPT.out.mono ?_; rintro e w' ⟨rfl, rfl⟩)
            refine ⟨⟨a, k + 1, rfl, by go_num, ha1, Or.inl ⟨by omega, by omega, HJ.out⟩⟩, by simp [intOf]; omega⟩
        · have hke : k = s.size := by omega
          have HJ : Hid (restOk [] (s.data.toList.drop 1) = partB (s.extract a k).data.toList) := by
            unfold Hid; rw [← HI.out, List.drop_eq_nil_of_le (by rw [size_list]; omega), restOk_nil]
          have hnl : decide ((k : Int) < (s.size : Int)) = false := by simp; omega
          have HKE : Hid (k = s.size) := hke
          clear hke
          cases pb
          rotate_left
          · go_wp2_with (go_at_call 61; refine HPT.out.mono ?_; rintro e w' ⟨rfl, rfl⟩)
            refine ⟨⟨k + 1, k + 1, by go_num, by go_num, by omega, Or.inr ⟨by rw [HKE.out], by rw [HJ.out, ← HPB.out]⟩⟩, by simp [intOf]; have := HKE.out; omega⟩
          · go_wp2_with (go_at_call 61; refine HPT.out.mono ?_; rintro e w' ⟨rfl, rfl⟩)
            go_ret
            exact ⟨ret_bool (by rw [HR2.out, HJ.out, ← HPB.out]), rfl⟩
      · have hle : decide ((k : Int) ≤ (s.size : Int)) = false := by simp; omega
        have hgt : (s.size : Int) < k := by omega
        have HRR : Hid (restOk [] (s.data.toList.drop 1) = true) := hR
        clear hk hR
        go_wp2
        go_ret
        exact ⟨ret_bool (by rw [HR2.out, HRR.out]), rfl⟩
  · have hn : ((s[0].toNat : Int) != 47) = true := by
      rw [bne_iff_ne]
      intro e
      exact h2 (UInt8.toNat_inj.1 (by have : s[0].toNat = 47 := by omega
                                      rw [this]; rfl))
    have HR2 : Hid (okPath s = false) := by unfold Hid; rw [HR.out, beq_eq_false_iff_ne.2 h2]; rfl
    clear h2 HR
    go_enter Tryz.func43, Tryz.ntmps43
    go_wp2
    go_ret
    exact ⟨ret_bool HR2.out.symm, rfl⟩

end Go.Proofs.YtpkllhgohkgcmaaGreatDoor
