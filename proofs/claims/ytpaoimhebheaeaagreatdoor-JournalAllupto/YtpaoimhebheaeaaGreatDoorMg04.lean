/- Dd4, laid in one text. -/
import Derived.Deep.Light
import Derived.Test.YtpaoimhebheaeaaGreatDoorMg03
namespace Go.Proofs.YtpaoimhebheaeaaGreatDoor.Dk
open Go.RowKit
set_option maxRecDepth 100000
open Go.RowKit Go.Maps

set_option maxHeartbeats 1000000 in
theorem rPart_any (s : ByteArray) (w : World) (hs : s.size ≤ maxLen) :
    Calls Tryz.prog 91 #[.string s] w fun e w' => e = .returned (.bool (partB s.data.toList)) ∧ w' = w := by
  unfold maxLen at hs
  by_cases h0 : s.size = 0
  · have HP : Hid (partB s.data.toList = false) := by unfold Hid partB; rw [size_list]; simp [h0]
    go_enter Tryz.func91, Tryz.ntmps91
    go_wp2
    go_ret
    exact ⟨ret_bool HP.out.symm, rfl⟩
  by_cases h24 : 24 < s.size
  · have HP : Hid (partB s.data.toList = false) := by
      unfold Hid partB; rw [size_list]
      have : decide (s.size ≤ 24) = false := by simp; omega
      rw [this]; simp
    go_enter Tryz.func91, Tryz.ntmps91
    go_wp2
    go_ret
    exact ⟨ret_bool HP.out.symm, rfl⟩
  have b0 : decide ((s.size : Int) < 1) = false := by simp; omega
  have b24 : decide (24 < (s.size : Int)) = false := by simp; omega
  have i24 : s.size ≤ 24 := by omega
  have i0 : 0 < s.size := by omega
  clear h0 h24
  by_cases h1 : (s.toList == [46]) = true
  · have HP : Hid (partB s.data.toList = false) := by
      unfold Hid partB; rw [← toList_data, h1]; simp
    go_enter Tryz.func91, Tryz.ntmps91
    go_wp2
    go_ret
    exact ⟨ret_bool HP.out.symm, rfl⟩
  rw [Bool.not_eq_true] at h1
  by_cases h2 : (s.toList == [46, 46]) = true
  · have HP : Hid (partB s.data.toList = false) := by
      unfold Hid partB; rw [← toList_data, h2]; simp
    go_enter Tryz.func91, Tryz.ntmps91
    go_wp2
    go_ret
    exact ⟨ret_bool HP.out.symm, rfl⟩
  rw [Bool.not_eq_true] at h2
  have HP : Hid (partB s.data.toList = s.data.toList.all partByteB) := by
    unfold Hid partB
    rw [← toList_data, h1, h2, toList_data, size_list]
    have : decide (s.size ≤ 24) = true := by simp; omega
    have e0 : (s.size == 0) = false := beq_eq_false_iff_ne.2 (by omega)
    rw [this, e0]; simp
  go_enter Tryz.func91, Tryz.ntmps91
  go_wp2_with fail
  go_loop [3] (fun i => ∃ k : Nat, k ≤ s.size ∧ i = .int .i64 k ∧ ∀ j (hj : j < k) (hj' : j < s.size), partByteB s[j] = true) (fun i => s.size - (intOf i).toNat)
  case atStart => exact ⟨0, Nat.zero_le _, rfl, fun j hj => absurd hj (Nat.not_lt_zero _)⟩
  case round =>
    obtain ⟨k, hk, rfl, hall⟩ := hrel
    have HA : Hid (∀ j (hj : j < k) (hj' : j < s.size), partByteB s[j] = true) := hall
    clear hall
    by_cases hlt : k < s.size
    · go_wp2
      all_goals first
        | (have hb : partByteB s[k] = true := by
             go_light
             clear HP HA
             unfold partByteB
             first
               | (simp_all; done)
               | (simp_all; omega)
           refine ⟨⟨k + 1, by omega, by go_num, fun j hj hj' => ?_⟩, by simp [intOf]; omega⟩
           by_cases e : j = k
           · subst e; exact hb
           · exact HA.out j (by omega) hj')
        | (have hb : partByteB s[k] = false := by
             go_light
             clear HP HA
             unfold partByteB
             first
               | (simp_all; done)
               | (simp_all; omega)
           go_ret
           exact ⟨ret_bool (by rw [HP.out, all_not k hlt hb]), rfl⟩)
    · go_wp2
      go_ret
      exact ⟨ret_bool (by rw [HP.out, all_get (fun j hj => HA.out j (by rw [size_list] at hj; omega) hj)]), rfl⟩

/-- The parts of a text between slashes. -/
def segs : List UInt8 → List (List UInt8)
  | [] => [[]]
  | c :: r => if c = 47 then [] :: segs r else match segs r with
    | h :: t => (c :: h) :: t
    | [] => [[c]]

theorem splitK_segs : ∀ l : List UInt8, Lib.splitK [47] 0 (Lib.count l [47]) l = segs l
  | [] => by rw [Lib.count_one]; rfl
  | c :: r => by
    have ih := splitK_segs r
    by_cases hc : c = 47
    · subst hc
      have hix : Lib.index ((47 : UInt8) :: r) [47] = 0 := by rw [Lib.index]; simp [List.isPrefixOf]
      rw [Lib.count_cons_eq, Nat.add_comm]
      unfold Lib.splitK segs
      rw [hix, if_neg (by decide), if_pos rfl]
      simp [ih]
    · rw [Lib.count_cons_ne c 47 r hc]
      have hp : ([47] : List UInt8).isPrefixOf (c :: r) = false := by simp [List.isPrefixOf, Ne.symm hc]
      have hix : Lib.index (c :: r) [47] = if Lib.index r [47] == -1 then -1 else Lib.index r [47] + 1 := by rw [Lib.index, hp]; simp
      unfold segs
      rw [if_neg hc, ← ih]
      cases hk : Lib.count r [47] with
      | zero => rfl
      | succ k =>
        have hm : Lib.index r [47] ≠ -1 := fun e => by rw [Lib.count_miss e] at hk; cases hk
        have hge := Lib.index_ge r [47]
        unfold Lib.splitK
        rw [hix]
        have e1 : (Lib.index r [47] == -1) = false := beq_eq_false_iff_ne.2 hm
        rw [e1]
        simp only [Bool.false_eq_true, if_false]
        rw [if_neg (by simp; omega)]
        have e2 : (Lib.index r [47] + 1).toNat = (Lib.index r [47]).toNat + 1 := by omega
        rw [e2]
        simp

/-- All parts will do, the first one begun. -/
def restOk (cur r : List UInt8) : Bool := match segs r with
  | h :: t => partB (cur ++ h) && t.all partB
  | [] => partB cur

theorem segs_ne (r : List UInt8) : ∃ h t, segs r = h :: t := by
  cases r with
  | nil => exact ⟨[], [], rfl⟩
  | cons c r =>
    unfold segs
    split
    · exact ⟨_, _, rfl⟩
    · split <;> exact ⟨_, _, rfl⟩

theorem restOk_nil (cur : List UInt8) : restOk cur [] = partB cur := by simp [restOk, segs]
theorem restOk_slash (cur r : List UInt8) : restOk cur (47 :: r) = (partB cur && restOk [] r) := by
  obtain ⟨h, t, e⟩ := segs_ne r
  simp [restOk, segs, e]
theorem restOk_other (cur r : List UInt8) (c : UInt8) (hc : c ≠ 47) : restOk cur (c :: r) = restOk (cur ++ [c]) r := by
  obtain ⟨h, t, e⟩ := segs_ne r
  simp [restOk, segs, e, hc]
theorem restOk_all (r : List UInt8) : restOk [] r = (segs r).all partB := by
  obtain ⟨h, t, e⟩ := segs_ne r
  simp [restOk, e]

theorem extract_list (s : ByteArray) (a b : Nat) : (s.extract a b).data.toList = (s.data.toList.drop a).take (b - a) := by
  rw [ByteArray.data_extract, Array.toList_extract]

theorem okPath_rest (s : ByteArray) : okPath s = (decide (2 ≤ s.size) && decide (s.size ≤ 4096) && (s.data.toList.head? == some 47) && restOk [] (s.data.toList.drop 1)) := by
  have hsp : (Lib.splitB slash 0 (Lib.countB (s.extract 1 s.size) slash) (s.extract 1 s.size)).all (fun p => partB p.data.toList) = restOk [] (s.data.toList.drop 1) := by
    have e : (s.extract 1 s.size).data.toList = s.data.toList.drop 1 := by rw [extract_list, List.take_of_length_le (by rw [List.length_drop, size_list]; omega)]
    have h1 := Lib.splitB_data slash 0 (Lib.countB (s.extract 1 s.size) slash) (s.extract 1 s.size)
    have h2 : Lib.countB (s.extract 1 s.size) slash = Lib.count (s.extract 1 s.size).data.toList [47] := rfl
    rw [restOk_all, ← splitK_segs, ← e, ← h2]
    have h3 : slash.data.toList = [47] := rfl
    rw [h3] at h1
    rw [← h1, List.all_map]
    rfl
  unfold okPath pathB
  rw [hsp, toList_data]
  cases hl : s.data.toList with
  | nil =>
    have : s.size = 0 := by rw [← size_list, hl]; rfl
    simp [Lib.hasPrefix, this]
  | cons a t =>
    have hsz : s.size = t.length + 1 := by rw [← size_list, hl]; rfl
    rw [hsz]
    cases t with
    | nil =>
      simp [Lib.hasPrefix]
      rintro (h | ⟨h, _⟩)
      · exact h
      · exact h.symm
    | cons b t =>
      have h1 : (a :: b :: t == [47]) = false := by simp
      rw [h1]
      have h2 : decide (2 ≤ (b :: t).length + 1) = true := by simp
      rw [h2]
      have h3 : Lib.hasPrefix (a :: b :: t) [47] = ((a :: b :: t).head? == some 47) := by
        simp only [Lib.hasPrefix, List.isPrefixOf, List.head?_cons, Bool.and_true]
        rw [Bool.eq_iff_iff]; simp; exact eq_comm
      rw [h3]; simp

theorem take_snoc (s : ByteArray) (a k : Nat) (h : k < s.size) (ha : a ≤ k) : (s.extract a k).data.toList ++ [s[k]] = (s.extract a (k + 1)).data.toList := by
  rw [extract_list, extract_list, show k + 1 - a = (k - a) + 1 by omega, List.take_succ_eq_append_getElem (by rw [List.length_drop, size_list]; omega)]
  congr 1
  simp only [List.getElem_drop, List.cons.injEq, and_true]
  have : a + (k - a) = k := by omega
  simp only [this]
  rfl

theorem drop_cons (s : ByteArray) (k : Nat) (h : k < s.size) : s.data.toList.drop k = s[k] :: s.data.toList.drop (k + 1) := List.drop_eq_getElem_cons (by rw [size_list]; exact h)

set_option maxHeartbeats 1000000 in
theorem rPath_any (s : ByteArray) (w : World) (hs : s.size ≤ maxLen) :
    Calls Tryz.prog 52 #[.string s] w fun e w' => e = .returned (.bool (okPath s)) ∧ w' = w := by
  unfold maxLen at hs
  by_cases h0 : 4096 < s.size
  · have HP : Hid (okPath s = false) := by
      unfold Hid; rw [okPath_rest]
      have : decide (s.size ≤ 4096) = false := by simp; omega
      rw [this]; simp
    go_enter Tryz.func52, Tryz.ntmps52
    go_wp2
    go_ret
    exact ⟨ret_bool HP.out.symm, rfl⟩
  by_cases h1 : s.size < 2
  · have HP : Hid (okPath s = false) := by
      unfold Hid; rw [okPath_rest]
      have : decide (2 ≤ s.size) = false := by simp; omega
      rw [this]; simp
    go_enter Tryz.func52, Tryz.ntmps52
    go_wp2
    go_ret
    exact ⟨ret_bool HP.out.symm, rfl⟩
  have b0 : decide (4096 < (s.size : Int)) = false := by simp; omega
  have b1 : decide ((s.size : Int) < 2) = false := by simp; omega
  have i0 : s.size ≤ 4096 := by omega
  have i1 : 2 ≤ s.size := by omega
  clear h0 h1
  have hpos : 0 < s.size := by omega
  have hhd : s.data.toList.head? = some s[0] := by
    rw [List.head?_eq_getElem?, List.getElem?_eq_getElem (by rw [size_list]; exact hpos)]; rfl
  have HR : Hid (okPath s = ((s[0] == 47) && restOk [] (s.data.toList.drop 1))) := by
    unfold Hid; rw [okPath_rest, hhd]
    have e1 : decide (s.size ≤ 4096) = true := by simp; omega
    have e2 : decide (2 ≤ s.size) = true := by simp; omega
    rw [e1, e2]; simp
  clear hhd
  by_cases h2 : s[0] = 47
  · have hn : ((s[0].toNat : Int) != 47) = false := by rw [h2]; rfl
    have HR2 : Hid (okPath s = restOk [] (s.data.toList.drop 1)) := by unfold Hid; rw [HR.out, h2]; simp
    clear h2 HR
    go_enter Tryz.func52, Tryz.ntmps52
    go_wp2_with fail
    go_loop [3, 4] (fun f i => ∃ a k : Nat, f = .int .i64 a ∧ i = .int .i64 k ∧ 1 ≤ a ∧ ((k ≤ s.size ∧ a ≤ k ∧ restOk (s.extract a k).data.toList (s.data.toList.drop k) = restOk [] (s.data.toList.drop 1)) ∨ (k = s.size + 1 ∧ restOk [] (s.data.toList.drop 1) = true))) (fun _ i => s.size + 1 - (intOf i).toNat)
    case atStart => exact ⟨1, 1, rfl, rfl, Nat.le_refl _, Or.inl ⟨by omega, Nat.le_refl _, by rw [extract_list]; simp⟩⟩
    case round =>
      obtain ⟨a, k, rfl, rfl, ha1, hor⟩ := hrel
      rcases hor with ⟨hk, hak, hinv⟩ | ⟨hk, hR⟩
      · have HI : Hid (restOk (s.extract a k).data.toList (s.data.toList.drop k) = restOk [] (s.data.toList.drop 1)) := hinv
        clear hinv
        have hpt := rPart_any (s.extract a k) w (by rw [ByteArray.size_extract]; unfold maxLen; omega)
        obtain ⟨pb, hpb⟩ : ∃ pb, pb = partB (s.extract a k).data.toList := ⟨_, rfl⟩
        rw [← hpb] at hpt
        have HPT : Hid (Calls Tryz.prog 91 #[.string (s.extract a k)] w fun e w' => e = .returned (.bool pb) ∧ w' = w) := hpt
        have HPB : Hid (pb = partB (s.extract a k).data.toList) := hpb
        clear hpt hpb
        by_cases hlt : k < s.size
        · by_cases hc : s[k] = 47
          · have hcn : ((s[k].toNat : Int) != 47) = false := by rw [hc]; rfl
            have HJ : Hid (restOk [] (s.data.toList.drop 1) = (partB (s.extract a k).data.toList && restOk [] (s.data.toList.drop (k + 1)))) := by
              unfold Hid; rw [← HI.out, drop_cons s k hlt, hc, restOk_slash]
            clear hc
            cases pb
            rotate_left
            · go_wp2_with (go_at_call 91; refine HPT.out.mono ?_; rintro e w' ⟨rfl, rfl⟩)
              refine ⟨⟨k + 1, k + 1, by go_num, by go_num, by omega, Or.inl ⟨by omega, Nat.le_refl _, ?_⟩⟩, by simp [intOf]; omega⟩
              rw [HJ.out, ← HPB.out, extract_list]; simp
            · go_wp2_with (go_at_call 91; refine HPT.out.mono ?_; rintro e w' ⟨rfl, rfl⟩)
              go_ret
              exact ⟨ret_bool (by rw [HR2.out, HJ.out, ← HPB.out]; rfl), rfl⟩
          · have hcn : ((s[k].toNat : Int) != 47) = true := by
              rw [bne_iff_ne]
              intro e
              exact hc (UInt8.toNat_inj.1 (by have : s[k].toNat = 47 := by omega
                                              rw [this]; rfl))
            have HJ : Hid (restOk (s.extract a (k + 1)).data.toList (s.data.toList.drop (k + 1)) = restOk [] (s.data.toList.drop 1)) := by
              unfold Hid; rw [← HI.out, drop_cons s k hlt, restOk_other _ _ _ hc, take_snoc s a k hlt hak]
            clear hc
            go_wp2_with (go_at_call 91; refine HPT.out.mono ?_; rintro e w' ⟨rfl, rfl⟩)
            refine ⟨⟨a, k + 1, rfl, by go_num, ha1, Or.inl ⟨by omega, by omega, HJ.out⟩⟩, by simp [intOf]; omega⟩
        · have hke : k = s.size := by omega
          have HJ : Hid (restOk [] (s.data.toList.drop 1) = partB (s.extract a k).data.toList) := by
            unfold Hid; rw [← HI.out, List.drop_eq_nil_of_le (by rw [size_list]; omega), restOk_nil]
          have hnl : decide ((k : Int) < (s.size : Int)) = false := by simp; omega
          have HKE : Hid (k = s.size) := hke
          clear hke
          cases pb
          rotate_left
          · go_wp2_with (go_at_call 91; refine HPT.out.mono ?_; rintro e w' ⟨rfl, rfl⟩)
            refine ⟨⟨k + 1, k + 1, by go_num, by go_num, by omega, Or.inr ⟨by rw [HKE.out], by rw [HJ.out, ← HPB.out]⟩⟩, by simp [intOf]; have := HKE.out; omega⟩
          · go_wp2_with (go_at_call 91; refine HPT.out.mono ?_; rintro e w' ⟨rfl, rfl⟩)
            go_ret
            exact ⟨ret_bool (by rw [HR2.out, HJ.out, ← HPB.out]), rfl⟩
      · have hle : decide ((k : Int) ≤ (s.size : Int)) = false := by simp; omega
        have hgt : (s.size : Int) < k := by omega
        have HRR : Hid (restOk [] (s.data.toList.drop 1) = true) := hR
        clear hk hR
        go_wp2
        go_ret
        exact ⟨ret_bool (by rw [HR2.out, HRR.out]), rfl⟩
  · have hn : ((s[0].toNat : Int) != 47) = true := by
      rw [bne_iff_ne]
      intro e
      exact h2 (UInt8.toNat_inj.1 (by have : s[0].toNat = 47 := by omega
                                      rw [this]; rfl))
    have HR2 : Hid (okPath s = false) := by unfold Hid; rw [HR.out, beq_eq_false_iff_ne.2 h2]; rfl
    clear h2 HR
    go_enter Tryz.func52, Tryz.ntmps52
    go_wp2
    go_ret
    exact ⟨ret_bool HR2.out.symm, rfl⟩

/-- Where the last slash is. -/
theorem last_at {s : ByteArray} (h : 0 ≤ Lib.lastIndexByte s 47) : ∃ (i : Nat) (hi : i < s.size), Lib.lastIndexByte s 47 = i ∧ s[i] = 47 ∧ ∀ j (hj : j < s.size), i < j → s[j] ≠ 47 := by
  have get : ∀ j (hj : j < s.size), s.data[j]! = s[j] := fun j hj => by rw [getElem!_pos s.data j hj]; rfl
  have num : ∀ b : UInt8, ((b.toNat : Int) = 47) ↔ b = 47 := fun b => by
    constructor
    · intro e
      exact UInt8.toNat_inj.1 (by have : b.toNat = 47 := by omega
                                  rw [this]; rfl)
    · rintro rfl; rfl
  unfold Lib.lastIndexByte at h ⊢
  rcases Lib.lastIdx_spec s 47 s.size with ⟨e, _⟩ | ⟨i, hi, e, hc, hn⟩
  · rw [e] at h; omega
  · refine ⟨i, hi, e, ?_, fun j hj hij hc' => ?_⟩
    · rw [get i hi] at hc; exact (num _).1 hc
    · have := hn j hij hj
      rw [get j hj] at this
      exact this ((num _).2 hc')

theorem ret_str {a b : ByteArray} (h : a = b) : Ending.returned (.string a) = .returned (.string b) := by rw [h]

set_option maxHeartbeats 1000000 in
theorem rParent_any (s : ByteArray) (w : World) (hs : s.size ≤ maxLen) (hl : 0 ≤ Lib.lastIndexByte s 47) :
    Calls Tryz.prog 55 #[.string s] w fun e w' => e = .returned (.string (parentOf s)) ∧ w' = w := by
  unfold maxLen at hs
  obtain ⟨i, hi, he, hc, hn⟩ := last_at hl
  have HP : Hid (parentOf s = if (i : Int) = 0 then ⟨#[47]⟩ else s.extract 0 i) := by unfold Hid parentOf; rw [he]; simp
  have HC : Hid (s[i] = 47) := hc
  have HN : Hid (∀ j (hj : j < s.size), i < j → s[j] ≠ 47) := hn
  clear hl he hc hn
  go_enter Tryz.func55, Tryz.ntmps55
  go_wp2_with fail
  go_loop [3] (fun t => ∃ k : Nat, k < s.size ∧ i ≤ k ∧ t = .int .i64 k) (fun t => (intOf t).toNat)
  case atStart => exact ⟨s.size - 1, by omega, by omega, by go_num⟩
  case round =>
    obtain ⟨k, hk, hik, rfl⟩ := hrel
    by_cases h0 : 0 < k
    · by_cases hki : k = i
      · subst hki
        have hcn : ((s[k].toNat : Int) == 47) = true := by rw [HC.out]; rfl
        go_wp2
        go_ret
        exact ⟨ret_str (by rw [HP.out, if_neg (by omega)]), rfl⟩
      · have hcn : ((s[k].toNat : Int) == 47) = false := by
          rw [beq_eq_false_iff_ne]
          intro e
          exact HN.out k hk (by omega) (UInt8.toNat_inj.1 (by have : s[k].toNat = 47 := by omega
                                                              rw [this]; rfl))
        go_wp2
        refine ⟨⟨k - 1, by omega, by omega, by go_num⟩, by simp [intOf]; omega⟩
    · have hk0 : k = 0 := by omega
      subst hk0
      have hi0 : i = 0 := by omega
      go_wp2
      go_ret
      exact ⟨ret_str (by rw [HP.out, if_pos (by omega)]), rfl⟩

theorem hide3 {p : Prop} (h : p) : Hid p := h

/-- A pointer leads to the reference's disk. -/
structure IsRef (B : Nat) (w : World) (e : Nat) (lv rv : Value) (fs : List Fl) (rs : List (Int × ByteArray × ByteArray)) (left : Int) : Prop where
  c0 : w.cell? ⟨e, 0, none⟩ = some lv
  c1 : w.cell? ⟨e, 1, none⟩ = some rv
  c2 : w.cell? ⟨e, 2, none⟩ = some (.int .i64 left)
  f0 : w.frozen? ⟨e, 0, none⟩ = false
  f1 : w.frozen? ⟨e, 1, none⟩ = false
  f2 : w.frozen? ⟨e, 2, none⟩ = false
  lrow : w.ownsRow B 83 3 lv fs.length (fileCells fs)
  rrow : w.ownsRow B 52 3 rv rs.length (rawCells rs)
  le : lv.ownBlock ≠ some e
  re : rv.ownBlock ≠ some e
  be : B ≤ e
  lt : e < w.heap.size

def FootR (e : Nat) (lv rv : Value) (k : Nat) : Prop := k = e ∨ lv.ownBlock = some k ∨ rv.ownBlock = some k

theorem IsRef.upd {F : Nat → Prop} {B : Nat} {w w' : World} {e : Nat} {lv rv : Value} {fs : List Fl} {rs : List (Int × ByteArray × ByteArray)} {left : Int} (h : IsRef B w e lv rv fs rs left) (hu : Upd F w w') (hF : ∀ k, FootR e lv rv k → ¬ F k) : IsRef B w' e lv rv fs rs left := by
  have hb := hu.block e h.lt (hF e (Or.inl rfl))
  exact { c0 := by rw [World.cell?_of_block (w := w) hb]; exact h.c0, c1 := by rw [World.cell?_of_block (w := w) hb]; exact h.c1, c2 := by rw [World.cell?_of_block (w := w) hb]; exact h.c2,
          f0 := by rw [World.frozen?_of_block (w := w) hb]; exact h.f0, f1 := by rw [World.frozen?_of_block (w := w) hb]; exact h.f1, f2 := by rw [World.frozen?_of_block (w := w) hb]; exact h.f2,
          lrow := ownsRow_upd h.lrow hu (fun k hk => hF k (Or.inr (Or.inl hk))), rrow := ownsRow_upd h.rrow hu (fun k hk => hF k (Or.inr (Or.inr hk))),
          le := h.le, re := h.re, be := h.be, lt := Nat.lt_of_lt_of_le h.lt hu.size }

theorem IsRef.below {B : Nat} {w w' : World} {e : Nat} {lv rv : Value} {fs : List Fl} {rs : List (Int × ByteArray × ByteArray)} {left : Int} (h : IsRef B w e lv rv fs rs left) (hu : Below w.heap.size w w') : IsRef B w' e lv rv fs rs left :=
  h.upd (Upd.of_below (F := fun _ => False) hu) (fun _ _ f => f)

theorem IsRef.foot_lt {B : Nat} {w : World} {e : Nat} {lv rv : Value} {fs : List Fl} {rs : List (Int × ByteArray × ByteArray)} {left : Int} (h : IsRef B w e lv rv fs rs left) {k : Nat} (hk : FootR e lv rv k) : k < w.heap.size ∧ B ≤ k := by
  rcases hk with rfl | hk | hk
  · exact ⟨h.lt, h.be⟩
  · exact row_lt h.lrow hk
  · exact row_lt h.rrow hk

/-- The place of a path; -1: nothing is there. -/
def findD : List Fl → ByteArray → Int
  | [], _ => -1
  | f :: r, s => if (f.1.toList == s.toList) = true then 0 else (if findD r s = -1 then -1 else findD r s + 1)

theorem findD_none {fs : List Fl} {s : ByteArray} (h : ∀ j (hj : j < fs.length), (fs[j].1.toList == s.toList) = false) : findD fs s = -1 := by
  induction fs with
  | nil => rfl
  | cons f r ih =>
    unfold findD
    rw [if_neg (by have := h 0 (by simp); simp only [List.getElem_cons_zero] at this; rw [this]; decide), if_pos (ih fun j hj => by have := h (j + 1) (by simpa using hj); simpa using this)]

theorem findD_some {fs : List Fl} {s : ByteArray} (k : Nat) (hk : k < fs.length) (h : ∀ j (_ : j < k) (hj' : j < fs.length), (fs[j].1.toList == s.toList) = false) (hc : (fs[k].1.toList == s.toList) = true) : findD fs s = k := by
  induction fs generalizing k with
  | nil => simp at hk
  | cons f r ih =>
    unfold findD
    cases k with
    | zero => rw [if_pos (by simpa using hc)]; rfl
    | succ k =>
      have := ih k (by simpa using hk) (fun j hj hj' => by have := h (j + 1) (by omega) (by simpa using hj'); simpa using this) (by simpa using hc)
      rw [if_neg (by have := h 0 (by omega) (by simp); simp only [List.getElem_cons_zero] at this; rw [this]; decide), this, if_neg (by omega)]
      omega

theorem file_cells {w : World} {B : Nat} {g cap : Nat} {fs : List Fl} (h : w.ownsRow B 83 3 (.slice (some ⟨g, 0, none⟩) fs.length cap) fs.length (fileCells fs)) (k : Nat) (hk : k < fs.length) :
    w.cell? ⟨g, k * 3, none⟩ = some (.string fs[k].1) ∧ w.cell? ⟨g, k * 3 + 1, none⟩ = some (.bool fs[k].2.1) ∧ w.cell? ⟨g, k * 3 + 1 + 1, none⟩ = some (.string fs[k].2.2) := by
  obtain ⟨h0, h1, h2⟩ := fileCells_get fs k hk
  exact ⟨row_cells h _ _ h0, row_cells h _ _ h1, row_cells h _ _ h2⟩

set_option maxHeartbeats 1000000 in
theorem find_any {B : Nat} {w : World} {e : Nat} {lv rv : Value} {fs : List Fl} {rs : List (Int × ByteArray × ByteArray)} {left : Int} (h : IsRef B w e lv rv fs rs left) (s : ByteArray) (hlen : fs.length ≤ 2199023255552) :
    Calls Tryz.prog 53 #[.pointer (some ⟨e, 0, none⟩), .string s] w fun e w' => e = .returned (.int .i64 (findD fs s)) ∧ w' = w := by
  have c0 := h.c0
  rcases h.lrow.2 with ⟨rfl, h0⟩ | ⟨g, cap, cur, rfl, _, _, _, _, _, _⟩
  · have hF : Hid (findD fs s = -1) := by
      have : fs = [] := List.eq_nil_of_length_eq_zero h0
      rw [this]; rfl
    clear h
    go_enter Tryz.func53, Tryz.ntmps53
    go_wp2_with fail
    go_loop [5] (fun i => i = .int .i64 0) (fun _ => 0)
    case atStart => rfl
    case round =>
      subst hrel
      go_wp2
      go_ret
      exact ⟨ret_int hF.out.symm, rfl⟩
  · have HL := hide3 h.lrow
    clear h
    go_enter Tryz.func53, Tryz.ntmps53
    go_wp2_with fail
    go_loop [5] (fun i => ∃ k : Nat, k ≤ fs.length ∧ i = .int .i64 k ∧ ∀ j (hj : j < k) (hj' : j < fs.length), (fs[j].1.toList == s.toList) = false) (fun i => fs.length - (intOf i).toNat)
    case atStart => exact ⟨0, Nat.zero_le _, rfl, fun j hj => absurd hj (Nat.not_lt_zero _)⟩
    case round =>
      obtain ⟨k, hk, rfl, hall⟩ := hrel
      have HA := hide3 hall
      clear hall
      by_cases hlt : k < fs.length
      · obtain ⟨a0, _, _⟩ := file_cells HL.out k hlt
        by_cases hc : (fs[k].1.toList == s.toList) = true
        · have HF : Hid (findD fs s = k) := findD_some k hlt HA.out hc
          generalize fs[k].1 = fp at *
          go_wp2
          go_ret
          exact ⟨ret_int HF.out.symm, rfl⟩
        · rw [Bool.not_eq_true] at hc
          have HC := hide3 hc
          obtain ⟨fp, hfp⟩ : ∃ fp, fp = fs[k].1 := ⟨_, rfl⟩
          rw [← hfp] at a0 hc
          clear hfp
          go_wp2
          refine ⟨⟨k + 1, by omega, by go_num, fun j hj hj' => ?_⟩, by simp [intOf]; omega⟩
          by_cases ej : j = k
          · subst ej; exact HC.out
          · exact HA.out j (by omega) hj'
      · go_wp2
        go_ret
        exact ⟨ret_int (findD_none fun j hj => HA.out j (by omega) hj).symm, rfl⟩

/-- What is known of a map's datum apart from memory. -/
structure Good (D : DataW Unit) : Prop where
  rise : Rising (filesD D)
  mem : ∀ f : Fl, f ∈ filesD D ↔ Maps.has D (keyD f.1) = true ∧ D.atKey (keyD f.1) zeroD = itemD f.2.1 f.2.2
  item : ∀ s, Maps.has D (keyD s) = true → ∃ c t, D.atKey (keyD s) zeroD = itemD c t
  keys : ∀ kl, Maps.has D kl = true → ∃ s, kl = keyD s ∧ okPath s = true

theorem IsDisk.good {B : Nat} {w : World} {d mb n : Nat} {rv : Value} {x : Ab} (h : IsDisk B w d mb n rv x) : Good x.D := by
  obtain ⟨h1, _, h3⟩ := files_facts h.own
  refine ⟨h1, h3, fun s hs => ?_, h.keys⟩
  obtain ⟨es, he, hr, _, hf⟩ := own_entries h.own
  rw [he, has_eq, List.any_eq_true] at hs
  obtain ⟨p, hp, hk⟩ := hs
  obtain ⟨s', c, t, rfl⟩ := hf p hp
  have es' : s' = s := (sameKey_keyD _ _).1 hk
  subst es'
  exact ⟨c, t, by rw [he]; exact WideAt.atKey_mem zeroD (isKey s') (apart_of_rising hr) hp⟩

theorem beq_bytes {a b : ByteArray} : (a.toList == b.toList) = true ↔ a = b := by
  rw [toList_data, toList_data, beq_iff_eq]
  exact ⟨fun h => bytes_eq h, fun h => by rw [h]⟩

/-- find, said of the map. -/
theorem find_has {D : DataW Unit} (hD : Good D) (s : ByteArray) : (findD (filesD D) s = -1 ∧ Maps.has D (keyD s) = false) ∨
    ∃ (k : Nat) (hk : k < (filesD D).length), findD (filesD D) s = k ∧ (filesD D)[k].1 = s ∧ Maps.has D (keyD s) = true ∧ D.atKey (keyD s) zeroD = itemD (filesD D)[k].2.1 (filesD D)[k].2.2 := by
  by_cases hs : Maps.has D (keyD s) = true
  · right
    obtain ⟨c, t, hct⟩ := hD.item s hs
    have hm : ((s, c, t) : Fl) ∈ filesD D := (hD.mem _).2 ⟨hs, hct⟩
    obtain ⟨k, hk, ek⟩ := List.getElem_of_mem hm
    refine ⟨k, hk, findD_some k hk (fun j hj hj' => ?_) (by rw [ek]; simp), by rw [ek], hs, by rw [ek]; exact hct⟩
    rw [Bool.eq_false_iff]
    intro e
    have e1 := beq_bytes.1 e
    have h1 := List.pairwise_iff_getElem.1 hD.rise j k hj' hk hj
    rw [e1, ek, WideAt.bytes_irrefl] at h1
    cases h1
  · left
    rw [Bool.not_eq_true] at hs
    refine ⟨findD_none fun j hj => ?_, hs⟩
    rw [Bool.eq_false_iff]
    intro e
    have e1 := beq_bytes.1 e
    have := ((hD.mem _).1 (List.getElem_mem hj)).1
    rw [e1, hs] at this
    cases this

set_option maxHeartbeats 1000000 in
theorem rKind_any {B : Nat} {w : World} {e : Nat} {lv rv : Value} {D : DataW Unit} {rs : List (Int × ByteArray × ByteArray)} {left : Int} (h : IsRef B w e lv rv (filesD D) rs left) (hD : Good D) (s : ByteArray) (hlen : (filesD D).length ≤ 2199023255552) :
    Calls Tryz.prog 32 #[.pointer (some ⟨e, 0, none⟩), .string s] w fun e w' => e = .returned (.int .i64 (kindD D s)) ∧ w' = w := by
  have hf := find_any h s hlen
  have c0 := h.c0
  by_cases h1 : (s.toList == [47]) = true
  · have HK : Hid (kindD D s = 2) := by unfold Hid kindD; rw [if_pos h1]
    clear h
    generalize findD (filesD D) s = r at *
    go_enter Tryz.func32, Tryz.ntmps32
    go_wp2_with (go_at_call 53; refine hf.mono ?_; rintro e w' ⟨rfl, rfl⟩)
    go_ret
    exact ⟨ret_int HK.out.symm, rfl⟩
  rw [Bool.not_eq_true] at h1
  rcases find_has hD s with ⟨hr, hh⟩ | ⟨k, hk, hr, hp, hh, hat⟩
  · have HK : Hid (kindD D s = 0) := by unfold Hid kindD; rw [if_neg (by rw [h1]; decide), if_neg (by rw [hh]; decide)]
    rw [hr] at hf
    clear h hr hh
    go_enter Tryz.func32, Tryz.ntmps32
    go_wp2_with (go_at_call 53; refine hf.mono ?_; rintro e w' ⟨rfl, rfl⟩)
    go_ret
    exact ⟨ret_int HK.out.symm, rfl⟩
  · rw [hr] at hf
    rcases h.lrow.2 with ⟨_, h0⟩ | ⟨g, cap, cur, rfl, _, _, _, _, _, _⟩
    · omega
    obtain ⟨_, a1, _⟩ := file_cells h.lrow k hk
    have HK : Hid (kindD D s = if (filesD D)[k].2.1 = true then 2 else 1) := by unfold Hid kindD; rw [if_neg (by rw [h1]; decide), if_pos hh, hat, itDir_mk]
    generalize (filesD D)[k].2.1 = c at *
    clear h hr hh hat hp
    cases c
    · go_enter Tryz.func32, Tryz.ntmps32
      go_wp2_with (go_at_call 53; refine hf.mono ?_; rintro e w' ⟨rfl, rfl⟩)
      go_ret
      exact ⟨ret_int (by rw [HK.out]; rfl), rfl⟩
    · go_enter Tryz.func32, Tryz.ntmps32
      go_wp2_with (go_at_call 53; refine hf.mono ?_; rintro e w' ⟨rfl, rfl⟩)
      go_ret
      exact ⟨ret_int (by rw [HK.out]; rfl), rfl⟩

/-- One step of put. -/
def putStep (f : Fl) (st : List Fl × Bool) (x : Fl) : List Fl × Bool :=
  if (!(Op.bytesLess x.1.toList f.1.toList) && !st.2) = true then (if (x.1.toList == f.1.toList) = true then (st.1 ++ [f], true) else (st.1 ++ [f] ++ [x], true))
  else (if (x.1.toList == f.1.toList) = true then (st.1, st.2) else (st.1 ++ [x], st.2))
/-- put: something is at a path, whatever was (gone: nothing is). -/
def putTo (fs : List Fl) (f : Fl) (gone : Bool) : List Fl × Bool := fs.foldl (putStep f) ([], gone)
def putD (fs : List Fl) (f : Fl) (gone : Bool) : List Fl := if (putTo fs f gone).2 = true then (putTo fs f gone).1 else (putTo fs f gone).1 ++ [f]

theorem putTo_snoc (fs : List Fl) (f : Fl) (gone : Bool) (k : Nat) (hk : k < fs.length) : putTo (fs.take (k + 1)) f gone = putStep f (putTo (fs.take k) f gone) fs[k] := by
  unfold putTo
  rw [List.take_succ_eq_append_getElem hk, List.foldl_append]; rfl

theorem own_form {w : World} {B : Nat} {e : TypeId} {size n : Nat} {v : Value} {xs : List Value} (h : w.ownsRow B e size v n xs) (hn : 0 < n) : ∃ g cap, v = .slice (some ⟨g, 0, none⟩) n cap := by
  obtain ⟨g, cap, hv, _⟩ := h.form hn
  exact ⟨g, cap, hv⟩
end Go.Proofs.YtpaoimhebheaeaaGreatDoor.Dk
