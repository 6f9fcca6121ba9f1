/- Ta1, Ta2, Ta3, Ta4, Td1, Od1, laid in one text. -/
import Derived.Test.YtogpkhpephhbiaaGreatDoorShelfN
import Derived.Test.YtogpkhpephhbiaaGreatDoorShelfO
import Derived.Test.YtogpkhpephhbiaaGreatDoorMg13
namespace Go.Proofs.YtogpkhpephhbiaaGreatDoor
open Go.RowKit
set_option maxRecDepth 100000

def modL : List UInt8 := modS.data.toList
theorem modL_len : modL.length = 9 := rfl
/-- The bytes ahead of a stroke. -/
def headS (r : List UInt8) : List UInt8 := r.takeWhile fun b => b != 47
theorem headS_le (r : List UInt8) : (headS r).length ≤ r.length := (List.takeWhile_prefix _).length_le
theorem headS_take (r : List UInt8) : r.take (headS r).length = headS r := (List.prefix_iff_eq_take.1 (List.takeWhile_prefix _)).symm
theorem headS_cons {b : UInt8} {r : List UInt8} (h : b ≠ 47) : headS (b :: r) = b :: headS r := by unfold headS; rw [List.takeWhile_cons_of_pos (by simpa using h)]
theorem headS_no : ∀ r : List UInt8, (47 : UInt8) ∉ headS r
  | [] => by simp [headS]
  | b :: r => by
    by_cases hb : b = 47
    · subst hb
      simp [headS]
    · rw [headS_cons hb]
      intro h
      rcases List.mem_cons.1 h with e | h
      · exact hb e.symm
      · exact headS_no r h
theorem headS_all : ∀ {r : List UInt8}, (47 : UInt8) ∉ r → headS r = r
  | [], _ => rfl
  | b :: r, h => by
    rw [headS_cons (fun e => h (by rw [e]; exact List.mem_cons_self)), headS_all fun q => h (List.mem_cons_of_mem _ q)]
theorem headS_app {a r : List UInt8} (h : (47 : UInt8) ∉ a) (hr : r = [] ∨ ∃ t, r = 47 :: t) : headS (a ++ r) = a := by
  unfold headS
  rw [List.takeWhile_append_of_pos (fun x hx => by rw [bne_iff_ne]; exact fun e => h (e ▸ hx))]
  rcases hr with rfl | ⟨t, rfl⟩ <;> simp
theorem headS_next (r : List UInt8) : r.drop (headS r).length = [] ∨ ∃ t, r.drop (headS r).length = 47 :: t := by
  induction r with
  | nil => exact Or.inl rfl
  | cons b r ih =>
    by_cases hb : b = 47
    · subst hb
      exact Or.inr ⟨r, rfl⟩
    · have : headS (b :: r) = b :: headS r := by unfold headS; rw [List.takeWhile_cons_of_pos (by simpa using hb)]
      rw [this]
      exact ih

/-- The names of a path's text. -/
def parts (r : List UInt8) : Option (List ByteArray) :=
  if r = [] then some []
  else if modL.isPrefixOf r = true ∧ Sc.nameA (headS (r.drop 9)) = true then (parts ((r.drop 9).drop (headS (r.drop 9)).length)).map fun L => Sc.ba (headS (r.drop 9)) :: L
  else none
termination_by r.length
decreasing_by
  have : 0 < r.length := List.length_pos_iff.2 ‹_›
  simp only [List.length_drop]
  omega
theorem parts_nil : parts [] = some [] := by rw [parts]; simp
theorem parts_no {r : List UInt8} (h0 : r ≠ []) (h : ¬ (modL.isPrefixOf r = true ∧ Sc.nameA (headS (r.drop 9)) = true)) : parts r = none := by rw [parts, if_neg h0, if_neg h]
theorem parts_on {r : List UInt8} (h0 : r ≠ []) (h1 : modL.isPrefixOf r = true) (h2 : Sc.nameA (headS (r.drop 9)) = true) : parts r = (parts ((r.drop 9).drop (headS (r.drop 9)).length)).map fun L => Sc.ba (headS (r.drop 9)) :: L := by rw [parts, if_neg h0, if_pos ⟨h1, h2⟩]

/-- What is read. -/
def parseV (t : List UInt8) : Option (List ByteArray) := if t = [47] then some [] else if t = [] then none else parts t

theorem nameA_no {s : List UInt8} (h : Sc.nameA s = true) : (47 : UInt8) ∉ s := fun q => by
  unfold Sc.nameA at h
  rw [Bool.and_eq_true, Bool.and_eq_true, List.all_eq_true] at h
  exact absurd (h.1.2 _ q) (by decide)
theorem nameA_pos {s : List UInt8} (h : Sc.nameA s = true) : 0 < s.length := by
  cases s with
  | nil => cases h
  | cons _ _ => simp

theorem idx_head : ∀ l : List UInt8, (Lib.indexByte l 47 = -1 ∧ headS l = l) ∨ (Lib.indexByte l 47 = ((headS l).length : Int) ∧ (headS l).length < l.length)
  | [] => Or.inl ⟨rfl, rfl⟩
  | b :: l => by
    by_cases hb : b = 47
    · subst hb
      exact Or.inr ⟨rfl, by simp [headS]⟩
    · have e : headS (b :: l) = b :: headS l := by unfold headS; rw [List.takeWhile_cons_of_pos (by simpa using hb)]
      have hb2 : (b == 47) = false := by simpa using hb
      unfold Lib.indexByte
      rw [e, hb2]
      rcases idx_head l with ⟨h1, h2⟩ | ⟨h1, h2⟩
      · exact Or.inl ⟨by rw [h1]; rfl, by rw [h2]⟩
      · refine Or.inr ⟨?_, by simpa using h2⟩
        have : (Lib.indexByte l 47 == -1) = false := by rw [h1, beq_eq_false_iff_ne]; omega
        rw [this, h1]
        simp

set_option maxHeartbeats 1600000 in
/-- A text cut at its first stroke. -/
theorem lcut_any (s : ByteArray) (hsz : s.size ≤ 9223372036854775807) (w : World) : Calls Tryz.prog 61 #[.string s, .string ⟨#[47]⟩] w fun e w' => ∃ x y, e = .returned (.tuple #[.string (Sc.ba (headS s.data.toList)), .string x, .bool y]) ∧ Below w.heap.size w w' := by
  have HI := hide3 (Tryz.stringslite_Index_one s 47 w)
  rcases idx_head s.data.toList with ⟨e1, e2⟩ | ⟨e1, e2⟩
  · have HS : Hid (Sc.ba (headS s.data.toList) = s) := by unfold Hid; rw [e2]; rfl
    rw [e1] at HI
    clear e1 e2
    rw [HS.out]
    go_enter Tryz.func61, Tryz.ntmps61
    go_wp2_with (go_at_call 73; refine HI.out.mono ?_; rintro e w1 ⟨rfl, rfl⟩)
    go_ret3
    exact ⟨_, _, rfl, Below.refl _ _⟩
  · rw [e1] at HI
    have HS : Hid (s.extract 0 (headS s.data.toList).length = Sc.ba (headS s.data.toList)) := by unfold Hid; rw [Sc.ba_extract, List.drop_zero, headS_take]
    rw [list_size] at e2
    rw [← HS.out]
    clear e1 HS
    generalize (headS s.data.toList).length = i at *
    have c1 : (0 : Int) ≤ ↑i := by omega
    have c2 : (↑i : Int) ≤ ↑s.size := by omega
    have c3 : (0 : Int) ≤ ↑i + 1 := by omega
    have c4 : (↑i + 1 : Int) ≤ ↑s.size := by omega
    have hw : IntKind.i64.wrap ((i : Int) + 1) = (i : Int) + 1 := by simpa using wrapN (n := i + 1) (by omega)
    have c5 : i ≤ s.size := by omega
    have c6 : i + 1 ≤ s.size := by omega
    have HK : Hid (KeepP fun w1 => Below w.heap.size w w1) := keepBelow w
    have HO : Hid (Below w.heap.size w w) := Below.refl _ _
    go_enter Tryz.func61, Tryz.ntmps61
    go_wp2_with (go_at_call 73; refine HI.out.mono ?_; rintro e w1 ⟨rfl, rfl⟩)
    refine wp_region_keep HK.out (by kernel_rfl) (by kernel_rfl) (by first | exact HO.out | exact HK.out.drew HO.out) ?_
    intro C hin hout
    have HIN := hide3 hin
    have HOUT := hide3 hout
    clear hin hout HO
    repeat
      (with_reducible refine wpQuiet_step (fun K hK => ?_)
       go_simp
       first
         | (refine hK _ ?_; clear hK K)
         | (apply Exists.intro; refine ⟨fun w1 hC => ?_, hK _ ?_⟩; (focus ((first | (exact rfl) | (obtain hb1 := HOUT.out w1 hC; clear hC; go_simp; first | done | exact rfl)); done)); clear hK K))
    refine wpQuiet_nil ?_
    intro wn hC
    have HO := hide3 (HOUT.out _ hC)
    clear hC HIN HOUT C
    obtain hb1 := HO.out
    go_wp2
    go_ret3
    exact ⟨_, _, rfl, HO.out⟩

theorem cut_any (s : ByteArray) (hsz : s.size ≤ 9223372036854775807) (w : World) : Calls Tryz.prog 49 #[.string s, .string ⟨#[47]⟩] w fun e w' => ∃ x y, e = .returned (.tuple #[.string (Sc.ba (headS s.data.toList)), .string x, .bool y]) ∧ Below w.heap.size w w' := by
  have HC := hide3 (lcut_any s hsz w)
  go_enter Tryz.func49, Tryz.ntmps49
  go_wp2_with (go_at_call 61; refine HC.out.mono ?_; rintro e w1 ⟨x, y, rfl, ok⟩; have HB := hide3 ok; clear ok)
  go_ret3
  exact ⟨_, _, rfl, HB.out⟩

set_option maxHeartbeats 1600000 in
/-- The first name of a path's text. -/
theorem first_yes (r : ByteArray) (hsz : r.size ≤ 9223372036854775807) (hp : modL.isPrefixOf r.data.toList = true) (w : World) : Calls Tryz.prog 32 #[.string r] w fun e w' => e = .returned (.tuple #[.string (Sc.ba (headS (r.data.toList.drop 9))), .bool (Sc.nameA (headS (r.data.toList.drop 9)))]) ∧ Below w.heap.size w w' := by
  have HP : Hid (∀ w1, Calls Tryz.prog 48 #[.string r, .string ⟨#[47, 109, 111, 100, 117, 108, 101, 115, 47]⟩] w1 fun e w' => e = .returned (.tuple #[.string ⟨(r.data.toList.drop 9).toArray⟩, .bool true]) ∧ w' = w1) := fun w1 => by
    have h := Tryz.strings_CutPrefix r ⟨#[47, 109, 111, 100, 117, 108, 101, 115, 47]⟩ w1
    have e1 : Lib.hasPrefix r.data.toList ([47, 109, 111, 100, 117, 108, 101, 115, 47] : List UInt8) = true := hp
    have e2 : Lib.trimPrefix r.data.toList ([47, 109, 111, 100, 117, 108, 101, 115, 47] : List UInt8) = r.data.toList.drop 9 := by unfold Lib.trimPrefix; rw [if_pos e1]; rfl
    simp only [e1, e2] at h
    exact h
  have HC : Hid (∀ w1, Calls Tryz.prog 49 #[.string ⟨(r.data.toList.drop 9).toArray⟩, .string ⟨#[47]⟩] w1 fun e w' => ∃ x y, e = .returned (.tuple #[.string (Sc.ba (headS (r.data.toList.drop 9))), .string x, .bool y]) ∧ Below w1.heap.size w1 w') := fun w1 => by
    have h := cut_any ⟨(r.data.toList.drop 9).toArray⟩ (by show (r.data.toList.drop 9).toArray.size ≤ _; simp only [List.size_toArray, List.length_drop, list_size]; omega) w1
    simpa using h
  have HN : Hid (∀ w1, Calls Tryz.prog 20 #[.string (Sc.ba (headS (r.data.toList.drop 9)))] w1 fun e w' => e = .returned (.bool (Sc.nameA (headS (r.data.toList.drop 9)))) ∧ w' = w1) := fun w1 => by
    have h := Sc.Name_any (Sc.ba (headS (r.data.toList.drop 9))) w1
    rw [Sc.ba_list] at h
    exact h
  generalize Sc.nameA (headS (r.data.toList.drop 9)) = b at *
  generalize Sc.ba (headS (r.data.toList.drop 9)) = n at *
  generalize (⟨(r.data.toList.drop 9).toArray⟩ : ByteArray) = q at *
  clear hp
  go_enter Tryz.func32, Tryz.ntmps32
  go_wp2_with (first
    | (go_at_call 48; refine (HP.out _).mono ?_; rintro e w1 ⟨rfl, rfl⟩)
    | (go_at_call 49; refine (HC.out _).mono ?_; rintro e w2 ⟨x, y, rfl, ok⟩; have HB := hide3 ok; clear ok)
    | (go_at_call 20; refine (HN.out _).mono ?_; rintro e w3 ⟨rfl, rfl⟩))
  all_goals go_ret2
  all_goals exact ⟨by cases b <;> rfl, HB.out⟩

set_option maxHeartbeats 1600000 in
theorem first_no (r : ByteArray) (hsz : r.size ≤ 9223372036854775807) (hp : modL.isPrefixOf r.data.toList = false) (w : World) : Calls Tryz.prog 32 #[.string r] w fun e w' => ∃ x, e = .returned (.tuple #[.string x, .bool false]) ∧ Below w.heap.size w w' := by
  have HP : Hid (∀ w1, Calls Tryz.prog 48 #[.string r, .string ⟨#[47, 109, 111, 100, 117, 108, 101, 115, 47]⟩] w1 fun e w' => e = .returned (.tuple #[.string r, .bool false]) ∧ w' = w1) := fun w1 => by
    have h := Tryz.strings_CutPrefix r ⟨#[47, 109, 111, 100, 117, 108, 101, 115, 47]⟩ w1
    have e1 : Lib.hasPrefix r.data.toList ([47, 109, 111, 100, 117, 108, 101, 115, 47] : List UInt8) = false := hp
    have e2 : Lib.trimPrefix r.data.toList ([47, 109, 111, 100, 117, 108, 101, 115, 47] : List UInt8) = r.data.toList := by unfold Lib.trimPrefix; rw [if_neg (by rw [e1]; simp)]
    simp only [e1, e2] at h
    exact h
  have HC : Hid (∀ w1, Calls Tryz.prog 49 #[.string r, .string ⟨#[47]⟩] w1 fun e w' => ∃ x y, e = .returned (.tuple #[.string (Sc.ba (headS r.data.toList)), .string x, .bool y]) ∧ Below w1.heap.size w1 w') := fun w1 => cut_any r hsz w1
  generalize Sc.ba (headS r.data.toList) = n at *
  clear hp
  go_enter Tryz.func32, Tryz.ntmps32
  go_wp2_with (first
    | (go_at_call 48; refine (HP.out _).mono ?_; rintro e w1 ⟨rfl, rfl⟩)
    | (go_at_call 49; refine (HC.out _).mono ?_; rintro e w2 ⟨x, y, rfl, ok⟩; have HB := hide3 ok; clear ok))
  all_goals go_ret2
  all_goals exact ⟨_, rfl, HB.out⟩
end Go.Proofs.YtogpkhpephhbiaaGreatDoor
namespace Go.Proofs.YtogpkhpephhbiaaGreatDoor
open Go.RowKit
set_option maxRecDepth 100000

/-- A text has at most so many names. -/
def FewN (t : List UInt8) : Prop := ∀ L r, namesB L = true → textN L ++ r = t → L.length ≤ 14073748835124
theorem names_snoc {L : List ByteArray} {n : List UInt8} (h : namesB L = true) (hn : Sc.nameA n = true) : namesB (L ++ [Sc.ba n]) = true := by
  unfold namesB at *
  rw [List.all_append, h]
  simp only [List.all_cons, List.all_nil, Bool.and_true, Bool.true_and]
  rw [Sc.ba_list]
  exact hn
theorem textN_app (A B : List ByteArray) : textN (A ++ B) = textN A ++ textN B := by simp [textN]
theorem pre_eq {r : List UInt8} (h : modL.isPrefixOf r = true) : r = modL ++ r.drop 9 := by
  rw [List.isPrefixOf_iff_prefix, List.prefix_iff_eq_append] at h
  exact h.symm
theorem piece_eq {r : List UInt8} (h : modL.isPrefixOf r = true) : r = modL ++ headS (r.drop 9) ++ (r.drop 9).drop (headS (r.drop 9)).length := by
  have h1 : (r.drop 9).take (headS (r.drop 9)).length ++ (r.drop 9).drop (headS (r.drop 9)).length = r.drop 9 := List.take_append_drop _ _
  rw [headS_take] at h1
  rw [List.append_assoc, h1]
  exact pre_eq h
theorem map_map_app {o : Option (List ByteArray)} (A : List ByteArray) (n : ByteArray) : (o.map fun L => n :: L).map (fun L => A ++ L) = o.map fun L => (A ++ [n]) ++ L := by
  cases o <;> simp

theorem pre_size {r : ByteArray} (h : modL.isPrefixOf r.data.toList = true) : 9 + (headS (r.data.toList.drop 9)).length ≤ r.size := by
  have h1 := congrArg List.length (piece_eq h)
  rw [List.length_append, List.length_append, modL_len, list_size] at h1
  omega

set_option maxHeartbeats 3200000 in
theorem tParse_loop (t : ByteArray) (ht : t.size ≤ 9223372036854775807) (hf : FewN t.data.toList) (h0 : t.data.toList ≠ [47]) (w : World) :
    Calls Tryz.prog 19 #[.string t] w fun e w' => ∃ v, e = .returned (.tuple #[v, .bool (parseV t.data.toList).isSome]) ∧ OwnPa w' w.heap.size v ((parseV t.data.toList).getD []) ∧ Below w.heap.size w w' := by
  have HV : Hid (parseV t.data.toList = if t.data.toList = [] then none else parts t.data.toList) := by unfold Hid parseV; rw [if_neg h0]
  have HF := hide3 hf
  have HFY : Hid (∀ (r : ByteArray), r.size ≤ t.size → modL.isPrefixOf r.data.toList = true → ∀ w1, Calls Tryz.prog 32 #[.string r] w1 fun e w' => e = .returned (.tuple #[.string (Sc.ba (headS (r.data.toList.drop 9))), .bool (Sc.nameA (headS (r.data.toList.drop 9)))]) ∧ Below w1.heap.size w1 w') := fun r hz hp w1 => first_yes r (by omega) hp w1
  have HFN : Hid (∀ (r : ByteArray), r.size ≤ t.size → modL.isPrefixOf r.data.toList = false → ∀ w1, Calls Tryz.prog 32 #[.string r] w1 fun e w' => ∃ x, e = .returned (.tuple #[.string x, .bool false]) ∧ Below w1.heap.size w1 w') := fun r hz hp w1 => first_no r (by omega) hp w1
  have HCL : Hid (∀ (s : ByteArray), s.size ≤ 281474976710656 → ∀ w1, Calls Tryz.prog 33 #[.string s] w1 fun e w' => e = .returned (.string s) ∧ Below w1.heap.size w1 w') := fun s hs w1 => Sc.Clone_any s hs w1
  have HON : Hid (OwnPa w w.heap.size (.slice none 0 0) []) := ⟨rfl, Or.inl ⟨rfl, rfl⟩⟩
  obtain ⟨i0, hi, hz0, hz1, hz2⟩ := Sc.info_parts Sc.infoStr
  have hq0 : (t.toList == [47]) = false := by rw [beq_eq_false_iff_ne, ByteArray.toList_eq]; exact h0
  clear hf h0
  go_enter Tryz.func19, Tryz.ntmps19
  go_wp2_with fail
  go_loopw [4, 5] (fun vp vr wr => ∃ (L : List ByteArray) (r : ByteArray), vr = .string r ∧ namesB L = true ∧ textN L ++ r.data.toList = t.data.toList ∧ parts t.data.toList = (parts r.data.toList).map (fun M => L ++ M) ∧ OwnPa wr w.heap.size vp L ∧ Below w.heap.size w wr) (fun _ vr _ => match vr with | .string r => r.size | _ => 0)
  case atStart => exact ⟨[], t, rfl, rfl, rfl, by simp, HON.out, Below.refl _ _⟩
  case round =>
    obtain ⟨L, r, rfl, hns, htx, hpt, hown, hb⟩ := hrel
    have HN := hide3 hns
    have HT := hide3 htx
    have HP := hide3 hpt
    have HO := hide3 hown
    have HB := hide3 hb
    have HLN := hide3 (HF.out L _ hns htx)
    obtain ⟨pa, pc, rfl, hpc⟩ := hown.form
    clear hns htx hpt hown hb
    have hrt : r.size ≤ t.size := by
      have e := congrArg List.length HT.out
      rw [List.length_append, list_size, list_size] at e
      omega
    by_cases hr : r.data.toList = []
    · have hre : (r.toList == []) = true := by rw [ByteArray.toList_eq, hr]; rfl
      have HPE : Hid (parts t.data.toList = some L) := by unfold Hid; rw [HP.out, hr, parts_nil]; simp
      have HLL : Hid (textN L = t.data.toList) := by have e := HT.out; rw [hr, List.append_nil] at e; exact e
      cases L with
      | nil =>
        have HR : Hid (parseV t.data.toList = none) := by unfold Hid; rw [HV.out, if_pos (by rw [← HLL.out]; rfl)]
        rw [List.length_nil]
        have hrs : r.toList = [] := by rw [ByteArray.toList_eq, hr]
        clear hre
        go_wp2
        go_ret2
        exact ⟨_, by rw [HR.out]; rfl, by rw [HR.out]; exact HO.out, HB.out⟩
      | cons n L =>
        have HR : Hid (parseV t.data.toList = some (n :: L)) := by unfold Hid; rw [HV.out, if_neg (by rw [← HLL.out]; simp [textN, modS]), HPE.out]
        have hp : (0 : Int) < (((n :: L).length : Nat) : Int) := by rw [List.length_cons]; omega
        have hrs : r.toList = [] := by rw [ByteArray.toList_eq, hr]
        clear hre
        go_wp2
        go_ret2
        exact ⟨_, by rw [HR.out]; rfl, by rw [HR.out]; exact HO.out, HB.out⟩
    · have hre : (r.toList == []) = false := by rw [beq_eq_false_iff_ne, ByteArray.toList_eq]; exact hr
      have hrn : r.toList ≠ [] := by rw [ByteArray.toList_eq]; exact hr
      have hre2 : r.toList.isEmpty = false := by rw [ByteArray.toList_eq]; cases e : r.data.toList with | nil => exact absurd e hr | cons _ _ => rfl
      have HNE : Hid (t.data.toList ≠ []) := fun e => by
        have q := HT.out
        rw [e] at q
        exact hr (List.append_eq_nil_iff.1 q).2
      cases hp : modL.isPrefixOf r.data.toList
      · have HR : Hid (parseV t.data.toList = none) := by unfold Hid; rw [HV.out, if_neg HNE.out, HP.out, parts_no hr (by rw [hp]; simp)]; rfl
        have HC := hide3 (HFN.out r hrt hp)
        clear hp hr
        go_wp2_with (go_at_call 32; refine (HC.out _).mono ?_; rintro e w1 ⟨x, rfl, ok⟩; have HB1 := hide3 (below_then HB.out ok); clear ok)
        go_ret2
        exact ⟨_, by rw [HR.out]; rfl, by rw [HR.out]; exact ⟨rfl, Or.inl ⟨rfl, rfl⟩⟩, HB1.out⟩
      · have HC := hide3 (HFY.out r hrt hp)
        cases hn : Sc.nameA (headS (r.data.toList.drop 9))
        · have HR : Hid (parseV t.data.toList = none) := by unfold Hid; rw [HV.out, if_neg HNE.out, HP.out, parts_no hr (by rw [hn]; simp)]; rfl
          rw [hn] at HC
          generalize Sc.ba (headS (r.data.toList.drop 9)) = nm at *
          clear hp hr hn
          go_wp2_with (go_at_call 32; refine (HC.out _).mono ?_; rintro e w1 ⟨rfl, ok⟩; have HB1 := hide3 (below_then HB.out ok); clear ok)
          go_ret2
          exact ⟨_, by rw [HR.out]; rfl, by rw [HR.out]; exact ⟨rfl, Or.inl ⟨rfl, rfl⟩⟩, HB1.out⟩
        · rw [hn] at HC
          have hsz := pre_size hp
          have HNN : Hid (namesB (L ++ [Sc.ba (headS (r.data.toList.drop 9))]) = true) := names_snoc HN.out hn
          have HRL : Hid ((r.extract (9 + (headS (r.data.toList.drop 9)).length) r.size).data.toList = (r.data.toList.drop 9).drop (headS (r.data.toList.drop 9)).length) := by
            unfold Hid
            rw [Sc.ba_extract, Sc.ba_list, ← list_size, List.take_length, List.drop_drop]
          have HTN : Hid (textN (L ++ [Sc.ba (headS (r.data.toList.drop 9))]) ++ (r.extract (9 + (headS (r.data.toList.drop 9)).length) r.size).data.toList = t.data.toList) := by
            unfold Hid
            rw [textN_snoc, HRL.out, Sc.ba_list, List.append_assoc, List.append_assoc, ← HT.out]
            congr 1
            rw [← List.append_assoc]
            exact (piece_eq hp).symm
          have HPN : Hid (parts t.data.toList = (parts (r.extract (9 + (headS (r.data.toList.drop 9)).length) r.size).data.toList).map (fun M => (L ++ [Sc.ba (headS (r.data.toList.drop 9))]) ++ M)) := by
            unfold Hid
            rw [HP.out, HRL.out, parts_on hr hp hn, map_map_app]
          have hns : (Sc.ba (headS (r.data.toList.drop 9))).size = (headS (r.data.toList.drop 9)).length := by show (headS (r.data.toList.drop 9)).toArray.size = _; simp
          have hnb : (Sc.ba (headS (r.data.toList.drop 9))).size ≤ 16 := name_size (by rw [Sc.ba_list]; exact hn)
          have hnp : 0 < (headS (r.data.toList.drop 9)).length := nameA_pos hn
          have HLM := hide3 (HF.out _ _ HNN.out HTN.out)
          generalize (headS (r.data.toList.drop 9)).length = m at *
          generalize Sc.ba (headS (r.data.toList.drop 9)) = nm at *
          have hll : L.length + 1 ≤ 14073748835124 := by have e := HLM.out; rw [List.length_append] at e; exact e
          have HCN := hide3 (HCL.out nm (by omega))
          subst m
          clear hp hr hn
          go_wp2_with (first
            | (go_at_call 32; refine (HC.out _).mono ?_; rintro e w1 ⟨rfl, ok⟩; have HO1 := hide3 (HO.out.below ok); have HB1 := hide3 (below_then HB.out ok); clear ok)
            | (go_at_call 33; refine (HCN.out _).mono ?_; rintro e w2 ⟨rfl, ok⟩; have HO2 := hide3 (HO1.out.below ok); have HB2 := hide3 (below_then HB1.out ok); clear ok)
            | (have _h := HO2; at_builtin; refine wpList_append_own_wide _ rfl _ _ 53 rfl w.heap.size 9 i0 _ 1 16 Tryz.underlying53 hi hz0 hz1 hz2 rfl (by decide) _ _ _ rfl (HO2.out.alloc _) ⟨w2.heap.size, 0, none⟩ 1 1 [.string nm] rfl rfl (cell_one_new _ _ _) (by simp [Value.oneCell']) (by unfold maxLen; omega) (by omega) (by have := HB2.out.size; simp; omega) ?_; intro v3 w3 ho3 hg3 _; have HO3 : Hid (OwnPa w3 w.heap.size v3 (L ++ [nm])) := (by have e := ho3; unfold Hid OwnPa pcs; rw [List.map_append, List.length_append]; exact e); have HB3 : Hid (Below w.heap.size w w3) := (HB2.out.alloc (by have := HB2.out.size; omega) _).grown hg3 (by have := HB2.out.size; simp; omega) (fun k hk => (World.ownsRow.lt HO2.out k hk).1); clear ho3 hg3))
          exact ⟨⟨L ++ [nm], _, rfl, HNN.out, HTN.out, HPN.out, HO3.out, HB3.out⟩, by simp; omega⟩

theorem tParse_any (t : ByteArray) (ht : t.size ≤ 9223372036854775807) (hf : FewN t.data.toList) (w : World) :
    Calls Tryz.prog 19 #[.string t] w fun e w' => ∃ v, e = .returned (.tuple #[v, .bool (parseV t.data.toList).isSome]) ∧ OwnPa w' w.heap.size v ((parseV t.data.toList).getD []) ∧ Below w.heap.size w w' := by
  by_cases h0 : t.data.toList = [47]
  · obtain rfl : t = ⟨#[47]⟩ := bytes_same (by rw [ByteArray.toList_eq, ByteArray.toList_eq, h0])
    have HR : Hid (parseV (⟨#[47]⟩ : ByteArray).data.toList = some []) := rfl
    rw [HR.out]
    clear hf ht h0
    go_enter Tryz.func19, Tryz.ntmps19
    go_wp2
    go_ret2
    exact ⟨_, rfl, ⟨rfl, Or.inl ⟨rfl, rfl⟩⟩, Below.refl _ _⟩
  · exact tParse_loop t ht hf h0 w
end Go.Proofs.YtogpkhpephhbiaaGreatDoor
namespace Go.Proofs.YtogpkhpephhbiaaGreatDoor
open Go.RowKit
set_option maxRecDepth 100000

theorem headS_at {r : List UInt8} {i : Nat} (h : i < (headS r).length) (h2 : i < r.length) : r[i] ≠ 47 := fun e => by
  have h3 : (headS r)[i] = r[i] := by
    have q := List.getElem_take (xs := r) (j := (headS r).length) (i := i) (h := by rw [List.length_take]; omega)
    simp only [headS_take] at q
    exact q
  exact headS_no r (by rw [← e, ← h3]; exact List.getElem_mem h)
theorem headS_end {r : List UInt8} (h : (headS r).length < r.length) : r[(headS r).length] = 47 := by
  rcases headS_next r with e | ⟨t, e⟩
  · rw [List.drop_eq_nil_iff] at e
    omega
  · have q := List.drop_eq_getElem_cons h
    rw [e] at q
    exact (List.cons.inj q).1.symm
theorem drop_get {s : ByteArray} {k i : Nat} (h : k + i < s.size) : (s.data.toList.drop k)[i]'(by rw [List.length_drop, list_size]; omega) = s[k + i] := by
  rw [List.getElem_drop]
  rfl

set_option maxHeartbeats 3200000 in
theorem rParseP_loop (t : ByteArray) (ht : t.size ≤ 9223372036854775000) (hf : FewN t.data.toList) (h0 : t.data.toList ≠ [47]) (w : World) :
    Calls Tryz.prog 25 #[.string t] w fun e w' => ∃ v, e = .returned (.tuple #[v, .bool (parseV t.data.toList).isSome]) ∧ OwnPa w' w.heap.size v ((parseV t.data.toList).getD []) ∧ Below w.heap.size w w' := by
  have HV : Hid (parseV t.data.toList = if t.data.toList = [] then none else parts t.data.toList) := by unfold Hid parseV; rw [if_neg h0]
  have HF := hide3 hf
  have HNA : Hid (∀ (s : ByteArray), s.size ≤ 9223372036854775807 → ∀ w1, Calls Tryz.prog 26 #[.string s] w1 fun e w' => e = .returned (.bool (Sc.nameA s.data.toList)) ∧ w' = w1) := fun s hs w1 => Sc.rName_any s hs w1
  have HON : Hid (OwnPa w w.heap.size (.slice none 0 0) []) := ⟨rfl, Or.inl ⟨rfl, rfl⟩⟩
  obtain ⟨i0, hi, hz0, hz1, hz2⟩ := Sc.info_parts Sc.infoStr
  have hq0 : (t.toList == [47]) = false := by rw [beq_eq_false_iff_ne, ByteArray.toList_eq]; exact h0
  clear hf h0
  go_enter Tryz.func25, Tryz.ntmps25
  go_wp2_with fail
  go_loopw [4, 5] (fun vp vk wr => ∃ (L : List ByteArray) (k : Nat), vk = .int .i64 k ∧ k ≤ t.size ∧ namesB L = true ∧ textN L ++ t.data.toList.drop k = t.data.toList ∧ parts t.data.toList = (parts (t.data.toList.drop k)).map (fun M => L ++ M) ∧ OwnPa wr w.heap.size vp L ∧ Below w.heap.size w wr) (fun _ vk _ => t.size - (intOf vk).toNat)
  case atStart => exact ⟨[], 0, rfl, Nat.zero_le _, rfl, rfl, by simp, HON.out, Below.refl _ _⟩
  case round =>
    obtain ⟨L, k, rfl, hk, hns, htx, hpt, hown, hb⟩ := hrel
    have HN := hide3 hns
    have HT := hide3 htx
    have HP := hide3 hpt
    have HO := hide3 hown
    have HB := hide3 hb
    obtain ⟨pa, pc, rfl, hpc⟩ := hown.form
    clear hns htx hpt hown hb
    by_cases hlt : k < t.size
    · have hr : t.data.toList.drop k ≠ [] := fun e => by rw [List.drop_eq_nil_iff, list_size] at e; omega
      have HNE : Hid (t.data.toList ≠ []) := fun e => by rw [e] at hr; simp at hr
      by_cases h9 : t.size < k + 9
      · have hp : modL.isPrefixOf (t.data.toList.drop k) = false := by
          rw [Bool.eq_false_iff]
          intro e
          have q := (List.isPrefixOf_iff_prefix.1 e).length_le
          rw [modL_len, List.length_drop, list_size] at q
          omega
        have HR : Hid (parseV t.data.toList = none) := by unfold Hid; rw [HV.out, if_neg HNE.out, HP.out, parts_no hr (by rw [hp]; simp)]; rfl
        have h9i : decide ((t.size : Int) < (k : Int) + 9) = true := decide_eq_true (by omega)
        clear hp hr
        go_wp2
        go_ret2
        exact ⟨_, by rw [HR.out]; rfl, by rw [HR.out]; exact ⟨rfl, Or.inl ⟨rfl, rfl⟩⟩, HB.out⟩
      · have HX : Hid ((t.extract k (k + 9)).toList = (t.data.toList.drop k).take 9) := by
          unfold Hid
          rw [ByteArray.toList_eq, Sc.ba_extract, Sc.ba_list, List.drop_take]
          congr 1
          omega
        cases hp : modL.isPrefixOf (t.data.toList.drop k)
        · have HR : Hid (parseV t.data.toList = none) := by unfold Hid; rw [HV.out, if_neg HNE.out, HP.out, parts_no hr (by rw [hp]; simp)]; rfl
          have hq : ((t.extract k (k + 9)).toList == [47, 109, 111, 100, 117, 108, 101, 115, 47]) = false := by
            rw [beq_eq_false_iff_ne, HX.out]
            intro e
            have : modL.isPrefixOf (t.data.toList.drop k) = true := by rw [List.isPrefixOf_iff_prefix, List.prefix_iff_eq_take]; exact e.symm
            rw [hp] at this
            cases this
          clear hp hr HX
          go_wp2
          go_ret2
          exact ⟨_, by rw [HR.out]; rfl, by rw [HR.out]; exact ⟨rfl, Or.inl ⟨rfl, rfl⟩⟩, HB.out⟩
        · have hq : ((t.extract k (k + 9)).toList == [47, 109, 111, 100, 117, 108, 101, 115, 47]) = true := by
            rw [beq_iff_eq, HX.out]
            exact (List.prefix_iff_eq_take.1 (List.isPrefixOf_iff_prefix.1 hp)).symm
          have hdd : (t.data.toList.drop k).drop 9 = t.data.toList.drop (k + 9) := List.drop_drop
          have HPE := hide3 (piece_eq hp)
          have HPN : Hid (Sc.nameA (headS (t.data.toList.drop (k + 9))) = false → parseV t.data.toList = none) := fun e => by
            rw [HV.out, if_neg HNE.out, HP.out, parts_no hr (by rw [hdd, e]; simp)]; rfl
          have hhl : (headS (t.data.toList.drop (k + 9))).length ≤ t.size - (k + 9) := by have := headS_le (t.data.toList.drop (k + 9)); rw [List.length_drop, list_size] at this; exact this
          have HBY : Hid (∀ j (_ : j < (headS (t.data.toList.drop (k + 9))).length) (h2 : k + 9 + j < t.size), t[k + 9 + j] ≠ 47) := fun j hj h2 => by
            have := headS_at hj (by rw [List.length_drop, list_size]; omega)
            rwa [drop_get h2] at this
          have HBE : Hid (∀ (h2 : k + 9 + (headS (t.data.toList.drop (k + 9))).length < t.size), t[k + 9 + (headS (t.data.toList.drop (k + 9))).length] = 47) := fun h2 => by
            have := headS_end (r := t.data.toList.drop (k + 9)) (by rw [List.length_drop, list_size]; omega)
            rwa [drop_get h2] at this
          have HXN : Hid ((t.extract (k + 9) (k + 9 + (headS (t.data.toList.drop (k + 9))).length)) = Sc.ba (headS (t.data.toList.drop (k + 9)))) := by
            unfold Hid
            rw [Sc.ba_extract, List.drop_take, show k + 9 + (headS (t.data.toList.drop (k + 9))).length - (k + 9) = (headS (t.data.toList.drop (k + 9))).length by omega, headS_take]
          rw [hdd, List.drop_drop] at HPE
          have HY : Hid (Sc.nameA (headS (t.data.toList.drop (k + 9))) = true → namesB (L ++ [t.extract (k + 9) (k + 9 + (headS (t.data.toList.drop (k + 9))).length)]) = true ∧ textN (L ++ [t.extract (k + 9) (k + 9 + (headS (t.data.toList.drop (k + 9))).length)]) ++ t.data.toList.drop (k + 9 + (headS (t.data.toList.drop (k + 9))).length) = t.data.toList ∧ parts t.data.toList = (parts (t.data.toList.drop (k + 9 + (headS (t.data.toList.drop (k + 9))).length))).map (fun M => (L ++ [t.extract (k + 9) (k + 9 + (headS (t.data.toList.drop (k + 9))).length)]) ++ M) ∧ 0 < (headS (t.data.toList.drop (k + 9))).length ∧ L.length + 1 ≤ 14073748835124) := fun e => by
            rw [HXN.out]
            have y1 := names_snoc HN.out e
            have y2 : textN (L ++ [Sc.ba (headS (t.data.toList.drop (k + 9)))]) ++ t.data.toList.drop (k + 9 + (headS (t.data.toList.drop (k + 9))).length) = t.data.toList := by
              rw [textN_snoc, Sc.ba_list]
              conv => rhs; rw [← HT.out, HPE.out]
              simp only [List.append_assoc]
              rfl
            refine ⟨y1, y2, ?_, nameA_pos e, ?_⟩
            · rw [HP.out, parts_on hr hp (by rw [hdd]; exact e), map_map_app, hdd, List.drop_drop]
            · have := HF.out _ _ y1 y2
              rw [List.length_append] at this
              exact this
          have HNM : Hid (∀ w1, Calls Tryz.prog 26 #[.string (t.extract (k + 9) (k + 9 + (headS (t.data.toList.drop (k + 9))).length))] w1 fun e w' => e = .returned (.bool (Sc.nameA (headS (t.data.toList.drop (k + 9))))) ∧ w' = w1) := fun w1 => by
            have h := HNA.out (t.extract (k + 9) (k + 9 + (headS (t.data.toList.drop (k + 9))).length)) (by rw [ByteArray.size_extract]; omega) w1
            rw [HXN.out] at h ⊢
            rw [Sc.ba_list] at h
            exact h
          clear HXN HPE
          generalize (headS (t.data.toList.drop (k + 9))).length = m at *
          generalize Sc.nameA (headS (t.data.toList.drop (k + 9))) = b at *
          clear hp hr HX hdd HNA
          obtain ⟨wa, rfl⟩ : ∃ x, x = wr := ⟨wr, rfl⟩
          go_wp2_with fail
          go_loopw [6] (fun vj wq => ∃ j : Nat, vj = .int .i64 (k + 9 + j : Nat) ∧ j ≤ m ∧ wq = wa) (fun vj _ => t.size - (intOf vj).toNat)
          case atStart => exact ⟨0, by go_num, Nat.zero_le _, rfl⟩
          case round =>
            obtain ⟨j, rfl, hj, hww⟩ := hrel
            subst hww
            by_cases hjm : j < m
            · have hjs : k + 9 + j < t.size := by omega
              have e47 : ((t[k + 9 + j].toNat : Int) == 47) = false := by
                rw [beq_eq_false_iff_ne]
                intro e
                exact HBY.out j hjm hjs (UInt8.toNat_inj.1 (by have h47 : (47 : UInt8).toNat = 47 := rfl; omega))
              go_wp2
              exact ⟨⟨j + 1, by go_num, by omega, trivial⟩, by simp [intOf]; omega⟩
            · have hmj : m = j := by omega
              subst hmj
              by_cases he : k + 9 + m < t.size
              · have hjs : decide (((k + 9 + m : Nat) : Int) < (t.size : Int)) = true := decide_eq_true (by omega)
                have e47 : ((t[k + 9 + m].toNat : Int) == 47) = true := by rw [HBE.out he]; rfl
                cases b
                · have HR := hide3 (HPN.out rfl)
                  clear HPN HY
                  go_wp2_with (go_at_call 26; refine (HNM.out _).mono ?_; rintro e w1 ⟨rfl, hw1⟩; subst w1)
                  go_ret2
                  exact ⟨_, by rw [HR.out]; rfl, by rw [HR.out]; exact ⟨rfl, Or.inl ⟨rfl, rfl⟩⟩, HB.out⟩
                · obtain ⟨y1, y2, y3, y4, y5⟩ := HY.out rfl
                  have HNN := hide3 y1
                  have HTN := hide3 y2
                  have HPP := hide3 y3
                  clear HPN HY y1 y2 y3
                  go_wp2_with (first
                    | (go_at_call 26; refine (HNM.out _).mono ?_; rintro e w1 ⟨rfl, hw1⟩; subst w1)
                    | (at_builtin; refine wpList_append_own_wide _ rfl _ _ 53 rfl w.heap.size 9 i0 _ 1 16 Tryz.underlying53 hi hz0 hz1 hz2 rfl (by decide) _ _ _ rfl (HO.out.alloc _) ⟨wr.heap.size, 0, none⟩ 1 1 [.string (t.extract (k + 9) (k + 9 + m))] rfl rfl (cell_one_new _ _ _) (by simp [Value.oneCell']) (by unfold maxLen; omega) (by omega) (by have := HB.out.size; simp; omega) ?_; intro v3 w3 ho3 hg3 _; have HO3 : Hid (OwnPa w3 w.heap.size v3 (L ++ [t.extract (k + 9) (k + 9 + m)])) := (by have e := ho3; unfold Hid OwnPa pcs; rw [List.map_append, List.length_append]; exact e); have HB3 : Hid (Below w.heap.size w w3) := (HB.out.alloc (by have := HB.out.size; omega) _).grown hg3 (by have := HB.out.size; simp; omega) (fun k hk => (World.ownsRow.lt HO.out k hk).1); clear ho3 hg3))
                  exact ⟨⟨_, k + 9 + m, by go_num, by omega, HNN.out, HTN.out, HPP.out, HO3.out, HB3.out⟩, by simp [intOf]; omega⟩
              · have hjs : decide (((k + 9 + m : Nat) : Int) < (t.size : Int)) = false := decide_eq_false (by omega)
                cases b
                · have HR := hide3 (HPN.out rfl)
                  clear HPN HY
                  go_wp2_with (go_at_call 26; refine (HNM.out _).mono ?_; rintro e w1 ⟨rfl, hw1⟩; subst w1)
                  go_ret2
                  exact ⟨_, by rw [HR.out]; rfl, by rw [HR.out]; exact ⟨rfl, Or.inl ⟨rfl, rfl⟩⟩, HB.out⟩
                · obtain ⟨y1, y2, y3, y4, y5⟩ := HY.out rfl
                  have HNN := hide3 y1
                  have HTN := hide3 y2
                  have HPP := hide3 y3
                  clear HPN HY y1 y2 y3
                  go_wp2_with (first
                    | (go_at_call 26; refine (HNM.out _).mono ?_; rintro e w1 ⟨rfl, hw1⟩; subst w1)
                    | (at_builtin; refine wpList_append_own_wide _ rfl _ _ 53 rfl w.heap.size 9 i0 _ 1 16 Tryz.underlying53 hi hz0 hz1 hz2 rfl (by decide) _ _ _ rfl (HO.out.alloc _) ⟨wr.heap.size, 0, none⟩ 1 1 [.string (t.extract (k + 9) (k + 9 + m))] rfl rfl (cell_one_new _ _ _) (by simp [Value.oneCell']) (by unfold maxLen; omega) (by omega) (by have := HB.out.size; simp; omega) ?_; intro v3 w3 ho3 hg3 _; have HO3 : Hid (OwnPa w3 w.heap.size v3 (L ++ [t.extract (k + 9) (k + 9 + m)])) := (by have e := ho3; unfold Hid OwnPa pcs; rw [List.map_append, List.length_append]; exact e); have HB3 : Hid (Below w.heap.size w w3) := (HB.out.alloc (by have := HB.out.size; omega) _).grown hg3 (by have := HB.out.size; simp; omega) (fun k hk => (World.ownsRow.lt HO.out k hk).1); clear ho3 hg3))
                  exact ⟨⟨_, k + 9 + m, by go_num, by omega, HNN.out, HTN.out, HPP.out, HO3.out, HB3.out⟩, by simp [intOf]; omega⟩
    · obtain rfl : k = t.size := by omega
      have HLL : Hid (textN L = t.data.toList) := by have e := HT.out; rw [List.drop_eq_nil_iff.2 (by rw [list_size]; exact Nat.le_refl _), List.append_nil] at e; exact e
      have HPE : Hid (parts t.data.toList = some L) := by unfold Hid; rw [HP.out, List.drop_eq_nil_iff.2 (by rw [list_size]; exact Nat.le_refl _), parts_nil]; simp
      cases L with
      | nil =>
        have HR : Hid (parseV t.data.toList = none) := by unfold Hid; rw [HV.out, if_pos (by rw [← HLL.out]; rfl)]
        rw [List.length_nil]
        go_wp2
        go_ret2
        exact ⟨_, by rw [HR.out]; rfl, by rw [HR.out]; exact HO.out, HB.out⟩
      | cons n L =>
        have HR : Hid (parseV t.data.toList = some (n :: L)) := by unfold Hid; rw [HV.out, if_neg (by rw [← HLL.out]; simp [textN, modS]), HPE.out]
        have hp : (0 : Int) < (((n :: L).length : Nat) : Int) := by rw [List.length_cons]; omega
        go_wp2
        go_ret2
        exact ⟨_, by rw [HR.out]; rfl, by rw [HR.out]; exact HO.out, HB.out⟩

theorem rParseP_any (t : ByteArray) (ht : t.size ≤ 9223372036854775000) (hf : FewN t.data.toList) (w : World) :
    Calls Tryz.prog 25 #[.string t] w fun e w' => ∃ v, e = .returned (.tuple #[v, .bool (parseV t.data.toList).isSome]) ∧ OwnPa w' w.heap.size v ((parseV t.data.toList).getD []) ∧ Below w.heap.size w w' := by
  by_cases h0 : t.data.toList = [47]
  · obtain rfl : t = ⟨#[47]⟩ := bytes_same (by rw [ByteArray.toList_eq, ByteArray.toList_eq, h0])
    have HR : Hid (parseV (⟨#[47]⟩ : ByteArray).data.toList = some []) := rfl
    rw [HR.out]
    clear hf ht h0
    go_enter Tryz.func25, Tryz.ntmps25
    go_wp2
    go_ret2
    exact ⟨_, rfl, ⟨rfl, Or.inl ⟨rfl, rfl⟩⟩, Below.refl _ _⟩
  · exact rParseP_loop t ht hf h0 w
end Go.Proofs.YtogpkhpephhbiaaGreatDoor
namespace Go.Proofs.YtogpkhpephhbiaaGreatDoor
open Go.RowKit
set_option maxRecDepth 100000

set_option maxHeartbeats 3200000 in
theorem tText_w {L : List ByteArray} {v : Value} {w : World} (h : PathAt w v L) (hz : L.length ≤ 4611686018427387904) (hlen : ∀ k, k ≤ L.length → namesB (L.take k) = true → (textN (L.take k)).length ≤ 219902325555200) :
    Calls Tryz.prog 21 #[v] w fun e w' => e = .returned (.string (textPa L)) ∧ Below w.heap.size w w' := by
  have HP : Hid (∀ w1, Below w.heap.size w w1 → PathAt w1 v L) := fun w1 hb => h.below hb
  obtain ⟨ad, cap, rfl⟩ := h.sl
  have HLE := hide3 hlen
  clear h hlen
  by_cases h0 : L = []
  · subst h0
    have HR : Hid (textPa [] = ⟨#[47]⟩) := rfl
    rw [List.length_nil]
    go_enter Tryz.func21, Tryz.ntmps21
    go_wp2
    go_ret
    exact ⟨by rw [HR.out]; rfl, Below.refl _ _⟩
  · have hpos : 0 < L.length := List.length_pos_iff.2 h0
    have HNO : Hid (namesB L = false → textPa L = ⟨#[]⟩) := fun e => by unfold textPa; rw [if_neg h0, if_neg (by rw [e]; simp)]
    have HYE : Hid (namesB L = true → textPa L = ⟨(textN L).toArray⟩) := fun e => by unfold textPa; rw [if_neg h0, if_pos e]
    have HNA : Hid (∀ s w1, Calls Tryz.prog 20 #[.string s] w1 fun e w' => e = .returned (.bool (Sc.nameA s.data.toList)) ∧ w' = w1) := fun s w1 => Sc.Name_any s w1
    have HW : Hid (∀ l wz s, TW w l wz → s.size ≤ 1000 → l.length ≤ 219902325555300 → Calls Tryz.prog 36 #[.pointer (some ⟨w.heap.size, 0, none⟩), .string s] wz fun e w' => e = .returned (.tuple #[.int .i64 s.size, .nilIface]) ∧ TW w (l ++ s.data.toList) w') := fun l wz s h1 h2 h3 => by
      refine (putText_w s h1.1 h2 (by omega) h1.2.size).mono ?_
      rintro e w' ⟨rfl, g1, g2⟩
      exact ⟨rfl, g1, h1.2.trans g2⟩
    have HST : Hid (∀ l wz, TW w l wz → Calls Tryz.prog 37 #[.pointer (some ⟨w.heap.size, 0, none⟩)] wz fun e w2 => e = .returned (.string ⟨l.toArray⟩) ∧ Below w.heap.size wz w2) := fun l w' h => Tryz.Builder_String_any _ _ l w' h.1 h.2.size
    have HT0 : Hid (TW w [] (w.alloc (.cells #[.pointer none, .slice none 0 0] 90))) := TW.new w
    have HL : Hid (∀ k, k ≤ L.length → namesB (L.take k) = true → (textN (L.take k)).length ≤ 219902325555200) := HLE.out
    have hne0 : ((L.length : Int) == 0) = false := by rw [beq_eq_false_iff_ne]; omega
    go_enter Tryz.func21, Tryz.ntmps21
    go_wp2_with fail
    go_loopw [11] (fun i wr => ∃ k : Nat, k ≤ L.length ∧ i = .int .i64 k ∧ TW w (textN (L.take k)) wr ∧ namesB (L.take k) = true) (fun i _ => L.length - (intOf i).toNat)
    case atStart => exact ⟨0, Nat.zero_le _, rfl, HT0.out, rfl⟩
    case round =>
      obtain ⟨k, hk, rfl, htw, hns⟩ := hrel
      have HTW := hide3 htw
      by_cases hlt : k < L.length
      · obtain ⟨ad', cap', e, _, hcs⟩ := HP.out wr htw.2
        cases e
        obtain ⟨g, o, rfl, hcz⟩ : ∃ g o, ad = some ⟨g, o, none⟩ ∧ ∀ i (h : i < L.length), StIn wr g (o + i) L[i] := by
          rcases hcs with h | h
          · exact absurd h h0
          · exact h
        clear hcs
        obtain ⟨c0, c1⟩ := hcz k hlt
        have HLK := hide3 (HL.out k hk hns)
        have HTS : Hid (textN (L.take (k + 1)) = textN (L.take k) ++ modS.data.toList ++ L[k].data.toList) := by
          unfold Hid
          rw [List.take_succ_eq_append_getElem hlt, textN_snoc]
        have HNT : Hid (Sc.nameA L[k].data.toList = true → namesB (L.take (k + 1)) = true) := fun e => by rw [names_take hlt, hns, e]; rfl
        have HNB : Hid (Sc.nameA L[k].data.toList = false → namesB L = false) := fun e => names_bad hlt e
        clear hcz htw hns
        have HNM := hide3 (HNA.out L[k])
        generalize L[k] = s at *
        cases hn : Sc.nameA s.data.toList
        · have HR := hide3 (HNO.out (HNB.out hn))
          rw [hn] at HNM
          clear HNT HNB HNO HYE
          go_wp2_with (go_at_call 20; refine (HNM.out _).mono ?_; rintro e w1 ⟨rfl, hw1⟩; subst w1)
          go_ret
          exact ⟨by rw [HR.out]; rfl, HTW.out.2⟩
        · have HR := hide3 (HNT.out hn)
          rw [hn] at HNM
          have hs16 : s.size ≤ 16 := name_size hn
          have hms : modS.size = 9 := rfl
          clear HNT HNB HNO HYE
          have t1 : True := trivial
          go_wp2_with (first
            | (go_at_call 20; refine (HNM.out _).mono ?_; rintro e w1 ⟨rfl, hw1⟩; subst w1)
            | (have _t := t1; go_at_call 36; refine (HW.out (textN (L.take k)) _ modS HTW.out (by omega) (by have := HLK.out; omega)).mono ?_; rintro e w2 ⟨rfl, ok⟩; have HT2 := hide3 ok; clear ok t1)
            | (have _t := HT2; go_at_call 36; refine (HW.out (textN (L.take k) ++ modS.data.toList) _ s HT2.out (by omega) (by have := HLK.out; rw [List.length_append, list_size]; omega)).mono ?_; rintro e w3 ⟨rfl, ok⟩; have HT3 := hide3 ok; clear ok))
          exact ⟨⟨k + 1, by omega, by go_num, by rw [HTS.out]; exact HT3.out, HR.out⟩, by simp [intOf]; omega⟩
      · obtain rfl : k = L.length := by omega
        have HTE : Hid (TW w (textN L) wr) := by have e := HTW.out; rw [List.take_length] at e; exact e
        have HR : Hid (textPa L = ⟨(textN L).toArray⟩) := HYE.out (by rw [List.take_length] at hns; exact hns)
        clear htw hns HTW
        go_wp2_with (go_at_call 37; refine (HST.out _ _ HTE.out).mono ?_; rintro e w6 ⟨rfl, ok⟩; have HB6 := hide3 (HTE.out.2.trans ok); clear ok)
        go_ret
        exact ⟨by rw [HR.out]; rfl, HB6.out⟩
end Go.Proofs.YtogpkhpephhbiaaGreatDoor
namespace Go.Proofs.YtogpkhpephhbiaaGreatDoor
open Go.RowKit
set_option maxRecDepth 100000

theorem names_cons {s : ByteArray} {L : List ByteArray} : namesB (s :: L) = true ↔ Sc.nameA s.data.toList = true ∧ namesB L = true := by
  unfold namesB
  rw [List.all_cons, Bool.and_eq_true]
theorem textN_cons (s : ByteArray) (L : List ByteArray) : textN (s :: L) = modL ++ (s.data.toList ++ textN L) := by
  unfold textN modL
  rw [List.flatMap_cons, List.append_assoc]
theorem textN_open (L : List ByteArray) : textN L = [] ∨ ∃ t, textN L = 47 :: t := by
  cases L with
  | nil => exact Or.inl rfl
  | cons s L => exact Or.inr ⟨_, textN_cons s L⟩
theorem ba_self (s : ByteArray) : Sc.ba s.data.toList = s := rfl
theorem mod_pre (r : List UInt8) : modL.isPrefixOf (modL ++ r) = true := by rw [List.isPrefixOf_iff_prefix]; exact List.prefix_append _ _
theorem mod_drop (r : List UInt8) : (modL ++ r).drop 9 = r := List.drop_left (l₁ := modL)
theorem partsP_text : ∀ {L : List ByteArray}, namesB L = true → parts (textN L) = some L
  | [], _ => parts_nil
  | s :: L, h => by
    obtain ⟨h1, h2⟩ := names_cons.1 h
    have hh : headS (s.data.toList ++ textN L) = s.data.toList := headS_app (nameA_no h1) (textN_open L)
    have e := parts_on (r := textN (s :: L)) (by rw [textN_cons]; simp [modL, modS]) (by rw [textN_cons]; exact mod_pre _) (by rw [textN_cons, mod_drop, hh]; exact h1)
    rw [e, textN_cons, mod_drop, hh, List.drop_left, partsP_text h2]
    rfl
theorem textP_parts : ∀ (n : Nat) {r : List UInt8} {L : List ByteArray}, r.length ≤ n → parts r = some L → textN L = r ∧ namesB L = true
  | n, [], L, _, h => by
    rw [parts_nil] at h
    cases h
    exact ⟨rfl, rfl⟩
  | 0, _ :: _, _, hn, _ => by simp at hn
  | n + 1, b :: r, L, hn, h => by
    by_cases hq : modL.isPrefixOf (b :: r) = true ∧ Sc.nameA (headS ((b :: r).drop 9)) = true
    · rw [parts_on (by simp) hq.1 hq.2] at h
      cases hp : parts (((b :: r).drop 9).drop (headS ((b :: r).drop 9)).length) with
      | none => rw [hp] at h; cases h
      | some M =>
        rw [hp] at h
        cases h
        have ih := textP_parts n (by simp only [List.length_drop, List.length_cons] at hn ⊢; omega) hp
        refine ⟨?_, names_cons.2 ⟨by rw [Sc.ba_list]; exact hq.2, ih.2⟩⟩
        rw [textN_cons, ih.1, Sc.ba_list, ← List.append_assoc]
        exact (piece_eq hq.1).symm
    · rw [parts_no (by simp) hq] at h
      cases h

/-- What is written is read again. -/
theorem parse_text {L : List ByteArray} (h : L = [] ∨ namesB L = true) : parseV (textPa L).data.toList = some L := by
  rcases Classical.em (L = []) with rfl | h0
  · rfl
  · have hn : namesB L = true := h.resolve_left h0
    have e : (textPa L).data.toList = textN L := by unfold textPa; rw [if_neg h0, if_pos hn]
    rw [e]
    cases L with
    | nil => exact absurd rfl h0
    | cons s L =>
      unfold parseV
      rw [if_neg (by rw [textN_cons]; simp [modL, modS]), if_neg (by rw [textN_cons]; simp [modL, modS])]
      exact partsP_text hn
/-- What is read is written as that text. -/
theorem text_parse {t : ByteArray} {L : List ByteArray} (h : parseV t.data.toList = some L) : textPa L = t := by
  unfold parseV at h
  by_cases h1 : t.data.toList = [47]
  · rw [if_pos h1] at h
    cases h
    exact bytes_same (by rw [ByteArray.toList_eq, ByteArray.toList_eq, h1]; rfl)
  · rw [if_neg h1] at h
    by_cases h2 : t.data.toList = []
    · rw [if_pos h2] at h
      cases h
    · rw [if_neg h2] at h
      obtain ⟨e1, e2⟩ := textP_parts _ (Nat.le_refl _) h
      have h0 : L ≠ [] := fun e => h2 (by rw [← e1, e]; rfl)
      unfold textPa
      rw [if_neg h0, if_pos e2]
      exact bytes_same (by rw [ByteArray.toList_eq, ByteArray.toList_eq, ← e1])
theorem textPa_none {L : List ByteArray} (h0 : L ≠ []) (h : namesB L = false) : textPa L = ⟨#[]⟩ := by unfold textPa; rw [if_neg h0, if_neg (by rw [h]; simp)]
theorem textPa_some {L : List ByteArray} (h : L = [] ∨ namesB L = true) : (textPa L).data.toList ≠ [] := by
  rcases Classical.em (L = []) with rfl | h0
  · decide
  · unfold textPa
    rw [if_neg h0, if_pos (h.resolve_left h0)]
    cases L with
    | nil => exact absurd rfl h0
    | cons s L =>
      show textN (s :: L) ≠ []
      rw [textN_cons]
      simp [modL, modS]
theorem parse_names {t : ByteArray} {L : List ByteArray} (h : parseV t.data.toList = some L) : L = [] ∨ namesB L = true := by
  unfold parseV at h
  split at h
  · cases h; exact Or.inl rfl
  · split at h
    · cases h
    · exact Or.inr (textP_parts _ (Nat.le_refl _) h).2

theorem textN_ge : ∀ {L : List ByteArray}, namesB L = true → 10 * L.length ≤ (textN L).length
  | [], _ => by simp
  | s :: L, h => by
    obtain ⟨h1, h2⟩ := names_cons.1 h
    have := textN_ge h2
    have := nameA_pos h1
    rw [textN_cons, List.length_append, List.length_append, modL_len, List.length_cons]
    omega
theorem few_size {t : ByteArray} (h : t.size ≤ 140737488351232) : FewN t.data.toList := fun L r hn e => by
  have h1 := congrArg List.length e
  have h2 := textN_ge hn
  rw [List.length_append, list_size] at h1
  omega
theorem textN_count : ∀ {L : List ByteArray}, namesB L = true → (textN L).count 47 = 2 * L.length
  | [], _ => by simp [textN]
  | s :: L, h => by
    obtain ⟨h1, h2⟩ := names_cons.1 h
    have e1 : modL.count 47 = 2 := by decide
    have e2 : s.data.toList.count 47 = 0 := List.count_eq_zero.2 (nameA_no h1)
    rw [textN_cons, List.count_append, List.count_append, e1, e2, textN_count h2, List.length_cons]
    omega
theorem few_text {P : List ByteArray} (hp : P = [] ∨ namesB P = true) (hl : P.length * 16 ≤ 140737488355328) : FewN (textPa P).data.toList := fun L r hn e => by
  have h1 := congrArg (List.count 47) e
  rw [List.count_append, textN_count hn] at h1
  rcases Classical.em (P = []) with rfl | h0
  · have : (textPa []).data.toList.count 47 = 1 := by decide
    omega
  · have e2 : (textPa P).data.toList = textN P := by unfold textPa; rw [if_neg h0, if_pos (hp.resolve_left h0)]
    rw [e2, textN_count (hp.resolve_left h0)] at h1
    omega
theorem textN_take (L : List ByteArray) (k : Nat) : (textN (L.take k)).length ≤ (textN L).length := by
  have e : textN L = textN (L.take k) ++ textN (L.drop k) := by rw [← textN_app, List.take_append_drop]
  rw [e, List.length_append]
  omega
theorem few_take {t : ByteArray} (h : (parseV t.data.toList).isSome = true) {k : Nat} : (textN (((parseV t.data.toList).getD []).take k)).length ≤ t.size := by
  cases e : parseV t.data.toList with
  | none => rw [e] at h; cases h
  | some L =>
    show (textN (L.take k)).length ≤ _
    have h1 := textN_take L k
    have h2 := text_parse e
    rcases parse_names e with rfl | hn
    · simp [textN]
    · rcases Classical.em (L = []) with rfl | hL
      · simp [textN]
      · have : t.data.toList = textN L := by rw [← h2]; unfold textPa; rw [if_neg hL, if_pos hn]
        rw [← list_size, this]
        exact h1
theorem textPa_size {P : List ByteArray} (hp : P = [] ∨ namesB P = true) (hl : P.length * 16 ≤ 140737488355328) : (textPa P).size ≤ 9223372036854775000 := by
  rcases Classical.em (P = []) with rfl | h0
  · decide
  · have e2 : (textPa P).data.toList = textN P := by unfold textPa; rw [if_neg h0, if_pos (hp.resolve_left h0)]
    have := textN_len (hp.resolve_left h0)
    rw [← list_size, e2]
    omega
end Go.Proofs.YtogpkhpephhbiaaGreatDoor
namespace Go.Proofs.YtogpkhpephhbiaaGreatDoor
open Go.RowKit
set_option maxRecDepth 100000

/-- What makes a directory a package's: this file, behind its text. -/
def pkgS : ByteArray := ⟨#[47, 112, 97, 99, 107, 97, 103, 101]⟩
theorem pkgS_size : pkgS.size = 8 := rfl
/-- The text at which a lookup asks. -/
def odT (p : List ByteArray) (s : ByteArray) (k : Nat) : ByteArray := textPa (p.take k ++ [s])
/-- What is at its file. -/
def odK (D : DataW Unit) (p : List ByteArray) (s : ByteArray) (k : Nat) : Int := Dk.kindD D (odT p s k ++ pkgS)
/-- What a lookup finds from the first k names upwards. -/
def odN (D : DataW Unit) (p : List ByteArray) (s : ByteArray) : Nat → Option ByteArray
  | 0 => if odK D p s 0 = 1 then some (odT p s 0) else none
  | k + 1 => if odK D p s (k + 1) = 1 then some (odT p s (k + 1)) else odN D p s k
theorem od_hit {D : DataW Unit} {p : List ByteArray} {s : ByteArray} {k : Nat} (h : odK D p s k = 1) : odN D p s k = some (odT p s k) := by
  cases k with
  | zero => unfold odN; rw [if_pos h]
  | succ k => unfold odN; rw [if_pos h]
theorem od_miss {D : DataW Unit} {p : List ByteArray} {s : ByteArray} {k : Nat} (h : odK D p s (k + 1) ≠ 1) : odN D p s (k + 1) = odN D p s k := by
  rw [odN, if_neg h]
theorem od_end {D : DataW Unit} {p : List ByteArray} {s : ByteArray} (h : odK D p s 0 ≠ 1) : odN D p s 0 = none := by
  rw [odN, if_neg h]

theorem names_with {p : List ByteArray} {s : ByteArray} (hp : namesB p = true) (hs : Sc.nameA s.data.toList = true) (k : Nat) : namesB (p.take k ++ [s]) = true := by
  unfold namesB at *
  rw [List.all_append, Bool.and_eq_true, List.all_eq_true]
  refine ⟨fun x hx => ?_, by simpa using hs⟩
  rw [List.all_eq_true] at hp
  exact hp x (List.mem_of_mem_take hx)
theorem odT_eq {p : List ByteArray} {s : ByteArray} (hp : namesB p = true) (hs : Sc.nameA s.data.toList = true) (k : Nat) : odT p s k = textBA (p.take k ++ [s]) := by
  unfold odT textPa
  rw [if_neg (by simp), if_pos (names_with hp hs k)]
  rfl
theorem odT_size {p : List ByteArray} {s : ByteArray} (hp : namesB p = true) (hs : Sc.nameA s.data.toList = true) {k : Nat} (hk : k ≤ p.length) : 10 * (k + 1) ≤ (odT p s k).size := by
  rw [odT_eq hp hs, textBA_size]
  have := textN_ge (names_with hp hs k)
  rw [List.length_append, List.length_take, Nat.min_eq_left hk] at this
  exact this
theorem pkg_root (t : ByteArray) : ((t ++ pkgS).toList == [47]) = false := by
  rw [beq_eq_false_iff_ne]
  intro e
  have h := congrArg List.length e
  rw [ByteArray.toList_eq, list_size, app_size, pkgS_size] at h
  simp only [List.length_cons, List.length_nil] at h
  omega

/-- Keys are paths. -/
def KeysOk (D : DataW Unit) : Prop := ∀ kl, Maps.has D kl = true → ∃ s, kl = Dk.keyD s ∧ Dk.okPath s = true
theorem ok_short {s : ByteArray} (h : Dk.okPath s = true) : s.size ≤ 4096 := by
  unfold Dk.okPath Dk.pathB at h
  simp only [Bool.and_eq_true, Bool.or_eq_true, Bool.not_eq_true', decide_eq_true_eq] at h
  rcases h with ⟨h1 | h1, h2⟩
  · rw [h1] at h2
    cases h2
  · exact h1.1.1
theorem far_kind {D : DataW Unit} (hk : KeysOk D) {t : ByteArray} (h : 4096 < t.size) (hr : (t.toList == [47]) = false) : Dk.kindD D t = 0 := by
  refine Dk.kind_none hr ?_
  rw [Bool.eq_false_iff]
  intro hh
  obtain ⟨s, e, ho⟩ := hk _ hh
  have := ok_short ho
  rw [Dk.keyD_inj e] at h
  omega
theorem od_far {D : DataW Unit} (hk : KeysOk D) {p : List ByteArray} {s : ByteArray} (hp : namesB p = true) (hs : Sc.nameA s.data.toList = true) {k : Nat} (h1 : 409 ≤ k) (h2 : k ≤ p.length) : odK D p s k ≠ 1 := by
  have := odT_size hp hs h2
  unfold odK
  rw [far_kind hk (by rw [app_size, pkgS_size]; omega) (pkg_root _)]
  decide
theorem od_min {D : DataW Unit} (hk : KeysOk D) {p : List ByteArray} {s : ByteArray} (hp : namesB p = true) (hs : Sc.nameA s.data.toList = true) : odN D p s p.length = odN D p s (min p.length 409) := by
  have : ∀ n, n ≤ p.length → odN D p s n = odN D p s (min n 409) := by
    intro n
    induction n with
    | zero => intro _; rfl
    | succ n ih =>
      intro hn
      by_cases h : n + 1 ≤ 409
      · rw [Nat.min_eq_left h]
      · rw [od_miss (od_far hk hp hs (by omega) hn), ih (by omega), Nat.min_eq_right (by omega), Nat.min_eq_right (by omega)]
  exact this _ (Nat.le_refl _)

theorem app_at (t : ByteArray) (i : Nat) (hi : i < 8) : (t ++ pkgS).data[t.size + i]! = pkgS.data[i]! := by
  have h1 : (t ++ pkgS).data = t.data ++ pkgS.data := by
    refine Array.toList_inj.1 ?_
    rw [app_list, Array.toList_append]
  rw [h1]
  have hz : t.data.size = t.size := rfl
  have h8 : pkgS.data.size = 8 := rfl
  rw [getElem!_pos _ _ (by rw [Array.size_append]; omega), getElem!_pos _ _ (by omega), Array.getElem_append_right (by omega)]
  congr 1
  omega
theorem last_pkg (t : ByteArray) : Lib.lastIndexByte (t ++ pkgS) 47 = t.size := by
  have hz : (t ++ pkgS).size = t.size + 8 := by rw [app_size, pkgS_size]
  unfold Lib.lastIndexByte
  rcases Lib.lastIdx_spec (t ++ pkgS) 47 (t ++ pkgS).size with ⟨_, h⟩ | ⟨i, hi, h, h1, h2⟩
  · exfalso
    refine h (t.size + 0) (by omega) ?_
    rw [app_at t 0 (by decide)]
    rfl
  · rw [h]
    by_cases hlt : i < t.size
    · exfalso
      refine h2 (t.size + 0) (by omega) (by omega) ?_
      rw [app_at t 0 (by decide)]
      rfl
    · obtain ⟨j, rfl⟩ : ∃ j, i = t.size + j := ⟨i - t.size, by omega⟩
      have hj : j < 8 := by omega
      rw [app_at t j hj] at h1
      have : j = 0 := by
        have hall : ∀ j, j < 8 → ((pkgS.data[j]!).toNat : Int) = 47 → j = 0 := by decide
        exact hall j hj h1
      subst this
      rfl
theorem parent_pkg {t : ByteArray} (h : 0 < t.size) : Dk.parentOf (t ++ pkgS) = t := by
  unfold Dk.parentOf
  rw [last_pkg, if_neg (by omega)]
  refine bytes_same ?_
  rw [ByteArray.toList_eq, ByteArray.toList_eq]
  have : ((t.size : Int)).toNat = t.size := by omega
  rw [this, Sc.ba_extract, Sc.ba_list, List.drop_zero, app_list, ← list_size, List.take_left]
/-- What has a file is a directory. -/
theorem od_dir {D : DataW Unit} (hS : Dk.Sound D) {t : ByteArray} (h0 : 0 < t.size) (h : Dk.kindD D (t ++ pkgS) = 1) : Dk.kindD D t = 2 := by
  have hh : Maps.has D (Dk.keyD (t ++ pkgS)) = true := by
    cases hx : Maps.has D (Dk.keyD (t ++ pkgS)) with
    | true => rfl
    | false =>
      rw [Dk.kind_none (pkg_root t) hx] at h
      cases h
  have := hS _ hh
  rwa [parent_pkg h0] at this

/-- What a lookup on a disk finds. -/
def odV (D : DataW Unit) (t s : ByteArray) : Option ByteArray := match parseV t.data.toList with
  | some p => if Sc.nameA s.data.toList = true then odN D p s p.length else none
  | none => none
theorem odV_yes {D : DataW Unit} {t s : ByteArray} {p : List ByteArray} (h : parseV t.data.toList = some p) (hs : Sc.nameA s.data.toList = true) : odV D t s = odN D p s p.length := by
  unfold odV
  rw [h]
  simp [hs]
theorem odV_no {D : DataW Unit} {t s : ByteArray} (h : parseV t.data.toList = none ∨ Sc.nameA s.data.toList = false) : odV D t s = none := by
  unfold odV
  rcases h with h | h
  · rw [h]
  · cases parseV t.data.toList with
    | none => rfl
    | some p => simp [h]
/-- The answer. -/
def odA (r : Option ByteArray) : Value := .tuple #[.string (r.getD ⟨#[]⟩), .bool r.isSome]
end Go.Proofs.YtogpkhpephhbiaaGreatDoor
