/- The walks of split and isPath over the shelf's contracts of strings.LastIndexByte, HasPrefix and Split: what they answer is said by plain functions. split: of a text that holds a slash; isPath: of any text, where the library's variable MaxLen holds a number. -/
import Derived.Test.YtpkllhgohkgcmaaGreatDoorWalk1
import Derived.Test.YtpkllhgohkgcmaaGreatDoorShelf
namespace Go.Proofs.YtpkllhgohkgcmaaGreatDoor
open Go.RowKit

/-- The byte of a slash, as a text. -/
def slash : ByteArray := ⟨#[47]⟩

/-- The parent of a path, and its last part. -/
def parentOf (s : ByteArray) : ByteArray := if Lib.lastIndexByte s 47 = 0 then ⟨#[47]⟩ else s.extract 0 (Lib.lastIndexByte s 47).toNat
def nameOf (s : ByteArray) : ByteArray := s.extract ((Lib.lastIndexByte s 47).toNat + 1) s.size

theorem last_lt (s : ByteArray) : Lib.lastIndexByte s 47 < s.size ∨ Lib.lastIndexByte s 47 = -1 := by
  rcases Lib.lastIdx_spec s 47 s.size with ⟨h, _⟩ | ⟨i, hi, h, _⟩
  · exact Or.inr h
  · refine Or.inl ?_
    unfold Lib.lastIndexByte; rw [h]; omega

set_option maxHeartbeats 400000 in
theorem split_zero (s : ByteArray) (w : World) (hs : s.size ≤ 4096) (h1 : 1 ≤ s.size) (hi : Lib.lastIndexByte s 47 = 0) :
    Calls Tryz.prog 53 #[.string s] w fun e w' => e = .returned (.tuple #[.string ⟨#[47]⟩, .string (s.extract 1 s.size)]) ∧ w' = w.drew := by
  have HI : Hid (Lib.lastIndexByte s 47 = 0) := hi
  clear hi
  go_enter Tryz.func53, Tryz.ntmps53
  go_wp2_with (go_at_call 69; refine (Tryz.strings_LastIndexByte _ _ (by omega) _).mono ?_; rintro e w' ⟨rfl, rfl⟩; rw [HI.out])
  go_region
  go_wp2
  go_ret2
  exact ⟨rfl, rfl⟩

set_option maxHeartbeats 400000 in
theorem split_pos (s : ByteArray) (i : Nat) (w : World) (hs : s.size ≤ 4096) (h0 : 0 < i) (h1 : i < s.size) (hi : Lib.lastIndexByte s 47 = i) :
    Calls Tryz.prog 53 #[.string s] w fun e w' => e = .returned (.tuple #[.string (s.extract 0 i), .string (s.extract (i + 1) s.size)]) ∧ w' = w.drew := by
  have HI : Hid (Lib.lastIndexByte s 47 = i) := hi
  clear hi
  have hb : ((i : Int) == 0) = false := beq_eq_false_iff_ne.2 (by omega)
  go_enter Tryz.func53, Tryz.ntmps53
  go_wp2_with (go_at_call 69; refine (Tryz.strings_LastIndexByte _ _ (by omega) _).mono ?_; rintro e w' ⟨rfl, rfl⟩; rw [HI.out])
  go_region
  go_wp2
  go_ret2
  exact ⟨rfl, rfl⟩

theorem split_any (s : ByteArray) (w : World) (hs : s.size ≤ 4096) (hi : 0 ≤ Lib.lastIndexByte s 47) :
    Calls Tryz.prog 53 #[.string s] w fun e w' => e = .returned (.tuple #[.string (parentOf s), .string (nameOf s)]) ∧ w' = w.drew := by
  have hl := last_lt s
  by_cases h : Lib.lastIndexByte s 47 = 0
  · have := split_zero s w hs (by omega) h
    unfold parentOf nameOf
    rw [if_pos h, h]
    exact this
  · have := split_pos s (Lib.lastIndexByte s 47).toNat w hs (by omega) (by omega) (by omega)
    unfold parentOf nameOf
    rw [if_neg h]
    exact this

/-- Is a text a path? -/
def pathB (s : ByteArray) : Bool := s.toList == [47] || (decide (s.size ≤ 4096) && Lib.hasPrefix s.data.toList [47] && (Lib.splitB slash 0 (Lib.countB (s.extract 1 s.size) slash) (s.extract 1 s.size)).all fun p => partB p.data.toList)

theorem size_pieces (sep : ByteArray) (B : Nat) : ∀ (k : Nat) (s : ByteArray), s.size ≤ B → ∀ p ∈ Lib.splitB sep 0 k s, p.size ≤ B
  | 0, s, h, p, hp => by
    rw [Lib.splitB_zero] at hp
    simp only [List.mem_singleton] at hp
    subst hp; exact h
  | k + 1, s, h, p, hp => by
    unfold Lib.splitB at hp
    split at hp
    · simp only [List.mem_singleton] at hp
      subst hp; exact h
    · rcases List.mem_cons.1 hp with rfl | hp
      · simp only [ByteArray.size_extract]; omega
      · exact size_pieces sep B k _ (by simp only [ByteArray.size_extract]; omega) p hp

theorem all_get' {α : Type} {p : α → Bool} {l : List α} (h : ∀ i (hi : i < l.length), p l[i] = true) : l.all p = true := by
  rw [List.all_eq_true]
  intro x hx
  obtain ⟨i, hi, rfl⟩ := List.getElem_of_mem hx
  exact h i hi

theorem all_not' {α : Type} {p : α → Bool} {l : List α} (i : Nat) (hi : i < l.length) (h : p l[i] = false) : l.all p = false := by
  rw [Bool.eq_false_iff]
  intro ha
  rw [List.all_eq_true] at ha
  have := ha _ (List.getElem_mem hi)
  rw [h] at this
  cases this

/-- The loop over the parts, once the text is split. -/
def partsOk (L : List ByteArray) : Bool := L.all fun p => partB p.data.toList

theorem cell_piece (w : World) (L : List ByteArray) (t : TypeId) (k : Nat) (hk : k < L.length) : (w.alloc (.cells (L.map Value.string).toArray t)).cell? ⟨w.heap.size, k, none⟩ = some (.string L[k]) := by
  rw [World.cell?_alloc_new]; simp [hk]

set_option maxHeartbeats 400000 in
theorem isPath_any (s : ByteArray) (m : Int) (w : World) (hm : w.cell? ⟨0, 0, none⟩ = some (.int .i64 m)) :
    Calls Tryz.prog 52 #[.string s] w fun e w' => e = .returned (.bool (pathB s)) ∧ Below w.heap.size w w' := by
  by_cases h1 : (s.toList == [47]) = true
  · have HP : Hid (pathB s = true) := by unfold Hid pathB; rw [h1]; rfl
    go_enter Tryz.func52, Tryz.ntmps52
    go_wp2
    go_ret
    exact ⟨ret_bool HP.out.symm, Below.refl _ _⟩
  rw [Bool.not_eq_true] at h1
  by_cases h2 : 4096 < s.size
  · have HP : Hid (pathB s = false) := by
      have : decide (s.size ≤ 4096) = false := by simp; omega
      unfold Hid pathB; rw [h1, this]; rfl
    go_enter Tryz.func52, Tryz.ntmps52
    go_wp2
    go_ret
    exact ⟨ret_bool HP.out.symm, Below.refl _ _⟩
  have b2 : decide (4096 < (s.size : Int)) = false := by simp; omega
  have i2 : s.size ≤ 4096 := by omega
  clear h2
  by_cases h3 : Lib.hasPrefix s.data.toList [47] = true
  · have hsp := Tryz.strings_Split (s.extract 1 s.size) slash m w (by simp only [ByteArray.size_extract]; omega) hm (by decide)
    have hlen := Lib.splitB_all slash (by decide) 0 _ (s.extract 1 s.size) rfl
    have hsz := size_pieces slash 4096 (Lib.countB (s.extract 1 s.size) slash) (s.extract 1 s.size) (by simp only [ByteArray.size_extract]; omega)
    have h11 : 1 ≤ s.size := by
      rcases Nat.eq_zero_or_pos s.size with h | h
      · exfalso
        have : s.data.toList = [] := List.eq_nil_of_length_eq_zero (by rw [size_list]; exact h)
        rw [this] at h3; exact absurd h3 (by decide)
      · exact h
    have HP : Hid (pathB s = partsOk (Lib.splitB slash 0 (Lib.countB (s.extract 1 s.size) slash) (s.extract 1 s.size))) := by
      have : decide (s.size ≤ 4096) = true := by simp; omega
      unfold Hid pathB partsOk; rw [h1, h3, this]; rfl
    rw [← hlen] at hsp
    generalize Lib.splitB slash 0 (Lib.countB (s.extract 1 s.size) slash) (s.extract 1 s.size) = L at *
    have hL : L.length ≤ 4097 := by
      rw [hlen]
      have := Lib.countB_le slash (by decide) _ (s.extract 1 s.size) (Nat.le_refl _)
      simp only [ByteArray.size_extract] at this; omega
    have HS : Hid (∀ p ∈ L, p.size ≤ 4096) := hsz
    clear hsz hlen
    have hsp2 : Calls Tryz.prog 67 #[.string (s.extract 1 s.size), .string ⟨#[47]⟩] w fun e w' => e = .returned (.slice (some ⟨w.heap.size, 0, none⟩) L.length L.length) ∧ w' = w.alloc (.cells (L.map Value.string).toArray 9) := hsp
    clear hsp
    go_enter Tryz.func52, Tryz.ntmps52
    go_wp2_with (first
      | (go_at_call 66; refine (Tryz.strings_HasPrefix _ _ _).mono ?_; rintro e w' ⟨rfl, rfl⟩)
      | (go_at_call 67; refine hsp2.mono ?_; rintro e w' ⟨rfl, rfl⟩))
    go_loop [19] (fun i => ∃ k : Nat, k ≤ L.length ∧ i = .int .i64 k ∧ ∀ j (hj : j < k) (hj' : j < L.length), partB L[j].data.toList = true) (fun i => L.length - (intOf i).toNat)
    case atStart => exact ⟨0, Nat.zero_le _, rfl, fun j hj => absurd hj (Nat.not_lt_zero _)⟩
    case round =>
      obtain ⟨k, hk, rfl, hall⟩ := hrel
      have HA : Hid (∀ j (hj : j < k) (hj' : j < L.length), partB L[j].data.toList = true) := hall
      clear hall
      by_cases hlt : k < L.length
      · have hsk : L[k].size ≤ maxLen := by
          have := HS.out _ (List.getElem_mem hlt)
          unfold maxLen; omega
        have HK : Hid (L[k].size ≤ maxLen) := hsk
        clear hsk
        obtain ⟨P, hP⟩ : ∃ P, P = L[k] := ⟨_, rfl⟩
        have hc := cell_piece w' L 9 k hlt
        rw [← hP] at hc HK
        have HPe : Hid (P = L[k]) := hP
        clear hP
        by_cases hb : partB P.data.toList = true
        · go_wp2_with (go_at_call 68; refine (isPart_any _ _ HK.out).mono ?_; rintro e w' ⟨rfl, rfl⟩)
          refine ⟨⟨k + 1, by omega, by go_num, fun j hj hj' => ?_⟩, by simp [intOf]; omega⟩
          by_cases e : j = k
          · subst e; rw [← HPe.out]; exact hb
          · exact HA.out j (by omega) hj'
        · rw [Bool.not_eq_true] at hb
          go_wp2_with (go_at_call 68; refine (isPart_any _ _ HK.out).mono ?_; rintro e w' ⟨rfl, rfl⟩)
          go_ret
          exact ⟨ret_bool (by rw [HP.out]; unfold partsOk; rw [all_not' k hlt (by rw [← HPe.out]; exact hb)]), (Below.refl _ _).alloc (Nat.le_refl _) _⟩
      · go_wp2
        go_ret
        exact ⟨ret_bool (by rw [HP.out]; unfold partsOk; rw [all_get' (fun j hj => HA.out j (by omega) hj)]), (Below.refl _ _).alloc (Nat.le_refl _) _⟩
  rw [Bool.not_eq_true] at h3
  have HP : Hid (pathB s = false) := by unfold Hid pathB; rw [h1, h3]; simp
  go_enter Tryz.func52, Tryz.ntmps52
  go_wp2_with (go_at_call 66; refine (Tryz.strings_HasPrefix _ _ _).mono ?_; rintro e w' ⟨rfl, rfl⟩)
  go_ret
  exact ⟨ret_bool HP.out.symm, Below.refl _ _⟩

end Go.Proofs.YtpkllhgohkgcmaaGreatDoor
