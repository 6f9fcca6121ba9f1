/- Name of both packages: the walks. -/
import Derived.Test.YtefcndfeemnglaaGreatDoorScNm1
namespace Go.Proofs.YtefcndfeemnglaaGreatDoor.Sc
open Go.RowKit
set_option maxRecDepth 100000

def headB : Bs → Bool
  | [] => false
  | b :: _ => ltB b
/-- A name. -/
def nameA (t : Bs) : Bool := headB t && t.all nmB && decide (t.length ≤ 16)
theorem empty_is {p : ByteArray} : p.toList.isEmpty = p.data.toList.isEmpty := by rw [ByteArray.toList_eq]
theorem nameA_empty {t : Bs} (h : t.isEmpty = true) : nameA t = false := by cases t <;> simp_all [nameA, headB]
theorem head_at {s : ByteArray} (h : 0 < s.size) : headB s.data.toList = ltB s[0] := by
  have : s.data.toList = s[0] :: s.data.toList.drop 1 := by
    have := List.drop_eq_getElem_cons (l := s.data.toList) (i := 0) (by rw [list_size]; exact h)
    rw [List.drop_zero] at this
    exact this
  rw [this]
  rfl
theorem size_pos {s : ByteArray} (h : s.toList.isEmpty = false) : 0 < s.size := by
  rw [empty_is] at h
  rw [← list_size]
  cases hs : s.data.toList with
  | nil => rw [hs] at h; cases h
  | cons _ _ => simp
theorem all_bad {s : ByteArray} {k : Nat} (hk : k < s.size) {f : UInt8 → Bool} (h : f s[k] = false) : s.data.toList.all f = false := by
  rw [Bool.eq_false_iff]
  intro ha
  rw [List.all_eq_true] at ha
  have := ha s[k] (List.getElem_mem (l := s.data.toList) (n := k) (by rw [list_size]; exact hk))
  rw [h] at this; cases this
theorem all_more {s : ByteArray} {k : Nat} (hk : k < s.size) {f : UInt8 → Bool} (h : (s.data.toList.take k).all f = true) (hb : f s[k] = true) : (s.data.toList.take (k + 1)).all f = true := by
  rw [List.take_succ_eq_append_getElem (by rw [list_size]; exact hk), List.all_append, h]
  simp only [List.all_cons, List.all_nil, Bool.and_true, Bool.true_and]
  exact hb
theorem all_end {s : ByteArray} {f : UInt8 → Bool} (h : (s.data.toList.take s.size).all f = true) : s.data.toList.all f = true := by
  rw [List.take_of_length_le (by rw [list_size]; exact Nat.le_refl _)] at h
  exact h