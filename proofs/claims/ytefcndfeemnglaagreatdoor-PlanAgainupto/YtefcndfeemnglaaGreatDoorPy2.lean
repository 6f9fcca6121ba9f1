/- The document's part, path, begins, pair of package halyardref17: each answers as the plain function. Conditions: sizes. The document's path of package halyardref17: okPath. Conditions: sizes. -/
import Derived.Test.YtefcndfeemnglaaGreatDoorDx5b
import Derived.Deep.Light
namespace Go.Proofs.YtefcndfeemnglaaGreatDoor
open Go.RowKit Dk
set_option maxRecDepth 100000

/-- begins. -/
def begB (s t : ByteArray) : Bool := decide (t.size ≤ s.size) && (s.extract 0 t.size).toList == t.toList

/-- May two deeds have one path? -/
def pairB (a b : Int) : Bool := (a == 1 && b == 3) || (a == 2 && b == 4)

theorem path_rest {s : ByteArray} (h1 : 1 ≤ s.size) (h2 : s.size ≤ 4096) : okPath s = ((s[0] == 47) && restOk [] (s.data.toList.drop 1)) := by
  have hhd : s.data.toList.head? = some s[0] := by
    rw [List.head?_eq_getElem?, List.getElem?_eq_getElem (by rw [size_list]; exact h1)]; rfl
  rw [okPath_rest, hhd, decide_eq_true h2]
  by_cases h : 2 ≤ s.size
  · rw [decide_eq_true h]; simp
  · rw [decide_eq_false h]
    have : s.data.toList.drop 1 = [] := List.drop_eq_nil_of_le (by rw [size_list]; omega)
    rw [this, restOk_nil]
    have hp : partB [] = false := rfl
    rw [hp]; simp

end Go.Proofs.YtefcndfeemnglaaGreatDoor
