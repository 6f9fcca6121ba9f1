/- The document's text and Print of package halyardref17. Conditions: sizes. -/
import Derived.Test.YtefcndfeemnglaaGreatDoorPy4
namespace Go.Proofs.YtefcndfeemnglaaGreatDoor
open Go.RowKit Dk
set_option maxRecDepth 100000

def sp1 : ByteArray := ⟨#[32]⟩
def nl1 : ByteArray := ⟨#[10]⟩
/-- A deed's line. -/
def lineD (d : De) (acc : ByteArray) : ByteArray := (if (d.kd == 4) = true then acc ++ wordP d.kd ++ sp1 ++ d.pa ++ sp1 ++ hexT d.da else acc ++ wordP d.kd ++ sp1 ++ d.pa) ++ nl1
/-- A plan's text. -/
def textD (l : List De) : ByteArray := l.foldl (fun acc d => lineD d acc) ⟨#[112, 108, 97, 110, 10]⟩
theorem textD_snoc (l : List De) (d : De) : textD (l ++ [d]) = lineD d (textD l) := by unfold textD; rw [List.foldl_append]; rfl

theorem by_app (x y : ByteArray) : (x ++ y).size = x.size + y.size := ByteArray.size_append
theorem lineD_le (d : De) (acc : ByteArray) : acc.size ≤ (lineD d acc).size := by
  unfold lineD
  split <;> simp only [by_app] <;> omega
theorem foldD_le : ∀ (l : List De) (acc : ByteArray), acc.size ≤ (l.foldl (fun acc d => lineD d acc) acc).size
  | [], _ => Nat.le_refl _
  | d :: l, acc => Nat.le_trans (lineD_le d acc) (foldD_le l (lineD d acc))
theorem textD_take (l : List De) (k : Nat) : (textD (l.take k)).size ≤ (textD l).size := by
  conv => rhs; rw [← List.take_append_drop k l]
  unfold textD
  rw [List.foldl_append]
  exact foldD_le _ _

end Go.Proofs.YtefcndfeemnglaaGreatDoor
