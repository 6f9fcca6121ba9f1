/- The document's isWord, split, line, Lines. -/
import Derived.Test.YtefcndfeemnglaaGreatDoorScLi2
import Derived.Test.YtefcndfeemnglaaGreatDoorScNm2
namespace Go.Proofs.YtefcndfeemnglaaGreatDoor.Sc
open Go.RowKit
set_option maxRecDepth 100000

theorem wB_of {b : UInt8} (h : wB b = true) : 33 ≤ b.toNat ∧ b.toNat ≤ 126 := by simpa [wB] using h
theorem wB_no {b : UInt8} (h : wB b = false) : b.toNat < 33 ∨ 126 < b.toNat := by
  simp [wB] at h
  omega