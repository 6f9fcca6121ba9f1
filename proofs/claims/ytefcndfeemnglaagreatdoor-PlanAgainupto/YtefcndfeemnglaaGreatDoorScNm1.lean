/- Name of both packages. -/
import Derived.Test.YtefcndfeemnglaaGreatDoorScLi1
namespace Go.Proofs.YtefcndfeemnglaaGreatDoor.Sc
open Go.RowKit
set_option maxRecDepth 100000

def ltB (b : UInt8) : Bool := decide (97 ≤ b.toNat) && decide (b.toNat ≤ 122)
def dgB (b : UInt8) : Bool := decide (48 ≤ b.toNat) && decide (b.toNat ≤ 57)
def nmB (b : UInt8) : Bool := ltB b || dgB b || decide (b.toNat = 45)
/-- A name. -/
def nameR : Bs → Bool
  | [] => false
  | b :: r => ltB b && r.all nmB && decide (r.length < 16)