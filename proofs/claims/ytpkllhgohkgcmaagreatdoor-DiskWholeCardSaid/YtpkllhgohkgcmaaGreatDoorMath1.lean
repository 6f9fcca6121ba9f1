/- Plain functions on bytes: what a part of a path, a path, its parent and its last part are. No condition. -/
import Derived.WalkKit
namespace Go.Proofs.YtpkllhgohkgcmaaGreatDoor
open Go.RowKit

/-- May a byte stand in a part of a path? -/
def partByteB (b : UInt8) : Bool := (decide (97 ≤ b.toNat) && decide (b.toNat ≤ 122)) || (decide (48 ≤ b.toNat) && decide (b.toNat ≤ 57)) || b.toNat == 46 || b.toNat == 45

/-- May a text be a part of a path? -/
def partB (l : List UInt8) : Bool := !(l.length == 0) && decide (l.length ≤ 24) && !(l == [46]) && !(l == [46, 46]) && l.all partByteB

end Go.Proofs.YtpkllhgohkgcmaaGreatDoor
