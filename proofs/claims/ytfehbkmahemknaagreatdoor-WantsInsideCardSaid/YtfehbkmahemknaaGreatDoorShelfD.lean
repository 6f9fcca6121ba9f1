/- Nothing of this kind in this program. -/
import Derived.Test.YtfehbkmahemknaaGreatDoorProg
namespace Go.Proofs.YtfehbkmahemknaaGreatDoor
end Go.Proofs.YtfehbkmahemknaaGreatDoor
