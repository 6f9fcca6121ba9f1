/- Empty. -/
import Derived.Test.YtmnhnofnlcbliaaGreatDoorShelfB
namespace Go.Proofs.YtmnhnofnlcbliaaGreatDoor
end Go.Proofs.YtmnhnofnlcbliaaGreatDoor
