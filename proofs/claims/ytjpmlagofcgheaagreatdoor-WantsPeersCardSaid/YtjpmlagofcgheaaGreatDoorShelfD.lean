/- The library. -/
import Derived.Test.YtjpmlagofcgheaaGreatDoorProg
namespace Go.Proofs.YtjpmlagofcgheaaGreatDoor
end Go.Proofs.YtjpmlagofcgheaaGreatDoor
