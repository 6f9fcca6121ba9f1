/- Empty. -/
import Derived.Test.YtbhpfedjilkelaaGreatDoorProg
namespace Go.Proofs.YtbhpfedjilkelaaGreatDoor
end Go.Proofs.YtbhpfedjilkelaaGreatDoor
