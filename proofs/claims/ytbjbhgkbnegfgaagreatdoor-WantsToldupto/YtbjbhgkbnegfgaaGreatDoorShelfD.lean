/- Nothing. -/
import Derived.Test.YtbjbhgkbnegfgaaGreatDoorProg
namespace Go.Proofs.YtbjbhgkbnegfgaaGreatDoor
end Go.Proofs.YtbjbhgkbnegfgaaGreatDoor
