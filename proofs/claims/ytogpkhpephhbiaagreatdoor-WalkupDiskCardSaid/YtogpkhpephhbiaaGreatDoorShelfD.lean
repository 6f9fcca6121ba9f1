/- Nothing of the library is laid here. No condition. -/
import Derived.Test.YtogpkhpephhbiaaGreatDoorProg
import Derived.Lib.Bytealg
namespace Go.Proofs.YtogpkhpephhbiaaGreatDoor
end Go.Proofs.YtogpkhpephhbiaaGreatDoor
