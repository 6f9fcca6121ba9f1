/- Nothing of the library is laid here. -/
import Derived.Test.YtcclfaioicklaaaGreatDoorProg
import Derived.Lib.Bytealg
namespace Go.Proofs.YtcclfaioicklaaaGreatDoor
end Go.Proofs.YtcclfaioicklaaaGreatDoor
