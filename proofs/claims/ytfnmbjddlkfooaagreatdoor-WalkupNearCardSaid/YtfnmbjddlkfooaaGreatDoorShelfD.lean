/- Nothing: this program has no such call. -/
import Derived.Test.YtfnmbjddlkfooaaGreatDoorProg
import Derived.Lib.Bytealg
namespace Go.Proofs.YtfnmbjddlkfooaaGreatDoor
end Go.Proofs.YtfnmbjddlkfooaaGreatDoor
