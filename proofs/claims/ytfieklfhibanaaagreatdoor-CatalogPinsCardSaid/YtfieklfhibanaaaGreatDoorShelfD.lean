/- x -/
import Derived.Test.YtfieklfhibanaaaGreatDoorProg
namespace Go.Proofs
end Go.Proofs
