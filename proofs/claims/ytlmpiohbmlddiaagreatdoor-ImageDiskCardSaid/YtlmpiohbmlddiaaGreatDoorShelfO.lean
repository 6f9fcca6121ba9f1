/- x -/
import Derived.Test.YtlmpiohbmlddiaaGreatDoorShelfB
namespace Go.Proofs.YtlmpiohbmlddiaaGreatDoor
end Go.Proofs.YtlmpiohbmlddiaaGreatDoor
