/- Nothing of the parser. -/
import Derived.Test.YtpfemjlhklnfoaaGreatDoorProg
namespace Go.Proofs
end Go.Proofs
