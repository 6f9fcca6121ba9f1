/- Nothing is laid here: this program has no parser. -/
import Derived.Test.YthlipnnlgkmhcaaGreatDoorProg
namespace Go.Proofs
end Go.Proofs
