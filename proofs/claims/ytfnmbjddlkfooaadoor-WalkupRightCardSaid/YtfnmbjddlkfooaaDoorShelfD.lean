/- Nothing: this program has no such call. -/
import Derived.Test.YtfnmbjddlkfooaaDoorProg
import Derived.Lib.Bytealg
namespace Go.Proofs.YtfnmbjddlkfooaaDoor
end Go.Proofs.YtfnmbjddlkfooaaDoor
