/- WantsOverrides, the second form: of any arguments of bulk at most 1048576 it answers true, and each argument reads as it read before (the tied card). Conditions: the row's own. -/
import Derived.Test.YtbjbhgkbnegfgaaGreatDoorMg32
namespace Go.Proofs.YtbjbhgkbnegfgaaGreatDoor
open Go.ChangeShapes Go.WideShapes Go.ChangeAt Go.RowKit Go.ChangeMaps
set_option maxRecDepth 100000

end Go.Proofs.YtbjbhgkbnegfgaaGreatDoor
