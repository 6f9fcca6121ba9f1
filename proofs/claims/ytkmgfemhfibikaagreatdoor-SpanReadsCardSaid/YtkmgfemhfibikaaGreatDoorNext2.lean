/- The walk of VersNext: of any three versions it answers true, where Print answers with their texts. -/
import Derived.Test.YtkmgfemhfibikaaGreatDoorNext1
import Derived.Test.YtkmgfemhfibikaaGreatDoorBoxes
import Derived.Test.YtkmgfemhfibikaaGreatDoorFacts2
namespace Go.Proofs.YtkmgfemhfibikaaGreatDoor
open Go.RowKit
set_option maxRecDepth 100000

end Go.Proofs.YtkmgfemhfibikaaGreatDoor
