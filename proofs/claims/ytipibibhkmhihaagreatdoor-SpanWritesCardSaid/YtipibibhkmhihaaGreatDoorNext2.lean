/- The walk of VersNext: of any three versions it answers true, where Print answers with their texts. -/
import Derived.Test.YtipibibhkmhihaaGreatDoorNext1
import Derived.Test.YtipibibhkmhihaaGreatDoorBoxes
import Derived.Test.YtipibibhkmhihaaGreatDoorFacts2
namespace Go.Proofs.YtipibibhkmhihaaGreatDoor
open Go.RowKit
set_option maxRecDepth 100000

end Go.Proofs.YtipibibhkmhihaaGreatDoor
