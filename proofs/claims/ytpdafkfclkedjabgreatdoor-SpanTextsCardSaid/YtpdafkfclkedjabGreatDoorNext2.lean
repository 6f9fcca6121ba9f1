/- The walk of VersNext: of any three versions it answers true, where Print answers with their texts. -/
import Derived.Test.YtpdafkfclkedjabGreatDoorNext1
import Derived.Test.YtpdafkfclkedjabGreatDoorBoxes
import Derived.Test.YtpdafkfclkedjabGreatDoorFacts2
namespace Go.Proofs.YtpdafkfclkedjabGreatDoor
open Go.RowKit
set_option maxRecDepth 100000

end Go.Proofs.YtpdafkfclkedjabGreatDoor
