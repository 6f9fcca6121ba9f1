/- The walk of VersNext: of any three versions it answers true, where Print answers with their texts. -/
import Derived.Test.YtpdafkfclkedjaaGreatDoorNext1
import Derived.Test.YtpdafkfclkedjaaGreatDoorBoxes
import Derived.Test.YtpdafkfclkedjaaGreatDoorFacts2
namespace Go.Proofs.YtpdafkfclkedjaaGreatDoor
open Go.RowKit
set_option maxRecDepth 100000

end Go.Proofs.YtpdafkfclkedjaaGreatDoor
