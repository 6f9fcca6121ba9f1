/- Dd: pieces of DkF. -/
import Derived.Test.YtefcndfeemnglaaDoorDd6
namespace Go.Proofs.YtefcndfeemnglaaDoor.Dk
open Go.ChangeShapes Go.WideShapes Go.ChangeAt Go.RowKit Go.ChangeMaps
set_option maxRecDepth 100000