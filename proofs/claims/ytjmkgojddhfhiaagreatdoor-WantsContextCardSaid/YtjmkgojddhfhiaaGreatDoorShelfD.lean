/- Nothing of the library is wanted here. -/
import Derived.Test.YtjmkgojddhfhiaaGreatDoorProg
namespace Go.Proofs.YtjmkgojddhfhiaaGreatDoor
end Go.Proofs.YtjmkgojddhfhiaaGreatDoor
