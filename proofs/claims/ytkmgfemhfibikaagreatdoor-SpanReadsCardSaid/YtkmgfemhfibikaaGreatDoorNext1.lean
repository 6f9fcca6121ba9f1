/- The walk of VersNext: of any three versions it answers true, where Print answers with their texts. -/
import Derived.Test.YtkmgfemhfibikaaGreatDoorTab1
import Derived.Test.YtkmgfemhfibikaaGreatDoorBoxes
import Derived.Test.YtkmgfemhfibikaaGreatDoorFacts2
namespace Go.Proofs.YtkmgfemhfibikaaGreatDoor
open Go.RowKit
set_option maxRecDepth 100000

/-- A call whose contract asks that nothing old has turned. -/
theorem lift_on {P : Program} {f : Nat} {args : Array Value} {R : Ending} {w : World} (h : ∀ w1, Below w.heap.size w w1 → Calls P f args w1 fun e w' => e = R ∧ Below w1.heap.size w1 w') {bs : List Bx} (w1 : World) (ok : OKs w bs w1) :
    Calls P f args w1 fun e w' => e = R ∧ OKs w bs w' := by
  refine (h w1 ok.1).mono ?_
  rintro e w' ⟨rfl, hb⟩
  exact ⟨rfl, ok.below hb⟩

end Go.Proofs.YtkmgfemhfibikaaGreatDoor
