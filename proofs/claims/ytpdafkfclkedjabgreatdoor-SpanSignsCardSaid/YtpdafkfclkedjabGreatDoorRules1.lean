/- The walk of SpanRules. -/
import Derived.Test.YtpdafkfclkedjabGreatDoorPoints2
namespace Go.Proofs.YtpdafkfclkedjabGreatDoor
open Go.RowKit
set_option maxRecDepth 100000

/-- A call that answers with an empty list and no error. -/
def NilSp (f : Nat) (va vb : Value) (w : World) : Prop := Calls Tryz.prog f #[va, vb] w fun e w' => ∃ ad cap, e = .returned (.tuple #[.slice ad 0 cap, .int .i64 0]) ∧ SpansR w' (.slice ad 0 cap) [] ∧ Below w.heap.size w w'
def OneSp (f : Nat) (args : Array Value) (w : World) (X : Rg) : Prop := Calls Tryz.prog f args w fun e w' => ∃ v, e = .returned v ∧ SpansR w' v X ∧ Below w.heap.size w w'

end Go.Proofs.YtpdafkfclkedjabGreatDoor
