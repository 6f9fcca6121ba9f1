/- The walk of SpanPoints. -/
import Derived.Test.YtpdafkfclkedjabGreatDoorKn2
namespace Go.Proofs.YtpdafkfclkedjabGreatDoor
open Go.RowKit
set_option maxRecDepth 100000

theorem keepSpR (v : Value) (A : Rg) : KeepP fun w1 => SpansR w1 v A := fun _ _ h hb => h.below hb
/-- A call that answers with a pair, of which the first is a new list. -/
def NewSp (f : Nat) (va vb : Value) (w : World) (er : Int) (X : Rg) : Prop := Calls Tryz.prog f #[va, vb] w fun e w' => ∃ v, e = .returned (.tuple #[v, .int .i64 er]) ∧ SpansR w' v X ∧ Below w.heap.size w w'
def Says (f : Nat) (args : Array Value) (w : World) (b : Bool) : Prop := Calls Tryz.prog f args w fun e w' => e = .returned (.bool b) ∧ Below w.heap.size w w'

end Go.Proofs.YtpdafkfclkedjabGreatDoor
