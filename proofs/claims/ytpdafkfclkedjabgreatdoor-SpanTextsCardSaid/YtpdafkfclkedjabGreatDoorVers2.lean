/- The walk of the document's Compare: it answers as the plain function. No condition. -/
import Derived.Test.YtpdafkfclkedjabGreatDoorVers1
import Derived.Handy
import Derived.Deep.QuietTactic
import Derived.BigQuiet
namespace Go.Proofs.YtpdafkfclkedjabGreatDoor
open Go.RowKit
set_option maxRecDepth 100000

theorem below_draws {B : Nat} {a w : World} (h : Below B a w) (n : Nat) : Below B a (w.drewN n) := ⟨h.os, h.tape, h.output, h.size, h.block⟩

set_option maxHeartbeats 1600000 in
theorem rCompare_any (a b c x y z : Int) (w : World) :
    Calls Tryz.prog 9 #[.agg #[.int .i64 a, .int .i64 b, .int .i64 c], .agg #[.int .i64 x, .int .i64 y, .int .i64 z]] w fun e w' => e = .returned (.int .i64 (cmpV a b c x y z)) ∧ Below w.heap.size w w' := by
  go_enter Tryz.func9, Tryz.ntmps9
  go_wp2
  refine wp_loop_rounds 4 ?_
  repeat any_goals (first | (rw [rounds_succ]; go_wp2_with fail) | (go_quiet (fail); go_wp2_with fail))
  all_goals
    go_ret
    refine ⟨ret_int (by unfold cmpV; grind), ?_⟩
    repeat' (with_reducible refine below_draws ?_ _)
    go_grown
end Go.Proofs.YtpdafkfclkedjabGreatDoor
