/- NearProofB, laid in one text. -/
import Derived.Test.YtfnmbjddlkfooaaGreatDoorMg22
namespace Go.Proofs.YtfnmbjddlkfooaaGreatDoor
open Go.ChangeShapes Go.WideShapes Go.ChangeAt Go.RowKit
open Go.ChangeMaps (open_string shut_string)
set_option maxRecDepth 100000

set_option maxHeartbeats 20000000 in
theorem walkupNear_closed : joinedFacts Tryz.prog 4 Tryz.f4 Rows.walkupNearSpec Rows.walkupNearRow = true := by
  unfold joinedFacts
  repeat' with_reducible refine Bool.and_eq_true_iff.2 ⟨?_, ?_⟩
  all_goals as_aux_lemma => kernel_rfl

theorem walkupNear_said : Rows.WalkupNearSaid :=
  OpenClaim.holds_of_wide 4 Tryz.f4 rfl rfl rfl rfl rfl rfl rfl ⟨rfl, rfl, rfl, rfl, rfl⟩ rfl rfl rfl rfl rfl (by kernel_rfl) Tryz.func4 walkupNear_closed
    (of_decide_eq_true (by kernel_rfl)) (by unfold Func.isWrapper; first | (rw [if_pos (by decide +kernel)]; kernel_rfl) | (rw [if_neg (by decide +kernel)]; exact ⟨rfl, rfl⟩))
    (fun os started H enc _ => walkupNear_lifted os started H enc)
end Go.Proofs.YtfnmbjddlkfooaaGreatDoor
