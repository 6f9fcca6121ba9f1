/- LooksProofB, laid in one text. -/
import Derived.Test.YtfnmbjddlkfooaaDoorMg14
namespace Go.Proofs.YtfnmbjddlkfooaaDoor
open Go.ChangeShapes Go.WideShapes Go.ChangeAt Go.RowKit
open Go.ChangeMaps (open_string shut_string)
set_option maxRecDepth 100000

set_option maxHeartbeats 20000000 in
theorem walkupLooks_closed : joinedFacts Tryd.prog 3 Tryd.f3 Rows.walkupLooksSpec Rows.walkupLooksRow = true := by
  unfold joinedFacts
  repeat' with_reducible refine Bool.and_eq_true_iff.2 ⟨?_, ?_⟩
  all_goals as_aux_lemma => kernel_rfl

theorem walkupLooks_said : Rows.WalkupLooksSaid :=
  OpenClaim.holds_of_wide 3 Tryd.f3 rfl rfl rfl rfl rfl rfl rfl ⟨rfl, rfl, rfl, rfl, rfl⟩ rfl rfl rfl rfl rfl (by kernel_rfl) Tryd.func3 walkupLooks_closed
    (of_decide_eq_true (by kernel_rfl)) (by unfold Func.isWrapper; first | (rw [if_pos (by decide +kernel)]; kernel_rfl) | (rw [if_neg (by decide +kernel)]; exact ⟨rfl, rfl⟩))
    (fun os started H enc _ => walkupLooks_lifted os started H enc)
end Go.Proofs.YtfnmbjddlkfooaaDoor
