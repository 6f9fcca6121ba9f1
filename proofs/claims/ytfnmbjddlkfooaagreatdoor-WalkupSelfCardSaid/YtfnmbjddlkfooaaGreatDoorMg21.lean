/- SelfProofB, laid in one text. -/
import Derived.Test.YtfnmbjddlkfooaaGreatDoorMg20
namespace Go.Proofs.YtfnmbjddlkfooaaGreatDoor
open Go.ChangeShapes Go.WideShapes Go.ChangeAt Go.RowKit
set_option maxRecDepth 100000

set_option maxHeartbeats 20000000 in
theorem walkupSelf_closed : joinedFacts Tryz.prog 5 Tryz.f5 Rows.walkupSelfSpec Rows.walkupSelfRow = true := by
  unfold joinedFacts
  repeat' with_reducible refine Bool.and_eq_true_iff.2 ⟨?_, ?_⟩
  all_goals as_aux_lemma => kernel_rfl

theorem walkupSelf_said : Rows.WalkupSelfSaid :=
  OpenClaim.holds_of_wide 5 Tryz.f5 rfl rfl rfl rfl rfl rfl rfl ⟨rfl, rfl, rfl, rfl, rfl⟩ rfl rfl rfl rfl rfl (by kernel_rfl) Tryz.func5 walkupSelf_closed
    (of_decide_eq_true (by kernel_rfl)) (by unfold Func.isWrapper; first | (rw [if_pos (by decide +kernel)]; kernel_rfl) | (rw [if_neg (by decide +kernel)]; exact ⟨rfl, rfl⟩))
    (fun os started H enc _ => walkupSelf_lifted os started H enc)
end Go.Proofs.YtfnmbjddlkfooaaGreatDoor
