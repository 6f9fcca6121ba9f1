/- MapsProofB, laid in one text. -/
import Derived.Test.YtcclfaioicklaaaGreatDoorMg21
namespace Go.Proofs.YtcclfaioicklaaaGreatDoor
open Go.ChangeShapes Go.WideShapes Go.ChangeAt Go.RowKit
set_option maxRecDepth 100000

set_option maxHeartbeats 20000000 in
theorem walkupMaps_closed : joinedFacts Tryz.prog 8 Tryz.f8 Rows.walkupMapsSpec Rows.walkupMapsRow = true := by
  unfold joinedFacts
  repeat' with_reducible refine Bool.and_eq_true_iff.2 ⟨?_, ?_⟩
  all_goals as_aux_lemma => kernel_rfl

theorem walkupMaps_said : Rows.WalkupMapsSaid :=
  OpenClaim.holds_of_wide 8 Tryz.f8 rfl rfl rfl rfl rfl rfl rfl ⟨rfl, rfl, rfl, rfl, rfl⟩ rfl rfl rfl rfl rfl (by kernel_rfl) Tryz.func8 walkupMaps_closed
    (of_decide_eq_true (by kernel_rfl)) (by unfold Func.isWrapper; first | (rw [if_pos (by decide +kernel)]; kernel_rfl) | (rw [if_neg (by decide +kernel)]; exact ⟨rfl, rfl⟩))
    (fun os started H enc _ => walkupMaps_lifted os started H enc)
end Go.Proofs.YtcclfaioicklaaaGreatDoor
