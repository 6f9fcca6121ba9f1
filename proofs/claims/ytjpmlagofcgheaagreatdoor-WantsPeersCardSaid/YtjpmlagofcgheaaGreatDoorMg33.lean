/- PeeProofB, laid in one text. -/
import Derived.Test.YtjpmlagofcgheaaGreatDoorMg32
namespace Go.Proofs.YtjpmlagofcgheaaGreatDoor
open Go.ChangeShapes Go.WideShapes Go.ChangeAt Go.RowKit
set_option maxRecDepth 100000

set_option maxHeartbeats 20000000 in
theorem wantsPeers_closed : joinedFacts Tryz.prog 6 Tryz.f6 Rows.wantsPeersSpec Rows.wantsPeersRow = true := by
  unfold joinedFacts
  repeat' with_reducible refine Bool.and_eq_true_iff.2 ⟨?_, ?_⟩
  all_goals as_aux_lemma => kernel_rfl

theorem wantsPeers_said : Rows.WantsPeersSaid :=
  OpenClaim.holds_of_wide 6 Tryz.f6 rfl rfl rfl rfl rfl rfl rfl ⟨rfl, rfl, rfl, rfl, rfl⟩ rfl rfl rfl rfl rfl (by kernel_rfl) Tryz.func6 wantsPeers_closed
    (of_decide_eq_true (by kernel_rfl)) (by unfold Func.isWrapper; first | (rw [if_pos (by decide +kernel)]; kernel_rfl) | (rw [if_neg (by decide +kernel)]; exact ⟨rfl, rfl⟩))
    (fun os started H enc _ => wantsPeers_lifted os started H enc)
end Go.Proofs.YtjpmlagofcgheaaGreatDoor
