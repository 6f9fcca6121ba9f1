/- OvrProofB, laid in one text. -/
import Derived.Test.YtbjbhgkbnegfgaaGreatDoorMg31
namespace Go.Proofs.YtbjbhgkbnegfgaaGreatDoor
open Go.ChangeShapes Go.WideShapes Go.ChangeAt Go.RowKit Go.ChangeMaps
set_option maxRecDepth 100000

set_option maxHeartbeats 20000000 in
theorem wantsOverrides_closed : joinedFacts Tryz.prog 5 Tryz.f5 (Rows.OpenSpec.upto Rows.wantsOverridesSpec).bare Rows.wantsOverridesUptoRow = true := by
  unfold joinedFacts
  repeat' with_reducible refine Bool.and_eq_true_iff.2 ⟨?_, ?_⟩
  all_goals as_aux_lemma => kernel_rfl

end Go.Proofs.YtbjbhgkbnegfgaaGreatDoor
