/- ITelProofB: their declarations that are needed, laid in one text, remarks and blanks left out. -/
import Derived.Test.YtlmpiohbmlddiaaGreatDoorMg36
namespace Go.Proofs.YtlmpiohbmlddiaaGreatDoor
open Go.ChangeShapes Go.WideShapes Go.ChangeAt Go.RowKit
set_option maxRecDepth 100000
set_option maxHeartbeats 20000000 in
theorem nF:joinedFacts Tryz.prog 3 Tryz.f3 Rows.imageTellsSpec Rows.imageTellsRow=true:=by
 unfold joinedFacts
 repeat' with_reducible refine Bool.and_eq_true_iff.2 ⟨?_,?_⟩
 all_goals as_aux_lemma=>kernel_rfl
theorem oY:Rows.ImageTellsSaid:=
 OpenClaim.holds_of_wide 3 Tryz.f3 rfl rfl rfl rfl rfl rfl rfl ⟨rfl,rfl,rfl,rfl,rfl⟩ rfl rfl rfl rfl rfl (by kernel_rfl) Tryz.func3 nF
  (of_decide_eq_true (by kernel_rfl)) (by unfold Func.isWrapper;first|(rw [if_pos (by decide+kernel)];kernel_rfl)|(rw [if_neg (by decide+kernel)];exact ⟨rfl,rfl⟩))
  (fun os started H enc _=>nE os started H enc)
end Go.Proofs.YtlmpiohbmlddiaaGreatDoor
