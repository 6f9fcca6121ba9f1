/- WantsTold, the second form: of any arguments of bulk at most 1048576 it answers true, and each argument reads as it read before (the tied card). Conditions: the row's own. -/
import Derived.Test.YtbjbhgkbnegfgaaGreatDoorMg31
namespace Go.Proofs.YtbjbhgkbnegfgaaGreatDoor
open Go.ChangeShapes Go.WideShapes Go.ChangeAt Go.RowKit Go.ChangeMaps
set_option maxRecDepth 100000

set_option maxHeartbeats 20000000 in
theorem wantsToldUpto_holds : Rows.WantsToldUptoCardSaid :=
  Claim7.holds_tied_plain_at .later [] _ _ _ _ wantsTold_said (fun _ h => by cases h) (by as_aux_lemma => kernel_rfl) (fun _ h => by cases h) wantsToldUpto_row_tie rfl ⟨rfl, rfl⟩ (by as_aux_lemma => kernel_rfl) rfl
    (fun f fn hf hfn => by
      obtain rfl : f = 4 := Option.some.inj ((show Tryz.prog.funcNamed Rows.wantsToldUptoRow.func = some 4 by kernel_rfl).symm.trans hf) |>.symm
      obtain rfl : fn = Tryz.f4 := (Option.some.inj (Tryz.func4.symm.trans hfn)).symm
      exact ⟨(by as_aux_lemma => kernel_rfl), fun j t ht => by
        rw [Tryz.params4] at ht
        have hm : t ∈ [34, 54, 4] := by simpa using Array.mem_of_getElem? ht
        have hall : ([34, 54, 4].all fun u => !Tryz.prog.wantsStandIn u) = true := by kernel_rfl
        exact (show Tryz.prog.wantsStandIn t = false by simpa using List.all_eq_true.1 hall t hm)⟩)
    (by as_aux_lemma => kernel_rfl)
#print axioms wantsToldUpto_holds
end Go.Proofs.YtbjbhgkbnegfgaaGreatDoor
