/- GraphSame: of any arguments it answers true, and each argument reads as it read before (the tied card). Conditions: none but the row's own. -/
import Derived.Test.YtbhpfedjilkelaaGreatDoorMg19
namespace Go.Proofs.YtbhpfedjilkelaaGreatDoor
open Go.ChangeShapes Go.WideShapes Go.ChangeAt Go.RowKit
set_option maxRecDepth 100000
set_option maxHeartbeats 20000000 in
theorem graphSame_holds:Rows.GraphSameCardSaid:=
 Claim7.holds_tied_plain_at .later [] _ _ _ _ gS (fun _ h=>by cases h) (by as_aux_lemma=>kernel_rfl) (fun _ h=>by cases h) graphSame_row_tie rfl ⟨rfl,rfl⟩ (by as_aux_lemma=>kernel_rfl) rfl
  (fun f fn hf hfn=>by
    obtain rfl:f=6:=Option.some.inj ((show Tryz.prog.funcNamed Rows.graphSameRow.func=some 6 by kernel_rfl).symm.trans hf) |>.symm
    obtain rfl:fn=Tryz.f6:=(Option.some.inj (Tryz.func6.symm.trans hfn)).symm
    exact ⟨(by as_aux_lemma=>kernel_rfl),fun j t ht=>by
     rw [Tryz.params6] at ht;have hm:t ∈ [55,55]:=by simpa using Array.mem_of_getElem? ht
     have hall:([55,55].all fun u=> !Tryz.prog.wantsStandIn u)=true:=by kernel_rfl
     exact (show Tryz.prog.wantsStandIn t=false by simpa using List.all_eq_true.1 hall t hm)⟩)
  (by as_aux_lemma=>kernel_rfl)
#print axioms graphSame_holds
end Go.Proofs.YtbhpfedjilkelaaGreatDoor
