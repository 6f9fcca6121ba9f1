/- GraphParts, the second form: of any arguments of bulk at most 1048576 it answers true, and each argument reads as it read before (the tied card). Conditions: the row's own. -/
import Derived.Test.YtpfemjlhklnfoaaGreatDoorMg22
namespace Go.Proofs.YtpfemjlhklnfoaaGreatDoor
open Go.ChangeShapes Go.WideShapes Go.ChangeAt Go.RowKit Go.ChangeMaps
set_option maxRecDepth 100000
set_option maxHeartbeats 20000000 in
theorem graphPartsUpto_holds:Rows.GraphPartsUptoCardSaid:=
 Claim7.holds_tied_plain_at .later [] _ _ _ _ hF (fun _ h=>by cases h) (by as_aux_lemma=>kernel_rfl) (fun _ h=>by cases h) graphPartsUpto_row_tie rfl ⟨rfl,rfl⟩ (by as_aux_lemma=>kernel_rfl) rfl
  (fun f fn hf hfn=>by
    obtain rfl:f=5:=Option.some.inj ((show Tryz.prog.funcNamed Rows.graphPartsUptoRow.func=some 5 by kernel_rfl).symm.trans hf) |>.symm
    obtain rfl:fn=Tryz.f5:=(Option.some.inj (Tryz.func5.symm.trans hfn)).symm
    exact ⟨(by as_aux_lemma=>kernel_rfl),fun j t ht=>by
     rw [Tryz.params5] at ht;have hm:t ∈ [55,67]:=by simpa using Array.mem_of_getElem? ht
     have hall:([55,67].all fun u=> !Tryz.prog.wantsStandIn u)=true:=by kernel_rfl
     exact (show Tryz.prog.wantsStandIn t=false by simpa using List.all_eq_true.1 hall t hm)⟩)
  (by as_aux_lemma=>kernel_rfl)
#print axioms graphPartsUpto_holds
end Go.Proofs.YtpfemjlhklnfoaaGreatDoor
