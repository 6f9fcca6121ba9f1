/- GraphOwn: of any arguments it answers true, and each argument reads as it read before (the tied card). Conditions: none but the row's own. -/
import Derived.Test.YtpfemjlhklnfoaaGreatDoorMg37
namespace Go.Proofs.YtpfemjlhklnfoaaGreatDoor
open Go.ChangeShapes Go.WideShapes Go.ChangeAt Go.RowKit
set_option maxRecDepth 100000
set_option maxHeartbeats 20000000 in
theorem graphOwn_holds:Rows.GraphOwnCardSaid:=
 Claim7.holds_tied_plain_at .later [] _ _ _ _ oV (fun _ h=>by cases h) (by as_aux_lemma=>kernel_rfl) (fun _ h=>by cases h) graphOwn_row_tie rfl ⟨rfl,rfl⟩ (by as_aux_lemma=>kernel_rfl) rfl
  (fun f fn hf hfn=>by
    obtain rfl:f=8:=Option.some.inj ((show Tryz.prog.funcNamed Rows.graphOwnRow.func=some 8 by kernel_rfl).symm.trans hf) |>.symm
    obtain rfl:fn=Tryz.f8:=(Option.some.inj (Tryz.func8.symm.trans hfn)).symm
    exact ⟨(by as_aux_lemma=>kernel_rfl),fun j t ht=>by
     rw [Tryz.params8] at ht;have hm:t ∈ [55,59]:=by simpa using Array.mem_of_getElem? ht
     have hall:([55,59].all fun u=> !Tryz.prog.wantsStandIn u)=true:=by kernel_rfl
     exact (show Tryz.prog.wantsStandIn t=false by simpa using List.all_eq_true.1 hall t hm)⟩)
  (by as_aux_lemma=>kernel_rfl)
#print axioms graphOwn_holds
end Go.Proofs.YtpfemjlhklnfoaaGreatDoor
