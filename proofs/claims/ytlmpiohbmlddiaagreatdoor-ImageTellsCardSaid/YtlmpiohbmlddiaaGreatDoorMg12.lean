/- Rk4, Wr2: their declarations that are needed, laid in one text, remarks and blanks left out. -/
import Derived.Test.YtlmpiohbmlddiaaGreatDoorMg07
import Derived.Test.YtlmpiohbmlddiaaGreatDoorMg11
namespace Go.Proofs.YtlmpiohbmlddiaaGreatDoor
open Go.RowKit
set_option maxRecDepth 100000
theorem CG {L:List Dp} {j:Nat} (h:j<L.length):dD (L.take (j+1))=some L[j].nm:=jC h
set_option maxHeartbeats 6400000 in
theorem CH (L:List Dp) (hz:L.length≤9223372036854775807) (g o cap:Nat) (w:World) (hs:∀ i (h:i<L.length),∃ u,DpIn w g (o+i*2) L[i] u) (hnm:∀ d ∈ L,d.nm.size≤9223372036854775807):
 Calls Tryz.prog 130 #[.slice (some ⟨g,o,none⟩) L.length cap] w fun e w'=>e= .returned (.bool (aO L))∧Below w.heap.size w w':=by
 have HL:Hid (∀ w1,Below w.heap.size w w1→∀ i (h:i<L.length),∃ u,DpIn w1 g (o+i*2) L[i] u):=fun w1 hb i hi=>(hs i hi).imp fun u h=>h.below hb
 have HN:Hid (∀ (i:Nat) (h:i<L.length) w1,Calls Tryz.prog 82 #[.string L[i].nm] w1 fun e w'=>e= .returned (.bool (Sc.aH L[i].nm.data.toList))∧Below w1.heap.size w1 w'):=fun i hi w1=>(Sc.eJ L[i].nm (hnm _ (List.getElem_mem hi)) w1).mono fun e w' ⟨h1,h2⟩=>⟨h1,by rw [h2];exact Below.refl _ _⟩
 have HMD:Hid (aO L=(decide (L.length≤16)&&cK none L)):=rfl;clear hs hnm
 go_enter Tryz.func130,Tryz.ntmps130
 go_wp2_with fail
 go_loopw [3] (fun i wr=>∃ k:Nat,k≤L.length∧i= .int .i64 k∧Below w.heap.size w wr∧cK none L=cK (dD (L.take k)) (L.drop k)∧∀ q,dD (L.take k)=some q→q.size≤16) (fun i _=>L.length - (intOf i).toNat)
 case atStart=>exact ⟨0,Nat.zero_le _,rfl,Below.refl _ _,rfl,fun q h=>by cases h⟩
 case round=>
  obtain ⟨k,hk,rfl,hb,hall,hq16⟩:=hrel;have HALL:=aA hall;have HQ:=aA hq16;have HB:=aA hb;clear hall hq16
  by_cases hlt:k<L.length
  · have hdr:L.drop k=L[k]::L.drop (k+1):=List.drop_eq_getElem_cons hlt
    have HST:Hid (cK none L=(cF (dD (L.take k)) L[k].nm&&cG L[k].rg&&cK (dD (L.take (k+1))) (L.drop (k+1)))):=by
     unfold Hid;rw [HALL.out,hdr,jC hlt];rfl
    have HQN:Hid (Sc.aH L[k].nm.data.toList=true→∀ q,dD (L.take (k+1))=some q→q.size≤16):=fun hn q hq=>by
     rw [jC hlt] at hq;cases hq;unfold Sc.aH at hn;rw [Bool.and_eq_true,decide_eq_true_eq,aK] at hn;exact hn.2
    have HSZ:Hid (Sc.aH L[k].nm.data.toList=true→L[k].nm.size≤16):=fun hn=>by
     unfold Sc.aH at hn;rw [Bool.and_eq_true,decide_eq_true_eq,aK] at hn;exact hn.2
    have HFO:Hid (cF (dD (L.take k)) L[k].nm=(Sc.aH L[k].nm.data.toList&&(match dD (L.take k) with
     |none=>true
     |some p=>ltS p L[k].nm))):=rfl
    have HRB:Hid (cG L[k].rg=(decide (0<L[k].rg.length)&&dS L[k].rg)):=rfl;clear hdr HALL
    rcases Nat.eq_zero_or_pos k with hk0|hk0
    · subst hk0
      obtain ⟨u,hu⟩:=HL.out wr hb 0 hlt;have HO:Hid (Below w.heap.size w wr∧DpIn wr g (o+0*2) L[0] u):=⟨hb,hu⟩;have HK:Hid (KeepP fun w1=>Below w.heap.size w w1∧DpIn w1 g (o+0*2) L[0] u):=(aD w).and (jN _ _ _ _);have HC1:Hid (∀ w1,Calls Tryz.prog 82 #[.string L[0].nm] w1 fun e w'=>e= .returned (.bool (Sc.aH L[0].nm.data.toList))∧Below w1.heap.size w1 w'):=HN.out 0 hlt;have HC2:Hid (∀ w1,(Below w.heap.size w w1∧DpIn w1 g (o+0*2) L[0] u)→Calls Tryz.prog 178 #[u] w1 fun e w'=>e= .returned (.bool (dS L[0].rg))∧Below w1.heap.size w1 w'):=fun w1 h=>nP h.2.2.2.1.1.1
      obtain ⟨au,cu,rfl⟩:=hu.2.2.1.1.1.sl;rw [Nat.zero_mul,Nat.add_zero] at HO HK HC2;have hlf:dD (L.take 0)=none:=rfl;rw [hlf] at HFO HST;clear hu hb HQ hlf;generalize cF none L[0].nm=fo at*;generalize cG L[0].rg=rb at*;generalize Sc.aH L[0].nm.data.toList=b1 at*;generalize dS L[0].rg=b2 at*;generalize L[0].rg.length=ln at*;generalize L[0]=d at*;cases b1
      · have HR:Hid (aO L=false):=by unfold Hid;rw [HMD.out,HST.out,HFO.out];simp
        clear HST HFO HRB HQN HSZ
        go_wp2_with fail
        refine aM HK (by kernel_rfl) (by kernel_rfl) (by first|exact HO.out|exact HK.out.drew HO.out) ?_;intro C HIN HOUT;clear HO
        repeat
         (with_reducible refine wpQuiet_step (fun K hK=> ?_)
          go_simp
          first
           |(refine hK _ ?_;clear hK K)
           |(apply Exists.intro;refine ⟨fun w1 hC=> ?_,hK _ ?_⟩;(focus ((first|(go_at_call 82;with_reducible exact aP HIN HOUT HK HC1.out w1 hC)|(exact rfl)|(obtain ⟨hb1,⟨p0,p1,ph,p3⟩⟩:=HOUT.out w1 hC;clear hC;go_simp;first|done|exact rfl));done));clear hK K))
        refine wpQuiet_nil ?_;intro wn hC;have HO:=aA (HOUT.out _ hC);clear hC HIN HOUT C;obtain ⟨hb1,⟨p0,p1,ph,p3⟩⟩:=HO.out
        go_wp2
        go_ret;exact ⟨aC HR.out.symm,HO.out.1⟩
      · cases b2
        · have HR:Hid (aO L=false):=by unfold Hid;rw [HMD.out,HST.out,HRB.out];simp
          clear HST HFO HRB HQN HSZ
          go_wp2_with fail
          refine aM HK (by kernel_rfl) (by kernel_rfl) (by first|exact HO.out|exact HK.out.drew HO.out) ?_;intro C HIN HOUT;clear HO
          repeat
           (with_reducible refine wpQuiet_step (fun K hK=> ?_)
            go_simp
            first
             |(refine hK _ ?_;clear hK K)
             |(apply Exists.intro;refine ⟨fun w1 hC=> ?_,hK _ ?_⟩;(focus ((first|(go_at_call 82;with_reducible exact aP HIN HOUT HK HC1.out w1 hC)|(go_at_call 178;with_reducible exact aW HIN HOUT HK HC2.out w1 hC)|(exact rfl)|(obtain ⟨hb1,⟨p0,p1,ph,p3⟩⟩:=HOUT.out w1 hC;clear hC;go_simp;first|done|exact rfl));done));clear hK K))
          refine wpQuiet_nil ?_;intro wn hC;have HO:=aA (HOUT.out _ hC);clear hC HIN HOUT C;obtain ⟨hb1,⟨p0,p1,ph,p3⟩⟩:=HO.out
          go_wp2
          go_ret;exact ⟨aC HR.out.symm,HO.out.1⟩
        · by_cases hl0:ln=0
          · have HR:Hid (aO L=false):=by unfold Hid;rw [HMD.out,HST.out,HRB.out];simp [hl0]
            clear HST HFO HRB HQN HSZ;have hl1:((ln:Int)==0)=true:=by rw [hl0];rfl
            subst hl0
            go_wp2_with fail
            refine aM HK (by kernel_rfl) (by kernel_rfl) (by first|exact HO.out|exact HK.out.drew HO.out) ?_;intro C HIN HOUT;clear HO
            repeat
             (with_reducible refine wpQuiet_step (fun K hK=> ?_)
              go_simp
              first
               |(refine hK _ ?_;clear hK K)
               |(apply Exists.intro;refine ⟨fun w1 hC=> ?_,hK _ ?_⟩;(focus ((first|(go_at_call 82;with_reducible exact aP HIN HOUT HK HC1.out w1 hC)|(go_at_call 178;with_reducible exact aW HIN HOUT HK HC2.out w1 hC)|(exact rfl)|(obtain ⟨hb1,⟨p0,p1,ph,p3⟩⟩:=HOUT.out w1 hC;clear hC;go_simp;first|done|exact rfl));done));clear hK K))
            refine wpQuiet_nil ?_;intro wn hC;have HO:=aA (HOUT.out _ hC);clear hC HIN HOUT C;obtain ⟨hb1,⟨p0,p1,ph,p3⟩⟩:=HO.out
            go_wp2
            go_ret;exact ⟨aC HR.out.symm,HO.out.1⟩
          · have hl1:((ln:Int)==0)=false:=by rw [beq_eq_false_iff_ne];omega
            have HR:Hid (cK none L=cK (dD (L.take 1)) (L.drop 1)):=by unfold Hid;rw [HST.out,HFO.out,HRB.out];simp;omega
            clear HST HFO HRB HSZ
            go_wp2_with fail
            refine aM HK (by kernel_rfl) (by kernel_rfl) (by first|exact HO.out|exact HK.out.drew HO.out) ?_;intro C HIN HOUT;clear HO
            repeat
             (with_reducible refine wpQuiet_step (fun K hK=> ?_)
              go_simp
              first
               |(refine hK _ ?_;clear hK K)
               |(apply Exists.intro;refine ⟨fun w1 hC=> ?_,hK _ ?_⟩;(focus ((first|(go_at_call 82;with_reducible exact aP HIN HOUT HK HC1.out w1 hC)|(go_at_call 178;with_reducible exact aW HIN HOUT HK HC2.out w1 hC)|(exact rfl)|(obtain ⟨hb1,⟨p0,p1,ph,p3⟩⟩:=HOUT.out w1 hC;clear hC;go_simp;first|done|exact rfl));done));clear hK K))
            refine wpQuiet_nil ?_;intro wn hC;have HO:=aA (HOUT.out _ hC);clear hC HIN HOUT C;obtain ⟨hb1,⟨p0,p1,ph,p3⟩⟩:=HO.out
            go_wp2
            exact ⟨⟨0+1,by omega,by go_num,HO.out.1,HR.out,HQN.out (by first|rfl|trivial)⟩,by simp [intOf];omega⟩
    · obtain ⟨j,hkj⟩:∃ j,k=j+1:=⟨k - 1,by omega⟩
      have hjl:j<L.length:=by omega
      obtain ⟨u,hu⟩:=HL.out wr hb k hlt;obtain ⟨u',hu'⟩:=HL.out wr hb j hjl;have hlf:dD (L.take k)=some L[j].nm:=by subst hkj;exact CG hjl
      have h16:=HQ.out _ hlf;rw [hlf] at HST;clear HFO;have HFO:Hid (cF (some L[j].nm) L[k].nm=(Sc.aH L[k].nm.data.toList&&ltS L[j].nm L[k].nm)):=rfl;have HO:Hid (Below w.heap.size w wr∧DpIn wr g (o+k*2) L[k] u∧DpIn wr g (o+j*2) L[j] u'):=⟨hb,hu,hu'⟩;have HK:Hid (KeepP fun w1=>Below w.heap.size w w1∧DpIn w1 g (o+k*2) L[k] u∧DpIn w1 g (o+j*2) L[j] u'):=(aD w).and ((jN _ _ _ _).and (jN _ _ _ _));have HC1:Hid (∀ w1,Calls Tryz.prog 82 #[.string L[k].nm] w1 fun e w'=>e= .returned (.bool (Sc.aH L[k].nm.data.toList))∧Below w1.heap.size w1 w'):=HN.out k hlt;have HC2:Hid (∀ w1,(Below w.heap.size w w1∧DpIn w1 g (o+k*2) L[k] u∧DpIn w1 g (o+j*2) L[j] u')→Calls Tryz.prog 178 #[u] w1 fun e w'=>e= .returned (.bool (dS L[k].rg))∧Below w1.heap.size w1 w'):=fun w1 h=>nP h.2.1.2.2.1.1.1
      have HC3:Hid (Sc.aH L[k].nm.data.toList=true→∀ w1,Calls Tryz.prog 179 #[.string L[j].nm,.string L[k].nm] w1 fun e w'=>e= .returned (.bool (ltS L[j].nm L[k].nm))∧Below w1.heap.size w1 w'):=fun _ w1=>nO _ _ w1 (by omega)
      obtain ⟨au,cu,rfl⟩:=hu.2.2.1.1.1.sl;have hw1:IntKind.i64.wrap ((k:Int) - 1)=(j:Int):=by rw [IntKind.wrap_i64];omega
      have hj1:(0:Int)<(k:Int):=by omega
      have hj2:decide ((0:Int)<(k:Int))=true:=decide_eq_true hj1;have hj3:decide (0<k)=true:=decide_eq_true hk0;have hji:(j:Int)<(L.length:Int):=by omega
      clear hu hu' hb HQ hlf h16 hkj;generalize cF (some L[j].nm) L[k].nm=fo at*;generalize cG L[k].rg=rb at*;generalize Sc.aH L[k].nm.data.toList=b1 at*;generalize dS L[k].rg=b2 at*;generalize ltS L[j].nm L[k].nm=b3 at*;generalize L[k].rg.length=ln at*;generalize L[k]=d at*;generalize L[j]=d' at*;cases b1
      · have HR:Hid (aO L=false):=by unfold Hid;rw [HMD.out,HST.out,HFO.out];simp
        clear HST HFO HRB HQN HSZ HC3
        go_wp2_with fail
        refine aM HK (by kernel_rfl) (by kernel_rfl) (by first|exact HO.out|exact HK.out.drew HO.out) ?_;intro C HIN HOUT;clear HO
        repeat
         (with_reducible refine wpQuiet_step (fun K hK=> ?_)
          go_simp
          first
           |(refine hK _ ?_;clear hK K)
           |(apply Exists.intro;refine ⟨fun w1 hC=> ?_,hK _ ?_⟩;(focus ((first|(go_at_call 82;with_reducible exact aP HIN HOUT HK HC1.out w1 hC)|(exact rfl)|(obtain ⟨hb1,⟨p0,p1,ph,p3⟩,⟨q0,q1,qh,q3⟩⟩:=HOUT.out w1 hC;clear hC;go_simp;first|done|exact rfl));done));clear hK K))
        refine wpQuiet_nil ?_;intro wn hC;have HO:=aA (HOUT.out _ hC);clear hC HIN HOUT C;obtain ⟨hb1,⟨p0,p1,ph,p3⟩,⟨q0,q1,qh,q3⟩⟩:=HO.out
        go_wp2
        go_ret;exact ⟨aC HR.out.symm,HO.out.1⟩
      · cases b2
        · have HR:Hid (aO L=false):=by unfold Hid;rw [HMD.out,HST.out,HRB.out];simp
          clear HST HFO HRB HQN HSZ HC3
          go_wp2_with fail
          refine aM HK (by kernel_rfl) (by kernel_rfl) (by first|exact HO.out|exact HK.out.drew HO.out) ?_;intro C HIN HOUT;clear HO
          repeat
           (with_reducible refine wpQuiet_step (fun K hK=> ?_)
            go_simp
            first
             |(refine hK _ ?_;clear hK K)
             |(apply Exists.intro;refine ⟨fun w1 hC=> ?_,hK _ ?_⟩;(focus ((first|(go_at_call 82;with_reducible exact aP HIN HOUT HK HC1.out w1 hC)|(go_at_call 178;with_reducible exact aW HIN HOUT HK HC2.out w1 hC)|(exact rfl)|(obtain ⟨hb1,⟨p0,p1,ph,p3⟩,⟨q0,q1,qh,q3⟩⟩:=HOUT.out w1 hC;clear hC;go_simp;first|done|exact rfl));done));clear hK K))
          refine wpQuiet_nil ?_;intro wn hC;have HO:=aA (HOUT.out _ hC);clear hC HIN HOUT C;obtain ⟨hb1,⟨p0,p1,ph,p3⟩,⟨q0,q1,qh,q3⟩⟩:=HO.out
          go_wp2
          go_ret;exact ⟨aC HR.out.symm,HO.out.1⟩
        · by_cases hl0:ln=0
          · have HR:Hid (aO L=false):=by unfold Hid;rw [HMD.out,HST.out,HRB.out];simp [hl0]
            clear HST HFO HRB HQN HSZ HC3;have hl1:((ln:Int)==0)=true:=by rw [hl0];rfl
            subst hl0
            go_wp2_with fail
            refine aM HK (by kernel_rfl) (by kernel_rfl) (by first|exact HO.out|exact HK.out.drew HO.out) ?_;intro C HIN HOUT;clear HO
            repeat
             (with_reducible refine wpQuiet_step (fun K hK=> ?_)
              go_simp
              first
               |(refine hK _ ?_;clear hK K)
               |(apply Exists.intro;refine ⟨fun w1 hC=> ?_,hK _ ?_⟩;(focus ((first|(go_at_call 82;with_reducible exact aP HIN HOUT HK HC1.out w1 hC)|(go_at_call 178;with_reducible exact aW HIN HOUT HK HC2.out w1 hC)|(exact rfl)|(obtain ⟨hb1,⟨p0,p1,ph,p3⟩,⟨q0,q1,qh,q3⟩⟩:=HOUT.out w1 hC;clear hC;go_simp;first|done|exact rfl));done));clear hK K))
            refine wpQuiet_nil ?_;intro wn hC;have HO:=aA (HOUT.out _ hC);clear hC HIN HOUT C;obtain ⟨hb1,⟨p0,p1,ph,p3⟩,⟨q0,q1,qh,q3⟩⟩:=HO.out
            go_wp2
            go_ret;exact ⟨aC HR.out.symm,HO.out.1⟩
          · have hl1:((ln:Int)==0)=false:=by rw [beq_eq_false_iff_ne];omega
            have HC4:=aA (HC3.out (by first|rfl|trivial));cases b3
            · have HR:Hid (aO L=false):=by unfold Hid;rw [HMD.out,HST.out,HFO.out];simp
              clear HST HFO HRB HQN HSZ HC3
              go_wp2_with fail
              refine aM HK (by kernel_rfl) (by kernel_rfl) (by first|exact HO.out|exact HK.out.drew HO.out) ?_;intro C HIN HOUT;clear HO
              repeat
               (with_reducible refine wpQuiet_step (fun K hK=> ?_)
                go_simp
                first
                 |(refine hK _ ?_;clear hK K)
                 |(apply Exists.intro;refine ⟨fun w1 hC=> ?_,hK _ ?_⟩;(focus ((first|(go_at_call 82;with_reducible exact aP HIN HOUT HK HC1.out w1 hC)|(go_at_call 178;with_reducible exact aW HIN HOUT HK HC2.out w1 hC)|(go_at_call 179;with_reducible exact aP HIN HOUT HK HC4.out w1 hC)|(exact rfl)|(obtain ⟨hb1,⟨p0,p1,ph,p3⟩,⟨q0,q1,qh,q3⟩⟩:=HOUT.out w1 hC;clear hC;go_simp;first|done|exact rfl));done));clear hK K))
              refine wpQuiet_nil ?_;intro wn hC;have HO:=aA (HOUT.out _ hC);clear hC HIN HOUT C;obtain ⟨hb1,⟨p0,p1,ph,p3⟩,⟨q0,q1,qh,q3⟩⟩:=HO.out
              go_wp2
              go_ret;exact ⟨aC HR.out.symm,HO.out.1⟩
            · have HR:Hid (cK none L=cK (dD (L.take (k+1))) (L.drop (k+1))):=by unfold Hid;rw [HST.out,HFO.out,HRB.out];simp;omega
              clear HST HFO HRB HSZ HC3
              go_wp2_with fail
              refine aM HK (by kernel_rfl) (by kernel_rfl) (by first|exact HO.out|exact HK.out.drew HO.out) ?_;intro C HIN HOUT;clear HO
              repeat
               (with_reducible refine wpQuiet_step (fun K hK=> ?_)
                go_simp
                first
                 |(refine hK _ ?_;clear hK K)
                 |(apply Exists.intro;refine ⟨fun w1 hC=> ?_,hK _ ?_⟩;(focus ((first|(go_at_call 82;with_reducible exact aP HIN HOUT HK HC1.out w1 hC)|(go_at_call 178;with_reducible exact aW HIN HOUT HK HC2.out w1 hC)|(go_at_call 179;with_reducible exact aP HIN HOUT HK HC4.out w1 hC)|(exact rfl)|(obtain ⟨hb1,⟨p0,p1,ph,p3⟩,⟨q0,q1,qh,q3⟩⟩:=HOUT.out w1 hC;clear hC;go_simp;first|done|exact rfl));done));clear hK K))
              refine wpQuiet_nil ?_;intro wn hC;have HO:=aA (HOUT.out _ hC);clear hC HIN HOUT C;obtain ⟨hb1,⟨p0,p1,ph,p3⟩,⟨q0,q1,qh,q3⟩⟩:=HO.out
              go_wp2
              exact ⟨⟨k+1,by omega,by go_num,HO.out.1,HR.out,HQN.out (by first|rfl|trivial)⟩,by simp [intOf];omega⟩
  · have hke:k=L.length:=by omega
    subst hke
    by_cases h16:L.length≤16
    · have HR:Hid (aO L=true):=by unfold Hid;rw [HMD.out,HALL.out,List.drop_length,decide_eq_true h16];rfl
      have hle:decide ((L.length:Int)≤16)=true:=decide_eq_true (by omega);clear hb
      go_wp2
      go_ret;exact ⟨aC HR.out.symm,HB.out⟩
    · have HR:Hid (aO L=false):=by unfold Hid;rw [HMD.out,decide_eq_false h16];rfl
      have hle:decide ((L.length:Int)≤16)=false:=decide_eq_false (by omega);clear hb
      go_wp2
      go_ret;exact ⟨aC HR.out.symm,HB.out⟩
theorem JG (ad:Option Addr) (cap:Nat) (w:World):
 Calls Tryz.prog 130 #[.slice ad 0 cap] w fun e w'=>e= .returned (.bool true)∧Below w.heap.size w w':=by
 go_enter Tryz.func130,Tryz.ntmps130
 go_wp2_with fail
 go_loop [3] (fun i=>i= .int .i64 0) (fun _=>0)
 case atStart=>rfl
 case round=>
  subst hrel
  go_wp2
  go_ret;exact ⟨rfl,Below.refl _ _⟩
theorem fB {v:Value} {L:List Dp} {w:World} (h:DepsAt w v L) (hz:L.length≤9223372036854775807) (hnm:∀ d ∈ L,d.nm.size≤9223372036854775807):
 Calls Tryz.prog 130 #[v] w fun e w'=>e= .returned (.bool (aO L))∧Below w.heap.size w w':=by
 obtain ⟨ad,cap,rfl,hc,hs⟩:=h
 rcases hs with rfl|⟨g,o,rfl,hg,hs⟩
 · exact JG _ _ w
 · exact CH L hz g o cap w hs hnm
def dO (l:Rg):ByteArray:=⟨(Lib.join (l.map fun p=>(spT p).data.toList) [32,124,124,32]).toArray⟩
theorem UK {l:List (List UInt8)} (h:l≠[]) (x sep:List UInt8):Lib.join (l++[x]) sep=Lib.join l sep++sep++x:=by
 cases l with
 |nil=>exact absurd rfl h
 |cons y l=>
  rw [List.cons_append,Lib.join_cons,Lib.join_cons];simp [Lib.joinTail]
theorem CI {A:Rg} (h:0<A.length):dO (A.take (0+1))=spT A[0]:=by
 unfold dO;rw [List.take_succ_eq_append_getElem h];simp only [List.take_zero,List.nil_append,List.map_cons,List.map_nil];rw [Lib.join_one,kT]
theorem CJ {A:Rg} {k:Nat} (h:k<A.length) (h0:k≠0):dO (A.take (k+1))=(dO (A.take k)++⟨#[32,124,124,32]⟩)++spT A[k]:=by
 have hne:(A.take k).map (fun p=>(spT p).data.toList)≠[]:=by
  intro e
  have:=congrArg List.length e
  rw [List.length_map,List.length_take,List.length_nil] at this;omega
 refine gE ?_;simp only [mD];unfold dO;rw [List.take_succ_eq_append_getElem h,List.map_append];simp only [List.map_cons,List.map_nil];rw [UK hne]
theorem CK {A:Rg} (hl:A.length≤64) (k:Nat):(dO (A.take k)).size≤10000:=by
 unfold dO;rw [kZ];exact sU (by rw [List.length_take];omega)
theorem xT {A:Rg} (h:A≠[]):gP A=dO A:=by
 cases A with
 |nil=>exact absurd rfl h
 |cons _ _=>rfl
theorem tL {lo hi:Int} (h1:okR lo) (h2:okR hi):(atA lo=atA hi∧atB lo=atB hi∧atC lo=atC hi)↔lo=hi:=by
 obtain ⟨m1,e1⟩:=gJ h1.has;obtain ⟨m2,e2⟩:=gJ h2.has
 constructor
 · rintro ⟨a,b,c⟩
   rw [←e1,←e2,a,b,c]
 · rintro rfl
   exact ⟨rfl,rfl,rfl⟩
theorem xU {lo:Int} (h1:okR lo):(atA lo=0∧atB lo=0∧atC lo=0)↔lo=0:=by
 obtain ⟨m1,e1⟩:=gJ h1.has
 constructor
 · rintro ⟨a,b,c⟩
   rw [←e1,a,b,c];exact MI
 · rintro rfl
   decide+kernel
theorem xV {hi:Int} (h1:okR hi):(atA hi=999∧atB hi=999∧atC hi=999)↔hi=999999999:=by
 obtain ⟨m1,e1⟩:=gJ h1.has
 constructor
 · rintro ⟨a,b,c⟩
   rw [←e1,a,b,c];exact MJ
 · rintro rfl
   decide+kernel
theorem SZ {lo hi:Int} (h1:okR lo) (h2:okR hi):spT (lo,hi)=if lo=hi then aS (atA lo) (atB lo) (atC lo) else if lo=0∧hi=999999999 then ⟨#[42]⟩ else if lo=0 then ⟨#[60,61]⟩++aS (atA hi) (atB hi) (atC hi) else
 if hi=999999999 then ⟨#[62,61]⟩++aS (atA lo) (atB lo) (atC lo) else ((⟨#[62,61]⟩++aS (atA lo) (atB lo) (atC lo))++⟨#[32,60,61]⟩)++aS (atA hi) (atB hi) (atC hi):=by
 unfold spT gO;simp only [tL h1 h2,xU h1,xV h2]
theorem MW {A:Rg} {k M:Int} (h:RiseR k M A) (hk:0≤k):∀ p ∈ A,0≤p.1∧p.1≤p.2∧p.2≤M:=by
 induction A generalizing k with
 |nil=>intro p hp;cases hp
 |cons q A ih=>
  obtain ⟨q1,q2,q3,q4⟩:=IP h;intro p hp
  rcases List.mem_cons.1 hp with rfl|hp
  · exact ⟨by omega,q2,q3⟩
  · exact ih q4 (by omega) p hp
set_option maxHeartbeats 12800000 in
theorem xW (A:Rg) (hA:RangeR A) (h0:A≠[]) (g o cap:Nat) (w:World) (hlen:A.length≤64) (hg:g<w.heap.size) (hl:∀ i (h:i<A.length),SpAt w g (o+i*6) (spR A[i]))
 (HMay:Hid (Calls Tryz.prog 178 #[.slice (some ⟨g,o,none⟩) A.length cap] w fun e w'=>e= .returned (.bool true)∧Below w.heap.size w w')):
 Calls Tryz.prog 180 #[.slice (some ⟨g,o,none⟩) A.length cap] w fun e w'=>e= .returned (.string (gP A))∧Below w.heap.size w w':=by
 have HL:Hid (∀ w1,Below w.heap.size w w1→∀ i (h:i<A.length),fQ w1 g (o+i*6) (spR A[i])):=fun w1 hb i hi=>⟨(hl i hi).below hb hg,Nat.lt_of_lt_of_le hg hb.size⟩
 have HPJ:=aA (xT h0);have HRO:Hid (∀ p ∈ A,0≤p.1∧p.1≤p.2∧p.2≤999999999):=MW hA (Int.le_refl 0)
 have hl0:((A.length:Int)==0)=false:=by
  rw [beq_eq_false_iff_ne]
  have:=List.length_pos_iff.2 h0
  omega
 have hgd:=iX;clear hl hA
 go_enter Tryz.func180,Tryz.ntmps180
 go_wp2_with (go_at_call 178;refine HMay.out.mono ?_;rintro e w1 ⟨rfl,ok1⟩;have HO1:=aA ok1;clear ok1)
 go_loopw [3,4] (fun out i wr=>∃ k:Nat,k≤A.length∧i= .int .i64 k∧out= .string (dO (A.take k))∧Below w.heap.size w wr) (fun _ i _=>A.length - (intOf i).toNat)
 case atStart=>exact ⟨0,Nat.zero_le _,rfl,by rw [List.take_zero];rfl,HO1.out⟩
 case round=>
  obtain ⟨k,hk,rfl,rfl,hb⟩:=hrel;have HB:=aA hb
  by_cases hlt:k<A.length
  · have hs:=HL.out wr hb k hlt
    obtain ⟨ok1,ok2,ok3⟩:=HRO.out _ (List.getElem_mem hlt);have hyz:=CK hlen k
    have HN0:Hid (k=0→dO (A.take (k+1))=dO (A.take k)++spT A[k]):=by
     intro e;subst e;rw [CI hlt];exact (IM _).symm
    have HN1:Hid (k≠0→dO (A.take (k+1))=(dO (A.take k)++⟨#[32,124,124,32]⟩)++spT A[k]):=CJ hlt;have HO:Hid (Below w.heap.size w wr∧fQ wr g (o+k*6) (spR A[k])):=⟨hb,hs⟩;have HK:Hid (KeepP fun w1=>Below w.heap.size w w1∧fQ w1 g (o+k*6) (spR A[k])):=(aD w).and (iZ _ _ _);clear hb;generalize A[k]=p at*;obtain ⟨lo,hi⟩:=p
    simp only at ok1 ok2 ok3
    have h1:okR lo:=⟨ok1,by omega⟩;have h2:okR hi:=⟨by omega,ok3⟩;have hsp:=SZ h1 h2;obtain ⟨m1,q1⟩:=gJ h1.has;obtain ⟨m2,q2⟩:=gJ h2.has;have zL:=cX (atA lo) (atB lo) (atC lo);have zH:=cX (atA hi) (atB hi) (atC hi);have e1:=LF (atA lo) (atB lo) (atC lo) (atA hi) (atB hi) (atC hi);have HPL:Hid (∀ w1,Calls Tryz.prog 136 #[.agg #[.int .i64 (atA lo),.int .i64 (atB lo),.int .i64 (atC lo)]] w1 fun e w'=>e= .returned (.string (aS (atA lo) (atB lo) (atC lo)))∧Below w1.heap.size w1 w'):=eW _ _ _;have HPH:Hid (∀ w1,Calls Tryz.prog 136 #[.agg #[.int .i64 (atA hi),.int .i64 (atB hi),.int .i64 (atC hi)]] w1 fun e w'=>e= .returned (.string (aS (atA hi) (atB hi) (atC hi)))∧Below w1.heap.size w1 w'):=eW _ _ _
    have HRL:Hid (∀ w1,Calls Tryz.prog 222 #[.agg #[.int .i64 (atA lo),.int .i64 (atB lo),.int .i64 (atC lo)]] w1 fun e w'=>e= .returned (.int .i64 lo)∧Below w1.heap.size w1 w'):=fun w1=>by have:=iP (atA lo) (atB lo) (atC lo) w1;rw [q1] at this;exact this
    have HRH:Hid (∀ w1,Calls Tryz.prog 222 #[.agg #[.int .i64 (atA hi),.int .i64 (atB hi),.int .i64 (atC hi)]] w1 fun e w'=>e= .returned (.int .i64 hi)∧Below w1.heap.size w1 w'):=fun w1=>by have:=iP (atA hi) (atB hi) (atC hi) w1;rw [q2] at this;exact this
    simp only [tL h1 h2] at e1;simp only [spR] at HO HK hs;clear m1 m2 q1 q2 h1 h2;generalize aS (atA lo) (atB lo) (atC lo)=TL at*;generalize aS (atA hi) (atB hi) (atC hi)=TH at*;generalize dO (A.take k)=y at*;generalize spT (lo,hi)=S at*;generalize atA lo=a at*;generalize atB lo=b at*;generalize atC lo=c at*;generalize atA hi=x at*;generalize atB hi=y' at*;generalize atC hi=z at*;obtain ⟨⟨p0,p1,p2,p3,p4,p5⟩,p6⟩:=hs
    simp only at p0 p1 p2 p3 p4 p5
    have z1:(⟨#[32,124,124,32]⟩:ByteArray).size=4:=rfl;have z2:(⟨#[60,61]⟩:ByteArray).size=2:=rfl;have z3:(⟨#[62,61]⟩:ByteArray).size=2:=rfl;have z4:(⟨#[42]⟩:ByteArray).size=1:=rfl;have z5:(⟨#[32]⟩:ByteArray).size=1:=rfl;have t1:True:=trivial;have t2:True:=trivial;have t3:True:=trivial;have t4:True:=trivial;have t5:True:=trivial
    by_cases c1:lo=hi
    · rw [decide_eq_true c1] at e1
      rw [if_pos c1] at hsp;clear c1
      by_cases hk0:k=0
      · have HX:Hid (y++TL=dO (A.take (k+1))):=by
         unfold Hid;rw [HN0.out hk0,hsp]
        have hkk:¬ (0:Int)<(k:Int):=by omega
        clear hsp hk0 HN0 HN1
        go_wp2_with (first|(have _h:=t1;go_at_call 136;refine (HPL.out _).mono ?_;rintro e wz ⟨rfl,ok⟩;have HO9:=aA (HK.out _ _ HO.out ok);clear ok HO t1 p0 p1 p2 p3 p4 p5 p6;have HO:=HO9;clear HO9;obtain ⟨_,⟨p0,p1,p2,p3,p4,p5⟩,p6⟩:=HO.out)|(have _h:=t2;go_at_call 136;refine (HPH.out _).mono ?_;rintro e wz ⟨rfl,ok⟩;have HO9:=aA (HK.out _ _ HO.out ok);clear ok HO t2 p0 p1 p2 p3 p4 p5 p6;have HO:=HO9;clear HO9;obtain ⟨_,⟨p0,p1,p2,p3,p4,p5⟩,p6⟩:=HO.out)|(have _h:=t3;go_at_call 222;refine (HRL.out _).mono ?_;rintro e wz ⟨rfl,ok⟩;have HO9:=aA (HK.out _ _ HO.out ok);clear ok HO t3 p0 p1 p2 p3 p4 p5 p6;have HO:=HO9;clear HO9;obtain ⟨_,⟨p0,p1,p2,p3,p4,p5⟩,p6⟩:=HO.out)|(have _h:=t4;go_at_call 222;refine (HRH.out _).mono ?_;rintro e wz ⟨rfl,ok⟩;have HO9:=aA (HK.out _ _ HO.out ok);clear ok HO t4 p0 p1 p2 p3 p4 p5 p6;have HO:=HO9;clear HO9;obtain ⟨_,⟨p0,p1,p2,p3,p4,p5⟩,p6⟩:=HO.out))
        refine aM HK (by kernel_rfl) (by kernel_rfl) (by first|exact HO.out|exact HK.out.drew HO.out) ?_;intro C HIN HOUT;clear HO
        repeat
         (with_reducible refine wpQuiet_step (fun K hK=> ?_)
          go_simp
          first
           |(refine hK _ ?_;clear hK K)
           |(apply Exists.intro;refine ⟨fun w1 hC=> ?_,hK _ ?_⟩;(focus ((first|(exact rfl)|(obtain ⟨hb1,⟨p0,p1,p2,p3,p4,p5⟩,p6⟩:=HOUT.out w1 hC;clear hC;go_simp;first|done|exact rfl));done));clear hK K))
        refine wpQuiet_nil ?_;intro wn hC;have HO:=aA (HOUT.out _ hC);clear hC HIN HOUT C;obtain ⟨hb1,⟨p0,p1,p2,p3,p4,p5⟩,p6⟩:=HO.out
        go_wp2_with (have _h:=t5;go_at_call 136;refine (HPL.out _).mono ?_;rintro e wz ⟨rfl,ok⟩;have HO9:=aA (HK.out _ _ HO.out ok);clear ok HO t5 p0 p1 p2 p3 p4 p5 p6;have HO:=HO9;clear HO9;obtain ⟨_,⟨p0,p1,p2,p3,p4,p5⟩,p6⟩:=HO.out)
        exact ⟨⟨k+1,by omega,by go_num,by rw [HX.out],HO.out.1⟩,by simp [intOf];omega⟩
      · have HX:Hid ((y++⟨#[32,124,124,32]⟩)++TL=dO (A.take (k+1))):=by
         unfold Hid;rw [HN1.out hk0,hsp]
        have hkk:(0:Int)<(k:Int):=by omega
        clear hsp hk0 HN0 HN1
        go_wp2_with (first|(have _h:=t1;go_at_call 136;refine (HPL.out _).mono ?_;rintro e wz ⟨rfl,ok⟩;have HO9:=aA (HK.out _ _ HO.out ok);clear ok HO t1 p0 p1 p2 p3 p4 p5 p6;have HO:=HO9;clear HO9;obtain ⟨_,⟨p0,p1,p2,p3,p4,p5⟩,p6⟩:=HO.out)|(have _h:=t2;go_at_call 136;refine (HPH.out _).mono ?_;rintro e wz ⟨rfl,ok⟩;have HO9:=aA (HK.out _ _ HO.out ok);clear ok HO t2 p0 p1 p2 p3 p4 p5 p6;have HO:=HO9;clear HO9;obtain ⟨_,⟨p0,p1,p2,p3,p4,p5⟩,p6⟩:=HO.out)|(have _h:=t3;go_at_call 222;refine (HRL.out _).mono ?_;rintro e wz ⟨rfl,ok⟩;have HO9:=aA (HK.out _ _ HO.out ok);clear ok HO t3 p0 p1 p2 p3 p4 p5 p6;have HO:=HO9;clear HO9;obtain ⟨_,⟨p0,p1,p2,p3,p4,p5⟩,p6⟩:=HO.out)|(have _h:=t4;go_at_call 222;refine (HRH.out _).mono ?_;rintro e wz ⟨rfl,ok⟩;have HO9:=aA (HK.out _ _ HO.out ok);clear ok HO t4 p0 p1 p2 p3 p4 p5 p6;have HO:=HO9;clear HO9;obtain ⟨_,⟨p0,p1,p2,p3,p4,p5⟩,p6⟩:=HO.out))
        refine aM HK (by kernel_rfl) (by kernel_rfl) (by first|exact HO.out|exact HK.out.drew HO.out) ?_;intro C HIN HOUT;clear HO
        repeat
         (with_reducible refine wpQuiet_step (fun K hK=> ?_)
          go_simp
          first
           |(refine hK _ ?_;clear hK K)
           |(apply Exists.intro;refine ⟨fun w1 hC=> ?_,hK _ ?_⟩;(focus ((first|(exact rfl)|(obtain ⟨hb1,⟨p0,p1,p2,p3,p4,p5⟩,p6⟩:=HOUT.out w1 hC;clear hC;go_simp;first|done|exact rfl));done));clear hK K))
        refine wpQuiet_nil ?_;intro wn hC;have HO:=aA (HOUT.out _ hC);clear hC HIN HOUT C;obtain ⟨hb1,⟨p0,p1,p2,p3,p4,p5⟩,p6⟩:=HO.out
        go_wp2_with (have _h:=t5;go_at_call 136;refine (HPL.out _).mono ?_;rintro e wz ⟨rfl,ok⟩;have HO9:=aA (HK.out _ _ HO.out ok);clear ok HO t5 p0 p1 p2 p3 p4 p5 p6;have HO:=HO9;clear HO9;obtain ⟨_,⟨p0,p1,p2,p3,p4,p5⟩,p6⟩:=HO.out)
        exact ⟨⟨k+1,by omega,by go_num,by rw [HX.out],HO.out.1⟩,by simp [intOf];omega⟩
    · rw [decide_eq_false c1] at e1
      rw [if_neg c1] at hsp;clear c1
      by_cases c2:lo=0
      · have f1:(lo==0)=true:=by rw [beq_iff_eq];exact c2
        by_cases c3:hi=999999999
        · have f2:(hi==999999999)=true:=by rw [beq_iff_eq];exact c3
          rw [if_pos ⟨c2,c3⟩] at hsp;clear c2 c3
          by_cases hk0:k=0
          · have HX:Hid (y++⟨#[42]⟩=dO (A.take (k+1))):=by
             unfold Hid;rw [HN0.out hk0,hsp]
            have hkk:¬ (0:Int)<(k:Int):=by omega
            clear hsp hk0 HN0 HN1 t5
            go_wp2_with (first|(have _h:=t1;go_at_call 136;refine (HPL.out _).mono ?_;rintro e wz ⟨rfl,ok⟩;have HO9:=aA (HK.out _ _ HO.out ok);clear ok HO t1 p0 p1 p2 p3 p4 p5 p6;have HO:=HO9;clear HO9;obtain ⟨_,⟨p0,p1,p2,p3,p4,p5⟩,p6⟩:=HO.out)|(have _h:=t2;go_at_call 136;refine (HPH.out _).mono ?_;rintro e wz ⟨rfl,ok⟩;have HO9:=aA (HK.out _ _ HO.out ok);clear ok HO t2 p0 p1 p2 p3 p4 p5 p6;have HO:=HO9;clear HO9;obtain ⟨_,⟨p0,p1,p2,p3,p4,p5⟩,p6⟩:=HO.out)|(have _h:=t3;go_at_call 222;refine (HRL.out _).mono ?_;rintro e wz ⟨rfl,ok⟩;have HO9:=aA (HK.out _ _ HO.out ok);clear ok HO t3 p0 p1 p2 p3 p4 p5 p6;have HO:=HO9;clear HO9;obtain ⟨_,⟨p0,p1,p2,p3,p4,p5⟩,p6⟩:=HO.out)|(have _h:=t4;go_at_call 222;refine (HRH.out _).mono ?_;rintro e wz ⟨rfl,ok⟩;have HO9:=aA (HK.out _ _ HO.out ok);clear ok HO t4 p0 p1 p2 p3 p4 p5 p6;have HO:=HO9;clear HO9;obtain ⟨_,⟨p0,p1,p2,p3,p4,p5⟩,p6⟩:=HO.out))
            refine aM HK (by kernel_rfl) (by kernel_rfl) (by first|exact HO.out|exact HK.out.drew HO.out) ?_;intro C HIN HOUT;clear HO
            repeat
             (with_reducible refine wpQuiet_step (fun K hK=> ?_)
              go_simp
              first
               |(refine hK _ ?_;clear hK K)
               |(apply Exists.intro;refine ⟨fun w1 hC=> ?_,hK _ ?_⟩;(focus ((first|(exact rfl)|(obtain ⟨hb1,⟨p0,p1,p2,p3,p4,p5⟩,p6⟩:=HOUT.out w1 hC;clear hC;go_simp;first|done|exact rfl));done));clear hK K))
            refine wpQuiet_nil ?_;intro wn hC;have HO:=aA (HOUT.out _ hC);clear hC HIN HOUT C;obtain ⟨hb1,⟨p0,p1,p2,p3,p4,p5⟩,p6⟩:=HO.out
            go_wp2
            exact ⟨⟨k+1,by omega,by go_num,by rw [HX.out],HO.out.1⟩,by simp [intOf];omega⟩
          · have HX:Hid ((y++⟨#[32,124,124,32]⟩)++⟨#[42]⟩=dO (A.take (k+1))):=by
             unfold Hid;rw [HN1.out hk0,hsp]
            have hkk:(0:Int)<(k:Int):=by omega
            clear hsp hk0 HN0 HN1 t5
            go_wp2_with (first|(have _h:=t1;go_at_call 136;refine (HPL.out _).mono ?_;rintro e wz ⟨rfl,ok⟩;have HO9:=aA (HK.out _ _ HO.out ok);clear ok HO t1 p0 p1 p2 p3 p4 p5 p6;have HO:=HO9;clear HO9;obtain ⟨_,⟨p0,p1,p2,p3,p4,p5⟩,p6⟩:=HO.out)|(have _h:=t2;go_at_call 136;refine (HPH.out _).mono ?_;rintro e wz ⟨rfl,ok⟩;have HO9:=aA (HK.out _ _ HO.out ok);clear ok HO t2 p0 p1 p2 p3 p4 p5 p6;have HO:=HO9;clear HO9;obtain ⟨_,⟨p0,p1,p2,p3,p4,p5⟩,p6⟩:=HO.out)|(have _h:=t3;go_at_call 222;refine (HRL.out _).mono ?_;rintro e wz ⟨rfl,ok⟩;have HO9:=aA (HK.out _ _ HO.out ok);clear ok HO t3 p0 p1 p2 p3 p4 p5 p6;have HO:=HO9;clear HO9;obtain ⟨_,⟨p0,p1,p2,p3,p4,p5⟩,p6⟩:=HO.out)|(have _h:=t4;go_at_call 222;refine (HRH.out _).mono ?_;rintro e wz ⟨rfl,ok⟩;have HO9:=aA (HK.out _ _ HO.out ok);clear ok HO t4 p0 p1 p2 p3 p4 p5 p6;have HO:=HO9;clear HO9;obtain ⟨_,⟨p0,p1,p2,p3,p4,p5⟩,p6⟩:=HO.out))
            refine aM HK (by kernel_rfl) (by kernel_rfl) (by first|exact HO.out|exact HK.out.drew HO.out) ?_;intro C HIN HOUT;clear HO
            repeat
             (with_reducible refine wpQuiet_step (fun K hK=> ?_)
              go_simp
              first
               |(refine hK _ ?_;clear hK K)
               |(apply Exists.intro;refine ⟨fun w1 hC=> ?_,hK _ ?_⟩;(focus ((first|(exact rfl)|(obtain ⟨hb1,⟨p0,p1,p2,p3,p4,p5⟩,p6⟩:=HOUT.out w1 hC;clear hC;go_simp;first|done|exact rfl));done));clear hK K))
            refine wpQuiet_nil ?_;intro wn hC;have HO:=aA (HOUT.out _ hC);clear hC HIN HOUT C;obtain ⟨hb1,⟨p0,p1,p2,p3,p4,p5⟩,p6⟩:=HO.out
            go_wp2
            exact ⟨⟨k+1,by omega,by go_num,by rw [HX.out],HO.out.1⟩,by simp [intOf];omega⟩
        · have f2:(hi==999999999)=false:=by rw [beq_eq_false_iff_ne];exact c3
          rw [if_neg (fun h=>c3 h.2),if_pos c2] at hsp;clear c2 c3
          by_cases hk0:k=0
          · have HX:Hid (y++(⟨#[60,61]⟩++TH)=dO (A.take (k+1))):=by
             unfold Hid;rw [HN0.out hk0,hsp]
            have hkk:¬ (0:Int)<(k:Int):=by omega
            clear hsp hk0 HN0 HN1 t5
            go_wp2_with (first|(have _h:=t1;go_at_call 136;refine (HPL.out _).mono ?_;rintro e wz ⟨rfl,ok⟩;have HO9:=aA (HK.out _ _ HO.out ok);clear ok HO t1 p0 p1 p2 p3 p4 p5 p6;have HO:=HO9;clear HO9;obtain ⟨_,⟨p0,p1,p2,p3,p4,p5⟩,p6⟩:=HO.out)|(have _h:=t2;go_at_call 136;refine (HPH.out _).mono ?_;rintro e wz ⟨rfl,ok⟩;have HO9:=aA (HK.out _ _ HO.out ok);clear ok HO t2 p0 p1 p2 p3 p4 p5 p6;have HO:=HO9;clear HO9;obtain ⟨_,⟨p0,p1,p2,p3,p4,p5⟩,p6⟩:=HO.out)|(have _h:=t3;go_at_call 222;refine (HRL.out _).mono ?_;rintro e wz ⟨rfl,ok⟩;have HO9:=aA (HK.out _ _ HO.out ok);clear ok HO t3 p0 p1 p2 p3 p4 p5 p6;have HO:=HO9;clear HO9;obtain ⟨_,⟨p0,p1,p2,p3,p4,p5⟩,p6⟩:=HO.out)|(have _h:=t4;go_at_call 222;refine (HRH.out _).mono ?_;rintro e wz ⟨rfl,ok⟩;have HO9:=aA (HK.out _ _ HO.out ok);clear ok HO t4 p0 p1 p2 p3 p4 p5 p6;have HO:=HO9;clear HO9;obtain ⟨_,⟨p0,p1,p2,p3,p4,p5⟩,p6⟩:=HO.out))
            refine aM HK (by kernel_rfl) (by kernel_rfl) (by first|exact HO.out|exact HK.out.drew HO.out) ?_;intro C HIN HOUT;clear HO
            repeat
             (with_reducible refine wpQuiet_step (fun K hK=> ?_)
              go_simp
              first
               |(refine hK _ ?_;clear hK K)
               |(apply Exists.intro;refine ⟨fun w1 hC=> ?_,hK _ ?_⟩;(focus ((first|(exact rfl)|(obtain ⟨hb1,⟨p0,p1,p2,p3,p4,p5⟩,p6⟩:=HOUT.out w1 hC;clear hC;go_simp;first|done|exact rfl));done));clear hK K))
            refine wpQuiet_nil ?_;intro wn hC;have HO:=aA (HOUT.out _ hC);clear hC HIN HOUT C;obtain ⟨hb1,⟨p0,p1,p2,p3,p4,p5⟩,p6⟩:=HO.out
            go_wp2
            exact ⟨⟨k+1,by omega,by go_num,by rw [HX.out],HO.out.1⟩,by simp [intOf];omega⟩
          · have HX:Hid ((y++⟨#[32,124,124,32]⟩)++(⟨#[60,61]⟩++TH)=dO (A.take (k+1))):=by
             unfold Hid;rw [HN1.out hk0,hsp]
            have hkk:(0:Int)<(k:Int):=by omega
            clear hsp hk0 HN0 HN1 t5
            go_wp2_with (first|(have _h:=t1;go_at_call 136;refine (HPL.out _).mono ?_;rintro e wz ⟨rfl,ok⟩;have HO9:=aA (HK.out _ _ HO.out ok);clear ok HO t1 p0 p1 p2 p3 p4 p5 p6;have HO:=HO9;clear HO9;obtain ⟨_,⟨p0,p1,p2,p3,p4,p5⟩,p6⟩:=HO.out)|(have _h:=t2;go_at_call 136;refine (HPH.out _).mono ?_;rintro e wz ⟨rfl,ok⟩;have HO9:=aA (HK.out _ _ HO.out ok);clear ok HO t2 p0 p1 p2 p3 p4 p5 p6;have HO:=HO9;clear HO9;obtain ⟨_,⟨p0,p1,p2,p3,p4,p5⟩,p6⟩:=HO.out)|(have _h:=t3;go_at_call 222;refine (HRL.out _).mono ?_;rintro e wz ⟨rfl,ok⟩;have HO9:=aA (HK.out _ _ HO.out ok);clear ok HO t3 p0 p1 p2 p3 p4 p5 p6;have HO:=HO9;clear HO9;obtain ⟨_,⟨p0,p1,p2,p3,p4,p5⟩,p6⟩:=HO.out)|(have _h:=t4;go_at_call 222;refine (HRH.out _).mono ?_;rintro e wz ⟨rfl,ok⟩;have HO9:=aA (HK.out _ _ HO.out ok);clear ok HO t4 p0 p1 p2 p3 p4 p5 p6;have HO:=HO9;clear HO9;obtain ⟨_,⟨p0,p1,p2,p3,p4,p5⟩,p6⟩:=HO.out))
            refine aM HK (by kernel_rfl) (by kernel_rfl) (by first|exact HO.out|exact HK.out.drew HO.out) ?_;intro C HIN HOUT;clear HO
            repeat
             (with_reducible refine wpQuiet_step (fun K hK=> ?_)
              go_simp
              first
               |(refine hK _ ?_;clear hK K)
               |(apply Exists.intro;refine ⟨fun w1 hC=> ?_,hK _ ?_⟩;(focus ((first|(exact rfl)|(obtain ⟨hb1,⟨p0,p1,p2,p3,p4,p5⟩,p6⟩:=HOUT.out w1 hC;clear hC;go_simp;first|done|exact rfl));done));clear hK K))
            refine wpQuiet_nil ?_;intro wn hC;have HO:=aA (HOUT.out _ hC);clear hC HIN HOUT C;obtain ⟨hb1,⟨p0,p1,p2,p3,p4,p5⟩,p6⟩:=HO.out
            go_wp2
            exact ⟨⟨k+1,by omega,by go_num,by rw [HX.out],HO.out.1⟩,by simp [intOf];omega⟩
      · have f1:(lo==0)=false:=by rw [beq_eq_false_iff_ne];exact c2
        by_cases c3:hi=999999999
        · have f2:(hi==999999999)=true:=by rw [beq_iff_eq];exact c3
          rw [if_neg (fun h=>c2 h.1),if_neg c2,if_pos c3] at hsp;clear c2 c3
          by_cases hk0:k=0
          · have HX:Hid (y++(⟨#[62,61]⟩++TL)=dO (A.take (k+1))):=by
             unfold Hid;rw [HN0.out hk0,hsp]
            have hkk:¬ (0:Int)<(k:Int):=by omega
            clear hsp hk0 HN0 HN1 t5
            go_wp2_with (first|(have _h:=t1;go_at_call 136;refine (HPL.out _).mono ?_;rintro e wz ⟨rfl,ok⟩;have HO9:=aA (HK.out _ _ HO.out ok);clear ok HO t1 p0 p1 p2 p3 p4 p5 p6;have HO:=HO9;clear HO9;obtain ⟨_,⟨p0,p1,p2,p3,p4,p5⟩,p6⟩:=HO.out)|(have _h:=t2;go_at_call 136;refine (HPH.out _).mono ?_;rintro e wz ⟨rfl,ok⟩;have HO9:=aA (HK.out _ _ HO.out ok);clear ok HO t2 p0 p1 p2 p3 p4 p5 p6;have HO:=HO9;clear HO9;obtain ⟨_,⟨p0,p1,p2,p3,p4,p5⟩,p6⟩:=HO.out)|(have _h:=t3;go_at_call 222;refine (HRL.out _).mono ?_;rintro e wz ⟨rfl,ok⟩;have HO9:=aA (HK.out _ _ HO.out ok);clear ok HO t3 p0 p1 p2 p3 p4 p5 p6;have HO:=HO9;clear HO9;obtain ⟨_,⟨p0,p1,p2,p3,p4,p5⟩,p6⟩:=HO.out)|(have _h:=t4;go_at_call 222;refine (HRH.out _).mono ?_;rintro e wz ⟨rfl,ok⟩;have HO9:=aA (HK.out _ _ HO.out ok);clear ok HO t4 p0 p1 p2 p3 p4 p5 p6;have HO:=HO9;clear HO9;obtain ⟨_,⟨p0,p1,p2,p3,p4,p5⟩,p6⟩:=HO.out))
            refine aM HK (by kernel_rfl) (by kernel_rfl) (by first|exact HO.out|exact HK.out.drew HO.out) ?_;intro C HIN HOUT;clear HO
            repeat
             (with_reducible refine wpQuiet_step (fun K hK=> ?_)
              go_simp
              first
               |(refine hK _ ?_;clear hK K)
               |(apply Exists.intro;refine ⟨fun w1 hC=> ?_,hK _ ?_⟩;(focus ((first|(exact rfl)|(obtain ⟨hb1,⟨p0,p1,p2,p3,p4,p5⟩,p6⟩:=HOUT.out w1 hC;clear hC;go_simp;first|done|exact rfl));done));clear hK K))
            refine wpQuiet_nil ?_;intro wn hC;have HO:=aA (HOUT.out _ hC);clear hC HIN HOUT C;obtain ⟨hb1,⟨p0,p1,p2,p3,p4,p5⟩,p6⟩:=HO.out
            go_wp2
            exact ⟨⟨k+1,by omega,by go_num,by rw [HX.out],HO.out.1⟩,by simp [intOf];omega⟩
          · have HX:Hid ((y++⟨#[32,124,124,32]⟩)++(⟨#[62,61]⟩++TL)=dO (A.take (k+1))):=by
             unfold Hid;rw [HN1.out hk0,hsp]
            have hkk:(0:Int)<(k:Int):=by omega
            clear hsp hk0 HN0 HN1 t5
            go_wp2_with (first|(have _h:=t1;go_at_call 136;refine (HPL.out _).mono ?_;rintro e wz ⟨rfl,ok⟩;have HO9:=aA (HK.out _ _ HO.out ok);clear ok HO t1 p0 p1 p2 p3 p4 p5 p6;have HO:=HO9;clear HO9;obtain ⟨_,⟨p0,p1,p2,p3,p4,p5⟩,p6⟩:=HO.out)|(have _h:=t2;go_at_call 136;refine (HPH.out _).mono ?_;rintro e wz ⟨rfl,ok⟩;have HO9:=aA (HK.out _ _ HO.out ok);clear ok HO t2 p0 p1 p2 p3 p4 p5 p6;have HO:=HO9;clear HO9;obtain ⟨_,⟨p0,p1,p2,p3,p4,p5⟩,p6⟩:=HO.out)|(have _h:=t3;go_at_call 222;refine (HRL.out _).mono ?_;rintro e wz ⟨rfl,ok⟩;have HO9:=aA (HK.out _ _ HO.out ok);clear ok HO t3 p0 p1 p2 p3 p4 p5 p6;have HO:=HO9;clear HO9;obtain ⟨_,⟨p0,p1,p2,p3,p4,p5⟩,p6⟩:=HO.out)|(have _h:=t4;go_at_call 222;refine (HRH.out _).mono ?_;rintro e wz ⟨rfl,ok⟩;have HO9:=aA (HK.out _ _ HO.out ok);clear ok HO t4 p0 p1 p2 p3 p4 p5 p6;have HO:=HO9;clear HO9;obtain ⟨_,⟨p0,p1,p2,p3,p4,p5⟩,p6⟩:=HO.out))
            refine aM HK (by kernel_rfl) (by kernel_rfl) (by first|exact HO.out|exact HK.out.drew HO.out) ?_;intro C HIN HOUT;clear HO
            repeat
             (with_reducible refine wpQuiet_step (fun K hK=> ?_)
              go_simp
              first
               |(refine hK _ ?_;clear hK K)
               |(apply Exists.intro;refine ⟨fun w1 hC=> ?_,hK _ ?_⟩;(focus ((first|(exact rfl)|(obtain ⟨hb1,⟨p0,p1,p2,p3,p4,p5⟩,p6⟩:=HOUT.out w1 hC;clear hC;go_simp;first|done|exact rfl));done));clear hK K))
            refine wpQuiet_nil ?_;intro wn hC;have HO:=aA (HOUT.out _ hC);clear hC HIN HOUT C;obtain ⟨hb1,⟨p0,p1,p2,p3,p4,p5⟩,p6⟩:=HO.out
            go_wp2
            exact ⟨⟨k+1,by omega,by go_num,by rw [HX.out],HO.out.1⟩,by simp [intOf];omega⟩
        · have f2:(hi==999999999)=false:=by rw [beq_eq_false_iff_ne];exact c3
          rw [if_neg (fun h=>c2 h.1),if_neg c2,if_neg c3] at hsp;clear c2 c3
          by_cases hk0:k=0
          · have HX:Hid (((y++(⟨#[62,61]⟩++TL))++⟨#[32]⟩)++(⟨#[60,61]⟩++TH)=dO (A.take (k+1))):=by
             unfold Hid;rw [HN0.out hk0,hsp];refine gE ?_;simp only [mD]
             simp
            have hkk:¬ (0:Int)<(k:Int):=by omega
            clear hsp hk0 HN0 HN1 t5
            go_wp2_with (first|(have _h:=t1;go_at_call 136;refine (HPL.out _).mono ?_;rintro e wz ⟨rfl,ok⟩;have HO9:=aA (HK.out _ _ HO.out ok);clear ok HO t1 p0 p1 p2 p3 p4 p5 p6;have HO:=HO9;clear HO9;obtain ⟨_,⟨p0,p1,p2,p3,p4,p5⟩,p6⟩:=HO.out)|(have _h:=t2;go_at_call 136;refine (HPH.out _).mono ?_;rintro e wz ⟨rfl,ok⟩;have HO9:=aA (HK.out _ _ HO.out ok);clear ok HO t2 p0 p1 p2 p3 p4 p5 p6;have HO:=HO9;clear HO9;obtain ⟨_,⟨p0,p1,p2,p3,p4,p5⟩,p6⟩:=HO.out)|(have _h:=t3;go_at_call 222;refine (HRL.out _).mono ?_;rintro e wz ⟨rfl,ok⟩;have HO9:=aA (HK.out _ _ HO.out ok);clear ok HO t3 p0 p1 p2 p3 p4 p5 p6;have HO:=HO9;clear HO9;obtain ⟨_,⟨p0,p1,p2,p3,p4,p5⟩,p6⟩:=HO.out)|(have _h:=t4;go_at_call 222;refine (HRH.out _).mono ?_;rintro e wz ⟨rfl,ok⟩;have HO9:=aA (HK.out _ _ HO.out ok);clear ok HO t4 p0 p1 p2 p3 p4 p5 p6;have HO:=HO9;clear HO9;obtain ⟨_,⟨p0,p1,p2,p3,p4,p5⟩,p6⟩:=HO.out))
            refine aM HK (by kernel_rfl) (by kernel_rfl) (by first|exact HO.out|exact HK.out.drew HO.out) ?_;intro C HIN HOUT;clear HO
            repeat
             (with_reducible refine wpQuiet_step (fun K hK=> ?_)
              go_simp
              first
               |(refine hK _ ?_;clear hK K)
               |(apply Exists.intro;refine ⟨fun w1 hC=> ?_,hK _ ?_⟩;(focus ((first|(exact rfl)|(obtain ⟨hb1,⟨p0,p1,p2,p3,p4,p5⟩,p6⟩:=HOUT.out w1 hC;clear hC;go_simp;first|done|exact rfl));done));clear hK K))
            refine wpQuiet_nil ?_;intro wn hC;have HO:=aA (HOUT.out _ hC);clear hC HIN HOUT C;obtain ⟨hb1,⟨p0,p1,p2,p3,p4,p5⟩,p6⟩:=HO.out
            go_wp2
            exact ⟨⟨k+1,by omega,by go_num,by rw [HX.out],HO.out.1⟩,by simp [intOf];omega⟩
          · have HX:Hid ((((y++⟨#[32,124,124,32]⟩)++(⟨#[62,61]⟩++TL))++⟨#[32]⟩)++(⟨#[60,61]⟩++TH)=dO (A.take (k+1))):=by
             unfold Hid;rw [HN1.out hk0,hsp];refine gE ?_;simp only [mD]
             simp
            have hkk:(0:Int)<(k:Int):=by omega
            clear hsp hk0 HN0 HN1 t5
            go_wp2_with (first|(have _h:=t1;go_at_call 136;refine (HPL.out _).mono ?_;rintro e wz ⟨rfl,ok⟩;have HO9:=aA (HK.out _ _ HO.out ok);clear ok HO t1 p0 p1 p2 p3 p4 p5 p6;have HO:=HO9;clear HO9;obtain ⟨_,⟨p0,p1,p2,p3,p4,p5⟩,p6⟩:=HO.out)|(have _h:=t2;go_at_call 136;refine (HPH.out _).mono ?_;rintro e wz ⟨rfl,ok⟩;have HO9:=aA (HK.out _ _ HO.out ok);clear ok HO t2 p0 p1 p2 p3 p4 p5 p6;have HO:=HO9;clear HO9;obtain ⟨_,⟨p0,p1,p2,p3,p4,p5⟩,p6⟩:=HO.out)|(have _h:=t3;go_at_call 222;refine (HRL.out _).mono ?_;rintro e wz ⟨rfl,ok⟩;have HO9:=aA (HK.out _ _ HO.out ok);clear ok HO t3 p0 p1 p2 p3 p4 p5 p6;have HO:=HO9;clear HO9;obtain ⟨_,⟨p0,p1,p2,p3,p4,p5⟩,p6⟩:=HO.out)|(have _h:=t4;go_at_call 222;refine (HRH.out _).mono ?_;rintro e wz ⟨rfl,ok⟩;have HO9:=aA (HK.out _ _ HO.out ok);clear ok HO t4 p0 p1 p2 p3 p4 p5 p6;have HO:=HO9;clear HO9;obtain ⟨_,⟨p0,p1,p2,p3,p4,p5⟩,p6⟩:=HO.out))
            refine aM HK (by kernel_rfl) (by kernel_rfl) (by first|exact HO.out|exact HK.out.drew HO.out) ?_;intro C HIN HOUT;clear HO
            repeat
             (with_reducible refine wpQuiet_step (fun K hK=> ?_)
              go_simp
              first
               |(refine hK _ ?_;clear hK K)
               |(apply Exists.intro;refine ⟨fun w1 hC=> ?_,hK _ ?_⟩;(focus ((first|(exact rfl)|(obtain ⟨hb1,⟨p0,p1,p2,p3,p4,p5⟩,p6⟩:=HOUT.out w1 hC;clear hC;go_simp;first|done|exact rfl));done));clear hK K))
            refine wpQuiet_nil ?_;intro wn hC;have HO:=aA (HOUT.out _ hC);clear hC HIN HOUT C;obtain ⟨hb1,⟨p0,p1,p2,p3,p4,p5⟩,p6⟩:=HO.out
            go_wp2
            exact ⟨⟨k+1,by omega,by go_num,by rw [HX.out],HO.out.1⟩,by simp [intOf];omega⟩
  · have hke:k=A.length:=by omega
    subst hke;have HX:Hid (dO (A.take A.length)=gP A):=by unfold Hid;rw [List.take_length,HPJ.out]
    clear hb
    go_wp2
    go_ret;exact ⟨by rw [HX.out];rfl,HB.out⟩
end Go.Proofs.YtlmpiohbmlddiaaGreatDoor
