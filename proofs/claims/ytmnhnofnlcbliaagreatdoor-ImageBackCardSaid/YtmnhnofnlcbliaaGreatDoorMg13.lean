/- Td1, Rk1, Env1, RowS, RwD, RwP, RwTr, Tw9: their declarations that are needed, laid in one text, remarks and blanks left out. -/
import Derived.Test.YtmnhnofnlcbliaaGreatDoorMg12
namespace Go.Proofs.YtmnhnofnlcbliaaGreatDoor
open Go.RowKit
set_option maxRecDepth 100000
theorem lO {s:ByteArray} {L:List ByteArray}:aT (s::L)=true↔Sc.aK s.data.toList=true∧aT L=true:=by
 unfold aT;rw [List.all_cons,Bool.and_eq_true]
theorem dA (s:ByteArray) (L:List ByteArray):aZ (s::L)=iM++(s.data.toList++aZ L):=by
 unfold aZ iM;rw [List.flatMap_cons,List.append_assoc]
theorem LZ (L:List ByteArray):aZ L=[]∨∃ t,aZ L=47::t:=by
 cases L with
 |nil=>exact Or.inl rfl
 |cons s L=>exact Or.inr ⟨_,dA s L⟩
theorem Bg (r:List UInt8):iM.isPrefixOf (iM++r)=true:=by rw [List.isPrefixOf_iff_prefix];exact List.prefix_append _ _
theorem GH (r:List UInt8):(iM++r).drop 9=r:=List.drop_left (l₁:=iM)
theorem sU:∀ {L:List ByteArray},aT L=true→fG (aZ L)=some L
 |[],_=>rT
 |s::L,h=>by
  obtain ⟨h1,h2⟩:=lO.1 h;have hh:bD (s.data.toList++aZ L)=s.data.toList:=TC (vW h1) (LZ L);have e:=vV (r:=aZ (s::L)) (by rw [dA];simp [iM,fU]) (by rw [dA];exact Bg _) (by rw [dA,GH,hh];exact h1);rw [e,dA,GH,hh,List.drop_left,sU h2];rfl
theorem sV:∀ (n:Nat) {r:List UInt8} {L:List ByteArray},r.length≤n→fG r=some L→aZ L=r∧aT L=true
 |n,[],L,_,h=>by
  rw [rT] at h;cases h;exact ⟨rfl,rfl⟩
 |0,_::_,_,hn,_=>by simp at hn
 |n+1,b::r,L,hn,h=>by
  by_cases hq:iM.isPrefixOf (b::r)=true∧Sc.aK (bD ((b::r).drop 9))=true
  · rw [vV (by simp) hq.1 hq.2] at h
    cases hp:fG (((b::r).drop 9).drop (bD ((b::r).drop 9)).length) with
    |none=>rw [hp] at h;cases h
    |some M=>
     rw [hp] at h;cases h;have ih:=sV n (by simp only [List.length_drop,List.length_cons] at hn ⊢;omega) hp;refine ⟨?_,lO.2 ⟨by rw [Sc.cQ];exact hq.2,ih.2⟩⟩;rw [dA,ih.1,Sc.cQ,←List.append_assoc];exact (vX hq.1).symm
  · rw [vU (by simp) hq] at h
    cases h
theorem jG {L:List ByteArray} (h:L=[]∨aT L=true):cI (aH L).data.toList=some L:=by
 rcases Classical.em (L=[]) with rfl|h0
 · rfl
 · have hn:aT L=true:=h.resolve_left h0
   have e:(aH L).data.toList=aZ L:=by unfold aH;rw [if_neg h0,if_pos hn]
   rw [e];cases L with
   |nil=>exact absurd rfl h0
   |cons s L=>
    unfold cI;rw [if_neg (by rw [dA];simp [iM,fU]),if_neg (by rw [dA];simp [iM,fU])];exact sU hn
theorem oM {t:ByteArray} {L:List ByteArray} (h:cI t.data.toList=some L):aH L=t:=by
 unfold cI at h
 by_cases h1:t.data.toList=[47]
 · rw [if_pos h1] at h
   cases h;exact bC (by rw [ByteArray.toList_eq,ByteArray.toList_eq,h1];rfl)
 · rw [if_neg h1] at h
   by_cases h2:t.data.toList=[]
   · rw [if_pos h2] at h
     cases h
   · rw [if_neg h2] at h
     obtain ⟨e1,e2⟩:=sV _ (Nat.le_refl _) h;have h0:L≠[]:=fun e=>h2 (by rw [←e1,e];rfl)
     unfold aH;rw [if_neg h0,if_pos e2];exact bC (by rw [ByteArray.toList_eq,ByteArray.toList_eq,←e1])
theorem kR:∀ {L:List ByteArray},aT L=true→10*L.length≤(aZ L).length
 |[],_=>by simp
 |s::L,h=>by
  obtain ⟨h1,h2⟩:=lO.1 h
  have:=kR h2
  have:=zZ h1
  rw [dA,List.length_append,List.length_append,GD,List.length_cons];omega
theorem iF:∀ {L:List ByteArray},aT L=true→(aZ L).count 47=2*L.length
 |[],_=>by simp [aZ]
 |s::L,h=>by
  obtain ⟨h1,h2⟩:=lO.1 h;have e1:iM.count 47=2:=by decide
  have e2:s.data.toList.count 47=0:=List.count_eq_zero.2 (vW h1);rw [dA,List.count_append,List.count_append,e1,e2,iF h2,List.length_cons];omega
theorem oN (L:List ByteArray) (k:Nat):(aZ (L.take k)).length≤(aZ L).length:=by
 have e:aZ L=aZ (L.take k)++aZ (L.drop k):=by rw [←TE,List.take_append_drop]
 rw [e,List.length_append];omega
set_option maxHeartbeats 1600000 in
theorem GI (A B:List Sp) (hAB:A.length=B.length) (hsz:A.length≤9223372036854775807) (ga oa ca gb ob cb:Nat) (w:World) (hga:ga<w.heap.size) (hgb:gb<w.heap.size) (hla:∀ i (h:i<A.length),SpAt w ga (oa+i*6) A[i]) (hlb:∀ i (h:i<B.length),SpAt w gb (ob+i*6) B[i]):
 Calls Tryz.prog 110 #[.slice (some ⟨ga,oa,none⟩) A.length ca,.slice (some ⟨gb,ob,none⟩) B.length cb] w fun e w'=>e= .returned (.bool (eqB A B))∧Below w.heap.size w w':=by
 have HL:Hid (∀ w1,Below w.heap.size w w1→∀ i (h:i<A.length) (h2:i<B.length),oC w1 ga (oa+i*6) A[i]∧oC w1 gb (ob+i*6) B[i]):=fun w1 hb i hi hi2=>⟨⟨(hla i hi).below hb hga,Nat.lt_of_lt_of_le hga hb.size⟩,⟨(hlb i hi2).below hb hgb,Nat.lt_of_lt_of_le hgb hb.size⟩⟩
 have HAB:=aB hAB;clear hla hlb;rw [←hAB];clear hAB
 go_enter Tryz.func110,Tryz.ntmps110
 go_wp2_with fail
 go_loopw [5] (fun i wr=>∃ k:Nat,k≤A.length∧i= .int .i64 k∧Below w.heap.size w wr∧∀ j (h:j<k) (h1:j<A.length) (h2:j<B.length),A[j]=B[j]) (fun i _=>A.length - (intOf i).toNat)
 case atStart=>exact ⟨0,Nat.zero_le _,rfl,Below.refl _ _,fun j h=>by omega⟩
 case round=>
  obtain ⟨k,hk,rfl,hb,hall⟩:=hrel;have HALL:=aB hall;have HB:=aB hb;clear hall
  by_cases hlt:k<A.length
  · have hltB:k<B.length:=HAB.out ▸ hlt
    have HO:Hid (Below w.heap.size w wr∧oC wr ga (oa+k*6) A[k]∧oC wr gb (ob+k*6) B[k]):=⟨hb,HL.out wr hb k hlt hltB⟩;have HK:Hid (KeepP fun w1=>Below w.heap.size w w1∧oC w1 ga (oa+k*6) A[k]∧oC w1 gb (ob+k*6) B[k]):=(aG w).and ((rF _ _ _).and (rF _ _ _));have HNE:Hid (eqS A[k] B[k]=false→eqB A B=false):=fun h=>bX fun e=>by subst e;rw [(nE).2 rfl] at h;cases h
    have HST:Hid (eqS A[k] B[k]=true→∀ j (h:j<k+1) (h1:j<A.length) (h2:j<B.length),A[j]=B[j]):=fun h j hj h1 h2=>by
     rcases Nat.lt_or_ge j k with hjk|hjk
     · exact HALL.out j hjk h1 h2
     · obtain rfl:j=k:=by omega
       exact nE.1 h
    generalize A[k]=s at*;generalize B[k]=t at*;obtain ⟨a,b,c,x,y,z⟩:=s;obtain ⟨a',b',c',x',y',z'⟩:=t;have he:=WB a b c x y z a' b' c' x' y' z';have hgd:=OZ;cases hq:eqS ⟨a,b,c,x,y,z⟩ ⟨a',b',c',x',y',z'⟩
    · have HR:=aB (HNE.out hq)
      rw [hq] at he;clear hb HNE HST HALL
      go_wp2_with fail
      refine cE HK (by kernel_rfl) (by kernel_rfl) (by first|exact HO.out|exact HK.out.drew HO.out) ?_;intro C HIN HOUT;clear HO
      repeat
       (with_reducible refine wpQuiet_step (fun K hK=> ?_)
        go_simp
        first
         |(refine hK _ ?_;clear hK K)
         |(apply Exists.intro;refine ⟨fun w1 hC=> ?_,hK _ ?_⟩;(focus ((first|(exact rfl)|(obtain ⟨hb1,⟨⟨p0,p1,p2,p3,p4,p5⟩,p6⟩,⟨⟨q0,q1,q2,q3,q4,q5⟩,q6⟩⟩:=HOUT.out w1 hC;clear hC;go_simp;first|done|exact rfl));done));clear hK K))
      refine wpQuiet_nil ?_;intro wn hC;have HO:=aB (HOUT.out _ hC);clear hC HIN HOUT C;obtain ⟨hb1,⟨⟨p0,p1,p2,p3,p4,p5⟩,p6⟩,⟨⟨q0,q1,q2,q3,q4,q5⟩,q6⟩⟩:=HO.out
      go_wp2
      go_ret;exact ⟨aD HR.out.symm,HO.out.1⟩
    · have HR:=aB (HST.out hq)
      rw [hq] at he;clear hb HNE HST HALL
      go_wp2_with fail
      refine cE HK (by kernel_rfl) (by kernel_rfl) (by first|exact HO.out|exact HK.out.drew HO.out) ?_;intro C HIN HOUT;clear HO
      repeat
       (with_reducible refine wpQuiet_step (fun K hK=> ?_)
        go_simp
        first
         |(refine hK _ ?_;clear hK K)
         |(apply Exists.intro;refine ⟨fun w1 hC=> ?_,hK _ ?_⟩;(focus ((first|(exact rfl)|(obtain ⟨hb1,⟨⟨p0,p1,p2,p3,p4,p5⟩,p6⟩,⟨⟨q0,q1,q2,q3,q4,q5⟩,q6⟩⟩:=HOUT.out w1 hC;clear hC;go_simp;first|done|exact rfl));done));clear hK K))
      refine wpQuiet_nil ?_;intro wn hC;have HO:=aB (HOUT.out _ hC);clear hC HIN HOUT C;obtain ⟨hb1,⟨⟨p0,p1,p2,p3,p4,p5⟩,p6⟩,⟨⟨q0,q1,q2,q3,q4,q5⟩,q6⟩⟩:=HO.out
      go_wp2
      exact ⟨⟨k+1,by omega,by go_num,HO.out.1,HR.out⟩,by simp [intOf];omega⟩
  · have hke:k=A.length:=by omega
    subst hke;have HR:Hid (eqB A B=true):=aX (List.ext_getElem HAB.out fun j h1 h2=>HALL.out j h1 h1 h2);clear hb
    go_wp2
    go_ret;exact ⟨aD HR.out.symm,HB.out⟩
theorem vY (ad bd:Option Addr) (ca cb:Nat) (w:World):
 Calls Tryz.prog 110 #[.slice ad 0 ca,.slice bd 0 cb] w fun e w'=>e= .returned (.bool true)∧Below w.heap.size w w':=by
 go_enter Tryz.func110,Tryz.ntmps110
 go_wp2_with fail
 go_loop [5] (fun i=>i= .int .i64 0) (fun _=>0)
 case atStart=>rfl
 case round=>
  subst hrel
  go_wp2
  go_ret;exact ⟨rfl,Below.refl _ _⟩
theorem MA (ad bd:Option Addr) (n m ca cb:Nat) (h:n≠m) (w:World):
 Calls Tryz.prog 110 #[.slice ad n ca,.slice bd m cb] w fun e w'=>e= .returned (.bool false)∧Below w.heap.size w w':=by
 have hn:((n:Int)=(m:Int))=False:=by simp;omega
 go_enter Tryz.func110,Tryz.ntmps110
 go_wp2
 go_ret;exact ⟨rfl,Below.refl _ _⟩
theorem MB {A B:List Sp} {va vb:Value} {w:World} (ha:SpansAt w va A) (hb:SpansAt w vb B) (hsz:A.length≤9223372036854775807):
 Calls Tryz.prog 110 #[va,vb] w fun e w'=>e= .returned (.bool (eqB A B))∧Below w.heap.size w w':=by
 obtain ⟨ad,ca,rfl,hl⟩:=ha;obtain ⟨bd,cb,rfl,hm⟩:=hb
 by_cases hn:A.length=B.length
 · rcases hl with rfl|⟨ga,oa,rfl,hga,hla⟩
   · obtain rfl:B=[]:=List.eq_nil_of_length_eq_zero (by simpa using hn.symm)
     rw [aX rfl];exact vY _ _ _ _ w
   · rcases hm with rfl|⟨gb,ob,rfl,hgb,hlb⟩
     · obtain rfl:A=[]:=List.eq_nil_of_length_eq_zero (by simpa using hn)
       rw [aX rfl];exact vY _ _ _ _ w
     · exact GI A B hn hsz ga oa ca gb ob cb w hga hgb hla hlb
 · rw [bX fun e=>hn (by rw [e])]
   exact MA _ _ _ _ _ _ hn w
set_option maxHeartbeats 3200000 in
theorem MC (A B:List Dp) (hAB:A.length=B.length) (hsz:A.length≤9223372036854775807) (ga oa ca gb ob cb:Nat) (w:World) (hla:∀ i (h:i<A.length),∃ u,DpIn w ga (oa+i*2) A[i] u) (hlb:∀ i (h:i<B.length),∃ u,DpIn w gb (ob+i*2) B[i] u):
 Calls Tryz.prog 60 #[.slice (some ⟨ga,oa,none⟩) A.length ca,.slice (some ⟨gb,ob,none⟩) B.length cb] w fun e w'=>e= .returned (.bool (eqB A B))∧Below w.heap.size w w':=by
 have HL:Hid (∀ w1,Below w.heap.size w w1→∀ i (h:i<A.length) (h2:i<B.length),(∃ u,DpIn w1 ga (oa+i*2) A[i] u)∧∃ u,DpIn w1 gb (ob+i*2) B[i] u):=fun w1 hb i hi hi2=>⟨(hla i hi).imp fun u h=>h.below hb,(hlb i hi2).imp fun u h=>h.below hb⟩
 have HAB:=aB hAB;clear hla hlb;rw [←hAB];clear hAB
 go_enter Tryz.func60,Tryz.ntmps60
 go_wp2_with fail
 go_loopw [5] (fun i wr=>∃ k:Nat,k≤A.length∧i= .int .i64 k∧Below w.heap.size w wr∧∀ j (h:j<k) (h1:j<A.length) (h2:j<B.length),A[j]=B[j]) (fun i _=>A.length - (intOf i).toNat)
 case atStart=>exact ⟨0,Nat.zero_le _,rfl,Below.refl _ _,fun j h=>by omega⟩
 case round=>
  obtain ⟨k,hk,rfl,hb,hall⟩:=hrel;have HALL:=aB hall;have HB:=aB hb;clear hall
  by_cases hlt:k<A.length
  · have hltB:k<B.length:=HAB.out ▸ hlt
    obtain ⟨⟨u,hu⟩,⟨v,hv⟩⟩:=HL.out wr hb k hlt hltB;have HO:Hid (Below w.heap.size w wr∧DpIn wr ga (oa+k*2) A[k] u∧DpIn wr gb (ob+k*2) B[k] v):=⟨hb,hu,hv⟩;have HK:Hid (KeepP fun w1=>Below w.heap.size w w1∧DpIn w1 ga (oa+k*2) A[k] u∧DpIn w1 gb (ob+k*2) B[k] v):=(aG w).and ((WC _ _ _ _).and (WC _ _ _ _));have HC:Hid (∀ w1,(Below w.heap.size w w1∧DpIn w1 ga (oa+k*2) A[k] u∧DpIn w1 gb (ob+k*2) B[k] v)→Calls Tryz.prog 110 #[u,v] w1 fun x w'=>x= .returned (.bool (eqB A[k].rg B[k].rg))∧Below w1.heap.size w1 w'):=fun w1 h=>MB h.2.1.2.2.1.1.1 h.2.2.2.2.1.1.1 h.2.1.2.2.1.2
    have HNE:Hid (A[k]≠B[k]→eqB A B=false):=fun h=>bX fun e=>by subst e;exact h rfl
    have HST:Hid (A[k]=B[k]→∀ j (h:j<k+1) (h1:j<A.length) (h2:j<B.length),A[j]=B[j]):=fun h j hj h1 h2=>by
     rcases Nat.lt_or_ge j k with hjk|hjk
     · exact HALL.out j hjk h1 h2
     · obtain rfl:j=k:=by omega
       exact h
    obtain ⟨au,cu,rfl⟩:=hu.2.2.1.1.1.sl;obtain ⟨av,cv,rfl⟩:=hv.2.2.1.1.1.sl;clear hu hv;generalize A[k]=d at*;generalize B[k]=e at*;obtain ⟨n,r⟩:=d;obtain ⟨m,q⟩:=e
    simp only at*
    by_cases hn:n=m
    · subst hn
      have hq:(n.toList==n.toList)=true:=by simp
      cases hr:eqB r q
      · have HR:=aB (HNE.out fun e=>by injection e with _ e2;rw [aX e2] at hr;cases hr)
        rw [hr] at HC;clear hb HNE HST HALL hr
        go_wp2_with fail
        refine cE HK (by kernel_rfl) (by kernel_rfl) (by first|exact HO.out|exact HK.out.drew HO.out) ?_;intro C HIN HOUT;clear HO
        repeat
         (with_reducible refine wpQuiet_step (fun K hK=> ?_)
          go_simp
          first
           |(refine hK _ ?_;clear hK K)
           |(apply Exists.intro;refine ⟨fun w1 hC=> ?_,hK _ ?_⟩;(focus ((first|(go_at_call 110;with_reducible exact bJ HIN HOUT HK HC.out w1 hC)|(exact rfl)|(obtain ⟨hb1,⟨p0,p1,ph,p3⟩,⟨q0,q1,qh,q3⟩⟩:=HOUT.out w1 hC;clear hC;go_simp;first|done|exact rfl));done));clear hK K))
        refine wpQuiet_nil ?_;intro wn hC;have HO:=aB (HOUT.out _ hC);clear hC HIN HOUT C;obtain ⟨hb1,⟨p0,p1,ph,p3⟩,⟨q0,q1,qh,q3⟩⟩:=HO.out
        go_wp2
        go_ret;exact ⟨aD HR.out.symm,HO.out.1⟩
      · have HR:=aB (HST.out (by rw [eW.1 hr]))
        rw [hr] at HC;clear hb HNE HST HALL hr
        go_wp2_with fail
        refine cE HK (by kernel_rfl) (by kernel_rfl) (by first|exact HO.out|exact HK.out.drew HO.out) ?_;intro C HIN HOUT;clear HO
        repeat
         (with_reducible refine wpQuiet_step (fun K hK=> ?_)
          go_simp
          first
           |(refine hK _ ?_;clear hK K)
           |(apply Exists.intro;refine ⟨fun w1 hC=> ?_,hK _ ?_⟩;(focus ((first|(go_at_call 110;with_reducible exact bJ HIN HOUT HK HC.out w1 hC)|(exact rfl)|(obtain ⟨hb1,⟨p0,p1,ph,p3⟩,⟨q0,q1,qh,q3⟩⟩:=HOUT.out w1 hC;clear hC;go_simp;first|done|exact rfl));done));clear hK K))
        refine wpQuiet_nil ?_;intro wn hC;have HO:=aB (HOUT.out _ hC);clear hC HIN HOUT C;obtain ⟨hb1,⟨p0,p1,ph,p3⟩,⟨q0,q1,qh,q3⟩⟩:=HO.out
        go_wp2
        exact ⟨⟨k+1,by omega,by go_num,HO.out.1,HR.out⟩,by simp [intOf];omega⟩
    · have HR:=aB (HNE.out fun e=>hn (by injection e))
      have hq:(n.toList==m.toList)=false:=beq_eq_false_iff_ne.2 fun e=>hn (bC e)
      clear hb HNE HST HALL HC
      go_wp2_with fail
      refine cE HK (by kernel_rfl) (by kernel_rfl) (by first|exact HO.out|exact HK.out.drew HO.out) ?_;intro C HIN HOUT;clear HO
      repeat
       (with_reducible refine wpQuiet_step (fun K hK=> ?_)
        go_simp
        first
         |(refine hK _ ?_;clear hK K)
         |(apply Exists.intro;refine ⟨fun w1 hC=> ?_,hK _ ?_⟩;(focus ((first|(exact rfl)|(obtain ⟨hb1,⟨p0,p1,ph,p3⟩,⟨q0,q1,qh,q3⟩⟩:=HOUT.out w1 hC;clear hC;go_simp;first|done|exact rfl));done));clear hK K))
      refine wpQuiet_nil ?_;intro wn hC;have HO:=aB (HOUT.out _ hC);clear hC HIN HOUT C;obtain ⟨hb1,⟨p0,p1,ph,p3⟩,⟨q0,q1,qh,q3⟩⟩:=HO.out
      go_wp2
      go_ret;exact ⟨aD HR.out.symm,HO.out.1⟩
  · have hke:k=A.length:=by omega
    subst hke;have HR:Hid (eqB A B=true):=aX (List.ext_getElem HAB.out fun j h1 h2=>HALL.out j h1 h1 h2);clear hb
    go_wp2
    go_ret;exact ⟨aD HR.out.symm,HB.out⟩
theorem AB (ad bd:Option Addr) (ca cb:Nat) (w:World):
 Calls Tryz.prog 60 #[.slice ad 0 ca,.slice bd 0 cb] w fun e w'=>e= .returned (.bool true)∧Below w.heap.size w w':=by
 go_enter Tryz.func60,Tryz.ntmps60
 go_wp2_with fail
 go_loop [5] (fun i=>i= .int .i64 0) (fun _=>0)
 case atStart=>rfl
 case round=>
  subst hrel
  go_wp2
  go_ret;exact ⟨rfl,Below.refl _ _⟩
theorem TF (ad bd:Option Addr) (n m ca cb:Nat) (h:n≠m) (w:World):
 Calls Tryz.prog 60 #[.slice ad n ca,.slice bd m cb] w fun e w'=>e= .returned (.bool false)∧Below w.heap.size w w':=by
 have hn:((n:Int)=(m:Int))=False:=by simp;omega
 go_enter Tryz.func60,Tryz.ntmps60
 go_wp2
 go_ret;exact ⟨rfl,Below.refl _ _⟩
theorem rU {A B:List Dp} {va vb:Value} {w:World} (ha:DepsAt w va A) (hb:DepsAt w vb B) (hsz:A.length≤9223372036854775807):
 Calls Tryz.prog 60 #[va,vb] w fun e w'=>e= .returned (.bool (eqB A B))∧Below w.heap.size w w':=by
 obtain ⟨ad,ca,rfl,_,hl⟩:=ha;obtain ⟨bd,cb,rfl,_,hm⟩:=hb
 by_cases hn:A.length=B.length
 · rcases hl with rfl|⟨ga,oa,rfl,hga,hla⟩
   · obtain rfl:B=[]:=List.eq_nil_of_length_eq_zero (by simpa using hn.symm)
     rw [aX rfl];exact AB _ _ _ _ w
   · rcases hm with rfl|⟨gb,ob,rfl,hgb,hlb⟩
     · obtain rfl:A=[]:=List.eq_nil_of_length_eq_zero (by simpa using hn)
       rw [aX rfl];exact AB _ _ _ _ w
     · exact MC A B hn hsz ga oa ca gb ob cb w hla hlb
 · rw [bX fun e=>hn (by rw [e])]
   exact TF _ _ _ _ _ _ hn w
end Go.Proofs.YtmnhnofnlcbliaaGreatDoor
namespace Go.Proofs.YtmnhnofnlcbliaaGreatDoor
open Go.ChangeShapes Go.WideShapes Go.ChangeAt Go.RowKit
set_option maxRecDepth 100000
theorem Fw: "*" ++ "errors.errorString" = "*errors.errorString" :=by decide
theorem PM (u:TypeId) (h:Tryz.prog.typeName? 3 u=some "*errors.errorString"):u=344:=
 typeName_ptr_named (nm:= "errors.errorString") (by rw [Fw];kernel_rfl) (by kernel_rfl) (by decide) u (by rw [Fw];exact h)
theorem XH {W:World} (h:W.ShapedOpen Tryz.prog):∃ m,W.cell? ⟨0,0,none⟩=some (.int .i64 m):=
 cell_of_shapedOpen_int (t:=3) (zero:= #[.int .i64 0]) h (by decide+kernel) (by kernel_rfl) rfl (by kernel_rfl) (by kernel_rfl) Tryz.underlying3
theorem Bh:Tryz.prog.cellsOf 210=6:=by kernel_rfl
theorem qD {H:Type} {enc:TypeId×Value→H} {W:World} {base:Nat} {spare:Nat→Bool} {held:Bool} {n:Nat} {cs:List Value} {x:DataW H×List MemPlace} (h:DataW.trod enc Tryz.prog W base spare held n 52 cs=some x):
 ∃ a b c,cs[0]? =some (.int .i64 a)∧cs[1]? =some (.int .i64 b)∧cs[2]? =some (.int .i64 c)∧x.1= .agg [.lit (.int .i64 a),.lit (.int .i64 b),.lit (.int .i64 c)]:=by
 have hs:Tryz.prog.underlying 52=some (.struct (Tryz.prog.fieldsOf 52)):=by kernel_rfl
 obtain ⟨xs,n',_,hx,_,hxl,hf⟩:=DataW.trod_struct hs h;have hfz:(Tryz.prog.fieldsOf 52).size=3:=by kernel_rfl
 have lP:∀ i off,((Tryz.prog.fieldsOf 52)[i]?).map (fun f=>(f.type,f.offset))=some (3,off)→i<3→∃ k,cs[off]? =some (.int .i64 k)∧xs[i]? =some (.lit (.int .i64 k),[]):=by
  intro i off hfd hi;obtain ⟨f,h1,h2,h3⟩:=bG hfd;have hr:=hf i f h1;rw [h2,h3,EL,List.getElem?_eq_getElem (by omega:i<xs.length)] at hr;obtain ⟨k,e1,e2,wk⟩:=DataW.trod_int Tryz.underlying3 hr;exact ⟨k,EM e1,by rw [List.getElem?_eq_getElem (by omega:i<xs.length),e2]⟩
 obtain ⟨a,a0,x0⟩:=lP 0 0 (by kernel_rfl) (by decide);obtain ⟨b,a1,x1⟩:=lP 1 1 (by kernel_rfl) (by decide);obtain ⟨c,a2,x2⟩:=lP 2 2 (by kernel_rfl) (by decide);refine ⟨a,b,c,a0,a1,a2,?_⟩;rw [hx];obtain ⟨y0,y1,y2,rfl⟩:=Fp (l:=xs) (by omega)
 simp at x0 x1 x2
 subst x0 x1 x2;rfl
theorem TG {H:Type} {enc:TypeId×Value→H} {W:World} {base:Nat} {spare:Nat→Bool} {held:Bool} {n:Nat} {g o:Nat} {cs:List Value} {x:DataW H×List MemPlace} (hc:W.cells? base ⟨g,o,none⟩ 6=some cs) (h:DataW.trod enc Tryz.prog W base spare held n 210 cs=some x):∃ s,SpAt W g o s:=by
 have hs:Tryz.prog.underlying 210=some (.struct (Tryz.prog.fieldsOf 210)):=by kernel_rfl
 obtain ⟨xs,n',_,_,_,hxl,hf⟩:=DataW.trod_struct hs h;have hsz:(Tryz.prog.fieldsOf 210).size=2:=by kernel_rfl
 obtain ⟨_,_,hq⟩:=World.cells?_some hc
 have vers:∀ i off,((Tryz.prog.fieldsOf 210)[i]?).map (fun f=>(f.type,f.offset))=some (52,off)→i<2→∃ a b c,cs[off]? =some (.int .i64 a)∧cs[off+1]? =some (.int .i64 b)∧cs[off+2]? =some (.int .i64 c):=by
  intro i off hfd hi;obtain ⟨f,h1,h2,h3⟩:=bG hfd;have hr:=hf i f h1;rw [h2,h3,pM,List.getElem?_eq_getElem (by omega:i<xs.length)] at hr;obtain ⟨a,b,c,e0,e1,e2,_⟩:=qD hr
  simp at e0 e1 e2
  exact ⟨a,b,c,e0,e1,e2⟩
 obtain ⟨a,b,c,a0,a1,a2⟩:=vers 0 0 (by kernel_rfl) (by decide);obtain ⟨x,y,z,a3,a4,a5⟩:=vers 1 3 (by kernel_rfl) (by decide);have ad:∀ i,(⟨g,o,none⟩:Addr).add i=⟨g,o+i,none⟩:=fun i=>by unfold Addr.add;split<;>simp_all
 have q0:=hq 0 (by decide);have q1:=hq 1 (by decide);have q2:=hq 2 (by decide);have q3:=hq 3 (by decide);have q4:=hq 4 (by decide);have q5:=hq 5 (by decide);rw [ad] at q0 q1 q2 q3 q4 q5;exact ⟨⟨a,b,c,x,y,z⟩,by rw [←a0,←q0];rfl,by rw [←a1,←q1],by rw [←a2,←q2],by rw [←a3,←q3],by rw [←a4,←q4],by rw [←a5,←q5]⟩
theorem PN {P:Nat→Sp→Prop}:∀ {n:Nat},(∀ i,i<n→∃ s,P i s)→∃ L:List Sp,L.length=n∧∀ i (h:i<L.length),P i L[i]
 |0,_=>⟨[],rfl,fun i h=>by simp at h⟩
 |n+1,h=>by
  obtain ⟨L,hl,hP⟩:=PN (n:=n) fun i hi=>h i (by omega)
  obtain ⟨s,hs⟩:=h n (by omega);refine ⟨L++[s],by simp [hl],fun i hi=> ?_⟩
  by_cases hin:i<L.length
  · rw [List.getElem_append_left hin];exact hP i hin
  · have:i=n:=by simp at hi;omega
    subst this
    simpa [hl] using hs
theorem vZ {H:Type} {enc:TypeId×Value→H} {W:World} {base fuel:Nat} {held:Bool} {a:Option Addr} {len cap:Nat} {x:DataW H×List MemPlace} (h:DataW.trod enc Tryz.prog W base (fun _=>true) held fuel 168 [.slice a len cap]=some x):
 ∃ L:List Sp,SpansC W (.slice a len cap) L:=by
 rcases Go.Deep.open_slice Tryz.underlying168 h with ⟨hcs,_⟩|⟨ad,l,c,m,n,D,Pl,hcs,_,hl,_,hm,hx,hel⟩
 · simp only [List.cons.injEq,Value.slice.injEq,and_true] at hcs
   obtain ⟨rfl,rfl,rfl⟩:=hcs;exact ⟨[],⟨_,_,rfl,Or.inl rfl⟩,_,_,_,rfl,Nat.le_refl _⟩
 · simp only [List.cons.injEq,Value.slice.injEq,and_true] at hcs
   obtain ⟨rfl,rfl,rfl⟩:=hcs
   rcases Nat.eq_zero_or_pos len with h0|h0
   · subst h0
     exact ⟨[],⟨_,_,rfl,Or.inl rfl⟩,_,_,_,rfl,hl⟩
   · have hmm:len≤m:=by rw [hm];simp;exact hl
     rw [Bh] at hel;obtain ⟨g,off,spot⟩:=ad;obtain ⟨cs0,hc0,_⟩:=hel 0 (by omega);obtain ⟨_,hln,hq⟩:=World.cells?_some hc0;have hcell:=hq 0 (by decide);rw [List.getElem?_eq_getElem (by omega:0<cs0.length)] at hcell;have hspot:spot=none:=by simpa [Addr.add] using World.cell?_spot hcell
     subst hspot;have ad2:∀ o i,(⟨g,o,none⟩:Addr).add i=⟨g,o+i,none⟩:=fun o i=>by unfold Addr.add;split<;>simp_all
     obtain ⟨L,hL,hP⟩:=PN (P:=fun i s=>SpAt W g (off+i*6) s) (n:=len) fun i hi=>by
      obtain ⟨cs,hc,ht⟩:=hel i (by omega);rw [ad2] at hc;exact TG hc ht
     subst hL;refine ⟨L,⟨_,_,rfl,Or.inr ⟨g,off,rfl,?_,hP⟩⟩,_,_,_,rfl,hl⟩
     have:=bY hcell
     rw [ad2,ad2] at this;exact this
theorem GJ {W:World} {nm:String} {a b c:Int} {r:List (String×DataW Unit)} {g:Nat} (hg:Tryz.prog.globalNamed nm=some g) (hty:(Tryz.prog.globals[g]?).map (·.type)=some 52)
 (h:laidMet Tryz.prog ((nm,.agg [.lit (.int .i64 a),.lit (.int .i64 b),.lit (.int .i64 c)])::r) W):
 W.cell? ⟨g,0,none⟩=some (.int .i64 a)∧W.cell? ⟨g,1,none⟩=some (.int .i64 b)∧W.cell? ⟨g,2,none⟩=some (.int .i64 c):=by
 obtain ⟨ps,⟨g',t',cs,fuel,p,q,hg',ht',hvar,hd,_,_⟩,_⟩:=h;obtain rfl:=Option.some.inj (hg.symm.trans hg');obtain rfl:=Option.some.inj (hty.symm.trans ht');obtain ⟨x,y,z,e0,e1,e2,hx⟩:=qD hd
 simp at hx
 obtain ⟨rfl,rfl,rfl⟩:=hx;have c0:=World.var?_cell hg hvar 0;have c1:=World.var?_cell hg hvar 1;have c2:=World.var?_cell hg hvar 2;exact ⟨by rw [c0];simpa using e0,by rw [c1];simpa using e1,by rw [c2];simpa using e2⟩
abbrev Fx:List (String×DataW Unit):=[("math/bits.deBruijn32tab",Rows.laid_math_bits_deBruijn32tab),("math/bits.deBruijn64tab",Rows.laid_math_bits_deBruijn64tab),("internal/strconv.uint64pow10",Rows.laid_internal_strconv_uint64pow10),("unicode/utf8.acceptRanges",Rows.laid_unicode_utf8_acceptRanges),("strconv.ErrRange",Rows.laid_strconv_ErrRange),("strconv.ErrSyntax",Rows.laid_strconv_ErrSyntax),("halyard/span.first",Rows.laid_halyard_span_first),("halyard/span.last",Rows.laid_halyard_span_last),("unicode/utf8.first",Rows.laid_unicode_utf8_first)]
theorem PO {W:World} (hsh:W.ShapedOpen Tryz.prog) (h:laidMet Tryz.prog Fx W):Env W∧FL W:=by
 have hT:=Ed h;have h3:=laidMet.tail (laidMet.tail (laidMet.tail (laidMet.tail h)));have h4:=laidMet.tail h3;have h5:=laidMet.tail h4;have h6:=laidMet.tail h5;obtain ⟨a1,s1,hv1,_⟩:=laid_sentinel h3 (g:=9) (ti:=121) (te:=346) (ts:=9) (by kernel_rfl) (by kernel_rfl) Tryz.underlying121 PM Tryz.underlying344 Tryz.underlying346 rfl rfl Tryz.underlying9 (by kernel_rfl) (by kernel_rfl);obtain ⟨a2,s2,hv2,_⟩:=laid_sentinel h4 (g:=8) (ti:=121) (te:=346) (ts:=9) (by kernel_rfl) (by kernel_rfl) Tryz.underlying121 PM Tryz.underlying344 Tryz.underlying346 rfl rfl Tryz.underlying9 (by kernel_rfl) (by kernel_rfl);have c1:=World.var?_cell (g:=9) (by kernel_rfl) hv1 0;have c2:=World.var?_cell (g:=8) (by kernel_rfl) hv2 0;have f1:=GJ (g:=1) (by kernel_rfl) (by kernel_rfl) h5;have f2:=GJ (g:=2) (by kernel_rfl) (by kernel_rfl) h6
 exact ⟨{ max:=XH hsh,tab:=hT,syn:=⟨_,_,by simpa using c2⟩,rng:=⟨_,_,by simpa using c1⟩ },f1,f2,bY f1.1,bY f2.1⟩
theorem rV:Tryz.prog.cellsOf 9=1:=by kernel_rfl
theorem XI:Tryz.prog.cellsOf 168=1:=by kernel_rfl
theorem XJ:Tryz.prog.cellsOf 170=2:=by kernel_rfl
theorem nI:Tryz.prog.cellsOf 22=1:=by kernel_rfl
theorem jH {α:Type} {P:Nat→α→Prop}:∀ {n:Nat},(∀ i,i<n→∃ s,P i s)→∃ L:List α,L.length=n∧∀ i (h:i<L.length),P i L[i]
 |0,_=>⟨[],rfl,fun i h=>by simp at h⟩
 |n+1,h=>by
  obtain ⟨L,hl,hP⟩:=jH (n:=n) fun i hi=>h i (by omega)
  obtain ⟨s,hs⟩:=h n (by omega);refine ⟨L++[s],by simp [hl],fun i hi=> ?_⟩
  by_cases hin:i<L.length
  · rw [List.getElem_append_left hin];exact hP i hin
  · have:i=n:=by simp at hi;omega
    subst this
    simpa [hl] using hs
theorem iG {cs:List Value} {o:Nat} {v:Value} (h:(cs.drop o).take 1=[v]):cs[o]? =some v:=by
 have h0:((cs.drop o).take 1)[0]? =some v:=by rw [h];rfl
 simpa using h0
theorem XK {H:Type} {enc:TypeId×Value→H} {W:World} {base fuel:Nat} {held:Bool} {cs:List Value} {x:DataW H×List MemPlace} (h:DataW.trod enc Tryz.prog W base (fun _=>true) held fuel 168 cs=some x):
 ∃ v L,cs=[v]∧SpansC W v L∧L.length≤9223372036854775807:=by
 rcases Go.Deep.open_slice Tryz.underlying168 h with ⟨rfl,_⟩|⟨ad,l,c,m,n,D,Pl,rfl,_,hl,hm,_⟩
 · obtain ⟨L,hL⟩:=vZ h
   obtain ⟨a',c',e,_⟩:=hL.1;cases L with
   |nil=>exact ⟨_,[],rfl,hL,by simp⟩
   |cons s L=>simp at e
 · obtain ⟨L,hL⟩:=vZ h
   refine ⟨_,L,rfl,hL,?_⟩;obtain ⟨a',c',e,_⟩:=hL.1;simp only [Value.slice.injEq] at e;obtain ⟨_,rfl,_⟩:=e;unfold maxLen at hm;omega
theorem XL {H:Type} {enc:TypeId×Value→H} {W:World} {base:Nat} {held:Bool} {n:Nat} {g o:Nat} {cs:List Value} {x:DataW H×List MemPlace} (hc:W.cells? base ⟨g,o,none⟩ 2=some cs) (h:DataW.trod enc Tryz.prog W base (fun _=>true) held n 170 cs=some x):∃ d:Dp,(∃ u,DpIn W g o d u)∧d.nm.size≤9223372036854775807:=by
 have hs:Tryz.prog.underlying 170=some (.struct (Tryz.prog.fieldsOf 170)):=by kernel_rfl
 obtain ⟨xs,n',_,_,_,hxl,hf⟩:=DataW.trod_struct hs h;have hsz:(Tryz.prog.fieldsOf 170).size=2:=by kernel_rfl
 obtain ⟨_,hcl,hq⟩:=World.cells?_some hc;obtain ⟨f0,i0,t0,o0⟩:=bG (fs:=Tryz.prog.fieldsOf 170) (i:=0) (ty:=9) (off:=0) (by kernel_rfl);obtain ⟨f1,i1,t1,o1⟩:=bG (fs:=Tryz.prog.fieldsOf 170) (i:=1) (ty:=168) (off:=1) (by kernel_rfl);have r0:=hf 0 f0 i0;have r1:=hf 1 f1 i1;rw [t0,o0,rV,List.getElem?_eq_getElem (by omega:0<xs.length)] at r0;rw [t1,o1,XI,List.getElem?_eq_getElem (by omega:1<xs.length)] at r1;obtain ⟨s,e0,_,hs0⟩:=DataW.trod_string Tryz.underlying9 r0;obtain ⟨v,L,e1,hL,hz⟩:=XK r1;have q0:=hq 0 (by decide);have q1:=hq 1 (by decide);have ad:∀ i,(⟨g,o,none⟩:Addr).add i=⟨g,o+i,none⟩:=fun i=>by unfold Addr.add;split<;>simp_all
 rw [ad,iG e0] at q0;rw [ad,iG e1] at q1;exact ⟨⟨s,L⟩,⟨v,q0,q1,⟨hL,hz⟩,bY q1⟩,by unfold maxLen at hs0;exact hs0⟩
theorem tY {H:Type} {enc:TypeId×Value→H} {W:World} {base fuel:Nat} {held:Bool} {cs:List Value} {x:DataW H×List MemPlace} (h:DataW.trod enc Tryz.prog W base (fun _=>true) held fuel 22 cs=some x):
 ∃ v L,cs=[v]∧DepsAt W v L∧L.length≤9223372036854775807∧∀ d ∈ L,d.nm.size≤9223372036854775807:=by
 rcases Go.Deep.open_slice Tryz.underlying22 h with ⟨rfl,_⟩|⟨ad,len,cap,m,n,D,Pl,rfl,_,hl,hcm,hm,hx,hel⟩
 · exact ⟨_,[],rfl,⟨none,0,rfl,Nat.le_refl _,Or.inl rfl⟩,by simp,(fun d hd=>by cases hd)⟩
 · have hz:len≤9223372036854775807:=by unfold maxLen at hcm;omega
   rcases Nat.eq_zero_or_pos len with h0|h0
   · subst h0
     exact ⟨_,[],rfl,⟨_,_,rfl,Nat.zero_le _,Or.inl rfl⟩,by simp,(fun d hd=>by cases hd)⟩
   · have hmm:len≤m:=by rw [hm];simp;exact hl
     rw [XJ] at hel;obtain ⟨g,off,spot⟩:=ad;obtain ⟨cs0,hc0,_⟩:=hel 0 (by omega);obtain ⟨_,hln,hq⟩:=World.cells?_some hc0;have hcell:=hq 0 (by decide);rw [List.getElem?_eq_getElem (by omega:0<cs0.length)] at hcell;have hspot:spot=none:=by simpa [Addr.add] using World.cell?_spot hcell
     subst hspot;have ad2:∀ o i,(⟨g,o,none⟩:Addr).add i=⟨g,o+i,none⟩:=fun o i=>by unfold Addr.add;split<;>simp_all
     obtain ⟨L,hL,hP⟩:=jH (P:=fun i (d:Dp)=>(∃ u,DpIn W g (off+i*2) d u)∧d.nm.size≤9223372036854775807) (n:=len) fun i hi=>by
      obtain ⟨cs,hc,ht⟩:=hel i (by omega);rw [ad2] at hc;exact XL hc ht
     subst hL;refine ⟨_,L,rfl,⟨_,_,rfl,hl,Or.inr ⟨g,off,rfl,?_,fun i hi=>(hP i hi).1⟩⟩,hz,?_⟩
     · have:=bY hcell
       rw [ad2,ad2] at this;exact this
     · intro d hd
       obtain ⟨i,hi,rfl⟩:=List.getElem_of_mem hd;exact (hP i hi).2
theorem XM:Tryz.prog.cellsOf 54=7:=by kernel_rfl
theorem Fy {α:Type} {l:List α} (h:l.length=7):∃ a b c d e f g,l=[a,b,c,d,e,f,g]:=by
 match l,h with
 |[a,b,c,d,e,f,g],_=>exact ⟨a,b,c,d,e,f,g,rfl⟩
theorem wA {H:Type}:∀ {ts:List TypeId} {ds:List (DataW H)} {i:Nat} {t:TypeId} {d:DataW H},(DataW.weightsEach Tryz.prog ts ds).all (· ≤reachBytes)=true→ts[i]? =some t→ds[i]? =some d→(d.weights Tryz.prog t).all (· ≤reachBytes)=true
 |[],_,_,_,_,_,h,_=>by simp at h
 |_::_,[],_,_,_,_,_,h=>by simp at h
 |t::ts,d::ds,0,t',d',ha,h1,h2=>by
  simp at h1 h2
  subst h1 h2;unfold DataW.weightsEach at ha;rw [List.all_append,Bool.and_eq_true] at ha;exact ha.1
 |t::ts,d::ds,i+1,t',d',ha,h1,h2=>by
  unfold DataW.weightsEach at ha;rw [List.all_append,Bool.and_eq_true] at ha;exact wA ha.2 (by simpa using h1) (by simpa using h2)
theorem GK {H:Type} {t:TypeId}:∀ {ds:List (DataW H)} {d:DataW H},(DataW.weightsAll Tryz.prog t ds).all (· ≤reachBytes)=true→d ∈ ds→(d.weights Tryz.prog t).all (· ≤reachBytes)=true
 |[],_,_,h=>by cases h
 |d::ds,d',ha,h=>by
  unfold DataW.weightsAll at ha;rw [List.all_append,Bool.and_eq_true] at ha
  rcases List.mem_cons.1 h with rfl|h
  · exact ha.1
  · exact GK ha.2 h
theorem wC {H:Type} {t:TypeId} {fs:Array Field} (ht:Tryz.prog.underlying t=some (.struct fs)) {fG:List (DataW H)} (h:((DataW.agg fG).weights Tryz.prog t).all (· ≤reachBytes)=true) {i:Nat} {f:Field} (hf:fs[i]? =some f) {d:DataW H} (hd:fG[i]? =some d):(d.weights Tryz.prog f.type).all (· ≤reachBytes)=true:=by
 unfold DataW.weights at h;rw [ht] at h;refine wA h (i:=i) (t:=f.type) ?_ hd;rw [List.getElem?_map,Array.getElem?_toList,hf];rfl
theorem rW {H:Type} {t e:TypeId} (ht:Tryz.prog.underlying t=some (.slice e)) {el sp:List (DataW H)} (h:((DataW.slice el sp).weights Tryz.prog t).all (· ≤reachBytes)=true):(el.length+sp.length)*Tryz.prog.bytesOf e≤reachBytes∧∀ d ∈ el,(d.weights Tryz.prog e).all (· ≤reachBytes)=true:=by
 unfold DataW.weights at h;rw [ht] at h;rw [List.all_cons,Bool.and_eq_true,List.all_append,Bool.and_eq_true] at h;exact ⟨of_decide_eq_true h.1,fun d hd=>GK h.2.1 hd⟩
theorem MD:Tryz.prog.cellsOf 50=1:=by kernel_rfl
theorem TH:Tryz.prog.cellsOf 56=9:=by kernel_rfl
theorem ME:Tryz.prog.cellsOf 28=1:=by kernel_rfl
theorem MF:Tryz.prog.cellsOf 30=1:=by kernel_rfl
theorem TI:Tryz.prog.bytesOf 9=16:=by kernel_rfl
theorem tM (g o i:Nat):(⟨g,o,none⟩:Addr).add i=⟨g,o+i,none⟩:=by unfold Addr.add;split<;>simp_all
theorem Bi {H:Type} {enc:TypeId×Value→H} {W:World} {base fuel:Nat} {held:Bool} {cs:List Value} {x:DataW H×List MemPlace} (h:DataW.trod enc Tryz.prog W base (fun _=>true) held fuel 50 cs=some x):
 ∃ v L,cs=[v]∧PathAt W v L∧(∀ s ∈ L,s.size≤9223372036854775807)∧((x.1.weights Tryz.prog 50).all (· ≤reachBytes)=true→L.length*16≤140737488355328):=by
 rcases Go.Deep.open_slice Tryz.underlying50 h with ⟨rfl,_⟩|⟨ad,len,cap,m,n,D,Pl,rfl,_,hl,hcm,hm,hx,hel⟩
 · exact ⟨_,[],rfl,⟨none,0,rfl,Nat.le_refl _,Or.inl rfl⟩,(fun s hs=>by cases hs),fun _=>by simp⟩
 · have hwt:(x.1.weights Tryz.prog 50).all (· ≤reachBytes)=true→len*16≤140737488355328:=fun hr=>by
    have hxi:x.1= .slice ((List.range len).map D) ((List.range (m - len)).map fun j=>D (len+j)):=by rw [hx]
    rw [hxi] at hr;have hb:=(rW Tryz.underlying50 hr).1;rw [List.length_map,List.length_range,TI] at hb;unfold reachBytes at hb;omega
   rcases Nat.eq_zero_or_pos len with h0|h0
   · subst h0
     exact ⟨_,[],rfl,⟨_,_,rfl,Nat.zero_le _,Or.inl rfl⟩,(fun s hs=>by cases hs),fun _=>by simp⟩
   · have hmm:len≤m:=by rw [hm];simp;exact hl
     rw [rV] at hel;obtain ⟨g,off,spot⟩:=ad;obtain ⟨cs0,hc0,_⟩:=hel 0 (by omega);obtain ⟨_,hln,hq⟩:=World.cells?_some hc0;have hcell:=hq 0 (by decide);rw [List.getElem?_eq_getElem (by omega:0<cs0.length)] at hcell;have hspot:spot=none:=by simpa [Addr.add] using World.cell?_spot hcell
     subst hspot
     obtain ⟨L,hL,hP⟩:=jH (P:=fun i (s:ByteArray)=>StIn W g (off+i) s∧s.size≤9223372036854775807) (n:=len) fun i hi=>by
      obtain ⟨cs,hc,ht⟩:=hel i (by omega);rw [tM,Nat.mul_one] at hc;obtain ⟨_,hcl,hq⟩:=World.cells?_some hc;obtain ⟨s,e0,_,hs0⟩:=DataW.trod_string Tryz.underlying9 ht;have q0:=hq 0 (by decide);rw [tM,e0] at q0;exact ⟨s,⟨q0,Sc.bY q0⟩,by unfold maxLen at hs0;exact hs0⟩
     subst hL;refine ⟨_,L,rfl,⟨_,_,rfl,hl,Or.inr ⟨g,off,rfl,fun i hi=>(hP i hi).1⟩⟩,?_,hwt⟩;intro s hs;obtain ⟨i,hi,rfl⟩:=List.getElem_of_mem hs;exact (hP i hi).2
def PgN (P:Pg):Prop:=P.nm.size≤9223372036854775807∧(∀ d ∈ P.d,d.nm.size≤9223372036854775807)∧(∀ d ∈ P.p,d.nm.size≤9223372036854775807)∧∀ d ∈ P.o,d.nm.size≤9223372036854775807
theorem Em {H:Type} {enc:TypeId×Value→H} {W:World} {base fuel:Nat} {held:Bool} {cs:List Value} {x:DataW H×List MemPlace} (h:DataW.trod enc Tryz.prog W base (fun _=>true) held fuel 54 cs=some x):
 ∃ (P:Pg) (v1 v2 v3:Value),(cs[0]? =some (.string P.nm)∧cs[1]? =some (.int .i64 P.a)∧cs[2]? =some (.int .i64 P.b)∧cs[3]? =some (.int .i64 P.c)∧cs[4]? =some v1∧cs[5]? =some v2∧cs[6]? =some v3)∧PgAt W P v1 v2 v3∧PgZ P∧PgN P:=by
 have hs:Tryz.prog.underlying 54=some (.struct (Tryz.prog.fieldsOf 54)):=by kernel_rfl
 obtain ⟨xs,n',_,_,_,hxl,hf⟩:=DataW.trod_struct hs h;have hfz:(Tryz.prog.fieldsOf 54).size=5:=by kernel_rfl
 obtain ⟨f0,i0,t0,o0⟩:=bG (fs:=Tryz.prog.fieldsOf 54) (i:=0) (ty:=9) (off:=0) (by kernel_rfl);obtain ⟨f1,i1,t1,o1⟩:=bG (fs:=Tryz.prog.fieldsOf 54) (i:=1) (ty:=52) (off:=1) (by kernel_rfl);obtain ⟨f2,i2,t2,o2⟩:=bG (fs:=Tryz.prog.fieldsOf 54) (i:=2) (ty:=22) (off:=4) (by kernel_rfl);obtain ⟨f3,i3,t3,o3⟩:=bG (fs:=Tryz.prog.fieldsOf 54) (i:=3) (ty:=22) (off:=5) (by kernel_rfl);obtain ⟨f4,i4,t4,o4⟩:=bG (fs:=Tryz.prog.fieldsOf 54) (i:=4) (ty:=22) (off:=6) (by kernel_rfl);have r0:=hf 0 f0 i0;have r1:=hf 1 f1 i1;have r2:=hf 2 f2 i2;have r3:=hf 3 f3 i3;have r4:=hf 4 f4 i4;rw [t0,o0,rV,List.getElem?_eq_getElem (by omega:0<xs.length)] at r0;rw [t1,o1,pM,List.getElem?_eq_getElem (by omega:1<xs.length)] at r1;rw [t2,o2,nI,List.getElem?_eq_getElem (by omega:2<xs.length)] at r2;rw [t3,o3,nI,List.getElem?_eq_getElem (by omega:3<xs.length)] at r3
 rw [t4,o4,nI,List.getElem?_eq_getElem (by omega:4<xs.length)] at r4;obtain ⟨s,e0,_,hs0⟩:=DataW.trod_string Tryz.underlying9 r0;obtain ⟨a,b,c,ea,eb,ec,_⟩:=qD r1;obtain ⟨v1,L1,e2,h1,z1,m1⟩:=tY r2;obtain ⟨v2,L2,e3,h2,z2,m2⟩:=tY r3;obtain ⟨v3,L3,e4,h3,z3,m3⟩:=tY r4;have ka:((cs.drop 1).take 3)[0]? =some (.int .i64 a):=ea;have kb:((cs.drop 1).take 3)[1]? =some (.int .i64 b):=eb;have kc:((cs.drop 1).take 3)[2]? =some (.int .i64 c):=ec
 simp at ka kb kc
 exact ⟨⟨s,a,b,c,L1,L2,L3⟩,v1,v2,v3,⟨iG e0,ka,kb,kc,iG e2,iG e3,iG e4⟩,⟨h1,h2,h3⟩,⟨z1,z2,z3⟩,by unfold maxLen at hs0;exact hs0,m1,m2,m3⟩
def DrN (d:Dr):Prop:=PgZ d.pk∧PgN d.pk∧∀ s ∈ d.pa,s.size≤9223372036854775807
theorem Fz {cs:List Value} {i:Nat} (hi:i<7):((cs.drop 1).take 7)[i]? =cs[i+1]? :=by
 rw [List.getElem?_take,if_pos hi,List.getElem?_drop,Nat.add_comm]
theorem XN {H:Type} {enc:TypeId×Value→H} {W:World} {base:Nat} {held:Bool} {n:Nat} {g o:Nat} {cs:List Value} {x:DataW H×List MemPlace} (hc:W.cells? base ⟨g,o,none⟩ 9=some cs) (h:DataW.trod enc Tryz.prog W base (fun _=>true) held n 56 cs=some x):
 ∃ D:Dr,(∃ u v1 v2 v3,DrIn W g o D u v1 v2 v3)∧DrN D∧((x.1.weights Tryz.prog 56).all (· ≤reachBytes)=true→D.pa.length*16≤140737488355328):=by
 have hs:Tryz.prog.underlying 56=some (.struct (Tryz.prog.fieldsOf 56)):=by kernel_rfl
 obtain ⟨xs,n',_,hxx,_,hxl,hf⟩:=DataW.trod_struct hs h;have hfz:(Tryz.prog.fieldsOf 56).size=3:=by kernel_rfl
 obtain ⟨_,hcl,hq⟩:=World.cells?_some hc;obtain ⟨f0,i0,t0,o0⟩:=bG (fs:=Tryz.prog.fieldsOf 56) (i:=0) (ty:=50) (off:=0) (by kernel_rfl);obtain ⟨f1,i1,t1,o1⟩:=bG (fs:=Tryz.prog.fieldsOf 56) (i:=1) (ty:=54) (off:=1) (by kernel_rfl);obtain ⟨f2,i2,t2,o2⟩:=bG (fs:=Tryz.prog.fieldsOf 56) (i:=2) (ty:=3) (off:=8) (by kernel_rfl);have r0:=hf 0 f0 i0;have r1:=hf 1 f1 i1;have r2:=hf 2 f2 i2;rw [t0,o0,MD,List.getElem?_eq_getElem (by omega:0<xs.length)] at r0;rw [t1,o1,XM,List.getElem?_eq_getElem (by omega:1<xs.length)] at r1;rw [t2,o2,EL,List.getElem?_eq_getElem (by omega:2<xs.length)] at r2;obtain ⟨u,L,e0,hp,hsz,hwt⟩:=Bi r0;obtain ⟨P,v1,v2,v3,⟨p0,p1,p2,p3,p4,p5,p6⟩,hpg,hpz,hpn⟩:=Em r1;obtain ⟨k,e2,_,_⟩:=DataW.trod_int Tryz.underlying3 r2;rw [Fz (by decide)] at p0 p1 p2 p3 p4 p5 p6;have c0:=hq 0 (by decide);have c1:=hq 1 (by decide);have c2:=hq 2 (by decide);have c3:=hq 3 (by decide)
 have c4:=hq 4 (by decide);have c5:=hq 5 (by decide);have c6:=hq 6 (by decide);have c7:=hq 7 (by decide);have c8:=hq 8 (by decide);rw [tM,iG e0] at c0;rw [tM,p0] at c1;rw [tM,p1] at c2;rw [tM,p2] at c3;rw [tM,p3] at c4;rw [tM,p4] at c5;rw [tM,p5] at c6;rw [tM,p6] at c7;rw [tM,EM e2] at c8;refine ⟨⟨L,P,k⟩,⟨u,v1,v2,v3,⟨c0,c1,c2,c3,c4,c5,c6,c7,c8⟩,⟨hp,hpg⟩,Sc.bY c0⟩,⟨hpz,hpn,hsz⟩,fun hr=> ?_⟩;have hd:x.1= .agg (xs.map (·.1)):=congrArg Prod.fst hxx;rw [hd] at hr;have hp2:=wC hs hr i0 (d:=xs[0].1) (by rw [List.getElem?_map,List.getElem?_eq_getElem (by omega:0<xs.length)];rfl);rw [t0] at hp2;exact hwt hp2
end Go.Proofs.YtmnhnofnlcbliaaGreatDoor
namespace Go.Proofs.YtmnhnofnlcbliaaGreatDoor
open Go.RowKit
set_option maxRecDepth 100000
theorem BxG.new (w:World) (v:Value):BxT (w.alloc (.cells #[v] 27)) w.heap.size v:=⟨by simp,by simp⟩
noncomputable def gH (d:Dr) (n:Nd):Bool:=eqB d.pk.nm n.nm&&(decide (d.pk.a=n.a)&&decide (d.pk.b=n.b)&&decide (d.pk.c=n.c))
set_option maxHeartbeats 1600000 in
theorem XO (d:Dr) (n:Nd) (ua x1 x2 x3 y1 y2:Option Addr) (un uc l1 c1 l2 c2 l3 c3 m1 k1 m2 k2:Nat) (w:World):
 Calls Tryz.prog 118 #[.agg #[.slice ua un uc,.string d.pk.nm,.int .i64 d.pk.a,.int .i64 d.pk.b,.int .i64 d.pk.c,.slice x1 l1 c1,.slice x2 l2 c2,.slice x3 l3 c3,.int .i64 d.nd],.agg #[.string n.nm,.int .i64 n.a,.int .i64 n.b,.int .i64 n.c,.slice y1 m1 k1,.slice y2 m2 k2]] w fun e w'=>e= .returned (.bool (gH d n))∧Below w.heap.size w w':=by
 have HRB:Hid (gH d n=(eqB d.pk.nm n.nm&&(decide (d.pk.a=n.a)&&decide (d.pk.b=n.b)&&decide (d.pk.c=n.c)))):=rfl;have hv:=Ee d.pk.a d.pk.b d.pk.c n.a n.b n.c;have hgd:=rA;generalize gH d n=rb at*
 by_cases hn:d.pk.nm=n.nm
 · have q1:(d.pk.nm.toList==n.nm.toList)=true:=by rw [hn];simp
   have q2:(d.pk.nm.toList=n.nm.toList)=True:=by rw [hn];simp
   rw [aX hn] at HRB;clear hn;generalize (decide (d.pk.a=n.a)&&decide (d.pk.b=n.b)&&decide (d.pk.c=n.c))=xv at*;generalize d.pk.nm=s at*;generalize n.nm=t at*
   go_enter Tryz.func118,Tryz.ntmps118
   go_wp2
   go_ret;exact ⟨aD (by rw [HRB.out];simp),aS _ _ _⟩
 · have q1:(d.pk.nm.toList==n.nm.toList)=false:=by rw [beq_eq_false_iff_ne];exact fun e=>hn (bC e)
   have q2:(d.pk.nm.toList=n.nm.toList)=False:=eq_false fun e=>hn (bC e)
   rw [bX hn] at HRB;clear hn;generalize (decide (d.pk.a=n.a)&&decide (d.pk.b=n.b)&&decide (d.pk.c=n.c))=xv at*;generalize d.pk.nm=s at*;generalize n.nm=t at*
   go_enter Tryz.func118,Tryz.ntmps118
   go_wp2
   go_ret;exact ⟨aD (by rw [HRB.out];simp),aS _ _ _⟩
def toB (N:Nat) (e:Eg):Bool:=decide (0<e.to)&&decide (e.to<(N:Int))
def eM (G:List Nd):Bool:=decide (0<G.length)&&G.all fun n=>n.ed.all (toB G.length)
def CJ (G:List Nd):Prop:=G.length≤9223372036854775807∧∀ n ∈ G,n.ed.length≤9223372036854775807
theorem GL {α:Type} {p:α→Bool} {L:List α} {k:Nat} (hk:k<L.length) (h:(L.take k).all p=true) (h2:p L[k]=true):(L.take (k+1)).all p=true:=by
 rw [List.take_succ_eq_append_getElem hk,List.all_append,h];simp [h2]
theorem PP {α:Type} {p:α→Bool} {L:List α} {k:Nat} (hk:k<L.length) (h2:p L[k]=false):L.all p=false:=by
 rw [List.all_eq_false];exact ⟨_,List.getElem_mem hk,by rw [h2];simp⟩
set_option maxHeartbeats 6400000 in
theorem GM {G:List Nd} {v:Value} {w:World} (h:NodesAt w v G) (hz:CJ G):
 Calls Tryz.prog 116 #[.agg #[v]] w fun e w'=>e= .returned (.bool (eM G))∧Below w.heap.size w w':=by
 have HNA:Hid (∀ w1,Below w.heap.size w w1→NodesAt w1 v G):=fun w1 hb=>h.below hb
 obtain ⟨ad,cap,rfl,hc,_⟩:=h;have HZ:=aB hz.2;have hz1:=hz.1;clear hz
 have HNO:Hid (∀ k (hk:k<G.length),G[k].ed.all (toB G.length)=false→eM G=false):=fun k hk h=>by
  unfold eM;rw [PP (p:=fun n:Nd=>n.ed.all (toB G.length)) hk h]
  simp
 have HYE:Hid (G.all (fun n=>n.ed.all (toB G.length))=true→eM G=decide (0<G.length)):=fun h=>by
  unfold eM;rw [h]
  simp
 go_enter Tryz.func116,Tryz.ntmps116
 go_wp2_with fail
 go_loopw [10] (fun i wr=>∃ k:Nat,k≤G.length∧i= .int .i64 k∧(Below w.heap.size w wr∧BxT wr w.heap.size (.slice ad G.length cap))∧(G.take k).all (fun n=>n.ed.all (toB G.length))=true) (fun i _=>G.length - (intOf i).toNat)
 case atStart=>exact ⟨0,Nat.zero_le _,rfl,⟨aC _ _,BxG.new _ _⟩,rfl⟩
 case round=>
  obtain ⟨k,hk,rfl,⟨hb,bx0,bx1⟩,hall⟩:=hrel;have HALL:=aB hall;have HB:=aB hb;obtain ⟨wa,rfl⟩:∃ x,x=wr:=⟨wr,rfl⟩;have HBX:Hid (BxT wa w.heap.size (.slice ad G.length cap)):=⟨bx0,bx1⟩
  by_cases hlt:k<G.length
  · obtain ⟨ad',cap',e,_,hcs⟩:=HNA.out wa hb
    cases e
    obtain ⟨g,o,rfl,hg,hcz⟩:∃ g o,ad=some ⟨g,o,none⟩∧g<wa.heap.size∧∀ i (h:i<G.length),∃ vc ve,NdIn wa g (o+i*6) G[i] vc ve:=by
     rcases hcs with h|h
     · rw [h] at hlt;simp at hlt
     · exact h
    clear hcs;obtain ⟨vc,ve,⟨c0,c1,c2,c3,c4,c5⟩,⟨hpn,hed⟩,hgg⟩:=hcz k hlt;have HED:Hid (∀ w1,Below wa.heap.size wa w1→EdgesAt w1 ve G[k].ed):=fun w1 hb=>hed.below hb
    have hzk:=HZ.out _ (List.getElem_mem hlt);have HNK:=aB (HNO.out k hlt);have HNX:Hid (G[k].ed.all (toB G.length)=true→(G.take (k+1)).all (fun n=>n.ed.all (toB G.length))=true):=fun h=>GL hlt HALL.out h
    obtain ⟨pa,pc,rfl⟩:=hpn.sl;obtain ⟨ea,ec,rfl⟩:=hed.sl;generalize G[k]=n at*;clear hall hb hcz hpn hed;obtain ⟨wb,hwb⟩:∃ wb,wb=wa.alloc (.cells #[.string n.nm,.int .i64 n.a,.int .i64 n.b,.int .i64 n.c,.slice pa n.cx.length pc,.slice ea n.ed.length ec] 60):=⟨_,rfl⟩;have HB1:Hid (Below wa.heap.size wa wb):=by rw [hwb];exact aC _ _
    have hsz:wa.heap.size<wb.heap.size:=by rw [hwb];simp
    go_wp2_with fail
    rw [←hwb];clear c0 c1 c2 c3 c4 c5 hwb
    go_loopw [17] (fun i wx=>∃ j:Nat,j≤n.ed.length∧i= .int .i64 j∧Below wb.heap.size wb wx∧(n.ed.take j).all (toB G.length)=true) (fun i _=>n.ed.length - (intOf i).toNat)
    case atStart=>exact ⟨0,Nat.zero_le _,rfl,Below.refl _ _,rfl⟩
    case round=>
     obtain ⟨j,hj,rfl,hbi,hali⟩:=hrel;have HBI:=aB hbi;have HALI:=aB hali;have HBW:Hid (Below w.heap.size w wr):=aA HB.out (aA HB1.out hbi);have HBT:Hid (BxT wr w.heap.size (.slice (some ⟨g,o,none⟩) G.length cap)):=cL _ _ _ _ HBX.out (aA HB1.out hbi);obtain ⟨t0,t1⟩:=HBT.out;clear bx0 bx1
     by_cases hlj:j<n.ed.length
     · obtain ⟨ea',ec',e,_,hcs⟩:=HED.out wr (aA HB1.out hbi)
       cases e
       obtain ⟨eg,eo,rfl,heg,hcz⟩:∃ g o,ea=some ⟨g,o,none⟩∧g<wr.heap.size∧∀ i (h:i<n.ed.length),EgIn wr g (o+i*2) n.ed[i]:=by
        rcases hcs with h|h
        · rw [h] at hlj;simp at hlj
        · exact h
       clear hcs;obtain ⟨⟨e0,e1⟩,_⟩:=hcz j hlj;have HTN:Hid (toB G.length n.ed[j]=true→(n.ed.take (j+1)).all (toB G.length)=true):=fun h=>GL hlj HALI.out h
       have HTF:Hid (toB G.length n.ed[j]=false→eM G=false):=fun h=>HNK.out (PP hlj h)
       have HTB:Hid (toB G.length n.ed[j]=(decide (0<n.ed[j].to)&&decide (n.ed[j].to<(G.length:Int)))):=rfl;generalize toB G.length n.ed[j]=tb at*;generalize n.ed[j]=eg1 at*;clear hcz hali hbi;have t0':(wr.alloc (.cells #[.string eg1.lb,.int .i64 eg1.to] 62)).cell? ⟨w.heap.size,0,none⟩=some (.slice (some ⟨g,o,none⟩) G.length cap):=((aC wr (.cells #[.string eg1.lb,.int .i64 eg1.to] 62)).cell (p:=⟨w.heap.size,0,none⟩) t1).trans t0
       by_cases hq1:eg1.to≤0
       · have HR:Hid (eM G=false):=HTF.out (by rw [HTB.out,decide_eq_false (by omega)];rfl)
         go_wp2
         go_ret;exact ⟨aD HR.out.symm,aA HBW.out (aC _ _)⟩
       · by_cases hq2:(G.length:Int)≤eg1.to
         · have HR:Hid (eM G=false):=HTF.out (by rw [HTB.out,decide_eq_false (show ¬ eg1.to<(G.length:Int) by omega)];simp)
           go_wp2
           go_ret;exact ⟨aD HR.out.symm,aA HBW.out (aC _ _)⟩
         · have HR:=aB (HTN.out (by rw [HTB.out,decide_eq_true (by omega),decide_eq_true (by omega)];rfl))
           go_wp2
           exact ⟨⟨j+1,by omega,by go_num,aA HBI.out (aC _ _),HR.out⟩,by simp [intOf];omega⟩
     · obtain rfl:j=n.ed.length:=by omega
       have HR:=aB (HNX.out (by rw [List.take_length] at hali;exact hali));clear hali hbi
       go_wp2
       exact ⟨⟨k+1,by omega,by go_num,⟨HBW.out,HBT.out⟩,HR.out⟩,by simp [intOf];omega⟩
  · obtain rfl:k=G.length:=by omega
    have HR:Hid (eM G=decide (0<G.length)):=HYE.out (by rw [List.take_length] at hall;exact hall);clear hb hall
    rcases Nat.eq_zero_or_pos G.length with h0|h0
    · rw [h0] at HR
      go_wp2
      go_ret;exact ⟨aD (by rw [HR.out];simp),HB.out⟩
    · have hp:decide ((G.length:Int)>0)=true:=decide_eq_true (by omega)
      rw [decide_eq_true h0] at HR
      go_wp2
      go_ret;exact ⟨aD (by rw [HR.out]),HB.out⟩
end Go.Proofs.YtmnhnofnlcbliaaGreatDoor
