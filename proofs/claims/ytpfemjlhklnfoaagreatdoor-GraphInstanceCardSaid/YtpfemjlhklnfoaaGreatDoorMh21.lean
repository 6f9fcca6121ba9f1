/- St6, St7, St8, St10: their declarations that are needed, laid in one text, remarks and blanks left out. -/
import Derived.Test.YtpfemjlhklnfoaaGreatDoorMh20
namespace Go.Proofs.YtpfemjlhklnfoaaGreatDoor
open Go.RowKit Go.Maps Go.WideMaps
set_option maxRecDepth 100000
theorem vA {Z:List Wt} {y:Wt} {t:Nat} (hz:Z.Pairwise ltT) (ht:∀ z ∈ Z,z.tg<y.tg) (h1:t=0∨∃ z,Z[t - 1]? =some z∧ltS y.nm z.nm=false) (h2:t=Z.length∨∃ z,Z[t]? =some z∧ltS y.nm z.nm=true):(Z.take t++y::Z.drop t).Pairwise ltT:=by
 refine fH (by rw [List.take_append_drop];exact hz) (fun z hzz=> ?_) ?_
 · rcases h2 with rfl|⟨z0,hz0,hlt⟩
   · rw [List.drop_length] at hzz
     cases hzz
   · obtain ⟨htl,rfl⟩:=List.getElem?_eq_some_iff.1 hz0
     have h0:ltT y Z[t]:=Or.inl hlt;rw [List.drop_eq_getElem_cons htl] at hzz
     rcases List.mem_cons.1 hzz with rfl|hzz
     · exact h0
     · have hp:(Z.drop t).Pairwise ltT:=hz.sublist (List.drop_sublist t Z)
       rw [List.drop_eq_getElem_cons htl,List.pairwise_cons] at hp;exact fY h0 (hp.1 z hzz)
 · rcases h1 with rfl|⟨z0,hz0,hlt⟩
   · exact Or.inl (by simp)
   · by_cases h0:t=0
     · subst h0
       exact Or.inl (by simp)
     · obtain ⟨htl,rfl⟩:=List.getElem?_eq_some_iff.1 hz0
       refine Or.inr ⟨Z.take (t - 1),Z[t - 1],?_,mO hlt (ht _ (List.getElem_mem htl))⟩;rw [←List.take_succ_eq_append_getElem htl]
       congr 1
       omega
theorem CW {Z:List Wt} {y:Wt} (t:Nat):(Z.take t++y::Z.drop t).Perm (Z++[y]):=(uZ t).trans List.perm_append_comm
def SymL (w:World) (B g n cap a m:Nat) (P Z R:List Wt) (y:Wt) (vi vj:Value) (wr:World):Prop:=∃ i j:Nat,vi= .int .i64 i∧vj= .int .i64 j∧a≤i∧i≤j∧j≤m∧(i=a∨∃ z,Z[i - a - 1]? =some z∧ltS y.nm z.nm=false)∧(j=m∨∃ z,Z[j - a]? =some z∧ltS y.nm z.nm=true)∧SW w B g n cap (P++Z++[y]++R) wr
theorem SymL.mk {w:World} {B g n cap a m:Nat} {P Z R:List Wt} {y:Wt} {vi vj:Value} {wr:World} (i j:Nat) (h1:vi= .int .i64 i) (h2:vj= .int .i64 j) (h3:a≤i) (h4:i≤j) (h5:j≤m) (h6:i=a∨∃ z,Z[i - a - 1]? =some z∧ltS y.nm z.nm=false) (h7:j=m∨∃ z,Z[j - a]? =some z∧ltS y.nm z.nm=true) (h8:SW w B g n cap (P++Z++[y]++R) wr):SymL w B g n cap a m P Z R y vi vj wr:=⟨i,j,h1,h2,h3,h4,h5,h6,h7,h8⟩
set_option maxHeartbeats 12800000 in
theorem GH {w:World} {B g n cap a m b:Nat} {P Z R:List Wt} {y:Wt} (hn:n≤1000000000) (ha:P.length=a) (hm:a+Z.length=m) (hma:Z.length≠1) (hb:m+1=b) (hz:Z.Pairwise ltT) (ht:∀ z ∈ Z,z.tg<y.tg) (h:RowW w B g n cap (P++Z++[y]++R)):
 Calls Tryz.prog 257 #[.slice (some ⟨g,0,none⟩) n cap,.int .i64 a,.int .i64 m,.int .i64 b,.func (.func 242) #[] #[]] w (MgQ w B g n cap P (Z++[y]) R):=by
 have hbn:b≤n:=by
  have e:=h.1;simp only [List.length_append,List.length_singleton] at e;omega
 have HS0:Hid (SW w B g n cap (P++Z++[y]++R) w):=⟨h,⟨rfl,rfl,rfl,Nat.le_refl _,fun _ _ _=>rfl⟩⟩;have HLN:Hid (P.length=a∧a+Z.length=m∧m+1=b):=⟨ha,hm,hb⟩;have hmb:m<b:=by omega
 have ham:a≤m:=by omega
 have HFN:Hid (∀ wx t,(t=0∨∃ z,Z[t - 1]? =some z∧ltS y.nm z.nm=false)→(t=Z.length∨∃ z,Z[t]? =some z∧ltS y.nm z.nm=true)→SW w B g n cap (P++Z.take t++y::(Z.drop t++R)) wx→MgQ w B g n cap P (Z++[y]) R (.returned (.tuple #[])) wx):=fun wx t h1 h2 h3=>⟨rfl,_,CW t,vA hz ht h1 h2,by simpa using h3⟩
 have HIX:Hid (∀ q z,Z[q]? =some z→(P++Z++[y]++R)[a+q]? =some z):=fun q z hq=>by
  have hq1:=(List.getElem?_eq_some_iff.1 hq).1;rw [List.getElem?_append_left (by simp;omega),List.getElem?_append_left (by simp;omega),List.getElem?_append_right (by omega)];have e:a+q - P.length=q:=by omega
  rw [e];exact hq
 have HIA:Hid ((P++Z++[y]++R)[m]? =some y):=by
  unfold Hid;rw [List.getElem?_append_left (by simp;omega),List.getElem?_append_right (by simp;omega)];have e:m - (P++Z).length=0:=by simp;omega
  rw [e];rfl
 have HW1:=aA (bT (a:=m) (i:=a) (by omega) (by omega));have HW2:=aA (bT (a:=b) (i:=m) (by omega) (by omega));generalize MgQ w B g n cap P (Z++[y]) R=G at*;have hd1:¬ (m:Int) - (a:Int)=1:=by omega
 have hd2:(b:Int) - (m:Int)=1:=by omega
 have hd3:decide ((m:Int) - (a:Int)=1)=false:=decide_eq_false hd1;have hd4:((m:Int) - (a:Int)==1)=false:=by rw [beq_eq_false_iff_ne];exact hd1
 clear h ha hb hz ht hm hma;obtain ⟨k1,k2⟩:=HW1.out;obtain ⟨k3,k4⟩:=HW2.out
 go_enter Tryz.func257,Tryz.ntmps257
 go_wp2_with fail
 clear k1 k2 k3 k4 hd1 hd2 hd3 hd4
 go_loopw [14,15] (fun vi vj wr=>SymL w B g n cap a m P Z R y vi vj wr) (fun vi vj _=>(intOf vj).toNat - (intOf vi).toNat)
 case atStart=>exact SymL.mk a m rfl rfl (Nat.le_refl _) ham (Nat.le_refl _) (Or.inl rfl) (Or.inl rfl) HS0.out
 case round=>
  obtain ⟨i,j,rfl,rfl,hmi,hij,hjb,hlo,hhi,hsw⟩:=hrel;have HLO:=aA hlo;have HHI:=aA hhi;have HSW:=aA hsw;clear hlo hhi hsw
  by_cases hlt:i<j
  · have hlti:(i:Int)<(j:Int):=by omega
    obtain ⟨hh,hhe⟩:∃ q,q=(i+j) / 2:=⟨_,rfl⟩;have hb1:i≤hh:=by omega
    have hb2:hh<j:=by omega
    have HHE:Hid (((i:Int)+(j:Int)) / 2=(hh:Int)):=by unfold Hid;omega
    clear hhe;have HY:Hid (∃ z,Z[hh - a]? =some z):=⟨_,List.getElem?_eq_getElem (by have:=HLN.out;omega)⟩;obtain ⟨z,hz⟩:=HY.out
    have HYI:Hid ((P++Z++[y]++R)[hh]? =some z):=by
     have e:=HIX.out _ _ hz;rw [show a+(hh - a)=hh by omega] at e;exact e
    have HYZ:=aA hz;clear hz;obtain ⟨r,hr,hcm⟩:=gY y z;have HCM:=aA hcm;obtain ⟨c0,c1,c2⟩:=HSW.out.1.cells HYI.out;obtain ⟨e0,e1,e2⟩:=HSW.out.1.cells HIA.out;have hgw:=HSW.out.1.lt.2;have HK:Hid (KeepP fun w1=>SW w B g n cap (P++Z++[y]++R) w1∧Sc.aF w1 g (hh*3) (.string z.nm)∧Sc.aF w1 g (hh*3+1) (.int .i64 z.kd)∧Sc.aF w1 g (hh*3+2) (.slice z.ad z.ln z.cp)∧Sc.aF w1 g (m*3) (.string y.nm)∧Sc.aF w1 g (m*3+1) (.int .i64 y.kd)∧Sc.aF w1 g (m*3+2) (.slice y.ad y.ln y.cp)):=KeepP.and (fL _ _ _ _ _ _) (KeepP.and (aP _ _ _) (KeepP.and (aP _ _ _) (KeepP.and (aP _ _ _) (KeepP.and (aP _ _ _) (KeepP.and (aP _ _ _) (aP _ _ _))))))
    have HO:Hid (SW w B g n cap (P++Z++[y]++R) wr∧Sc.aF wr g (hh*3) (.string z.nm)∧Sc.aF wr g (hh*3+1) (.int .i64 z.kd)∧Sc.aF wr g (hh*3+2) (.slice z.ad z.ln z.cp)∧Sc.aF wr g (m*3) (.string y.nm)∧Sc.aF wr g (m*3+1) (.int .i64 y.kd)∧Sc.aF wr g (m*3+2) (.slice y.ad y.ln y.cp)):=⟨HSW.out,⟨c0,hgw⟩,⟨c1,hgw⟩,⟨c2,hgw⟩,⟨e0,hgw⟩,⟨e1,hgw⟩,⟨e2,hgw⟩⟩;clear hcm c0 c1 c2 e0 e1 e2 hgw HSW;have hhn:hh<n:=by omega
    have hmn:m<n:=by omega
    have q1:(hh:Int)<(n:Int):=by omega
    have q2:(m:Int)<(n:Int):=by omega
    by_cases hc:r<0
    · have HLT:Hid (ltS y.nm z.nm=true):=hr.1 hc
      clear hr
      go_upto_region 17 with fail
      rw [HHE.out];refine bA HK (by kernel_rfl) (by kernel_rfl) (by first|exact HO.out|exact HK.out.drew HO.out) ?_;intro C HIN HOUT;clear HO
      repeat
       (with_reducible refine wpQuiet_step (fun K hK=> ?_)
        go_simp
        first
         |(refine hK _ ?_;clear hK K)
         |(apply Exists.intro;refine ⟨fun w1 hC=> ?_,hK _ ?_⟩;(focus ((first|(go_at_call 242;with_reducible exact aU HIN HOUT HK HCM.out w1 hC)|(exact rfl)|(obtain ⟨hsw,⟨c0,hgw⟩,⟨c1,_⟩,⟨c2,_⟩,⟨e0,_⟩,⟨e1,_⟩,⟨e2,_⟩⟩:=HOUT.out w1 hC;clear hC;go_simp;first|done|exact rfl));done));clear hK K))
      refine wpQuiet_nil ?_;intro w10 hC;have HO:=aA (HOUT.out _ hC);clear hC HIN HOUT C;obtain ⟨hsw,⟨c0,hgw⟩,⟨c1,_⟩,⟨c2,_⟩,⟨e0,_⟩,⟨e1,_⟩,⟨e2,_⟩⟩:=HO.out;have HSW2:=aA hsw;clear hsw HO HK c0 c1 c2 e0 e1 e2 hgw
      go_wp2_with fail
      exact ⟨SymL.mk i hh rfl rfl hmi hb1 (by omega) HLO.out (Or.inr ⟨z,HYZ.out,HLT.out⟩) HSW2.out,by simp [intOf];omega⟩
    · have HLT:Hid (ltS y.nm z.nm=false):=Bool.eq_false_iff.2 fun e=>hc (hr.2 e)
      clear hr
      go_upto_region 17 with fail
      rw [HHE.out];refine bA HK (by kernel_rfl) (by kernel_rfl) (by first|exact HO.out|exact HK.out.drew HO.out) ?_;intro C HIN HOUT;clear HO
      repeat
       (with_reducible refine wpQuiet_step (fun K hK=> ?_)
        go_simp
        first
         |(refine hK _ ?_;clear hK K)
         |(apply Exists.intro;refine ⟨fun w1 hC=> ?_,hK _ ?_⟩;(focus ((first|(go_at_call 242;with_reducible exact aU HIN HOUT HK HCM.out w1 hC)|(exact rfl)|(obtain ⟨hsw,⟨c0,hgw⟩,⟨c1,_⟩,⟨c2,_⟩,⟨e0,_⟩,⟨e1,_⟩,⟨e2,_⟩⟩:=HOUT.out w1 hC;clear hC;go_simp;first|done|exact rfl));done));clear hK K))
      refine wpQuiet_nil ?_;intro w10 hC;have HO:=aA (HOUT.out _ hC);clear hC HIN HOUT C;obtain ⟨hsw,⟨c0,hgw⟩,⟨c1,_⟩,⟨c2,_⟩,⟨e0,_⟩,⟨e1,_⟩,⟨e2,_⟩⟩:=HO.out;have HSW2:=aA hsw;clear hsw HO HK c0 c1 c2 e0 e1 e2 hgw
      go_wp2_with fail
      exact ⟨SymL.mk (hh+1) j (by go_num) rfl (by omega) (by omega) hjb (Or.inr ⟨z,by rw [show hh+1 - a - 1=hh - a by omega];exact HYZ.out,HLT.out⟩) HHI.out HSW2.out,by simp [intOf];omega⟩
  · obtain rfl:i=j:=by omega
    have hlti:¬ (i:Int)<(i:Int):=by omega
    obtain ⟨t,hte⟩:∃ t,t=i - a:=⟨_,rfl⟩;have HT:Hid (i=a+t∧t≤Z.length):=⟨by omega,by have:=HLN.out;omega⟩;have HT1:Hid (t=0∨∃ z,Z[t - 1]? =some z∧ltS y.nm z.nm=false):=HLO.out.imp (fun e=>by omega) (fun e=>by rw [hte];exact e);have HT2:Hid (t=Z.length∨∃ z,Z[t]? =some z∧ltS y.nm z.nm=true):=HHI.out.imp (fun e=>by have:=HLN.out;omega) (fun e=>by rw [hte];exact e);clear hte HLO HHI;have HEQ:Hid (∀ wx,SW w B g n cap (P++Z.take t++y::(Z.drop t++R)) wx→G (.returned (.tuple #[])) wx):=fun wx hx=>HFN.out wx t HT1.out HT2.out hx
    have HSB:Hid (SW w B g n cap (P++Z.take t++Z.drop t++y::([]++R)) wr):=by
     have e2:P++Z.take t++Z.drop t++y::([]++R)=P++Z++[y]++R:=by
      rw [List.append_assoc P,List.take_append_drop]
      simp
     unfold Hid;rw [e2];exact HSW.out
    have HZL:Hid ((P++Z.take t).length=i∧i+(Z.drop t).length=m):=by
     have:=HT.out;have:=HLN.out
     refine ⟨?_,?_⟩
     · rw [List.length_append,List.length_take]
       omega
     · rw [List.length_drop]
       omega
    obtain ⟨Z0,hZ0⟩:∃ z,z=P++Z.take t:=⟨_,rfl⟩;obtain ⟨Z2,hZ2⟩:∃ z,z=Z.drop t:=⟨_,rfl⟩;rw [←hZ0,←hZ2] at HSB HEQ HZL;clear hZ0 hZ2 HSW HT1 HT2 HFN
    go_wp2_with fail
    go_loopw [17] (fun vk wr=>∃ (k:Nat) (S1 S2:List Wt),vk= .int .i64 k∧k=i+S1.length∧Z2=S1++S2∧SW w B g n cap (Z0++S1++y::(S2++R)) wr) (fun vk _=>(intOf vk).toNat)
    case atStart=>exact ⟨m,Z2,[],rfl,HZL.out.2.symm,by simp,HSB.out⟩
    case round=>
     obtain ⟨k,S1,S2,rfl,hkr,hs,hsw⟩:=hrel;have HSW:=aA hsw;have HS:=aA hs;clear hs hsw
     rcases Classical.em (S1=[]) with rfl|hne
     · have HK0:Hid (k=i):=by unfold Hid;simpa using hkr
       clear hkr;have hkl:¬ (i:Int)<(k:Int):=by have:=HK0.out;omega
       have HFN2:Hid (SW w B g n cap (Z0++y::(Z2++R)) wr):=by
        have e:=HSW.out;have e2:=HS.out;rw [List.nil_append] at e2;rw [←e2,List.append_nil] at e;exact e
       go_wp2_with fail
       refine bodyPost_ret (results_none rfl _ _ _) rfl ?_;exact HEQ.out _ HFN2.out
     · obtain ⟨S0,z,rfl⟩:=zR hne
       clear hne;rw [List.length_append,List.length_singleton] at hkr;obtain ⟨q,hq⟩:∃ q,q=i+S0.length:=⟨_,rfl⟩;have hkq:k=q+1:=by omega
       have hkn:k<n:=by
        have e:=congrArg List.length HS.out
        have:=HZL.out
        simp at e
        omega
       have HJ:Hid (k=q+1∧q=i+S0.length∧q<n):=⟨hkq,hq,by omega⟩;have hkl:(i:Int)<(k:Int):=by omega
       have hps:q<k:=by omega
       have hk1:1≤k:=by omega
       have hj0:(0:Int)≤(k:Int) - 1:=by omega
       have hj1:(k:Int) - 1<(n:Int):=by omega
       have hj2:((k:Int) - 1).toNat=q:=by omega
       have hj3:¬ (k:Int) - 1<0:=by omega
       have hq1:(1:Int)≤(k:Int):=by omega
       have hq3:(k:Int)≤(n:Int):=by omega
       have hq4:(k:Int)<(n:Int)+1:=by omega
       have hq5:(k:Int)<(n:Int):=by omega
       clear hkr hq hkq
       have HPL:Hid ((Z0++S0).length=q):=by
        unfold Hid;rw [List.length_append]
        have:=HZL.out;have:=HJ.out
        omega
       have HC1:Hid ((Z0++(S0++[z])++y::(S2++R))[k]? =some y):=by
        unfold Hid;rw [←List.append_assoc Z0,List.getElem?_append_right (by simp only [List.length_append,List.length_singleton];have:=HPL.out;have:=HJ.out;rw [List.length_append] at*;omega)];have e:k - (Z0++S0++[z]).length=0:=by rw [List.length_append,HPL.out,List.length_singleton];have:=HJ.out;omega
        rw [e];rfl
       have HC2:Hid ((Z0++(S0++[z])++y::(S2++R))[q]? =some z):=by
        unfold Hid;rw [←List.append_assoc Z0,List.append_assoc,List.getElem?_append_right (by have:=HPL.out;omega),HPL.out,Nat.sub_self];rfl
       obtain ⟨c0,c1,c2⟩:=HSW.out.1.cells HC1.out;obtain ⟨e0,e1,e2⟩:=HSW.out.1.cells HC2.out;have hfr:=fun i=>World.ownsRow.frozenAt HSW.out.1.2 i
       have HFIN:Hid (SW w B g n cap (Z0++S0++y::((z::S2)++R)) ((((((wr.setCell ⟨g,k*3,none⟩ (.string z.nm)).setCell ⟨g,k*3+1,none⟩ (.int .i64 z.kd)).setCell ⟨g,k*3+2,none⟩ (.slice z.ad z.ln z.cp)).setCell ⟨g,q*3,none⟩ (.string y.nm)).setCell ⟨g,q*3+1,none⟩ (.int .i64 y.kd)).setCell ⟨g,q*3+2,none⟩ (.slice y.ad y.ln y.cp)).drew):=by
        have e:=HSW.out.put (i:=k) (j:=q) (x:=y) (y:=z) hkn HJ.out.2.2;have e3:=qL (Z0++S0) (S2++R) y z;rw [HPL.out,←HJ.out.1] at e3;have e4:(Z0++(S0++[z])++y::(S2++R))=Z0++S0++z::y::(S2++R):=by simp
        rw [e4,e3] at e;exact fL _ _ _ _ _ _ _ _ e (Below.refl _ _).drew
       have HIN:Hid (Z2=S0++(z::S2)):=by
        unfold Hid;rw [HS.out]
        simp
       obtain ⟨hd00,he00,hd01,he01,hd02,he02,hd10,he10,hd11,he11,hd12,he12,hd20,he20,hd21,he21,hd22,he22⟩:=ND hps;obtain ⟨hw1,hw2⟩:=bT (a:=k) (i:=1) hk1 (by omega);have hw3:IntKind.i64.wrap ((k:Int) - 1)=(k:Int) - 1:=hw1;have hw4:wrap64 ((k:Int) - 1)=(k:Int) - 1:=hw2
       go_wp2_with fail
       go_region
       clear hw1 hw2 hw3 hw4 hj2 c0 c1 c2 e0 e1 e2 hfr hd00 he00 hd01 he01 hd02 he02 hd10 he10 hd11 he11 hd12 he12 hd20 he20 hd21 he21 hd22 he22;generalize ((((((wr.setCell ⟨g,k*3,none⟩ (.string z.nm)).setCell ⟨g,k*3+1,none⟩ (.int .i64 z.kd)).setCell ⟨g,k*3+2,none⟩ (.slice z.ad z.ln z.cp)).setCell ⟨g,q*3,none⟩ (.string y.nm)).setCell ⟨g,q*3+1,none⟩ (.int .i64 y.kd)).setCell ⟨g,q*3+2,none⟩ (.slice y.ad y.ln y.cp)).drew=w11 at*
       go_wp2_with fail
       exact ⟨⟨q,S0,z::S2,by have:=HJ.out.1;go_num,HJ.out.2.1,HIN.out,HFIN.out⟩,by have:=HJ.out.1;simp [intOf];omega⟩
theorem CX {α:Type} {l:List α} {u:Nat} {x:α} (hu:u≠0) (h:l[u - 1]? =some x):∃ S,l.take u=S++[x]:=by
 obtain ⟨hl,rfl⟩:=List.getElem?_eq_some_iff.1 h;refine ⟨l.take (u - 1),?_⟩;rw [←List.take_succ_eq_append_getElem hl]
 congr 1
 omega
theorem xQ {α:Type} {l:List α} {u:Nat} {x:α} (h:l[u]? =some x):∃ S,l.drop u=x::S:=by
 obtain ⟨hl,rfl⟩:=List.getElem?_eq_some_iff.1 h;exact ⟨_,List.drop_eq_getElem_cons hl⟩
theorem zS {l:List Wt} {u:Nat} {x:Wt} (hl:l.Pairwise ltT) (hu:u≠0) (h:l[u - 1]? =some x) {y:Wt} (hy:y ∈ l.take u):y=x∨ltT y x:=by
 obtain ⟨S,e⟩:=CX hu h;have hp:(l.take u).Pairwise ltT:=hl.sublist (List.take_sublist u l);rw [e] at hp hy
 rcases List.mem_append.1 hy with hy|hy
 · exact Or.inr ((List.pairwise_append.1 hp).2.2 y hy x (by simp))
 · exact Or.inl (List.mem_singleton.1 hy)
theorem oD {l:List Wt} {u:Nat} {x:Wt} (hl:l.Pairwise ltT) (h:l[u]? =some x) {y:Wt} (hy:y ∈ l.drop u):y=x∨ltT x y:=by
 obtain ⟨S,e⟩:=xQ h;have hp:(l.drop u).Pairwise ltT:=hl.sublist (List.drop_sublist u l);rw [e] at hp hy
 rcases List.mem_cons.1 hy with hy|hy
 · exact Or.inl hy
 · exact Or.inr ((List.pairwise_cons.1 hp).1 y hy)
theorem GI {a b c d:Wt} (h1:a=b∨ltT a b) (h2:ltT b c) (h3:d=c∨ltT c d):ltT a d:=by
 have h:ltT a c:=by
  rcases h1 with rfl|h1
  · exact h2
  · exact fY h1 h2
 rcases h3 with rfl|h3
 · exact h
 · exact fY h h3
def qN (A Z:List Wt) (u v:Nat):Prop:=(u=0∨v=Z.length∨∃ x z,A[u - 1]? =some x∧Z[v]? =some z∧ltS z.nm x.nm=false)∧(u=A.length∨v=0∨∃ x z,A[u]? =some x∧Z[v - 1]? =some z∧ltS z.nm x.nm=true)
theorem GJ {A Z:List Wt} {u v:Nat} (hA:A.Pairwise ltT) (hZ:Z.Pairwise ltT) (ht:∀ x ∈ A,∀ z ∈ Z,x.tg<z.tg) (h:qN A Z u v):∀ x ∈ A.take u,∀ z ∈ Z.drop v,ltT x z:=by
 intro x hx z hz
 rcases h.1 with rfl|rfl|⟨x0,z0,h1,h2,h3⟩
 · simp at hx
 · simp at hz
 · by_cases hu:u=0
   · subst hu
     simp at hx
   · exact GI (zS hA hu h1 hx) (mO h3 (ht _ (List.mem_of_getElem? h1) _ (List.mem_of_getElem? h2))) (oD hZ h2 hz)
theorem CY {A Z:List Wt} {u v:Nat} (hA:A.Pairwise ltT) (hZ:Z.Pairwise ltT) (h:qN A Z u v):∀ z ∈ Z.take v,∀ x ∈ A.drop u,ltT z x:=by
 intro z hz x hx
 rcases h.2 with rfl|rfl|⟨x0,z0,h1,h2,h3⟩
 · simp at hx
 · simp at hz
 · by_cases hv:v=0
   · subst hv
     simp at hz
   · exact GI (zS hZ hv h2 hz) (Or.inl h3) (oD hA h1 hx)
theorem vB {A Z M1 M2:List Wt} {u v:Nat} (hA:A.Pairwise ltT) (hZ:Z.Pairwise ltT) (ht:∀ x ∈ A,∀ z ∈ Z,x.tg<z.tg) (h:qN A Z u v) (p1:M1.Perm (A.take u++Z.take v)) (s1:M1.Pairwise ltT) (p2:M2.Perm (A.drop u++Z.drop v)) (s2:M2.Pairwise ltT):(M1++M2).Perm (A++Z)∧(M1++M2).Pairwise ltT:=by
 refine ⟨?_,List.pairwise_append.2 ⟨s1,s2,fun x hx y hy=> ?_⟩⟩
 · refine (p1.append p2).trans ?_
   have e:(A.take u++Z.take v++(A.drop u++Z.drop v)).Perm ((A.take u++A.drop u)++(Z.take v++Z.drop v)):=by
    rw [List.append_assoc,List.append_assoc];refine List.Perm.append_left _ ?_;rw [←List.append_assoc,←List.append_assoc];exact List.Perm.append_right _ List.perm_append_comm
   rw [List.take_append_drop,List.take_append_drop] at e;exact e
 · have hl:=GJ hA hZ ht h
   have hr:=CY hA hZ h
   have hu:∀ l:List Wt,l.Pairwise ltT→∀ k,∀ a ∈ l.take k,∀ b ∈ l.drop k,ltT a b:=fun l hl k a ha b hb=>by
    have e:=hl;rw [←List.take_append_drop k l] at e;exact (List.pairwise_append.1 e).2.2 a ha b hb
   rcases List.mem_append.1 (p1.mem_iff.1 hx) with hx|hx
   · rcases List.mem_append.1 (p2.mem_iff.1 hy) with hy|hy
     · exact hu A hA u x hx y hy
     · exact hl x hx y hy
   · rcases List.mem_append.1 (p2.mem_iff.1 hy) with hy|hy
     · exact hr x hx y hy
     · exact hu Z hZ v x hx y hy
def SymG (w:World) (B g n cap a m nn lo hi:Nat) (P A Z R:List Wt) (vs vr:Value) (wr:World):Prop:=∃ s r:Nat,vs= .int .i64 s∧vr= .int .i64 r∧lo≤s∧s≤r∧r≤hi∧(s=lo∨∃ x z,A[s - a - 1]? =some x∧Z[nn - s - m]? =some z∧ltS z.nm x.nm=false)∧(r=hi∨∃ x z,A[r - a]? =some x∧Z[nn - 1 - r - m]? =some z∧ltS z.nm x.nm=true)∧SW w B g n cap (P++A++Z++R) wr
theorem SymG.mk {w:World} {B g n cap a m nn lo hi:Nat} {P A Z R:List Wt} {vs vr:Value} {wr:World} (s r:Nat) (h1:vs= .int .i64 s) (h2:vr= .int .i64 r) (h3:lo≤s) (h4:s≤r) (h5:r≤hi) (h6:s=lo∨∃ x z,A[s - a - 1]? =some x∧Z[nn - s - m]? =some z∧ltS z.nm x.nm=false) (h7:r=hi∨∃ x z,A[r - a]? =some x∧Z[nn - 1 - r - m]? =some z∧ltS z.nm x.nm=true) (h8:SW w B g n cap (P++A++Z++R) wr):SymG w B g n cap a m nn lo hi P A Z R vs vr wr:=⟨s,r,h1,h2,h3,h4,h5,h6,h7,h8⟩
def jI (a m b mid lo hi n:Nat):Prop:=a+2≤m∧m+2≤b∧b≤n∧mid=(a+b) / 2∧a≤lo∧lo≤hi∧hi≤m∧(lo=a∨lo+b=mid+m)∧(hi=m∨hi=mid)∧hi≤mid∧mid+m≤lo+b
theorem zW {A Z:List Wt} {a m b mid lo hi n s:Nat} (hN:jI a m b mid lo hi n) (hA:a+A.length=m) (hZ:m+Z.length=b) (h1:lo≤s) (h2:s≤hi) (h6:s=lo∨∃ x z,A[s - a - 1]? =some x∧Z[mid+m - s - m]? =some z∧ltS z.nm x.nm=false) (h7:s=hi∨∃ x z,A[s - a]? =some x∧Z[mid+m - 1 - s - m]? =some z∧ltS z.nm x.nm=true):qN A Z (s - a) (mid - s):=by
 obtain ⟨g1,g2,g3,g4,g5,g6,g7,g8,g9,g10,g11⟩:=hN;refine ⟨?_,?_⟩
 · rcases h6 with rfl|⟨x,z,e1,e2,e3⟩
   · rcases g8 with e|e
     · exact Or.inl (by omega)
     · exact Or.inr (Or.inl (by omega))
   · refine Or.inr (Or.inr ⟨x,z,e1,?_,e3⟩)
     rw [show mid - s=mid+m - s - m by omega];exact e2
 · rcases h7 with rfl|⟨x,z,e1,e2,e3⟩
   · rcases g9 with e|e
     · exact Or.inl (by omega)
     · exact Or.inr (Or.inl (by omega))
   · by_cases h0:mid - s=0
     · exact Or.inr (Or.inl h0)
     · refine Or.inr (Or.inr ⟨x,z,e1,?_,e3⟩)
       rw [show mid - s - 1=mid+m - 1 - s - m by omega];exact e2
def mD (w:World) (B g n cap:Nat) (P A Z R:List Wt) (u v:Nat) (W:World):Prop:=∃ M:List Wt,M.Perm (A.take u++Z.take v)∧M.Pairwise ltT∧SW w B g n cap (P++M++(A.drop u++Z.drop v)++R) W
def jJ (w:World) (B g n cap:Nat) (P A Z R:List Wt) (u v:Nat) (W:World):Prop:=SW w B g n cap (P++(A.take u++Z.take v)++(A.drop u++Z.drop v)++R) W
def vC (B g n cap k:Nat):Prop:=∀ (W:World) (P A Z R:List Wt) (a m b:Nat),A.length+Z.length<k→P.length=a→a+A.length=m→m+Z.length=b→A≠[]→Z≠[]→A.Pairwise ltT→Z.Pairwise ltT→(∀ x ∈ A,∀ z ∈ Z,x.tg<z.tg)→RowW W B g n cap (P++A++Z++R)→Calls Tryz.prog 257 #[.slice (some ⟨g,0,none⟩) n cap,.int .i64 a,.int .i64 m,.int .i64 b,.func (.func 242) #[] #[]] W (MgQ W B g n cap P (A++Z) R)
theorem sM {α:Type} {l:List α} {u:Nat} (h:0<u) (hl:0<l.length):l.take u≠[]:=fun e=>by
 have:=congrArg List.length e
 rw [List.length_take,List.length_nil] at this;omega
theorem sN {α:Type} {l:List α} {u:Nat} (h:u<l.length):l.drop u≠[]:=fun e=>by
 have:=congrArg List.length e
 rw [List.length_drop,List.length_nil] at this;omega
theorem zX {w:World} {B g n cap a m u v:Nat} {P A Z R:List Wt} (hn:n≤1000000000) (ha:P.length=a) (hm:a+A.length=m) (hv:v≤Z.length) (h1:u<A.length) (h2:0<v) {W:World} (h:SW w B g n cap (P++A++Z++R) W):Calls Tryz.prog 263 #[.slice (some ⟨g,0,none⟩) n cap,.int .i64 (a+u:Nat),.int .i64 m,.int .i64 (m+v:Nat),.func (.func 242) #[] #[]] W fun e w'=>e= .returned (.tuple #[])∧jJ w B g n cap P A Z R u v w':=by
 have e1:P++A++Z++R=(P++A.take u)++A.drop u++Z.take v++(Z.drop v++R):=by
  conv=>lhs;rw [←List.take_append_drop u A,←List.take_append_drop v Z]
  simp only [List.append_assoc]
 rw [e1] at h;refine (xN (P:=P++A.take u) (X:=A.drop u) (Y:=Z.take v) (R:=Z.drop v++R) hn (by rw [List.length_append,List.length_take];omega) (by rw [List.length_drop];omega) (by rw [List.length_take];omega) (sN h1) (sM h2 (by omega)) h.1).mono ?_;rintro e w' ⟨q1,q2⟩;refine ⟨q1,?_⟩;have e2:=h.then q2
 unfold jJ
 simpa using e2
theorem vD {w:World} {B g n cap u v:Nat} {P A Z R:List Wt} (h0:u=A.length∨v=0) {W:World} (h:SW w B g n cap (P++A++Z++R) W):jJ w B g n cap P A Z R u v W:=by
 unfold jJ
 rcases h0 with rfl|rfl
 · have e:P++(A.take A.length++Z.take v)++(A.drop A.length++Z.drop v)++R=P++A++Z++R:=by
    rw [List.take_length,List.drop_length,List.nil_append,←List.append_assoc P,List.append_assoc (P++A),List.take_append_drop]
   rw [e];exact h
 · have e:P++(A.take u++Z.take 0)++(A.drop u++Z.drop 0)++R=P++A++Z++R:=by
    rw [List.take_zero,List.append_nil,List.drop_zero,←List.append_assoc (P++A.take u),List.append_assoc P,List.take_append_drop]
   rw [e];exact h
theorem vE {w:World} {B g n cap a u v k:Nat} {P A Z R:List Wt} (hIH:vC B g n cap k) (ha:P.length=a) (hk:u+v<k) (hA:A.Pairwise ltT) (hZ:Z.Pairwise ltT) (ht:∀ x ∈ A,∀ z ∈ Z,x.tg<z.tg) (hu:u≤A.length) (hv:v≤Z.length) (h1:0<u) (h2:0<v) {W:World} (h:jJ w B g n cap P A Z R u v W):Calls Tryz.prog 257 #[.slice (some ⟨g,0,none⟩) n cap,.int .i64 a,.int .i64 (a+u:Nat),.int .i64 (a+u+v:Nat),.func (.func 242) #[] #[]] W fun e w'=>e= .returned (.tuple #[])∧mD w B g n cap P A Z R u v w':=by
 have e1:P++(A.take u++Z.take v)++(A.drop u++Z.drop v)++R=P++A.take u++Z.take v++((A.drop u++Z.drop v)++R):=by simp
 unfold jJ at h;rw [e1] at h;refine (hIH W P (A.take u) (Z.take v) ((A.drop u++Z.drop v)++R) a (a+u) (a+u+v) (by rw [List.length_take,List.length_take];omega) ha (by rw [List.length_take];omega) (by rw [List.length_take];omega) (sM h1 (by omega)) (sM h2 (by omega)) (hA.sublist (List.take_sublist u A)) (hZ.sublist (List.take_sublist v Z)) (fun x hx z hz=>ht x (List.mem_of_mem_take hx) z (List.mem_of_mem_take hz)) h.1).mono ?_;rintro e w' ⟨q1,M,q2,q3,q4⟩;refine ⟨q1,M,q2,q3,?_⟩;have e2:=h.then q4
 simpa using e2
theorem mA {w:World} {B g n cap u v:Nat} {P A Z R:List Wt} (hA:A.Pairwise ltT) (hZ:Z.Pairwise ltT) (h0:u=0∨v=0) {W:World} (h:jJ w B g n cap P A Z R u v W):mD w B g n cap P A Z R u v W:=by
 refine ⟨_,List.Perm.refl _,?_,h⟩
 rcases h0 with rfl|rfl
 · rw [List.take_zero,List.nil_append]
   exact hZ.sublist (List.take_sublist v Z)
 · rw [List.take_zero,List.append_nil]
   exact hA.sublist (List.take_sublist u A)
theorem qO {w:World} {B g n cap a u v k mid b:Nat} {P A Z R:List Wt} (hIH:vC B g n cap k) (ha:P.length=a) (hmid:a+u+v=mid) (hb:a+A.length+Z.length=b) (hk:A.length - u+(Z.length - v)<k) (hA:A.Pairwise ltT) (hZ:Z.Pairwise ltT) (ht:∀ x ∈ A,∀ z ∈ Z,x.tg<z.tg) (hc:qN A Z u v) (h1:u<A.length) (h2:v<Z.length) {W:World} (h:mD w B g n cap P A Z R u v W):Calls Tryz.prog 257 #[.slice (some ⟨g,0,none⟩) n cap,.int .i64 mid,.int .i64 (mid+(A.length - u):Nat),.int .i64 b,.func (.func 242) #[] #[]] W (MgQ w B g n cap P (A++Z) R):=by
 obtain ⟨M,p1,s1,hs⟩:=h;have e1:P++M++(A.drop u++Z.drop v)++R=(P++M)++A.drop u++Z.drop v++R:=by simp
 rw [e1] at hs;have hML:M.length=u+v:=by rw [p1.length_eq,List.length_append,List.length_take,List.length_take];omega
 refine (hIH W (P++M) (A.drop u) (Z.drop v) R mid (mid+(A.length - u)) b (by rw [List.length_drop,List.length_drop];exact hk) (by rw [List.length_append];omega) (by rw [List.length_drop]) (by rw [List.length_drop];omega) (sN h1) (sN h2) (hA.sublist (List.drop_sublist u A)) (hZ.sublist (List.drop_sublist v Z)) (fun x hx z hz=>ht x (List.mem_of_mem_drop hx) z (List.mem_of_mem_drop hz)) hs.1).mono ?_;rintro e w' ⟨q1,M2,q2,q3,q4⟩;obtain ⟨j1,j2⟩:=vB hA hZ ht hc p1 s1 q2 q3;refine ⟨q1,M++M2,j1,j2,?_⟩;have e2:=hs.then q4
 simpa using e2
theorem kM {w:World} {B g n cap u v:Nat} {P A Z R:List Wt} (hA:A.Pairwise ltT) (hZ:Z.Pairwise ltT) (ht:∀ x ∈ A,∀ z ∈ Z,x.tg<z.tg) (hc:qN A Z u v) (h0:u=A.length∨v=Z.length) {W:World} (h:mD w B g n cap P A Z R u v W):MgQ w B g n cap P (A++Z) R (.returned (.tuple #[])) W:=by
 obtain ⟨M,p1,s1,hs⟩:=h
 have hq:(A.drop u++Z.drop v).Pairwise ltT:=by
  rcases h0 with rfl|rfl
  · rw [List.drop_length,List.nil_append]
    exact hZ.sublist (List.drop_sublist v Z)
  · rw [List.drop_length,List.append_nil]
    exact hA.sublist (List.drop_sublist u A)
 obtain ⟨j1,j2⟩:=vB hA hZ ht hc p1 s1 (List.Perm.refl _) hq;exact ⟨rfl,_,j1,j2,by simpa using hs⟩
end Go.Proofs.YtpfemjlhklnfoaaGreatDoor
