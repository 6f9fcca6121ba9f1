/- St9, St11: their declarations that are needed, laid in one text, remarks and blanks left out. -/
import Derived.Test.YtpfemjlhklnfoaaGreatDoorMh21
namespace Go.Proofs.YtpfemjlhklnfoaaGreatDoor
open Go.RowKit Go.Maps Go.WideMaps
set_option maxRecDepth 100000
set_option maxHeartbeats 12800000 in
theorem KW {w:World} {B g n cap a m b:Nat} {P A Z R:List Wt} (hIH:vC B g n cap (A.length+Z.length)) (hn:n≤1000000000) (ha:P.length=a) (hm:a+A.length=m) (hb:m+Z.length=b) (hA2:2≤A.length) (hZ2:2≤Z.length) (hA:A.Pairwise ltT) (hZ:Z.Pairwise ltT) (ht:∀ x ∈ A,∀ z ∈ Z,x.tg<z.tg) (h:RowW w B g n cap (P++A++Z++R)):
 Calls Tryz.prog 257 #[.slice (some ⟨g,0,none⟩) n cap,.int .i64 a,.int .i64 m,.int .i64 b,.func (.func 242) #[] #[]] w (MgQ w B g n cap P (A++Z) R):=by
 have hbn:b≤n:=by
  have e:=h.1;simp only [List.length_append] at e;omega
 have HS0:Hid (SW w B g n cap (P++A++Z++R) w):=⟨h,⟨rfl,rfl,rfl,Nat.le_refl _,fun _ _ _=>rfl⟩⟩;have HLN:Hid (P.length=a∧a+A.length=m∧m+Z.length=b):=⟨ha,hm,hb⟩;have hmb:m+2≤b:=by omega
 have ham:a+2≤m:=by omega
 have HIA:Hid (∀ q x,A[q]? =some x→(P++A++Z++R)[a+q]? =some x):=fun q x hq=>by
  have hq1:=(List.getElem?_eq_some_iff.1 hq).1;rw [List.getElem?_append_left (by simp;omega),List.getElem?_append_left (by simp;omega),List.getElem?_append_right (by omega)];have e:a+q - P.length=q:=by omega
  rw [e];exact hq
 have HIZ:Hid (∀ q z,Z[q]? =some z→(P++A++Z++R)[m+q]? =some z):=fun q z hq=>by
  have hq1:=(List.getElem?_eq_some_iff.1 hq).1;rw [List.getElem?_append_left (by simp;omega),List.getElem?_append_right (by simp;omega)];have e:m+q - (P++A).length=q:=by simp;omega
  rw [e];exact hq
 obtain ⟨mid,hmid⟩:∃ q,q=(a+b) / 2:=⟨_,rfl⟩;obtain ⟨nn,hnn⟩:∃ q,q=mid+m:=⟨_,rfl⟩;obtain ⟨pp,hpp⟩:∃ q,q=nn - 1:=⟨_,rfl⟩;have HME:Hid (((a:Int)+(b:Int)) / 2=(mid:Int)):=by unfold Hid;omega
 have HNN:Hid ((mid:Int)+(m:Int)=(nn:Int)):=by unfold Hid;omega
 have HPE:Hid ((nn:Int) - 1=(pp:Int)):=by unfold Hid;omega
 have HPP0:Hid (pp=nn - 1∧nn=mid+m):=⟨hpp,hnn⟩;have HNE:Hid (nn=mid+m):=hnn;have HMI:Hid (mid=(a+b) / 2):=hmid;have hmb2:mid<b:=by omega
 have ham2:a<mid:=by omega
 have HW1:=aA (bT (a:=m) (i:=a) (by omega) (by omega));have HW2:=aA (bT (a:=b) (i:=m) (by omega) (by omega));have HWP:=aA (gZ (x:=(pp:Int)) (by omega) (by omega)).2;have hd1:¬ (m:Int) - (a:Int)=1:=by omega
 have hd2:¬ (b:Int) - (m:Int)=1:=by omega
 have hd4:((m:Int) - (a:Int)==1)=false:=by rw [beq_eq_false_iff_ne];exact hd1
 have hd5:((b:Int) - (m:Int)==1)=false:=by rw [beq_eq_false_iff_ne];exact hd2
 have HAP:Hid (A.Pairwise ltT∧Z.Pairwise ltT∧∀ x ∈ A,∀ z ∈ Z,x.tg<z.tg):=⟨hA,hZ,ht⟩;have HIH:=aA hIH;obtain ⟨G,hG⟩:∃ G,G=MgQ w B g n cap P (A++Z) R:=⟨_,rfl⟩
 have HGE:Hid (∀ e9 w9,MgQ w B g n cap P (A++Z) R e9 w9→e9= .returned (.tuple #[])∧G (.returned (.tuple #[])) w9):=fun e9 w9 hq=>by
  have h1:=hq.1;rw [h1] at hq;exact ⟨h1,hG ▸ hq⟩
 rw [←hG];clear hG hIH;clear h ha hb hA hZ ht hm hmid hnn hpp;obtain ⟨k1,k2⟩:=HW1.out;obtain ⟨k3,k4⟩:=HW2.out
 go_enter Tryz.func257,Tryz.ntmps257
 go_upto_region 25 with fail
 rw [HME.out]
 go_upto_region 26 with fail
 rw [HNN.out];clear k1 k2 k3 k4 hd1 hd2 hd4 hd5
 by_cases hmm:mid<m
 · have hmi:(mid:Int)<(m:Int):=by omega
   obtain ⟨lo,hlo⟩:∃ q,q=nn - b:=⟨_,rfl⟩
   have HN:Hid (jI a m b mid lo mid n):=by
    have:=HMI.out
    have:=HNE.out
    unfold Hid jI;omega
   have HLE:Hid ((nn:Int) - (b:Int)=(lo:Int)):=by have:=HMI.out;have:=HNE.out;unfold Hid;omega
   have HW6:=aA (bT (a:=nn) (i:=b) (by have:=HMI.out;have:=HNE.out;omega) (by have:=HNE.out;omega));clear hlo;obtain ⟨k3,k4⟩:=HW6.out
   go_wp2_with fail
   rw [HLE.out,HPE.out,HWP.out];clear k3 k4
   go_loopw [20,21] (fun vs vr wr=>SymG w B g n cap a m nn lo mid P A Z R vs vr wr) (fun vs vr _=>(intOf vr).toNat - (intOf vs).toNat)
   case atStart=>exact SymG.mk lo mid rfl rfl (Nat.le_refl _) (by have:=HN.out;unfold jI at this;omega) (Nat.le_refl _) (Or.inl rfl) (Or.inl rfl) HS0.out
   case round=>
    obtain ⟨s,r,rfl,rfl,hls,hsr,hrh,hlo,hhi,hsw⟩:=hrel;have HLO:=aA hlo;have HHI:=aA hhi;have HSW:=aA hsw;clear hlo hhi hsw
    by_cases hlt:s<r
    · have hlti:(s:Int)<(r:Int):=by omega
      obtain ⟨c,hce⟩:∃ q,q=(s+r) / 2:=⟨_,rfl⟩;have hb1:s≤c:=by omega
      have hb2:c<r:=by omega
      have HCE:Hid (((s:Int)+(r:Int)) / 2=(c:Int)):=by unfold Hid;omega
      clear hce;obtain ⟨ei,hei⟩:∃ q,q=nn - 1 - c:=⟨_,rfl⟩
      have HEI:Hid (ei=nn - 1 - c∧m≤ei∧ei<b∧a≤c∧c<m∧ei+c=pp):=by
       have hN:=HN.out;have hP:=HPP0.out;unfold jI at hN;unfold Hid;omega
      clear hei;obtain ⟨x,hx⟩:∃ x,A[c - a]? =some x:=⟨_,List.getElem?_eq_getElem (by have:=HEI.out;have:=HLN.out;omega)⟩;obtain ⟨z,hz⟩:∃ z,Z[ei - m]? =some z:=⟨_,List.getElem?_eq_getElem (by have:=HEI.out;have:=HLN.out;omega)⟩
      have HXI:Hid ((P++A++Z++R)[c]? =some x):=by
       have e:=HIA.out _ _ hx;rw [show a+(c - a)=c by have:=HEI.out;omega] at e;exact e
      have HZI:Hid ((P++A++Z++R)[ei]? =some z):=by
       have e:=HIZ.out _ _ hz;rw [show m+(ei - m)=ei by have:=HEI.out;omega] at e;exact e
      have HXA:=aA hx;have HZZ:=aA hz;clear hx hz;obtain ⟨rr,hr,hcm⟩:=gY z x;have HCM:=aA hcm;obtain ⟨c0,c1,c2⟩:=HSW.out.1.cells HZI.out;obtain ⟨e0,e1,e2⟩:=HSW.out.1.cells HXI.out;have hgw:=HSW.out.1.lt.2;have HK:Hid (KeepP fun w1=>SW w B g n cap (P++A++Z++R) w1∧Sc.aF w1 g (ei*3) (.string z.nm)∧Sc.aF w1 g (ei*3+1) (.int .i64 z.kd)∧Sc.aF w1 g (ei*3+2) (.slice z.ad z.ln z.cp)∧Sc.aF w1 g (c*3) (.string x.nm)∧Sc.aF w1 g (c*3+1) (.int .i64 x.kd)∧Sc.aF w1 g (c*3+2) (.slice x.ad x.ln x.cp)):=KeepP.and (fL _ _ _ _ _ _) (KeepP.and (aP _ _ _) (KeepP.and (aP _ _ _) (KeepP.and (aP _ _ _) (KeepP.and (aP _ _ _) (KeepP.and (aP _ _ _) (aP _ _ _))))))
      have HO:Hid (SW w B g n cap (P++A++Z++R) wr∧Sc.aF wr g (ei*3) (.string z.nm)∧Sc.aF wr g (ei*3+1) (.int .i64 z.kd)∧Sc.aF wr g (ei*3+2) (.slice z.ad z.ln z.cp)∧Sc.aF wr g (c*3) (.string x.nm)∧Sc.aF wr g (c*3+1) (.int .i64 x.kd)∧Sc.aF wr g (c*3+2) (.slice x.ad x.ln x.cp)):=⟨HSW.out,⟨c0,hgw⟩,⟨c1,hgw⟩,⟨c2,hgw⟩,⟨e0,hgw⟩,⟨e1,hgw⟩,⟨e2,hgw⟩⟩;clear hcm c0 c1 c2 e0 e1 e2 hgw HSW;have hcn:c<n:=by have:=HEI.out;omega
      have q1:(c:Int)<(n:Int):=by omega
      have q2:(0:Int)≤(pp:Int) - (c:Int):=by have:=HEI.out;omega
      have q3:(pp:Int) - (c:Int)<(n:Int):=by have:=HEI.out;omega
      have q4:((pp:Int) - (c:Int)).toNat=ei:=by have:=HEI.out;omega
      have q5:¬ (pp:Int) - (c:Int)<0:=by omega
      have q6:(c:Int)≤(pp:Int):=by omega
      have q9:(pp:Int)<(n:Int)+(c:Int):=by omega
      have q10:c≤pp:=by omega
      have q11:pp - c=ei:=by have:=HEI.out;omega
      have q12:pp<n+c:=by omega
      have q14:ei<n:=by have:=HEI.out;omega
      have q15:(ei:Int)<(n:Int):=by omega
      have q16:(pp:Int) - (c:Int)=(ei:Int):=by have:=HEI.out;omega
      have HQ7:=aA (bT (a:=pp) (i:=c) (by omega) (by have:=HEI.out;omega));have HQ9:=aA (gZ (x:=(ei:Int)) (by omega) (by omega))
      by_cases hc:rr<0
      · have HLT:Hid (ltS z.nm x.nm=true):=hr.1 hc
        clear hr
        go_upto_region 35 with fail
        rw [HCE.out];obtain ⟨q7,q8⟩:=HQ7.out;obtain ⟨q17,q18⟩:=HQ9.out;refine bA HK (by kernel_rfl) (by kernel_rfl) (by first|exact HO.out|exact HK.out.drew HO.out) ?_;intro C HIN HOUT;clear HO
        repeat
         (with_reducible refine wpQuiet_step (fun K hK=> ?_)
          go_simp
          first
           |(refine hK _ ?_;clear hK K)
           |(apply Exists.intro;refine ⟨fun w1 hC=> ?_,hK _ ?_⟩;(focus ((first|(go_at_call 242;with_reducible exact aU HIN HOUT HK HCM.out w1 hC)|(exact rfl)|(obtain ⟨hsw,⟨c0,hgw⟩,⟨c1,_⟩,⟨c2,_⟩,⟨e0,_⟩,⟨e1,_⟩,⟨e2,_⟩⟩:=HOUT.out w1 hC;clear hC;go_simp;first|done|exact rfl));done));clear hK K))
        refine wpQuiet_nil ?_;intro w10 hC;have HO:=aA (HOUT.out _ hC);clear hC HIN HOUT C;obtain ⟨hsw,⟨c0,hgw⟩,⟨c1,_⟩,⟨c2,_⟩,⟨e0,_⟩,⟨e1,_⟩,⟨e2,_⟩⟩:=HO.out;have HSW2:=aA hsw;clear hsw HO HK c0 c1 c2 e0 e1 e2 hgw q7 q8 q17 q18 q4 q11 q16
        go_wp2_with fail
        exact ⟨SymG.mk s c rfl rfl hls hb1 (by omega) HLO.out (Or.inr ⟨x,z,HXA.out,by rw [show nn - 1 - c - m=ei - m by have:=HEI.out;omega];exact HZZ.out,HLT.out⟩) HSW2.out,by simp [intOf];omega⟩
      · have HLT:Hid (ltS z.nm x.nm=false):=Bool.eq_false_iff.2 fun e=>hc (hr.2 e)
        clear hr
        go_upto_region 35 with fail
        rw [HCE.out];obtain ⟨q7,q8⟩:=HQ7.out;obtain ⟨q17,q18⟩:=HQ9.out;refine bA HK (by kernel_rfl) (by kernel_rfl) (by first|exact HO.out|exact HK.out.drew HO.out) ?_;intro C HIN HOUT;clear HO
        repeat
         (with_reducible refine wpQuiet_step (fun K hK=> ?_)
          go_simp
          first
           |(refine hK _ ?_;clear hK K)
           |(apply Exists.intro;refine ⟨fun w1 hC=> ?_,hK _ ?_⟩;(focus ((first|(go_at_call 242;with_reducible exact aU HIN HOUT HK HCM.out w1 hC)|(exact rfl)|(obtain ⟨hsw,⟨c0,hgw⟩,⟨c1,_⟩,⟨c2,_⟩,⟨e0,_⟩,⟨e1,_⟩,⟨e2,_⟩⟩:=HOUT.out w1 hC;clear hC;go_simp;first|done|exact rfl));done));clear hK K))
        refine wpQuiet_nil ?_;intro w10 hC;have HO:=aA (HOUT.out _ hC);clear hC HIN HOUT C;obtain ⟨hsw,⟨c0,hgw⟩,⟨c1,_⟩,⟨c2,_⟩,⟨e0,_⟩,⟨e1,_⟩,⟨e2,_⟩⟩:=HO.out;have HSW2:=aA hsw;clear hsw HO HK c0 c1 c2 e0 e1 e2 hgw q7 q8 q17 q18 q4 q11 q16
        go_wp2_with fail
        exact ⟨SymG.mk (c+1) r (by go_num) rfl (by omega) (by omega) hrh (Or.inr ⟨x,z,by rw [show c+1 - a - 1=c - a by omega];exact HXA.out,by rw [show nn - (c+1) - m=ei - m by have:=HEI.out;omega];exact HZZ.out,HLT.out⟩) HHI.out HSW2.out,by simp [intOf];omega⟩
    · obtain rfl:s=r:=by omega
      have hlti:¬ (s:Int)<(s:Int):=by omega
      have HCT:=aA (zW HN.out HLN.out.2.1 HLN.out.2.2 hls hrh (by have:=HLO.out;rw [HNE.out] at this;exact this) (by have:=HHI.out;rw [HNE.out] at this;exact this));obtain ⟨u,hu⟩:∃ q,q=s - a:=⟨_,rfl⟩;obtain ⟨v,hv⟩:∃ q,q=mid - s:=⟨_,rfl⟩;obtain ⟨e,he⟩:∃ q,q=nn - s:=⟨_,rfl⟩;rw [←hu,←hv] at HCT
      have HNU:Hid (s=a+u∧mid=a+u+v∧e=m+v∧u≤A.length∧v≤Z.length∧e=mid+(A.length - u)∧b=m+Z.length∧m=a+A.length∧s≤nn∧nn≤2000000000):=by
       have hN:=HN.out;have hL:=HLN.out;have hE:=HNE.out;unfold jI at hN;unfold Hid;omega
      have HEE:Hid ((nn:Int) - (s:Int)=(e:Int)):=by have:=HNU.out;unfold Hid;omega
      clear hu hv he
      have HRT:Hid (u<A.length→0<v→Calls Tryz.prog 263 #[.slice (some ⟨g,0,none⟩) n cap,.int .i64 s,.int .i64 m,.int .i64 e,.func (.func 242) #[] #[]] wr fun e9 w9=>e9= .returned (.tuple #[])∧jJ w B g n cap P A Z R u v w9):=fun h1 h2=>by
       have q:=zX (u:=u) (v:=v) hn HLN.out.1 HLN.out.2.1 HNU.out.2.2.2.2.1 h1 h2 HSW.out;rw [←HNU.out.1,←HNU.out.2.2.1] at q;exact q
      have HNRT:Hid ((u=A.length∨v=0)→jJ w B g n cap P A Z R u v wr):=fun h0=>vD h0 HSW.out
      have HLF:Hid (∀ W,0<u→0<v→jJ w B g n cap P A Z R u v W→Calls Tryz.prog 257 #[.slice (some ⟨g,0,none⟩) n cap,.int .i64 a,.int .i64 s,.int .i64 mid,.func (.func 242) #[] #[]] W fun e9 w9=>e9= .returned (.tuple #[])∧mD w B g n cap P A Z R u v w9):=fun W h1 h2 h3=>by
       have q:=vE HIH.out HLN.out.1 (by have:=HNU.out;have hN:=HN.out;unfold jI at hN;omega) HAP.out.1 HAP.out.2.1 HAP.out.2.2 HNU.out.2.2.2.1 HNU.out.2.2.2.2.1 h1 h2 h3;rw [←HNU.out.2.1,←HNU.out.1] at q;exact q
      have HNLF:Hid (∀ W,(u=0∨v=0)→jJ w B g n cap P A Z R u v W→mD w B g n cap P A Z R u v W):=fun W h0 h=>mA HAP.out.1 HAP.out.2.1 h0 h
      have HRG:Hid (∀ W,u<A.length→v<Z.length→mD w B g n cap P A Z R u v W→Calls Tryz.prog 257 #[.slice (some ⟨g,0,none⟩) n cap,.int .i64 mid,.int .i64 e,.int .i64 b,.func (.func 242) #[] #[]] W fun e9 w9=>e9= .returned (.tuple #[])∧G (.returned (.tuple #[])) w9):=fun W h1 h2 h3=>by
       have q:=qO HIH.out HLN.out.1 HNU.out.2.1.symm (by have:=HNU.out;omega:a+A.length+Z.length=b) (by have:=HNU.out;have hN:=HN.out;unfold jI at hN;omega) HAP.out.1 HAP.out.2.1 HAP.out.2.2 HCT.out h1 h2 h3;rw [←HNU.out.2.2.2.2.2.1] at q;exact q.mono fun e9 w9 hq=>HGE.out e9 w9 hq
      have HNRG:Hid (∀ W,(u=A.length∨v=Z.length)→mD w B g n cap P A Z R u v W→G (.returned (.tuple #[])) W):=fun W h0 h=>by
       have q:=kM HAP.out.1 HAP.out.2.1 HAP.out.2.2 HCT.out h0 h;exact (HGE.out _ _ q).2
      have HW7:=aA (bT (a:=nn) (i:=s) HNU.out.2.2.2.2.2.2.2.2.1 HNU.out.2.2.2.2.2.2.2.2.2);clear HLO HHI HSW;obtain ⟨k1,k2⟩:=HW7.out
      go_upto_region 39 with fail
      rw [HEE.out];clear k1 k2
      by_cases z0:0<u
      · by_cases z1:u<A.length
        · by_cases z2:0<v
          · by_cases z3:v<Z.length
            · have i1:(s:Int)<(m:Int):=by have:=HNU.out;omega
              have i2:(m:Int)<(e:Int):=by have:=HNU.out;omega
              have i3:(a:Int)<(s:Int):=by have:=HNU.out;omega
              have i4:(s:Int)<(mid:Int):=by have:=HNU.out;omega
              have i5:(mid:Int)<(e:Int):=by have:=HNU.out;omega
              have i6:(e:Int)<(b:Int):=by have:=HNU.out;omega
              go_wp2_with (first|(go_at_call 257;have _t:=HMD;refine (HRG.out _ (by have:=HNU.out;omega) (by have:=HNU.out;omega) HMD.out).mono ?_;rintro e9 w9 ⟨rfl,h9⟩;have HGF:=aA h9;clear h9)|(go_at_call 257;have _t:=HRD;refine (HLF.out _ (by omega) (by omega) HRD.out).mono ?_;rintro e8 w8 ⟨rfl,h8⟩;have HMD:=aA h8;clear h8)|(go_at_call 263;refine (HRT.out (by have:=HNU.out;omega) (by omega)).mono ?_;rintro e7 w7 ⟨rfl,h7⟩;have HRD:=aA h7;clear h7))
              all_goals go_end0
              all_goals exact HGF.out
            · have i1:(s:Int)<(m:Int):=by have:=HNU.out;omega
              have i2:(m:Int)<(e:Int):=by have:=HNU.out;omega
              have i3:(a:Int)<(s:Int):=by have:=HNU.out;omega
              have i4:(s:Int)<(mid:Int):=by have:=HNU.out;omega
              have i5:(mid:Int)<(e:Int):=by have:=HNU.out;omega
              have i6:¬ (e:Int)<(b:Int):=by have:=HNU.out;omega
              go_wp2_with (first|(go_at_call 257;have _t:=HRD;refine (HLF.out _ (by omega) (by omega) HRD.out).mono ?_;rintro e8 w8 ⟨rfl,h8⟩;have HMD:=aA h8;clear h8)|(go_at_call 263;refine (HRT.out (by have:=HNU.out;omega) (by omega)).mono ?_;rintro e7 w7 ⟨rfl,h7⟩;have HRD:=aA h7;clear h7))
              all_goals go_end0
              all_goals exact HNRG.out _ (by have:=HNU.out;omega) HMD.out
          · by_cases z3:v<Z.length
            · have i1:(s:Int)<(m:Int):=by have:=HNU.out;omega
              have i2:¬ (m:Int)<(e:Int):=by have:=HNU.out;omega
              have i3:(a:Int)<(s:Int):=by have:=HNU.out;omega
              have i4:¬ (s:Int)<(mid:Int):=by have:=HNU.out;omega
              have i5:(mid:Int)<(e:Int):=by have:=HNU.out;omega
              have i6:(e:Int)<(b:Int):=by have:=HNU.out;omega
              have HRD:=aA (HNRT.out (by have:=HNU.out;omega));have HMD:=aA (HNLF.out _ (by omega) HRD.out)
              go_wp2_with (first|(go_at_call 257;have _t:=HMD;refine (HRG.out _ (by have:=HNU.out;omega) (by have:=HNU.out;omega) HMD.out).mono ?_;rintro e9 w9 ⟨rfl,h9⟩;have HGF:=aA h9;clear h9))
              all_goals go_end0
              all_goals exact HGF.out
            · have i1:(s:Int)<(m:Int):=by have:=HNU.out;omega
              have i2:¬ (m:Int)<(e:Int):=by have:=HNU.out;omega
              have i3:(a:Int)<(s:Int):=by have:=HNU.out;omega
              have i4:¬ (s:Int)<(mid:Int):=by have:=HNU.out;omega
              have i5:(mid:Int)<(e:Int):=by have:=HNU.out;omega
              have i6:¬ (e:Int)<(b:Int):=by have:=HNU.out;omega
              have HRD:=aA (HNRT.out (by have:=HNU.out;omega));have HMD:=aA (HNLF.out _ (by omega) HRD.out)
              go_wp2_with fail
              all_goals go_end0
              all_goals exact HNRG.out _ (by have:=HNU.out;omega) HMD.out
        · by_cases z2:0<v
          · by_cases z3:v<Z.length
            · have i1:¬ (s:Int)<(m:Int):=by have:=HNU.out;omega
              have i2:(m:Int)<(e:Int):=by have:=HNU.out;omega
              have i3:(a:Int)<(s:Int):=by have:=HNU.out;omega
              have i4:(s:Int)<(mid:Int):=by have:=HNU.out;omega
              have i5:¬ (mid:Int)<(e:Int):=by have:=HNU.out;omega
              have i6:(e:Int)<(b:Int):=by have:=HNU.out;omega
              have HRD:=aA (HNRT.out (by have:=HNU.out;omega))
              go_wp2_with (first|(go_at_call 257;have _t:=HRD;refine (HLF.out _ (by omega) (by omega) HRD.out).mono ?_;rintro e8 w8 ⟨rfl,h8⟩;have HMD:=aA h8;clear h8))
              all_goals go_end0
              all_goals exact HNRG.out _ (by have:=HNU.out;omega) HMD.out
            · have i1:¬ (s:Int)<(m:Int):=by have:=HNU.out;omega
              have i2:(m:Int)<(e:Int):=by have:=HNU.out;omega
              have i3:(a:Int)<(s:Int):=by have:=HNU.out;omega
              have i4:(s:Int)<(mid:Int):=by have:=HNU.out;omega
              have i5:¬ (mid:Int)<(e:Int):=by have:=HNU.out;omega
              have i6:¬ (e:Int)<(b:Int):=by have:=HNU.out;omega
              have HRD:=aA (HNRT.out (by have:=HNU.out;omega))
              go_wp2_with (first|(go_at_call 257;have _t:=HRD;refine (HLF.out _ (by omega) (by omega) HRD.out).mono ?_;rintro e8 w8 ⟨rfl,h8⟩;have HMD:=aA h8;clear h8))
              all_goals go_end0
              all_goals exact HNRG.out _ (by have:=HNU.out;omega) HMD.out
          · by_cases z3:v<Z.length
            · have i1:¬ (s:Int)<(m:Int):=by have:=HNU.out;omega
              have i2:¬ (m:Int)<(e:Int):=by have:=HNU.out;omega
              have i3:(a:Int)<(s:Int):=by have:=HNU.out;omega
              have i4:¬ (s:Int)<(mid:Int):=by have:=HNU.out;omega
              have i5:¬ (mid:Int)<(e:Int):=by have:=HNU.out;omega
              have i6:(e:Int)<(b:Int):=by have:=HNU.out;omega
              have HRD:=aA (HNRT.out (by have:=HNU.out;omega));have HMD:=aA (HNLF.out _ (by omega) HRD.out)
              go_wp2_with fail
              all_goals go_end0
              all_goals exact HNRG.out _ (by have:=HNU.out;omega) HMD.out
            · have i1:¬ (s:Int)<(m:Int):=by have:=HNU.out;omega
              have i2:¬ (m:Int)<(e:Int):=by have:=HNU.out;omega
              have i3:(a:Int)<(s:Int):=by have:=HNU.out;omega
              have i4:¬ (s:Int)<(mid:Int):=by have:=HNU.out;omega
              have i5:¬ (mid:Int)<(e:Int):=by have:=HNU.out;omega
              have i6:¬ (e:Int)<(b:Int):=by have:=HNU.out;omega
              have HRD:=aA (HNRT.out (by have:=HNU.out;omega));have HMD:=aA (HNLF.out _ (by omega) HRD.out)
              go_wp2_with fail
              all_goals go_end0
              all_goals exact HNRG.out _ (by have:=HNU.out;omega) HMD.out
      · by_cases z1:u<A.length
        · by_cases z2:0<v
          · by_cases z3:v<Z.length
            · have i1:(s:Int)<(m:Int):=by have:=HNU.out;omega
              have i2:(m:Int)<(e:Int):=by have:=HNU.out;omega
              have i3:¬ (a:Int)<(s:Int):=by have:=HNU.out;omega
              have i4:(s:Int)<(mid:Int):=by have:=HNU.out;omega
              have i5:(mid:Int)<(e:Int):=by have:=HNU.out;omega
              have i6:(e:Int)<(b:Int):=by have:=HNU.out;omega
              go_wp2_with (first|(go_at_call 257;have _t:=HMD;refine (HRG.out _ (by have:=HNU.out;omega) (by have:=HNU.out;omega) HMD.out).mono ?_;rintro e9 w9 ⟨rfl,h9⟩;have HGF:=aA h9;clear h9)|(go_at_call 263;refine (HRT.out (by have:=HNU.out;omega) (by omega)).mono ?_;rintro e7 w7 ⟨rfl,h7⟩;have HRD:=aA h7;clear h7;have HMD:=aA (HNLF.out _ (by omega) HRD.out)))
              all_goals go_end0
              all_goals exact HGF.out
            · have i1:(s:Int)<(m:Int):=by have:=HNU.out;omega
              have i2:(m:Int)<(e:Int):=by have:=HNU.out;omega
              have i3:¬ (a:Int)<(s:Int):=by have:=HNU.out;omega
              have i4:(s:Int)<(mid:Int):=by have:=HNU.out;omega
              have i5:(mid:Int)<(e:Int):=by have:=HNU.out;omega
              have i6:¬ (e:Int)<(b:Int):=by have:=HNU.out;omega
              go_wp2_with (first|(go_at_call 263;refine (HRT.out (by have:=HNU.out;omega) (by omega)).mono ?_;rintro e7 w7 ⟨rfl,h7⟩;have HRD:=aA h7;clear h7;have HMD:=aA (HNLF.out _ (by omega) HRD.out)))
              all_goals go_end0
              all_goals exact HNRG.out _ (by have:=HNU.out;omega) HMD.out
          · by_cases z3:v<Z.length
            · have i1:(s:Int)<(m:Int):=by have:=HNU.out;omega
              have i2:¬ (m:Int)<(e:Int):=by have:=HNU.out;omega
              have i3:¬ (a:Int)<(s:Int):=by have:=HNU.out;omega
              have i4:¬ (s:Int)<(mid:Int):=by have:=HNU.out;omega
              have i5:(mid:Int)<(e:Int):=by have:=HNU.out;omega
              have i6:(e:Int)<(b:Int):=by have:=HNU.out;omega
              have HRD:=aA (HNRT.out (by have:=HNU.out;omega));have HMD:=aA (HNLF.out _ (by omega) HRD.out)
              go_wp2_with (first|(go_at_call 257;have _t:=HMD;refine (HRG.out _ (by have:=HNU.out;omega) (by have:=HNU.out;omega) HMD.out).mono ?_;rintro e9 w9 ⟨rfl,h9⟩;have HGF:=aA h9;clear h9))
              all_goals go_end0
              all_goals exact HGF.out
            · have i1:(s:Int)<(m:Int):=by have:=HNU.out;omega
              have i2:¬ (m:Int)<(e:Int):=by have:=HNU.out;omega
              have i3:¬ (a:Int)<(s:Int):=by have:=HNU.out;omega
              have i4:¬ (s:Int)<(mid:Int):=by have:=HNU.out;omega
              have i5:(mid:Int)<(e:Int):=by have:=HNU.out;omega
              have i6:¬ (e:Int)<(b:Int):=by have:=HNU.out;omega
              have HRD:=aA (HNRT.out (by have:=HNU.out;omega));have HMD:=aA (HNLF.out _ (by omega) HRD.out)
              go_wp2_with fail
              all_goals go_end0
              all_goals exact HNRG.out _ (by have:=HNU.out;omega) HMD.out
        · by_cases z2:0<v
          · by_cases z3:v<Z.length
            · have i1:¬ (s:Int)<(m:Int):=by have:=HNU.out;omega
              have i2:(m:Int)<(e:Int):=by have:=HNU.out;omega
              have i3:¬ (a:Int)<(s:Int):=by have:=HNU.out;omega
              have i4:(s:Int)<(mid:Int):=by have:=HNU.out;omega
              have i5:¬ (mid:Int)<(e:Int):=by have:=HNU.out;omega
              have i6:(e:Int)<(b:Int):=by have:=HNU.out;omega
              have HRD:=aA (HNRT.out (by have:=HNU.out;omega));have HMD:=aA (HNLF.out _ (by omega) HRD.out)
              go_wp2_with fail
              all_goals go_end0
              all_goals exact HNRG.out _ (by have:=HNU.out;omega) HMD.out
            · have i1:¬ (s:Int)<(m:Int):=by have:=HNU.out;omega
              have i2:(m:Int)<(e:Int):=by have:=HNU.out;omega
              have i3:¬ (a:Int)<(s:Int):=by have:=HNU.out;omega
              have i4:(s:Int)<(mid:Int):=by have:=HNU.out;omega
              have i5:¬ (mid:Int)<(e:Int):=by have:=HNU.out;omega
              have i6:¬ (e:Int)<(b:Int):=by have:=HNU.out;omega
              have HRD:=aA (HNRT.out (by have:=HNU.out;omega));have HMD:=aA (HNLF.out _ (by omega) HRD.out)
              go_wp2_with fail
              all_goals go_end0
              all_goals exact HNRG.out _ (by have:=HNU.out;omega) HMD.out
          · by_cases z3:v<Z.length
            · have i1:¬ (s:Int)<(m:Int):=by have:=HNU.out;omega
              have i2:¬ (m:Int)<(e:Int):=by have:=HNU.out;omega
              have i3:¬ (a:Int)<(s:Int):=by have:=HNU.out;omega
              have i4:¬ (s:Int)<(mid:Int):=by have:=HNU.out;omega
              have i5:¬ (mid:Int)<(e:Int):=by have:=HNU.out;omega
              have i6:(e:Int)<(b:Int):=by have:=HNU.out;omega
              have HRD:=aA (HNRT.out (by have:=HNU.out;omega));have HMD:=aA (HNLF.out _ (by omega) HRD.out)
              go_wp2_with fail
              all_goals go_end0
              all_goals exact HNRG.out _ (by have:=HNU.out;omega) HMD.out
            · have i1:¬ (s:Int)<(m:Int):=by have:=HNU.out;omega
              have i2:¬ (m:Int)<(e:Int):=by have:=HNU.out;omega
              have i3:¬ (a:Int)<(s:Int):=by have:=HNU.out;omega
              have i4:¬ (s:Int)<(mid:Int):=by have:=HNU.out;omega
              have i5:¬ (mid:Int)<(e:Int):=by have:=HNU.out;omega
              have i6:¬ (e:Int)<(b:Int):=by have:=HNU.out;omega
              have HRD:=aA (HNRT.out (by have:=HNU.out;omega));have HMD:=aA (HNLF.out _ (by omega) HRD.out)
              go_wp2_with fail
              all_goals go_end0
              all_goals exact HNRG.out _ (by have:=HNU.out;omega) HMD.out
 · have hmi:¬ (mid:Int)<(m:Int):=by omega
   have HN:Hid (jI a m b mid a m n):=by
    have:=HMI.out
    have:=HNE.out
    unfold Hid jI;omega
   go_wp2_with fail
   rw [HPE.out,HWP.out]
   go_loopw [20,21] (fun vs vr wr=>SymG w B g n cap a m nn a m P A Z R vs vr wr) (fun vs vr _=>(intOf vr).toNat - (intOf vs).toNat)
   case atStart=>exact SymG.mk a m rfl rfl (Nat.le_refl _) (by have:=HN.out;unfold jI at this;omega) (Nat.le_refl _) (Or.inl rfl) (Or.inl rfl) HS0.out
   case round=>
    obtain ⟨s,r,rfl,rfl,hls,hsr,hrh,hlo,hhi,hsw⟩:=hrel;have HLO:=aA hlo;have HHI:=aA hhi;have HSW:=aA hsw;clear hlo hhi hsw
    by_cases hlt:s<r
    · have hlti:(s:Int)<(r:Int):=by omega
      obtain ⟨c,hce⟩:∃ q,q=(s+r) / 2:=⟨_,rfl⟩;have hb1:s≤c:=by omega
      have hb2:c<r:=by omega
      have HCE:Hid (((s:Int)+(r:Int)) / 2=(c:Int)):=by unfold Hid;omega
      clear hce;obtain ⟨ei,hei⟩:∃ q,q=nn - 1 - c:=⟨_,rfl⟩
      have HEI:Hid (ei=nn - 1 - c∧m≤ei∧ei<b∧a≤c∧c<m∧ei+c=pp):=by
       have hN:=HN.out;have hP:=HPP0.out;unfold jI at hN;unfold Hid;omega
      clear hei;obtain ⟨x,hx⟩:∃ x,A[c - a]? =some x:=⟨_,List.getElem?_eq_getElem (by have:=HEI.out;have:=HLN.out;omega)⟩;obtain ⟨z,hz⟩:∃ z,Z[ei - m]? =some z:=⟨_,List.getElem?_eq_getElem (by have:=HEI.out;have:=HLN.out;omega)⟩
      have HXI:Hid ((P++A++Z++R)[c]? =some x):=by
       have e:=HIA.out _ _ hx;rw [show a+(c - a)=c by have:=HEI.out;omega] at e;exact e
      have HZI:Hid ((P++A++Z++R)[ei]? =some z):=by
       have e:=HIZ.out _ _ hz;rw [show m+(ei - m)=ei by have:=HEI.out;omega] at e;exact e
      have HXA:=aA hx;have HZZ:=aA hz;clear hx hz;obtain ⟨rr,hr,hcm⟩:=gY z x;have HCM:=aA hcm;obtain ⟨c0,c1,c2⟩:=HSW.out.1.cells HZI.out;obtain ⟨e0,e1,e2⟩:=HSW.out.1.cells HXI.out;have hgw:=HSW.out.1.lt.2;have HK:Hid (KeepP fun w1=>SW w B g n cap (P++A++Z++R) w1∧Sc.aF w1 g (ei*3) (.string z.nm)∧Sc.aF w1 g (ei*3+1) (.int .i64 z.kd)∧Sc.aF w1 g (ei*3+2) (.slice z.ad z.ln z.cp)∧Sc.aF w1 g (c*3) (.string x.nm)∧Sc.aF w1 g (c*3+1) (.int .i64 x.kd)∧Sc.aF w1 g (c*3+2) (.slice x.ad x.ln x.cp)):=KeepP.and (fL _ _ _ _ _ _) (KeepP.and (aP _ _ _) (KeepP.and (aP _ _ _) (KeepP.and (aP _ _ _) (KeepP.and (aP _ _ _) (KeepP.and (aP _ _ _) (aP _ _ _))))))
      have HO:Hid (SW w B g n cap (P++A++Z++R) wr∧Sc.aF wr g (ei*3) (.string z.nm)∧Sc.aF wr g (ei*3+1) (.int .i64 z.kd)∧Sc.aF wr g (ei*3+2) (.slice z.ad z.ln z.cp)∧Sc.aF wr g (c*3) (.string x.nm)∧Sc.aF wr g (c*3+1) (.int .i64 x.kd)∧Sc.aF wr g (c*3+2) (.slice x.ad x.ln x.cp)):=⟨HSW.out,⟨c0,hgw⟩,⟨c1,hgw⟩,⟨c2,hgw⟩,⟨e0,hgw⟩,⟨e1,hgw⟩,⟨e2,hgw⟩⟩;clear hcm c0 c1 c2 e0 e1 e2 hgw HSW;have hcn:c<n:=by have:=HEI.out;omega
      have q1:(c:Int)<(n:Int):=by omega
      have q2:(0:Int)≤(pp:Int) - (c:Int):=by have:=HEI.out;omega
      have q3:(pp:Int) - (c:Int)<(n:Int):=by have:=HEI.out;omega
      have q4:((pp:Int) - (c:Int)).toNat=ei:=by have:=HEI.out;omega
      have q5:¬ (pp:Int) - (c:Int)<0:=by omega
      have q6:(c:Int)≤(pp:Int):=by omega
      have q9:(pp:Int)<(n:Int)+(c:Int):=by omega
      have q10:c≤pp:=by omega
      have q11:pp - c=ei:=by have:=HEI.out;omega
      have q12:pp<n+c:=by omega
      have q14:ei<n:=by have:=HEI.out;omega
      have q15:(ei:Int)<(n:Int):=by omega
      have q16:(pp:Int) - (c:Int)=(ei:Int):=by have:=HEI.out;omega
      have HQ7:=aA (bT (a:=pp) (i:=c) (by omega) (by have:=HEI.out;omega));have HQ9:=aA (gZ (x:=(ei:Int)) (by omega) (by omega))
      by_cases hc:rr<0
      · have HLT:Hid (ltS z.nm x.nm=true):=hr.1 hc
        clear hr
        go_upto_region 35 with fail
        rw [HCE.out];obtain ⟨q7,q8⟩:=HQ7.out;obtain ⟨q17,q18⟩:=HQ9.out;refine bA HK (by kernel_rfl) (by kernel_rfl) (by first|exact HO.out|exact HK.out.drew HO.out) ?_;intro C HIN HOUT;clear HO
        repeat
         (with_reducible refine wpQuiet_step (fun K hK=> ?_)
          go_simp
          first
           |(refine hK _ ?_;clear hK K)
           |(apply Exists.intro;refine ⟨fun w1 hC=> ?_,hK _ ?_⟩;(focus ((first|(go_at_call 242;with_reducible exact aU HIN HOUT HK HCM.out w1 hC)|(exact rfl)|(obtain ⟨hsw,⟨c0,hgw⟩,⟨c1,_⟩,⟨c2,_⟩,⟨e0,_⟩,⟨e1,_⟩,⟨e2,_⟩⟩:=HOUT.out w1 hC;clear hC;go_simp;first|done|exact rfl));done));clear hK K))
        refine wpQuiet_nil ?_;intro w10 hC;have HO:=aA (HOUT.out _ hC);clear hC HIN HOUT C;obtain ⟨hsw,⟨c0,hgw⟩,⟨c1,_⟩,⟨c2,_⟩,⟨e0,_⟩,⟨e1,_⟩,⟨e2,_⟩⟩:=HO.out;have HSW2:=aA hsw;clear hsw HO HK c0 c1 c2 e0 e1 e2 hgw q7 q8 q17 q18 q4 q11 q16
        go_wp2_with fail
        exact ⟨SymG.mk s c rfl rfl hls hb1 (by omega) HLO.out (Or.inr ⟨x,z,HXA.out,by rw [show nn - 1 - c - m=ei - m by have:=HEI.out;omega];exact HZZ.out,HLT.out⟩) HSW2.out,by simp [intOf];omega⟩
      · have HLT:Hid (ltS z.nm x.nm=false):=Bool.eq_false_iff.2 fun e=>hc (hr.2 e)
        clear hr
        go_upto_region 35 with fail
        rw [HCE.out];obtain ⟨q7,q8⟩:=HQ7.out;obtain ⟨q17,q18⟩:=HQ9.out;refine bA HK (by kernel_rfl) (by kernel_rfl) (by first|exact HO.out|exact HK.out.drew HO.out) ?_;intro C HIN HOUT;clear HO
        repeat
         (with_reducible refine wpQuiet_step (fun K hK=> ?_)
          go_simp
          first
           |(refine hK _ ?_;clear hK K)
           |(apply Exists.intro;refine ⟨fun w1 hC=> ?_,hK _ ?_⟩;(focus ((first|(go_at_call 242;with_reducible exact aU HIN HOUT HK HCM.out w1 hC)|(exact rfl)|(obtain ⟨hsw,⟨c0,hgw⟩,⟨c1,_⟩,⟨c2,_⟩,⟨e0,_⟩,⟨e1,_⟩,⟨e2,_⟩⟩:=HOUT.out w1 hC;clear hC;go_simp;first|done|exact rfl));done));clear hK K))
        refine wpQuiet_nil ?_;intro w10 hC;have HO:=aA (HOUT.out _ hC);clear hC HIN HOUT C;obtain ⟨hsw,⟨c0,hgw⟩,⟨c1,_⟩,⟨c2,_⟩,⟨e0,_⟩,⟨e1,_⟩,⟨e2,_⟩⟩:=HO.out;have HSW2:=aA hsw;clear hsw HO HK c0 c1 c2 e0 e1 e2 hgw q7 q8 q17 q18 q4 q11 q16
        go_wp2_with fail
        exact ⟨SymG.mk (c+1) r (by go_num) rfl (by omega) (by omega) hrh (Or.inr ⟨x,z,by rw [show c+1 - a - 1=c - a by omega];exact HXA.out,by rw [show nn - (c+1) - m=ei - m by have:=HEI.out;omega];exact HZZ.out,HLT.out⟩) HHI.out HSW2.out,by simp [intOf];omega⟩
    · obtain rfl:s=r:=by omega
      have hlti:¬ (s:Int)<(s:Int):=by omega
      have HCT:=aA (zW HN.out HLN.out.2.1 HLN.out.2.2 hls hrh (by have:=HLO.out;rw [HNE.out] at this;exact this) (by have:=HHI.out;rw [HNE.out] at this;exact this));obtain ⟨u,hu⟩:∃ q,q=s - a:=⟨_,rfl⟩;obtain ⟨v,hv⟩:∃ q,q=mid - s:=⟨_,rfl⟩;obtain ⟨e,he⟩:∃ q,q=nn - s:=⟨_,rfl⟩;rw [←hu,←hv] at HCT
      have HNU:Hid (s=a+u∧mid=a+u+v∧e=m+v∧u≤A.length∧v≤Z.length∧e=mid+(A.length - u)∧b=m+Z.length∧m=a+A.length∧s≤nn∧nn≤2000000000):=by
       have hN:=HN.out;have hL:=HLN.out;have hE:=HNE.out;unfold jI at hN;unfold Hid;omega
      have HEE:Hid ((nn:Int) - (s:Int)=(e:Int)):=by have:=HNU.out;unfold Hid;omega
      clear hu hv he
      have HRT:Hid (u<A.length→0<v→Calls Tryz.prog 263 #[.slice (some ⟨g,0,none⟩) n cap,.int .i64 s,.int .i64 m,.int .i64 e,.func (.func 242) #[] #[]] wr fun e9 w9=>e9= .returned (.tuple #[])∧jJ w B g n cap P A Z R u v w9):=fun h1 h2=>by
       have q:=zX (u:=u) (v:=v) hn HLN.out.1 HLN.out.2.1 HNU.out.2.2.2.2.1 h1 h2 HSW.out;rw [←HNU.out.1,←HNU.out.2.2.1] at q;exact q
      have HNRT:Hid ((u=A.length∨v=0)→jJ w B g n cap P A Z R u v wr):=fun h0=>vD h0 HSW.out
      have HLF:Hid (∀ W,0<u→0<v→jJ w B g n cap P A Z R u v W→Calls Tryz.prog 257 #[.slice (some ⟨g,0,none⟩) n cap,.int .i64 a,.int .i64 s,.int .i64 mid,.func (.func 242) #[] #[]] W fun e9 w9=>e9= .returned (.tuple #[])∧mD w B g n cap P A Z R u v w9):=fun W h1 h2 h3=>by
       have q:=vE HIH.out HLN.out.1 (by have:=HNU.out;have hN:=HN.out;unfold jI at hN;omega) HAP.out.1 HAP.out.2.1 HAP.out.2.2 HNU.out.2.2.2.1 HNU.out.2.2.2.2.1 h1 h2 h3;rw [←HNU.out.2.1,←HNU.out.1] at q;exact q
      have HNLF:Hid (∀ W,(u=0∨v=0)→jJ w B g n cap P A Z R u v W→mD w B g n cap P A Z R u v W):=fun W h0 h=>mA HAP.out.1 HAP.out.2.1 h0 h
      have HRG:Hid (∀ W,u<A.length→v<Z.length→mD w B g n cap P A Z R u v W→Calls Tryz.prog 257 #[.slice (some ⟨g,0,none⟩) n cap,.int .i64 mid,.int .i64 e,.int .i64 b,.func (.func 242) #[] #[]] W fun e9 w9=>e9= .returned (.tuple #[])∧G (.returned (.tuple #[])) w9):=fun W h1 h2 h3=>by
       have q:=qO HIH.out HLN.out.1 HNU.out.2.1.symm (by have:=HNU.out;omega:a+A.length+Z.length=b) (by have:=HNU.out;have hN:=HN.out;unfold jI at hN;omega) HAP.out.1 HAP.out.2.1 HAP.out.2.2 HCT.out h1 h2 h3;rw [←HNU.out.2.2.2.2.2.1] at q;exact q.mono fun e9 w9 hq=>HGE.out e9 w9 hq
      have HNRG:Hid (∀ W,(u=A.length∨v=Z.length)→mD w B g n cap P A Z R u v W→G (.returned (.tuple #[])) W):=fun W h0 h=>by
       have q:=kM HAP.out.1 HAP.out.2.1 HAP.out.2.2 HCT.out h0 h;exact (HGE.out _ _ q).2
      have HW7:=aA (bT (a:=nn) (i:=s) HNU.out.2.2.2.2.2.2.2.2.1 HNU.out.2.2.2.2.2.2.2.2.2);clear HLO HHI HSW;obtain ⟨k1,k2⟩:=HW7.out
      go_upto_region 39 with fail
      rw [HEE.out];clear k1 k2
      by_cases z0:0<u
      · by_cases z1:u<A.length
        · by_cases z2:0<v
          · by_cases z3:v<Z.length
            · have i1:(s:Int)<(m:Int):=by have:=HNU.out;omega
              have i2:(m:Int)<(e:Int):=by have:=HNU.out;omega
              have i3:(a:Int)<(s:Int):=by have:=HNU.out;omega
              have i4:(s:Int)<(mid:Int):=by have:=HNU.out;omega
              have i5:(mid:Int)<(e:Int):=by have:=HNU.out;omega
              have i6:(e:Int)<(b:Int):=by have:=HNU.out;omega
              go_wp2_with (first|(go_at_call 257;have _t:=HMD;refine (HRG.out _ (by have:=HNU.out;omega) (by have:=HNU.out;omega) HMD.out).mono ?_;rintro e9 w9 ⟨rfl,h9⟩;have HGF:=aA h9;clear h9)|(go_at_call 257;have _t:=HRD;refine (HLF.out _ (by omega) (by omega) HRD.out).mono ?_;rintro e8 w8 ⟨rfl,h8⟩;have HMD:=aA h8;clear h8)|(go_at_call 263;refine (HRT.out (by have:=HNU.out;omega) (by omega)).mono ?_;rintro e7 w7 ⟨rfl,h7⟩;have HRD:=aA h7;clear h7))
              all_goals go_end0
              all_goals exact HGF.out
            · have i1:(s:Int)<(m:Int):=by have:=HNU.out;omega
              have i2:(m:Int)<(e:Int):=by have:=HNU.out;omega
              have i3:(a:Int)<(s:Int):=by have:=HNU.out;omega
              have i4:(s:Int)<(mid:Int):=by have:=HNU.out;omega
              have i5:(mid:Int)<(e:Int):=by have:=HNU.out;omega
              have i6:¬ (e:Int)<(b:Int):=by have:=HNU.out;omega
              go_wp2_with (first|(go_at_call 257;have _t:=HRD;refine (HLF.out _ (by omega) (by omega) HRD.out).mono ?_;rintro e8 w8 ⟨rfl,h8⟩;have HMD:=aA h8;clear h8)|(go_at_call 263;refine (HRT.out (by have:=HNU.out;omega) (by omega)).mono ?_;rintro e7 w7 ⟨rfl,h7⟩;have HRD:=aA h7;clear h7))
              all_goals go_end0
              all_goals exact HNRG.out _ (by have:=HNU.out;omega) HMD.out
          · by_cases z3:v<Z.length
            · have i1:(s:Int)<(m:Int):=by have:=HNU.out;omega
              have i2:¬ (m:Int)<(e:Int):=by have:=HNU.out;omega
              have i3:(a:Int)<(s:Int):=by have:=HNU.out;omega
              have i4:¬ (s:Int)<(mid:Int):=by have:=HNU.out;omega
              have i5:(mid:Int)<(e:Int):=by have:=HNU.out;omega
              have i6:(e:Int)<(b:Int):=by have:=HNU.out;omega
              have HRD:=aA (HNRT.out (by have:=HNU.out;omega));have HMD:=aA (HNLF.out _ (by omega) HRD.out)
              go_wp2_with (first|(go_at_call 257;have _t:=HMD;refine (HRG.out _ (by have:=HNU.out;omega) (by have:=HNU.out;omega) HMD.out).mono ?_;rintro e9 w9 ⟨rfl,h9⟩;have HGF:=aA h9;clear h9))
              all_goals go_end0
              all_goals exact HGF.out
            · have i1:(s:Int)<(m:Int):=by have:=HNU.out;omega
              have i2:¬ (m:Int)<(e:Int):=by have:=HNU.out;omega
              have i3:(a:Int)<(s:Int):=by have:=HNU.out;omega
              have i4:¬ (s:Int)<(mid:Int):=by have:=HNU.out;omega
              have i5:(mid:Int)<(e:Int):=by have:=HNU.out;omega
              have i6:¬ (e:Int)<(b:Int):=by have:=HNU.out;omega
              have HRD:=aA (HNRT.out (by have:=HNU.out;omega));have HMD:=aA (HNLF.out _ (by omega) HRD.out)
              go_wp2_with fail
              all_goals go_end0
              all_goals exact HNRG.out _ (by have:=HNU.out;omega) HMD.out
        · by_cases z2:0<v
          · by_cases z3:v<Z.length
            · have i1:¬ (s:Int)<(m:Int):=by have:=HNU.out;omega
              have i2:(m:Int)<(e:Int):=by have:=HNU.out;omega
              have i3:(a:Int)<(s:Int):=by have:=HNU.out;omega
              have i4:(s:Int)<(mid:Int):=by have:=HNU.out;omega
              have i5:¬ (mid:Int)<(e:Int):=by have:=HNU.out;omega
              have i6:(e:Int)<(b:Int):=by have:=HNU.out;omega
              have HRD:=aA (HNRT.out (by have:=HNU.out;omega))
              go_wp2_with (first|(go_at_call 257;have _t:=HRD;refine (HLF.out _ (by omega) (by omega) HRD.out).mono ?_;rintro e8 w8 ⟨rfl,h8⟩;have HMD:=aA h8;clear h8))
              all_goals go_end0
              all_goals exact HNRG.out _ (by have:=HNU.out;omega) HMD.out
            · have i1:¬ (s:Int)<(m:Int):=by have:=HNU.out;omega
              have i2:(m:Int)<(e:Int):=by have:=HNU.out;omega
              have i3:(a:Int)<(s:Int):=by have:=HNU.out;omega
              have i4:(s:Int)<(mid:Int):=by have:=HNU.out;omega
              have i5:¬ (mid:Int)<(e:Int):=by have:=HNU.out;omega
              have i6:¬ (e:Int)<(b:Int):=by have:=HNU.out;omega
              have HRD:=aA (HNRT.out (by have:=HNU.out;omega))
              go_wp2_with (first|(go_at_call 257;have _t:=HRD;refine (HLF.out _ (by omega) (by omega) HRD.out).mono ?_;rintro e8 w8 ⟨rfl,h8⟩;have HMD:=aA h8;clear h8))
              all_goals go_end0
              all_goals exact HNRG.out _ (by have:=HNU.out;omega) HMD.out
          · by_cases z3:v<Z.length
            · have i1:¬ (s:Int)<(m:Int):=by have:=HNU.out;omega
              have i2:¬ (m:Int)<(e:Int):=by have:=HNU.out;omega
              have i3:(a:Int)<(s:Int):=by have:=HNU.out;omega
              have i4:¬ (s:Int)<(mid:Int):=by have:=HNU.out;omega
              have i5:¬ (mid:Int)<(e:Int):=by have:=HNU.out;omega
              have i6:(e:Int)<(b:Int):=by have:=HNU.out;omega
              have HRD:=aA (HNRT.out (by have:=HNU.out;omega));have HMD:=aA (HNLF.out _ (by omega) HRD.out)
              go_wp2_with fail
              all_goals go_end0
              all_goals exact HNRG.out _ (by have:=HNU.out;omega) HMD.out
            · have i1:¬ (s:Int)<(m:Int):=by have:=HNU.out;omega
              have i2:¬ (m:Int)<(e:Int):=by have:=HNU.out;omega
              have i3:(a:Int)<(s:Int):=by have:=HNU.out;omega
              have i4:¬ (s:Int)<(mid:Int):=by have:=HNU.out;omega
              have i5:¬ (mid:Int)<(e:Int):=by have:=HNU.out;omega
              have i6:¬ (e:Int)<(b:Int):=by have:=HNU.out;omega
              have HRD:=aA (HNRT.out (by have:=HNU.out;omega));have HMD:=aA (HNLF.out _ (by omega) HRD.out)
              go_wp2_with fail
              all_goals go_end0
              all_goals exact HNRG.out _ (by have:=HNU.out;omega) HMD.out
      · by_cases z1:u<A.length
        · by_cases z2:0<v
          · by_cases z3:v<Z.length
            · have i1:(s:Int)<(m:Int):=by have:=HNU.out;omega
              have i2:(m:Int)<(e:Int):=by have:=HNU.out;omega
              have i3:¬ (a:Int)<(s:Int):=by have:=HNU.out;omega
              have i4:(s:Int)<(mid:Int):=by have:=HNU.out;omega
              have i5:(mid:Int)<(e:Int):=by have:=HNU.out;omega
              have i6:(e:Int)<(b:Int):=by have:=HNU.out;omega
              go_wp2_with (first|(go_at_call 257;have _t:=HMD;refine (HRG.out _ (by have:=HNU.out;omega) (by have:=HNU.out;omega) HMD.out).mono ?_;rintro e9 w9 ⟨rfl,h9⟩;have HGF:=aA h9;clear h9)|(go_at_call 263;refine (HRT.out (by have:=HNU.out;omega) (by omega)).mono ?_;rintro e7 w7 ⟨rfl,h7⟩;have HRD:=aA h7;clear h7;have HMD:=aA (HNLF.out _ (by omega) HRD.out)))
              all_goals go_end0
              all_goals exact HGF.out
            · have i1:(s:Int)<(m:Int):=by have:=HNU.out;omega
              have i2:(m:Int)<(e:Int):=by have:=HNU.out;omega
              have i3:¬ (a:Int)<(s:Int):=by have:=HNU.out;omega
              have i4:(s:Int)<(mid:Int):=by have:=HNU.out;omega
              have i5:(mid:Int)<(e:Int):=by have:=HNU.out;omega
              have i6:¬ (e:Int)<(b:Int):=by have:=HNU.out;omega
              go_wp2_with (first|(go_at_call 263;refine (HRT.out (by have:=HNU.out;omega) (by omega)).mono ?_;rintro e7 w7 ⟨rfl,h7⟩;have HRD:=aA h7;clear h7;have HMD:=aA (HNLF.out _ (by omega) HRD.out)))
              all_goals go_end0
              all_goals exact HNRG.out _ (by have:=HNU.out;omega) HMD.out
          · by_cases z3:v<Z.length
            · have i1:(s:Int)<(m:Int):=by have:=HNU.out;omega
              have i2:¬ (m:Int)<(e:Int):=by have:=HNU.out;omega
              have i3:¬ (a:Int)<(s:Int):=by have:=HNU.out;omega
              have i4:¬ (s:Int)<(mid:Int):=by have:=HNU.out;omega
              have i5:(mid:Int)<(e:Int):=by have:=HNU.out;omega
              have i6:(e:Int)<(b:Int):=by have:=HNU.out;omega
              have HRD:=aA (HNRT.out (by have:=HNU.out;omega));have HMD:=aA (HNLF.out _ (by omega) HRD.out)
              go_wp2_with (first|(go_at_call 257;have _t:=HMD;refine (HRG.out _ (by have:=HNU.out;omega) (by have:=HNU.out;omega) HMD.out).mono ?_;rintro e9 w9 ⟨rfl,h9⟩;have HGF:=aA h9;clear h9))
              all_goals go_end0
              all_goals exact HGF.out
            · have i1:(s:Int)<(m:Int):=by have:=HNU.out;omega
              have i2:¬ (m:Int)<(e:Int):=by have:=HNU.out;omega
              have i3:¬ (a:Int)<(s:Int):=by have:=HNU.out;omega
              have i4:¬ (s:Int)<(mid:Int):=by have:=HNU.out;omega
              have i5:(mid:Int)<(e:Int):=by have:=HNU.out;omega
              have i6:¬ (e:Int)<(b:Int):=by have:=HNU.out;omega
              have HRD:=aA (HNRT.out (by have:=HNU.out;omega));have HMD:=aA (HNLF.out _ (by omega) HRD.out)
              go_wp2_with fail
              all_goals go_end0
              all_goals exact HNRG.out _ (by have:=HNU.out;omega) HMD.out
        · by_cases z2:0<v
          · by_cases z3:v<Z.length
            · have i1:¬ (s:Int)<(m:Int):=by have:=HNU.out;omega
              have i2:(m:Int)<(e:Int):=by have:=HNU.out;omega
              have i3:¬ (a:Int)<(s:Int):=by have:=HNU.out;omega
              have i4:(s:Int)<(mid:Int):=by have:=HNU.out;omega
              have i5:¬ (mid:Int)<(e:Int):=by have:=HNU.out;omega
              have i6:(e:Int)<(b:Int):=by have:=HNU.out;omega
              have HRD:=aA (HNRT.out (by have:=HNU.out;omega));have HMD:=aA (HNLF.out _ (by omega) HRD.out)
              go_wp2_with fail
              all_goals go_end0
              all_goals exact HNRG.out _ (by have:=HNU.out;omega) HMD.out
            · have i1:¬ (s:Int)<(m:Int):=by have:=HNU.out;omega
              have i2:(m:Int)<(e:Int):=by have:=HNU.out;omega
              have i3:¬ (a:Int)<(s:Int):=by have:=HNU.out;omega
              have i4:(s:Int)<(mid:Int):=by have:=HNU.out;omega
              have i5:¬ (mid:Int)<(e:Int):=by have:=HNU.out;omega
              have i6:¬ (e:Int)<(b:Int):=by have:=HNU.out;omega
              have HRD:=aA (HNRT.out (by have:=HNU.out;omega));have HMD:=aA (HNLF.out _ (by omega) HRD.out)
              go_wp2_with fail
              all_goals go_end0
              all_goals exact HNRG.out _ (by have:=HNU.out;omega) HMD.out
          · by_cases z3:v<Z.length
            · have i1:¬ (s:Int)<(m:Int):=by have:=HNU.out;omega
              have i2:¬ (m:Int)<(e:Int):=by have:=HNU.out;omega
              have i3:¬ (a:Int)<(s:Int):=by have:=HNU.out;omega
              have i4:¬ (s:Int)<(mid:Int):=by have:=HNU.out;omega
              have i5:¬ (mid:Int)<(e:Int):=by have:=HNU.out;omega
              have i6:(e:Int)<(b:Int):=by have:=HNU.out;omega
              have HRD:=aA (HNRT.out (by have:=HNU.out;omega));have HMD:=aA (HNLF.out _ (by omega) HRD.out)
              go_wp2_with fail
              all_goals go_end0
              all_goals exact HNRG.out _ (by have:=HNU.out;omega) HMD.out
            · have i1:¬ (s:Int)<(m:Int):=by have:=HNU.out;omega
              have i2:¬ (m:Int)<(e:Int):=by have:=HNU.out;omega
              have i3:¬ (a:Int)<(s:Int):=by have:=HNU.out;omega
              have i4:¬ (s:Int)<(mid:Int):=by have:=HNU.out;omega
              have i5:¬ (mid:Int)<(e:Int):=by have:=HNU.out;omega
              have i6:¬ (e:Int)<(b:Int):=by have:=HNU.out;omega
              have HRD:=aA (HNRT.out (by have:=HNU.out;omega));have HMD:=aA (HNLF.out _ (by omega) HRD.out)
              go_wp2_with fail
              all_goals go_end0
              all_goals exact HNRG.out _ (by have:=HNU.out;omega) HMD.out
theorem gJ {B g n cap:Nat} (hn:n≤1000000000):∀ k,vC B g n cap k
 |0=>fun _ _ _ _ _ _ _ _ hk=>by omega
 |k+1=>by
  intro W P A Z R a m b hk ha hm hb hA0 hZ0 hA hZ ht h;have ih:vC B g n cap k:=gJ hn k;have hAp:=List.length_pos_iff.2 hA0;have hZp:=List.length_pos_iff.2 hZ0
  by_cases h1:A.length=1
  · obtain ⟨x,rfl⟩:=List.length_eq_one_iff.1 h1
    exact KV hn ha hm hb hZ (fun y hy=>ht x (by simp) y hy) h
  · by_cases h2:Z.length=1
    · obtain ⟨y,rfl⟩:=List.length_eq_one_iff.1 h2
      exact GH hn ha hm h1 hb hA (fun z hz=>ht z hz y (by simp)) h
    · refine KW (fun W P A' Z' R a m b hk'=>ih W P A' Z' R a m b ?_) hn ha hm hb (by omega) (by omega) hA hZ ht h
      omega
end Go.Proofs.YtpfemjlhklnfoaaGreatDoor
