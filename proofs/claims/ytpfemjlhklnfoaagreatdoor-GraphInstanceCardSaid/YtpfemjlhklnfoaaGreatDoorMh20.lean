/- St2, St3, St4, St5: their declarations that are needed, laid in one text, remarks and blanks left out. -/
import Derived.Test.YtpfemjlhklnfoaaGreatDoorMh19
namespace Go.Proofs.YtpfemjlhklnfoaaGreatDoor
open Go.RowKit Go.Maps Go.WideMaps
set_option maxRecDepth 100000
theorem zR {α:Type} {l:List α} (h:l≠[]):∃ a b,l=a++[b]:=⟨l.dropLast,l.getLast h,(List.dropLast_concat_getLast h).symm⟩
set_option maxHeartbeats 12800000 in
theorem oB {w:World} {B g n cap a b:Nat} {P X R:List Wt} (hn:n≤1000000000) (ha:P.length=a) (hb:a+X.length=b) (h:RowW w B g n cap (P++X++R)) (ht:X.Pairwise fun x y=>x.tg<y.tg):
 Calls Tryz.prog 256 #[.slice (some ⟨g,0,none⟩) n cap,.int .i64 a,.int .i64 b,.func (.func 242) #[] #[]] w fun e w'=>e= .returned (.tuple #[])∧∃ Y:List Wt,Y.Perm X∧Y.Pairwise ltT∧SW w B g n cap (P++Y++R) w':=by
 have hbn:b≤n:=by
  have e:=h.1;rw [List.length_append,List.length_append] at e;omega
 have HS0:Hid (SW w B g n cap (P++X.take 1++X.drop 1++R) w):=by
  refine ⟨?_,⟨rfl,rfl,rfl,Nat.le_refl _,fun _ _ _=>rfl⟩⟩;rw [List.append_assoc P,List.take_append_drop];exact h
 have HTG:=aA ht;have HXL:=aA hb;have HPA:=aA ha;clear h ht
 go_enter Tryz.func256,Tryz.ntmps256
 go_wp2_with fail
 go_loopw [8] (fun vi wr=>∃ (k:Nat) (S:List Wt),vi= .int .i64 (a+k:Nat)∧1≤k∧(k≤X.length∨k=1)∧S.Perm (X.take k)∧S.Pairwise ltT∧SW w B g n cap (P++S++X.drop k++R) wr) (fun vi _=>b+1 - (intOf vi).toNat)
 case atStart=>exact ⟨1,X.take 1,by go_num,Nat.le_refl _,Or.inr rfl,List.Perm.refl _,(by rcases X with _|⟨x,X⟩<;>simp),HS0.out⟩
 case round=>
  obtain ⟨k,S,rfl,hk1,hkx,hpm,hpw,hsw⟩:=hrel;have HPW:=aA hpw;have HSW:=aA hsw;have HPE:=aA hpm;clear hpm hpw hsw;obtain ⟨i,hi⟩:∃ i,i=a+k:=⟨_,rfl⟩;rw [←hi];have HI:=aA hi;clear hi
  by_cases hlt:k<X.length
  · have hib:(i:Int)<(b:Int):=by have:=HXL.out;have:=HI.out;omega
    have HDR:Hid (X.drop k=X[k]::X.drop (k+1)):=List.drop_eq_getElem_cons hlt;have HTK:Hid (X.take (k+1)=X.take k++[X[k]]):=List.take_succ_eq_append_getElem hlt
    have HTX:Hid (∀ y ∈ S,y.tg<X[k].tg):=fun y hy=>by
     obtain ⟨j,hj,rfl⟩:=List.getElem_of_mem (HPE.out.mem_iff.1 hy);rw [List.length_take] at hj;rw [List.getElem_take];exact List.pairwise_iff_getElem.1 HTG.out j k (by omega) hlt (by omega)
    have hSl:S.length=k:=by rw [HPE.out.length_eq,List.length_take];omega
    have HSL:=aA hSl;clear hSl;obtain ⟨x,hx⟩:∃ x,x=X[k]:=⟨_,rfl⟩;rw [←hx] at HDR HTK HTX;clear hx
    have HPM:Hid (∀ S1 S2,S=S1++S2→(S1++x::S2).Perm (X.take (k+1))):=fun S1 S2 e=>by
     rw [HTK.out];refine List.perm_middle.trans ?_;rw [←e];exact ((HPE.out.cons x).trans (List.perm_append_singleton x (X.take k)).symm)
    rw [HDR.out] at HSW
    have HSTART:Hid (SW w B g n cap (P++S++x::([]++X.drop (k+1)++R)) wr):=by
     have e:=HSW.out;unfold Hid
     simpa using e
    clear HSW HPE HTK
    go_wp2_with fail
    go_loopw [9] (fun vj wq=>∃ (j:Nat) (S1 S2:List Wt),vj= .int .i64 j∧j=a+S1.length∧S=S1++S2∧(∀ y ∈ S2,ltT x y)∧SW w B g n cap (P++S1++x::(S2++X.drop (k+1)++R)) wq) (fun vj _=>(intOf vj).toNat)
    case atStart=>exact ⟨i,S,[],rfl,by have:=HSL.out;have:=HI.out;omega,by simp,fun y hy=>(by cases hy),HSTART.out⟩
    case round=>
     obtain ⟨j,S1,S2,rfl,hj,hs,hl2,hsw⟩:=hrel;have HSW:=aA hsw;have HS:=aA hs;have HL2:=aA hl2;clear hsw hs hl2
     rcases Classical.em (S1=[]) with rfl|hne
     · obtain rfl:j=a:=by simpa using hj
       clear hj;have hd0:decide ((j:Int)<(j:Int))=false:=decide_eq_false (by omega);have hd1:¬ (j:Int)<(j:Int):=by omega
       have HFIN:Hid (SW w B g n cap (P++([]++x::S2)++X.drop (k+1)++R) wr):=by
        have e:=HSW.out;unfold Hid
        simpa using e
       go_wp2_with fail
       go_quiet (fail)
       go_wp2_with fail
       exact ⟨⟨k+1,[]++x::S2,(by have:=HI.out;go_num),by omega,by omega,HPM.out _ _ HS.out,fH (HS.out ▸ HPW.out) HL2.out (Or.inl rfl),fL _ _ _ _ _ _ _ _ HFIN.out (Go.Proofs.YtpfemjlhklnfoaaGreatDoor.Below.drewN (Below.refl _ _) _)⟩,by have:=HI.out;simp [intOf];omega⟩
     · obtain ⟨S0,y,rfl⟩:=zR hne
       clear hne;rw [List.length_append,List.length_singleton] at hj;obtain ⟨q,hq⟩:∃ q,q=a+S0.length:=⟨_,rfl⟩;have hjq:j=q+1:=by omega
       have hSS:S0.length+1≤k:=by have e:=congrArg List.length HS.out;have:=HSL.out;simp at e;omega
       have hjn:j<n:=by have:=HXL.out;omega
       have HIX:Hid ((P++(S0++[y])++x::(S2++X.drop (k+1)++R))[j]? =some x∧(P++(S0++[y])++x::(S2++X.drop (k+1)++R))[q]? =some y):=by
        have hpl:=HPA.out
        constructor
        · rw [List.getElem?_append_right (by simp;omega)]
          have e:j - (P++(S0++[y])).length=0:=by simp;omega
          rw [e];rfl
        · rw [List.getElem?_append_left (by simp;omega),List.getElem?_append_right (by omega),List.getElem?_append_right (by omega)]
          have e:q - P.length - S0.length=0:=by omega
          rw [e];rfl
       obtain ⟨c0,c1,c2⟩:=HSW.out.1.cells HIX.out.1;obtain ⟨e0,e1,e2⟩:=HSW.out.1.cells HIX.out.2;have hgw:=HSW.out.1.lt.2;obtain ⟨r,hr,hcm⟩:=gY x y;have HCM:=aA hcm;have HTY:Hid (y.tg<x.tg):=HTX.out y (by rw [HS.out];simp);have hd1:(a:Int)<(j:Int):=by omega
       have hwr1:IntKind.i64.wrap ((j:Int) - 1)=(j:Int) - 1:=by simp [IntKind.wrap,IntKind.bits,IntKind.signed];omega
       have hwr2:wrap64 ((j:Int) - 1)=(j:Int) - 1:=by unfold wrap64;omega
       have hj0:(0:Int)≤(j:Int) - 1:=by omega
       have hj1:(j:Int) - 1<(n:Int):=by omega
       have hj2:((j:Int) - 1).toNat=q:=by omega
       have hj3:¬ (j:Int) - 1<0:=by omega
       have hq1:(1:Int)≤(j:Int):=by omega
       have hq3:(j:Int)≤(n:Int):=by omega
       have hq4:(j:Int)<(n:Int)+1:=by omega
       have hq5:(j:Int)<(n:Int):=by omega
       have HK:Hid (KeepP fun w1=>SW w B g n cap (P++(S0++[y])++x::(S2++X.drop (k+1)++R)) w1∧Sc.aF w1 g (j*3) (.string x.nm)∧Sc.aF w1 g (j*3+1) (.int .i64 x.kd)∧Sc.aF w1 g (j*3+2) (.slice x.ad x.ln x.cp)∧Sc.aF w1 g (q*3) (.string y.nm)∧Sc.aF w1 g (q*3+1) (.int .i64 y.kd)∧Sc.aF w1 g (q*3+2) (.slice y.ad y.ln y.cp)):=KeepP.and (fL _ _ _ _ _ _) (KeepP.and (aP _ _ _) (KeepP.and (aP _ _ _) (KeepP.and (aP _ _ _) (KeepP.and (aP _ _ _) (KeepP.and (aP _ _ _) (aP _ _ _))))));have HO:Hid (SW w B g n cap (P++(S0++[y])++x::(S2++X.drop (k+1)++R)) wr∧Sc.aF wr g (j*3) (.string x.nm)∧Sc.aF wr g (j*3+1) (.int .i64 x.kd)∧Sc.aF wr g (j*3+2) (.slice x.ad x.ln x.cp)∧Sc.aF wr g (q*3) (.string y.nm)∧Sc.aF wr g (q*3+1) (.int .i64 y.kd)∧Sc.aF wr g (q*3+2) (.slice y.ad y.ln y.cp)):=⟨HSW.out,⟨c0,hgw⟩,⟨c1,hgw⟩,⟨c2,hgw⟩,⟨e0,hgw⟩,⟨e1,hgw⟩,⟨e2,hgw⟩⟩;have HJ:Hid (j=q+1∧q=a+S0.length):=⟨hjq,hq⟩
       clear hcm c0 c1 c2 e0 e1 e2 hgw HSW hjq hq hj
       by_cases hc:r<0
       · have HLT:Hid (ltT x y):=Or.inl (hr.1 hc)
         clear hr
         go_wp2_with fail
         refine bA HK (by kernel_rfl) (by kernel_rfl) (by first|exact HO.out|exact HK.out.drew HO.out) ?_;intro C HIN HOUT;clear HO
         repeat
          (with_reducible refine wpQuiet_step (fun K hK=> ?_)
           go_simp
           first
            |(refine hK _ ?_;clear hK K)
            |(apply Exists.intro;refine ⟨fun w1 hC=> ?_,hK _ ?_⟩;(focus ((first|(go_at_call 242;with_reducible exact aU HIN HOUT HK HCM.out w1 hC)|(exact rfl)|(obtain ⟨hsw,⟨c0,hgw⟩,⟨c1,_⟩,⟨c2,_⟩,⟨e0,_⟩,⟨e1,_⟩,⟨e2,_⟩⟩:=HOUT.out w1 hC;clear hC;go_simp;first|done|exact rfl));done));clear hK K))
         refine wpQuiet_nil ?_;intro w10 hC;have HO:=aA (HOUT.out _ hC);clear hC HIN HOUT C;obtain ⟨hsw,⟨c0,hgw⟩,⟨c1,_⟩,⟨c2,_⟩,⟨e0,_⟩,⟨e1,_⟩,⟨e2,_⟩⟩:=HO.out;have HSW:=aA hsw;have hfr:=fun i=>World.ownsRow.frozenAt HSW.out.1.2 i
         clear hsw HO HK
         have HFIN:Hid (SW w B g n cap (P++S0++x::((y::S2)++X.drop (k+1)++R)) ((((((w10.setCell ⟨g,j*3,none⟩ (.string y.nm)).setCell ⟨g,j*3+1,none⟩ (.int .i64 y.kd)).setCell ⟨g,j*3+2,none⟩ (.slice y.ad y.ln y.cp)).setCell ⟨g,q*3,none⟩ (.string x.nm)).setCell ⟨g,q*3+1,none⟩ (.int .i64 x.kd)).setCell ⟨g,q*3+2,none⟩ (.slice x.ad x.ln x.cp)).drew):=by
          have e:=HSW.out.put (i:=j) (j:=q) (x:=x) (y:=y) hjn (by have:=HJ.out;omega)
          have e2:(((P++(S0++[y])++x::(S2++X.drop (k+1)++R)).set j y).set q x)=P++S0++x::((y::S2)++X.drop (k+1)++R):=by
           have hpl:=HPA.out;have e3:=qL (P++S0) (S2++X.drop (k+1)++R) x y;rw [show (P++S0).length=q by rw [List.length_append];have:=HJ.out;omega,←HJ.out.1] at e3
           simpa using e3
          rw [e2] at e;exact fL _ _ _ _ _ _ _ _ e (Below.refl _ _).drew
         go_wp2_with fail
         go_region
         clear c0 c1 c2 e0 e1 e2 hfr;generalize ((((((w10.setCell ⟨g,j*3,none⟩ (.string y.nm)).setCell ⟨g,j*3+1,none⟩ (.int .i64 y.kd)).setCell ⟨g,j*3+2,none⟩ (.slice y.ad y.ln y.cp)).setCell ⟨g,q*3,none⟩ (.string x.nm)).setCell ⟨g,q*3+1,none⟩ (.int .i64 x.kd)).setCell ⟨g,q*3+2,none⟩ (.slice x.ad x.ln x.cp)).drew=w11 at*
         go_wp2_with fail
         exact ⟨⟨q,S0,y::S2,by go_num,HJ.out.2,by rw [HS.out];simp,(fun z hz=>by rcases List.mem_cons.1 hz with rfl|hz;exact HLT.out;exact HL2.out z hz),HFIN.out⟩,by simp [intOf];omega⟩
       · have HLT:Hid (ltT y x):=mO (Bool.eq_false_iff.2 fun e=>hc (hr.2 e)) HTY.out
         clear hr
         go_wp2_with fail
         refine bA HK (by kernel_rfl) (by kernel_rfl) (by first|exact HO.out|exact HK.out.drew HO.out) ?_;intro C HIN HOUT;clear HO
         repeat
          (with_reducible refine wpQuiet_step (fun K hK=> ?_)
           go_simp
           first
            |(refine hK _ ?_;clear hK K)
            |(apply Exists.intro;refine ⟨fun w1 hC=> ?_,hK _ ?_⟩;(focus ((first|(go_at_call 242;with_reducible exact aU HIN HOUT HK HCM.out w1 hC)|(exact rfl)|(obtain ⟨hsw,⟨c0,hgw⟩,⟨c1,_⟩,⟨c2,_⟩,⟨e0,_⟩,⟨e1,_⟩,⟨e2,_⟩⟩:=HOUT.out w1 hC;clear hC;go_simp;first|done|exact rfl));done));clear hK K))
         refine wpQuiet_nil ?_;intro w10 hC;have HO:=aA (HOUT.out _ hC);clear hC HIN HOUT C;obtain ⟨hsw,⟨c0,hgw⟩,⟨c1,_⟩,⟨c2,_⟩,⟨e0,_⟩,⟨e1,_⟩,⟨e2,_⟩⟩:=HO.out
         have HFIN:Hid (SW w B g n cap (P++((S0++[y])++x::S2)++X.drop (k+1)++R) w10):=by
          unfold Hid
          simpa using hsw
         clear hsw HO HK c0 c1 c2 e0 e1 e2
         go_wp2_with fail
         exact ⟨⟨k+1,(S0++[y])++x::S2,(by have:=HI.out;go_num),by omega,by omega,HPM.out _ _ HS.out,fH (HS.out ▸ HPW.out) HL2.out (Or.inr ⟨S0,y,rfl,HLT.out⟩),HFIN.out⟩,by simp [intOf];omega⟩
  · have hib:¬ (i:Int)<(b:Int):=by have:=HXL.out;have:=HI.out;omega
    have HEND:Hid (S.Perm X∧SW w B g n cap (P++S++R) wr):=by
     have e1:=HPE.out;have e2:=HSW.out;rw [List.take_of_length_le (by omega)] at e1;rw [List.drop_eq_nil_of_le (by omega),List.append_nil] at e2;exact ⟨e1,e2⟩
    go_wp2_with fail
    go_end0
    exact ⟨rfl,S,HEND.out.1,HPW.out,by simpa using HEND.out.2⟩
theorem GE {α:Type} (A M Z:List α) (u v:α):((A++u::(M++v::Z)).set A.length v).set (A.length+1+M.length) u=A++v::(M++u::Z):=by
 rw [List.set_append_right _ _ (Nat.le_refl _),Nat.sub_self,List.set_cons_zero,List.set_append_right _ _ (by omega)];have e:A.length+1+M.length - A.length=M.length+1:=by omega
 rw [e,List.set_cons_succ,List.set_append_right _ _ (Nat.le_refl _),Nat.sub_self,List.set_cons_zero]
theorem oC {a i p n:Nat} (h:p=a+i) (hp:p<n) (hn:n≤1000000000):IntKind.i64.wrap ((a:Int)+(i:Int))=(a:Int)+(i:Int)∧wrap64 ((a:Int)+(i:Int))=(a:Int)+(i:Int)∧(0:Int)≤(a:Int)+(i:Int)∧(a:Int)+(i:Int)<(n:Int)∧((a:Int)+(i:Int)).toNat=p∧¬ (a:Int)+(i:Int)<0:=by
 refine ⟨?_,?_,?_,?_,?_,?_⟩
 · simp [IntKind.wrap,IntKind.bits,IntKind.signed];omega
 · unfold wrap64;omega
 all_goals omega
theorem ND {p s:Nat} (h:p<s):¬ p*3=s*3∧¬ s*3=p*3∧¬ p*3=s*3+1∧¬ s*3=p*3+1∧¬ p*3=s*3+2∧¬ s*3=p*3+2∧¬ p*3+1=s*3∧¬ s*3+1=p*3∧¬ p*3+1=s*3+1∧¬ s*3+1=p*3+1∧¬ p*3+1=s*3+2∧¬ s*3+1=p*3+2∧¬ p*3+2=s*3∧¬ s*3+2=p*3∧¬ p*3+2=s*3+1∧¬ s*3+2=p*3+1∧¬ p*3+2=s*3+2∧¬ s*3+2=p*3+2:=by omega
def kL (P U Q V R:List Wt) (i:Nat):List Wt:=P++V.take i++U.drop i++Q++U.take i++V.drop i++R
theorem CT (P U Q V R:List Wt):kL P U Q V R 0=P++U++Q++V++R:=by simp [kL]
theorem GF (P U Q V R:List Wt) {c:Nat} (hu:U.length=c) (hv:V.length=c):kL P U Q V R c=P++V++Q++U++R:=by
 unfold kL;rw [List.take_of_length_le (by omega),List.drop_eq_nil_of_le (by omega),List.take_of_length_le (by omega),List.drop_eq_nil_of_le (by omega)]
 simp
theorem KU {P U Q V R:List Wt} {i c:Nat} (hu:U.length=c) (hv:V.length=c) (hi:i<c):kL P U Q V R i=(P++V.take i)++U[i]::((U.drop (i+1)++Q++U.take i)++V[i]::(V.drop (i+1)++R))∧kL P U Q V R (i+1)=(P++V.take i)++V[i]::((U.drop (i+1)++Q++U.take i)++U[i]::(V.drop (i+1)++R)):=by
 unfold kL;rw [List.drop_eq_getElem_cons (show i<U.length by omega),List.drop_eq_getElem_cons (show i<V.length by omega),List.take_succ_eq_append_getElem (show i<U.length by omega),List.take_succ_eq_append_getElem (show i<V.length by omega)]
 constructor<;>simp only [List.append_assoc,List.cons_append,List.nil_append]
set_option maxHeartbeats 12800000 in
theorem pJ {w:World} {B g n cap a b c:Nat} {P U Q V R:List Wt} (hn:n≤1000000000) (ha:P.length=a) (hb:a+U.length+Q.length=b) (hu:U.length=c) (hv:V.length=c) (h:RowW w B g n cap (P++U++Q++V++R)):
 Calls Tryz.prog 266 #[.slice (some ⟨g,0,none⟩) n cap,.int .i64 a,.int .i64 b,.int .i64 c,.func (.func 242) #[] #[]] w fun e w'=>e= .returned (.tuple #[])∧SW w B g n cap (P++V++Q++U++R) w':=by
 have HLN:Hid (b+c≤n∧a+c≤b):=by
  have e:=h.1;simp only [List.length_append] at e;exact ⟨by omega,by omega⟩
 have hcn:c≤n:=by have:=HLN.out;omega
 have HS0:Hid (SW w B g n cap (kL P U Q V R 0) w):=⟨by rw [CT];exact h,⟨rfl,rfl,rfl,Nat.le_refl _,fun _ _ _=>rfl⟩⟩;have HEND:Hid (∀ wx,SW w B g n cap (kL P U Q V R c) wx→SW w B g n cap (P++V++Q++U++R) wx):=fun wx hx=>by rw [GF P U Q V R hu hv] at hx;exact hx
 generalize hG:SW w B g n cap (P++V++Q++U++R)=G at*
 have HST:Hid (∀ i (hi:i<c),∃ u v,(kL P U Q V R i)[a+i]? =some u∧(kL P U Q V R i)[b+i]? =some v∧((kL P U Q V R i).set (a+i) v).set (b+i) u=kL P U Q V R (i+1)):=fun i hi=>by
  obtain ⟨e1,e2⟩:=KU (P:=P) (Q:=Q) (R:=R) hu hv hi;refine ⟨U[i],V[i],?_,?_,?_⟩
  · rw [e1,List.getElem?_append_right (by simp;omega)]
    have e:a+i - (P++V.take i).length=0:=by simp;omega
    rw [e];rfl
  · rw [e1,List.getElem?_append_right (by simp;omega)]
    have e:b+i - (P++V.take i).length=(U.drop (i+1)++Q++U.take i).length+1:=by simp;omega
    rw [e,List.getElem?_cons_succ,List.getElem?_append_right (Nat.le_refl _),Nat.sub_self];rfl
  · rw [e1,e2]
    have e3:=GE (P++V.take i) (U.drop (i+1)++Q++U.take i) (V.drop (i+1)++R) U[i] V[i];rw [show (P++V.take i).length=a+i by simp;omega,show a+i+1+(U.drop (i+1)++Q++U.take i).length=b+i by simp;omega] at e3;exact e3
 clear h hG ha hb hu hv;generalize kL P U Q V R=mid at*
 go_enter Tryz.func266,Tryz.ntmps266
 go_wp2_with fail
 go_loopw [10] (fun vi wr=>∃ i:Nat,i≤c∧vi= .int .i64 i∧SW w B g n cap (mid i) wr) (fun vi _=>c - (intOf vi).toNat)
 case atStart=>exact ⟨0,Nat.zero_le _,rfl,HS0.out⟩
 case round=>
  obtain ⟨i,hi,rfl,hsw⟩:=hrel;have HSW:=aA hsw;clear hsw
  by_cases hlt:i<c
  · have hic:(i:Int)<(c:Int):=by omega
    obtain ⟨u,v,hu1,hv1,hst⟩:=HST.out i hlt;obtain ⟨p,hp⟩:∃ p,p=a+i:=⟨_,rfl⟩;obtain ⟨s,hs⟩:∃ s,s=b+i:=⟨_,rfl⟩;rw [←hp] at hu1 hst;rw [←hs] at hv1 hst;have HNp:Hid (p=a+i∧p<n):=⟨hp,by have:=HLN.out;omega⟩;have HNs:Hid (s=b+i∧s<n):=⟨hs,by have:=HLN.out;omega⟩;have HPS:Hid (p<s):=(by have:=HNp.out;have:=HNs.out;have:=HLN.out;show p<s;omega);obtain ⟨c0,c1,c2⟩:=HSW.out.1.cells hu1;obtain ⟨e0,e1,e2⟩:=HSW.out.1.cells hv1;have hfr:=fun i=>World.ownsRow.frozenAt HSW.out.1.2 i
    clear hp hs hu1 hv1;obtain ⟨hp1,hp2,hp3,hp4,hp5,hp6⟩:=oC HNp.out.1 HNp.out.2 hn;obtain ⟨hs1,hs2,hs3,hs4,hs5,hs6⟩:=oC HNs.out.1 HNs.out.2 hn
    have HFIN:Hid (SW w B g n cap (mid (i+1)) ((((((wr.setCell ⟨g,p*3,none⟩ (.string v.nm)).setCell ⟨g,p*3+1,none⟩ (.int .i64 v.kd)).setCell ⟨g,p*3+2,none⟩ (.slice v.ad v.ln v.cp)).setCell ⟨g,s*3,none⟩ (.string u.nm)).setCell ⟨g,s*3+1,none⟩ (.int .i64 u.kd)).setCell ⟨g,s*3+2,none⟩ (.slice u.ad u.ln u.cp)).drew):=by
     have e:=HSW.out.put (i:=p) (j:=s) (x:=u) (y:=v) HNp.out.2 HNs.out.2;rw [hst] at e;exact fL _ _ _ _ _ _ _ _ e (Below.refl _ _).drew
    clear hst;have hps:p<s:=HPS.out;obtain ⟨hd00,he00,hd01,he01,hd02,he02,hd10,he10,hd11,he11,hd12,he12,hd20,he20,hd21,he21,hd22,he22⟩:=ND hps
    go_wp2_with fail
    go_region
    clear hp1 hp2 hp3 hp4 hp5 hp6 hs1 hs2 hs3 hs4 hs5 hs6 hps c0 c1 c2 e0 e1 e2 hfr hd00 he00 hd01 he01 hd02 he02 hd10 he10 hd11 he11 hd12 he12 hd20 he20 hd21 he21 hd22 he22;generalize ((((((wr.setCell ⟨g,p*3,none⟩ (.string v.nm)).setCell ⟨g,p*3+1,none⟩ (.int .i64 v.kd)).setCell ⟨g,p*3+2,none⟩ (.slice v.ad v.ln v.cp)).setCell ⟨g,s*3,none⟩ (.string u.nm)).setCell ⟨g,s*3+1,none⟩ (.int .i64 u.kd)).setCell ⟨g,s*3+2,none⟩ (.slice u.ad u.ln u.cp)).drew=w11 at*
    go_wp2_with fail
    exact ⟨⟨i+1,by omega,by go_num,HFIN.out⟩,by simp [intOf];omega⟩
  · obtain rfl:i=c:=by omega
    have hic:¬ (i:Int)<(i:Int):=by omega
    go_wp2_with fail
    go_end0
    exact ⟨rfl,HEND.out _ HSW.out⟩
theorem bT {a i:Nat} (h:i≤a) (hn:a≤2000000000):IntKind.i64.wrap ((a:Int) - (i:Int))=(a:Int) - (i:Int)∧wrap64 ((a:Int) - (i:Int))=(a:Int) - (i:Int):=by
 refine ⟨?_,?_⟩
 · simp [IntKind.wrap,IntKind.bits,IntKind.signed];omega
 · unfold wrap64;omega
theorem gZ {x:Int} (h0:0≤x) (h1:x≤4000000000):IntKind.i64.wrap x=x∧wrap64 x=x:=by
 refine ⟨?_,?_⟩
 · simp [IntKind.wrap,IntKind.bits,IntKind.signed];omega
 · unfold wrap64;omega
theorem SW.then {w W w':World} {B g n cap:Nat} {xs ys:List Wt} (h:SW w B g n cap xs W) (h':SW W B g n cap ys w'):SW w B g n cap ys w':=⟨h'.1,h.2.trans h'.2⟩
theorem OD {w W:World} {B g n cap:Nat} {P U Q V R:List Wt} (hn:n≤1000000000) (ai bi ci:Int) (ha:ai=P.length) (hb:bi=(P.length+U.length+Q.length:Nat)) (hc:ci=U.length) (hv:V.length=U.length) (h:SW w B g n cap (P++U++Q++V++R) W):
 Calls Tryz.prog 266 #[.slice (some ⟨g,0,none⟩) n cap,.int .i64 ai,.int .i64 bi,.int .i64 ci,.func (.func 242) #[] #[]] W fun e w'=>e= .returned (.tuple #[])∧SW w B g n cap (P++V++Q++U++R) w':=by
 subst ha hb hc;exact (pJ hn rfl rfl rfl hv h.1).mono fun e w' q=>⟨q.1,h.then q.2⟩
theorem GG {α:Type} (l:List α) {k:Nat} (h:k≤l.length):∃ a b,l=a++b∧a.length=k∧b.length=l.length - k:=⟨l.take k,l.drop k,(List.take_append_drop k l).symm,by rw [List.length_take];omega,List.length_drop⟩
set_option maxHeartbeats 12800000 in
theorem xN {w:World} {B g n cap a m b:Nat} {P X Y R:List Wt} (hn:n≤1000000000) (ha:P.length=a) (hm:a+X.length=m) (hb:m+Y.length=b) (hx:X≠[]) (hy:Y≠[]) (h:RowW w B g n cap (P++X++Y++R)):
 Calls Tryz.prog 263 #[.slice (some ⟨g,0,none⟩) n cap,.int .i64 a,.int .i64 m,.int .i64 b,.func (.func 242) #[] #[]] w fun e w'=>e= .returned (.tuple #[])∧SW w B g n cap (P++Y++X++R) w':=by
 have hbn:b≤n:=by
  have e:=h.1;simp only [List.length_append] at e;omega
 have hmb:m<b:=by have:=List.length_pos_iff.2 hy;omega
 have ham:a<m:=by have:=List.length_pos_iff.2 hx;omega
 have HS0:Hid (SW w B g n cap (P++[]++X++Y++[]++R) w):=⟨by simpa using h,⟨rfl,rfl,rfl,Nat.le_refl _,fun _ _ _=>rfl⟩⟩;have HLN:Hid (P.length=a∧X.length=m - a∧Y.length=b - m):=⟨ha,by omega,by omega⟩;have HSR:Hid (∀ (W:World) (P' U Q V R':List Wt) (ai bi ci:Int),ai=P'.length→bi=(P'.length+U.length+Q.length:Nat)→ci=U.length→V.length=U.length→SW w B g n cap (P'++U++Q++V++R') W→Calls Tryz.prog 266 #[.slice (some ⟨g,0,none⟩) n cap,.int .i64 ai,.int .i64 bi,.int .i64 ci,.func (.func 242) #[] #[]] W fun e w'=>e= .returned (.tuple #[])∧SW w B g n cap (P'++V++Q++U++R') w'):=fun W P' U Q V R' ai bi ci h1 h2 h3 h4 h5=>OD hn ai bi ci h1 h2 h3 h4 h5
 generalize hG:SW w B g n cap (P++Y++X++R)=G at*;have HG:=aA hG;clear h ha hm hb hx hy hG;have HK1:=aA (bT (a:=m) (i:=a) (by omega) (by omega));have HK3:=aA (bT (a:=b) (i:=m) (by omega) (by omega));obtain ⟨k1,k2⟩:=HK1.out;obtain ⟨k3,k4⟩:=HK3.out
 go_enter Tryz.func263,Tryz.ntmps263
 go_wp2_with fail
 clear k1 k2 k3 k4
 go_loopw [10,11] (fun vi vj wr=>∃ (i j:Nat) (C U V E:List Wt),vi= .int .i64 i∧vj= .int .i64 j∧(U.length=i∧V.length=j∧P.length+C.length+i=m∧m+j≤n)∧1≤i∧1≤j∧C++V++U++E=Y++X∧SW w B g n cap (P++C++U++V++E++R) wr) (fun vi vj _=>(intOf vi).toNat+(intOf vj).toNat)
 case atStart=>exact ⟨m - a,b - m,[],X,Y,[],by congr 1;omega,by congr 1;omega,⟨HLN.out.2.1,HLN.out.2.2,by have:=HLN.out.1;simp;omega,by omega⟩,by omega,by omega,by simp,HS0.out⟩
 case round=>
  obtain ⟨i,j,C,U,V,E,rfl,rfl,hln,hi1,hj1,heq,hsw⟩:=hrel;have HL:=aA hln;have HEQ:=aA heq;have HSW:=aA hsw;have him:i≤m:=by have:=hln.2.2.1;omega
  have hjn:m+j≤n:=hln.2.2.2;clear hln heq hsw;have HS1:=aA (bT (a:=m) (i:=i) (by omega) (by omega))
  by_cases hij:i=j
  · subst hij
    have hne:¬ (i:Int)≠(i:Int):=fun q=>q rfl
    have HC:Hid (Calls Tryz.prog 266 #[.slice (some ⟨g,0,none⟩) n cap,.int .i64 ((m:Int) - (i:Int)),.int .i64 m,.int .i64 i,.func (.func 242) #[] #[]] wr fun e w'=>e= .returned (.tuple #[])∧G w'):=by
     have hl:=HL.out;refine (HSR.out wr (P++C) U [] V (E++R) _ _ _ ?_ ?_ ?_ ?_ ?_).mono ?_
     · rw [List.length_append];omega
     · simp only [List.length_append,List.length_nil];omega
     · omega
     · omega
     · have e:=HSW.out
       simpa using e
     · rintro e w' ⟨h1,h2⟩
       refine ⟨h1,?_⟩;rw [←HG.out];have e:P++C++V++[]++U++(E++R)=P++(C++V++U++E)++R:=by simp
       rw [e,HEQ.out] at h2
       simpa using h2
    obtain ⟨s1,s2⟩:=HS1.out
    go_wp2_with (go_at_call 266;refine HC.out.mono ?_;rintro e w1 ⟨rfl,hg⟩;have HGF:=aA hg;clear hg)
    go_end0
    exact ⟨rfl,HGF.out⟩
  · have hne:(i:Int)≠(j:Int):=by omega
    by_cases hgt:j<i
    · have hgi:(j:Int)<(i:Int):=by omega
      obtain ⟨UA,UB,hU,hUA,hUB⟩:=GG U (k:=j) (by have:=HL.out;omega);have HT1:=aA (bT (a:=i) (i:=j) (by omega) (by omega))
      have HC:Hid (Calls Tryz.prog 266 #[.slice (some ⟨g,0,none⟩) n cap,.int .i64 ((m:Int) - (i:Int)),.int .i64 m,.int .i64 j,.func (.func 242) #[] #[]] wr fun e w'=>e= .returned (.tuple #[])∧SW w B g n cap (P++(C++V)++UB++UA++E++R) w'):=by
       have hl:=HL.out;refine (HSR.out wr (P++C) UA UB V (E++R) _ _ _ ?_ ?_ ?_ ?_ ?_).mono ?_
       · rw [List.length_append];omega
       · simp only [List.length_append];omega
       · omega
       · omega
       · have e:=HSW.out
         rw [hU] at e
         simpa using e
       · rintro e w' ⟨h1,h2⟩
         exact ⟨h1,by simpa using h2⟩
      have HNW:Hid ((UB.length=i - j∧UA.length=j∧P.length+(C++V).length+(i - j)=m∧m+j≤n)∧C++V++UA++UB++E=Y++X):=by
       have hl:=HL.out;refine ⟨⟨by omega,hUA,by rw [List.length_append];omega,by omega⟩,?_⟩;rw [←HEQ.out,hU]
       simp
      clear hU hUA hUB;obtain ⟨s1,s2⟩:=HS1.out;obtain ⟨t1,t2⟩:=HT1.out
      go_wp2_with (go_at_call 266;refine HC.out.mono ?_;rintro e w1 ⟨rfl,hg⟩;have HGF:=aA hg;clear hg)
      clear s1 s2 t1 t2;exact ⟨⟨i - j,j,C++V,UB,UA,E,by congr 1;omega,rfl,HNW.out.1,by omega,hj1,HNW.out.2,HGF.out⟩,by simp [intOf];omega⟩
    · have hgi:¬ (j:Int)<(i:Int):=by omega
      obtain ⟨VA,VB,hV,hVA,hVB⟩:=GG V (k:=j - i) (by have:=HL.out;omega);have HT1:=aA (bT (a:=j) (i:=i) (by omega) (by omega));have HT3:=aA (gZ (x:=(m:Int)+(j:Int)) (by omega) (by omega));have HT5:=aA (gZ (x:=(m:Int)+(j:Int) - (i:Int)) (by omega) (by omega))
      have HC:Hid (Calls Tryz.prog 266 #[.slice (some ⟨g,0,none⟩) n cap,.int .i64 ((m:Int) - (i:Int)),.int .i64 ((m:Int)+(j:Int) - (i:Int)),.int .i64 i,.func (.func 242) #[] #[]] wr fun e w'=>e= .returned (.tuple #[])∧SW w B g n cap (P++C++VB++VA++(U++E)++R) w'):=by
       have hl:=HL.out;refine (HSR.out wr (P++C) U VA VB (E++R) _ _ _ ?_ ?_ ?_ ?_ ?_).mono ?_
       · rw [List.length_append];omega
       · simp only [List.length_append];omega
       · omega
       · omega
       · have e:=HSW.out
         rw [hV] at e
         simpa using e
       · rintro e w' ⟨h1,h2⟩
         exact ⟨h1,by simpa using h2⟩
      have HNW:Hid ((VB.length=i∧VA.length=j - i∧P.length+C.length+i=m∧m+(j - i)≤n)∧C++VA++VB++(U++E)=Y++X):=by
       have hl:=HL.out;refine ⟨⟨by omega,hVA,by omega,by omega⟩,?_⟩;rw [←HEQ.out,hV]
       simp
      clear hV hVA hVB;obtain ⟨s1,s2⟩:=HS1.out;obtain ⟨t1,t2⟩:=HT1.out;obtain ⟨t3,t4⟩:=HT3.out;obtain ⟨t5,t6⟩:=HT5.out
      go_wp2_with (go_at_call 266;refine HC.out.mono ?_;rintro e w1 ⟨rfl,hg⟩;have HGF:=aA hg;clear hg)
      clear s1 s2 t1 t2 t3 t4 t5 t6;exact ⟨⟨i,j - i,C,VB,VA,U++E,rfl,by congr 1;omega,HNW.out.1,hi1,by omega,HNW.out.2,HGF.out⟩,by simp [intOf];omega⟩
theorem CU {k s n:Nat} (h:s=k+1) (hp:s<n) (hn:n≤1000000000):IntKind.i64.wrap ((k:Int)+1)=(k:Int)+1∧wrap64 ((k:Int)+1)=(k:Int)+1∧(0:Int)≤(k:Int)+1∧(k:Int)+1<(n:Int)∧((k:Int)+1).toNat=s∧¬ (k:Int)+1<0:=by
 have e:=oC (a:=k) (i:=1) h hp hn
 simpa using e
def MgQ (w:World) (B g n cap:Nat) (P X R:List Wt) (e:Ending) (w':World):Prop:=e= .returned (.tuple #[])∧∃ M:List Wt,M.Perm X∧M.Pairwise ltT∧SW w B g n cap (P++M++R) w'
theorem xO {α:Type} (A Z:List α) (x z:α):((A++x::z::Z).set A.length z).set (A.length+1) x=A++z::x::Z:=by
 rw [List.set_append_right _ _ (Nat.le_refl _),List.set_append_right _ _ (by omega)]
 simp
theorem xP {Z:List Wt} {x:Wt} {t:Nat} (hz:Z.Pairwise ltT) (ht:∀ y ∈ Z,x.tg<y.tg) (h1:t=0∨∃ y,Z[t - 1]? =some y∧ltS y.nm x.nm=true) (h2:t=Z.length∨∃ y,Z[t]? =some y∧ltS y.nm x.nm=false):(Z.take t++x::Z.drop t).Pairwise ltT:=by
 refine fH (by rw [List.take_append_drop];exact hz) (fun y hy=> ?_) ?_
 · rcases h2 with rfl|⟨y0,hy0,hlt⟩
   · rw [List.drop_length] at hy
     cases hy
   · obtain ⟨htl,rfl⟩:=List.getElem?_eq_some_iff.1 hy0
     have h0:ltT x Z[t]:=mO hlt (ht _ (List.getElem_mem htl));rw [List.drop_eq_getElem_cons htl] at hy
     rcases List.mem_cons.1 hy with rfl|hy
     · exact h0
     · have hp:(Z.drop t).Pairwise ltT:=hz.sublist (List.drop_sublist t Z)
       rw [List.drop_eq_getElem_cons htl,List.pairwise_cons] at hp;exact fY h0 (hp.1 y hy)
 · rcases h1 with rfl|⟨y0,hy0,hlt⟩
   · exact Or.inl (by simp)
   · by_cases h0:t=0
     · subst h0
       exact Or.inl (by simp)
     · obtain ⟨htl,rfl⟩:=List.getElem?_eq_some_iff.1 hy0
       refine Or.inr ⟨Z.take (t - 1),Z[t - 1],?_,Or.inl hlt⟩;rw [←List.take_succ_eq_append_getElem htl]
       congr 1
       omega
theorem uZ {Z:List Wt} {x:Wt} (t:Nat):(Z.take t++x::Z.drop t).Perm ([x]++Z):=by
 refine List.perm_middle.trans ?_;rw [List.take_append_drop];exact List.Perm.refl _
set_option maxHeartbeats 12800000 in
theorem KV {w:World} {B g n cap a m b:Nat} {P Z R:List Wt} {x:Wt} (hn:n≤1000000000) (ha:P.length=a) (hm:a+1=m) (hb:m+Z.length=b) (hz:Z.Pairwise ltT) (ht:∀ y ∈ Z,x.tg<y.tg) (h:RowW w B g n cap (P++[x]++Z++R)):
 Calls Tryz.prog 257 #[.slice (some ⟨g,0,none⟩) n cap,.int .i64 a,.int .i64 m,.int .i64 b,.func (.func 242) #[] #[]] w (MgQ w B g n cap P ([x]++Z) R):=by
 have hbn:b≤n:=by
  have e:=h.1;simp only [List.length_append,List.length_singleton] at e;omega
 have HS0:Hid (SW w B g n cap (P++[x]++Z++R) w):=⟨h,⟨rfl,rfl,rfl,Nat.le_refl _,fun _ _ _=>rfl⟩⟩;have HLN:Hid (P.length=a∧a+1=m∧m+Z.length=b):=⟨ha,hm,hb⟩;have hmb:m≤b:=by omega
 have ham:a<m:=by omega
 have HFN:Hid (∀ wx t,(t=0∨∃ y,Z[t - 1]? =some y∧ltS y.nm x.nm=true)→(t=Z.length∨∃ y,Z[t]? =some y∧ltS y.nm x.nm=false)→SW w B g n cap (P++Z.take t++x::(Z.drop t++R)) wx→MgQ w B g n cap P ([x]++Z) R (.returned (.tuple #[])) wx):=fun wx t h1 h2 h3=>⟨rfl,_,uZ t,xP hz ht h1 h2,by simpa using h3⟩
 have HIX:Hid (∀ q y,Z[q]? =some y→(P++[x]++Z++R)[m+q]? =some y):=fun q y hq=>by
  have hq1:=(List.getElem?_eq_some_iff.1 hq).1;rw [List.getElem?_append_left (by simp;omega),List.getElem?_append_right (by simp;omega)];have e:m+q - (P++[x]).length=q:=by simp;omega
  rw [e];exact hq
 have HIA:Hid ((P++[x]++Z++R)[a]? =some x):=by
  unfold Hid;rw [List.getElem?_append_left (by simp;omega),List.getElem?_append_left (by simp;omega),List.getElem?_append_right (by omega)];have e:a - P.length=0:=by omega
  rw [e];rfl
 have HW1:=aA (bT (a:=m) (i:=a) (by omega) (by omega));generalize MgQ w B g n cap P ([x]++Z) R=G at*;clear h ha hb hz ht;have hma:(m:Int) - (a:Int)=1:=by omega
 clear hm;obtain ⟨k1,k2⟩:=HW1.out
 go_enter Tryz.func257,Tryz.ntmps257
 go_wp2_with fail
 clear k1 k2 hma
 go_loopw [10,11] (fun vi vj wr=>∃ i j:Nat,vi= .int .i64 i∧vj= .int .i64 j∧m≤i∧i≤j∧j≤b∧(i=m∨∃ y,Z[i - m - 1]? =some y∧ltS y.nm x.nm=true)∧(j=b∨∃ y,Z[j - m]? =some y∧ltS y.nm x.nm=false)∧SW w B g n cap (P++[x]++Z++R) wr) (fun vi vj _=>(intOf vj).toNat - (intOf vi).toNat)
 case atStart=>exact ⟨m,b,rfl,rfl,Nat.le_refl _,hmb,Nat.le_refl _,Or.inl rfl,Or.inl rfl,HS0.out⟩
 case round=>
  obtain ⟨i,j,rfl,rfl,hmi,hij,hjb,hlo,hhi,hsw⟩:=hrel;have HLO:=aA hlo;have HHI:=aA hhi;have HSW:=aA hsw;clear hlo hhi hsw
  by_cases hlt:i<j
  · have hlti:(i:Int)<(j:Int):=by omega
    obtain ⟨hh,hhe⟩:∃ q,q=(i+j) / 2:=⟨_,rfl⟩;have hb1:i≤hh:=by omega
    have hb2:hh<j:=by omega
    have HHE:Hid (((i:Int)+(j:Int)) / 2=(hh:Int)):=by unfold Hid;omega
    clear hhe;have HY:Hid (∃ y,Z[hh - m]? =some y):=⟨_,List.getElem?_eq_getElem (by have:=HLN.out;omega)⟩;obtain ⟨y,hy⟩:=HY.out
    have HYI:Hid ((P++[x]++Z++R)[hh]? =some y):=by
     have e:=HIX.out _ _ hy;rw [show m+(hh - m)=hh by omega] at e;exact e
    have HYZ:=aA hy;clear hy;obtain ⟨r,hr,hcm⟩:=gY y x;have HCM:=aA hcm;obtain ⟨c0,c1,c2⟩:=HSW.out.1.cells HYI.out;obtain ⟨e0,e1,e2⟩:=HSW.out.1.cells HIA.out;have hgw:=HSW.out.1.lt.2;have HK:Hid (KeepP fun w1=>SW w B g n cap (P++[x]++Z++R) w1∧Sc.aF w1 g (hh*3) (.string y.nm)∧Sc.aF w1 g (hh*3+1) (.int .i64 y.kd)∧Sc.aF w1 g (hh*3+2) (.slice y.ad y.ln y.cp)∧Sc.aF w1 g (a*3) (.string x.nm)∧Sc.aF w1 g (a*3+1) (.int .i64 x.kd)∧Sc.aF w1 g (a*3+2) (.slice x.ad x.ln x.cp)):=KeepP.and (fL _ _ _ _ _ _) (KeepP.and (aP _ _ _) (KeepP.and (aP _ _ _) (KeepP.and (aP _ _ _) (KeepP.and (aP _ _ _) (KeepP.and (aP _ _ _) (aP _ _ _))))))
    have HO:Hid (SW w B g n cap (P++[x]++Z++R) wr∧Sc.aF wr g (hh*3) (.string y.nm)∧Sc.aF wr g (hh*3+1) (.int .i64 y.kd)∧Sc.aF wr g (hh*3+2) (.slice y.ad y.ln y.cp)∧Sc.aF wr g (a*3) (.string x.nm)∧Sc.aF wr g (a*3+1) (.int .i64 x.kd)∧Sc.aF wr g (a*3+2) (.slice x.ad x.ln x.cp)):=⟨HSW.out,⟨c0,hgw⟩,⟨c1,hgw⟩,⟨c2,hgw⟩,⟨e0,hgw⟩,⟨e1,hgw⟩,⟨e2,hgw⟩⟩;clear hcm c0 c1 c2 e0 e1 e2 hgw HSW;have hhn:hh<n:=by omega
    have han:a<n:=by omega
    have q1:(hh:Int)<(n:Int):=by omega
    have q2:(a:Int)<(n:Int):=by omega
    by_cases hc:r<0
    · have HLT:Hid (ltS y.nm x.nm=true):=hr.1 hc
      clear hr
      go_upto_region 5 with fail
      rw [HHE.out];refine bA HK (by kernel_rfl) (by kernel_rfl) (by first|exact HO.out|exact HK.out.drew HO.out) ?_;intro C HIN HOUT;clear HO
      repeat
       (with_reducible refine wpQuiet_step (fun K hK=> ?_)
        go_simp
        first
         |(refine hK _ ?_;clear hK K)
         |(apply Exists.intro;refine ⟨fun w1 hC=> ?_,hK _ ?_⟩;(focus ((first|(go_at_call 242;with_reducible exact aU HIN HOUT HK HCM.out w1 hC)|(exact rfl)|(obtain ⟨hsw,⟨c0,hgw⟩,⟨c1,_⟩,⟨c2,_⟩,⟨e0,_⟩,⟨e1,_⟩,⟨e2,_⟩⟩:=HOUT.out w1 hC;clear hC;go_simp;first|done|exact rfl));done));clear hK K))
      refine wpQuiet_nil ?_;intro w10 hC;have HO:=aA (HOUT.out _ hC);clear hC HIN HOUT C;obtain ⟨hsw,⟨c0,hgw⟩,⟨c1,_⟩,⟨c2,_⟩,⟨e0,_⟩,⟨e1,_⟩,⟨e2,_⟩⟩:=HO.out;have HSW2:=aA hsw;clear hsw HO HK c0 c1 c2 e0 e1 e2 hgw
      go_wp2_with fail
      exact ⟨⟨hh+1,j,by go_num,rfl,by omega,by omega,hjb,Or.inr ⟨y,by rw [show hh+1 - m - 1=hh - m by omega];exact HYZ.out,HLT.out⟩,HHI.out,HSW2.out⟩,by simp [intOf];omega⟩
    · have HLT:Hid (ltS y.nm x.nm=false):=Bool.eq_false_iff.2 fun e=>hc (hr.2 e)
      clear hr
      go_upto_region 5 with fail
      rw [HHE.out];refine bA HK (by kernel_rfl) (by kernel_rfl) (by first|exact HO.out|exact HK.out.drew HO.out) ?_;intro C HIN HOUT;clear HO
      repeat
       (with_reducible refine wpQuiet_step (fun K hK=> ?_)
        go_simp
        first
         |(refine hK _ ?_;clear hK K)
         |(apply Exists.intro;refine ⟨fun w1 hC=> ?_,hK _ ?_⟩;(focus ((first|(go_at_call 242;with_reducible exact aU HIN HOUT HK HCM.out w1 hC)|(exact rfl)|(obtain ⟨hsw,⟨c0,hgw⟩,⟨c1,_⟩,⟨c2,_⟩,⟨e0,_⟩,⟨e1,_⟩,⟨e2,_⟩⟩:=HOUT.out w1 hC;clear hC;go_simp;first|done|exact rfl));done));clear hK K))
      refine wpQuiet_nil ?_;intro w10 hC;have HO:=aA (HOUT.out _ hC);clear hC HIN HOUT C;obtain ⟨hsw,⟨c0,hgw⟩,⟨c1,_⟩,⟨c2,_⟩,⟨e0,_⟩,⟨e1,_⟩,⟨e2,_⟩⟩:=HO.out;have HSW2:=aA hsw;clear hsw HO HK c0 c1 c2 e0 e1 e2 hgw
      go_wp2_with fail
      exact ⟨⟨i,hh,rfl,rfl,hmi,hb1,by omega,HLO.out,Or.inr ⟨y,HYZ.out,HLT.out⟩,HSW2.out⟩,by simp [intOf];omega⟩
  · obtain rfl:i=j:=by omega
    have hlti:¬ (i:Int)<(i:Int):=by omega
    obtain ⟨t,hte⟩:∃ t,t=i - m:=⟨_,rfl⟩;have HT:Hid (i=m+t∧t≤Z.length):=⟨by omega,by have:=HLN.out;omega⟩;have HT1:Hid (t=0∨∃ y,Z[t - 1]? =some y∧ltS y.nm x.nm=true):=HLO.out.imp (fun e=>by omega) (fun e=>by rw [hte];exact e);have HT2:Hid (t=Z.length∨∃ y,Z[t]? =some y∧ltS y.nm x.nm=false):=HHI.out.imp (fun e=>by have:=HLN.out;omega) (fun e=>by rw [hte];exact e);clear hte HLO HHI
    have HSB:Hid (SW w B g n cap (P++(Z.take t).take 0++x::((Z.take t).drop 0++(Z.drop t++R))) wr):=by
     have e2:P++(Z.take t).take 0++x::((Z.take t).drop 0++(Z.drop t++R))=P++[x]++Z++R:=by
      rw [List.drop_zero,←List.append_assoc (Z.take t),List.take_append_drop]
      simp
     unfold Hid;rw [e2];exact HSW.out
    have HZL:Hid ((Z.take t).length=t):=by unfold Hid;rw [List.length_take];have:=HT.out;omega
    have HEQ:Hid (∀ wx,SW w B g n cap (P++(Z.take t).take t++x::((Z.take t).drop t++(Z.drop t++R))) wx→G (.returned (.tuple #[])) wx):=fun wx hx=>HFN.out wx t HT1.out HT2.out (by
     have e:=HZL.out;rw [List.take_of_length_le (by omega),List.drop_eq_nil_of_le (by omega),List.nil_append] at hx;exact hx)
    obtain ⟨Z1,hZ1⟩:∃ z,z=Z.take t:=⟨_,rfl⟩;obtain ⟨Z2,hZ2⟩:∃ z,z=Z.drop t++R:=⟨_,rfl⟩;rw [←hZ1,←hZ2] at HSB HEQ;rw [←hZ1] at HZL;clear hZ1 hZ2 HSW HT1 HT2 HFN;have hi1:1≤i:=by omega
    have HI1:=aA (bT (a:=i) (i:=1) (by omega) (by omega));obtain ⟨k1,k2⟩:=HI1.out;have hti:a+t<n:=by have:=HT.out;have:=HLN.out;omega
    go_wp2_with fail
    clear k1 k2
    go_loopw [13] (fun vk wr=>∃ r k:Nat,vk= .int .i64 k∧k=a+r∧r≤t∧SW w B g n cap (P++Z1.take r++x::(Z1.drop r++Z2)) wr) (fun vk _=>i - (intOf vk).toNat)
    case atStart=>exact ⟨0,a,rfl,rfl,Nat.zero_le _,HSB.out⟩
    case round=>
     obtain ⟨r,k,rfl,hkr,hrt,hsw⟩:=hrel;have HKR:=aA hkr;have HSW:=aA hsw;clear hkr hsw
     by_cases hlr:r<t
     · have hkl:(k:Int)<(i:Int) - 1:=by have:=HKR.out;have:=HT.out;have:=HLN.out;omega
       have hki2:k+1<i:=by have:=HKR.out;have:=HT.out;have:=HLN.out;omega
       obtain ⟨z,hz⟩:∃ z,z=Z1[r]'(by have:=HZL.out;omega):=⟨_,rfl⟩;have HDR:Hid (Z1.drop r=z::Z1.drop (r+1)):=by unfold Hid;rw [hz];exact List.drop_eq_getElem_cons _
       have HTK:Hid (Z1.take (r+1)=Z1.take r++[z]):=by unfold Hid;rw [hz];exact List.take_succ_eq_append_getElem _
       clear hz;rw [HDR.out] at HSW;have HSE:Hid (k+1=k+1∧k+1<n):=⟨rfl,by omega⟩
       have HPL:Hid ((P++Z1.take r).length=k):=by
        unfold Hid;rw [List.length_append,List.length_take]
        have:=HZL.out;have:=HKR.out;have:=HLN.out
        omega
       have HC1:Hid ((P++Z1.take r++x::(z::Z1.drop (r+1)++Z2))[k]? =some x):=by
        unfold Hid;rw [List.getElem?_append_right (by have:=HPL.out;omega),HPL.out,Nat.sub_self];rfl
       have HC2:Hid ((P++Z1.take r++x::(z::Z1.drop (r+1)++Z2))[k+1]? =some z):=by
        unfold Hid;rw [List.getElem?_append_right (by have:=HPL.out;have:=HSE.out;omega),HPL.out,Nat.add_sub_cancel_left];rfl
       obtain ⟨c0,c1,c2⟩:=HSW.out.1.cells HC1.out;obtain ⟨e0,e1,e2⟩:=HSW.out.1.cells HC2.out;have hfr:=fun i=>World.ownsRow.frozenAt HSW.out.1.2 i
       have HFIN:Hid (SW w B g n cap (P++Z1.take (r+1)++x::(Z1.drop (r+1)++Z2)) ((((((wr.setCell ⟨g,k*3,none⟩ (.string z.nm)).setCell ⟨g,k*3+1,none⟩ (.int .i64 z.kd)).setCell ⟨g,k*3+2,none⟩ (.slice z.ad z.ln z.cp)).setCell ⟨g,(k+1)*3,none⟩ (.string x.nm)).setCell ⟨g,(k+1)*3+1,none⟩ (.int .i64 x.kd)).setCell ⟨g,(k+1)*3+2,none⟩ (.slice x.ad x.ln x.cp)).drew):=by
        have e:=HSW.out.put (i:=k) (j:=k+1) (x:=x) (y:=z) (by have:=HSE.out;omega) HSE.out.2;have e2:=xO (P++Z1.take r) (Z1.drop (r+1)++Z2) x z;rw [HPL.out] at e2;rw [List.cons_append,e2] at e;have e3:=fL _ _ _ _ _ _ _ _ e (Below.refl _ _).drew;unfold Hid;rw [HTK.out]
        simpa using e3
       have hps:k<k+1:=by omega
       have hkn:(k:Int)<(n:Int):=by omega
       obtain ⟨hd00,he00,hd01,he01,hd02,he02,hd10,he10,hd11,he11,hd12,he12,hd20,he20,hd21,he21,hd22,he22⟩:=ND hps;obtain ⟨hs1,hs2,hs3,hs4,hs5,hs6⟩:=CU HSE.out.1 HSE.out.2 hn;obtain ⟨k1,k2⟩:=HI1.out
       go_wp2_with fail
       go_region
       clear hs1 hs2 hs3 hs4 hs5 hs6 hps c0 c1 c2 e0 e1 e2 hfr k1 k2 hd00 he00 hd01 he01 hd02 he02 hd10 he10 hd11 he11 hd12 he12 hd20 he20 hd21 he21 hd22 he22;generalize ((((((wr.setCell ⟨g,k*3,none⟩ (.string z.nm)).setCell ⟨g,k*3+1,none⟩ (.int .i64 z.kd)).setCell ⟨g,k*3+2,none⟩ (.slice z.ad z.ln z.cp)).setCell ⟨g,(k+1)*3,none⟩ (.string x.nm)).setCell ⟨g,(k+1)*3+1,none⟩ (.int .i64 x.kd)).setCell ⟨g,(k+1)*3+2,none⟩ (.slice x.ad x.ln x.cp)).drew=w11 at*
       go_wp2_with fail
       exact ⟨⟨r+1,k+1,by go_num,by have:=HKR.out;omega,by omega,HFIN.out⟩,by simp [intOf];omega⟩
     · obtain rfl:r=t:=by omega
       have hkl:¬ (k:Int)<(i:Int) - 1:=by have:=HKR.out;have:=HT.out;have:=HLN.out;omega
       obtain ⟨k1,k2⟩:=HI1.out
       go_wp2_with fail
       refine bodyPost_ret (results_none rfl _ _ _) rfl ?_;exact HEQ.out _ HSW.out
end Go.Proofs.YtpfemjlhklnfoaaGreatDoor
