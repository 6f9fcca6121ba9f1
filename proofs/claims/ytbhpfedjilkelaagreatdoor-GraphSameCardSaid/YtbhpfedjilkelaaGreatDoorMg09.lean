/- Wg1, St2, St3, St4: their declarations that are needed, laid in one text, remarks and blanks left out. -/
import Derived.Test.YtbhpfedjilkelaaGreatDoorMg08
namespace Go.Proofs.YtbhpfedjilkelaaGreatDoor
open Go.RowKit Go.Maps Go.WideMaps
set_option maxRecDepth 100000
def Wt.rs (x:Wt):Value:= .slice x.ad x.ln x.cp
def ApartR (x y:Wt):Prop:=∀ g,x.rs.ownBlock=some g→y.rs.ownBlock≠some g
theorem ApartR.symm {x y:Wt} (h:ApartR x y):ApartR y x:=fun g hy hx=>h g hx hy
def OwnWt (w:World) (B:Nat) (v:Value) (ps:List (Wt×List Sp)):Prop:=w.ownsRow B 161 3 v ps.length ((ps.map (·.1)).flatMap cM)∧(∀ p ∈ ps,OwnS w B p.1.rs p.2)∧ps.Pairwise fun p q=>ApartR p.1 q.1
theorem OwnWt.nil (w:World) (B:Nat):OwnWt w B (.slice none 0 0) []:=⟨⟨rfl,Or.inl ⟨rfl,rfl⟩⟩,fun p hp=>(by cases hp),List.Pairwise.nil⟩
theorem OwnWt.below {w w':World} {B:Nat} {v:Value} {ps:List (Wt×List Sp)} (h:OwnWt w B v ps) (hb:Below w.heap.size w w'):OwnWt w' B v ps:=⟨cR h.1 hb,fun p hp=>(h.2.1 p hp).below hb,h.2.2⟩
theorem OwnWt.base {w:World} {B C:Nat} {v:Value} {ps:List (Wt×List Sp)} (h:OwnWt w B v ps) (hc:C≤B):OwnWt w C v ps:=⟨kG h.1 hc,fun p hp=>(h.2.1 p hp).base hc,h.2.2⟩
theorem OwnWt.len {w:World} {B:Nat} {v:Value} {ps:List (Wt×List Sp)} (h:OwnWt w B v ps):∃ ad cap,v= .slice ad ps.length cap:=by
 rcases h.1.2 with ⟨rfl,hn⟩|⟨g,cap,cur,rfl,_⟩
 · exact ⟨none,0,by rw [hn]⟩
 · exact ⟨_,cap,rfl⟩
def cY (O:List Dp) (k:Int) (t:Nat) (ds:List Dp) (ps:List (Wt×List Sp)):Prop:=ps.length=ds.length∧∀ i p,ps[i]? =some p→∃ d,ds[i]? =some d∧p.1.nm=d.nm∧p.1.kd=k∧p.1.tg=t+i∧p.2=bC O d
theorem pV {O:List Dp} {k:Int} {t:Nat} {ds:List Dp} {ps:List (Wt×List Sp)} {d:Dp} {p:Wt×List Sp} (h:cY O k t ds ps) (h1:p.1.nm=d.nm) (h2:p.1.kd=k) (h3:p.1.tg=t+ds.length) (h4:p.2=bC O d):cY O k t (ds++[d]) (ps++[p]):=by
 refine ⟨by rw [List.length_append,List.length_append,h.1];rfl,fun i q hq=> ?_⟩
 by_cases hi:i<ps.length
 · rw [List.getElem?_append_left hi] at hq
   obtain ⟨e,h5,h6⟩:=h.2 i q hq;exact ⟨e,by rw [List.getElem?_append_left (by rw [←h.1];exact hi)];exact h5,h6⟩
 · rw [List.getElem?_append_right (by omega)] at hq
   have hz:i - ps.length=0:=by
    have:=(List.getElem?_eq_some_iff.1 hq).1
    rw [List.length_singleton] at this;omega
   rw [hz] at hq;cases hq;have e:i=ds.length:=by rw [←h.1];omega
   subst e;exact ⟨d,by rw [List.getElem?_append_right (Nat.le_refl _),Nat.sub_self];rfl,h1,h2,h3,h4⟩
theorem OwnWt.snoc {w w1:World} {B:Nat} {v v1:Value} {ps:List (Wt×List Sp)} {p:Wt×List Sp} (h:OwnWt w B v ps) (hs:OwnS w B p.1.rs p.2) (hn:∀ q ∈ ps,ApartR q.1 p.1) (ho:w1.ownsRow B 161 3 v1 (ps.length+1) ((ps.map (·.1)).flatMap cM++cM p.1)) (hg:w.grownBy w1 v.ownBlock):OwnWt w1 B v1 (ps++[p]):=by
 have hk:∀ {u:Value} {L:List Sp},OwnS w B u L→OwnS w1 B u L:=fun {u L} hu=>by
  refine hu.of_block fun g hgu=>hg.block g (hu.lt hgu).1 fun e=> ?_
  exact vW hu h.1 (by decide) hgu e.symm
 refine ⟨by rw [List.length_append,List.map_append,List.flatMap_append];simpa using ho,fun q hq=> ?_,?_⟩
 · rcases List.mem_append.1 hq with hq|hq
   · exact hk (h.2.1 q hq)
   · rw [List.mem_singleton.1 hq]
     exact hk hs
 · rw [List.pairwise_append]
   refine ⟨h.2.2,List.pairwise_singleton _ _,fun a ha b hb=> ?_⟩;rw [List.mem_singleton.1 hb];exact hn a ha
theorem iC {w w6:World} {B:Nat} {ps:List (Wt×List Sp)} {v:Value} (h:OwnWt w B v ps) {x:Wt} {L:List Sp} (hx:OwnS w6 w.heap.size x.rs L):∀ q ∈ ps,ApartR q.1 x:=fun q hq=>by
 intro g hb e;have h1:=((h.2.1 q hq).lt hb).1;have h2:=(hx.lt e).2;omega
set_option maxHeartbeats 12800000 in
theorem cZ {w:World} {O:List Dp} {v4:Value} {M n:Nat} (h:DepsAt w v4 O) (hm:SmAt w M n (.int .i64 0) (aF O)) {ds:List Dp} {vd:Value} (hp:DepsAt w vd ds) (hfit:kR O ds) (kd:Int) (t:Nat):Calls Tryz.prog 214 #[.agg #[v4,.map (some M)],vd,.int .i64 kd] w fun e w'=>∃ v,e= .returned v∧∃ ps,OwnWt w' w.heap.size v ps∧cY O kd t ds ps∧Below w.heap.size w w':=by
 obtain ⟨ad,cap,rfl,hcap,_⟩:=h.el;obtain ⟨p2,r2,rfl,_,_⟩:=hp.el;have HFD:=aA hfit.2;have hfl:=hfit.1;have HCL:Hid (∀ (W:World) (u:Value) (R:List Sp),SpansC W u R→R.length*48≤140737488355328→Calls Tryz.prog 138 #[u] W fun e w'=>∃ v',e= .returned v'∧OwnS w' W.heap.size v' R∧Below W.heap.size W w'):=fun W u R hu hr=>mR hu hr
 have HSC:Hid (∀ (s:ByteArray) (W:World),s.size≤281474976710656→Calls Tryz.prog 78 #[.string s] W fun e w'=>e= .returned (.string s)∧Below W.heap.size W w'):=fun s W hs=>eI s hs W
 have HOV2:Hid (Below w.heap.size w (w.alloc (.cells #[.slice ad O.length cap,.map (some M)] 249))):=aD _ _;have HSW:Hid (SmAt (w.alloc (.cells #[.slice ad O.length cap,.map (some M)] 249)) M n (.int .i64 0) (aF O)):=hm.below (aD _ _);have k0:(w.alloc (.cells #[.slice ad O.length cap,.map (some M)] 249)).cell? ⟨w.heap.size,0,none⟩=some (.slice ad O.length cap):=by simp
 have k1:(w.alloc (.cells #[.slice ad O.length cap,.map (some M)] 249)).cell? ⟨w.heap.size,1,none⟩=some (.map (some M)):=by simp
 have hkl:w.heap.size<(w.alloc (.cells #[.slice ad O.length cap,.map (some M)] 249)).heap.size:=by simp
 have HEL:Hid (∀ k (_:k<ds.length),∃ g o,p2=some ⟨g,o,none⟩∧∃ au nu cu,DpIn (w.alloc (.cells #[.slice ad O.length cap,.map (some M)] 249)) g (o+k*2) ds[k] (.slice au nu cu)):=by
  obtain ⟨ad',cap',e,_,hel⟩:=(hp.below HOV2.out).el;injection e with e1 _ _
  subst e1;exact hel
 have HDO:Hid (DepsAt (w.alloc (.cells #[.slice ad O.length cap,.map (some M)] 249)) (.slice ad O.length cap) O):=h.below HOV2.out;clear h hp hfit hm
 go_enter Tryz.func214,Tryz.ntmps214
 go_upto_region 1 with fail
 obtain ⟨KB,hKB⟩:∃ k,k=w.heap.size:=⟨_,rfl⟩;rw [←hKB] at k0 k1 hkl;rw [←hKB];generalize (w.alloc (.cells #[.slice ad O.length cap,.map (some M)] 249))=W at*;clear hKB
 go_wp2_with fail
 go_loopw [7,12] (fun vo vi wr=>∃ (k:Nat) (ps:List (Wt×List Sp)),k≤ds.length∧vi= .int .i64 k∧OwnWt wr W.heap.size vo ps∧cY O kd t (ds.take k) ps∧Below W.heap.size W wr) (fun _ vi _=>ds.length - (intOf vi).toNat)
 case atStart=>exact ⟨0,[],Nat.zero_le _,rfl,OwnWt.nil _ _,⟨rfl,fun i p hi=>by simp at hi⟩,Below.refl _ _⟩
 case round=>
  obtain ⟨k,ps,hk,rfl,hod,hps,hb⟩:=hrel;obtain ⟨ao,co,rfl⟩:=hod.len;have HBR:=aA hb;have HOD:=aA hod;have HPS:=aA hps;have hpl:ps.length=k:=by have:=hps.1;rw [List.length_take] at this;omega
  have hpz:ps.length≤100000000:=by omega
  clear hb hod hps hpl
  by_cases hlt:k<ds.length
  · have hki:(k:Int)<(ds.length:Int):=by omega
    obtain ⟨g,o,rfl,au,nu,cu,c0,c1,hsp,hg⟩:=HEL.out k hlt;obtain ⟨hz1,hz2⟩:=HFD.out _ (List.getElem_mem hlt);have HTK:Hid (ds.take (k+1)=ds.take k++[ds[k]]∧(ds.take k).length=k):=⟨List.take_succ_eq_append_getElem hlt,by rw [List.length_take];omega⟩;obtain ⟨d,hd⟩:∃ d,d=ds[k]:=⟨_,rfl⟩;rw [←hd] at c0 hsp hz1 hz2 HTK;have d0:=(HBR.out.cell (p:=⟨g,o+k*2,none⟩) hg).trans c0;have d1:=(HBR.out.cell (p:=⟨g,o+k*2+1,none⟩) hg).trans c1;have HDL:Hid (d.rg.length≤9223372036854775807∧d.nm.size≤9223372036854775807):=⟨hsp.2,by omega⟩;have HKD:Hid (KeepP fun X=>((Below W.heap.size W X∧OwnWt X W.heap.size (.slice ao ps.length co) ps)∧(SmAt X M n (.int .i64 0) (aF O)∧DepsAt X (.slice ad O.length cap) O))∧SpansC X (.slice au nu cu) d.rg):=fun p q hx hpq=>⟨⟨⟨aB hx.1.1.1 hpq,hx.1.1.2.below hpq⟩,hx.1.2.1.below hpq,hx.1.2.2.below hpq⟩,hx.2.below hpq⟩
    have HO0:Hid (((Below W.heap.size W wr∧OwnWt wr W.heap.size (.slice ao ps.length co) ps)∧(SmAt wr M n (.int .i64 0) (aF O)∧DepsAt wr (.slice ad O.length cap) O))∧SpansC wr (.slice au nu cu) d.rg):=⟨⟨⟨HBR.out,HOD.out⟩,HSW.out.below HBR.out,HDO.out.below HBR.out⟩,hsp.1.below HBR.out⟩;have HO:Hid (((Below W.heap.size W (wr.alloc (.cells #[.string d.nm,.slice au nu cu] 89)).drew∧OwnWt (wr.alloc (.cells #[.string d.nm,.slice au nu cu] 89)).drew W.heap.size (.slice ao ps.length co) ps)∧(SmAt (wr.alloc (.cells #[.string d.nm,.slice au nu cu] 89)).drew M n (.int .i64 0) (aF O)∧DepsAt (wr.alloc (.cells #[.string d.nm,.slice au nu cu] 89)).drew (.slice ad O.length cap) O))∧SpansC (wr.alloc (.cells #[.string d.nm,.slice au nu cu] 89)).drew (.slice au nu cu) d.rg):=HKD.out _ _ (HKD.out _ _ HO0.out (aD _ _)) (Below.refl _ _).drew;have hkr:KB<wr.heap.size:=Nat.lt_of_lt_of_le hkl HBR.out.size
    have HBX:Hid (∀ X,Below (wr.alloc (.cells #[.string d.nm,.slice au nu cu] 89)).heap.size (wr.alloc (.cells #[.string d.nm,.slice au nu cu] 89)) X→X.cell? ⟨wr.heap.size,0,none⟩=some (.string d.nm)∧X.cell? ⟨wr.heap.size,1,none⟩=some (.slice au nu cu)∧X.cell? ⟨KB,0,none⟩=some (.slice ad O.length cap)∧X.cell? ⟨KB,1,none⟩=some (.map (some M))):=fun X hb=>by
     have hq:Below W.heap.size W X:=aB (aB HBR.out (aD _ _)) hb;exact ⟨(hb.cell (p:=⟨wr.heap.size,0,none⟩) (by simp)).trans (by simp),(hb.cell (p:=⟨wr.heap.size,1,none⟩) (by simp)).trans (by simp),(hq.cell (p:=⟨KB,0,none⟩) hkl).trans k0,(hq.cell (p:=⟨KB,1,none⟩) hkl).trans k1⟩
    have HBB:Hid (Below (wr.alloc (.cells #[.string d.nm,.slice au nu cu] 89)).heap.size (wr.alloc (.cells #[.string d.nm,.slice au nu cu] 89)) (wr.alloc (.cells #[.string d.nm,.slice au nu cu] 89)).drew):=(Below.refl _ _).drew;have m0:=(HBR.out.cell (p:=⟨KB,0,none⟩) hkl).trans k0;have m1:=(HBR.out.cell (p:=⟨KB,1,none⟩) hkl).trans k1;have hle:W.heap.size≤wr.heap.size:=HBR.out.size
    have HNE:Hid (∀ q,(q=wr.heap.size∨q=KB)→some q≠(Value.slice ao ps.length co).ownBlock):=fun q hq e=>by
     have:=HOD.out.1.lt _ e.symm
     omega
    have HRO:Hid (∀ X,(((Below W.heap.size W X∧OwnWt X W.heap.size (.slice ao ps.length co) ps)∧(SmAt X M n (.int .i64 0) (aF O)∧DepsAt X (.slice ad O.length cap) O))∧SpansC X (.slice au nu cu) d.rg)→Calls Tryz.prog 239 #[.agg #[.slice ad O.length cap,.map (some M)],.agg #[.string d.nm,.slice au nu cu]] X fun e w'=>∃ a9 b9 c9,e= .returned (.slice a9 b9 c9)∧SpansC w' (.slice a9 b9 c9) (bC O d)∧Below X.heap.size X w'):=fun X hx=>(pP hx.1.2.2 hx.1.2.1 d hx.2 HDL.out.1 HDL.out.2).mono fun e w' hq=>by
     obtain ⟨v,h1,h2,h3,h4⟩:=hq;have h2':=h2;obtain ⟨⟨a9,c9,rfl,_⟩,_⟩:=h2;exact ⟨a9,_,c9,h1,h2',h4⟩
    have HFIN:Hid (∀ (w5 w6 w7:World) (a7:Option Addr) (n7 c7:Nat) (v1:Value),(((Below W.heap.size W w5∧OwnWt w5 W.heap.size (.slice ao ps.length co) ps)∧(SmAt w5 M n (.int .i64 0) (aF O)∧DepsAt w5 (.slice ad O.length cap) O))∧SpansC w5 (.slice au nu cu) d.rg)→(((Below W.heap.size W w6∧OwnWt w6 W.heap.size (.slice ao ps.length co) ps)∧(SmAt w6 M n (.int .i64 0) (aF O)∧DepsAt w6 (.slice ad O.length cap) O))∧SpansC w6 (.slice au nu cu) d.rg)→OwnS w6 w5.heap.size (.slice a7 n7 c7) (bC O d)→w7.ownsRow W.heap.size 161 3 v1 (ps.length+1) ((ps.map (·.1)).flatMap cM++[.string d.nm,.int .i64 kd,.slice a7 n7 c7])→w6.grownBy w7 (Value.slice ao ps.length co).ownBlock→∃ q,OwnWt w7 W.heap.size v1 (ps++[q])∧cY O kd t (ds.take (k+1)) (ps++[q])∧Below W.heap.size W w7):=fun w5 w6 w7 a7 n7 c7 v1 h5 h6 hs ho hg=>by
     refine ⟨(⟨d.nm,kd,a7,n7,c7,t+k⟩,bC O d),OwnWt.snoc h6.1.1.2 (hs.base h5.1.1.1.size) (iC (x:=⟨d.nm,kd,a7,n7,c7,t+k⟩) h5.1.1.2 hs) ho hg,?_,h6.1.1.1.trans (dH hg (fun g e=>(h6.1.1.2.1.lt g e).1) h6.1.1.1.size)⟩;rw [HTK.out.1];exact pV HPS.out rfl rfl (by rw [HTK.out.2]) rfl
    clear hcap hd
    go_wp2_with fail
    go_region_held3 (fun w'=>w'.cell? ⟨wr.heap.size,0,none⟩=some (.string d.nm)∧w'.cell? ⟨wr.heap.size,1,none⟩=some (.slice au nu cu)∧w'.cell? ⟨KB,0,none⟩=some (.slice ad O.length cap)∧w'.cell? ⟨KB,1,none⟩=some (.map (some M))) (go_keep) (first
     |(refine rT (B:=W.heap.size) (M:=w7.heap.size) (wx:=w7) (v:= .slice ao ps.length co) sF Tryz.underlying111 rfl (by decide) (by decide) rfl (.tmp 16) (.tmp 26) rfl rfl HO7.out.1.1.2.1 hB7 #[.string d.nm,.int .i64 kd,.slice a7 n7 c7] rfl (by simp [Value.oneCell']) rfl rfl (by omega) ?_;intro v1 w8 ho hgr hat;obtain ⟨g8,cap8,rfl,_⟩:=ho.form (by omega);have HP:=aA (HFIN.out _ _ _ _ _ _ _ HO6.out HO7.out HS7.out ho (cS (aD _ _) hgr));have z0:=(cS (aD _ _) hgr).cell y0 (HNE.out _ (Or.inl rfl));have z1:=(cS (aD _ _) hgr).cell y1 (HNE.out _ (Or.inl rfl));have z2:=(cS (aD _ _) hgr).cell y2 (HNE.out _ (Or.inr rfl));have z3:=(cS (aD _ _) hgr).cell y3 (HNE.out _ (Or.inr rfl));clear ho hgr hat)
     |(go_at_call 138;refine (HCL.out _ _ _ HV6.out hz2).mono ?_;rintro e w7 ⟨vs,rfl,hos,hb7⟩;have HB7:=aA (aB HB6.out hb7);have HO7:=aA (HKD.out _ _ HO6.out hb7);obtain ⟨y0,y1,y2,y3⟩:=HBX.out _ HB7.out;have HS0:=aA hos;obtain ⟨a7,c7,hvs,_,_⟩:=hos.sp;obtain ⟨n7,hn7⟩:∃ n,n=(bC O d).length:=⟨_,rfl⟩;rw [←hn7] at hvs;subst hvs;have HS7:Hid (OwnS w7 w6.heap.size (.slice a7 n7 c7) (bC O d)):=HS0.out;have hB7:W.heap.size≤w7.heap.size:=HO7.out.1.1.1.size;clear hb7 hos hn7 HS0)
     |(go_at_call 239;refine (HRO.out _ HO5.out).mono ?_;rintro e w6 ⟨a9,b9,c9,rfl,hv6,hb6⟩;have HV6:=aA hv6;have HB6:=aA (aB HB5.out hb6);have HO6:=aA (HKD.out _ _ HO5.out hb6);obtain ⟨t0,t1,t2,t3⟩:=HBX.out _ HB6.out;clear hb6 hv6)
     |(go_at_call 78;refine (HSC.out _ _ hz1).mono ?_;rintro e w5 ⟨rfl,hb5⟩;have HB5:=aA (aB HBB.out hb5);have HO5:=aA (HKD.out _ _ HO.out hb5);obtain ⟨x0,x1,x2,x3⟩:=HBX.out _ HB5.out;clear hb5))
    all_goals go_wp2
    all_goals (obtain ⟨q9,hq1,hq2,hq3⟩:=HP.out;exact ⟨⟨k+1,_,by omega,by go_num,hq1,hq2,hq3⟩,by simp [intOf];omega⟩)
  · obtain rfl:k=ds.length:=by omega
    have HPL:Hid (cY O kd t ds ps):=by
     have e:=HPS.out;rw [List.take_length] at e;exact e
    have hki:¬ ((ds.length:Int)<(ds.length:Int)):=by omega
    clear HPS
    go_wp2
    go_ret;exact ⟨_,rfl,ps,HOD.out.base HOV2.out.size,HPL.out,aB HOV2.out HBR.out⟩
theorem oA {α:Type} {l:List α} (h:l≠[]):∃ a b,l=a++[b]:=⟨l.dropLast,l.getLast h,(List.dropLast_concat_getLast h).symm⟩
set_option maxHeartbeats 12800000 in
theorem gI {w:World} {B g n cap a b:Nat} {P X R:List Wt} (hn:n≤1000000000) (ha:P.length=a) (hb:a+X.length=b) (h:RowW w B g n cap (P++X++R)) (ht:X.Pairwise fun x y=>x.tg<y.tg):
 Calls Tryz.prog 256 #[.slice (some ⟨g,0,none⟩) n cap,.int .i64 a,.int .i64 b,.func (.func 242) #[] #[]] w fun e w'=>e= .returned (.tuple #[])∧∃ Y:List Wt,Y.Perm X∧Y.Pairwise ltT∧SW w B g n cap (P++Y++R) w':=by
 have hbn:b≤n:=by
  have e:=h.1;rw [List.length_append,List.length_append] at e;omega
 have HS0:Hid (SW w B g n cap (P++X.take 1++X.drop 1++R) w):=by
  refine ⟨?_,⟨rfl,rfl,rfl,Nat.le_refl _,fun _ _ _=>rfl⟩⟩;rw [List.append_assoc P,List.take_append_drop];exact h
 have HTG:=aA ht;have HXL:=aA hb;have HPA:=aA ha;clear h ht
 go_enter Tryz.func256,Tryz.ntmps256
 go_wp2_with fail
 go_loopw [8] (fun vi wr=>∃ (k:Nat) (S:List Wt),vi= .int .i64 (a+k:Nat)∧1≤k∧(k≤X.length∨k=1)∧S.Perm (X.take k)∧S.Pairwise ltT∧SW w B g n cap (P++S++X.drop k++R) wr) (fun vi _=>b+1 - (intOf vi).toNat)
 case atStart=>exact ⟨1,X.take 1,by go_num,Nat.le_refl _,Or.inr rfl,List.Perm.refl _,(by rcases X with _|⟨x,X⟩<;>simp),HS0.out⟩
 case round=>
  obtain ⟨k,S,rfl,hk1,hkx,hpm,hpw,hsw⟩:=hrel;have HPW:=aA hpw;have HSW:=aA hsw;have HPE:=aA hpm;clear hpm hpw hsw;obtain ⟨i,hi⟩:∃ i,i=a+k:=⟨_,rfl⟩;rw [←hi];have HI:=aA hi;clear hi
  by_cases hlt:k<X.length
  · have hib:(i:Int)<(b:Int):=by have:=HXL.out;have:=HI.out;omega
    have HDR:Hid (X.drop k=X[k]::X.drop (k+1)):=List.drop_eq_getElem_cons hlt;have HTK:Hid (X.take (k+1)=X.take k++[X[k]]):=List.take_succ_eq_append_getElem hlt
    have HTX:Hid (∀ y ∈ S,y.tg<X[k].tg):=fun y hy=>by
     obtain ⟨j,hj,rfl⟩:=List.getElem_of_mem (HPE.out.mem_iff.1 hy);rw [List.length_take] at hj;rw [List.getElem_take];exact List.pairwise_iff_getElem.1 HTG.out j k (by omega) hlt (by omega)
    have hSl:S.length=k:=by rw [HPE.out.length_eq,List.length_take];omega
    have HSL:=aA hSl;clear hSl;obtain ⟨x,hx⟩:∃ x,x=X[k]:=⟨_,rfl⟩;rw [←hx] at HDR HTK HTX;clear hx
    have HPM:Hid (∀ S1 S2,S=S1++S2→(S1++x::S2).Perm (X.take (k+1))):=fun S1 S2 e=>by
     rw [HTK.out];refine List.perm_middle.trans ?_;rw [←e];exact ((HPE.out.cons x).trans (List.perm_append_singleton x (X.take k)).symm)
    rw [HDR.out] at HSW
    have HSTART:Hid (SW w B g n cap (P++S++x::([]++X.drop (k+1)++R)) wr):=by
     have e:=HSW.out;unfold Hid
     simpa using e
    clear HSW HPE HTK
    go_wp2_with fail
    go_loopw [9] (fun vj wq=>∃ (j:Nat) (S1 S2:List Wt),vj= .int .i64 j∧j=a+S1.length∧S=S1++S2∧(∀ y ∈ S2,ltT x y)∧SW w B g n cap (P++S1++x::(S2++X.drop (k+1)++R)) wq) (fun vj _=>(intOf vj).toNat)
    case atStart=>exact ⟨i,S,[],rfl,by have:=HSL.out;have:=HI.out;omega,by simp,fun y hy=>(by cases hy),HSTART.out⟩
    case round=>
     obtain ⟨j,S1,S2,rfl,hj,hs,hl2,hsw⟩:=hrel;have HSW:=aA hsw;have HS:=aA hs;have HL2:=aA hl2;clear hsw hs hl2
     rcases Classical.em (S1=[]) with rfl|hne
     · obtain rfl:j=a:=by simpa using hj
       clear hj;have hd0:decide ((j:Int)<(j:Int))=false:=decide_eq_false (by omega);have hd1:¬ (j:Int)<(j:Int):=by omega
       have HFIN:Hid (SW w B g n cap (P++([]++x::S2)++X.drop (k+1)++R) wr):=by
        have e:=HSW.out;unfold Hid
        simpa using e
       go_wp2_with fail
       go_quiet (fail)
       go_wp2_with fail
       exact ⟨⟨k+1,[]++x::S2,(by have:=HI.out;go_num),by omega,by omega,HPM.out _ _ HS.out,cK (HS.out ▸ HPW.out) HL2.out (Or.inl rfl),cN _ _ _ _ _ _ _ _ HFIN.out (Go.Proofs.YtbhpfedjilkelaaGreatDoor.Below.drewN (Below.refl _ _) _)⟩,by have:=HI.out;simp [intOf];omega⟩
     · obtain ⟨S0,y,rfl⟩:=oA hne
       clear hne;rw [List.length_append,List.length_singleton] at hj;obtain ⟨q,hq⟩:∃ q,q=a+S0.length:=⟨_,rfl⟩;have hjq:j=q+1:=by omega
       have hSS:S0.length+1≤k:=by have e:=congrArg List.length HS.out;have:=HSL.out;simp at e;omega
       have hjn:j<n:=by have:=HXL.out;omega
       have HIX:Hid ((P++(S0++[y])++x::(S2++X.drop (k+1)++R))[j]? =some x∧(P++(S0++[y])++x::(S2++X.drop (k+1)++R))[q]? =some y):=by
        have hpl:=HPA.out
        constructor
        · rw [List.getElem?_append_right (by simp;omega)]
          have e:j - (P++(S0++[y])).length=0:=by simp;omega
          rw [e];rfl
        · rw [List.getElem?_append_left (by simp;omega),List.getElem?_append_right (by omega),List.getElem?_append_right (by omega)]
          have e:q - P.length - S0.length=0:=by omega
          rw [e];rfl
       obtain ⟨c0,c1,c2⟩:=HSW.out.1.cells HIX.out.1;obtain ⟨e0,e1,e2⟩:=HSW.out.1.cells HIX.out.2;have hgw:=HSW.out.1.lt.2;obtain ⟨r,hr,hcm⟩:=dJ x y;have HCM:=aA hcm;have HTY:Hid (y.tg<x.tg):=HTX.out y (by rw [HS.out];simp);have hd1:(a:Int)<(j:Int):=by omega
       have hwr1:IntKind.i64.wrap ((j:Int) - 1)=(j:Int) - 1:=by simp [IntKind.wrap,IntKind.bits,IntKind.signed];omega
       have hwr2:wrap64 ((j:Int) - 1)=(j:Int) - 1:=by unfold wrap64;omega
       have hj0:(0:Int)≤(j:Int) - 1:=by omega
       have hj1:(j:Int) - 1<(n:Int):=by omega
       have hj2:((j:Int) - 1).toNat=q:=by omega
       have hj3:¬ (j:Int) - 1<0:=by omega
       have hq1:(1:Int)≤(j:Int):=by omega
       have hq3:(j:Int)≤(n:Int):=by omega
       have hq4:(j:Int)<(n:Int)+1:=by omega
       have hq5:(j:Int)<(n:Int):=by omega
       have HK:Hid (KeepP fun w1=>SW w B g n cap (P++(S0++[y])++x::(S2++X.drop (k+1)++R)) w1∧Sc.aG w1 g (j*3) (.string x.nm)∧Sc.aG w1 g (j*3+1) (.int .i64 x.kd)∧Sc.aG w1 g (j*3+2) (.slice x.ad x.ln x.cp)∧Sc.aG w1 g (q*3) (.string y.nm)∧Sc.aG w1 g (q*3+1) (.int .i64 y.kd)∧Sc.aG w1 g (q*3+2) (.slice y.ad y.ln y.cp)):=KeepP.and (cN _ _ _ _ _ _) (KeepP.and (aK _ _ _) (KeepP.and (aK _ _ _) (KeepP.and (aK _ _ _) (KeepP.and (aK _ _ _) (KeepP.and (aK _ _ _) (aK _ _ _))))));have HO:Hid (SW w B g n cap (P++(S0++[y])++x::(S2++X.drop (k+1)++R)) wr∧Sc.aG wr g (j*3) (.string x.nm)∧Sc.aG wr g (j*3+1) (.int .i64 x.kd)∧Sc.aG wr g (j*3+2) (.slice x.ad x.ln x.cp)∧Sc.aG wr g (q*3) (.string y.nm)∧Sc.aG wr g (q*3+1) (.int .i64 y.kd)∧Sc.aG wr g (q*3+2) (.slice y.ad y.ln y.cp)):=⟨HSW.out,⟨c0,hgw⟩,⟨c1,hgw⟩,⟨c2,hgw⟩,⟨e0,hgw⟩,⟨e1,hgw⟩,⟨e2,hgw⟩⟩;have HJ:Hid (j=q+1∧q=a+S0.length):=⟨hjq,hq⟩
       clear hcm c0 c1 c2 e0 e1 e2 hgw HSW hjq hq hj
       by_cases hc:r<0
       · have HLT:Hid (ltT x y):=Or.inl (hr.1 hc)
         clear hr
         go_wp2_with fail
         refine bE HK (by kernel_rfl) (by kernel_rfl) (by first|exact HO.out|exact HK.out.drew HO.out) ?_;intro C HIN HOUT;clear HO
         repeat
          (with_reducible refine wpQuiet_step (fun K hK=> ?_)
           go_simp
           first
            |(refine hK _ ?_;clear hK K)
            |(apply Exists.intro;refine ⟨fun w1 hC=> ?_,hK _ ?_⟩;(focus ((first|(go_at_call 242;with_reducible exact bO HIN HOUT HK HCM.out w1 hC)|(exact rfl)|(obtain ⟨hsw,⟨c0,hgw⟩,⟨c1,_⟩,⟨c2,_⟩,⟨e0,_⟩,⟨e1,_⟩,⟨e2,_⟩⟩:=HOUT.out w1 hC;clear hC;go_simp;first|done|exact rfl));done));clear hK K))
         refine wpQuiet_nil ?_;intro w10 hC;have HO:=aA (HOUT.out _ hC);clear hC HIN HOUT C;obtain ⟨hsw,⟨c0,hgw⟩,⟨c1,_⟩,⟨c2,_⟩,⟨e0,_⟩,⟨e1,_⟩,⟨e2,_⟩⟩:=HO.out;have HSW:=aA hsw;have hfr:=fun i=>World.ownsRow.frozenAt HSW.out.1.2 i
         clear hsw HO HK
         have HFIN:Hid (SW w B g n cap (P++S0++x::((y::S2)++X.drop (k+1)++R)) ((((((w10.setCell ⟨g,j*3,none⟩ (.string y.nm)).setCell ⟨g,j*3+1,none⟩ (.int .i64 y.kd)).setCell ⟨g,j*3+2,none⟩ (.slice y.ad y.ln y.cp)).setCell ⟨g,q*3,none⟩ (.string x.nm)).setCell ⟨g,q*3+1,none⟩ (.int .i64 x.kd)).setCell ⟨g,q*3+2,none⟩ (.slice x.ad x.ln x.cp)).drew):=by
          have e:=HSW.out.put (i:=j) (j:=q) (x:=x) (y:=y) hjn (by have:=HJ.out;omega)
          have e2:(((P++(S0++[y])++x::(S2++X.drop (k+1)++R)).set j y).set q x)=P++S0++x::((y::S2)++X.drop (k+1)++R):=by
           have hpl:=HPA.out;have e3:=iB (P++S0) (S2++X.drop (k+1)++R) x y;rw [show (P++S0).length=q by rw [List.length_append];have:=HJ.out;omega,←HJ.out.1] at e3
           simpa using e3
          rw [e2] at e;exact cN _ _ _ _ _ _ _ _ e (Below.refl _ _).drew
         go_wp2_with fail
         go_region
         clear c0 c1 c2 e0 e1 e2 hfr;generalize ((((((w10.setCell ⟨g,j*3,none⟩ (.string y.nm)).setCell ⟨g,j*3+1,none⟩ (.int .i64 y.kd)).setCell ⟨g,j*3+2,none⟩ (.slice y.ad y.ln y.cp)).setCell ⟨g,q*3,none⟩ (.string x.nm)).setCell ⟨g,q*3+1,none⟩ (.int .i64 x.kd)).setCell ⟨g,q*3+2,none⟩ (.slice x.ad x.ln x.cp)).drew=w11 at*
         go_wp2_with fail
         exact ⟨⟨q,S0,y::S2,by go_num,HJ.out.2,by rw [HS.out];simp,(fun z hz=>by rcases List.mem_cons.1 hz with rfl|hz;exact HLT.out;exact HL2.out z hz),HFIN.out⟩,by simp [intOf];omega⟩
       · have HLT:Hid (ltT y x):=fM (Bool.eq_false_iff.2 fun e=>hc (hr.2 e)) HTY.out
         clear hr
         go_wp2_with fail
         refine bE HK (by kernel_rfl) (by kernel_rfl) (by first|exact HO.out|exact HK.out.drew HO.out) ?_;intro C HIN HOUT;clear HO
         repeat
          (with_reducible refine wpQuiet_step (fun K hK=> ?_)
           go_simp
           first
            |(refine hK _ ?_;clear hK K)
            |(apply Exists.intro;refine ⟨fun w1 hC=> ?_,hK _ ?_⟩;(focus ((first|(go_at_call 242;with_reducible exact bO HIN HOUT HK HCM.out w1 hC)|(exact rfl)|(obtain ⟨hsw,⟨c0,hgw⟩,⟨c1,_⟩,⟨c2,_⟩,⟨e0,_⟩,⟨e1,_⟩,⟨e2,_⟩⟩:=HOUT.out w1 hC;clear hC;go_simp;first|done|exact rfl));done));clear hK K))
         refine wpQuiet_nil ?_;intro w10 hC;have HO:=aA (HOUT.out _ hC);clear hC HIN HOUT C;obtain ⟨hsw,⟨c0,hgw⟩,⟨c1,_⟩,⟨c2,_⟩,⟨e0,_⟩,⟨e1,_⟩,⟨e2,_⟩⟩:=HO.out
         have HFIN:Hid (SW w B g n cap (P++((S0++[y])++x::S2)++X.drop (k+1)++R) w10):=by
          unfold Hid
          simpa using hsw
         clear hsw HO HK c0 c1 c2 e0 e1 e2
         go_wp2_with fail
         exact ⟨⟨k+1,(S0++[y])++x::S2,(by have:=HI.out;go_num),by omega,by omega,HPM.out _ _ HS.out,cK (HS.out ▸ HPW.out) HL2.out (Or.inr ⟨S0,y,rfl,HLT.out⟩),HFIN.out⟩,by simp [intOf];omega⟩
  · have hib:¬ (i:Int)<(b:Int):=by have:=HXL.out;have:=HI.out;omega
    have HEND:Hid (S.Perm X∧SW w B g n cap (P++S++R) wr):=by
     have e1:=HPE.out;have e2:=HSW.out;rw [List.take_of_length_le (by omega)] at e1;rw [List.drop_eq_nil_of_le (by omega),List.append_nil] at e2;exact ⟨e1,e2⟩
    go_wp2_with fail
    go_end0
    exact ⟨rfl,S,HEND.out.1,HPW.out,by simpa using HEND.out.2⟩
theorem sG {α:Type} (A M Z:List α) (u v:α):((A++u::(M++v::Z)).set A.length v).set (A.length+1+M.length) u=A++v::(M++u::Z):=by
 rw [List.set_append_right _ _ (Nat.le_refl _),Nat.sub_self,List.set_cons_zero,List.set_append_right _ _ (by omega)];have e:A.length+1+M.length - A.length=M.length+1:=by omega
 rw [e,List.set_cons_succ,List.set_append_right _ _ (Nat.le_refl _),Nat.sub_self,List.set_cons_zero]
theorem gJ {a i p n:Nat} (h:p=a+i) (hp:p<n) (hn:n≤1000000000):IntKind.i64.wrap ((a:Int)+(i:Int))=(a:Int)+(i:Int)∧wrap64 ((a:Int)+(i:Int))=(a:Int)+(i:Int)∧(0:Int)≤(a:Int)+(i:Int)∧(a:Int)+(i:Int)<(n:Int)∧((a:Int)+(i:Int)).toNat=p∧¬ (a:Int)+(i:Int)<0:=by
 refine ⟨?_,?_,?_,?_,?_,?_⟩
 · simp [IntKind.wrap,IntKind.bits,IntKind.signed];omega
 · unfold wrap64;omega
 all_goals omega
theorem wE {p s:Nat} (h:p<s):¬ p*3=s*3∧¬ s*3=p*3∧¬ p*3=s*3+1∧¬ s*3=p*3+1∧¬ p*3=s*3+2∧¬ s*3=p*3+2∧¬ p*3+1=s*3∧¬ s*3+1=p*3∧¬ p*3+1=s*3+1∧¬ s*3+1=p*3+1∧¬ p*3+1=s*3+2∧¬ s*3+1=p*3+2∧¬ p*3+2=s*3∧¬ s*3+2=p*3∧¬ p*3+2=s*3+1∧¬ s*3+2=p*3+1∧¬ p*3+2=s*3+2∧¬ s*3+2=p*3+2:=by omega
def eN (P U Q V R:List Wt) (i:Nat):List Wt:=P++V.take i++U.drop i++Q++U.take i++V.drop i++R
theorem pW (P U Q V R:List Wt):eN P U Q V R 0=P++U++Q++V++R:=by simp [eN]
theorem sH (P U Q V R:List Wt) {c:Nat} (hu:U.length=c) (hv:V.length=c):eN P U Q V R c=P++V++Q++U++R:=by
 unfold eN;rw [List.take_of_length_le (by omega),List.drop_eq_nil_of_le (by omega),List.take_of_length_le (by omega),List.drop_eq_nil_of_le (by omega)]
 simp
theorem uJ {P U Q V R:List Wt} {i c:Nat} (hu:U.length=c) (hv:V.length=c) (hi:i<c):eN P U Q V R i=(P++V.take i)++U[i]::((U.drop (i+1)++Q++U.take i)++V[i]::(V.drop (i+1)++R))∧eN P U Q V R (i+1)=(P++V.take i)++V[i]::((U.drop (i+1)++Q++U.take i)++U[i]::(V.drop (i+1)++R)):=by
 unfold eN;rw [List.drop_eq_getElem_cons (show i<U.length by omega),List.drop_eq_getElem_cons (show i<V.length by omega),List.take_succ_eq_append_getElem (show i<U.length by omega),List.take_succ_eq_append_getElem (show i<V.length by omega)]
 constructor<;>simp only [List.append_assoc,List.cons_append,List.nil_append]
set_option maxHeartbeats 12800000 in
theorem gY {w:World} {B g n cap a b c:Nat} {P U Q V R:List Wt} (hn:n≤1000000000) (ha:P.length=a) (hb:a+U.length+Q.length=b) (hu:U.length=c) (hv:V.length=c) (h:RowW w B g n cap (P++U++Q++V++R)):
 Calls Tryz.prog 266 #[.slice (some ⟨g,0,none⟩) n cap,.int .i64 a,.int .i64 b,.int .i64 c,.func (.func 242) #[] #[]] w fun e w'=>e= .returned (.tuple #[])∧SW w B g n cap (P++V++Q++U++R) w':=by
 have HLN:Hid (b+c≤n∧a+c≤b):=by
  have e:=h.1;simp only [List.length_append] at e;exact ⟨by omega,by omega⟩
 have hcn:c≤n:=by have:=HLN.out;omega
 have HS0:Hid (SW w B g n cap (eN P U Q V R 0) w):=⟨by rw [pW];exact h,⟨rfl,rfl,rfl,Nat.le_refl _,fun _ _ _=>rfl⟩⟩;have HEND:Hid (∀ wx,SW w B g n cap (eN P U Q V R c) wx→SW w B g n cap (P++V++Q++U++R) wx):=fun wx hx=>by rw [sH P U Q V R hu hv] at hx;exact hx
 generalize hG:SW w B g n cap (P++V++Q++U++R)=G at*
 have HST:Hid (∀ i (hi:i<c),∃ u v,(eN P U Q V R i)[a+i]? =some u∧(eN P U Q V R i)[b+i]? =some v∧((eN P U Q V R i).set (a+i) v).set (b+i) u=eN P U Q V R (i+1)):=fun i hi=>by
  obtain ⟨e1,e2⟩:=uJ (P:=P) (Q:=Q) (R:=R) hu hv hi;refine ⟨U[i],V[i],?_,?_,?_⟩
  · rw [e1,List.getElem?_append_right (by simp;omega)]
    have e:a+i - (P++V.take i).length=0:=by simp;omega
    rw [e];rfl
  · rw [e1,List.getElem?_append_right (by simp;omega)]
    have e:b+i - (P++V.take i).length=(U.drop (i+1)++Q++U.take i).length+1:=by simp;omega
    rw [e,List.getElem?_cons_succ,List.getElem?_append_right (Nat.le_refl _),Nat.sub_self];rfl
  · rw [e1,e2]
    have e3:=sG (P++V.take i) (U.drop (i+1)++Q++U.take i) (V.drop (i+1)++R) U[i] V[i];rw [show (P++V.take i).length=a+i by simp;omega,show a+i+1+(U.drop (i+1)++Q++U.take i).length=b+i by simp;omega] at e3;exact e3
 clear h hG ha hb hu hv;generalize eN P U Q V R=mid at*
 go_enter Tryz.func266,Tryz.ntmps266
 go_wp2_with fail
 go_loopw [10] (fun vi wr=>∃ i:Nat,i≤c∧vi= .int .i64 i∧SW w B g n cap (mid i) wr) (fun vi _=>c - (intOf vi).toNat)
 case atStart=>exact ⟨0,Nat.zero_le _,rfl,HS0.out⟩
 case round=>
  obtain ⟨i,hi,rfl,hsw⟩:=hrel;have HSW:=aA hsw;clear hsw
  by_cases hlt:i<c
  · have hic:(i:Int)<(c:Int):=by omega
    obtain ⟨u,v,hu1,hv1,hst⟩:=HST.out i hlt;obtain ⟨p,hp⟩:∃ p,p=a+i:=⟨_,rfl⟩;obtain ⟨s,hs⟩:∃ s,s=b+i:=⟨_,rfl⟩;rw [←hp] at hu1 hst;rw [←hs] at hv1 hst;have HNp:Hid (p=a+i∧p<n):=⟨hp,by have:=HLN.out;omega⟩;have HNs:Hid (s=b+i∧s<n):=⟨hs,by have:=HLN.out;omega⟩;have HPS:Hid (p<s):=(by have:=HNp.out;have:=HNs.out;have:=HLN.out;show p<s;omega);obtain ⟨c0,c1,c2⟩:=HSW.out.1.cells hu1;obtain ⟨e0,e1,e2⟩:=HSW.out.1.cells hv1;have hfr:=fun i=>World.ownsRow.frozenAt HSW.out.1.2 i
    clear hp hs hu1 hv1;obtain ⟨hp1,hp2,hp3,hp4,hp5,hp6⟩:=gJ HNp.out.1 HNp.out.2 hn;obtain ⟨hs1,hs2,hs3,hs4,hs5,hs6⟩:=gJ HNs.out.1 HNs.out.2 hn
    have HFIN:Hid (SW w B g n cap (mid (i+1)) ((((((wr.setCell ⟨g,p*3,none⟩ (.string v.nm)).setCell ⟨g,p*3+1,none⟩ (.int .i64 v.kd)).setCell ⟨g,p*3+2,none⟩ (.slice v.ad v.ln v.cp)).setCell ⟨g,s*3,none⟩ (.string u.nm)).setCell ⟨g,s*3+1,none⟩ (.int .i64 u.kd)).setCell ⟨g,s*3+2,none⟩ (.slice u.ad u.ln u.cp)).drew):=by
     have e:=HSW.out.put (i:=p) (j:=s) (x:=u) (y:=v) HNp.out.2 HNs.out.2;rw [hst] at e;exact cN _ _ _ _ _ _ _ _ e (Below.refl _ _).drew
    clear hst;have hps:p<s:=HPS.out;obtain ⟨hd00,he00,hd01,he01,hd02,he02,hd10,he10,hd11,he11,hd12,he12,hd20,he20,hd21,he21,hd22,he22⟩:=wE hps
    go_wp2_with fail
    go_region
    clear hp1 hp2 hp3 hp4 hp5 hp6 hs1 hs2 hs3 hs4 hs5 hs6 hps c0 c1 c2 e0 e1 e2 hfr hd00 he00 hd01 he01 hd02 he02 hd10 he10 hd11 he11 hd12 he12 hd20 he20 hd21 he21 hd22 he22;generalize ((((((wr.setCell ⟨g,p*3,none⟩ (.string v.nm)).setCell ⟨g,p*3+1,none⟩ (.int .i64 v.kd)).setCell ⟨g,p*3+2,none⟩ (.slice v.ad v.ln v.cp)).setCell ⟨g,s*3,none⟩ (.string u.nm)).setCell ⟨g,s*3+1,none⟩ (.int .i64 u.kd)).setCell ⟨g,s*3+2,none⟩ (.slice u.ad u.ln u.cp)).drew=w11 at*
    go_wp2_with fail
    exact ⟨⟨i+1,by omega,by go_num,HFIN.out⟩,by simp [intOf];omega⟩
  · obtain rfl:i=c:=by omega
    have hic:¬ (i:Int)<(i:Int):=by omega
    go_wp2_with fail
    go_end0
    exact ⟨rfl,HEND.out _ HSW.out⟩
theorem aP {a i:Nat} (h:i≤a) (hn:a≤2000000000):IntKind.i64.wrap ((a:Int) - (i:Int))=(a:Int) - (i:Int)∧wrap64 ((a:Int) - (i:Int))=(a:Int) - (i:Int):=by
 refine ⟨?_,?_⟩
 · simp [IntKind.wrap,IntKind.bits,IntKind.signed];omega
 · unfold wrap64;omega
theorem dK {x:Int} (h0:0≤x) (h1:x≤4000000000):IntKind.i64.wrap x=x∧wrap64 x=x:=by
 refine ⟨?_,?_⟩
 · simp [IntKind.wrap,IntKind.bits,IntKind.signed];omega
 · unfold wrap64;omega
theorem SW.then {w W w':World} {B g n cap:Nat} {xs ys:List Wt} (h:SW w B g n cap xs W) (h':SW W B g n cap ys w'):SW w B g n cap ys w':=⟨h'.1,h.2.trans h'.2⟩
theorem wT {w W:World} {B g n cap:Nat} {P U Q V R:List Wt} (hn:n≤1000000000) (ai bi ci:Int) (ha:ai=P.length) (hb:bi=(P.length+U.length+Q.length:Nat)) (hc:ci=U.length) (hv:V.length=U.length) (h:SW w B g n cap (P++U++Q++V++R) W):
 Calls Tryz.prog 266 #[.slice (some ⟨g,0,none⟩) n cap,.int .i64 ai,.int .i64 bi,.int .i64 ci,.func (.func 242) #[] #[]] W fun e w'=>e= .returned (.tuple #[])∧SW w B g n cap (P++V++Q++U++R) w':=by
 subst ha hb hc;exact (gY hn rfl rfl rfl hv h.1).mono fun e w' q=>⟨q.1,h.then q.2⟩
theorem sI {α:Type} (l:List α) {k:Nat} (h:k≤l.length):∃ a b,l=a++b∧a.length=k∧b.length=l.length - k:=⟨l.take k,l.drop k,(List.take_append_drop k l).symm,by rw [List.length_take];omega,List.length_drop⟩
set_option maxHeartbeats 12800000 in
theorem mV {w:World} {B g n cap a m b:Nat} {P X Y R:List Wt} (hn:n≤1000000000) (ha:P.length=a) (hm:a+X.length=m) (hb:m+Y.length=b) (hx:X≠[]) (hy:Y≠[]) (h:RowW w B g n cap (P++X++Y++R)):
 Calls Tryz.prog 263 #[.slice (some ⟨g,0,none⟩) n cap,.int .i64 a,.int .i64 m,.int .i64 b,.func (.func 242) #[] #[]] w fun e w'=>e= .returned (.tuple #[])∧SW w B g n cap (P++Y++X++R) w':=by
 have hbn:b≤n:=by
  have e:=h.1;simp only [List.length_append] at e;omega
 have hmb:m<b:=by have:=List.length_pos_iff.2 hy;omega
 have ham:a<m:=by have:=List.length_pos_iff.2 hx;omega
 have HS0:Hid (SW w B g n cap (P++[]++X++Y++[]++R) w):=⟨by simpa using h,⟨rfl,rfl,rfl,Nat.le_refl _,fun _ _ _=>rfl⟩⟩;have HLN:Hid (P.length=a∧X.length=m - a∧Y.length=b - m):=⟨ha,by omega,by omega⟩;have HSR:Hid (∀ (W:World) (P' U Q V R':List Wt) (ai bi ci:Int),ai=P'.length→bi=(P'.length+U.length+Q.length:Nat)→ci=U.length→V.length=U.length→SW w B g n cap (P'++U++Q++V++R') W→Calls Tryz.prog 266 #[.slice (some ⟨g,0,none⟩) n cap,.int .i64 ai,.int .i64 bi,.int .i64 ci,.func (.func 242) #[] #[]] W fun e w'=>e= .returned (.tuple #[])∧SW w B g n cap (P'++V++Q++U++R') w'):=fun W P' U Q V R' ai bi ci h1 h2 h3 h4 h5=>wT hn ai bi ci h1 h2 h3 h4 h5
 generalize hG:SW w B g n cap (P++Y++X++R)=G at*;have HG:=aA hG;clear h ha hm hb hx hy hG;have HK1:=aA (aP (a:=m) (i:=a) (by omega) (by omega));have HK3:=aA (aP (a:=b) (i:=m) (by omega) (by omega));obtain ⟨k1,k2⟩:=HK1.out;obtain ⟨k3,k4⟩:=HK3.out
 go_enter Tryz.func263,Tryz.ntmps263
 go_wp2_with fail
 clear k1 k2 k3 k4
 go_loopw [10,11] (fun vi vj wr=>∃ (i j:Nat) (C U V E:List Wt),vi= .int .i64 i∧vj= .int .i64 j∧(U.length=i∧V.length=j∧P.length+C.length+i=m∧m+j≤n)∧1≤i∧1≤j∧C++V++U++E=Y++X∧SW w B g n cap (P++C++U++V++E++R) wr) (fun vi vj _=>(intOf vi).toNat+(intOf vj).toNat)
 case atStart=>exact ⟨m - a,b - m,[],X,Y,[],by congr 1;omega,by congr 1;omega,⟨HLN.out.2.1,HLN.out.2.2,by have:=HLN.out.1;simp;omega,by omega⟩,by omega,by omega,by simp,HS0.out⟩
 case round=>
  obtain ⟨i,j,C,U,V,E,rfl,rfl,hln,hi1,hj1,heq,hsw⟩:=hrel;have HL:=aA hln;have HEQ:=aA heq;have HSW:=aA hsw;have him:i≤m:=by have:=hln.2.2.1;omega
  have hjn:m+j≤n:=hln.2.2.2;clear hln heq hsw;have HS1:=aA (aP (a:=m) (i:=i) (by omega) (by omega))
  by_cases hij:i=j
  · subst hij
    have hne:¬ (i:Int)≠(i:Int):=fun q=>q rfl
    have HC:Hid (Calls Tryz.prog 266 #[.slice (some ⟨g,0,none⟩) n cap,.int .i64 ((m:Int) - (i:Int)),.int .i64 m,.int .i64 i,.func (.func 242) #[] #[]] wr fun e w'=>e= .returned (.tuple #[])∧G w'):=by
     have hl:=HL.out;refine (HSR.out wr (P++C) U [] V (E++R) _ _ _ ?_ ?_ ?_ ?_ ?_).mono ?_
     · rw [List.length_append];omega
     · simp only [List.length_append,List.length_nil];omega
     · omega
     · omega
     · have e:=HSW.out
       simpa using e
     · rintro e w' ⟨h1,h2⟩
       refine ⟨h1,?_⟩;rw [←HG.out];have e:P++C++V++[]++U++(E++R)=P++(C++V++U++E)++R:=by simp
       rw [e,HEQ.out] at h2
       simpa using h2
    obtain ⟨s1,s2⟩:=HS1.out
    go_wp2_with (go_at_call 266;refine HC.out.mono ?_;rintro e w1 ⟨rfl,hg⟩;have HGF:=aA hg;clear hg)
    go_end0
    exact ⟨rfl,HGF.out⟩
  · have hne:(i:Int)≠(j:Int):=by omega
    by_cases hgt:j<i
    · have hgi:(j:Int)<(i:Int):=by omega
      obtain ⟨UA,UB,hU,hUA,hUB⟩:=sI U (k:=j) (by have:=HL.out;omega);have HT1:=aA (aP (a:=i) (i:=j) (by omega) (by omega))
      have HC:Hid (Calls Tryz.prog 266 #[.slice (some ⟨g,0,none⟩) n cap,.int .i64 ((m:Int) - (i:Int)),.int .i64 m,.int .i64 j,.func (.func 242) #[] #[]] wr fun e w'=>e= .returned (.tuple #[])∧SW w B g n cap (P++(C++V)++UB++UA++E++R) w'):=by
       have hl:=HL.out;refine (HSR.out wr (P++C) UA UB V (E++R) _ _ _ ?_ ?_ ?_ ?_ ?_).mono ?_
       · rw [List.length_append];omega
       · simp only [List.length_append];omega
       · omega
       · omega
       · have e:=HSW.out
         rw [hU] at e
         simpa using e
       · rintro e w' ⟨h1,h2⟩
         exact ⟨h1,by simpa using h2⟩
      have HNW:Hid ((UB.length=i - j∧UA.length=j∧P.length+(C++V).length+(i - j)=m∧m+j≤n)∧C++V++UA++UB++E=Y++X):=by
       have hl:=HL.out;refine ⟨⟨by omega,hUA,by rw [List.length_append];omega,by omega⟩,?_⟩;rw [←HEQ.out,hU]
       simp
      clear hU hUA hUB;obtain ⟨s1,s2⟩:=HS1.out;obtain ⟨t1,t2⟩:=HT1.out
      go_wp2_with (go_at_call 266;refine HC.out.mono ?_;rintro e w1 ⟨rfl,hg⟩;have HGF:=aA hg;clear hg)
      clear s1 s2 t1 t2;exact ⟨⟨i - j,j,C++V,UB,UA,E,by congr 1;omega,rfl,HNW.out.1,by omega,hj1,HNW.out.2,HGF.out⟩,by simp [intOf];omega⟩
    · have hgi:¬ (j:Int)<(i:Int):=by omega
      obtain ⟨VA,VB,hV,hVA,hVB⟩:=sI V (k:=j - i) (by have:=HL.out;omega);have HT1:=aA (aP (a:=j) (i:=i) (by omega) (by omega));have HT3:=aA (dK (x:=(m:Int)+(j:Int)) (by omega) (by omega));have HT5:=aA (dK (x:=(m:Int)+(j:Int) - (i:Int)) (by omega) (by omega))
      have HC:Hid (Calls Tryz.prog 266 #[.slice (some ⟨g,0,none⟩) n cap,.int .i64 ((m:Int) - (i:Int)),.int .i64 ((m:Int)+(j:Int) - (i:Int)),.int .i64 i,.func (.func 242) #[] #[]] wr fun e w'=>e= .returned (.tuple #[])∧SW w B g n cap (P++C++VB++VA++(U++E)++R) w'):=by
       have hl:=HL.out;refine (HSR.out wr (P++C) U VA VB (E++R) _ _ _ ?_ ?_ ?_ ?_ ?_).mono ?_
       · rw [List.length_append];omega
       · simp only [List.length_append];omega
       · omega
       · omega
       · have e:=HSW.out
         rw [hV] at e
         simpa using e
       · rintro e w' ⟨h1,h2⟩
         exact ⟨h1,by simpa using h2⟩
      have HNW:Hid ((VB.length=i∧VA.length=j - i∧P.length+C.length+i=m∧m+(j - i)≤n)∧C++VA++VB++(U++E)=Y++X):=by
       have hl:=HL.out;refine ⟨⟨by omega,hVA,by omega,by omega⟩,?_⟩;rw [←HEQ.out,hV]
       simp
      clear hV hVA hVB;obtain ⟨s1,s2⟩:=HS1.out;obtain ⟨t1,t2⟩:=HT1.out;obtain ⟨t3,t4⟩:=HT3.out;obtain ⟨t5,t6⟩:=HT5.out
      go_wp2_with (go_at_call 266;refine HC.out.mono ?_;rintro e w1 ⟨rfl,hg⟩;have HGF:=aA hg;clear hg)
      clear s1 s2 t1 t2 t3 t4 t5 t6;exact ⟨⟨i,j - i,C,VB,VA,U++E,rfl,by congr 1;omega,HNW.out.1,hi1,by omega,HNW.out.2,HGF.out⟩,by simp [intOf];omega⟩
end Go.Proofs.YtbhpfedjilkelaaGreatDoor
