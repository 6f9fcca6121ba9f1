/- Ib2, RwM, RwGr, RwTb, RwSt: their declarations that are needed, laid in one text, remarks and blanks left out. -/
import Derived.Test.YtmnhnofnlcbliaaGreatDoorMg32
namespace Go.Proofs.YtmnhnofnlcbliaaGreatDoor
open Go.RowKit
set_option maxRecDepth 100000
theorem Dc (w:World) (x:Fi):Do (w.alloc (.cells #[.string x.pa,.bool x.dr,.string x.da] 45)) (some ⟨w.heap.size,0,none⟩) [x]:=by
 refine Or.inr ⟨w.heap.size,0,rfl,fun j u hj=> ?_⟩;have e:([x]:List Fi).flatMap dY=[.string x.pa,.bool x.dr,.string x.da]:=rfl;rw [e] at hj;have hl:=(List.getElem?_eq_some_iff.1 hj).1;have ad:(⟨w.heap.size,0,none⟩:Addr).add j=⟨w.heap.size,j,none⟩:=by unfold Addr.add;split<;>simp_all
 rw [ad]
 match j,hl with
 |0,_=>rw [←hj];simp
 |1,_=>rw [←hj];simp
 |2,_=>rw [←hj];simp
def RvL (W:World) (fi:List Fi) (vt vi:Value) (wr:World):Prop:=∃ j a m c,j≤fi.length∧m=fi.length - j∧vi= .int .i64 ((j:Int) - 1)∧vt= .slice a m c∧OwnFi wr W.heap.size vt (fi.reverse.take m)∧Below W.heap.size W wr
theorem ZW {fi:List Fi} {k:Nat} (hk:k<fi.length):fi.reverse.take (fi.length - k)=fi.reverse.take (fi.length - (k+1))++[fi[k]]:=by
 have e:fi.length - k=(fi.length - (k+1))+1:=by omega
 have hl:fi.length - (k+1)<fi.reverse.length:=by rw [List.length_reverse];omega
 rw [e,List.take_succ_eq_append_getElem hl,List.getElem_reverse]
 congr 2
 have:fi.length - 1 - (fi.length - (k+1))=k:=by omega
 simp only [this]
theorem Dd {fi:List Fi} {m:Nat} (h:m≤fi.length):(fi.reverse.take m).length=m:=by rw [List.length_take,List.length_reverse];omega
theorem RB {P:Mn} {G:List Nd} {L:List Dr} {pr:Bool} (h:fW P G L=true):(dJ P G L pr).length≤772:=by
 unfold dJ
 split
 · have hk:=(iOk h).ok
   rw [(cM hk pr (aF P) (Lo.prT G)).2.2];have hl:=hk.len;have h1:(gN pr).length≤3:=by unfold gN;cases pr<;>simp
   have h2:((L.drop 1).flatMap (nT L)).length≤(L.drop 1).length*3:=by
    generalize L.drop 1=A
    induction A with
    |nil=>simp
    |cons d A ih=>
     rw [List.flatMap_cons,List.length_append,List.length_cons]
     have:(nT L d).length≤3:=by unfold nT;split<;>simp
     omega
   have h3:(if 1<L.length then [Ca.mod []] else []).length≤1:=by split<;>simp
   rw [wG,List.length_append,List.length_append];rw [List.length_drop] at h2;omega
 · simp
theorem xD {P:Mn} {G:List Nd} {L:List Dr} {pr:Bool} (h:fW P G L=true) {fs:List Fi} (hp:fs.Perm (dJ P G L pr)) {v:Value} {W:World} (hv:FlsAt W v fs) (he:Env W) (hf:FL W):Calls Tryz.prog 12 #[v] W fun e w'=>∃ sv,e= .returned (.tuple #[sv,.int .i64 0])∧StOwn w' W.heap.size sv P G L pr∧Below W.heap.size W w':=by
 have hsz:∀ x ∈ fs,x.pa.size≤8796093022208:=fun x hx=>by
  have hm:=hp.mem_iff.1 hx;have hf2:flF x ∈ Cr P G L pr:=List.mem_map.2 ⟨x,hm,rfl⟩
  rcases Cs (pr:=pr) h with ⟨e,_⟩|e
  · rw [e] at hf2
    cases hf2
  · rw [e] at hf2
    have:=ZI (UI (iOk h).ok hf2)
    have:x.pa.size≤4096:=this
    omega
 refine (UP hv (fun _=>hsz) he hf).mono ?_;rintro e w' ⟨sv,er,rfl,⟨r1,_,r3⟩,hb⟩;cases hem:fM P G L pr
 · have hff:dJ P G L pr=aQ (aF P) (Lo.prT G) pr L:=by unfold dJ;rw [if_pos ⟨h,hem⟩]
   have hne:fs≠[]:=fun q=>by
    rw [q] at hp
    have:=hp.length_eq
    rw [hff] at this;exact NJ (iOk h) (List.eq_nil_of_length_eq_zero this.symm)
   obtain ⟨us,⟨hpu,hsu⟩,hok,_⟩:=r3 hne (by rw [hp.length_eq];exact RB h)
   have hus:us=dJ P G L pr:=by
    rw [hff];obtain ⟨f0,f1,_⟩:=cM (iOk h).ok pr (aF P) (Lo.prT G);have hpu2:us.Perm (aQ (aF P) (Lo.prT G) pr L):=by rw [←hff];exact hpu.trans hp
    refine (RisF.of hsu ?_).uniq f0 fun x=>hpu2.mem_iff
    refine (hpu2.pairwise_iff (fun q e=>q e.symm)).2 (f0.imp fun {x y} q e=> ?_);rw [e,tL.irr] at q;omega
   subst hus;obtain ⟨e1,e2⟩:=hok (ZT h hem);obtain ⟨g1,g2,g3,g4⟩:=BF h hem;rw [g1,g2,g3,g4] at e2;exact ⟨sv,by rw [e1],e2,hb⟩
 · have hff:dJ P G L pr=[]:=by unfold dJ;rw [if_neg (by rw [hem];simp)]
   rw [hff] at hp;obtain ⟨e1,e2⟩:=r1 hp.eq_nil;obtain ⟨rfl,rfl,rfl,rfl⟩:=BB (iOk h) hem;exact ⟨sv,by rw [e1],e2,hb⟩
set_option maxHeartbeats 16000000 in
theorem xY {P:Mn} {G:List Nd} {L:List Dr} {x1 x2 x3 x4 xg xt:Value} {pr:Bool} {w:World} (hpm:MnAt w P x1 x2 x3 x4) (hpz:P.d.length≤9223372036854775807∧P.v.length≤9223372036854775807∧P.o.length≤9223372036854775807∧P.p.length≤9223372036854775807) (hpg:NodesAt w xg G) (hpt:DirsAt w xt L) (hpl:L.length≤9223372036854775807) (hpk:qB L) (hpo:CJ G) (he:Env w) (hf:FL w):
 Calls Tryz.prog 5 #[.agg #[x1,x2,x3,x4,xg,xt,.bool pr]] w fun e w'=>e= .returned (.bool true)∧Below w.heap.size w w':=by
 have HF1:Hid (∀ W,Below w.heap.size w W→Calls Tryz.prog 8 #[.agg #[x1,x2,x3,x4,xg,xt,.bool pr]] W (TY W (dJ P G L pr) (erI P G L))):=fun W hb=>nK (hpm.below hb) hpz (hpg.below hb) (hpt.below hb) hpl hpk hpo qT (he.below hb) (hf.below hb)
 have HLV:Hid (∀ W,Below w.heap.size w W→Calls Tryz.prog 11 #[] W fun e w'=>e= .returned (.bool true)∧Below W.heap.size W w'):=fun W hb=>KA (he.below hb) (hf.below hb)
 have HEQ:Hid (∀ W u v,FlsAt W u (dJ P G L pr)→FlsAt W v (dJ P G L pr)→Calls Tryz.prog 10 #[u,v] W fun e w'=>e= .returned (.bool true)∧Below W.heap.size W w'):=fun W u v h1 h2=>by
  have q:=NS h1 h2 (NY P G L pr);rw [aX rfl] at q;exact q
 have HRD:Hid (fW P G L=true→∀ W v,Below w.heap.size w W→FlsAt W v (dJ P G L pr).reverse→Calls Tryz.prog 12 #[v] W fun e w'=>∃ sv,e= .returned (.tuple #[sv,.int .i64 0])∧StOwn w' W.heap.size sv P G L pr∧Below W.heap.size W w'):=fun h W v hb hv=>xD h (List.reverse_perm _) hv (he.below hb) (hf.below hb)
 have HF2:Hid (fW P G L=true→∀ W B sv,Below w.heap.size w W→StOwn W B sv P G L pr→Calls Tryz.prog 8 #[sv] W (TY W (dJ P G L pr) 0)):=fun h W B sv hb hst=>by
  obtain ⟨b1,n1,d1,b2,n2,d2,b3,n3,d3,b4,n4,d4,bg,dg,bt,dt,rfl,h1,h2,h3⟩:=hst.lens;have q:=nK h1 hpz h2 h3 hpl hpk hpo qT (pr:=pr) (he.below hb) (hf.below hb);rw [NL.2 h] at q;exact q
 have HAL:Hid (fW P G L=true→∀ W u,Below w.heap.size w W→DirsAt W u L→Calls Tryz.prog 14 #[.agg #[u],.agg #[xt]] W fun e w'=>e= .returned (.bool true)∧Below W.heap.size W w'):=fun h W u hb hu=>by
  have q:=NW hu (hpt.below hb) (by have:=(iOk h).ok.len;omega) fun d hd=>⟨by have:=hpk.1 d hd;omega,hpk.2 d hd⟩
  rw [aX rfl] at q;exact q
 have HE1:Hid (fW P G L=true→erI P G L=0):=NL.2;have HN1:Hid (fW P G L=false→erI P G L=43∧dJ P G L pr=[]):=fun h=>by unfold erI dJ;rw [h];exact ⟨rfl,by simp⟩
 have HLN:Hid (fW P G L=true→(dJ P G L pr).length≤772):=RB;obtain ⟨a1,c1,rfl⟩:=hpm.1.sl;obtain ⟨a2,c2,rfl⟩:=hpm.2.1.sl;obtain ⟨a3,c3,rfl⟩:=hpm.2.2.1.sl;obtain ⟨a4,c4,rfl⟩:=hpm.2.2.2.sl;obtain ⟨at0,ct0,rfl,_⟩:=hpt.sl;obtain ⟨ag,cg,rfl⟩:∃ a c,xg= .slice a G.length c:=by obtain ⟨a,c,e,_⟩:=hpg;exact ⟨a,c,e⟩
 have HS0:Hid (StB (w.alloc (stO (.slice a1 P.d.length c1) (.slice a2 P.v.length c2) (.slice a3 P.o.length c3) (.slice a4 P.p.length c4) (.slice ag G.length cg) (.slice at0 L.length ct0) pr)) w.heap.size (.slice a1 P.d.length c1) (.slice a2 P.v.length c2) (.slice a3 P.o.length c3) (.slice a4 P.p.length c4) (.slice ag G.length cg) (.slice at0 L.length ct0) pr):=StB.new w (.slice a1 P.d.length c1) (.slice a2 P.v.length c2) (.slice a3 P.o.length c3) (.slice a4 P.p.length c4) (.slice ag G.length cg) (.slice at0 L.length ct0) pr;have HB0:Hid (Below w.heap.size w (w.alloc (stO (.slice a1 P.d.length c1) (.slice a2 P.v.length c2) (.slice a3 P.o.length c3) (.slice a4 P.p.length c4) (.slice ag G.length cg) (.slice at0 L.length ct0) pr))):=aC _ _;obtain ⟨⟨⟨s0,s1,s2,s3⟩,s4,s5,s6⟩,_⟩:=HS0.out;clear hpm hpz hpg hpt hpl hpk hpo he hf;generalize dJ P G L pr=fi at*;generalize erI P G L=er at*
 cases hmx:fW P G L
 · obtain ⟨rfl,rfl⟩:=HN1.out hmx
   clear HN1 HE1 HRD HF2 HAL HLN HEQ hmx
   go_enter Tryz.func5,Tryz.ntmps5
   go_wp2_with (first
    |(have _t:=HB1;go_at_call 11;refine (HLV.out _ HB1.out).mono ?_;rintro e W2 ⟨rfl,ok⟩;have HB2:=aB (aA HB1.out ok);clear ok)
    |(have _t:=HS0;go_at_call 8;refine (HF1.out _ HB0.out).mono ?_;rintro e W1 ⟨v1,rfl,ho1,ok⟩;obtain ⟨b1,k1,q1⟩:=ho1.form;rw [List.length_nil] at q1;subst q1;have HB1:=aB (aA HB0.out ok);clear ho1 ok s0 s1 s2 s3 s4 s5 s6 HS0))
   go_ret;exact ⟨rfl,HB2.out⟩
 · obtain rfl:=HE1.out hmx
   have HRD:=aB (HRD.out hmx);have HF2:=aB (HF2.out hmx);have HAL:=aB (HAL.out hmx);have hln:=HLN.out hmx;clear HN1 HE1 HLN hmx
   go_enter Tryz.func5,Tryz.ntmps5
   obtain ⟨m1,hm1⟩:∃ n,n=fi.length:=⟨_,rfl⟩;have hm2:m1≤772:=by omega
   have HM:=aB hm1;clear hm1 hln
   go_wp2_with (have _t:=HS0;go_at_call 8;refine (HF1.out _ HB0.out).mono ?_;rintro e W1 ⟨v1,rfl,ho1,ok⟩;obtain ⟨b1,k1,q1⟩:=ho1.form;have HV1:=aB ho1.at;rw [←HM.out] at q1;subst q1;have HB1:=aB (aA HB0.out ok);have HS1:=aB (HS0.out.keep ok);clear ho1 s0 s1 s2 s3 s4 s5 s6 HS0;obtain ⟨⟨⟨s0,s1,s2,s3⟩,s4,s5,s6⟩,_⟩:=HS1.out;clear ok)
   have HFS:Hid (∀ k (hk:k<fi.length),∃ g o,b1=some ⟨g,o,none⟩∧xM W1 g (o+k*3) fi[k]):=by
    obtain ⟨fa,fc,ef,_,hfs⟩:=HV1.out;injection ef with ef1 ef2 ef3
    rw [ef1];exact hfs
   clear s0 s1 s2 s3 s4 s5 s6 HF1
   go_loopw [5,6] (fun vt vi wr=>RvL W1 fi vt vi wr) (fun _ vi _=>(intOf vi+1).toNat)
   case atStart=>exact ⟨m1,none,0,0,by rw [HM.out];exact Nat.le_refl _,by have:=HM.out;omega,by go_num,rfl,OwnFi.nil _ _,Below.refl _ _⟩
   case round=>
    obtain ⟨j,ta,tm,tc,hj,htm,hvi,rfl,hown,hbr⟩:=hrel;have HOW:=aB hown;have HBR:=aB hbr;have hBr:W1.heap.size≤wr.heap.size:=hbr.size
    rcases j with _|k
    · have hv:=hvi.trans (show Value.int .i64 (((0:Nat):Int) - 1)= .int .i64 (-1) from rfl)
      subst hv
      have HTT:Hid (FlsAt wr (.slice ta tm tc) fi.reverse):=by
       have q:=HOW.out;rw [htm,Nat.sub_zero,←List.length_reverse,List.take_length] at q;rw [htm,Nat.sub_zero,←List.length_reverse];exact q.at
      have HB2:=aB (aA HB1.out hbr);have HS2:=aB (HS1.out.keep hbr);have HV2:=aB (HV1.out.below hbr);clear hvi htm hown hbr HOW HBR HV1 HS1
      go_upto_region 10 with (go_at_call 12;refine (HRD.out _ _ HB2.out HTT.out).mono ?_;rintro e W3 ⟨sv,rfl,hst,ok⟩;obtain ⟨ra1,rn1,rc1,ra2,rn2,rc2,ra3,rn3,rc3,ra4,rn4,rc4,rg,rcg,rt,rct,rfl,_,_,hrt⟩:=hst.lens;have HST:=aB hst;have HRT:=aB hrt;have HB3:=aB (aA HB2.out ok);have HS3:=aB (HS2.out.keep ok);have HV3:=aB (HV2.out.below ok);clear hst hrt ok HS2 HV2 HTT)
      obtain ⟨U3,hU3⟩:∃ U,U=W3.alloc (.cells #[.slice ra1 rn1 rc1,.slice ra2 rn2 rc2,.slice ra3 rn3 rc3,.slice ra4 rn4 rc4,.slice rg G.length rcg,.slice rt L.length rct,.bool pr] 32):=⟨_,rfl⟩;have hbu:Below W3.heap.size W3 U3:=by rw [hU3];exact aC _ _
      have HBU:=aB (aA HB3.out hbu);have HNU:Hid (U3.heap[W3.heap.size]? =some (.cells #[.slice ra1 rn1 rc1,.slice ra2 rn2 rc2,.slice ra3 rn3 rc3,.slice ra4 rn4 rc4,.slice rg G.length rcg,.slice rt L.length rct,.bool pr] 32)):=by rw [hU3];exact World.alloc_heap_new W3 _
      have HSU:=aB (HS3.out.keep hbu);have HVU:=aB (HV3.out.below hbu);have HTU:=aB (HRT.out.below hbu);have HSO:=aB (HST.out.below hbu);rw [←hU3];clear hU3 hbu HS3 HV3 HRT HST
      have hcell:∀ W,Below U3.heap.size U3 W→(W.cell? ⟨W3.heap.size,0,none⟩=some (.slice ra1 rn1 rc1)∧W.cell? ⟨W3.heap.size,1,none⟩=some (.slice ra2 rn2 rc2)∧W.cell? ⟨W3.heap.size,2,none⟩=some (.slice ra3 rn3 rc3)∧W.cell? ⟨W3.heap.size,3,none⟩=some (.slice ra4 rn4 rc4)∧W.cell? ⟨W3.heap.size,4,none⟩=some (.slice rg G.length rcg)∧W.cell? ⟨W3.heap.size,5,none⟩=some (.slice rt L.length rct)∧W.cell? ⟨W3.heap.size,6,none⟩=some (.bool pr)):=fun W hb=>by
       have q:=(hb.block _ (aY HNU.out)).trans HNU.out;refine ⟨?_,?_,?_,?_,?_,?_,?_⟩<;>rw [Lib.cell_of_heap q]<;>rfl
      have HCL:=aB hcell;clear hcell;obtain ⟨r0,r1,r2,r3,r4,r5,r6⟩:=HCL.out U3 (Below.refl _ _);obtain ⟨⟨⟨s0,s1,s2,s3⟩,s4,s5,s6⟩,_⟩:=HSU.out
      go_wp2_with (first
       |(have _t:=HB6;go_at_call 11;refine (HLV.out _ HB6.out).mono ?_;rintro e W7 ⟨rfl,ok⟩;have HB7:=aB (aA HB6.out ok);clear ok HB6)
       |(have _t:=HV5;go_at_call 14;refine (HAL.out _ _ HB5.out HT5.out).mono ?_;rintro e W6 ⟨rfl,ok⟩;have HB6:=aB (aA HB5.out ok);have hu:=aA HU5.out ok;clear s0 s1 s2 s3 s4 s5 s6 r0 r1 r2 r3 r4 r5 r6;obtain ⟨r0,r1,r2,r3,r4,r5,r6⟩:=HCL.out _ hu;obtain ⟨⟨⟨s0,s1,s2,s3⟩,s4,s5,s6⟩,sl⟩:=HSU.out.keep hu;clear ok hu HV5)
       |(have _t:=HV4;go_at_call 10;refine (HEQ.out _ _ _ HA4.out HV4.out).mono ?_;rintro e W5 ⟨rfl,ok⟩;have HB5:=aB (aA HB4.out ok);have HU5:=aB (aA HU4.out ok);have HV5:=aB trivial;have HT5:=aB (HTU.out.below HU5.out);clear s0 s1 s2 s3 s4 s5 s6 r0 r1 r2 r3 r4 r5 r6;obtain ⟨r0,r1,r2,r3,r4,r5,r6⟩:=HCL.out _ HU5.out;obtain ⟨⟨⟨s0,s1,s2,s3⟩,s4,s5,s6⟩,sl⟩:=HSU.out.keep HU5.out;clear ok HV4 HA4)
       |(have _t:=HVU;go_at_call 8;refine (HF2.out _ _ _ HBU.out HSO.out).mono ?_;rintro e W4 ⟨v4,rfl,ho4,ok⟩;obtain ⟨b4,k4,q4⟩:=ho4.form;have HA4:=aB ho4.at;rw [←HM.out] at q4;subst q4;have HB4:=aB (aA HBU.out ok);have HU4:=aB ok;have HV4:=aB (HVU.out.below ok);clear s0 s1 s2 s3 s4 s5 s6 r0 r1 r2 r3 r4 r5 r6;obtain ⟨r0,r1,r2,r3,r4,r5,r6⟩:=HCL.out _ ok;obtain ⟨⟨⟨s0,s1,s2,s3⟩,s4,s5,s6⟩,sl⟩:=HSU.out.keep ok;clear ho4 ok HVU))
      go_ret;exact ⟨rfl,HB7.out⟩
    · have hv:=hvi.trans (show Value.int .i64 (((k+1:Nat):Int) - 1)= .int .i64 (k:Int) by congr 1;omega)
      subst hv;have hkf:k<fi.length:=by omega
      have hki:(k:Int)<m1:=by have:=HM.out;omega
      obtain ⟨g,o,rfl,hfl⟩:=HFS.out k hkf;obtain ⟨⟨l0,l1,l2⟩,_⟩:=xN _ _ _ _ _ hfl hbr;have htl:tm≤772:=by have:=HM.out;omega
      have HTL:Hid ((fi.reverse.take tm).length=tm):=Dd (by omega)
      have HNX:Hid (∀ v5 w5,OwnFi w5 W1.heap.size v5 (fi.reverse.take tm++[fi[k]])→(wr.alloc (.cells #[.string fi[k].pa,.bool fi[k].dr,.string fi[k].da] 45)).grownBy w5 (Value.slice ta tm tc).ownBlock→∃ a c,v5= .slice a (tm+1) c∧RvL W1 fi v5 (.int .i64 ((k:Int) - 1)) w5):=fun v5 w5 ho hgr=>by
       have e:=ZW hkf;rw [←htm] at e;obtain ⟨a,c,ev⟩:=ho.form;rw [List.length_append,HTL.out,List.length_singleton] at ev;refine ⟨a,c,ev,k,a,tm+1,c,by omega,by omega,rfl,ev,?_,?_⟩
       · rw [show tm+1=fi.length - k by omega,e]
         exact ho
       · exact HBR.out.grown (pV (aC _ _) hgr) HBR.out.size (fun i hi=>(World.ownsRow.lt HOW.out i hi).1)
      have HNW:=aB (Dc wr fi[k]);have HOA:Hid (OwnFi (wr.alloc (.cells #[.string fi[k].pa,.bool fi[k].dr,.string fi[k].da] 45)) W1.heap.size (.slice ta tm tc) (fi.reverse.take tm)):=World.ownsRow.alloc HOW.out _;have hBa:W1.heap.size≤(wr.alloc (.cells #[.string fi[k].pa,.bool fi[k].dr,.string fi[k].da] 45)).heap.size:=by simp;omega
      clear hvi hown hbr hfl htm
      go_wp2_with (at_builtin;refine Fd (B:=W1.heap.size) (wx:=wr.alloc (.cells #[.string fi[k].pa,.bool fi[k].dr,.string fi[k].da] 45)) (v:= .slice ta tm tc) (ts:=fi.reverse.take tm) (us:=[fi[k]]) (ad:=some ⟨wr.heap.size,0,none⟩) (n:=1) (c:=1) rfl (.tmp 33) (.tmp 38) rfl rfl HOA.out hBa rfl rfl HNW.out (by rw [HTL.out];omega) ?_;intro v5 w5 ho hgr;obtain ⟨a5,c5,ev5,hrv⟩:=HNX.out v5 w5 ho hgr;subst ev5;have HRV:=aB hrv;clear ho hgr hrv)
      exact ⟨HRV.out,by simp [intOf]⟩
end Go.Proofs.YtmnhnofnlcbliaaGreatDoor
namespace Go.Proofs.YtmnhnofnlcbliaaGreatDoor
open Go.ChangeShapes Go.WideShapes Go.ChangeAt Go.RowKit
set_option maxRecDepth 100000
theorem ZX:Tryz.prog.cellsOf 24=4:=by kernel_rfl
theorem pG:Tryz.prog.cellsOf 9=1:=by kernel_rfl
theorem UT:Tryz.prog.cellsOf 129=4:=by kernel_rfl
theorem NZ:Tryz.prog.cellsOf 62=2:=by kernel_rfl
theorem OA:Tryz.prog.cellsOf 60=6:=by kernel_rfl
theorem OB:Tryz.prog.cellsOf 57=1:=by kernel_rfl
theorem KB:Tryz.prog.cellsOf 58=1:=by kernel_rfl
theorem KC:Tryz.prog.cellsOf 25=1:=by kernel_rfl
theorem KD:Tryz.prog.cellsOf 27=1:=by kernel_rfl
theorem OC:Tryz.prog.cellsOf 3=1:=by kernel_rfl
theorem UU {H:Type} {enc:TypeId×Value→H} {W:World} {base:Nat} {held:Bool} {n:Nat} {g o:Nat} {cs:List Value} {x:DataW H×List MemPlace} (hc:W.cells? base ⟨g,o,none⟩ 4=some cs) (h:DataW.trod enc Tryz.prog W base (fun _=>true) held n 129 cs=some x):∃ d:Pn,PnIn W g o d∧d.nm.size≤9223372036854775807:=by
 have hs:Tryz.prog.underlying 129=some (.struct (Tryz.prog.fieldsOf 129)):=by kernel_rfl
 obtain ⟨xs,n',_,_,_,hxl,hf⟩:=DataW.trod_struct hs h;have hsz:(Tryz.prog.fieldsOf 129).size=2:=by kernel_rfl
 obtain ⟨_,hcl,hq⟩:=World.cells?_some hc;obtain ⟨f0,i0,t0,o0⟩:=bG (fs:=Tryz.prog.fieldsOf 129) (i:=0) (ty:=9) (off:=0) (by kernel_rfl);obtain ⟨f1,i1,t1,o1⟩:=bG (fs:=Tryz.prog.fieldsOf 129) (i:=1) (ty:=52) (off:=1) (by kernel_rfl);have r0:=hf 0 f0 i0;have r1:=hf 1 f1 i1;rw [t0,o0,pG,List.getElem?_eq_getElem (by omega:0<xs.length)] at r0;rw [t1,o1,pM,List.getElem?_eq_getElem (by omega:1<xs.length)] at r1;obtain ⟨s,e0,_,hs0⟩:=DataW.trod_string Tryz.underlying9 r0;obtain ⟨a,b,c,ea,eb,ec,_⟩:=qD r1;have ka:((cs.drop 1).take 3)[0]? =some (.int .i64 a):=ea;have kb:((cs.drop 1).take 3)[1]? =some (.int .i64 b):=eb;have kc:((cs.drop 1).take 3)[2]? =some (.int .i64 c):=ec;have q0:=hq 0 (by decide);have q1:=hq 1 (by decide);have q2:=hq 2 (by decide);have q3:=hq 3 (by decide);have ad:∀ i,(⟨g,o,none⟩:Addr).add i=⟨g,o+i,none⟩:=fun i=>by unfold Addr.add;split<;>simp_all
 simp at ka kb kc
 rw [ad,iG e0] at q0;rw [ad,ka] at q1;rw [ad,kb] at q2;rw [ad,kc] at q3;exact ⟨⟨s,a,b,c⟩,⟨⟨q0,q1,q2,q3⟩,bY q0⟩,by unfold maxLen at hs0;exact hs0⟩
theorem OD {H:Type} {enc:TypeId×Value→H} {W:World} {base:Nat} {held:Bool} {n:Nat} {g o:Nat} {cs:List Value} {x:DataW H×List MemPlace} (hc:W.cells? base ⟨g,o,none⟩ 2=some cs) (h:DataW.trod enc Tryz.prog W base (fun _=>true) held n 62 cs=some x):∃ d:Eg,EgIn W g o d∧d.lb.size≤9223372036854775807:=by
 have hs:Tryz.prog.underlying 62=some (.struct (Tryz.prog.fieldsOf 62)):=by kernel_rfl
 obtain ⟨xs,n',_,_,_,hxl,hf⟩:=DataW.trod_struct hs h;have hsz:(Tryz.prog.fieldsOf 62).size=2:=by kernel_rfl
 obtain ⟨_,hcl,hq⟩:=World.cells?_some hc;obtain ⟨f0,i0,t0,o0⟩:=bG (fs:=Tryz.prog.fieldsOf 62) (i:=0) (ty:=9) (off:=0) (by kernel_rfl);obtain ⟨f1,i1,t1,o1⟩:=bG (fs:=Tryz.prog.fieldsOf 62) (i:=1) (ty:=3) (off:=1) (by kernel_rfl);have r0:=hf 0 f0 i0;have r1:=hf 1 f1 i1;rw [t0,o0,pG,List.getElem?_eq_getElem (by omega:0<xs.length)] at r0;rw [t1,o1,OC,List.getElem?_eq_getElem (by omega:1<xs.length)] at r1;obtain ⟨s,e0,_,hs0⟩:=DataW.trod_string Tryz.underlying9 r0;obtain ⟨k,e1,_,_⟩:=DataW.trod_int Tryz.underlying3 r1;have q0:=hq 0 (by decide);have q1:=hq 1 (by decide);have ad:∀ i,(⟨g,o,none⟩:Addr).add i=⟨g,o+i,none⟩:=fun i=>by unfold Addr.add;split<;>simp_all
 rw [ad,iG e0] at q0;rw [ad,iG e1] at q1;exact ⟨⟨s,k⟩,⟨⟨q0,q1⟩,bY q0⟩,by unfold maxLen at hs0;exact hs0⟩
theorem ZY {H:Type} {enc:TypeId×Value→H} {W:World} {base fuel:Nat} {held:Bool} {cs:List Value} {x:DataW H×List MemPlace} (h:DataW.trod enc Tryz.prog W base (fun _=>true) held fuel 57 cs=some x):
 ∃ v L,cs=[v]∧PinsAt W v L∧L.length≤9223372036854775807∧∀ d ∈ L,d.nm.size≤9223372036854775807:=by
 rcases Go.Deep.open_slice Tryz.underlying57 h with ⟨rfl,_⟩|⟨ad,len,cap,m,n,D,Pl,rfl,_,hl,hcm,hm,hx,hel⟩
 · exact ⟨_,[],rfl,⟨none,0,rfl,Nat.le_refl _,Or.inl rfl⟩,by simp,(fun d hd=>by cases hd)⟩
 · have hz:len≤9223372036854775807:=by unfold maxLen at hcm;omega
   rcases Nat.eq_zero_or_pos len with h0|h0
   · subst h0
     exact ⟨_,[],rfl,⟨_,_,rfl,Nat.zero_le _,Or.inl rfl⟩,by simp,(fun d hd=>by cases hd)⟩
   · have hmm:len≤m:=by rw [hm];simp;exact hl
     rw [UT] at hel;obtain ⟨g,off,spot⟩:=ad;obtain ⟨cs0,hc0,_⟩:=hel 0 (by omega);obtain ⟨_,hln,hq⟩:=World.cells?_some hc0;have hcell:=hq 0 (by decide);rw [List.getElem?_eq_getElem (by omega:0<cs0.length)] at hcell;have hspot:spot=none:=by simpa [Addr.add] using World.cell?_spot hcell
     subst hspot;have ad2:∀ o i,(⟨g,o,none⟩:Addr).add i=⟨g,o+i,none⟩:=fun o i=>by unfold Addr.add;split<;>simp_all
     obtain ⟨L,hL,hP⟩:=jH (P:=fun i (d:Pn)=>PnIn W g (off+i*4) d∧d.nm.size≤9223372036854775807) (n:=len) fun i hi=>by
      obtain ⟨cs,hc,ht⟩:=hel i (by omega);rw [ad2] at hc;exact UU hc ht
     subst hL;refine ⟨_,L,rfl,⟨_,_,rfl,hl,Or.inr ⟨g,off,rfl,?_,fun i hi=>(hP i hi).1⟩⟩,hz,?_⟩
     · have:=bY hcell
       rw [ad2,ad2] at this;exact this
     · intro d hd
       obtain ⟨i,hi,rfl⟩:=List.getElem_of_mem hd;exact (hP i hi).2
theorem UV {H:Type} {enc:TypeId×Value→H} {W:World} {base fuel:Nat} {held:Bool} {cs:List Value} {x:DataW H×List MemPlace} (h:DataW.trod enc Tryz.prog W base (fun _=>true) held fuel 58 cs=some x):
 ∃ v L,cs=[v]∧EdgesAt W v L∧L.length≤9223372036854775807∧∀ d ∈ L,d.lb.size≤9223372036854775807:=by
 rcases Go.Deep.open_slice Tryz.underlying58 h with ⟨rfl,_⟩|⟨ad,len,cap,m,n,D,Pl,rfl,_,hl,hcm,hm,hx,hel⟩
 · exact ⟨_,[],rfl,⟨none,0,rfl,Nat.le_refl _,Or.inl rfl⟩,by simp,(fun d hd=>by cases hd)⟩
 · have hz:len≤9223372036854775807:=by unfold maxLen at hcm;omega
   rcases Nat.eq_zero_or_pos len with h0|h0
   · subst h0
     exact ⟨_,[],rfl,⟨_,_,rfl,Nat.zero_le _,Or.inl rfl⟩,by simp,(fun d hd=>by cases hd)⟩
   · have hmm:len≤m:=by rw [hm];simp;exact hl
     rw [NZ] at hel;obtain ⟨g,off,spot⟩:=ad;obtain ⟨cs0,hc0,_⟩:=hel 0 (by omega);obtain ⟨_,hln,hq⟩:=World.cells?_some hc0;have hcell:=hq 0 (by decide);rw [List.getElem?_eq_getElem (by omega:0<cs0.length)] at hcell;have hspot:spot=none:=by simpa [Addr.add] using World.cell?_spot hcell
     subst hspot;have ad2:∀ o i,(⟨g,o,none⟩:Addr).add i=⟨g,o+i,none⟩:=fun o i=>by unfold Addr.add;split<;>simp_all
     obtain ⟨L,hL,hP⟩:=jH (P:=fun i (d:Eg)=>EgIn W g (off+i*2) d∧d.lb.size≤9223372036854775807) (n:=len) fun i hi=>by
      obtain ⟨cs,hc,ht⟩:=hel i (by omega);rw [ad2] at hc;exact OD hc ht
     subst hL;refine ⟨_,L,rfl,⟨_,_,rfl,hl,Or.inr ⟨g,off,rfl,?_,fun i hi=>(hP i hi).1⟩⟩,hz,?_⟩
     · have:=bY hcell
       rw [ad2,ad2] at this;exact this
     · intro d hd
       obtain ⟨i,hi,rfl⟩:=List.getElem_of_mem hd;exact (hP i hi).2
def De (n:Nd):Prop:=n.nm.size≤9223372036854775807∧(n.cx.length≤9223372036854775807∧∀ d ∈ n.cx,d.nm.size≤9223372036854775807)∧n.ed.length≤9223372036854775807∧∀ d ∈ n.ed,d.lb.size≤9223372036854775807
theorem OE {H:Type} {enc:TypeId×Value→H} {W:World} {base:Nat} {held:Bool} {n:Nat} {g o:Nat} {cs:List Value} {x:DataW H×List MemPlace} (hc:W.cells? base ⟨g,o,none⟩ 6=some cs) (h:DataW.trod enc Tryz.prog W base (fun _=>true) held n 60 cs=some x):∃ d:Nd,(∃ vc ve,NdIn W g o d vc ve)∧De d:=by
 have hs:Tryz.prog.underlying 60=some (.struct (Tryz.prog.fieldsOf 60)):=by kernel_rfl
 obtain ⟨xs,n',_,_,_,hxl,hf⟩:=DataW.trod_struct hs h;have hsz:(Tryz.prog.fieldsOf 60).size=4:=by kernel_rfl
 obtain ⟨_,hcl,hq⟩:=World.cells?_some hc;obtain ⟨f0,i0,t0,o0⟩:=bG (fs:=Tryz.prog.fieldsOf 60) (i:=0) (ty:=9) (off:=0) (by kernel_rfl);obtain ⟨f1,i1,t1,o1⟩:=bG (fs:=Tryz.prog.fieldsOf 60) (i:=1) (ty:=52) (off:=1) (by kernel_rfl);obtain ⟨f2,i2,t2,o2⟩:=bG (fs:=Tryz.prog.fieldsOf 60) (i:=2) (ty:=57) (off:=4) (by kernel_rfl);obtain ⟨f3,i3,t3,o3⟩:=bG (fs:=Tryz.prog.fieldsOf 60) (i:=3) (ty:=58) (off:=5) (by kernel_rfl);have r0:=hf 0 f0 i0;have r1:=hf 1 f1 i1;have r2:=hf 2 f2 i2;have r3:=hf 3 f3 i3;rw [t0,o0,pG,List.getElem?_eq_getElem (by omega:0<xs.length)] at r0;rw [t1,o1,pM,List.getElem?_eq_getElem (by omega:1<xs.length)] at r1;rw [t2,o2,OB,List.getElem?_eq_getElem (by omega:2<xs.length)] at r2;rw [t3,o3,KB,List.getElem?_eq_getElem (by omega:3<xs.length)] at r3;obtain ⟨s,e0,_,hs0⟩:=DataW.trod_string Tryz.underlying9 r0;obtain ⟨a,b,c,ea,eb,ec,_⟩:=qD r1;obtain ⟨vc,L1,e2,h2,z2,m2⟩:=ZY r2
 obtain ⟨ve,L2,e3,h3,z3,m3⟩:=UV r3;have ka:((cs.drop 1).take 3)[0]? =some (.int .i64 a):=ea;have kb:((cs.drop 1).take 3)[1]? =some (.int .i64 b):=eb;have kc:((cs.drop 1).take 3)[2]? =some (.int .i64 c):=ec;have q0:=hq 0 (by decide);have q1:=hq 1 (by decide);have q2:=hq 2 (by decide);have q3:=hq 3 (by decide);have q4:=hq 4 (by decide);have q5:=hq 5 (by decide);have ad:∀ i,(⟨g,o,none⟩:Addr).add i=⟨g,o+i,none⟩:=fun i=>by unfold Addr.add;split<;>simp_all
 simp at ka kb kc
 rw [ad,iG e0] at q0;rw [ad,ka] at q1;rw [ad,kb] at q2;rw [ad,kc] at q3;rw [ad,iG e2] at q4;rw [ad,iG e3] at q5;exact ⟨⟨s,a,b,c,L1,L2⟩,⟨vc,ve,⟨q0,q1,q2,q3,q4,q5⟩,⟨h2,h3⟩,bY q0⟩,by unfold maxLen at hs0;exact hs0,⟨z2,m2⟩,z3,m3⟩
theorem UW {H:Type} {enc:TypeId×Value→H} {W:World} {base fuel:Nat} {held:Bool} {cs:List Value} {x:DataW H×List MemPlace} (h:DataW.trod enc Tryz.prog W base (fun _=>true) held fuel 25 cs=some x):
 ∃ v L,cs=[v]∧NodesAt W v L∧L.length≤9223372036854775807∧∀ d ∈ L,De d:=by
 rcases Go.Deep.open_slice Tryz.underlying25 h with ⟨rfl,_⟩|⟨ad,len,cap,m,n,D,Pl,rfl,_,hl,hcm,hm,hx,hel⟩
 · exact ⟨_,[],rfl,⟨none,0,rfl,Nat.le_refl _,Or.inl rfl⟩,by simp,(fun d hd=>by cases hd)⟩
 · have hz:len≤9223372036854775807:=by unfold maxLen at hcm;omega
   rcases Nat.eq_zero_or_pos len with h0|h0
   · subst h0
     exact ⟨_,[],rfl,⟨_,_,rfl,Nat.zero_le _,Or.inl rfl⟩,by simp,(fun d hd=>by cases hd)⟩
   · have hmm:len≤m:=by rw [hm];simp;exact hl
     rw [OA] at hel;obtain ⟨g,off,spot⟩:=ad;obtain ⟨cs0,hc0,_⟩:=hel 0 (by omega);obtain ⟨_,hln,hq⟩:=World.cells?_some hc0;have hcell:=hq 0 (by decide);rw [List.getElem?_eq_getElem (by omega:0<cs0.length)] at hcell;have hspot:spot=none:=by simpa [Addr.add] using World.cell?_spot hcell
     subst hspot;have ad2:∀ o i,(⟨g,o,none⟩:Addr).add i=⟨g,o+i,none⟩:=fun o i=>by unfold Addr.add;split<;>simp_all
     obtain ⟨L,hL,hP⟩:=jH (P:=fun i (d:Nd)=>(∃ vc ve,NdIn W g (off+i*6) d vc ve)∧De d) (n:=len) fun i hi=>by
      obtain ⟨cs,hc,ht⟩:=hel i (by omega);rw [ad2] at hc;exact OE hc ht
     subst hL;refine ⟨_,L,rfl,⟨_,_,rfl,hl,Or.inr ⟨g,off,rfl,?_,fun i hi=>(hP i hi).1⟩⟩,hz,?_⟩
     · have:=bY hcell
       rw [ad2,ad2] at this;exact this
     · intro d hd
       obtain ⟨i,hi,rfl⟩:=List.getElem_of_mem hd;exact (hP i hi).2
theorem UX:Tryz.prog.bytesOf 56=144:=by kernel_rfl
theorem ZZ {H:Type} {enc:TypeId×Value→H} {W:World} {base fuel:Nat} {held:Bool} {cs:List Value} {x:DataW H×List MemPlace} (h:DataW.trod enc Tryz.prog W base (fun _=>true) held fuel 28 cs=some x):
 ∃ v L,cs=[v]∧DirsAt W v L∧L.length≤9223372036854775807∧(∀ d ∈ L,DrN d)∧((x.1.weights Tryz.prog 28).all (· ≤reachBytes)=true→FitP1 L∧L.length*144≤140737488355328):=by
 rcases Go.Deep.open_slice Tryz.underlying28 h with ⟨rfl,_⟩|⟨ad,len,cap,m,n,D,Pl,rfl,_,hl,hcm,hm,hx,hel⟩
 · exact ⟨_,[],rfl,⟨none,0,rfl,Nat.le_refl _,Or.inl rfl⟩,by simp,(fun d hd=>by cases hd),fun _=>⟨(fun d hd=>by cases hd),by simp⟩⟩
 · have hz:len≤9223372036854775807:=by unfold maxLen at hcm;omega
   rcases Nat.eq_zero_or_pos len with h0|h0
   · subst h0
     exact ⟨_,[],rfl,⟨_,_,rfl,Nat.zero_le _,Or.inl rfl⟩,by simp,(fun d hd=>by cases hd),fun _=>⟨(fun d hd=>by cases hd),by simp⟩⟩
   · have hmm:len≤m:=by rw [hm];simp;exact hl
     rw [TH] at hel;obtain ⟨g,off,spot⟩:=ad;obtain ⟨cs0,hc0,_⟩:=hel 0 (by omega);obtain ⟨_,hln,hq⟩:=World.cells?_some hc0;have hcell:=hq 0 (by decide);rw [List.getElem?_eq_getElem (by omega:0<cs0.length)] at hcell;have hspot:spot=none:=by simpa [Addr.add] using World.cell?_spot hcell
     subst hspot
     obtain ⟨L,hL,hP⟩:=jH (P:=fun i (d:Dr)=>(∃ u v1 v2 v3,DrIn W g (off+i*9) d u v1 v2 v3)∧DrN d∧(((D i).weights Tryz.prog 56).all (· ≤reachBytes)=true→d.pa.length*16≤140737488355328)) (n:=len) fun i hi=>by
      obtain ⟨cs,hc,ht⟩:=hel i (by omega);rw [tM] at hc;exact XN hc ht
     subst hL;refine ⟨_,L,rfl,⟨_,_,rfl,hl,Or.inr ⟨g,off,rfl,fun i hi=>(hP i hi).1⟩⟩,hz,?_,fun hr=> ?_⟩
     · intro d hd
       obtain ⟨i,hi,rfl⟩:=List.getElem_of_mem hd;exact (hP i hi).2.1
     · have hxi:x.1= .slice ((List.range L.length).map D) ((List.range (m - L.length)).map fun j=>D (L.length+j)):=by rw [hx]
       refine ⟨?_,by
        rw [hxi] at hr;have hb:=(rW Tryz.underlying28 hr).1;rw [List.length_map,List.length_range,UX] at hb;unfold reachBytes at hb;omega⟩
       intro d hd;obtain ⟨i,hi,rfl⟩:=List.getElem_of_mem hd;have hxi:x.1= .slice ((List.range L.length).map D) ((List.range (m - L.length)).map fun j=>D (L.length+j)):=by rw [hx]
       rw [hxi] at hr;exact (hP i hi).2.2 ((rW Tryz.underlying28 hr).2 (D i) (List.mem_map.2 ⟨i,List.mem_range.2 (by omega),rfl⟩))
theorem OG:Tryz.prog.cellsOf 32=7:=by kernel_rfl
theorem OH:Tryz.prog.cellsOf 4=1:=by kernel_rfl
theorem jT {cs:List Value} {o k i:Nat} {v:Value} (h:((cs.drop o).take k)[i]? =some v) (hi:i<k):cs[o+i]? =some v:=by
 rw [List.getElem?_take_of_lt hi,List.getElem?_drop] at h;exact h
set_option maxHeartbeats 1600000 in
theorem OI {H:Type} {enc:TypeId×Value→H} {W:World} {base b0:Nat} {held:Bool} {v:Value} {d:DataW H} {p:List MemPlace} (hv:Value.okWide Tryz.prog W .any b0 32 v) (h:DataW.Trod enc Tryz.prog W base (fun _=>true) held 32 v d p):
 ∃ (P:Mn) (G:List Nd) (L:List Dr) (pr:Bool) (v1 v2 v3 v4 vg vt:Value),v= .agg #[v1,v2,v3,v4,vg,vt,.bool pr]∧(MnAt W P v1 v2 v3 v4∧(P.d.length≤9223372036854775807∧P.v.length≤9223372036854775807∧P.o.length≤9223372036854775807∧P.p.length≤9223372036854775807)∧((∀ d ∈ P.d,d.nm.size≤9223372036854775807)∧(∀ d ∈ P.v,d.nm.size≤9223372036854775807)∧(∀ d ∈ P.o,d.nm.size≤9223372036854775807)∧∀ d ∈ P.p,d.nm.size≤9223372036854775807))∧
   (NodesAt W vg G∧CJ G∧∀ n ∈ G,De n)∧(DirsAt W vt L∧L.length≤9223372036854775807∧∀ d ∈ L,DrN d)∧((d.weights Tryz.prog 32).all (· ≤reachBytes)=true→FitP1 L∧L.length*144≤140737488355328):=by
 have hs:Tryz.prog.underlying 32=some (.struct (Tryz.prog.fieldsOf 32)):=by kernel_rfl
 have hsm:Tryz.prog.underlying 24=some (.struct (Tryz.prog.fieldsOf 24)):=by kernel_rfl
 have hsg:Tryz.prog.underlying 27=some (.struct (Tryz.prog.fieldsOf 27)):=by kernel_rfl
 have hst:Tryz.prog.underlying 30=some (.struct (Tryz.prog.fieldsOf 30)):=by kernel_rfl
 obtain ⟨cs,rfl,hsz⟩:=okWide_struct hs hv;obtain ⟨n,h⟩:=h;obtain ⟨xs,n',_,hxx,_,hxl,hf⟩:=DataW.trod_struct hs h;have hfz:(Tryz.prog.fieldsOf 32).size=4:=by kernel_rfl
 rw [OG] at hsz;obtain ⟨f0,i0,t0,o0⟩:=bG (fs:=Tryz.prog.fieldsOf 32) (i:=0) (ty:=24) (off:=0) (by kernel_rfl);obtain ⟨f1,i1,t1,o1⟩:=bG (fs:=Tryz.prog.fieldsOf 32) (i:=1) (ty:=27) (off:=4) (by kernel_rfl);obtain ⟨f2,i2,t2,o2⟩:=bG (fs:=Tryz.prog.fieldsOf 32) (i:=2) (ty:=30) (off:=5) (by kernel_rfl);obtain ⟨f3,i3,t3,o3⟩:=bG (fs:=Tryz.prog.fieldsOf 32) (i:=3) (ty:=4) (off:=6) (by kernel_rfl);have r0:=hf 0 f0 i0;have r1:=hf 1 f1 i1;have r2:=hf 2 f2 i2;have r3:=hf 3 f3 i3;rw [t0,o0,ZX,List.getElem?_eq_getElem (by omega:0<xs.length)] at r0;rw [t1,o1,KD,List.getElem?_eq_getElem (by omega:1<xs.length)] at r1;rw [t2,o2,MF,List.getElem?_eq_getElem (by omega:2<xs.length)] at r2;rw [t3,o3,OH,List.getElem?_eq_getElem (by omega:3<xs.length)] at r3;obtain ⟨pr,e3,_⟩:=DataW.trod_bool Tryz.underlying4 r3;have k6:cs.toList[6]? =some (.bool pr):=iG e3;obtain ⟨xm,_,_,_,_,hxm,hfm⟩:=DataW.trod_struct hsm r0
 have hfzm:(Tryz.prog.fieldsOf 24).size=4:=by kernel_rfl
 have get:∀ i,((Tryz.prog.fieldsOf 24)[i]?).map (fun f=>(f.type,f.offset))=some (22,i)→i<4→∃ v L,cs.toList[i]? =some v∧DepsAt W v L∧L.length≤9223372036854775807∧∀ d ∈ L,d.nm.size≤9223372036854775807:=by
  intro i hfd hi;obtain ⟨f,h1,h2,h3⟩:=bG hfd;have hr:=hfm i f h1;rw [h2,h3,nI,List.getElem?_eq_getElem (by omega:i<xm.length)] at hr;obtain ⟨v,L,e,hL,hz,hm⟩:=tY hr
  have:=jT (iG e) hi
  rw [Nat.zero_add] at this;exact ⟨v,L,this,hL,hz,hm⟩
 obtain ⟨v1,L1,k0,h1,z1,m1⟩:=get 0 (by kernel_rfl) (by decide);obtain ⟨v2,L2,k1,h2,z2,m2⟩:=get 1 (by kernel_rfl) (by decide);obtain ⟨v3,L3,k2,h3,z3,m3⟩:=get 2 (by kernel_rfl) (by decide);obtain ⟨v4,L4,k3,h4,z4,m4⟩:=get 3 (by kernel_rfl) (by decide);obtain ⟨xg,_,_,_,_,hxg,hfg⟩:=DataW.trod_struct hsg r1;have hfzg:(Tryz.prog.fieldsOf 27).size=1:=by kernel_rfl
 obtain ⟨g0,ig0,tg0,og0⟩:=bG (fs:=Tryz.prog.fieldsOf 27) (i:=0) (ty:=25) (off:=0) (by kernel_rfl);have rg:=hfg 0 g0 ig0;rw [tg0,og0,KC,List.getElem?_eq_getElem (by omega:0<xg.length)] at rg;obtain ⟨u,G,eg,hg0,zg0,mg0⟩:=UW rg;have k4:cs.toList[4+0]? =some u:=jT (iG eg) (by decide);obtain ⟨xt,_,_,hxxt,_,hxt,hft⟩:=DataW.trod_struct hst r2;have hfzt:(Tryz.prog.fieldsOf 30).size=1:=by kernel_rfl
 obtain ⟨q0,iq0,tq0,oq0⟩:=bG (fs:=Tryz.prog.fieldsOf 30) (i:=0) (ty:=28) (off:=0) (by kernel_rfl);have rt:=hft 0 q0 iq0;rw [tq0,oq0,ME,List.getElem?_eq_getElem (by omega:0<xt.length)] at rt;obtain ⟨vt,L,et,hd,hz,hn,hwt⟩:=ZZ rt;have k5:cs.toList[5+0]? =some vt:=jT (iG et) (by decide);obtain ⟨l⟩:=cs;obtain ⟨y0,y1,y2,y3,y4,y5,y6,rfl⟩:=Fy (l:=l) (by simpa using hsz)
 simp at k0 k1 k2 k3 k4 k5 k6
 subst k0 k1 k2 k3 k4 k5 k6;refine ⟨⟨L1,L2,L3,L4⟩,G,L,pr,_,_,_,_,_,_,rfl,⟨⟨h1,h2,h3,h4⟩,⟨z1,z2,z3,z4⟩,m1,m2,m3,m4⟩,⟨hg0,⟨zg0,fun n hn=>(mg0 n hn).2.2.1⟩,mg0⟩,⟨hd,hz,hn⟩,fun hr=> ?_⟩;have hdd:d= .agg (xs.map (·.1)):=congrArg Prod.fst hxx;rw [hdd] at hr;have hp2:=wC hs hr i2 (d:=xs[2].1) (by rw [List.getElem?_map,List.getElem?_eq_getElem (by omega:2<xs.length)];rfl);rw [t2] at hp2;have hxi:xs[2].1= .agg (xt.map (·.1)):=congrArg Prod.fst hxxt;rw [hxi] at hp2;have hp3:=wC hst hp2 iq0 (d:=xt[0].1) (by rw [List.getElem?_map,List.getElem?_eq_getElem (by omega:0<xt.length)];rfl);rw [tq0] at hp3;exact hwt hp3
end Go.Proofs.YtmnhnofnlcbliaaGreatDoor
