/- Io3, RwM, RwGr, RwTb: their declarations that are needed, laid in one text, remarks and blanks left out. -/
import Derived.Test.YtlmpiohbmlddiaaGreatDoorMo23
import Derived.Test.YtlmpiohbmlddiaaGreatDoorMo24
namespace Go.Proofs.YtlmpiohbmlddiaaGreatDoor
open Go.RowKit
set_option maxRecDepth 100000
theorem DY (P:Mn) (G:List Nd) (L:List Dr) (pr:Bool):(eF P G L pr).length≤1000000000000:=by
 unfold eF
 split
 · rename_i h
   have hk:=QK (iI (nQ h.1)).1;rw [(cI hk pr (aF P) (Lo.prT G)).2.2];have hl:=hk.len;have h1:(fL pr).length≤3:=by unfold fL;cases pr<;>simp
   have h2:((L.drop 1).flatMap (qX L)).length≤(L.drop 1).length*3:=by
    generalize L.drop 1=A
    induction A with
    |nil=>simp
    |cons d A ih=>
     rw [List.flatMap_cons,List.length_append,List.length_cons]
     have:(qX L d).length≤3:=by unfold qX;split<;>simp
     omega
   have h3:(if 1<L.length then [Ca.mod []] else []).length≤1:=by split<;>simp
   rw [CQ,List.length_append,List.length_append];rw [List.length_drop] at h2;omega
 · simp
theorem sF {G:List Nd} (h:Lo.dI G=true):G.length≤1000000∧∀ n ∈ G,n.cx.length≤1000000∧n.ed.length≤1000000:=by
 cases G with
 |nil=>simp
 |cons n r=>
  unfold Lo.dI at h;simp only [Bool.and_eq_true,decide_eq_true_eq,List.all_eq_true] at h;obtain ⟨⟨⟨h1,h2⟩,h3⟩,h4⟩:=h;refine ⟨by rw [List.length_cons];omega,fun m hm=> ?_⟩;have he:=h4 m hm;unfold Lo.cC at he;rw [Bool.and_eq_true,decide_eq_true_eq] at he;refine ⟨?_,by omega⟩
  rcases List.mem_cons.1 hm with rfl|hm
  · unfold Lo.fJ at h2
    simp only [Bool.and_eq_true,decide_eq_true_eq] at h2;omega
  · have hl:=h3 m hm
    unfold Lo.cX Lo.gP at hl;simp only [Bool.and_eq_true,decide_eq_true_eq] at hl;omega
set_option maxHeartbeats 16000000 in
theorem sY {P Q:Mn} {G H:List Nd} {L M:List Dr} {x1 x2 x3 x4 xg xt y1 y2 y3 y4 yg yt:Value} {pr ps:Bool} {w:World} (hpm:MnAt w P x1 x2 x3 x4) (hpz:P.d.length≤9223372036854775807∧P.v.length≤9223372036854775807∧P.o.length≤9223372036854775807∧P.p.length≤9223372036854775807) (hpg:NodesAt w xg G) (hpt:DirsAt w xt L) (hpl:L.length≤9223372036854775807) (hpk:kR L) (hpo:sP G) (hqm:MnAt w Q y1 y2 y3 y4) (hqz:Q.d.length≤9223372036854775807∧Q.v.length≤9223372036854775807∧Q.o.length≤9223372036854775807∧Q.p.length≤9223372036854775807) (hqg:NodesAt w yg H) (hqt:DirsAt w yt M) (hql:M.length≤9223372036854775807) (hqk:kR M) (hqo:sP H) (he:Env w) (hf:FL w):
 Calls Tryz.prog 7 #[.agg #[x1,x2,x3,x4,xg,xt,.bool pr],.agg #[y1,y2,y3,y4,yg,yt,.bool ps]] w fun e w'=>e= .returned (.bool true)∧Below w.heap.size w w':=by
 have HF1:Hid (∀ W,Below w.heap.size w W→Calls Tryz.prog 8 #[.agg #[x1,x2,x3,x4,xg,xt,.bool pr]] W (JU W (eF P G L pr) (erI P G L))):=fun W hb=>kG (hpm.below hb) hpz (hpg.below hb) (hpt.below hb) hpl hpk hpo mK (he.below hb) (hf.below hb)
 have HF2:Hid (∀ W,Below w.heap.size w W→Calls Tryz.prog 8 #[.agg #[y1,y2,y3,y4,yg,yt,.bool ps]] W (JU W (eF Q H M ps) (erI Q H M))):=fun W hb=>kG (hqm.below hb) hqz (hqg.below hb) (hqt.below hb) hql hqk hqo mK (he.below hb) (hf.below hb)
 have HLV:Hid (∀ W,Below w.heap.size w W→Calls Tryz.prog 11 #[] W fun e w'=>e= .returned (.bool true)∧Below W.heap.size W w'):=fun W hb=>AV (he.below hb) (hf.below hb)
 have HEQ:Hid (∀ W u v,FlsAt W u (eF P G L pr)→FlsAt W v (eF Q H M ps)→Calls Tryz.prog 10 #[u,v] W fun e w'=>e= .returned (.bool (eqB (eF P G L pr) (eF Q H M ps)))∧Below W.heap.size W w'):=fun W u v h1 h2=>DS h1 h2 (DY P G L pr)
 have HAL:Hid (eE P G L=true→∀ W,Below w.heap.size w W→Calls Tryz.prog 14 #[.agg #[xt],.agg #[yt]] W fun e w'=>e= .returned (.bool (eqB L M))∧Below W.heap.size W w'):=fun h W hb=>DN (hpt.below hb) (hqt.below hb) (by have:=(iOk h).ok.len;omega) fun d hd=>⟨by have:=hpk.1 d hd;omega,hpk.2 d hd⟩
 have HSG:Hid (eE P G L=true→∀ W,Below w.heap.size w W→Calls Tryz.prog 19 #[.agg #[xg],.agg #[yg]] W fun e w'=>e= .returned (.bool (eqB G H))∧Below W.heap.size W w'):=fun h W hb=>Lo.DX (hpg.below hb) (hqg.below hb) (sF (iOk h).lok).1 (sF (iOk h).lok).2
 have HSM:Hid (∀ W,Below w.heap.size w W→Calls Tryz.prog 20 #[.agg #[x1,x2,x3,x4],.agg #[y1,y2,y3,y4]] W fun e w'=>e= .returned (.bool (eqB P Q))∧Below W.heap.size W w'):=fun W hb=>DD (hpm.below hb) (hqm.below hb) hpz
 have HON:Hid (eE P G L=true→eE Q H M=true→eqB (eF P G L pr) (eF Q H M ps)=(eqB L M&&eqB G H&&eqB P Q&&(pr==ps))):=fun h k=>by
  rw [Bool.eq_iff_iff,Bool.and_eq_true,Bool.and_eq_true,Bool.and_eq_true,cH,cH,cH,cH,beq_iff_eq,RC h k];exact ⟨fun ⟨a,b,c,d⟩=>⟨⟨⟨a,b⟩,c⟩,d⟩,fun ⟨⟨⟨a,b⟩,c⟩,d⟩=>⟨a,b,c,d⟩⟩
 have HE1:Hid (eE P G L=true→erI P G L=0):=OT.2;have HE2:Hid (eE Q H M=true→erI Q H M=0):=OT.2;have HN1:Hid (eE P G L=false→erI P G L=43):=fun h=>by unfold erI;rw [h];rfl
 have HN2:Hid (eE Q H M=false→erI Q H M=43):=fun h=>by unfold erI;rw [h];rfl
 obtain ⟨a1,c1,rfl⟩:=hpm.1.sl;obtain ⟨a2,c2,rfl⟩:=hpm.2.1.sl;obtain ⟨a3,c3,rfl⟩:=hpm.2.2.1.sl;obtain ⟨a4,c4,rfl⟩:=hpm.2.2.2.sl;obtain ⟨at0,ct0,rfl,_⟩:=hpt.sl;obtain ⟨ag,cg,rfl⟩:∃ a c,xg= .slice a G.length c:=by obtain ⟨a,c,e,_⟩:=hpg;exact ⟨a,c,e⟩
 obtain ⟨d1,e1,rfl⟩:=hqm.1.sl;obtain ⟨d2,e2,rfl⟩:=hqm.2.1.sl;obtain ⟨d3,e3,rfl⟩:=hqm.2.2.1.sl;obtain ⟨d4,e4,rfl⟩:=hqm.2.2.2.sl;obtain ⟨dt0,et0,rfl,_⟩:=hqt.sl;obtain ⟨dg,eg,rfl⟩:∃ a c,yg= .slice a H.length c:=by obtain ⟨a,c,e,_⟩:=hqg;exact ⟨a,c,e⟩
 have HS0:Hid (StB ((w.alloc (stO (.slice a1 P.d.length c1) (.slice a2 P.v.length c2) (.slice a3 P.o.length c3) (.slice a4 P.p.length c4) (.slice ag G.length cg) (.slice at0 L.length ct0) pr)).alloc (stO (.slice d1 Q.d.length e1) (.slice d2 Q.v.length e2) (.slice d3 Q.o.length e3) (.slice d4 Q.p.length e4) (.slice dg H.length eg) (.slice dt0 M.length et0) ps)) w.heap.size (.slice a1 P.d.length c1) (.slice a2 P.v.length c2) (.slice a3 P.o.length c3) (.slice a4 P.p.length c4) (.slice ag G.length cg) (.slice at0 L.length ct0) pr∧StB ((w.alloc (stO (.slice a1 P.d.length c1) (.slice a2 P.v.length c2) (.slice a3 P.o.length c3) (.slice a4 P.p.length c4) (.slice ag G.length cg) (.slice at0 L.length ct0) pr)).alloc (stO (.slice d1 Q.d.length e1) (.slice d2 Q.v.length e2) (.slice d3 Q.o.length e3) (.slice d4 Q.p.length e4) (.slice dg H.length eg) (.slice dt0 M.length et0) ps)) (w.heap.size+1) (.slice d1 Q.d.length e1) (.slice d2 Q.v.length e2) (.slice d3 Q.o.length e3) (.slice d4 Q.p.length e4) (.slice dg H.length eg) (.slice dt0 M.length et0) ps):=⟨(StB.new w (.slice a1 P.d.length c1) (.slice a2 P.v.length c2) (.slice a3 P.o.length c3) (.slice a4 P.p.length c4) (.slice ag G.length cg) (.slice at0 L.length ct0) pr).keep (aD _ _),by have q:=StB.new (w.alloc (stO (.slice a1 P.d.length c1) (.slice a2 P.v.length c2) (.slice a3 P.o.length c3) (.slice a4 P.p.length c4) (.slice ag G.length cg) (.slice at0 L.length ct0) pr)) (.slice d1 Q.d.length e1) (.slice d2 Q.v.length e2) (.slice d3 Q.o.length e3) (.slice d4 Q.p.length e4) (.slice dg H.length eg) (.slice dt0 M.length et0) ps;rw [show (w.alloc (stO (.slice a1 P.d.length c1) (.slice a2 P.v.length c2) (.slice a3 P.o.length c3) (.slice a4 P.p.length c4) (.slice ag G.length cg) (.slice at0 L.length ct0) pr)).heap.size=w.heap.size+1 by simp] at q;exact q⟩
 have HB0:Hid (Below w.heap.size w ((w.alloc (stO (.slice a1 P.d.length c1) (.slice a2 P.v.length c2) (.slice a3 P.o.length c3) (.slice a4 P.p.length c4) (.slice ag G.length cg) (.slice at0 L.length ct0) pr)).alloc (stO (.slice d1 Q.d.length e1) (.slice d2 Q.v.length e2) (.slice d3 Q.o.length e3) (.slice d4 Q.p.length e4) (.slice dg H.length eg) (.slice dt0 M.length et0) ps))):=aN _ _ _
 have HKP:Hid (∀ W W',(StB W w.heap.size (.slice a1 P.d.length c1) (.slice a2 P.v.length c2) (.slice a3 P.o.length c3) (.slice a4 P.p.length c4) (.slice ag G.length cg) (.slice at0 L.length ct0) pr∧StB W (w.heap.size+1) (.slice d1 Q.d.length e1) (.slice d2 Q.v.length e2) (.slice d3 Q.o.length e3) (.slice d4 Q.p.length e4) (.slice dg H.length eg) (.slice dt0 M.length et0) ps)→Below W.heap.size W W'→(StB W' w.heap.size (.slice a1 P.d.length c1) (.slice a2 P.v.length c2) (.slice a3 P.o.length c3) (.slice a4 P.p.length c4) (.slice ag G.length cg) (.slice at0 L.length ct0) pr∧StB W' (w.heap.size+1) (.slice d1 Q.d.length e1) (.slice d2 Q.v.length e2) (.slice d3 Q.o.length e3) (.slice d4 Q.p.length e4) (.slice dg H.length eg) (.slice dt0 M.length et0) ps)):=fun W W' h hb=>⟨h.1.keep hb,h.2.keep hb⟩
 obtain ⟨⟨⟨⟨s0,s1,s2,s3⟩,s4,s5,s6⟩,_⟩,⟨⟨r0,r1,r2,r3⟩,r4,r5,r6⟩,_⟩:=HS0.out;clear hpm hpz hpg hpt hpl hpk hpo hqm hqz hqg hqt hql hqk hqo he hf;generalize eF P G L pr=fx at*;generalize eF Q H M ps=fy at*;generalize erI P G L=er at*;generalize erI Q H M=es at*;cases hmx:eE P G L
 · obtain rfl:=HN1.out hmx
   clear HN1 HE1 HON HAL HSG HSM HEQ HE2 HN2 hmx
   go_enter Tryz.func7,Tryz.ntmps7
   go_wp2_with (first
    |(have _t:=HS2;go_at_call 11;refine (HLV.out _ HB2.out).mono ?_;rintro e WL ⟨rfl,ok⟩;have HBL:=aB (aA HB2.out ok);clear ok)
    |(have _t:=HS1;go_at_call 8;refine (HF2.out _ HB1.out).mono ?_;rintro e W2 ⟨v2,rfl,ho2,ok⟩;have HV2:Hid (FlsAt W2 v2 fy):=ho2.at;obtain ⟨b2,k2,q2⟩:=ho2.form;obtain ⟨m2,hm2⟩:∃ n,n=fy.length:=⟨_,rfl⟩;rw [←hm2] at q2;subst q2;have HU1:=aB (HV1.out.below ok);clear hm2 ho2 HV1;have HB2:=aB (aA HB1.out ok);have HS2:=aB (HKP.out _ _ HS1.out ok);clear s0 s1 s2 s3 s4 s5 s6 r0 r1 r2 r3 r4 r5 r6 HS1;obtain ⟨⟨⟨⟨s0,s1,s2,s3⟩,s4,s5,s6⟩,_⟩,⟨⟨r0,r1,r2,r3⟩,r4,r5,r6⟩,_⟩:=HS2.out;clear ok )
    |(have _t:=HS0;go_at_call 8;refine (HF1.out _ HB0.out).mono ?_;rintro e W1 ⟨v1,rfl,ho1,ok⟩;have HV1:Hid (FlsAt W1 v1 fx):=ho1.at;obtain ⟨b1,k1,q1⟩:=ho1.form;obtain ⟨m1,hm1⟩:∃ n,n=fx.length:=⟨_,rfl⟩;rw [←hm1] at q1;subst q1;clear hm1 ho1;have HB1:=aB (aA HB0.out ok);have HS1:=aB (HKP.out _ _ HS0.out ok);clear s0 s1 s2 s3 s4 s5 s6 r0 r1 r2 r3 r4 r5 r6 HS0;obtain ⟨⟨⟨⟨s0,s1,s2,s3⟩,s4,s5,s6⟩,_⟩,⟨⟨r0,r1,r2,r3⟩,r4,r5,r6⟩,_⟩:=HS1.out;clear ok ))
   go_ret;exact ⟨rfl,HBL.out⟩
 · obtain rfl:=HE1.out hmx
   have HON1:=aB (HON.out hmx);have HAL1:=aB (HAL.out hmx);have HSG1:=aB (HSG.out hmx);clear HN1 HE1 HON HAL HSG hmx;cases hmy:eE Q H M
   · obtain rfl:=HN2.out hmy
     clear HN2 HE2 HON1 HAL1 HSG1 HSM HEQ hmy
     go_enter Tryz.func7,Tryz.ntmps7
     go_wp2_with (first
      |(have _t:=HS2;go_at_call 11;refine (HLV.out _ HB2.out).mono ?_;rintro e WL ⟨rfl,ok⟩;have HBL:=aB (aA HB2.out ok);clear ok)
      |(have _t:=HS1;go_at_call 8;refine (HF2.out _ HB1.out).mono ?_;rintro e W2 ⟨v2,rfl,ho2,ok⟩;have HV2:Hid (FlsAt W2 v2 fy):=ho2.at;obtain ⟨b2,k2,q2⟩:=ho2.form;obtain ⟨m2,hm2⟩:∃ n,n=fy.length:=⟨_,rfl⟩;rw [←hm2] at q2;subst q2;have HU1:=aB (HV1.out.below ok);clear hm2 ho2 HV1;have HB2:=aB (aA HB1.out ok);have HS2:=aB (HKP.out _ _ HS1.out ok);clear s0 s1 s2 s3 s4 s5 s6 r0 r1 r2 r3 r4 r5 r6 HS1;obtain ⟨⟨⟨⟨s0,s1,s2,s3⟩,s4,s5,s6⟩,_⟩,⟨⟨r0,r1,r2,r3⟩,r4,r5,r6⟩,_⟩:=HS2.out;clear ok )
      |(have _t:=HS0;go_at_call 8;refine (HF1.out _ HB0.out).mono ?_;rintro e W1 ⟨v1,rfl,ho1,ok⟩;have HV1:Hid (FlsAt W1 v1 fx):=ho1.at;obtain ⟨b1,k1,q1⟩:=ho1.form;obtain ⟨m1,hm1⟩:∃ n,n=fx.length:=⟨_,rfl⟩;rw [←hm1] at q1;subst q1;clear hm1 ho1;have HB1:=aB (aA HB0.out ok);have HS1:=aB (HKP.out _ _ HS0.out ok);clear s0 s1 s2 s3 s4 s5 s6 r0 r1 r2 r3 r4 r5 r6 HS0;obtain ⟨⟨⟨⟨s0,s1,s2,s3⟩,s4,s5,s6⟩,_⟩,⟨⟨r0,r1,r2,r3⟩,r4,r5,r6⟩,_⟩:=HS1.out;clear ok ))
     go_ret;exact ⟨rfl,HBL.out⟩
   · obtain rfl:=HE2.out hmy
     have HON:=aB (HON1.out hmy);have HAL:=aB HAL1.out;have HSG:=aB HSG1.out;clear HN2 HE2 HON1 HAL1 HSG1 hmy;generalize eqB fx fy=q0 at*;generalize eqB L M=q1 at*;generalize eqB G H=q2 at*;generalize eqB P Q=q3 at*;cases q1
     · obtain rfl:q0=false:=by have:=HON.out;simpa using this
       clear HON
       go_enter Tryz.func7,Tryz.ntmps7
       go_wp2_with (first
        |(have _t:=HS6;go_at_call 11;refine (HLV.out _ HB6.out).mono ?_;rintro e WL ⟨rfl,ok⟩;have HBL:=aB (aA HB6.out ok);clear ok)
        |(have _t:=HS5;go_at_call 20;refine (HSM.out _ HB5.out).mono ?_;rintro e W6 ⟨rfl,ok⟩;have HB6:=aB (aA HB5.out ok);have HS6:=aB (HKP.out _ _ HS5.out ok);clear s0 s1 s2 s3 s4 s5 s6 r0 r1 r2 r3 r4 r5 r6 HS5;obtain ⟨⟨⟨⟨s0,s1,s2,s3⟩,s4,s5,s6⟩,_⟩,⟨⟨r0,r1,r2,r3⟩,r4,r5,r6⟩,_⟩:=HS6.out;clear ok )
        |(have _t:=HS4;go_at_call 19;refine (HSG.out _ HB4.out).mono ?_;rintro e W5 ⟨rfl,ok⟩;have HB5:=aB (aA HB4.out ok);have HS5:=aB (HKP.out _ _ HS4.out ok);clear s0 s1 s2 s3 s4 s5 s6 r0 r1 r2 r3 r4 r5 r6 HS4;obtain ⟨⟨⟨⟨s0,s1,s2,s3⟩,s4,s5,s6⟩,_⟩,⟨⟨r0,r1,r2,r3⟩,r4,r5,r6⟩,_⟩:=HS5.out;clear ok )
        |(have _t:=HS3;go_at_call 14;refine (HAL.out _ HB3.out).mono ?_;rintro e W4 ⟨rfl,ok⟩;have HB4:=aB (aA HB3.out ok);have HS4:=aB (HKP.out _ _ HS3.out ok);clear s0 s1 s2 s3 s4 s5 s6 r0 r1 r2 r3 r4 r5 r6 HS3;obtain ⟨⟨⟨⟨s0,s1,s2,s3⟩,s4,s5,s6⟩,_⟩,⟨⟨r0,r1,r2,r3⟩,r4,r5,r6⟩,_⟩:=HS4.out;clear ok )
        |(have _t:=HV2;go_at_call 10;refine (HEQ.out _ _ _ HU1.out HV2.out).mono ?_;rintro e W3 ⟨rfl,ok⟩;clear HU1 HV2;have HB3:=aB (aA HB2.out ok);have HS3:=aB (HKP.out _ _ HS2.out ok);clear s0 s1 s2 s3 s4 s5 s6 r0 r1 r2 r3 r4 r5 r6 HS2;obtain ⟨⟨⟨⟨s0,s1,s2,s3⟩,s4,s5,s6⟩,_⟩,⟨⟨r0,r1,r2,r3⟩,r4,r5,r6⟩,_⟩:=HS3.out;clear ok )
        |(have _t:=HS1;go_at_call 8;refine (HF2.out _ HB1.out).mono ?_;rintro e W2 ⟨v2,rfl,ho2,ok⟩;have HV2:Hid (FlsAt W2 v2 fy):=ho2.at;obtain ⟨b2,k2,q2⟩:=ho2.form;obtain ⟨m2,hm2⟩:∃ n,n=fy.length:=⟨_,rfl⟩;rw [←hm2] at q2;subst q2;have HU1:=aB (HV1.out.below ok);clear hm2 ho2 HV1;have HB2:=aB (aA HB1.out ok);have HS2:=aB (HKP.out _ _ HS1.out ok);clear s0 s1 s2 s3 s4 s5 s6 r0 r1 r2 r3 r4 r5 r6 HS1;obtain ⟨⟨⟨⟨s0,s1,s2,s3⟩,s4,s5,s6⟩,_⟩,⟨⟨r0,r1,r2,r3⟩,r4,r5,r6⟩,_⟩:=HS2.out;clear ok )
        |(have _t:=HS0;go_at_call 8;refine (HF1.out _ HB0.out).mono ?_;rintro e W1 ⟨v1,rfl,ho1,ok⟩;have HV1:Hid (FlsAt W1 v1 fx):=ho1.at;obtain ⟨b1,k1,q1⟩:=ho1.form;obtain ⟨m1,hm1⟩:∃ n,n=fx.length:=⟨_,rfl⟩;rw [←hm1] at q1;subst q1;clear hm1 ho1;have HB1:=aB (aA HB0.out ok);have HS1:=aB (HKP.out _ _ HS0.out ok);clear s0 s1 s2 s3 s4 s5 s6 r0 r1 r2 r3 r4 r5 r6 HS0;obtain ⟨⟨⟨⟨s0,s1,s2,s3⟩,s4,s5,s6⟩,_⟩,⟨⟨r0,r1,r2,r3⟩,r4,r5,r6⟩,_⟩:=HS1.out;clear ok ))
       go_ret;exact ⟨rfl,HBL.out⟩
     · cases q2
       · obtain rfl:q0=false:=by have:=HON.out;simpa using this
         clear HON
         go_enter Tryz.func7,Tryz.ntmps7
         go_wp2_with (first
          |(have _t:=HS6;go_at_call 11;refine (HLV.out _ HB6.out).mono ?_;rintro e WL ⟨rfl,ok⟩;have HBL:=aB (aA HB6.out ok);clear ok)
          |(have _t:=HS5;go_at_call 20;refine (HSM.out _ HB5.out).mono ?_;rintro e W6 ⟨rfl,ok⟩;have HB6:=aB (aA HB5.out ok);have HS6:=aB (HKP.out _ _ HS5.out ok);clear s0 s1 s2 s3 s4 s5 s6 r0 r1 r2 r3 r4 r5 r6 HS5;obtain ⟨⟨⟨⟨s0,s1,s2,s3⟩,s4,s5,s6⟩,_⟩,⟨⟨r0,r1,r2,r3⟩,r4,r5,r6⟩,_⟩:=HS6.out;clear ok )
          |(have _t:=HS4;go_at_call 19;refine (HSG.out _ HB4.out).mono ?_;rintro e W5 ⟨rfl,ok⟩;have HB5:=aB (aA HB4.out ok);have HS5:=aB (HKP.out _ _ HS4.out ok);clear s0 s1 s2 s3 s4 s5 s6 r0 r1 r2 r3 r4 r5 r6 HS4;obtain ⟨⟨⟨⟨s0,s1,s2,s3⟩,s4,s5,s6⟩,_⟩,⟨⟨r0,r1,r2,r3⟩,r4,r5,r6⟩,_⟩:=HS5.out;clear ok )
          |(have _t:=HS3;go_at_call 14;refine (HAL.out _ HB3.out).mono ?_;rintro e W4 ⟨rfl,ok⟩;have HB4:=aB (aA HB3.out ok);have HS4:=aB (HKP.out _ _ HS3.out ok);clear s0 s1 s2 s3 s4 s5 s6 r0 r1 r2 r3 r4 r5 r6 HS3;obtain ⟨⟨⟨⟨s0,s1,s2,s3⟩,s4,s5,s6⟩,_⟩,⟨⟨r0,r1,r2,r3⟩,r4,r5,r6⟩,_⟩:=HS4.out;clear ok )
          |(have _t:=HV2;go_at_call 10;refine (HEQ.out _ _ _ HU1.out HV2.out).mono ?_;rintro e W3 ⟨rfl,ok⟩;clear HU1 HV2;have HB3:=aB (aA HB2.out ok);have HS3:=aB (HKP.out _ _ HS2.out ok);clear s0 s1 s2 s3 s4 s5 s6 r0 r1 r2 r3 r4 r5 r6 HS2;obtain ⟨⟨⟨⟨s0,s1,s2,s3⟩,s4,s5,s6⟩,_⟩,⟨⟨r0,r1,r2,r3⟩,r4,r5,r6⟩,_⟩:=HS3.out;clear ok )
          |(have _t:=HS1;go_at_call 8;refine (HF2.out _ HB1.out).mono ?_;rintro e W2 ⟨v2,rfl,ho2,ok⟩;have HV2:Hid (FlsAt W2 v2 fy):=ho2.at;obtain ⟨b2,k2,q2⟩:=ho2.form;obtain ⟨m2,hm2⟩:∃ n,n=fy.length:=⟨_,rfl⟩;rw [←hm2] at q2;subst q2;have HU1:=aB (HV1.out.below ok);clear hm2 ho2 HV1;have HB2:=aB (aA HB1.out ok);have HS2:=aB (HKP.out _ _ HS1.out ok);clear s0 s1 s2 s3 s4 s5 s6 r0 r1 r2 r3 r4 r5 r6 HS1;obtain ⟨⟨⟨⟨s0,s1,s2,s3⟩,s4,s5,s6⟩,_⟩,⟨⟨r0,r1,r2,r3⟩,r4,r5,r6⟩,_⟩:=HS2.out;clear ok )
          |(have _t:=HS0;go_at_call 8;refine (HF1.out _ HB0.out).mono ?_;rintro e W1 ⟨v1,rfl,ho1,ok⟩;have HV1:Hid (FlsAt W1 v1 fx):=ho1.at;obtain ⟨b1,k1,q1⟩:=ho1.form;obtain ⟨m1,hm1⟩:∃ n,n=fx.length:=⟨_,rfl⟩;rw [←hm1] at q1;subst q1;clear hm1 ho1;have HB1:=aB (aA HB0.out ok);have HS1:=aB (HKP.out _ _ HS0.out ok);clear s0 s1 s2 s3 s4 s5 s6 r0 r1 r2 r3 r4 r5 r6 HS0;obtain ⟨⟨⟨⟨s0,s1,s2,s3⟩,s4,s5,s6⟩,_⟩,⟨⟨r0,r1,r2,r3⟩,r4,r5,r6⟩,_⟩:=HS1.out;clear ok ))
         go_ret;exact ⟨rfl,HBL.out⟩
       · cases q3
         · obtain rfl:q0=false:=by have:=HON.out;simpa using this
           clear HON
           go_enter Tryz.func7,Tryz.ntmps7
           go_wp2_with (first
            |(have _t:=HS6;go_at_call 11;refine (HLV.out _ HB6.out).mono ?_;rintro e WL ⟨rfl,ok⟩;have HBL:=aB (aA HB6.out ok);clear ok)
            |(have _t:=HS5;go_at_call 20;refine (HSM.out _ HB5.out).mono ?_;rintro e W6 ⟨rfl,ok⟩;have HB6:=aB (aA HB5.out ok);have HS6:=aB (HKP.out _ _ HS5.out ok);clear s0 s1 s2 s3 s4 s5 s6 r0 r1 r2 r3 r4 r5 r6 HS5;obtain ⟨⟨⟨⟨s0,s1,s2,s3⟩,s4,s5,s6⟩,_⟩,⟨⟨r0,r1,r2,r3⟩,r4,r5,r6⟩,_⟩:=HS6.out;clear ok )
            |(have _t:=HS4;go_at_call 19;refine (HSG.out _ HB4.out).mono ?_;rintro e W5 ⟨rfl,ok⟩;have HB5:=aB (aA HB4.out ok);have HS5:=aB (HKP.out _ _ HS4.out ok);clear s0 s1 s2 s3 s4 s5 s6 r0 r1 r2 r3 r4 r5 r6 HS4;obtain ⟨⟨⟨⟨s0,s1,s2,s3⟩,s4,s5,s6⟩,_⟩,⟨⟨r0,r1,r2,r3⟩,r4,r5,r6⟩,_⟩:=HS5.out;clear ok )
            |(have _t:=HS3;go_at_call 14;refine (HAL.out _ HB3.out).mono ?_;rintro e W4 ⟨rfl,ok⟩;have HB4:=aB (aA HB3.out ok);have HS4:=aB (HKP.out _ _ HS3.out ok);clear s0 s1 s2 s3 s4 s5 s6 r0 r1 r2 r3 r4 r5 r6 HS3;obtain ⟨⟨⟨⟨s0,s1,s2,s3⟩,s4,s5,s6⟩,_⟩,⟨⟨r0,r1,r2,r3⟩,r4,r5,r6⟩,_⟩:=HS4.out;clear ok )
            |(have _t:=HV2;go_at_call 10;refine (HEQ.out _ _ _ HU1.out HV2.out).mono ?_;rintro e W3 ⟨rfl,ok⟩;clear HU1 HV2;have HB3:=aB (aA HB2.out ok);have HS3:=aB (HKP.out _ _ HS2.out ok);clear s0 s1 s2 s3 s4 s5 s6 r0 r1 r2 r3 r4 r5 r6 HS2;obtain ⟨⟨⟨⟨s0,s1,s2,s3⟩,s4,s5,s6⟩,_⟩,⟨⟨r0,r1,r2,r3⟩,r4,r5,r6⟩,_⟩:=HS3.out;clear ok )
            |(have _t:=HS1;go_at_call 8;refine (HF2.out _ HB1.out).mono ?_;rintro e W2 ⟨v2,rfl,ho2,ok⟩;have HV2:Hid (FlsAt W2 v2 fy):=ho2.at;obtain ⟨b2,k2,q2⟩:=ho2.form;obtain ⟨m2,hm2⟩:∃ n,n=fy.length:=⟨_,rfl⟩;rw [←hm2] at q2;subst q2;have HU1:=aB (HV1.out.below ok);clear hm2 ho2 HV1;have HB2:=aB (aA HB1.out ok);have HS2:=aB (HKP.out _ _ HS1.out ok);clear s0 s1 s2 s3 s4 s5 s6 r0 r1 r2 r3 r4 r5 r6 HS1;obtain ⟨⟨⟨⟨s0,s1,s2,s3⟩,s4,s5,s6⟩,_⟩,⟨⟨r0,r1,r2,r3⟩,r4,r5,r6⟩,_⟩:=HS2.out;clear ok )
            |(have _t:=HS0;go_at_call 8;refine (HF1.out _ HB0.out).mono ?_;rintro e W1 ⟨v1,rfl,ho1,ok⟩;have HV1:Hid (FlsAt W1 v1 fx):=ho1.at;obtain ⟨b1,k1,q1⟩:=ho1.form;obtain ⟨m1,hm1⟩:∃ n,n=fx.length:=⟨_,rfl⟩;rw [←hm1] at q1;subst q1;clear hm1 ho1;have HB1:=aB (aA HB0.out ok);have HS1:=aB (HKP.out _ _ HS0.out ok);clear s0 s1 s2 s3 s4 s5 s6 r0 r1 r2 r3 r4 r5 r6 HS0;obtain ⟨⟨⟨⟨s0,s1,s2,s3⟩,s4,s5,s6⟩,_⟩,⟨⟨r0,r1,r2,r3⟩,r4,r5,r6⟩,_⟩:=HS1.out;clear ok ))
           go_ret;exact ⟨rfl,HBL.out⟩
         · cases pr<;>cases ps
           · obtain rfl:q0=true:=by have:=HON.out;simpa using this
             clear HON
             go_enter Tryz.func7,Tryz.ntmps7
             go_wp2_with (first
              |(have _t:=HS6;go_at_call 11;refine (HLV.out _ HB6.out).mono ?_;rintro e WL ⟨rfl,ok⟩;have HBL:=aB (aA HB6.out ok);clear ok)
              |(have _t:=HS5;go_at_call 20;refine (HSM.out _ HB5.out).mono ?_;rintro e W6 ⟨rfl,ok⟩;have HB6:=aB (aA HB5.out ok);have HS6:=aB (HKP.out _ _ HS5.out ok);clear s0 s1 s2 s3 s4 s5 s6 r0 r1 r2 r3 r4 r5 r6 HS5;obtain ⟨⟨⟨⟨s0,s1,s2,s3⟩,s4,s5,s6⟩,_⟩,⟨⟨r0,r1,r2,r3⟩,r4,r5,r6⟩,_⟩:=HS6.out;clear ok )
              |(have _t:=HS4;go_at_call 19;refine (HSG.out _ HB4.out).mono ?_;rintro e W5 ⟨rfl,ok⟩;have HB5:=aB (aA HB4.out ok);have HS5:=aB (HKP.out _ _ HS4.out ok);clear s0 s1 s2 s3 s4 s5 s6 r0 r1 r2 r3 r4 r5 r6 HS4;obtain ⟨⟨⟨⟨s0,s1,s2,s3⟩,s4,s5,s6⟩,_⟩,⟨⟨r0,r1,r2,r3⟩,r4,r5,r6⟩,_⟩:=HS5.out;clear ok )
              |(have _t:=HS3;go_at_call 14;refine (HAL.out _ HB3.out).mono ?_;rintro e W4 ⟨rfl,ok⟩;have HB4:=aB (aA HB3.out ok);have HS4:=aB (HKP.out _ _ HS3.out ok);clear s0 s1 s2 s3 s4 s5 s6 r0 r1 r2 r3 r4 r5 r6 HS3;obtain ⟨⟨⟨⟨s0,s1,s2,s3⟩,s4,s5,s6⟩,_⟩,⟨⟨r0,r1,r2,r3⟩,r4,r5,r6⟩,_⟩:=HS4.out;clear ok )
              |(have _t:=HV2;go_at_call 10;refine (HEQ.out _ _ _ HU1.out HV2.out).mono ?_;rintro e W3 ⟨rfl,ok⟩;clear HU1 HV2;have HB3:=aB (aA HB2.out ok);have HS3:=aB (HKP.out _ _ HS2.out ok);clear s0 s1 s2 s3 s4 s5 s6 r0 r1 r2 r3 r4 r5 r6 HS2;obtain ⟨⟨⟨⟨s0,s1,s2,s3⟩,s4,s5,s6⟩,_⟩,⟨⟨r0,r1,r2,r3⟩,r4,r5,r6⟩,_⟩:=HS3.out;clear ok )
              |(have _t:=HS1;go_at_call 8;refine (HF2.out _ HB1.out).mono ?_;rintro e W2 ⟨v2,rfl,ho2,ok⟩;have HV2:Hid (FlsAt W2 v2 fy):=ho2.at;obtain ⟨b2,k2,q2⟩:=ho2.form;obtain ⟨m2,hm2⟩:∃ n,n=fy.length:=⟨_,rfl⟩;rw [←hm2] at q2;subst q2;have HU1:=aB (HV1.out.below ok);clear hm2 ho2 HV1;have HB2:=aB (aA HB1.out ok);have HS2:=aB (HKP.out _ _ HS1.out ok);clear s0 s1 s2 s3 s4 s5 s6 r0 r1 r2 r3 r4 r5 r6 HS1;obtain ⟨⟨⟨⟨s0,s1,s2,s3⟩,s4,s5,s6⟩,_⟩,⟨⟨r0,r1,r2,r3⟩,r4,r5,r6⟩,_⟩:=HS2.out;clear ok )
              |(have _t:=HS0;go_at_call 8;refine (HF1.out _ HB0.out).mono ?_;rintro e W1 ⟨v1,rfl,ho1,ok⟩;have HV1:Hid (FlsAt W1 v1 fx):=ho1.at;obtain ⟨b1,k1,q1⟩:=ho1.form;obtain ⟨m1,hm1⟩:∃ n,n=fx.length:=⟨_,rfl⟩;rw [←hm1] at q1;subst q1;clear hm1 ho1;have HB1:=aB (aA HB0.out ok);have HS1:=aB (HKP.out _ _ HS0.out ok);clear s0 s1 s2 s3 s4 s5 s6 r0 r1 r2 r3 r4 r5 r6 HS0;obtain ⟨⟨⟨⟨s0,s1,s2,s3⟩,s4,s5,s6⟩,_⟩,⟨⟨r0,r1,r2,r3⟩,r4,r5,r6⟩,_⟩:=HS1.out;clear ok ))
             go_ret;exact ⟨rfl,HBL.out⟩
           · obtain rfl:q0=false:=by have:=HON.out;simpa using this
             clear HON
             go_enter Tryz.func7,Tryz.ntmps7
             go_wp2_with (first
              |(have _t:=HS6;go_at_call 11;refine (HLV.out _ HB6.out).mono ?_;rintro e WL ⟨rfl,ok⟩;have HBL:=aB (aA HB6.out ok);clear ok)
              |(have _t:=HS5;go_at_call 20;refine (HSM.out _ HB5.out).mono ?_;rintro e W6 ⟨rfl,ok⟩;have HB6:=aB (aA HB5.out ok);have HS6:=aB (HKP.out _ _ HS5.out ok);clear s0 s1 s2 s3 s4 s5 s6 r0 r1 r2 r3 r4 r5 r6 HS5;obtain ⟨⟨⟨⟨s0,s1,s2,s3⟩,s4,s5,s6⟩,_⟩,⟨⟨r0,r1,r2,r3⟩,r4,r5,r6⟩,_⟩:=HS6.out;clear ok )
              |(have _t:=HS4;go_at_call 19;refine (HSG.out _ HB4.out).mono ?_;rintro e W5 ⟨rfl,ok⟩;have HB5:=aB (aA HB4.out ok);have HS5:=aB (HKP.out _ _ HS4.out ok);clear s0 s1 s2 s3 s4 s5 s6 r0 r1 r2 r3 r4 r5 r6 HS4;obtain ⟨⟨⟨⟨s0,s1,s2,s3⟩,s4,s5,s6⟩,_⟩,⟨⟨r0,r1,r2,r3⟩,r4,r5,r6⟩,_⟩:=HS5.out;clear ok )
              |(have _t:=HS3;go_at_call 14;refine (HAL.out _ HB3.out).mono ?_;rintro e W4 ⟨rfl,ok⟩;have HB4:=aB (aA HB3.out ok);have HS4:=aB (HKP.out _ _ HS3.out ok);clear s0 s1 s2 s3 s4 s5 s6 r0 r1 r2 r3 r4 r5 r6 HS3;obtain ⟨⟨⟨⟨s0,s1,s2,s3⟩,s4,s5,s6⟩,_⟩,⟨⟨r0,r1,r2,r3⟩,r4,r5,r6⟩,_⟩:=HS4.out;clear ok )
              |(have _t:=HV2;go_at_call 10;refine (HEQ.out _ _ _ HU1.out HV2.out).mono ?_;rintro e W3 ⟨rfl,ok⟩;clear HU1 HV2;have HB3:=aB (aA HB2.out ok);have HS3:=aB (HKP.out _ _ HS2.out ok);clear s0 s1 s2 s3 s4 s5 s6 r0 r1 r2 r3 r4 r5 r6 HS2;obtain ⟨⟨⟨⟨s0,s1,s2,s3⟩,s4,s5,s6⟩,_⟩,⟨⟨r0,r1,r2,r3⟩,r4,r5,r6⟩,_⟩:=HS3.out;clear ok )
              |(have _t:=HS1;go_at_call 8;refine (HF2.out _ HB1.out).mono ?_;rintro e W2 ⟨v2,rfl,ho2,ok⟩;have HV2:Hid (FlsAt W2 v2 fy):=ho2.at;obtain ⟨b2,k2,q2⟩:=ho2.form;obtain ⟨m2,hm2⟩:∃ n,n=fy.length:=⟨_,rfl⟩;rw [←hm2] at q2;subst q2;have HU1:=aB (HV1.out.below ok);clear hm2 ho2 HV1;have HB2:=aB (aA HB1.out ok);have HS2:=aB (HKP.out _ _ HS1.out ok);clear s0 s1 s2 s3 s4 s5 s6 r0 r1 r2 r3 r4 r5 r6 HS1;obtain ⟨⟨⟨⟨s0,s1,s2,s3⟩,s4,s5,s6⟩,_⟩,⟨⟨r0,r1,r2,r3⟩,r4,r5,r6⟩,_⟩:=HS2.out;clear ok )
              |(have _t:=HS0;go_at_call 8;refine (HF1.out _ HB0.out).mono ?_;rintro e W1 ⟨v1,rfl,ho1,ok⟩;have HV1:Hid (FlsAt W1 v1 fx):=ho1.at;obtain ⟨b1,k1,q1⟩:=ho1.form;obtain ⟨m1,hm1⟩:∃ n,n=fx.length:=⟨_,rfl⟩;rw [←hm1] at q1;subst q1;clear hm1 ho1;have HB1:=aB (aA HB0.out ok);have HS1:=aB (HKP.out _ _ HS0.out ok);clear s0 s1 s2 s3 s4 s5 s6 r0 r1 r2 r3 r4 r5 r6 HS0;obtain ⟨⟨⟨⟨s0,s1,s2,s3⟩,s4,s5,s6⟩,_⟩,⟨⟨r0,r1,r2,r3⟩,r4,r5,r6⟩,_⟩:=HS1.out;clear ok ))
             go_ret;exact ⟨rfl,HBL.out⟩
           · obtain rfl:q0=false:=by have:=HON.out;simpa using this
             clear HON
             go_enter Tryz.func7,Tryz.ntmps7
             go_wp2_with (first
              |(have _t:=HS6;go_at_call 11;refine (HLV.out _ HB6.out).mono ?_;rintro e WL ⟨rfl,ok⟩;have HBL:=aB (aA HB6.out ok);clear ok)
              |(have _t:=HS5;go_at_call 20;refine (HSM.out _ HB5.out).mono ?_;rintro e W6 ⟨rfl,ok⟩;have HB6:=aB (aA HB5.out ok);have HS6:=aB (HKP.out _ _ HS5.out ok);clear s0 s1 s2 s3 s4 s5 s6 r0 r1 r2 r3 r4 r5 r6 HS5;obtain ⟨⟨⟨⟨s0,s1,s2,s3⟩,s4,s5,s6⟩,_⟩,⟨⟨r0,r1,r2,r3⟩,r4,r5,r6⟩,_⟩:=HS6.out;clear ok )
              |(have _t:=HS4;go_at_call 19;refine (HSG.out _ HB4.out).mono ?_;rintro e W5 ⟨rfl,ok⟩;have HB5:=aB (aA HB4.out ok);have HS5:=aB (HKP.out _ _ HS4.out ok);clear s0 s1 s2 s3 s4 s5 s6 r0 r1 r2 r3 r4 r5 r6 HS4;obtain ⟨⟨⟨⟨s0,s1,s2,s3⟩,s4,s5,s6⟩,_⟩,⟨⟨r0,r1,r2,r3⟩,r4,r5,r6⟩,_⟩:=HS5.out;clear ok )
              |(have _t:=HS3;go_at_call 14;refine (HAL.out _ HB3.out).mono ?_;rintro e W4 ⟨rfl,ok⟩;have HB4:=aB (aA HB3.out ok);have HS4:=aB (HKP.out _ _ HS3.out ok);clear s0 s1 s2 s3 s4 s5 s6 r0 r1 r2 r3 r4 r5 r6 HS3;obtain ⟨⟨⟨⟨s0,s1,s2,s3⟩,s4,s5,s6⟩,_⟩,⟨⟨r0,r1,r2,r3⟩,r4,r5,r6⟩,_⟩:=HS4.out;clear ok )
              |(have _t:=HV2;go_at_call 10;refine (HEQ.out _ _ _ HU1.out HV2.out).mono ?_;rintro e W3 ⟨rfl,ok⟩;clear HU1 HV2;have HB3:=aB (aA HB2.out ok);have HS3:=aB (HKP.out _ _ HS2.out ok);clear s0 s1 s2 s3 s4 s5 s6 r0 r1 r2 r3 r4 r5 r6 HS2;obtain ⟨⟨⟨⟨s0,s1,s2,s3⟩,s4,s5,s6⟩,_⟩,⟨⟨r0,r1,r2,r3⟩,r4,r5,r6⟩,_⟩:=HS3.out;clear ok )
              |(have _t:=HS1;go_at_call 8;refine (HF2.out _ HB1.out).mono ?_;rintro e W2 ⟨v2,rfl,ho2,ok⟩;have HV2:Hid (FlsAt W2 v2 fy):=ho2.at;obtain ⟨b2,k2,q2⟩:=ho2.form;obtain ⟨m2,hm2⟩:∃ n,n=fy.length:=⟨_,rfl⟩;rw [←hm2] at q2;subst q2;have HU1:=aB (HV1.out.below ok);clear hm2 ho2 HV1;have HB2:=aB (aA HB1.out ok);have HS2:=aB (HKP.out _ _ HS1.out ok);clear s0 s1 s2 s3 s4 s5 s6 r0 r1 r2 r3 r4 r5 r6 HS1;obtain ⟨⟨⟨⟨s0,s1,s2,s3⟩,s4,s5,s6⟩,_⟩,⟨⟨r0,r1,r2,r3⟩,r4,r5,r6⟩,_⟩:=HS2.out;clear ok )
              |(have _t:=HS0;go_at_call 8;refine (HF1.out _ HB0.out).mono ?_;rintro e W1 ⟨v1,rfl,ho1,ok⟩;have HV1:Hid (FlsAt W1 v1 fx):=ho1.at;obtain ⟨b1,k1,q1⟩:=ho1.form;obtain ⟨m1,hm1⟩:∃ n,n=fx.length:=⟨_,rfl⟩;rw [←hm1] at q1;subst q1;clear hm1 ho1;have HB1:=aB (aA HB0.out ok);have HS1:=aB (HKP.out _ _ HS0.out ok);clear s0 s1 s2 s3 s4 s5 s6 r0 r1 r2 r3 r4 r5 r6 HS0;obtain ⟨⟨⟨⟨s0,s1,s2,s3⟩,s4,s5,s6⟩,_⟩,⟨⟨r0,r1,r2,r3⟩,r4,r5,r6⟩,_⟩:=HS1.out;clear ok ))
             go_ret;exact ⟨rfl,HBL.out⟩
           · obtain rfl:q0=true:=by have:=HON.out;simpa using this
             clear HON
             go_enter Tryz.func7,Tryz.ntmps7
             go_wp2_with (first
              |(have _t:=HS6;go_at_call 11;refine (HLV.out _ HB6.out).mono ?_;rintro e WL ⟨rfl,ok⟩;have HBL:=aB (aA HB6.out ok);clear ok)
              |(have _t:=HS5;go_at_call 20;refine (HSM.out _ HB5.out).mono ?_;rintro e W6 ⟨rfl,ok⟩;have HB6:=aB (aA HB5.out ok);have HS6:=aB (HKP.out _ _ HS5.out ok);clear s0 s1 s2 s3 s4 s5 s6 r0 r1 r2 r3 r4 r5 r6 HS5;obtain ⟨⟨⟨⟨s0,s1,s2,s3⟩,s4,s5,s6⟩,_⟩,⟨⟨r0,r1,r2,r3⟩,r4,r5,r6⟩,_⟩:=HS6.out;clear ok )
              |(have _t:=HS4;go_at_call 19;refine (HSG.out _ HB4.out).mono ?_;rintro e W5 ⟨rfl,ok⟩;have HB5:=aB (aA HB4.out ok);have HS5:=aB (HKP.out _ _ HS4.out ok);clear s0 s1 s2 s3 s4 s5 s6 r0 r1 r2 r3 r4 r5 r6 HS4;obtain ⟨⟨⟨⟨s0,s1,s2,s3⟩,s4,s5,s6⟩,_⟩,⟨⟨r0,r1,r2,r3⟩,r4,r5,r6⟩,_⟩:=HS5.out;clear ok )
              |(have _t:=HS3;go_at_call 14;refine (HAL.out _ HB3.out).mono ?_;rintro e W4 ⟨rfl,ok⟩;have HB4:=aB (aA HB3.out ok);have HS4:=aB (HKP.out _ _ HS3.out ok);clear s0 s1 s2 s3 s4 s5 s6 r0 r1 r2 r3 r4 r5 r6 HS3;obtain ⟨⟨⟨⟨s0,s1,s2,s3⟩,s4,s5,s6⟩,_⟩,⟨⟨r0,r1,r2,r3⟩,r4,r5,r6⟩,_⟩:=HS4.out;clear ok )
              |(have _t:=HV2;go_at_call 10;refine (HEQ.out _ _ _ HU1.out HV2.out).mono ?_;rintro e W3 ⟨rfl,ok⟩;clear HU1 HV2;have HB3:=aB (aA HB2.out ok);have HS3:=aB (HKP.out _ _ HS2.out ok);clear s0 s1 s2 s3 s4 s5 s6 r0 r1 r2 r3 r4 r5 r6 HS2;obtain ⟨⟨⟨⟨s0,s1,s2,s3⟩,s4,s5,s6⟩,_⟩,⟨⟨r0,r1,r2,r3⟩,r4,r5,r6⟩,_⟩:=HS3.out;clear ok )
              |(have _t:=HS1;go_at_call 8;refine (HF2.out _ HB1.out).mono ?_;rintro e W2 ⟨v2,rfl,ho2,ok⟩;have HV2:Hid (FlsAt W2 v2 fy):=ho2.at;obtain ⟨b2,k2,q2⟩:=ho2.form;obtain ⟨m2,hm2⟩:∃ n,n=fy.length:=⟨_,rfl⟩;rw [←hm2] at q2;subst q2;have HU1:=aB (HV1.out.below ok);clear hm2 ho2 HV1;have HB2:=aB (aA HB1.out ok);have HS2:=aB (HKP.out _ _ HS1.out ok);clear s0 s1 s2 s3 s4 s5 s6 r0 r1 r2 r3 r4 r5 r6 HS1;obtain ⟨⟨⟨⟨s0,s1,s2,s3⟩,s4,s5,s6⟩,_⟩,⟨⟨r0,r1,r2,r3⟩,r4,r5,r6⟩,_⟩:=HS2.out;clear ok )
              |(have _t:=HS0;go_at_call 8;refine (HF1.out _ HB0.out).mono ?_;rintro e W1 ⟨v1,rfl,ho1,ok⟩;have HV1:Hid (FlsAt W1 v1 fx):=ho1.at;obtain ⟨b1,k1,q1⟩:=ho1.form;obtain ⟨m1,hm1⟩:∃ n,n=fx.length:=⟨_,rfl⟩;rw [←hm1] at q1;subst q1;clear hm1 ho1;have HB1:=aB (aA HB0.out ok);have HS1:=aB (HKP.out _ _ HS0.out ok);clear s0 s1 s2 s3 s4 s5 s6 r0 r1 r2 r3 r4 r5 r6 HS0;obtain ⟨⟨⟨⟨s0,s1,s2,s3⟩,s4,s5,s6⟩,_⟩,⟨⟨r0,r1,r2,r3⟩,r4,r5,r6⟩,_⟩:=HS1.out;clear ok ))
             go_ret;exact ⟨rfl,HBL.out⟩
end Go.Proofs.YtlmpiohbmlddiaaGreatDoor
namespace Go.Proofs.YtlmpiohbmlddiaaGreatDoor
open Go.ChangeShapes Go.WideShapes Go.ChangeAt Go.RowKit
set_option maxRecDepth 100000
theorem PB:Tryz.prog.cellsOf 24=4:=by kernel_rfl
theorem lI:Tryz.prog.cellsOf 9=1:=by kernel_rfl
theorem KF:Tryz.prog.cellsOf 129=4:=by kernel_rfl
theorem DZ:Tryz.prog.cellsOf 62=2:=by kernel_rfl
theorem EA:Tryz.prog.cellsOf 60=6:=by kernel_rfl
theorem EB:Tryz.prog.cellsOf 57=1:=by kernel_rfl
theorem AX:Tryz.prog.cellsOf 58=1:=by kernel_rfl
theorem AY:Tryz.prog.cellsOf 25=1:=by kernel_rfl
theorem AZ:Tryz.prog.cellsOf 27=1:=by kernel_rfl
theorem EC:Tryz.prog.cellsOf 3=1:=by kernel_rfl
theorem KG {H:Type} {enc:TypeId×Value→H} {W:World} {base:Nat} {held:Bool} {n:Nat} {g o:Nat} {cs:List Value} {x:DataW H×List MemPlace} (hc:W.cells? base ⟨g,o,none⟩ 4=some cs) (h:DataW.trod enc Tryz.prog W base (fun _=>true) held n 129 cs=some x):∃ d:Pn,PnIn W g o d∧d.nm.size≤9223372036854775807:=by
 have hs:Tryz.prog.underlying 129=some (.struct (Tryz.prog.fieldsOf 129)):=by kernel_rfl
 obtain ⟨xs,n',_,_,_,hxl,hf⟩:=DataW.trod_struct hs h;have hsz:(Tryz.prog.fieldsOf 129).size=2:=by kernel_rfl
 obtain ⟨_,hcl,hq⟩:=World.cells?_some hc;obtain ⟨f0,i0,t0,o0⟩:=bC (fs:=Tryz.prog.fieldsOf 129) (i:=0) (ty:=9) (off:=0) (by kernel_rfl);obtain ⟨f1,i1,t1,o1⟩:=bC (fs:=Tryz.prog.fieldsOf 129) (i:=1) (ty:=52) (off:=1) (by kernel_rfl);have r0:=hf 0 f0 i0;have r1:=hf 1 f1 i1;rw [t0,o0,lI,List.getElem?_eq_getElem (by omega:0<xs.length)] at r0;rw [t1,o1,lN,List.getElem?_eq_getElem (by omega:1<xs.length)] at r1;obtain ⟨s,e0,_,hs0⟩:=DataW.trod_string Tryz.underlying9 r0;obtain ⟨a,b,c,ea,eb,ec,_⟩:=lX r1;have ka:((cs.drop 1).take 3)[0]? =some (.int .i64 a):=ea;have kb:((cs.drop 1).take 3)[1]? =some (.int .i64 b):=eb;have kc:((cs.drop 1).take 3)[2]? =some (.int .i64 c):=ec;have q0:=hq 0 (by decide);have q1:=hq 1 (by decide);have q2:=hq 2 (by decide);have q3:=hq 3 (by decide);have ad:∀ i,(⟨g,o,none⟩:Addr).add i=⟨g,o+i,none⟩:=fun i=>by unfold Addr.add;split<;>simp_all
 simp at ka kb kc
 rw [ad,fD e0] at q0;rw [ad,ka] at q1;rw [ad,kb] at q2;rw [ad,kc] at q3;exact ⟨⟨s,a,b,c⟩,⟨⟨q0,q1,q2,q3⟩,cE q0⟩,by unfold maxLen at hs0;exact hs0⟩
theorem ED {H:Type} {enc:TypeId×Value→H} {W:World} {base:Nat} {held:Bool} {n:Nat} {g o:Nat} {cs:List Value} {x:DataW H×List MemPlace} (hc:W.cells? base ⟨g,o,none⟩ 2=some cs) (h:DataW.trod enc Tryz.prog W base (fun _=>true) held n 62 cs=some x):∃ d:Eg,EgIn W g o d∧d.lb.size≤9223372036854775807:=by
 have hs:Tryz.prog.underlying 62=some (.struct (Tryz.prog.fieldsOf 62)):=by kernel_rfl
 obtain ⟨xs,n',_,_,_,hxl,hf⟩:=DataW.trod_struct hs h;have hsz:(Tryz.prog.fieldsOf 62).size=2:=by kernel_rfl
 obtain ⟨_,hcl,hq⟩:=World.cells?_some hc;obtain ⟨f0,i0,t0,o0⟩:=bC (fs:=Tryz.prog.fieldsOf 62) (i:=0) (ty:=9) (off:=0) (by kernel_rfl);obtain ⟨f1,i1,t1,o1⟩:=bC (fs:=Tryz.prog.fieldsOf 62) (i:=1) (ty:=3) (off:=1) (by kernel_rfl);have r0:=hf 0 f0 i0;have r1:=hf 1 f1 i1;rw [t0,o0,lI,List.getElem?_eq_getElem (by omega:0<xs.length)] at r0;rw [t1,o1,EC,List.getElem?_eq_getElem (by omega:1<xs.length)] at r1;obtain ⟨s,e0,_,hs0⟩:=DataW.trod_string Tryz.underlying9 r0;obtain ⟨k,e1,_,_⟩:=DataW.trod_int Tryz.underlying3 r1;have q0:=hq 0 (by decide);have q1:=hq 1 (by decide);have ad:∀ i,(⟨g,o,none⟩:Addr).add i=⟨g,o+i,none⟩:=fun i=>by unfold Addr.add;split<;>simp_all
 rw [ad,fD e0] at q0;rw [ad,fD e1] at q1;exact ⟨⟨s,k⟩,⟨⟨q0,q1⟩,cE q0⟩,by unfold maxLen at hs0;exact hs0⟩
theorem PC {H:Type} {enc:TypeId×Value→H} {W:World} {base fuel:Nat} {held:Bool} {cs:List Value} {x:DataW H×List MemPlace} (h:DataW.trod enc Tryz.prog W base (fun _=>true) held fuel 57 cs=some x):
 ∃ v L,cs=[v]∧PinsAt W v L∧L.length≤9223372036854775807∧∀ d ∈ L,d.nm.size≤9223372036854775807:=by
 rcases Go.Deep.open_slice Tryz.underlying57 h with ⟨rfl,_⟩|⟨ad,len,cap,m,n,D,Pl,rfl,_,hl,hcm,hm,hx,hel⟩
 · exact ⟨_,[],rfl,⟨none,0,rfl,Nat.le_refl _,Or.inl rfl⟩,by simp,(fun d hd=>by cases hd)⟩
 · have hz:len≤9223372036854775807:=by unfold maxLen at hcm;omega
   rcases Nat.eq_zero_or_pos len with h0|h0
   · subst h0
     exact ⟨_,[],rfl,⟨_,_,rfl,Nat.zero_le _,Or.inl rfl⟩,by simp,(fun d hd=>by cases hd)⟩
   · have hmm:len≤m:=by rw [hm];simp;exact hl
     rw [KF] at hel;obtain ⟨g,off,spot⟩:=ad;obtain ⟨cs0,hc0,_⟩:=hel 0 (by omega);obtain ⟨_,hln,hq⟩:=World.cells?_some hc0;have hcell:=hq 0 (by decide);rw [List.getElem?_eq_getElem (by omega:0<cs0.length)] at hcell;have hspot:spot=none:=by simpa [Addr.add] using World.cell?_spot hcell
     subst hspot;have ad2:∀ o i,(⟨g,o,none⟩:Addr).add i=⟨g,o+i,none⟩:=fun o i=>by unfold Addr.add;split<;>simp_all
     obtain ⟨L,hL,hP⟩:=gC (P:=fun i (d:Pn)=>PnIn W g (off+i*4) d∧d.nm.size≤9223372036854775807) (n:=len) fun i hi=>by
      obtain ⟨cs,hc,ht⟩:=hel i (by omega);rw [ad2] at hc;exact KG hc ht
     subst hL;refine ⟨_,L,rfl,⟨_,_,rfl,hl,Or.inr ⟨g,off,rfl,?_,fun i hi=>(hP i hi).1⟩⟩,hz,?_⟩
     · have:=cE hcell
       rw [ad2,ad2] at this;exact this
     · intro d hd
       obtain ⟨i,hi,rfl⟩:=List.getElem_of_mem hd;exact (hP i hi).2
theorem KH {H:Type} {enc:TypeId×Value→H} {W:World} {base fuel:Nat} {held:Bool} {cs:List Value} {x:DataW H×List MemPlace} (h:DataW.trod enc Tryz.prog W base (fun _=>true) held fuel 58 cs=some x):
 ∃ v L,cs=[v]∧EdgesAt W v L∧L.length≤9223372036854775807∧∀ d ∈ L,d.lb.size≤9223372036854775807:=by
 rcases Go.Deep.open_slice Tryz.underlying58 h with ⟨rfl,_⟩|⟨ad,len,cap,m,n,D,Pl,rfl,_,hl,hcm,hm,hx,hel⟩
 · exact ⟨_,[],rfl,⟨none,0,rfl,Nat.le_refl _,Or.inl rfl⟩,by simp,(fun d hd=>by cases hd)⟩
 · have hz:len≤9223372036854775807:=by unfold maxLen at hcm;omega
   rcases Nat.eq_zero_or_pos len with h0|h0
   · subst h0
     exact ⟨_,[],rfl,⟨_,_,rfl,Nat.zero_le _,Or.inl rfl⟩,by simp,(fun d hd=>by cases hd)⟩
   · have hmm:len≤m:=by rw [hm];simp;exact hl
     rw [DZ] at hel;obtain ⟨g,off,spot⟩:=ad;obtain ⟨cs0,hc0,_⟩:=hel 0 (by omega);obtain ⟨_,hln,hq⟩:=World.cells?_some hc0;have hcell:=hq 0 (by decide);rw [List.getElem?_eq_getElem (by omega:0<cs0.length)] at hcell;have hspot:spot=none:=by simpa [Addr.add] using World.cell?_spot hcell
     subst hspot;have ad2:∀ o i,(⟨g,o,none⟩:Addr).add i=⟨g,o+i,none⟩:=fun o i=>by unfold Addr.add;split<;>simp_all
     obtain ⟨L,hL,hP⟩:=gC (P:=fun i (d:Eg)=>EgIn W g (off+i*2) d∧d.lb.size≤9223372036854775807) (n:=len) fun i hi=>by
      obtain ⟨cs,hc,ht⟩:=hel i (by omega);rw [ad2] at hc;exact ED hc ht
     subst hL;refine ⟨_,L,rfl,⟨_,_,rfl,hl,Or.inr ⟨g,off,rfl,?_,fun i hi=>(hP i hi).1⟩⟩,hz,?_⟩
     · have:=cE hcell
       rw [ad2,ad2] at this;exact this
     · intro d hd
       obtain ⟨i,hi,rfl⟩:=List.getElem_of_mem hd;exact (hP i hi).2
def RL (n:Nd):Prop:=n.nm.size≤9223372036854775807∧(n.cx.length≤9223372036854775807∧∀ d ∈ n.cx,d.nm.size≤9223372036854775807)∧n.ed.length≤9223372036854775807∧∀ d ∈ n.ed,d.lb.size≤9223372036854775807
theorem EF {H:Type} {enc:TypeId×Value→H} {W:World} {base:Nat} {held:Bool} {n:Nat} {g o:Nat} {cs:List Value} {x:DataW H×List MemPlace} (hc:W.cells? base ⟨g,o,none⟩ 6=some cs) (h:DataW.trod enc Tryz.prog W base (fun _=>true) held n 60 cs=some x):∃ d:Nd,(∃ vc ve,NdIn W g o d vc ve)∧RL d:=by
 have hs:Tryz.prog.underlying 60=some (.struct (Tryz.prog.fieldsOf 60)):=by kernel_rfl
 obtain ⟨xs,n',_,_,_,hxl,hf⟩:=DataW.trod_struct hs h;have hsz:(Tryz.prog.fieldsOf 60).size=4:=by kernel_rfl
 obtain ⟨_,hcl,hq⟩:=World.cells?_some hc;obtain ⟨f0,i0,t0,o0⟩:=bC (fs:=Tryz.prog.fieldsOf 60) (i:=0) (ty:=9) (off:=0) (by kernel_rfl);obtain ⟨f1,i1,t1,o1⟩:=bC (fs:=Tryz.prog.fieldsOf 60) (i:=1) (ty:=52) (off:=1) (by kernel_rfl);obtain ⟨f2,i2,t2,o2⟩:=bC (fs:=Tryz.prog.fieldsOf 60) (i:=2) (ty:=57) (off:=4) (by kernel_rfl);obtain ⟨f3,i3,t3,o3⟩:=bC (fs:=Tryz.prog.fieldsOf 60) (i:=3) (ty:=58) (off:=5) (by kernel_rfl);have r0:=hf 0 f0 i0;have r1:=hf 1 f1 i1;have r2:=hf 2 f2 i2;have r3:=hf 3 f3 i3;rw [t0,o0,lI,List.getElem?_eq_getElem (by omega:0<xs.length)] at r0;rw [t1,o1,lN,List.getElem?_eq_getElem (by omega:1<xs.length)] at r1;rw [t2,o2,EB,List.getElem?_eq_getElem (by omega:2<xs.length)] at r2;rw [t3,o3,AX,List.getElem?_eq_getElem (by omega:3<xs.length)] at r3;obtain ⟨s,e0,_,hs0⟩:=DataW.trod_string Tryz.underlying9 r0;obtain ⟨a,b,c,ea,eb,ec,_⟩:=lX r1;obtain ⟨vc,L1,e2,h2,z2,m2⟩:=PC r2
 obtain ⟨ve,L2,e3,h3,z3,m3⟩:=KH r3;have ka:((cs.drop 1).take 3)[0]? =some (.int .i64 a):=ea;have kb:((cs.drop 1).take 3)[1]? =some (.int .i64 b):=eb;have kc:((cs.drop 1).take 3)[2]? =some (.int .i64 c):=ec;have q0:=hq 0 (by decide);have q1:=hq 1 (by decide);have q2:=hq 2 (by decide);have q3:=hq 3 (by decide);have q4:=hq 4 (by decide);have q5:=hq 5 (by decide);have ad:∀ i,(⟨g,o,none⟩:Addr).add i=⟨g,o+i,none⟩:=fun i=>by unfold Addr.add;split<;>simp_all
 simp at ka kb kc
 rw [ad,fD e0] at q0;rw [ad,ka] at q1;rw [ad,kb] at q2;rw [ad,kc] at q3;rw [ad,fD e2] at q4;rw [ad,fD e3] at q5;exact ⟨⟨s,a,b,c,L1,L2⟩,⟨vc,ve,⟨q0,q1,q2,q3,q4,q5⟩,⟨h2,h3⟩,cE q0⟩,by unfold maxLen at hs0;exact hs0,⟨z2,m2⟩,z3,m3⟩
theorem KI {H:Type} {enc:TypeId×Value→H} {W:World} {base fuel:Nat} {held:Bool} {cs:List Value} {x:DataW H×List MemPlace} (h:DataW.trod enc Tryz.prog W base (fun _=>true) held fuel 25 cs=some x):
 ∃ v L,cs=[v]∧NodesAt W v L∧L.length≤9223372036854775807∧∀ d ∈ L,RL d:=by
 rcases Go.Deep.open_slice Tryz.underlying25 h with ⟨rfl,_⟩|⟨ad,len,cap,m,n,D,Pl,rfl,_,hl,hcm,hm,hx,hel⟩
 · exact ⟨_,[],rfl,⟨none,0,rfl,Nat.le_refl _,Or.inl rfl⟩,by simp,(fun d hd=>by cases hd)⟩
 · have hz:len≤9223372036854775807:=by unfold maxLen at hcm;omega
   rcases Nat.eq_zero_or_pos len with h0|h0
   · subst h0
     exact ⟨_,[],rfl,⟨_,_,rfl,Nat.zero_le _,Or.inl rfl⟩,by simp,(fun d hd=>by cases hd)⟩
   · have hmm:len≤m:=by rw [hm];simp;exact hl
     rw [EA] at hel;obtain ⟨g,off,spot⟩:=ad;obtain ⟨cs0,hc0,_⟩:=hel 0 (by omega);obtain ⟨_,hln,hq⟩:=World.cells?_some hc0;have hcell:=hq 0 (by decide);rw [List.getElem?_eq_getElem (by omega:0<cs0.length)] at hcell;have hspot:spot=none:=by simpa [Addr.add] using World.cell?_spot hcell
     subst hspot;have ad2:∀ o i,(⟨g,o,none⟩:Addr).add i=⟨g,o+i,none⟩:=fun o i=>by unfold Addr.add;split<;>simp_all
     obtain ⟨L,hL,hP⟩:=gC (P:=fun i (d:Nd)=>(∃ vc ve,NdIn W g (off+i*6) d vc ve)∧RL d) (n:=len) fun i hi=>by
      obtain ⟨cs,hc,ht⟩:=hel i (by omega);rw [ad2] at hc;exact EF hc ht
     subst hL;refine ⟨_,L,rfl,⟨_,_,rfl,hl,Or.inr ⟨g,off,rfl,?_,fun i hi=>(hP i hi).1⟩⟩,hz,?_⟩
     · have:=cE hcell
       rw [ad2,ad2] at this;exact this
     · intro d hd
       obtain ⟨i,hi,rfl⟩:=List.getElem_of_mem hd;exact (hP i hi).2
theorem KJ:Tryz.prog.bytesOf 56=144:=by kernel_rfl
theorem PD {H:Type} {enc:TypeId×Value→H} {W:World} {base fuel:Nat} {held:Bool} {cs:List Value} {x:DataW H×List MemPlace} (h:DataW.trod enc Tryz.prog W base (fun _=>true) held fuel 28 cs=some x):
 ∃ v L,cs=[v]∧DirsAt W v L∧L.length≤9223372036854775807∧(∀ d ∈ L,DrN d)∧((x.1.weights Tryz.prog 28).all (· ≤reachBytes)=true→FitP1 L∧L.length*144≤140737488355328):=by
 rcases Go.Deep.open_slice Tryz.underlying28 h with ⟨rfl,_⟩|⟨ad,len,cap,m,n,D,Pl,rfl,_,hl,hcm,hm,hx,hel⟩
 · exact ⟨_,[],rfl,⟨none,0,rfl,Nat.le_refl _,Or.inl rfl⟩,by simp,(fun d hd=>by cases hd),fun _=>⟨(fun d hd=>by cases hd),by simp⟩⟩
 · have hz:len≤9223372036854775807:=by unfold maxLen at hcm;omega
   rcases Nat.eq_zero_or_pos len with h0|h0
   · subst h0
     exact ⟨_,[],rfl,⟨_,_,rfl,Nat.zero_le _,Or.inl rfl⟩,by simp,(fun d hd=>by cases hd),fun _=>⟨(fun d hd=>by cases hd),by simp⟩⟩
   · have hmm:len≤m:=by rw [hm];simp;exact hl
     rw [JF] at hel;obtain ⟨g,off,spot⟩:=ad;obtain ⟨cs0,hc0,_⟩:=hel 0 (by omega);obtain ⟨_,hln,hq⟩:=World.cells?_some hc0;have hcell:=hq 0 (by decide);rw [List.getElem?_eq_getElem (by omega:0<cs0.length)] at hcell;have hspot:spot=none:=by simpa [Addr.add] using World.cell?_spot hcell
     subst hspot
     obtain ⟨L,hL,hP⟩:=gC (P:=fun i (d:Dr)=>(∃ u v1 v2 v3,DrIn W g (off+i*9) d u v1 v2 v3)∧DrN d∧(((D i).weights Tryz.prog 56).all (· ≤reachBytes)=true→d.pa.length*16≤140737488355328)) (n:=len) fun i hi=>by
      obtain ⟨cs,hc,ht⟩:=hel i (by omega);rw [oN] at hc;exact MV hc ht
     subst hL;refine ⟨_,L,rfl,⟨_,_,rfl,hl,Or.inr ⟨g,off,rfl,fun i hi=>(hP i hi).1⟩⟩,hz,?_,fun hr=> ?_⟩
     · intro d hd
       obtain ⟨i,hi,rfl⟩:=List.getElem_of_mem hd;exact (hP i hi).2.1
     · have hxi:x.1= .slice ((List.range L.length).map D) ((List.range (m - L.length)).map fun j=>D (L.length+j)):=by rw [hx]
       refine ⟨?_,by
        rw [hxi] at hr;have hb:=(nM Tryz.underlying28 hr).1;rw [List.length_map,List.length_range,KJ] at hb;unfold reachBytes at hb;omega⟩
       intro d hd;obtain ⟨i,hi,rfl⟩:=List.getElem_of_mem hd;have hxi:x.1= .slice ((List.range L.length).map D) ((List.range (m - L.length)).map fun j=>D (L.length+j)):=by rw [hx]
       rw [hxi] at hr;exact (hP i hi).2.2 ((nM Tryz.underlying28 hr).2 (D i) (List.mem_map.2 ⟨i,List.mem_range.2 (by omega),rfl⟩))
end Go.Proofs.YtlmpiohbmlddiaaGreatDoor
