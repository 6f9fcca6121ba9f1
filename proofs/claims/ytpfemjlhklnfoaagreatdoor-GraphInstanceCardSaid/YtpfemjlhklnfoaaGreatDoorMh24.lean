/- Wg5, Gl2, Gt1, Gt2: their declarations that are needed, laid in one text, remarks and blanks left out. -/
import Derived.Test.YtpfemjlhklnfoaaGreatDoorMh23
namespace Go.Proofs.YtpfemjlhklnfoaaGreatDoor
open Go.RowKit Go.Maps Go.WideMaps
set_option maxRecDepth 100000
def iT (ds1 ds2 ds3:List Dp):List (Dp×Int):=ds1.map (fun d=>(d,1))++ds2.map (fun d=>(d,1))++ds3.map (fun d=>(d,2))
theorem DD {w5 w5' w6 w7:World} {B:Nat} {O ds1 ds2 ds3:List Dp} {v1 vd v2:Value} {ps pd qs:List (Wt×List Sp)} (hB:B≤w5.heap.size) (hd:OwnWt w5 B vd pd) (td:eK O 1 ds1.length ds2 pd) (hb5:Below w5.heap.size w5 w5') (h1:OwnWt w6 w5'.heap.size v1 ps) (t1:eK O 1 0 ds1 ps) (hb6:Below w5'.heap.size w5' w6) (h2:OwnWt w7 w6.heap.size v2 qs) (t2:eK O 2 (ds1.length+ds2.length) ds3 qs) (hb:Below w6.heap.size w6 w7) (hl:ds1.length+ds2.length+ds3.length≤100000000):Calls Tryz.prog 215 #[.slice (some ⟨w7.heap.size,0,none⟩) 3 3] (w7.alloc (.cells #[v1,vd,v2] 111)) fun e w'=>∃ v,e= .returned v∧∃ Y,dO O (iT ds1 ds2 ds3) w' B v Y∧Below w7.heap.size w7 w':=by
 have e0:[(v1,ps),(vd,pd),(v2,qs)].flatMap (·.2)=ps++(pd++qs):=by simp
 have t0:=(TagD.nil O).more (k:=1) (ds:=ds1) (qs:=ps) t1;rw [List.nil_append,List.nil_append] at t0;have t3:=t0.more (k:=1) (ds:=ds2) (qs:=pd) (by rw [List.length_map];exact td);have t4:=t3.more (k:=2) (ds:=ds3) (qs:=qs) (by rw [List.length_append,List.length_map,List.length_map];exact t2);have hd5:=hd.below hb5;have hd6:=hd5.below hb6;have hB6:B≤w6.heap.size:=Nat.le_trans hB (Nat.le_trans hb5.size hb6.size);refine zY (Ls:=[(v1,ps),(vd,pd),(v2,qs)]) (E:=iT ds1 ds2 ds3) (fun L hL=> ?_) ?_ ?_ (by unfold iT;simp only [List.length_append,List.length_map];exact hl) rfl (by omega) (Nat.le_trans hB6 hb.size)
 · simp at hL
   rcases hL with rfl|rfl|rfl
   · exact (h1.base (Nat.le_trans hB hb5.size)).below hb
   · exact hd6.below hb
   · exact h2.base hB6
 · rw [e0,List.pairwise_append,List.pairwise_append]
   refine ⟨h1.2.2,⟨hd.2.2,h2.2.2,iI hd6 h2⟩,fun p hp q hq=> ?_⟩
   rcases List.mem_append.1 hq with hq|hq
   · exact (iI hd5 h1 q hq p hp).symm
   · exact iI h1 h2 p hp q hq
 · rw [e0,←List.append_assoc]
   exact t4
set_option maxHeartbeats 12800000 in
theorem oI {w:World} {O:List Dp} {v4:Value} (h:DepsAt w v4 O) (hlen:O.length≤9223372036854775807) (hn:∀ d ∈ O,d.nm.size≤9223372036854775807) {ds1 ds2 ds3:List Dp} {p1 p2 p3:Option Addr} {r1 r2 r3:Nat} (hp1:DepsAt w (.slice p1 ds1.length r1) ds1) (hp2:DepsAt w (.slice p2 ds2.length r2) ds2) (hp3:DepsAt w (.slice p3 ds3.length r3) ds3) (hf1:lM O ds1) (hf2:lM O ds2) (hf3:lM O ds3) (hl:ds1.length+ds2.length+ds3.length≤100000000) (dev:Bool) {dd:List Dp} (hdd:dd=if dev=true then ds2 else []):Calls Tryz.prog 165 #[.agg #[.slice p1 ds1.length r1,.slice p2 ds2.length r2,.slice p3 ds3.length r3,v4],.bool dev] w fun e w'=>∃ v,e= .returned v∧∃ Y,dO O (iT ds1 dd ds3) w' w.heap.size v Y∧Below w.heap.size w w':=by
 obtain ⟨ad,cap,rfl,hcap,_⟩:=h.el;have HB0:Hid (Below w.heap.size w (w.alloc (.cells #[.slice p1 ds1.length r1,.slice p2 ds2.length r2,.slice p3 ds3.length r3,.slice ad O.length cap] 57))):=aD _ _;have HOV:Hid (Calls Tryz.prog 213 #[.agg #[.slice p1 ds1.length r1,.slice p2 ds2.length r2,.slice p3 ds3.length r3,.slice ad O.length cap]] (w.alloc (.cells #[.slice p1 ds1.length r1,.slice p2 ds2.length r2,.slice p3 ds3.length r3,.slice ad O.length cap] 57)) fun e w'=>∃ M,e= .returned (.agg #[.slice ad O.length cap,.map (some M)])∧(∃ n,SmAt w' M n (.int .i64 0) (aJ O))∧Below (w.alloc (.cells #[.slice p1 ds1.length r1,.slice p2 ds2.length r2,.slice p3 ds3.length r3,.slice ad O.length cap] 57)).heap.size (w.alloc (.cells #[.slice p1 ds1.length r1,.slice p2 ds2.length r2,.slice p3 ds3.length r3,.slice ad O.length cap] 57)) w'):=(rX (h.below HB0.out) hlen hn).mono fun e w' ⟨h1,h2,h3⟩=>⟨_,h1,h2,h3⟩
 have HOW:=aA h;have HDD:=aA hdd;clear hdd;have HD1:=aA hp1;have HD2:=aA hp2;have HD3:=aA hp3;have hbl0:w.heap.size<(w.alloc (.cells #[.slice p1 ds1.length r1,.slice p2 ds2.length r2,.slice p3 ds3.length r3,.slice ad O.length cap] 57)).heap.size:=by simp
 have HFF:Hid (lM O ds1∧lM O ds2∧lM O ds3∧ds1.length+ds2.length+ds3.length≤100000000):=⟨hf1,hf2,hf3,hl⟩;clear h hp1 hp2 hp3 hf1 hf2 hf3 hl hn
 go_enter Tryz.func165,Tryz.ntmps165
 go_upto_region 1 with fail
 have e0:(w.alloc (.cells #[.slice p1 ds1.length r1,.slice p2 ds2.length r2,.slice p3 ds3.length r3,.slice ad O.length cap] 57)).cell? ⟨w.heap.size,0,none⟩=some (.slice p1 ds1.length r1):=(aY (by simp) rfl).1;have e1:(w.alloc (.cells #[.slice p1 ds1.length r1,.slice p2 ds2.length r2,.slice p3 ds3.length r3,.slice ad O.length cap] 57)).cell? ⟨w.heap.size,1,none⟩=some (.slice p2 ds2.length r2):=(aY (by simp) rfl).1;have e2:(w.alloc (.cells #[.slice p1 ds1.length r1,.slice p2 ds2.length r2,.slice p3 ds3.length r3,.slice ad O.length cap] 57)).cell? ⟨w.heap.size,2,none⟩=some (.slice p3 ds3.length r3):=(aY (by simp) rfl).1;have e3:(w.alloc (.cells #[.slice p1 ds1.length r1,.slice p2 ds2.length r2,.slice p3 ds3.length r3,.slice ad O.length cap] 57)).cell? ⟨w.heap.size,3,none⟩=some (.slice ad O.length cap):=(aY (by simp) rfl).1
 generalize (w.alloc (.cells #[.slice p1 ds1.length r1,.slice p2 ds2.length r2,.slice p3 ds3.length r3,.slice ad O.length cap] 57))=WA at*
 go_upto_region 2 with (go_at_call 213;refine HOV.out.mono ?_;rintro e w1 ⟨M,rfl,⟨n,hsm⟩,hb1⟩;have HSM:=aA hsm;have HB1:=aA hb1;clear hsm hb1)
 have HWW:Hid (Below WA.heap.size WA (w1.alloc (.cells #[.slice ad O.length cap,.map (some M)] 249))):=aB HB1.out (aD _ _);obtain ⟨N0,hN0⟩:∃ k,k=w.heap.size:=⟨_,rfl⟩;have b0:=(HWW.out.cell (p:=⟨w.heap.size,0,none⟩) hbl0).trans e0;have b1:=(HWW.out.cell (p:=⟨w.heap.size,1,none⟩) hbl0).trans e1;have b2:=(HWW.out.cell (p:=⟨w.heap.size,2,none⟩) hbl0).trans e2;have hNl:N0<(w1.alloc (.cells #[.slice ad O.length cap,.map (some M)] 249)).heap.size:=by rw [hN0];exact Nat.lt_of_lt_of_le hbl0 HWW.out.size
 rw [←hN0] at b0 b1 b2;have HSW:Hid (SmAt (w1.alloc (.cells #[.slice ad O.length cap,.map (some M)] 249)) M n (.int .i64 0) (aJ O)):=HSM.out.below (aD _ _);have k0:(w1.alloc (.cells #[.slice ad O.length cap,.map (some M)] 249)).cell? ⟨w1.heap.size,0,none⟩=some (.slice ad O.length cap):=by simp
 have k1:(w1.alloc (.cells #[.slice ad O.length cap,.map (some M)] 249)).cell? ⟨w1.heap.size,1,none⟩=some (.map (some M)):=by simp
 have hkl:w1.heap.size<(w1.alloc (.cells #[.slice ad O.length cap,.map (some M)] 249)).heap.size:=by simp
 have HOV2:Hid (Below w.heap.size w (w1.alloc (.cells #[.slice ad O.length cap,.map (some M)] 249))):=aB HB0.out HWW.out;obtain ⟨KB,hKB⟩:∃ k,k=w1.heap.size:=⟨_,rfl⟩;rw [←hKB] at k0 k1 hkl;rw [←hKB,←hN0];generalize (w1.alloc (.cells #[.slice ad O.length cap,.map (some M)] 249))=W at*;have HKD:Hid (KeepP fun X=>(Below W.heap.size W X∧SmAt X M n (.int .i64 0) (aJ O))∧DepsAt X (.slice ad O.length cap) O∧DepsAt X (.slice p1 ds1.length r1) ds1∧DepsAt X (.slice p2 ds2.length r2) ds2∧DepsAt X (.slice p3 ds3.length r3) ds3):=fun p q hx hpq=>⟨⟨aB hx.1.1 hpq,hx.1.2.below hpq⟩,hx.2.1.below hpq,hx.2.2.1.below hpq,hx.2.2.2.1.below hpq,hx.2.2.2.2.below hpq⟩
 have HO0:Hid ((Below W.heap.size W W∧SmAt W M n (.int .i64 0) (aJ O))∧DepsAt W (.slice ad O.length cap) O∧DepsAt W (.slice p1 ds1.length r1) ds1∧DepsAt W (.slice p2 ds2.length r2) ds2∧DepsAt W (.slice p3 ds3.length r3) ds3):=⟨⟨Below.refl _ _,HSW.out⟩,HOW.out.below HOV2.out,HD1.out.below HOV2.out,HD2.out.below HOV2.out,HD3.out.below HOV2.out⟩
 have HBX:Hid (∀ X,((Below W.heap.size W X∧SmAt X M n (.int .i64 0) (aJ O))∧DepsAt X (.slice ad O.length cap) O∧DepsAt X (.slice p1 ds1.length r1) ds1∧DepsAt X (.slice p2 ds2.length r2) ds2∧DepsAt X (.slice p3 ds3.length r3) ds3)→X.cell? ⟨N0,0,none⟩=some (.slice p1 ds1.length r1)∧X.cell? ⟨N0,1,none⟩=some (.slice p2 ds2.length r2)∧X.cell? ⟨N0,2,none⟩=some (.slice p3 ds3.length r3)∧X.cell? ⟨KB,0,none⟩=some (.slice ad O.length cap)∧X.cell? ⟨KB,1,none⟩=some (.map (some M))):=fun X hx=>⟨(hx.1.1.cell (p:=⟨N0,0,none⟩) hNl).trans b0,(hx.1.1.cell (p:=⟨N0,1,none⟩) hNl).trans b1,(hx.1.1.cell (p:=⟨N0,2,none⟩) hNl).trans b2,(hx.1.1.cell (p:=⟨KB,0,none⟩) hkl).trans k0,(hx.1.1.cell (p:=⟨KB,1,none⟩) hkl).trans k1⟩
 have HW1:Hid (∀ X,((Below W.heap.size W X∧SmAt X M n (.int .i64 0) (aJ O))∧DepsAt X (.slice ad O.length cap) O∧DepsAt X (.slice p1 ds1.length r1) ds1∧DepsAt X (.slice p2 ds2.length r2) ds2∧DepsAt X (.slice p3 ds3.length r3) ds3)→Calls Tryz.prog 214 #[.agg #[.slice ad O.length cap,.map (some M)],.slice p1 ds1.length r1,.int .i64 1] X fun e w'=>∃ a7 n7 c7,e= .returned (.slice a7 n7 c7)∧(∃ ps,OwnWt w' X.heap.size (.slice a7 n7 c7) ps∧eK O 1 0 ds1 ps)∧Below X.heap.size X w'):=fun X hx=>(dW hx.2.1 hx.1.2 hx.2.2.1 HFF.out.1 1 0).mono fun e w' hq=>by
  obtain ⟨v,h1,ps,h2,h3,h4⟩:=hq;obtain ⟨a7,c7,rfl⟩:=h2.len;exact ⟨a7,_,c7,h1,⟨ps,h2,h3⟩,h4⟩
 have HSR:Hid (∀ (dd:List Dp) (w5 X w6 w7:World) (v1 vd v2:Value),dd.length≤ds2.length→((Below W.heap.size W X∧SmAt X M n (.int .i64 0) (aJ O))∧DepsAt X (.slice ad O.length cap) O∧DepsAt X (.slice p1 ds1.length r1) ds1∧DepsAt X (.slice p2 ds2.length r2) ds2∧DepsAt X (.slice p3 ds3.length r3) ds3)→((∃ pd,OwnWt w5 W.heap.size vd pd∧eK O 1 ds1.length dd pd)∧W.heap.size≤w5.heap.size)→Below w5.heap.size w5 X→(∃ ps,OwnWt w6 X.heap.size v1 ps∧eK O 1 0 ds1 ps)→Below X.heap.size X w6→(∃ qs,OwnWt w7 w6.heap.size v2 qs∧eK O 2 (ds1.length+dd.length) ds3 qs)→Below w6.heap.size w6 w7→Calls Tryz.prog 215 #[.slice (some ⟨w7.heap.size,0,none⟩) 3 3] (w7.alloc (.cells #[v1,vd,v2] 111)) fun e w'=>∃ v,e= .returned v∧(∃ Y,dO O (iT ds1 dd ds3) w' w.heap.size v Y∧Below w.heap.size w w')∧Below w7.heap.size w7 w'):=fun dd w5 X w6 w7 v1 vd v2 hdl hx h0 hb5 h1 h2 h3 h4=>by
  obtain ⟨⟨pd,g5,g6⟩,hW5⟩:=h0;obtain ⟨ps,g1,g2⟩:=h1;obtain ⟨qs,g3,g4⟩:=h3;have hl:=HFF.out.2.2.2;refine (DD (B:=w.heap.size) (Nat.le_trans HOV2.out.size hW5) (g5.base HOV2.out.size) g6 hb5 g1 g2 h2 g3 g4 h4 (by omega)).mono fun e w' hq=> ?_
  obtain ⟨v,q1,Y,q3,q4⟩:=hq;exact ⟨v,q1,⟨Y,q3,aB (aB (aB (aB HOV2.out hx.1.1) h2) h4) q4⟩,q4⟩
 clear HB0 HOV HSM HB1 HWW hcap b0 b1 b2 hbl0 e0 e1 e2 e3 HOW HD1 HD2 HD3 HSW hN0 hKB;cases dev with
 |true=>
  obtain ⟨hds⟩:Nonempty (dd=ds2):=⟨HDD.out⟩;subst dd
  try clear HDD
  have HW2:Hid (∀ X,((Below W.heap.size W X∧SmAt X M n (.int .i64 0) (aJ O))∧DepsAt X (.slice ad O.length cap) O∧DepsAt X (.slice p1 ds1.length r1) ds1∧DepsAt X (.slice p2 ds2.length r2) ds2∧DepsAt X (.slice p3 ds3.length r3) ds3)→Calls Tryz.prog 214 #[.agg #[.slice ad O.length cap,.map (some M)],.slice p2 ds2.length r2,.int .i64 1] X fun e w'=>∃ a7 n7 c7,e= .returned (.slice a7 n7 c7)∧(∃ ps,OwnWt w' X.heap.size (.slice a7 n7 c7) ps∧eK O 1 ds1.length ds2 ps)∧Below X.heap.size X w'):=fun X hx=>(dW hx.2.1 hx.1.2 hx.2.2.2.1 HFF.out.2.1 1 ds1.length).mono fun e w' hq=>by
   obtain ⟨v,h1,ps,h2,h3,h4⟩:=hq;obtain ⟨a7,c7,rfl⟩:=h2.len;exact ⟨a7,_,c7,h1,⟨ps,h2,h3⟩,h4⟩
  have HW3:Hid (∀ X,((Below W.heap.size W X∧SmAt X M n (.int .i64 0) (aJ O))∧DepsAt X (.slice ad O.length cap) O∧DepsAt X (.slice p1 ds1.length r1) ds1∧DepsAt X (.slice p2 ds2.length r2) ds2∧DepsAt X (.slice p3 ds3.length r3) ds3)→Calls Tryz.prog 214 #[.agg #[.slice ad O.length cap,.map (some M)],.slice p3 ds3.length r3,.int .i64 2] X fun e w'=>∃ a7 n7 c7,e= .returned (.slice a7 n7 c7)∧(∃ ps,OwnWt w' X.heap.size (.slice a7 n7 c7) ps∧eK O 2 (ds1.length+ds2.length) ds3 ps)∧Below X.heap.size X w'):=fun X hx=>(dW hx.2.1 hx.1.2 hx.2.2.2.2 HFF.out.2.2.1 2 (ds1.length+ds2.length)).mono fun e w' hq=>by
   obtain ⟨v,h1,ps,h2,h3,h4⟩:=hq;obtain ⟨a7,c7,rfl⟩:=h2.len;exact ⟨a7,_,c7,h1,⟨ps,h2,h3⟩,h4⟩
  replace HSR:=aA (fun w5 X w6 w7 v1 vd v2=>HSR.out ds2 w5 X w6 w7 v1 vd v2 (Nat.le_refl _))
  obtain ⟨t0,t1,t2,t3,t4⟩:=HBX.out _ HO0.out
  go_upto_region 5 with (go_at_call 214;refine (HW2.out _ HO0.out).mono ?_;rintro e w5 ⟨a5,n5,c5,rfl,ht5,hb5⟩;have HT5:Hid ((∃ pd,OwnWt w5 W.heap.size (.slice a5 n5 c5) pd∧eK O 1 ds1.length ds2 pd)∧W.heap.size≤w5.heap.size):=⟨ht5,hb5.size⟩;have HO5:=aA (HKD.out _ _ HO0.out hb5);clear ht5 hb5)
  clear t0 t1 t2 t3 t4;have HO:=aA (HKD.out _ _ HO5.out (Below.refl _ _).drew);have HB5:Hid (Below w5.heap.size w5 w5.drew):=(Below.refl _ _).drew;obtain ⟨t0,t1,t2,t3,t4⟩:=HBX.out _ HO.out
  go_region_held3 (fun w'=>w'.cell? ⟨N0,0,none⟩=some (.slice p1 ds1.length r1)∧w'.cell? ⟨N0,1,none⟩=some (.slice p2 ds2.length r2)∧w'.cell? ⟨N0,2,none⟩=some (.slice p3 ds3.length r3)∧w'.cell? ⟨KB,0,none⟩=some (.slice ad O.length cap)∧w'.cell? ⟨KB,1,none⟩=some (.map (some M))) (go_keep) (first
   |(go_at_call 215;have _t:=HT2;refine (HSR.out _ _ _ _ _ _ _ HO.out HT5.out HB5.out HT1.out HB6.out HT2.out HB7.out).mono ?_;rintro e w8 ⟨v8,rfl,hfin,hb8⟩;have HFN:=aA hfin;have HO8:=aA (HKD.out _ _ HO7.out hb8);obtain ⟨g0,g1,g2,g3,g4⟩:=HBX.out _ HO8.out;clear hfin hb8)
   |(go_at_call 214;have _t:=HT1;refine (HW3.out _ HO6.out).mono ?_;rintro e w7 ⟨a7,n7,c7,rfl,ht2,hb7⟩;have HT2:=aA ht2;have HB7:=aA hb7;have HO7:=aA (HKD.out _ _ HO6.out hb7);obtain ⟨u0,u1,u2,u3,u4⟩:=HBX.out _ HO7.out;clear ht2 hb7)
   |(go_at_call 214;refine (HW1.out _ HO.out).mono ?_;rintro e w6 ⟨a6,n6,c6,rfl,ht1,hb6⟩;have HT1:=aA ht1;have HB6:=aA hb6;have HO6:=aA (HKD.out _ _ HO.out hb6);obtain ⟨s0,s1,s2,s3,s4⟩:=HBX.out _ HO6.out;clear ht1 hb6))
  all_goals go_wp2
  all_goals go_ret
  all_goals (obtain ⟨Y,q1,q2⟩:=HFN.out;first|exact ⟨_,rfl,⟨Y,q1⟩,q2⟩|exact ⟨_,rfl,Y,q1,q2⟩)
 |false=>
  obtain rfl:dd=[]:=HDD.out;clear HDD
  have HW3:Hid (∀ X,((Below W.heap.size W X∧SmAt X M n (.int .i64 0) (aJ O))∧DepsAt X (.slice ad O.length cap) O∧DepsAt X (.slice p1 ds1.length r1) ds1∧DepsAt X (.slice p2 ds2.length r2) ds2∧DepsAt X (.slice p3 ds3.length r3) ds3)→Calls Tryz.prog 214 #[.agg #[.slice ad O.length cap,.map (some M)],.slice p3 ds3.length r3,.int .i64 2] X fun e w'=>∃ a7 n7 c7,e= .returned (.slice a7 n7 c7)∧(∃ ps,OwnWt w' X.heap.size (.slice a7 n7 c7) ps∧eK O 2 (ds1.length+([]:List Dp).length) ds3 ps)∧Below X.heap.size X w'):=fun X hx=>(dW hx.2.1 hx.1.2 hx.2.2.2.2 HFF.out.2.2.1 2 (ds1.length+([]:List Dp).length)).mono fun e w' hq=>by
   obtain ⟨v,h1,ps,h2,h3,h4⟩:=hq;obtain ⟨a7,c7,rfl⟩:=h2.len;exact ⟨a7,_,c7,h1,⟨ps,h2,h3⟩,h4⟩
  replace HSR:=aA (fun w5 X w6 w7 v1 vd v2=>HSR.out [] w5 X w6 w7 v1 vd v2 (Nat.zero_le _))
  have HT5:Hid ((∃ pd,OwnWt W W.heap.size (.slice none 0 0) pd∧eK O 1 ds1.length [] pd)∧W.heap.size≤W.heap.size):=⟨⟨[],OwnWt.nil _ _,rfl,fun i p hi=>by simp at hi⟩,Nat.le_refl _⟩;have HO5:=HO0
  go_upto_region 5 with fail
  have HO:=aA (HKD.out _ _ HO5.out (Below.refl _ _).drew);have HB5:Hid (Below W.heap.size W W.drew):=(Below.refl _ _).drew;obtain ⟨t0,t1,t2,t3,t4⟩:=HBX.out _ HO.out
  go_region_held3 (fun w'=>w'.cell? ⟨N0,0,none⟩=some (.slice p1 ds1.length r1)∧w'.cell? ⟨N0,1,none⟩=some (.slice p2 ds2.length r2)∧w'.cell? ⟨N0,2,none⟩=some (.slice p3 ds3.length r3)∧w'.cell? ⟨KB,0,none⟩=some (.slice ad O.length cap)∧w'.cell? ⟨KB,1,none⟩=some (.map (some M))) (go_keep) (first
   |(go_at_call 215;have _t:=HT2;refine (HSR.out _ _ _ _ _ _ _ HO.out HT5.out HB5.out HT1.out HB6.out HT2.out HB7.out).mono ?_;rintro e w8 ⟨v8,rfl,hfin,hb8⟩;have HFN:=aA hfin;have HO8:=aA (HKD.out _ _ HO7.out hb8);obtain ⟨g0,g1,g2,g3,g4⟩:=HBX.out _ HO8.out;clear hfin hb8)
   |(go_at_call 214;have _t:=HT1;refine (HW3.out _ HO6.out).mono ?_;rintro e w7 ⟨a7,n7,c7,rfl,ht2,hb7⟩;have HT2:=aA ht2;have HB7:=aA hb7;have HO7:=aA (HKD.out _ _ HO6.out hb7);obtain ⟨u0,u1,u2,u3,u4⟩:=HBX.out _ HO7.out;clear ht2 hb7)
   |(go_at_call 214;refine (HW1.out _ HO.out).mono ?_;rintro e w6 ⟨a6,n6,c6,rfl,ht1,hb6⟩;have HT1:=aA ht1;have HB6:=aA hb6;have HO6:=aA (HKD.out _ _ HO.out hb6);obtain ⟨s0,s1,s2,s3,s4⟩:=HBX.out _ HO6.out;clear ht1 hb6))
  all_goals go_wp2
  all_goals go_ret
  all_goals (obtain ⟨Y,q1,q2⟩:=HFN.out;first|exact ⟨_,rfl,⟨Y,q1⟩,q2⟩|exact ⟨_,rfl,Y,q1,q2⟩)
end Go.Proofs.YtpfemjlhklnfoaaGreatDoor
namespace Go.Proofs.YtpfemjlhklnfoaaGreatDoor
open Go.Shelf Go.RowKit Go.Maps Go.WideMaps
set_option maxRecDepth 100000
theorem dL (w:World):DepsAt w (.slice none ([]:List Dp).length 0) []:=⟨none,0,rfl,Nat.le_refl _,Or.inl rfl⟩
theorem DE (w:World):Calls Tryz.prog 165 #[.agg #[.slice none 0 0,.slice none 0 0,.slice none 0 0,.slice none 0 0],.bool true] w fun e w'=>∃ ad c,e= .returned (.slice ad 0 c)∧Below w.heap.size w w':=by
 have hf:lM [] []:=⟨by simp,fun d hd=>by cases hd⟩;refine (oI (w:=w) (O:=[]) (v4:= .slice none 0 0) (dL w) (by simp) (fun d hd=>by cases hd) (ds1:=[]) (ds2:=[]) (ds3:=[]) (dL w) (dL w) (dL w) hf hf hf (by simp) true (dd:=[]) rfl).mono ?_;rintro e w' ⟨v,rfl,Y,ht,hb⟩;obtain ⟨h1,_,h3,_⟩:=ht
 have hy:Y=[]:=by
  have e:=h3.length_eq;simp [iT] at e;exact e
 subst hy;obtain ⟨ad,cap,rfl⟩:=h1.len;exact ⟨ad,cap,rfl,hb⟩
set_option maxHeartbeats 1600000 in
theorem xT {v:Value} {p:Option Addr} {w:World} (hv:∃ ad n c,v= .slice ad n c):
 Calls Tryz.prog 112 #[.agg #[v,.pointer p,.slice none 0 0,.slice none 0 0,.slice none 0 0,.slice none 0 0,.bool true],.int .i64 0] w fun e w'=>∃ ad c,e= .returned (.tuple #[.slice ad 0 c,.bool true])∧Below w.heap.size w w':=by
 obtain ⟨va,vn,vc,rfl⟩:=hv;have HO:=aA DE;have HB:=aA (aD w (.cells #[.slice va vn vc,.pointer p,.slice none 0 0,.slice none 0 0,.slice none 0 0,.slice none 0 0,.bool true] 109))
 go_enter Tryz.func112,Tryz.ntmps112
 go_wp2_with (go_at_call 165;refine (HO.out _).mono ?_;rintro e w1 ⟨ad,c,rfl,ok⟩)
 go_ret2;exact ⟨ad,c,rfl,aB HB.out ok⟩
theorem GT:(Tryz.prog.info? 80).map (fun i=>(i.zero,i.size,i.bytes))=some (some (.agg #[.string ByteArray.empty,.int .i64 0,.int .i64 0,.int .i64 0]),4,40):=by kernel_rfl
theorem vH {w:World} {ops:Array Oper} {rest:List Oper} {o:Oper} {f:Act} {Q:Exit→Act→World→Prop} (hgd:o.guard=none) (s x:Operand) (t:TypeId)
 (ho:o.op= .call { callee:= .builtin .append,args:= #[s,x],argTypes:= #[t,t] }) (e:TypeId) (i:TypeInfo) (ht:Tryz.prog.underlying t=some (.slice e)) (hi:Tryz.prog.info? e=some i)
 {base:Option Addr} {n cap:Nat} (hs:f.eval s= .slice base n cap) (hn:n≤cap) {ad:Option Addr} {c:Nat} (hx:f.eval x= .slice ad 0 c)
 (h:wpList Tryz.prog ops Q rest (f.put o.dst (.slice base n cap)) w):wpList Tryz.prog ops Q (o::rest) f w:=by
 refine wpList_plain hgd fun K hK=> ?_
 have hr:(Builtin.append_ #[t,t] o.type #[.slice base n cap,.slice ad 0 c]).run Tryz.prog w= .ok (.slice base n cap) w:=by
  cases ad<;>cases base<;>simp [Builtin.append_,run_underlying ht,sizeOf,typeInfo,hi,Builtin.lenOf,hn,Builtin.firstCells,loadCells,loadCellsFrom,storeCells]
 unfold Oper.wp execOp;simp only [ho,resolve,invoke,builtin,Sem.run_bind,Sem.run_pure,Result.andThen_ok,List.map_toArray,List.map_cons,List.map_nil,hs,hx,hr];exact hK _ _ h
set_option maxHeartbeats 3200000 in
theorem DF {a1 a2:Option Addr} {c1 c2 g:Nat} {w:World} (k0:w.cell? ⟨g,0,none⟩=some (.slice a1 0 c1)) (k1:w.cell? ⟨g,1,none⟩=some (.slice a2 0 c2)):
 Calls Tryz.prog 172 #[.slice (some ⟨g,0,none⟩) 2 2] w fun e w'=>∃ ad c,e= .returned (.slice ad 0 c)∧Below w.heap.size w w':=by
 have hgl:g<w.heap.size:=World.block_lt_of_cell? w ⟨g,0,none⟩ k0;have HGR:Hid (Calls Tryz.prog 219 #[.slice none 0 0,.int .i64 0] w fun e w'=>e= .returned (.slice none 0 0)∧w'=w):=(Any8.slices_Grow_room Tryz.growP none 0 0 0 w (Nat.le_refl _) (by omega) (by omega) (Nat.le_refl _)).mono fun e w' h=>by obtain ⟨rfl,rfl⟩:=h;exact ⟨rfl,rfl⟩
 obtain ⟨i0,hi,hz0,hz1,hz2⟩:=Sc.cO GT
 go_enter Tryz.func172,Tryz.ntmps172
 go_wp2_with fail
 go_loopw [3,11] (fun vs vi wr=>wr=w∧vs= .int .i64 0∧(vi= .int .i64 0∨vi= .int .i64 1∨vi= .int .i64 2)) (fun _ vi _=>2 - (intOf vi).toNat)
 case atStart=>exact ⟨rfl,rfl,Or.inl rfl⟩
 case round=>
  obtain ⟨hww,rfl,rfl|rfl|rfl⟩:=hrel
  · obtain rfl:w=wr:=hww.symm
    go_wp2_with fail
    exact ⟨by simp,by decide⟩
  · obtain rfl:w=wr:=hww.symm
    go_wp2_with fail
    exact ⟨by simp,by decide⟩
  · obtain rfl:w=wr:=hww.symm
    go_wp2_with (go_at_call 219;refine HGR.out.mono ?_;rintro e w2 ⟨rfl,hw2⟩;obtain rfl:w=w2:=hw2.symm)
    go_loopw [6,27] (fun vr vi wr=>wr=w∧vr= .slice none 0 0∧(vi= .int .i64 0∨vi= .int .i64 1∨vi= .int .i64 2)) (fun _ vi _=>2 - (intOf vi).toNat)
    case atStart=>exact ⟨rfl,rfl,Or.inl rfl⟩
    case round=>
     obtain ⟨hww,rfl,rfl|rfl|rfl⟩:=hrel
     · obtain rfl:w=wr:=hww.symm
       go_wp2_with (at_builtin;refine vH rfl _ _ _ rfl 80 i0 Tryz.underlying40 hi rfl (Nat.le_refl _) rfl ?_)
       exact ⟨by simp,by decide⟩
     · obtain rfl:w=wr:=hww.symm
       go_wp2_with (at_builtin;refine vH rfl _ _ _ rfl 80 i0 Tryz.underlying40 hi rfl (Nat.le_refl _) rfl ?_)
       exact ⟨by simp,by decide⟩
     · obtain rfl:w=wr:=hww.symm
       go_wp2
       go_ret;exact ⟨⟨none,0,rfl⟩,Below.refl _ _⟩
def fI (G:List Nd) (e:Eg):Pn:=match G[e.to.toNat]? with
 |some x=>⟨e.lb,x.a,x.b,x.c⟩
 |none=>⟨e.lb,0,0,0⟩
theorem oJ {G:List Nd} {e:Eg} {t:Nat} (ht:e.to=(t:Int)) (h:t<G.length):fI G e=⟨e.lb,G[t].a,G[t].b,G[t].c⟩:=by
 unfold fI;rw [ht,Int.toNat_natCast,List.getElem?_eq_getElem h]
def cG (G:List Nd) (l:List Eg):List Pn:=l.map (fI G)
theorem kO (G:List Nd) (l:List Eg):(cG G l).length=l.length:=by simp [cG]
theorem DG {G:List Nd} {l:List Eg} {m:Nat} (hm:m<l.length):cG G (l.take (m+1))=cG G (l.take m)++[fI G l[m]]:=by
 unfold cG;rw [List.take_succ_eq_append_getElem hm,List.map_append];rfl
def BxSo (w:World) (N:Nat) (v0 v1 v2 v3 v4 v5 v6:Value):Prop:=(w.cell? ⟨N,0,none⟩=some v0∧w.cell? ⟨N,1,none⟩=some v1∧w.cell? ⟨N,2,none⟩=some v2∧w.cell? ⟨N,3,none⟩=some v3∧w.cell? ⟨N,4,none⟩=some v4∧w.cell? ⟨N,5,none⟩=some v5∧w.cell? ⟨N,6,none⟩=some v6)∧N<w.heap.size
theorem bL (N:Nat) (v0 v1 v2 v3 v4 v5 v6:Value):KeepP fun w1=>BxSo w1 N v0 v1 v2 v3 v4 v5 v6:=fun w w' h hb=>by
 obtain ⟨⟨h0,h1,h2,h3,h4,h5,h6⟩,hN⟩:=h;exact ⟨⟨(hb.cell (p:=⟨N,0,none⟩) hN).trans h0,(hb.cell (p:=⟨N,1,none⟩) hN).trans h1,(hb.cell (p:=⟨N,2,none⟩) hN).trans h2,(hb.cell (p:=⟨N,3,none⟩) hN).trans h3,(hb.cell (p:=⟨N,4,none⟩) hN).trans h4,(hb.cell (p:=⟨N,5,none⟩) hN).trans h5,(hb.cell (p:=⟨N,6,none⟩) hN).trans h6⟩,Nat.lt_of_lt_of_le hN hb.size⟩
theorem BxSo.new {w:World} {N:Nat} (hN:w.heap.size=N) (v0 v1 v2 v3 v4 v5 v6:Value):BxSo (w.alloc (.cells #[v0,v1,v2,v3,v4,v5,v6] 109)) N v0 v1 v2 v3 v4 v5 v6:=by
 subst hN;refine ⟨⟨?_,?_,?_,?_,?_,?_,?_⟩,?_⟩<;>simp
theorem BxSo.grown {w w1:World} {N:Nat} {v0 v1 v2 v3 v4 v5 v6:Value} {own:Option Nat} (h:BxSo w N v0 v1 v2 v3 v4 v5 v6) (hg:w.grownBy w1 own) (hn:own≠some N):BxSo w1 N v0 v1 v2 v3 v4 v5 v6:=by
 obtain ⟨⟨h0,h1,h2,h3,h4,h5,h6⟩,hN⟩:=h;have q:∀ i u,w.cell? ⟨N,i,none⟩=some u→w1.cell? ⟨N,i,none⟩=some u:=fun i u h=>hg.cell h fun e=>hn e.symm
 exact ⟨⟨q _ _ h0,q _ _ h1,q _ _ h2,q _ _ h3,q _ _ h4,q _ _ h5,q _ _ h6⟩,Nat.lt_of_lt_of_le hN hg.size⟩
set_option maxHeartbeats 6400000 in
theorem LA {G:List Nd} {ad p x1 x2 x3 x4:Option Addr} {cap y1 z1 y2 z2 y3 z3 y4 z4:Nat} {dv:Bool} {k:Nat} {w:World} (hG:NodesAt w (.slice ad G.length cap) G) (hk:k<G.length) (hin:InG G) (hzl:G[k].ed.length≤1000000):
 Calls Tryz.prog 113 #[.agg #[.slice ad G.length cap,.pointer p,.slice x1 y1 z1,.slice x2 y2 z2,.slice x3 y3 z3,.slice x4 y4 z4,.bool dv],.int .i64 k] w fun e w'=>∃ v,e= .returned v∧OwnPn w' w.heap.size v (cG G G[k].ed)∧Below w.heap.size w w':=by
 obtain ⟨ad',cap',e,_,hcs⟩:=hG;cases e
 obtain ⟨g,o,rfl,hg,hcz⟩:∃ g o,ad=some ⟨g,o,none⟩∧g<w.heap.size∧∀ i (h:i<G.length),∃ vc ve,NdIn w g (o+i*6) G[i] vc ve:=by
  rcases hcs with h|h
  · rw [h] at hk;simp at hk
  · exact h
 clear hcs;have HCZ:Hid (∀ W,Below w.heap.size w W→∀ i (h:i<G.length),∃ vc ve,NdIn W g (o+i*6) G[i] vc ve):=fun W hb i hi=>let ⟨a,b,h⟩:=hcz i hi;⟨a,b,h.below hb⟩
 obtain ⟨vc,ve,hx⟩:=hcz k hk;clear hcz;have HIN:=aA (hin _ (List.getElem_mem hk));obtain ⟨ac,cc,rfl⟩:=hx.2.1.1.sl;obtain ⟨ae,ce,rfl⟩:=hx.2.1.2.sl;have HED:Hid (∀ W,Below w.heap.size w W→EdgesAt W (.slice ae G[k].ed.length ce) G[k].ed):=fun W h=>hx.2.1.2.below h
 have HX0:=aA (hx.below (aD w (.cells #[.slice (some ⟨g,o,none⟩) G.length cap,.pointer p,.slice x1 y1 z1,.slice x2 y2 z2,.slice x3 y3 z3,.slice x4 y4 z4,.bool dv] 109)));obtain ⟨⟨q0,q1,q2,q3,q4,q5⟩,_,q6⟩:=HX0.out;have HB0:Hid (Below w.heap.size w (w.alloc (.cells #[.slice (some ⟨g,o,none⟩) G.length cap,.pointer p,.slice x1 y1 z1,.slice x2 y2 z2,.slice x3 y3 z3,.slice x4 y4 z4,.bool dv] 109))∧BxSo (w.alloc (.cells #[.slice (some ⟨g,o,none⟩) G.length cap,.pointer p,.slice x1 y1 z1,.slice x2 y2 z2,.slice x3 y3 z3,.slice x4 y4 z4,.bool dv] 109)) w.heap.size (.slice (some ⟨g,o,none⟩) G.length cap) (.pointer p) (.slice x1 y1 z1) (.slice x2 y2 z2) (.slice x3 y3 z3) (.slice x4 y4 z4) (.bool dv)):=⟨aD _ _,BxSo.new rfl _ _ _ _ _ _ _⟩;have hki:(k:Int)<(G.length:Int):=by omega
 clear hx hin HX0;obtain ⟨x,hxe⟩:∃ x,x=G[k]:=⟨_,rfl⟩;rw [←hxe] at q0 q1 q2 q3 q4 q5 HIN HED hzl ⊢;clear hxe;obtain ⟨le,hle⟩:∃ n,n=x.ed.length:=⟨_,rfl⟩;have HLE:=aA hle;rw [←hle] at q5 hzl HED;clear hle
 go_enter Tryz.func113,Tryz.ntmps113
 go_wp2_with fail
 clear q0 q1 q2 q3 q4 q5 q6
 go_loopw [5,15] (fun v5 vi wr=>∃ (m:Nat) (al:Option Addr) (cl:Nat) (l:List Pn),m≤le∧v5= .slice al m cl∧vi= .int .i64 m∧(l=cG G (x.ed.take m)∧OwnPn wr (w.heap.size+1) (.slice al m cl) l∧l.length=m)∧(Below w.heap.size w wr∧BxSo wr w.heap.size (.slice (some ⟨g,o,none⟩) G.length cap) (.pointer p) (.slice x1 y1 z1) (.slice x2 y2 z2) (.slice x3 y3 z3) (.slice x4 y4 z4) (.bool dv))) (fun _ vi _=>le - (intOf vi).toNat)
 case atStart=>exact ⟨0,none,0,[],Nat.zero_le _,rfl,rfl,⟨rfl,OwnPn.nil _ _,rfl⟩,HB0.out⟩
 case round=>
  clear HB0;obtain ⟨m,al,cl,l,hm,rfl,rfl,hl,hb⟩:=hrel;have HL:=aA hl;have HB:=aA hb
  by_cases hml:m<le
  · have hmx:m<x.ed.length:=by have:=HLE.out;omega
    obtain ⟨gp,op,rfl,hei⟩:∃ gp op,ae=some ⟨gp,op,none⟩∧EgIn wr gp (op+m*2) x.ed[m]:=by
     obtain ⟨a1,c1,hv,hc,hl⟩:=HED.out wr hb.1;cases hv
     rcases hl with h|⟨g,o,h,_,hs⟩
     · rw [h] at hmx;cases hmx
     · exact ⟨g,o,h,hs m hmx⟩
    obtain ⟨hto0,hto1⟩:=HIN.out _ (List.getElem_mem hmx)
    have HNX:Hid (cG G (x.ed.take (m+1))=l++[fI G x.ed[m]]):=by
     have e:=DG (G:=G) hmx;rw [←hl.1] at e;exact e
    obtain ⟨y,hy⟩:∃ y,y=x.ed[m]:=⟨_,rfl⟩;rw [←hy] at hei hto0 hto1 HNX;obtain ⟨t,ht⟩:∃ t:Nat,y.to=(t:Int):=⟨y.to.toNat,by omega⟩;have htl:t<G.length:=by omega
    rw [oJ ht htl] at HNX;obtain ⟨⟨e0,e1⟩,e2⟩:=hei;rw [ht] at e1;obtain ⟨uc,ue,hz⟩:=HCZ.out wr hb.1 t htl;obtain ⟨⟨_,z1',z2',z3',_,_⟩,_,z6'⟩:=hz;have hBX:=aD wr (.cells #[.string y.lb,.int .i64 t] 77);have b1:=(hBX.cell (p:=⟨g,o+t*6+1,none⟩) z6').trans z1';have b2:=(hBX.cell (p:=⟨g,o+t*6+2,none⟩) z6').trans z2';have b3:=(hBX.cell (p:=⟨g,o+t*6+3,none⟩) z6').trans z3';have hti:(t:Int)<(G.length:Int):=by omega
    have hwr:w.heap.size<wr.heap.size:=hb.2.2
    have HOW:Hid ((wr.alloc (.cells #[.string y.lb,.int .i64 t] 77)).ownsRow (w.heap.size+1) 80 4 (.slice al m cl) m (l.flatMap bD)):=by
     have:=bG hl.2.1 hBX
     rw [hl.2.2] at this;exact this
    have HBK:Hid (∀ j,(Value.slice al m cl).ownBlock=some j→w.heap.size+1≤j):=fun j hj=>(World.ownsRow.lt hl.2.1 j hj).1
    have HKX:Hid (Below w.heap.size w (wr.alloc (.cells #[.string y.lb,.int .i64 t] 77)).drew∧BxSo (wr.alloc (.cells #[.string y.lb,.int .i64 t] 77)).drew w.heap.size (.slice (some ⟨g,o,none⟩) G.length cap) (.pointer p) (.slice x1 y1 z1) (.slice x2 y2 z2) (.slice x3 y3 z3) (.slice x4 y4 z4) (.bool dv)):=⟨(aB hb.1 hBX).drew,KeepP.drew (bL _ _ _ _ _ _ _ _) (bL _ _ _ _ _ _ _ _ _ _ hb.2 hBX)⟩;have hBl:w.heap.size+1≤(wr.alloc (.cells #[.string y.lb,.int .i64 t] 77)).heap.size:=by simp;omega
    obtain ⟨⟨k0,_⟩,_⟩:=hb.2;have n0:=(hBX.cell (p:=⟨w.heap.size,0,none⟩) hwr).trans k0;have HLL:=aA hl.2.2
    have HFI:Hid (∀ b w2,(((wr.alloc (.cells #[.string y.lb,.int .i64 t] 77)).drew.alloc b)).grownBy w2 (Value.slice al m cl).ownBlock→Below w.heap.size w w2∧BxSo w2 w.heap.size (.slice (some ⟨g,o,none⟩) G.length cap) (.pointer p) (.slice x1 y1 z1) (.slice x2 y2 z2) (.slice x3 y3 z3) (.slice x4 y4 z4) (.bool dv)):=fun b w2 h=>by
     have h1:Below w.heap.size w ((wr.alloc (.cells #[.string y.lb,.int .i64 t] 77)).drew.alloc b):=aB HKX.out.1 (aD _ _);exact ⟨h1.grown h h1.size (fun j hj=>by have:=HBK.out j hj;omega),(bL _ _ _ _ _ _ _ _ _ _ HKX.out.2 (aD _ _)).grown h (fun e=>by have:=HBK.out _ e;omega)⟩
    clear hy hto0 hto1 z1' z2' z3' hBX hb hl;generalize G[t]=u at*
    go_wp2_with fail
    go_region_law (refine nH (B:=w.heap.size+1) (M:=wr.heap.size+1) (wx:=(wr.alloc (.cells #[.string y.lb,.int .i64 t] 77)).drew) (v:= .slice al m cl) gV Tryz.underlying40 rfl (by decide) (by decide) rfl (.tmp 19) (.tmp 30) rfl rfl HOW.out.drew hBl #[.string y.lb,.int .i64 u.a,.int .i64 u.b,.int .i64 u.c] rfl (by simp [Value.oneCell']) (by simp) rfl (by omega) ?_;intro v1 w2 ho hg hat;obtain ⟨g1,cap1,rfl,_⟩:=ho.form (by omega);have HO2:=aA ho;have HG2:=aA hg;clear ho hg hat)
    all_goals go_wp2_with fail
    all_goals exact ⟨⟨m+1,_,_,l++[⟨y.lb,u.a,u.b,u.c⟩],by omega,rfl,by go_num,⟨HNX.out.symm,by
     have:=HO2.out
     unfold OwnPn;rw [List.length_append,List.length_singleton,HLL.out,List.flatMap_append];exact this,by rw [List.length_append,List.length_singleton,HLL.out]⟩,HFI.out _ _ HG2.out⟩,by simp [intOf];omega⟩
  · obtain rfl:m=le:=by omega
    have HLX:Hid (cG G x.ed=l):=by
     have e:=hl.1;rw [HLE.out,List.take_length] at e;exact e.symm
    have HOX:=aA hl.2;clear hb hl
    go_wp2
    go_ret;exact ⟨_,rfl,by rw [HLX.out];exact bZ HOX.out.1 (by omega),HB.out.1⟩
def BxPi (w:World) (N:Nat) (q:Pn):Prop:=(w.cell? ⟨N,0,none⟩=some (.string q.nm)∧w.cell? ⟨N,1,none⟩=some (.int .i64 q.a)∧w.cell? ⟨N,2,none⟩=some (.int .i64 q.b)∧w.cell? ⟨N,3,none⟩=some (.int .i64 q.c))∧N<w.heap.size
theorem GU (N:Nat) (q:Pn):KeepP fun w1=>BxPi w1 N q:=fun w w' h hb=>by
 obtain ⟨⟨h0,h1,h2,h3⟩,hN⟩:=h;exact ⟨⟨(hb.cell (p:=⟨N,0,none⟩) hN).trans h0,(hb.cell (p:=⟨N,1,none⟩) hN).trans h1,(hb.cell (p:=⟨N,2,none⟩) hN).trans h2,(hb.cell (p:=⟨N,3,none⟩) hN).trans h3⟩,Nat.lt_of_lt_of_le hN hb.size⟩
theorem BxPi.new {w:World} {N:Nat} (hN:w.heap.size=N) (q:Pn):BxPi (w.alloc (.cells #[.string q.nm,.int .i64 q.a,.int .i64 q.b,.int .i64 q.c] 80)) N q:=by
 subst hN;refine ⟨⟨?_,?_,?_,?_⟩,?_⟩<;>simp
def BxL (w:World) (N:Nat) (v:Value):Prop:=w.cell? ⟨N,0,none⟩=some v∧N<w.heap.size
theorem iJ (N:Nat) (v:Value):KeepP fun w1=>BxL w1 N v:=fun _ _ h hb=>⟨(hb.cell (p:=⟨N,0,none⟩) h.2).trans h.1,Nat.lt_of_lt_of_le h.2 hb.size⟩
theorem BxL.new {w:World} {N:Nat} (hN:w.heap.size=N) (v:Value) (t:TypeId):BxL (w.alloc (.cells #[v] t)) N v:=by
 subst hN
 constructor<;>simp
set_option maxHeartbeats 3200000 in
theorem LB {L:List Pn} {v:Value} {w:World} (q:Pn) (h:PinsAt w v L) (hz:L.length≤9223372036854775807):
 Calls Tryz.prog 218 #[v,.agg #[.string q.nm,.int .i64 q.a,.int .i64 q.b,.int .i64 q.c]] w fun e w'=>e= .returned (.int .i64 (dR (dB q) L))∧Below w.heap.size w w':=by
 have HS:Hid (∀ w1,Below w.heap.size w w1→PinsAt w1 v L):=fun w1 hb=>h.below hb
 obtain ⟨ad,cap,rfl⟩:=h.sl;have HB0:Hid (Below w.heap.size w (w.alloc (.cells #[.string q.nm,.int .i64 q.a,.int .i64 q.b,.int .i64 q.c] 80))∧BxPi (w.alloc (.cells #[.string q.nm,.int .i64 q.a,.int .i64 q.b,.int .i64 q.c] 80)) w.heap.size q):=⟨aD _ _,BxPi.new rfl q⟩;clear h
 go_enter Tryz.func218,Tryz.ntmps218
 go_wp2_with fail
 go_loopw [8] (fun i wr=>∃ k:Nat,k≤L.length∧i= .int .i64 k∧(Below w.heap.size w wr∧BxPi wr w.heap.size q)∧∀ j (_:j<k) (h1:j<L.length),dB q L[j]=false) (fun i _=>L.length - (intOf i).toNat)
 case atStart=>exact ⟨0,Nat.zero_le _,rfl,HB0.out,fun j h=>by omega⟩
 case round=>
  clear HB0;obtain ⟨k,hk,rfl,hb,hall⟩:=hrel;have HALL:=aA hall;have HB:=aA hb;clear hall
  by_cases hlt:k<L.length
  · obtain ⟨ad',cap',e,_,hcs⟩:=HS.out wr hb.1
    cases e
    obtain ⟨g,o,rfl,hg,hcz⟩:∃ g o,ad=some ⟨g,o,none⟩∧g<wr.heap.size∧∀ i (h:i<L.length),PnIn wr g (o+i*4) L[i]:=by
     rcases hcs with h|h
     · rw [h] at hlt;simp at hlt
     · exact h
    clear hcs;have HO:Hid ((Below w.heap.size w wr∧BxPi wr w.heap.size q)∧PnIn wr g (o+k*4) L[k]):=⟨hb,hcz k hlt⟩;have HK:Hid (KeepP fun w1=>(Below w.heap.size w w1∧BxPi w1 w.heap.size q)∧PnIn w1 g (o+k*4) L[k]):=((aG w).and (GU _ _)).and (mK _ _ _);have HY:Hid (dB q L[k]=true→dR (dB q) L=k):=fun h=>mL hlt h HALL.out
    have HN:Hid (dB q L[k]=false→∀ j (_:j<k+1) (h1:j<L.length),dB q L[j]=false):=fun h j hj h1=>by
     rcases Nat.lt_or_ge j k with hjk|hjk
     · exact HALL.out j hjk h1
     · obtain rfl:j=k:=by omega
       exact h
    have he:=LX q L[k];have hgd:=sA;clear hcz hb HALL;generalize L[k]=y at*;cases hq:dB q y with
    |true=>
     have HR:=aA (HY.out hq);rw [hq] at he;clear HY HN hq
     go_wp2_with fail
     refine bA HK (by kernel_rfl) (by kernel_rfl) (by first|exact HO.out|exact HK.out.drew HO.out) ?_;intro C HIN HOUT;clear HO
     repeat
      (with_reducible refine wpQuiet_step (fun K hK=> ?_)
       go_simp
       first
        |(refine hK _ ?_;clear hK K)
        |(apply Exists.intro;refine ⟨fun w1 hC=> ?_,hK _ ?_⟩;(focus ((first|(exact rfl)|(obtain ⟨⟨hb1,⟨z0,z1,z2,z3⟩,z4⟩,⟨p0,p1,p2,p3⟩,p6⟩:=HOUT.out w1 hC;clear hC;go_simp;first|done|exact rfl));done));clear hK K))
     refine wpQuiet_nil ?_;intro wn hC;have HO:=aA (HOUT.out _ hC);clear hC HIN HOUT C;obtain ⟨⟨hb1,⟨z0,z1,z2,z3⟩,z4⟩,⟨p0,p1,p2,p3⟩,p6⟩:=HO.out
     go_wp2
     go_ret;exact ⟨Sc.bE HR.out.symm,HO.out.1.1⟩
    |false=>
     have HR:=aA (HN.out hq);rw [hq] at he;clear HY HN hq
     go_wp2_with fail
     refine bA HK (by kernel_rfl) (by kernel_rfl) (by first|exact HO.out|exact HK.out.drew HO.out) ?_;intro C HIN HOUT;clear HO
     repeat
      (with_reducible refine wpQuiet_step (fun K hK=> ?_)
       go_simp
       first
        |(refine hK _ ?_;clear hK K)
        |(apply Exists.intro;refine ⟨fun w1 hC=> ?_,hK _ ?_⟩;(focus ((first|(exact rfl)|(obtain ⟨⟨hb1,⟨z0,z1,z2,z3⟩,z4⟩,⟨p0,p1,p2,p3⟩,p6⟩:=HOUT.out w1 hC;clear hC;go_simp;first|done|exact rfl));done));clear hK K))
     refine wpQuiet_nil ?_;intro wn hC;have HO:=aA (HOUT.out _ hC);clear hC HIN HOUT C;obtain ⟨⟨hb1,⟨z0,z1,z2,z3⟩,z4⟩,⟨p0,p1,p2,p3⟩,p6⟩:=HO.out
     go_wp2
     exact ⟨⟨k+1,by omega,by go_num,HO.out.1,HR.out⟩,by simp [intOf];omega⟩
  · have hke:k=L.length:=by omega
    subst hke;have HR:Hid (dR (dB q) L= -1):=mM fun j h1=>HALL.out j h1 h1
    clear hb
    go_wp2
    go_ret;exact ⟨Sc.bE HR.out.symm,HB.out.1⟩
set_option maxHeartbeats 1600000 in
theorem LC {L:List Pn} {v:Value} {w:World} (q:Pn) (h:PinsAt w v L) (hz:L.length≤9223372036854775807):
 Calls Tryz.prog 171 #[v,.agg #[.string q.nm,.int .i64 q.a,.int .i64 q.b,.int .i64 q.c]] w fun e w'=>e= .returned (.bool (L.any (dB q)))∧Below w.heap.size w w':=by
 have HC:Hid (∀ w1,Below w.heap.size w w1→Calls Tryz.prog 218 #[v,.agg #[.string q.nm,.int .i64 q.a,.int .i64 q.b,.int .i64 q.c]] w1 fun e w'=>e= .returned (.int .i64 (dR (dB q) L))∧Below w1.heap.size w1 w'):=fun w1 hb=>LB q (h.below hb) hz
 have HB0:Hid (Below w.heap.size w (w.alloc (.cells #[.string q.nm,.int .i64 q.a,.int .i64 q.b,.int .i64 q.c] 80))):=aD _ _;obtain ⟨ad,cap,rfl⟩:=h.sl;clear h hz
 rcases kJ (dB q) L with ⟨h1,h2⟩|⟨h1,h2⟩
 · have hd:decide (dR (dB q) L≥0)=true:=decide_eq_true h1
   rw [h2];generalize dR (dB q) L=r at*;clear h2
   go_enter Tryz.func171,Tryz.ntmps171
   go_wp2_with (go_at_call 218;refine (HC.out _ HB0.out).mono ?_;rintro x w1 ⟨rfl,ok⟩)
   go_ret;exact ⟨rfl,aB HB0.out ok⟩
 · rw [h1] at HC
   rw [h2];clear h1 h2
   go_enter Tryz.func171,Tryz.ntmps171
   go_wp2_with (go_at_call 218;refine (HC.out _ HB0.out).mono ?_;rintro x w1 ⟨rfl,ok⟩)
   go_ret;exact ⟨rfl,aB HB0.out ok⟩
set_option maxHeartbeats 1600000 in
theorem GV {L:List Pn} {v:Value} {w:World} {N:Nat} (q:Pn) (h:PinsAt w v L) (hz:L.length≤9223372036854775807) (hN:BxL w N v):
 Calls Tryz.prog 170 #[.agg #[.string q.nm,.int .i64 q.a,.int .i64 q.b,.int .i64 q.c],.pointer (some ⟨N,0,none⟩)] w fun e w'=>e= .returned (.bool (!(L.any (dB q))))∧Below w.heap.size w w':=by
 have HC:Hid (∀ w1,Below w.heap.size w w1→Calls Tryz.prog 171 #[v,.agg #[.string q.nm,.int .i64 q.a,.int .i64 q.b,.int .i64 q.c]] w1 fun e w'=>e= .returned (.bool (L.any (dB q)))∧Below w1.heap.size w1 w'):=fun w1 hb=>LC q (h.below hb) hz
 have HB0:Hid (Below w.heap.size w (w.alloc (.cells #[.string q.nm,.int .i64 q.a,.int .i64 q.b,.int .i64 q.c] 80))∧BxPi (w.alloc (.cells #[.string q.nm,.int .i64 q.a,.int .i64 q.b,.int .i64 q.c] 80)) w.heap.size q∧BxL (w.alloc (.cells #[.string q.nm,.int .i64 q.a,.int .i64 q.b,.int .i64 q.c] 80)) N v):=⟨aD _ _,BxPi.new rfl q,iJ _ _ _ _ hN (aD _ _)⟩;obtain ⟨ad,cap,rfl⟩:=h.sl;obtain ⟨⟨z0,z1,z2,z3⟩,z4⟩:=HB0.out.2.1;obtain ⟨n0,n1⟩:=HB0.out.2.2;clear h hz hN;generalize L.any (dB q)=b at*;cases b
 all_goals go_enter Tryz.func170,Tryz.ntmps170
 all_goals go_wp2_with (go_at_call 171;refine (HC.out _ HB0.out.1).mono ?_;rintro x w1 ⟨rfl,ok⟩)
 all_goals go_ret
 all_goals exact ⟨rfl,aB HB0.out.1 ok⟩
def vI (cx L:List Pn):Bool:= !(cx.any fun q=> !(L.any (dB q)))
theorem GW {cx L:List Pn}:vI cx L=true↔∀ q ∈ cx,q ∈ L:=by
 unfold vI;rw [Bool.not_eq_true',List.any_eq_false]
 constructor
 · intro h q hq
   have e:=h q hq;rw [Bool.not_eq_true,Bool.not_eq_false'] at e;obtain ⟨y,hy,e⟩:=List.any_eq_true.1 e;rw [fW.1 e];exact hy
 · intro h q hq
   rw [Bool.not_eq_true,Bool.not_eq_false'];exact List.any_eq_true.2 ⟨q,h q hq,fW.2 rfl⟩
set_option maxHeartbeats 3200000 in
theorem oK {x:Nd} {L:List Pn} {v vc:Value} {ve:Option Addr} {le ce:Nat} {w:World} (hc:PinsAt w vc x.cx) (hl:PinsAt w v L) (hzc:x.cx.length≤9223372036854775807) (hz:L.length≤9223372036854775807):
 Calls Tryz.prog 116 #[.agg #[.string x.nm,.int .i64 x.a,.int .i64 x.b,.int .i64 x.c,vc,.slice ve le ce],v] w fun e w'=>e= .returned (.bool (vI x.cx L))∧Below w.heap.size w w':=by
 have HH:Hid (∀ w1 N,Below w.heap.size w w1→BxL w1 N v→Calls Tryz.prog 169 #[vc,.func (.func 170) #[] #[.pointer (some ⟨N,0,none⟩)]] w1 fun e w'=>e= .returned (.bool (x.cx.any fun q=> !(L.any (dB q))))∧Below w1.heap.size w1 w'):=fun w1 N hb hN=>
  zP (p:=fun q=> !(L.any (dB q))) (hc.below hb) hzc fun w2 h2 y _=>GV y ((hl.below hb).below h2) hz (iJ _ _ _ _ hN h2)
 obtain ⟨ac,cc,rfl⟩:=hc.sl;obtain ⟨al,cl,rfl⟩:=hl.sl;have HB0:Hid (Below w.heap.size w ((w.alloc (.cells #[.string x.nm,.int .i64 x.a,.int .i64 x.b,.int .i64 x.c,.slice ac x.cx.length cc,.slice ve le ce] 67)).alloc (.cells #[.slice al L.length cl] 40))∧BxNd ((w.alloc (.cells #[.string x.nm,.int .i64 x.a,.int .i64 x.b,.int .i64 x.c,.slice ac x.cx.length cc,.slice ve le ce] 67)).alloc (.cells #[.slice al L.length cl] 40)) w.heap.size x (.slice ac x.cx.length cc) (.slice ve le ce)∧BxL ((w.alloc (.cells #[.string x.nm,.int .i64 x.a,.int .i64 x.b,.int .i64 x.c,.slice ac x.cx.length cc,.slice ve le ce] 67)).alloc (.cells #[.slice al L.length cl] 40)) (w.heap.size+1) (.slice al L.length cl)):=⟨aR _ _ _,aZ _ _ _ _ _ _ (BxNd.new rfl x _ _) (aD _ _),BxL.new (by simp) _ _⟩;unfold vI;obtain ⟨⟨z0,z1,z2,z3,z4,z5⟩,z6⟩:=HB0.out.2.1;clear hc hl hzc hz;generalize x.cx.any (fun q=> !(L.any (dB q)))=b at*
 generalize x.cx.length=l1 at*;generalize L.length=l2 at*;cases b
 all_goals go_enter Tryz.func116,Tryz.ntmps116
 all_goals go_wp2_with (go_at_call 169;refine (HH.out _ _ HB0.out.1 HB0.out.2.2).mono ?_;rintro y w1 ⟨rfl,ok⟩)
 all_goals go_ret
 all_goals exact ⟨rfl,aB HB0.out.1 ok⟩
end Go.Proofs.YtpfemjlhklnfoaaGreatDoor
