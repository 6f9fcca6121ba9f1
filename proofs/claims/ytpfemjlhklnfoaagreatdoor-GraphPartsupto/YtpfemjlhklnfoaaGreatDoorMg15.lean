/- Wg5, Gl2, Gd6: their declarations that are needed, laid in one text, remarks and blanks left out. -/
import Derived.Test.YtpfemjlhklnfoaaGreatDoorMg14
namespace Go.Proofs.YtpfemjlhklnfoaaGreatDoor
open Go.RowKit Go.Maps Go.WideMaps
set_option maxRecDepth 100000
def kI (ds1 ds2 ds3:List Dp):List (Dp×Int):=ds1.map (fun d=>(d,1))++ds2.map (fun d=>(d,1))++ds3.map (fun d=>(d,2))
theorem tH {w5 w5' w6 w7:World} {B:Nat} {O ds1 ds2 ds3:List Dp} {v1 vd v2:Value} {ps pd qs:List (Wt×List Sp)} (hB:B≤w5.heap.size) (hd:OwnWt w5 B vd pd) (td:dM O 1 ds1.length ds2 pd) (hb5:Below w5.heap.size w5 w5') (h1:OwnWt w6 w5'.heap.size v1 ps) (t1:dM O 1 0 ds1 ps) (hb6:Below w5'.heap.size w5' w6) (h2:OwnWt w7 w6.heap.size v2 qs) (t2:dM O 2 (ds1.length+ds2.length) ds3 qs) (hb:Below w6.heap.size w6 w7) (hl:ds1.length+ds2.length+ds3.length≤100000000):Calls Tryz.prog 215 #[.slice (some ⟨w7.heap.size,0,none⟩) 3 3] (w7.alloc (.cells #[v1,vd,v2] 111)) fun e w'=>∃ v,e= .returned v∧∃ Y,nO O (kI ds1 ds2 ds3) w' B v Y∧Below w7.heap.size w7 w':=by
 have e0:[(v1,ps),(vd,pd),(v2,qs)].flatMap (·.2)=ps++(pd++qs):=by simp
 have t0:=(TagD.nil O).more (k:=1) (ds:=ds1) (qs:=ps) t1;rw [List.nil_append,List.nil_append] at t0;have t3:=t0.more (k:=1) (ds:=ds2) (qs:=pd) (by rw [List.length_map];exact td);have t4:=t3.more (k:=2) (ds:=ds3) (qs:=qs) (by rw [List.length_append,List.length_map,List.length_map];exact t2);have hd5:=hd.below hb5;have hd6:=hd5.below hb6;have hB6:B≤w6.heap.size:=Nat.le_trans hB (Nat.le_trans hb5.size hb6.size);refine yA (Ls:=[(v1,ps),(vd,pd),(v2,qs)]) (E:=kI ds1 ds2 ds3) (fun L hL=> ?_) ?_ ?_ (by unfold kI;simp only [List.length_append,List.length_map];exact hl) rfl (by omega) (Nat.le_trans hB6 hb.size)
 · simp at hL
   rcases hL with rfl|rfl|rfl
   · exact (h1.base (Nat.le_trans hB hb5.size)).below hb
   · exact hd6.below hb
   · exact h2.base hB6
 · rw [e0,List.pairwise_append,List.pairwise_append]
   refine ⟨h1.2.2,⟨hd.2.2,h2.2.2,gM hd6 h2⟩,fun p hp q hq=> ?_⟩
   rcases List.mem_append.1 hq with hq|hq
   · exact (gM hd5 h1 q hq p hp).symm
   · exact gM h1 h2 p hp q hq
 · rw [e0,←List.append_assoc]
   exact t4
set_option maxHeartbeats 12800000 in
theorem pU {w:World} {O:List Dp} {v4:Value} (h:DepsAt w v4 O) (hlen:O.length≤9223372036854775807) (hn:∀ d ∈ O,d.nm.size≤9223372036854775807) {ds1 ds2 ds3:List Dp} {p1 p2 p3:Option Addr} {r1 r2 r3:Nat} (hp1:DepsAt w (.slice p1 ds1.length r1) ds1) (hp2:DepsAt w (.slice p2 ds2.length r2) ds2) (hp3:DepsAt w (.slice p3 ds3.length r3) ds3) (hf1:mP O ds1) (hf2:mP O ds2) (hf3:mP O ds3) (hl:ds1.length+ds2.length+ds3.length≤100000000) (dev:Bool) {dd:List Dp} (hdd:dd=if dev=true then ds2 else []):Calls Tryz.prog 165 #[.agg #[.slice p1 ds1.length r1,.slice p2 ds2.length r2,.slice p3 ds3.length r3,v4],.bool dev] w fun e w'=>∃ v,e= .returned v∧∃ Y,nO O (kI ds1 dd ds3) w' w.heap.size v Y∧Below w.heap.size w w':=by
 obtain ⟨ad,cap,rfl,hcap,_⟩:=h.el;have HB0:Hid (Below w.heap.size w (w.alloc (.cells #[.slice p1 ds1.length r1,.slice p2 ds2.length r2,.slice p3 ds3.length r3,.slice ad O.length cap] 57))):=aD _ _;have HOV:Hid (Calls Tryz.prog 213 #[.agg #[.slice p1 ds1.length r1,.slice p2 ds2.length r2,.slice p3 ds3.length r3,.slice ad O.length cap]] (w.alloc (.cells #[.slice p1 ds1.length r1,.slice p2 ds2.length r2,.slice p3 ds3.length r3,.slice ad O.length cap] 57)) fun e w'=>∃ M,e= .returned (.agg #[.slice ad O.length cap,.map (some M)])∧(∃ n,SmAt w' M n (.int .i64 0) (aG O))∧Below (w.alloc (.cells #[.slice p1 ds1.length r1,.slice p2 ds2.length r2,.slice p3 ds3.length r3,.slice ad O.length cap] 57)).heap.size (w.alloc (.cells #[.slice p1 ds1.length r1,.slice p2 ds2.length r2,.slice p3 ds3.length r3,.slice ad O.length cap] 57)) w'):=(xO (h.below HB0.out) hlen hn).mono fun e w' ⟨h1,h2,h3⟩=>⟨_,h1,h2,h3⟩
 have HOW:=aA h;have HDD:=aA hdd;clear hdd;have HD1:=aA hp1;have HD2:=aA hp2;have HD3:=aA hp3;have hbl0:w.heap.size<(w.alloc (.cells #[.slice p1 ds1.length r1,.slice p2 ds2.length r2,.slice p3 ds3.length r3,.slice ad O.length cap] 57)).heap.size:=by simp
 have HFF:Hid (mP O ds1∧mP O ds2∧mP O ds3∧ds1.length+ds2.length+ds3.length≤100000000):=⟨hf1,hf2,hf3,hl⟩;clear h hp1 hp2 hp3 hf1 hf2 hf3 hl hn
 go_enter Tryz.func165,Tryz.ntmps165
 go_upto_region 1 with fail
 have e0:(w.alloc (.cells #[.slice p1 ds1.length r1,.slice p2 ds2.length r2,.slice p3 ds3.length r3,.slice ad O.length cap] 57)).cell? ⟨w.heap.size,0,none⟩=some (.slice p1 ds1.length r1):=(bP (by simp) rfl).1;have e1:(w.alloc (.cells #[.slice p1 ds1.length r1,.slice p2 ds2.length r2,.slice p3 ds3.length r3,.slice ad O.length cap] 57)).cell? ⟨w.heap.size,1,none⟩=some (.slice p2 ds2.length r2):=(bP (by simp) rfl).1;have e2:(w.alloc (.cells #[.slice p1 ds1.length r1,.slice p2 ds2.length r2,.slice p3 ds3.length r3,.slice ad O.length cap] 57)).cell? ⟨w.heap.size,2,none⟩=some (.slice p3 ds3.length r3):=(bP (by simp) rfl).1;have e3:(w.alloc (.cells #[.slice p1 ds1.length r1,.slice p2 ds2.length r2,.slice p3 ds3.length r3,.slice ad O.length cap] 57)).cell? ⟨w.heap.size,3,none⟩=some (.slice ad O.length cap):=(bP (by simp) rfl).1
 generalize (w.alloc (.cells #[.slice p1 ds1.length r1,.slice p2 ds2.length r2,.slice p3 ds3.length r3,.slice ad O.length cap] 57))=WA at*
 go_upto_region 2 with (go_at_call 213;refine HOV.out.mono ?_;rintro e w1 ⟨M,rfl,⟨n,hsm⟩,hb1⟩;have HSM:=aA hsm;have HB1:=aA hb1;clear hsm hb1)
 have HWW:Hid (Below WA.heap.size WA (w1.alloc (.cells #[.slice ad O.length cap,.map (some M)] 249))):=aB HB1.out (aD _ _);obtain ⟨N0,hN0⟩:∃ k,k=w.heap.size:=⟨_,rfl⟩;have b0:=(HWW.out.cell (p:=⟨w.heap.size,0,none⟩) hbl0).trans e0;have b1:=(HWW.out.cell (p:=⟨w.heap.size,1,none⟩) hbl0).trans e1;have b2:=(HWW.out.cell (p:=⟨w.heap.size,2,none⟩) hbl0).trans e2;have hNl:N0<(w1.alloc (.cells #[.slice ad O.length cap,.map (some M)] 249)).heap.size:=by rw [hN0];exact Nat.lt_of_lt_of_le hbl0 HWW.out.size
 rw [←hN0] at b0 b1 b2;have HSW:Hid (SmAt (w1.alloc (.cells #[.slice ad O.length cap,.map (some M)] 249)) M n (.int .i64 0) (aG O)):=HSM.out.below (aD _ _);have k0:(w1.alloc (.cells #[.slice ad O.length cap,.map (some M)] 249)).cell? ⟨w1.heap.size,0,none⟩=some (.slice ad O.length cap):=by simp
 have k1:(w1.alloc (.cells #[.slice ad O.length cap,.map (some M)] 249)).cell? ⟨w1.heap.size,1,none⟩=some (.map (some M)):=by simp
 have hkl:w1.heap.size<(w1.alloc (.cells #[.slice ad O.length cap,.map (some M)] 249)).heap.size:=by simp
 have HOV2:Hid (Below w.heap.size w (w1.alloc (.cells #[.slice ad O.length cap,.map (some M)] 249))):=aB HB0.out HWW.out;obtain ⟨KB,hKB⟩:∃ k,k=w1.heap.size:=⟨_,rfl⟩;rw [←hKB] at k0 k1 hkl;rw [←hKB,←hN0];generalize (w1.alloc (.cells #[.slice ad O.length cap,.map (some M)] 249))=W at*;have HKD:Hid (KeepP fun X=>(Below W.heap.size W X∧SmAt X M n (.int .i64 0) (aG O))∧DepsAt X (.slice ad O.length cap) O∧DepsAt X (.slice p1 ds1.length r1) ds1∧DepsAt X (.slice p2 ds2.length r2) ds2∧DepsAt X (.slice p3 ds3.length r3) ds3):=fun p q hx hpq=>⟨⟨aB hx.1.1 hpq,hx.1.2.below hpq⟩,hx.2.1.below hpq,hx.2.2.1.below hpq,hx.2.2.2.1.below hpq,hx.2.2.2.2.below hpq⟩
 have HO0:Hid ((Below W.heap.size W W∧SmAt W M n (.int .i64 0) (aG O))∧DepsAt W (.slice ad O.length cap) O∧DepsAt W (.slice p1 ds1.length r1) ds1∧DepsAt W (.slice p2 ds2.length r2) ds2∧DepsAt W (.slice p3 ds3.length r3) ds3):=⟨⟨Below.refl _ _,HSW.out⟩,HOW.out.below HOV2.out,HD1.out.below HOV2.out,HD2.out.below HOV2.out,HD3.out.below HOV2.out⟩
 have HBX:Hid (∀ X,((Below W.heap.size W X∧SmAt X M n (.int .i64 0) (aG O))∧DepsAt X (.slice ad O.length cap) O∧DepsAt X (.slice p1 ds1.length r1) ds1∧DepsAt X (.slice p2 ds2.length r2) ds2∧DepsAt X (.slice p3 ds3.length r3) ds3)→X.cell? ⟨N0,0,none⟩=some (.slice p1 ds1.length r1)∧X.cell? ⟨N0,1,none⟩=some (.slice p2 ds2.length r2)∧X.cell? ⟨N0,2,none⟩=some (.slice p3 ds3.length r3)∧X.cell? ⟨KB,0,none⟩=some (.slice ad O.length cap)∧X.cell? ⟨KB,1,none⟩=some (.map (some M))):=fun X hx=>⟨(hx.1.1.cell (p:=⟨N0,0,none⟩) hNl).trans b0,(hx.1.1.cell (p:=⟨N0,1,none⟩) hNl).trans b1,(hx.1.1.cell (p:=⟨N0,2,none⟩) hNl).trans b2,(hx.1.1.cell (p:=⟨KB,0,none⟩) hkl).trans k0,(hx.1.1.cell (p:=⟨KB,1,none⟩) hkl).trans k1⟩
 have HW1:Hid (∀ X,((Below W.heap.size W X∧SmAt X M n (.int .i64 0) (aG O))∧DepsAt X (.slice ad O.length cap) O∧DepsAt X (.slice p1 ds1.length r1) ds1∧DepsAt X (.slice p2 ds2.length r2) ds2∧DepsAt X (.slice p3 ds3.length r3) ds3)→Calls Tryz.prog 214 #[.agg #[.slice ad O.length cap,.map (some M)],.slice p1 ds1.length r1,.int .i64 1] X fun e w'=>∃ a7 n7 c7,e= .returned (.slice a7 n7 c7)∧(∃ ps,OwnWt w' X.heap.size (.slice a7 n7 c7) ps∧dM O 1 0 ds1 ps)∧Below X.heap.size X w'):=fun X hx=>(dN hx.2.1 hx.1.2 hx.2.2.1 HFF.out.1 1 0).mono fun e w' hq=>by
  obtain ⟨v,h1,ps,h2,h3,h4⟩:=hq;obtain ⟨a7,c7,rfl⟩:=h2.len;exact ⟨a7,_,c7,h1,⟨ps,h2,h3⟩,h4⟩
 have HSR:Hid (∀ (dd:List Dp) (w5 X w6 w7:World) (v1 vd v2:Value),dd.length≤ds2.length→((Below W.heap.size W X∧SmAt X M n (.int .i64 0) (aG O))∧DepsAt X (.slice ad O.length cap) O∧DepsAt X (.slice p1 ds1.length r1) ds1∧DepsAt X (.slice p2 ds2.length r2) ds2∧DepsAt X (.slice p3 ds3.length r3) ds3)→((∃ pd,OwnWt w5 W.heap.size vd pd∧dM O 1 ds1.length dd pd)∧W.heap.size≤w5.heap.size)→Below w5.heap.size w5 X→(∃ ps,OwnWt w6 X.heap.size v1 ps∧dM O 1 0 ds1 ps)→Below X.heap.size X w6→(∃ qs,OwnWt w7 w6.heap.size v2 qs∧dM O 2 (ds1.length+dd.length) ds3 qs)→Below w6.heap.size w6 w7→Calls Tryz.prog 215 #[.slice (some ⟨w7.heap.size,0,none⟩) 3 3] (w7.alloc (.cells #[v1,vd,v2] 111)) fun e w'=>∃ v,e= .returned v∧(∃ Y,nO O (kI ds1 dd ds3) w' w.heap.size v Y∧Below w.heap.size w w')∧Below w7.heap.size w7 w'):=fun dd w5 X w6 w7 v1 vd v2 hdl hx h0 hb5 h1 h2 h3 h4=>by
  obtain ⟨⟨pd,g5,g6⟩,hW5⟩:=h0;obtain ⟨ps,g1,g2⟩:=h1;obtain ⟨qs,g3,g4⟩:=h3;have hl:=HFF.out.2.2.2;refine (tH (B:=w.heap.size) (Nat.le_trans HOV2.out.size hW5) (g5.base HOV2.out.size) g6 hb5 g1 g2 h2 g3 g4 h4 (by omega)).mono fun e w' hq=> ?_
  obtain ⟨v,q1,Y,q3,q4⟩:=hq;exact ⟨v,q1,⟨Y,q3,aB (aB (aB (aB HOV2.out hx.1.1) h2) h4) q4⟩,q4⟩
 clear HB0 HOV HSM HB1 HWW hcap b0 b1 b2 hbl0 e0 e1 e2 e3 HOW HD1 HD2 HD3 HSW hN0 hKB;cases dev with
 |true=>
  obtain ⟨hds⟩:Nonempty (dd=ds2):=⟨HDD.out⟩;subst dd
  try clear HDD
  have HW2:Hid (∀ X,((Below W.heap.size W X∧SmAt X M n (.int .i64 0) (aG O))∧DepsAt X (.slice ad O.length cap) O∧DepsAt X (.slice p1 ds1.length r1) ds1∧DepsAt X (.slice p2 ds2.length r2) ds2∧DepsAt X (.slice p3 ds3.length r3) ds3)→Calls Tryz.prog 214 #[.agg #[.slice ad O.length cap,.map (some M)],.slice p2 ds2.length r2,.int .i64 1] X fun e w'=>∃ a7 n7 c7,e= .returned (.slice a7 n7 c7)∧(∃ ps,OwnWt w' X.heap.size (.slice a7 n7 c7) ps∧dM O 1 ds1.length ds2 ps)∧Below X.heap.size X w'):=fun X hx=>(dN hx.2.1 hx.1.2 hx.2.2.2.1 HFF.out.2.1 1 ds1.length).mono fun e w' hq=>by
   obtain ⟨v,h1,ps,h2,h3,h4⟩:=hq;obtain ⟨a7,c7,rfl⟩:=h2.len;exact ⟨a7,_,c7,h1,⟨ps,h2,h3⟩,h4⟩
  have HW3:Hid (∀ X,((Below W.heap.size W X∧SmAt X M n (.int .i64 0) (aG O))∧DepsAt X (.slice ad O.length cap) O∧DepsAt X (.slice p1 ds1.length r1) ds1∧DepsAt X (.slice p2 ds2.length r2) ds2∧DepsAt X (.slice p3 ds3.length r3) ds3)→Calls Tryz.prog 214 #[.agg #[.slice ad O.length cap,.map (some M)],.slice p3 ds3.length r3,.int .i64 2] X fun e w'=>∃ a7 n7 c7,e= .returned (.slice a7 n7 c7)∧(∃ ps,OwnWt w' X.heap.size (.slice a7 n7 c7) ps∧dM O 2 (ds1.length+ds2.length) ds3 ps)∧Below X.heap.size X w'):=fun X hx=>(dN hx.2.1 hx.1.2 hx.2.2.2.2 HFF.out.2.2.1 2 (ds1.length+ds2.length)).mono fun e w' hq=>by
   obtain ⟨v,h1,ps,h2,h3,h4⟩:=hq;obtain ⟨a7,c7,rfl⟩:=h2.len;exact ⟨a7,_,c7,h1,⟨ps,h2,h3⟩,h4⟩
  replace HSR:=aA (fun w5 X w6 w7 v1 vd v2=>HSR.out ds2 w5 X w6 w7 v1 vd v2 (Nat.le_refl _))
  obtain ⟨t0,t1,t2,t3,t4⟩:=HBX.out _ HO0.out
  go_upto_region 5 with (go_at_call 214;refine (HW2.out _ HO0.out).mono ?_;rintro e w5 ⟨a5,n5,c5,rfl,ht5,hb5⟩;have HT5:Hid ((∃ pd,OwnWt w5 W.heap.size (.slice a5 n5 c5) pd∧dM O 1 ds1.length ds2 pd)∧W.heap.size≤w5.heap.size):=⟨ht5,hb5.size⟩;have HO5:=aA (HKD.out _ _ HO0.out hb5);clear ht5 hb5)
  clear t0 t1 t2 t3 t4;have HO:=aA (HKD.out _ _ HO5.out (Below.refl _ _).drew);have HB5:Hid (Below w5.heap.size w5 w5.drew):=(Below.refl _ _).drew;obtain ⟨t0,t1,t2,t3,t4⟩:=HBX.out _ HO.out
  go_region_held3 (fun w'=>w'.cell? ⟨N0,0,none⟩=some (.slice p1 ds1.length r1)∧w'.cell? ⟨N0,1,none⟩=some (.slice p2 ds2.length r2)∧w'.cell? ⟨N0,2,none⟩=some (.slice p3 ds3.length r3)∧w'.cell? ⟨KB,0,none⟩=some (.slice ad O.length cap)∧w'.cell? ⟨KB,1,none⟩=some (.map (some M))) (go_keep) (first
   |(go_at_call 215;have _t:=HT2;refine (HSR.out _ _ _ _ _ _ _ HO.out HT5.out HB5.out HT1.out HB6.out HT2.out HB7.out).mono ?_;rintro e w8 ⟨v8,rfl,hfin,hb8⟩;have HFN:=aA hfin;have HO8:=aA (HKD.out _ _ HO7.out hb8);obtain ⟨g0,g1,g2,g3,g4⟩:=HBX.out _ HO8.out;clear hfin hb8)
   |(go_at_call 214;have _t:=HT1;refine (HW3.out _ HO6.out).mono ?_;rintro e w7 ⟨a7,n7,c7,rfl,ht2,hb7⟩;have HT2:=aA ht2;have HB7:=aA hb7;have HO7:=aA (HKD.out _ _ HO6.out hb7);obtain ⟨u0,u1,u2,u3,u4⟩:=HBX.out _ HO7.out;clear ht2 hb7)
   |(go_at_call 214;refine (HW1.out _ HO.out).mono ?_;rintro e w6 ⟨a6,n6,c6,rfl,ht1,hb6⟩;have HT1:=aA ht1;have HB6:=aA hb6;have HO6:=aA (HKD.out _ _ HO.out hb6);obtain ⟨s0,s1,s2,s3,s4⟩:=HBX.out _ HO6.out;clear ht1 hb6))
  all_goals go_wp2
  all_goals go_ret
  all_goals (obtain ⟨Y,q1,q2⟩:=HFN.out;first|exact ⟨_,rfl,⟨Y,q1⟩,q2⟩|exact ⟨_,rfl,Y,q1,q2⟩)
 |false=>
  obtain rfl:dd=[]:=HDD.out;clear HDD
  have HW3:Hid (∀ X,((Below W.heap.size W X∧SmAt X M n (.int .i64 0) (aG O))∧DepsAt X (.slice ad O.length cap) O∧DepsAt X (.slice p1 ds1.length r1) ds1∧DepsAt X (.slice p2 ds2.length r2) ds2∧DepsAt X (.slice p3 ds3.length r3) ds3)→Calls Tryz.prog 214 #[.agg #[.slice ad O.length cap,.map (some M)],.slice p3 ds3.length r3,.int .i64 2] X fun e w'=>∃ a7 n7 c7,e= .returned (.slice a7 n7 c7)∧(∃ ps,OwnWt w' X.heap.size (.slice a7 n7 c7) ps∧dM O 2 (ds1.length+([]:List Dp).length) ds3 ps)∧Below X.heap.size X w'):=fun X hx=>(dN hx.2.1 hx.1.2 hx.2.2.2.2 HFF.out.2.2.1 2 (ds1.length+([]:List Dp).length)).mono fun e w' hq=>by
   obtain ⟨v,h1,ps,h2,h3,h4⟩:=hq;obtain ⟨a7,c7,rfl⟩:=h2.len;exact ⟨a7,_,c7,h1,⟨ps,h2,h3⟩,h4⟩
  replace HSR:=aA (fun w5 X w6 w7 v1 vd v2=>HSR.out [] w5 X w6 w7 v1 vd v2 (Nat.zero_le _))
  have HT5:Hid ((∃ pd,OwnWt W W.heap.size (.slice none 0 0) pd∧dM O 1 ds1.length [] pd)∧W.heap.size≤W.heap.size):=⟨⟨[],OwnWt.nil _ _,rfl,fun i p hi=>by simp at hi⟩,Nat.le_refl _⟩;have HO5:=HO0
  go_upto_region 5 with fail
  have HO:=aA (HKD.out _ _ HO5.out (Below.refl _ _).drew);have HB5:Hid (Below W.heap.size W W.drew):=(Below.refl _ _).drew;obtain ⟨t0,t1,t2,t3,t4⟩:=HBX.out _ HO.out
  go_region_held3 (fun w'=>w'.cell? ⟨N0,0,none⟩=some (.slice p1 ds1.length r1)∧w'.cell? ⟨N0,1,none⟩=some (.slice p2 ds2.length r2)∧w'.cell? ⟨N0,2,none⟩=some (.slice p3 ds3.length r3)∧w'.cell? ⟨KB,0,none⟩=some (.slice ad O.length cap)∧w'.cell? ⟨KB,1,none⟩=some (.map (some M))) (go_keep) (first
   |(go_at_call 215;have _t:=HT2;refine (HSR.out _ _ _ _ _ _ _ HO.out HT5.out HB5.out HT1.out HB6.out HT2.out HB7.out).mono ?_;rintro e w8 ⟨v8,rfl,hfin,hb8⟩;have HFN:=aA hfin;have HO8:=aA (HKD.out _ _ HO7.out hb8);obtain ⟨g0,g1,g2,g3,g4⟩:=HBX.out _ HO8.out;clear hfin hb8)
   |(go_at_call 214;have _t:=HT1;refine (HW3.out _ HO6.out).mono ?_;rintro e w7 ⟨a7,n7,c7,rfl,ht2,hb7⟩;have HT2:=aA ht2;have HB7:=aA hb7;have HO7:=aA (HKD.out _ _ HO6.out hb7);obtain ⟨u0,u1,u2,u3,u4⟩:=HBX.out _ HO7.out;clear ht2 hb7)
   |(go_at_call 214;refine (HW1.out _ HO.out).mono ?_;rintro e w6 ⟨a6,n6,c6,rfl,ht1,hb6⟩;have HT1:=aA ht1;have HB6:=aA hb6;have HO6:=aA (HKD.out _ _ HO.out hb6);obtain ⟨s0,s1,s2,s3,s4⟩:=HBX.out _ HO6.out;clear ht1 hb6))
  all_goals go_wp2
  all_goals go_ret
  all_goals (obtain ⟨Y,q1,q2⟩:=HFN.out;first|exact ⟨_,rfl,⟨Y,q1⟩,q2⟩|exact ⟨_,rfl,Y,q1,q2⟩)
end Go.Proofs.YtpfemjlhklnfoaaGreatDoor
namespace Go.Proofs.YtpfemjlhklnfoaaGreatDoor
open Go.Shelf Go.RowKit Go.Maps Go.WideMaps
set_option maxRecDepth 100000
theorem bU (w:World):DepsAt w (.slice none ([]:List Dp).length 0) []:=⟨none,0,rfl,Nat.le_refl _,Or.inl rfl⟩
theorem tI (w:World):Calls Tryz.prog 165 #[.agg #[.slice none 0 0,.slice none 0 0,.slice none 0 0,.slice none 0 0],.bool true] w fun e w'=>∃ ad c,e= .returned (.slice ad 0 c)∧Below w.heap.size w w':=by
 have hf:mP [] []:=⟨by simp,fun d hd=>by cases hd⟩;refine (pU (w:=w) (O:=[]) (v4:= .slice none 0 0) (bU w) (by simp) (fun d hd=>by cases hd) (ds1:=[]) (ds2:=[]) (ds3:=[]) (bU w) (bU w) (bU w) hf hf hf (by simp) true (dd:=[]) rfl).mono ?_;rintro e w' ⟨v,rfl,Y,ht,hb⟩;obtain ⟨h1,_,h3,_⟩:=ht
 have hy:Y=[]:=by
  have e:=h3.length_eq;simp [kI] at e;exact e
 subst hy;obtain ⟨ad,cap,rfl⟩:=h1.len;exact ⟨ad,cap,rfl,hb⟩
set_option maxHeartbeats 1600000 in
theorem pV {v:Value} {p:Option Addr} {w:World} (hv:∃ ad n c,v= .slice ad n c):
 Calls Tryz.prog 112 #[.agg #[v,.pointer p,.slice none 0 0,.slice none 0 0,.slice none 0 0,.slice none 0 0,.bool true],.int .i64 0] w fun e w'=>∃ ad c,e= .returned (.tuple #[.slice ad 0 c,.bool true])∧Below w.heap.size w w':=by
 obtain ⟨va,vn,vc,rfl⟩:=hv;have HO:=aA tI;have HB:=aA (aD w (.cells #[.slice va vn vc,.pointer p,.slice none 0 0,.slice none 0 0,.slice none 0 0,.slice none 0 0,.bool true] 109))
 go_enter Tryz.func112,Tryz.ntmps112
 go_wp2_with (go_at_call 165;refine (HO.out _).mono ?_;rintro e w1 ⟨ad,c,rfl,ok⟩)
 go_ret2;exact ⟨ad,c,rfl,aB HB.out ok⟩
theorem vZ:(Tryz.prog.info? 80).map (fun i=>(i.zero,i.size,i.bytes))=some (some (.agg #[.string ByteArray.empty,.int .i64 0,.int .i64 0,.int .i64 0]),4,40):=by kernel_rfl
theorem jH {w:World} {ops:Array Oper} {rest:List Oper} {o:Oper} {f:Act} {Q:Exit→Act→World→Prop} (hgd:o.guard=none) (s x:Operand) (t:TypeId)
 (ho:o.op= .call { callee:= .builtin .append,args:= #[s,x],argTypes:= #[t,t] }) (e:TypeId) (i:TypeInfo) (ht:Tryz.prog.underlying t=some (.slice e)) (hi:Tryz.prog.info? e=some i)
 {base:Option Addr} {n cap:Nat} (hs:f.eval s= .slice base n cap) (hn:n≤cap) {ad:Option Addr} {c:Nat} (hx:f.eval x= .slice ad 0 c)
 (h:wpList Tryz.prog ops Q rest (f.put o.dst (.slice base n cap)) w):wpList Tryz.prog ops Q (o::rest) f w:=by
 refine wpList_plain hgd fun K hK=> ?_
 have hr:(Builtin.append_ #[t,t] o.type #[.slice base n cap,.slice ad 0 c]).run Tryz.prog w= .ok (.slice base n cap) w:=by
  cases ad<;>cases base<;>simp [Builtin.append_,run_underlying ht,sizeOf,typeInfo,hi,Builtin.lenOf,hn,Builtin.firstCells,loadCells,loadCellsFrom,storeCells]
 unfold Oper.wp execOp;simp only [ho,resolve,invoke,builtin,Sem.run_bind,Sem.run_pure,Result.andThen_ok,List.map_toArray,List.map_cons,List.map_nil,hs,hx,hr];exact hK _ _ h
set_option maxHeartbeats 3200000 in
theorem tJ {a1 a2:Option Addr} {c1 c2 g:Nat} {w:World} (k0:w.cell? ⟨g,0,none⟩=some (.slice a1 0 c1)) (k1:w.cell? ⟨g,1,none⟩=some (.slice a2 0 c2)):
 Calls Tryz.prog 172 #[.slice (some ⟨g,0,none⟩) 2 2] w fun e w'=>∃ ad c,e= .returned (.slice ad 0 c)∧Below w.heap.size w w':=by
 have hgl:g<w.heap.size:=World.block_lt_of_cell? w ⟨g,0,none⟩ k0;have HGR:Hid (Calls Tryz.prog 219 #[.slice none 0 0,.int .i64 0] w fun e w'=>e= .returned (.slice none 0 0)∧w'=w):=(Any8.slices_Grow_room Tryz.growP none 0 0 0 w (Nat.le_refl _) (by omega) (by omega) (Nat.le_refl _)).mono fun e w' h=>by obtain ⟨rfl,rfl⟩:=h;exact ⟨rfl,rfl⟩
 obtain ⟨i0,hi,hz0,hz1,hz2⟩:=Sc.bN vZ
 go_enter Tryz.func172,Tryz.ntmps172
 go_wp2_with fail
 go_loopw [3,11] (fun vs vi wr=>wr=w∧vs= .int .i64 0∧(vi= .int .i64 0∨vi= .int .i64 1∨vi= .int .i64 2)) (fun _ vi _=>2 - (intOf vi).toNat)
 case atStart=>exact ⟨rfl,rfl,Or.inl rfl⟩
 case round=>
  obtain ⟨hww,rfl,rfl|rfl|rfl⟩:=hrel
  · obtain rfl:w=wr:=hww.symm
    go_wp2_with fail
    exact ⟨by simp,by decide⟩
  · obtain rfl:w=wr:=hww.symm
    go_wp2_with fail
    exact ⟨by simp,by decide⟩
  · obtain rfl:w=wr:=hww.symm
    go_wp2_with (go_at_call 219;refine HGR.out.mono ?_;rintro e w2 ⟨rfl,hw2⟩;obtain rfl:w=w2:=hw2.symm)
    go_loopw [6,27] (fun vr vi wr=>wr=w∧vr= .slice none 0 0∧(vi= .int .i64 0∨vi= .int .i64 1∨vi= .int .i64 2)) (fun _ vi _=>2 - (intOf vi).toNat)
    case atStart=>exact ⟨rfl,rfl,Or.inl rfl⟩
    case round=>
     obtain ⟨hww,rfl,rfl|rfl|rfl⟩:=hrel
     · obtain rfl:w=wr:=hww.symm
       go_wp2_with (at_builtin;refine jH rfl _ _ _ rfl 80 i0 Tryz.underlying40 hi rfl (Nat.le_refl _) rfl ?_)
       exact ⟨by simp,by decide⟩
     · obtain rfl:w=wr:=hww.symm
       go_wp2_with (at_builtin;refine jH rfl _ _ _ rfl 80 i0 Tryz.underlying40 hi rfl (Nat.le_refl _) rfl ?_)
       exact ⟨by simp,by decide⟩
     · obtain rfl:w=wr:=hww.symm
       go_wp2
       go_ret;exact ⟨⟨none,0,rfl⟩,Below.refl _ _⟩
end Go.Proofs.YtpfemjlhklnfoaaGreatDoor
namespace Go.Proofs.YtpfemjlhklnfoaaGreatDoor
open Go.Shelf Go.RowKit Go.Lib Go.Sort
set_option maxRecDepth 100000
def BxPq (w:World) (N:Nat) (p:Pn):Prop:=(w.cell? ⟨N,0,none⟩=some (.string p.nm)∧w.cell? ⟨N,1,none⟩=some (.int .i64 p.a)∧w.cell? ⟨N,2,none⟩=some (.int .i64 p.b)∧w.cell? ⟨N,3,none⟩=some (.int .i64 p.c))∧N<w.heap.size
theorem wA (N:Nat) (p:Pn):KeepP fun w1=>BxPq w1 N p:=fun w w' h hb=>by
 obtain ⟨⟨h0,h1,h2,h3⟩,hg⟩:=h;have q:∀ i,w'.cell? ⟨N,i,none⟩=w.cell? ⟨N,i,none⟩:=fun i=>hb.cell (p:=⟨N,i,none⟩) hg
 exact ⟨⟨by rw [q];exact h0,by rw [q];exact h1,by rw [q];exact h2,by rw [q];exact h3⟩,Nat.lt_of_lt_of_le hg hb.size⟩
theorem BxPq.new {w:World} {N:Nat} (hN:w.heap.size=N) (p:Pn):BxPq (w.alloc (.cells #[.string p.nm,.int .i64 p.a,.int .i64 p.b,.int .i64 p.c] 80)) N p:=by
 subst hN;refine ⟨⟨?_,?_,?_,?_⟩,?_⟩<;>simp
theorem rC (g o i:Nat):(⟨g,o,none⟩:Addr).add i=⟨g,o+i,none⟩:=by unfold Addr.add;split<;>simp_all
def eD (w:World) (sv:Value) (m:Nat) (news:List Value):Prop:=news.length=m*4∧((m=0∧∃ ad c,sv= .slice ad 0 c)∨∃ ad c,sv= .slice (some ad) m c∧∀ j u,news[j]? =some u→w.cell? (ad.add j)=some u)
theorem OwnPn.roomG {w:World} {B:Nat} {ad:Option Addr} {n cap:Nat} {l:List Pn} (h:OwnPn w B (.slice ad n cap) l):l.length≤cap∧n=l.length:=by
 rcases h.2 with ⟨e,hn⟩|⟨g',cap',cur,hv,_,_,h1,_⟩
 · cases e;exact ⟨by omega,by omega⟩
 · cases hv;exact ⟨h1,rfl⟩
theorem cN {B:Nat} {wx:World} {n m:Nat} {v sv:Value} {l:List Pn} {news:List Value} {ops:Array Oper} {rest:List Oper} {o:Oper} {f:Act} {Q:Exit→Act→World→Prop}
 (hgd:o.guard=none) (s t:Operand) (ho:o.op= .call { callee:= .builtin .append,args:= #[s,t],argTypes:= #[40,40] }) (hs:f.eval s=v)
 (hown:OwnPn wx B v l) (hn:l.length=n) (hB:B≤wx.heap.size) (hx:f.eval t=sv) (hsrc:eD wx sv m news) (hone:∀ u ∈ news,u.oneCell'=true) (hlen:n+m≤3000000000000)
 (h:∀ v1 w1,w1.ownsRow B 80 4 v1 (n+m) (l.flatMap aF++news)→wx.grownBy w1 v.ownBlock→wpList Tryz.prog ops Q rest (f.put o.dst v1) w1):
 wpList Tryz.prog ops Q (o::rest) f wx:=by
 subst hn;obtain ⟨hnl,⟨rfl,ad,c,rfl⟩|⟨ad,c,rfl,hcell⟩⟩:=hsrc
 · obtain ⟨i0,hi,_⟩:=Sc.bN pH
   obtain rfl:news=[]:=List.eq_nil_of_length_eq_zero (by omega);obtain ⟨ad2,cap,rfl⟩:=hown.lenG;refine jH hgd s t 40 ho 80 i0 Tryz.underlying40 hi hs hown.roomG.1 hx ?_;exact h _ _ (by rw [List.append_nil];exact hown) ⟨rfl,rfl,rfl,Nat.le_refl _,fun _ _ _=>rfl⟩
 · exact eL pH Tryz.underlying40 rfl (by decide) hgd s t ho hs hown hB hx hnl hcell hone (by omega) (by omega) fun v1 w1 h1 h2 _=>h v1 w1 h1 h2
theorem cH (l:List Pn):(l.flatMap aF).length=l.length*4:=cK aF 4 (fun _=>rfl) l
theorem bZ (l:List Pn):∀ u ∈ l.flatMap aF,u.oneCell'=true:=fun u hu=>by
 obtain ⟨x,_,hx⟩:=List.mem_flatMap.1 hu;exact cF x u hx
theorem gU (l:List Pn) (k:Nat):l.flatMap aF=(l.take k).flatMap aF++(l.drop k).flatMap aF:=by rw [←List.flatMap_append,List.take_append_drop]
theorem eN {w:World} {B:Nat} {ad:Option Addr} {cap k c:Nat} {l:List Pn} (h:OwnPn w B (.slice ad l.length cap) l) (hk:k≤l.length):eD w (.slice ad k c) k ((l.take k).flatMap aF):=by
 refine ⟨by rw [cH,List.length_take,Nat.min_eq_left hk],?_⟩
 rcases Nat.eq_zero_or_pos k with rfl|h0
 · exact Or.inl ⟨rfl,_,_,rfl⟩
 · obtain ⟨g,cap',_,_,hv,_⟩:=cS h 0 (by omega)
   cases hv;refine Or.inr ⟨_,_,rfl,fun j u hu=> ?_⟩
   have hj:j<k*4:=by
    have:=(List.getElem?_eq_some_iff.1 hu).1
    rw [cH,List.length_take] at this;omega
   have e:=World.ownsRow.cellAt h j (by omega);rw [rC g 0 j,Nat.zero_add,e,gU l k,List.getElem?_append_left (by rw [cH,List.length_take];omega)];exact hu
theorem wB {w:World} {B g cap k c:Nat} {l:List Pn} (h:OwnPn w B (.slice (some ⟨g,0,none⟩) l.length cap) l) (hk:k≤l.length):eD w (.slice (some ⟨g,k*4,none⟩) (l.length - k) c) (l.length - k) ((l.drop k).flatMap aF):=by
 refine ⟨by rw [cH,List.length_drop],Or.inr ⟨_,_,rfl,fun j u hu=> ?_⟩⟩
 have hj:j<(l.length - k)*4:=by
  have:=(List.getElem?_eq_some_iff.1 hu).1
  rw [cH,List.length_drop] at this;exact this
 have e:=World.ownsRow.cellAt h (k*4+j) (by omega);rw [rC g (k*4) j,e,gU l k,List.getElem?_append_right (by rw [cH,List.length_take];omega),cH,List.length_take,show k*4+j - min k l.length*4=j by rw [Nat.min_eq_left hk];omega];exact hu
theorem tK {w:World} {ad:Option Addr} {c:Nat}:eD w (.slice ad 0 c) 0 (([]:List Pn).flatMap aF):=⟨rfl,Or.inl ⟨rfl,_,_,rfl⟩⟩
def StP (w:World) (v:Value) (N:Nat) (x:Pn) (ao:Option Addr) (co:Nat) (L:List Pn) (W:World):Prop:=(Below w.heap.size w W∧BxG W w.heap.size v)∧BxPq W N x∧OwnPn W w.heap.size (.slice ao L.length co) L
theorem dP (w:World) (v:Value) (N:Nat) (x:Pn) (ao:Option Addr) (co:Nat) (L:List Pn):KeepP (StP w v N x ao co L):=fun _ _ h hb=>⟨⟨aB h.1.1 hb,aW _ _ _ _ h.1.2 hb⟩,wA _ _ _ _ h.2.1 hb,h.2.2.belowG hb⟩
end Go.Proofs.YtpfemjlhklnfoaaGreatDoor
