/- Iw2, Iy8, Io3: their declarations that are needed, laid in one text, remarks and blanks left out. -/
import Derived.Test.YtlmpiohbmlddiaaGreatDoorMd22
namespace Go.Proofs.YtlmpiohbmlddiaaGreatDoor
open Go.RowKit
set_option maxRecDepth 100000
abbrev mnZ:Obj:= .cells #[.slice none 0 0,.slice none 0 0,.slice none 0 0,.slice none 0 0] 24
set_option maxHeartbeats 1600000 in
theorem yR {t:ByteArray} (hl:∀ W,Calls Tryz.prog 138 #[.string t,.int .i64 4096] W fun e w'=>e= .returned (.tuple #[.slice none 0 0,.int .i64 0,.int .i64 0])∧Below W.heap.size W w') (w:World):Calls Tryz.prog 87 #[.string t] w fun e w'=>e= .returned (.tuple #[.agg #[.slice none 0 0,.slice none 0 0,.slice none 0 0,.slice none 0 0],.int .i64 22])∧Below w.heap.size w w':=by
 have HL:=aB hl;have HR:=aB qM;obtain ⟨A0,hA0⟩:∃ A,A=w.alloc mnZ:=⟨_,rfl⟩;have HB0:Hid (Below w.heap.size w A0):=by rw [hA0];exact aD _ _
 have HT0:Hid (A0.heap[w.heap.size]? =some mnZ):=by rw [hA0];exact World.alloc_heap_new w _
 clear hl
 go_enter Tryz.func87,Tryz.ntmps87
 go_upto_region 1 with fail
 rw [←hA0];clear hA0
 go_wp2_with (first
  |(have _t:=HB1;go_at_call 139;refine (HR.out _).mono ?_;rintro e W2 ⟨rfl,ok⟩;have HB2:=aB (aA HB1.out ok);have HT2:Hid (W2.heap[w.heap.size]? =some mnZ):=(ok.block _ (aP HT1.out)).trans HT1.out;have st0:=((aD W2 mnZ).block _ (aP HT2.out)).trans HT2.out;have hc:∀ i u,(#[Value.slice none 0 0,Value.slice none 0 0,Value.slice none 0 0,Value.slice none 0 0]:Array Value)[i]? =some u→(W2.alloc mnZ).cell? ⟨w.heap.size,i,none⟩=some u:=(fun i u q=>by rw [Lib.cell_of_heap st0];exact q);have hz:∀ i,(W2.alloc mnZ).frozen? ⟨w.heap.size,i,none⟩=false:=(fun i=>by simp [World.frozen?,st0]);have k0:=hc 0 _ rfl;have k1:=hc 1 _ rfl;have k2:=hc 2 _ rfl;have k3:=hc 3 _ rfl;have z0:=hz 0;have z1:=hz 1;have z2:=hz 2;have z3:=hz 3;clear ok HB1 hc hz st0)
  |(have _t:=HB0;go_at_call 138;refine (HL.out _).mono ?_;rintro e W1 ⟨rfl,ok⟩;have HB1:=aB (aA HB0.out ok);have HT1:Hid (W1.heap[w.heap.size]? =some mnZ):=(ok.block _ (aP HT0.out)).trans HT0.out;clear ok HB0))
 have s4:=TZ k0 k1 k2 k3 (.slice none 0 0) (.slice none 0 0) (.slice none 0 0) (.slice none 0 0);refine bodyPost_ret (by simp [results,Tryz.results87,s4,go_sem];try rfl) rfl ?_;exact ⟨rfl,((((aA HB2.out (aD _ _)).setCell (p:=⟨w.heap.size,0,none⟩) (Nat.le_refl _) _).setCell (p:=⟨w.heap.size,1,none⟩) (Nat.le_refl _) _).setCell (p:=⟨w.heap.size,2,none⟩) (Nat.le_refl _) _).setCell (p:=⟨w.heap.size,3,none⟩) (Nat.le_refl _) _⟩
theorem rH (w:World):Calls Tryz.prog 87 #[.string ⟨#[]⟩] w fun e w'=>e= .returned (.tuple #[.agg #[.slice none 0 0,.slice none 0 0,.slice none 0 0,.slice none 0 0],.int .i64 22])∧Below w.heap.size w w':=yR (qL 4096 (by decide)) w
abbrev grZ:Obj:= .cells #[.slice none 0 0] 27
set_option maxHeartbeats 1600000 in
theorem rI (w:World):Calls Tryz.prog 140 #[.slice none 0 0] w fun e w'=>e= .returned (.tuple #[.agg #[.slice none 0 0],.bool false])∧Below w.heap.size w w':=by
 go_enter Tryz.func140,Tryz.ntmps140
 go_wp2
 refine bodyPost_ret (by simp [results,Tryz.results140,go_sem];try rfl) rfl ?_;exact ⟨rfl,aD _ _⟩
set_option maxHeartbeats 1600000 in
theorem uI {t:ByteArray} (hl:∀ W,Calls Tryz.prog 138 #[.string t,.int .i64 1048576] W fun e w'=>e= .returned (.tuple #[.slice none 0 0,.int .i64 0,.int .i64 0])∧Below W.heap.size W w') (w:World):Calls Tryz.prog 88 #[.string t] w fun e w'=>e= .returned (.tuple #[.agg #[.slice none 0 0],.int .i64 22])∧Below w.heap.size w w':=by
 have HL:=aB hl;have HR:=aB rI;obtain ⟨A0,hA0⟩:∃ A,A=w.alloc grZ:=⟨_,rfl⟩;have HB0:Hid (Below w.heap.size w A0):=by rw [hA0];exact aD _ _
 have HT0:Hid (A0.heap[w.heap.size]? =some grZ):=by rw [hA0];exact World.alloc_heap_new w _
 clear hl
 go_enter Tryz.func88,Tryz.ntmps88
 go_upto_region 1 with fail
 rw [←hA0];clear hA0
 go_wp2_with (first
  |(have _t:=HB1;go_at_call 140;refine (HR.out _).mono ?_;rintro e W2 ⟨rfl,ok⟩;have HB2:=aB (aA HB1.out ok);have HT2:Hid (W2.heap[w.heap.size]? =some grZ):=(ok.block _ (aP HT1.out)).trans HT1.out;have st0:=((aD W2 grZ).block _ (aP HT2.out)).trans HT2.out;have k0:(W2.alloc grZ).cell? ⟨w.heap.size,0,none⟩=some (.slice none 0 0):=(by rw [Lib.cell_of_heap st0];rfl);have z0:(W2.alloc grZ).frozen? ⟨w.heap.size,0,none⟩=false:=(by simp [World.frozen?,st0]);clear ok HB1 st0)
  |(have _t:=HB0;go_at_call 138;refine (HL.out _).mono ?_;rintro e W1 ⟨rfl,ok⟩;have HB1:=aB (aA HB0.out ok);have HT1:Hid (W1.heap[w.heap.size]? =some grZ):=(ok.block _ (aP HT0.out)).trans HT0.out;clear ok HB0))
 have s1:=World.cell?_setCell_same (W2.alloc grZ) ⟨w.heap.size,0,none⟩ (.slice none 0 0) k0;refine bodyPost_ret (by simp [results,Tryz.results88,s1,go_sem];try rfl) rfl ?_;exact ⟨rfl,(aA HB2.out (aD _ _)).setCell (p:=⟨w.heap.size,0,none⟩) (Nat.le_refl _) _⟩
theorem qN (w:World):Calls Tryz.prog 88 #[.string ⟨#[]⟩] w fun e w'=>e= .returned (.tuple #[.agg #[.slice none 0 0],.int .i64 22])∧Below w.heap.size w w':=uI (qL 1048576 (by decide)) w
end Go.Proofs.YtlmpiohbmlddiaaGreatDoor
namespace Go.Proofs.YtlmpiohbmlddiaaGreatDoor
open Go.RowKit Go.Maps Go.WideMaps
set_option maxRecDepth 100000
theorem uJ:aM gI=true:=by
 unfold aM gX;have h1:eZ [gI.d,gI.v,gI.o]=true:=GB;rw [h1];decide+kernel
theorem qO:bR [drZ]=true:=by
 refine cJ.2 ⟨⟨by decide,by decide⟩,?_,fun i hi hne=>by simp at hi;omega⟩;rw [kN (by decide)];unfold jF;rw [show ([drZ]:List Dr)[0]=drZ from rfl,bJ (show drZ.pk=gQ from rfl)];rfl
theorem yS:gU [drZ] [ndZ]=0∧dQ [drZ] [ndZ]=[0]:=by
 have h1:cX [ndZ]=true:=by decide+kernel
 have h2:fG [drZ] [ndZ]=some [0]:=rfl;refine ⟨?_,?_⟩
 · unfold gU
   rw [if_pos qO,if_pos h1,h2];rfl
 · unfold dQ
   rw [if_pos ⟨qO,h1⟩,h2];rfl
theorem GX:dN gI [ndZ] [drZ]=true:=by
 unfold dN;rw [uJ,yS.1,yS.2,xH (fun i h=>by simp at h),bJ (show ([drZ]:List Dr).map Dr.nd=[0] from rfl)];decide+kernel
theorem yT:eL gI [ndZ] [drZ] false=true:=by
 unfold eL;rw [bJ rfl];rfl
theorem mT:eM gI [ndZ] [drZ] false=[]∧erI gI [ndZ] [drZ]=0:=by
 unfold eM erI;rw [GX,yT]
 simp
def xF:Fi:=⟨⟨#[47,120]⟩,false,⟨#[]⟩⟩
theorem QH (s:ByteArray) (h:xF.pa≠s):cC (([xF]:List Fi).foldl aR []) s=SC:=by
 have h1:([xF]:List Fi).foldl aR []=[xF]:=by simp [aR]
 rw [h1];unfold cC qH;rw [List.find?_cons_of_neg (by simpa using h),List.find?_nil];rfl
theorem NA:gMn ⟨#[]⟩=gI:=by
 unfold gMn;rw [if_neg];unfold DP;rw [if_pos (by decide+kernel),if_neg (by decide+kernel)];decide+kernel
theorem NB:gGr ⟨#[]⟩=[]:=by
 have h3:Lo.BB ⟨#[]⟩=none:=by decide+kernel
 unfold gGr;rw [h3];rfl
theorem TL (w:World):PrsOk w [xF]:=by
 have hm:(cC (([xF]:List Fi).foldl aR []) gD).da=⟨#[]⟩:=by rw [QH gD (by decide)];rfl
 have hl:(cC (([xF]:List Fi).foldl aR []) eD).da=⟨#[]⟩:=by rw [QH eD (by decide)];rfl
 refine ⟨fun W _=> ?_,fun W _=> ?_,fun x hx hs=> ?_⟩
 · rw [hm,NA]
   refine (rH W).mono ?_;rintro e w' ⟨rfl,hb⟩;exact ⟨_,_,_,_,_,_,_,_,_,_,_,_,_,rfl,⟨[],[],[],[],⟨OwnD.nil _ _,rfl⟩,⟨OwnD.nil _ _,rfl⟩,⟨OwnD.nil _ _,rfl⟩,OwnD.nil _ _,rfl⟩,hb⟩
 · rw [hl,NB]
   refine (qN W).mono ?_;rintro e w' ⟨rfl,hb⟩;exact ⟨_,_,_,_,rfl,⟨[],rfl,⟨rfl,Or.inl ⟨rfl,rfl⟩⟩,fun x hx=>by cases hx⟩,hb⟩
 · obtain rfl:=List.mem_singleton.1 hx
   have h0:(aU xF.pa.data.toList).isSome=false:=by decide+kernel
   rw [h0] at hs;cases hs
theorem TM:¬ gOk [xF]:=fun h=>by
 have h1:([xF]:List Fi).foldl aR []=[xF]:=by simp [aR]
 have h2:cC [xF] eD=SC:=by
  unfold cC qH;rw [List.find?_cons_of_neg (by decide),List.find?_nil];rfl
 have h3:Lo.BB ⟨#[]⟩=none:=by decide+kernel
 have h4:gG [xF]=[]:=by
  unfold gG gGr;rw [h1,h2];show (Lo.BB ⟨#[]⟩).getD []=[];rw [h3];rfl
 have h5:=h.1;unfold erI dN at h5;rw [h4] at h5;have h6:Lo.dM []=false:=rfl;rw [h6] at h5
 simp at h5
theorem StOwn.lens {w:World} {B:Nat} {sv:Value} {P:Mn} {G:List Nd} {L:List Dr} {pr:Bool} (h:StOwn w B sv P G L pr):∃ a1 n1 c1 a2 n2 c2 a3 n3 c3 a4 n4 c4 ag cg at_ ct,sv= .agg #[.slice a1 n1 c1,.slice a2 n2 c2,.slice a3 n3 c3,.slice a4 n4 c4,.slice ag G.length cg,.slice at_ L.length ct,.bool pr]∧MnAt w P (.slice a1 n1 c1) (.slice a2 n2 c2) (.slice a3 n3 c3) (.slice a4 n4 c4)∧NodesAt w (.slice ag G.length cg) G∧DirsAt w (.slice at_ L.length ct) L:=by
 obtain ⟨a1,n1,c1,a2,n2,c2,a3,n3,c3,a4,n4,c4,ag,ng,cg,at_,nt,ct,e,h1,h2,ys,h3,h4⟩:=h;have hg:=h2.at;have hd:=h3.at;rw [h4] at hd;obtain ⟨_,_,e2,_⟩:=hg;obtain ⟨_,_,e3,_⟩:=hd;have hg:=h2.at;have hd:=h3.at;rw [h4] at hd;injection e2 with _ q2 _
 injection e3 with _ q3 _
 subst q2;subst q3;exact ⟨_,_,_,_,_,_,_,_,_,_,_,_,_,_,_,_,e,h1.at,hg,hd⟩
theorem SG:kO [drZ]:=by
 have h:∀ d ∈ ([drZ]:List Dr),d.pa.length*16≤140737488355328∧PgZ d.pk:=fun d hd=>by
  obtain rfl:=List.mem_singleton.1 hd;exact ⟨by decide,by decide,by decide,by decide⟩
 exact ⟨fun d hd=>(h d hd).1,fun d hd=>(h d hd).2⟩
theorem BW {W:World} {B:Nat} {sv:Value} (h:StOwn W B sv gI [ndZ] [drZ] false) (he:Env W) (hf:FL W):Calls Tryz.prog 8 #[sv] W fun e w'=>∃ a c,e= .returned (.tuple #[.slice a 0 c,.int .i64 0])∧Below W.heap.size W w':=by
 obtain ⟨a1,n1,c1,a2,n2,c2,a3,n3,c3,a4,n4,c4,ag,cg,at_,ct,rfl,h1,h2,h3⟩:=h.lens;have hgz:tL [ndZ]:=⟨by decide,fun n hn=>by obtain rfl:=List.mem_singleton.1 hn;decide⟩;refine (lV h1 ⟨by decide,by decide,by decide,by decide⟩ h2 h3 (by decide) SG hgz pV he hf).mono ?_;rintro e w' ⟨v,rfl,ho,hb⟩;rw [mT.1] at ho;obtain ⟨a,c,rfl⟩:=ho.form;exact ⟨a,c,by rw [mT.2];rfl,hb⟩
theorem GY (W:World):Calls Tryz.prog 12 #[.slice none 0 0] W fun e w'=>∃ a1 n1 c1 a2 n2 c2 a3 n3 c3 a4 n4 c4 ag cg at_ ct,e= .returned (.tuple #[.agg #[.slice a1 n1 c1,.slice a2 n2 c2,.slice a3 n3 c3,.slice a4 n4 c4,.slice ag 1 cg,.slice at_ 1 ct,.bool false],.int .i64 0])∧Below W.heap.size W w':=by
 have hfl:FlsAt W (.slice none 0 0) []:=⟨none,0,rfl,Nat.le_refl _,fun i hi=>by cases hi⟩;refine (BU hfl).mono ?_;rintro e w' ⟨sv,er,rfl,⟨h1,_⟩,hb⟩;obtain ⟨rfl,hst⟩:=h1 rfl;obtain ⟨a1,n1,c1,a2,n2,c2,a3,n3,c3,a4,n4,c4,ag,cg,at_,ct,rfl,_⟩:=hst.lens;exact ⟨_,_,_,_,_,_,_,_,_,_,_,_,_,_,_,_,rfl,hb⟩
theorem GZ {W:World} {N:Nat} (h:W.heap[N]? =some (.cells #[.string ⟨#[47,120]⟩,.bool false,.string ⟨#[]⟩] 45)) (he:Env W) (hf:FL W):Calls Tryz.prog 12 #[.slice (some ⟨N,0,none⟩) 1 1] W fun e w'=>e= .returned (.tuple #[.agg #[.slice none 0 0,.slice none 0 0,.slice none 0 0,.slice none 0 0,.slice none 0 0,.slice none 0 0,.bool false],.int .i64 43])∧Below W.heap.size W w':=by
 have hfl:FlsAt W (.slice (some ⟨N,0,none⟩) 1 1) [xF]:=by
  refine ⟨_,1,rfl,Nat.le_refl _,fun i hi=>⟨N,0,rfl,?_⟩⟩;obtain rfl:i=0:=by simp at hi;omega
  refine ⟨⟨?_,?_,?_⟩,aP h⟩<;>rw [Lib.cell_of_heap h]<;>rfl
 refine (BV hfl (by simp) (by decide) (fun x hx=>by obtain rfl:=List.mem_singleton.1 hx;decide) (fun us hu=>by obtain rfl:us=[xF]:=List.perm_singleton.1 hu;exact TL W) he hf).mono ?_;rintro e w' ⟨sv,er,rfl,⟨_,_,h3⟩,hb⟩;obtain ⟨us,hpu,_,hno⟩:=h3 (by simp) (by decide);obtain rfl:us=[xF]:=List.perm_singleton.1 hpu.1;obtain ⟨rfl,rfl⟩:=hno TM;exact ⟨rfl,hb⟩
set_option maxHeartbeats 6400000 in
theorem yU {w:World} (he:Env w) (hf:FL w):Calls Tryz.prog 11 #[] w fun e w'=>e= .returned (.bool true)∧Below w.heap.size w w':=by
 have HFE:Hid (∀ W B sv,Below w.heap.size w W→StOwn W B sv gI [ndZ] [drZ] false→Calls Tryz.prog 8 #[sv] W fun e w'=>∃ a c,e= .returned (.tuple #[.slice a 0 c,.int .i64 0])∧Below W.heap.size W w'):=fun W B sv hb hs=>BW hs (he.below hb) (hf.below hb)
 have HRE:Hid (∀ W,Below w.heap.size w W→Calls Tryz.prog 12 #[.slice none 0 0] W fun e w'=>∃ a1 n1 c1 a2 n2 c2 a3 n3 c3 a4 n4 c4 ag cg at_ ct,e= .returned (.tuple #[.agg #[.slice a1 n1 c1,.slice a2 n2 c2,.slice a3 n3 c3,.slice a4 n4 c4,.slice ag 1 cg,.slice at_ 1 ct,.bool false],.int .i64 0])∧Below W.heap.size W w'):=fun W _=>GY W
 have HRX:Hid (∀ W,Below w.heap.size w W→Calls Tryz.prog 12 #[.slice (some ⟨W.heap.size,0,none⟩) 1 1] (W.alloc (.cells #[.string ⟨#[47,120]⟩,.bool false,.string ⟨#[]⟩] 45)) fun e w'=>e= .returned (.tuple #[.agg #[.slice none 0 0,.slice none 0 0,.slice none 0 0,.slice none 0 0,.slice none 0 0,.slice none 0 0,.bool false],.int .i64 43])∧Below W.heap.size W w'):=fun W hb=>(GZ (World.alloc_heap_new W _) (he.below (aA hb (aD _ _))) (hf.below (aA hb (aD _ _)))).mono fun e w' h=>⟨h.1,aA (aD _ _) h.2⟩
 clear he hf
 go_enter Tryz.func11,Tryz.ntmps11
 go_upto_region 2 with (first
  |(have _t:=HS1;go_at_call 8;refine (HFE.out _ _ _ HB1.out HS1.out).mono ?_;rintro e W2 ⟨fa,fc,rfl,ok⟩;have HB2:=aB (aA HB1.out ok);clear ok HS1)
  |(go_at_call 33;refine (kA _).mono ?_;rintro e W1 ⟨g1,g2,rfl,h1,h2,hB1,hB2,ok⟩;have HS1:=aB (yQ h1 h2 hB1 hB2);have HB1:=aB ok;clear h1 h2 hB1 hB2 ok))
 go_upto_region 3 with (go_at_call 12;refine (HRE.out _ HB2.out).mono ?_;rintro e W3 ⟨a1,n1,c1,a2,n2,c2,a3,n3,c3,a4,n4,c4,ag,cg,at_,ct,rfl,ok⟩;have HB3:=aB (aA HB2.out ok);clear ok)
 obtain ⟨U3,hU3⟩:∃ U,U=W3.alloc (.cells #[.slice a1 n1 c1,.slice a2 n2 c2,.slice a3 n3 c3,.slice a4 n4 c4,.slice ag 1 cg,.slice at_ 1 ct,.bool false] 32):=⟨_,rfl⟩;have HBU:Hid (Below w.heap.size w U3):=by rw [hU3];exact aA HB3.out (aD _ _)
 have HNU:Hid (U3.heap[W3.heap.size]? =some (.cells #[.slice a1 n1 c1,.slice a2 n2 c2,.slice a3 n3 c3,.slice a4 n4 c4,.slice ag 1 cg,.slice at_ 1 ct,.bool false] 32)):=by rw [hU3];exact World.alloc_heap_new W3 _
 rw [←hU3];clear hU3
 go_upto_region 4 with (go_at_call 12;refine (HRX.out _ HBU.out).mono ?_;rintro e W4 ⟨rfl,ok⟩;have HB4:=aB (aA HBU.out ok);have HN4:Hid (W4.heap[W3.heap.size]? =some (.cells #[.slice a1 n1 c1,.slice a2 n2 c2,.slice a3 n3 c3,.slice a4 n4 c4,.slice ag 1 cg,.slice at_ 1 ct,.bool false] 32)):=(ok.block _ (aP HNU.out)).trans HNU.out;clear ok)
 obtain ⟨U4,hU4⟩:∃ U,U=W4.alloc stZ:=⟨_,rfl⟩;have HB5:Hid (Below w.heap.size w U4):=by rw [hU4];exact aA HB4.out (aD _ _)
 have HN5:Hid (U4.heap[W3.heap.size]? =some (.cells #[.slice a1 n1 c1,.slice a2 n2 c2,.slice a3 n3 c3,.slice a4 n4 c4,.slice ag 1 cg,.slice at_ 1 ct,.bool false] 32)):=by rw [hU4];exact ((aD W4 stZ).block _ (aP HN4.out)).trans HN4.out
 rw [←hU4];clear hU4;have x4:U4.cell? ⟨W3.heap.size,4,none⟩=some (.slice ag 1 cg):=by rw [Lib.cell_of_heap HN5.out];rfl
 have x5:U4.cell? ⟨W3.heap.size,5,none⟩=some (.slice at_ 1 ct):=by rw [Lib.cell_of_heap HN5.out];rfl
 go_wp2_with fail
 go_ret;exact ⟨rfl,HB5.out⟩
end Go.Proofs.YtlmpiohbmlddiaaGreatDoor
namespace Go.Proofs.YtlmpiohbmlddiaaGreatDoor
open Go.RowKit
set_option maxRecDepth 100000
theorem BX (P:Mn) (G:List Nd) (L:List Dr) (pr:Bool):(eM P G L pr).length≤1000000000000:=by
 unfold eM
 split
 · rename_i h
   have hk:=OK (eT (iW h.1)).1;rw [(eE hk pr (aH P) (Lo.prT G)).2.2];have hl:=hk.len;have h1:(gE pr).length≤3:=by unfold gE;cases pr<;>simp
   have h2:((L.drop 1).flatMap (pE L)).length≤(L.drop 1).length*3:=by
    generalize L.drop 1=A
    induction A with
    |nil=>simp
    |cons d A ih=>
     rw [List.flatMap_cons,List.length_append,List.length_cons]
     have:(pE L d).length≤3:=by unfold pE;split<;>simp
     omega
   have h3:(if 1<L.length then [Ca.mod []] else []).length≤1:=by split<;>simp
   rw [AN,List.length_append,List.length_append];rw [List.length_drop] at h2;omega
 · simp
theorem BZ {G:List Nd} (h:Lo.dM G=true):G.length≤1000000∧∀ n ∈ G,n.cx.length≤1000000∧n.ed.length≤1000000:=by
 cases G with
 |nil=>simp
 |cons n r=>
  unfold Lo.dM at h;simp only [Bool.and_eq_true,decide_eq_true_eq,List.all_eq_true] at h;obtain ⟨⟨⟨h1,h2⟩,h3⟩,h4⟩:=h;refine ⟨by rw [List.length_cons];omega,fun m hm=> ?_⟩;have he:=h4 m hm;unfold Lo.cB at he;rw [Bool.and_eq_true,decide_eq_true_eq] at he;refine ⟨?_,by omega⟩
  rcases List.mem_cons.1 hm with rfl|hm
  · unfold Lo.fI at h2
    simp only [Bool.and_eq_true,decide_eq_true_eq] at h2;omega
  · have hl:=h3 m hm
    unfold Lo.cL Lo.fS at hl;simp only [Bool.and_eq_true,decide_eq_true_eq] at hl;omega
end Go.Proofs.YtlmpiohbmlddiaaGreatDoor
