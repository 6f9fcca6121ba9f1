/- Im6, Im7, Im8, Im9, Im10: their declarations that are needed, laid in one text, remarks and blanks left out. -/
import Derived.Test.YtmnhnofnlcbliaaGreatDoorMg19
namespace Go.Proofs.YtmnhnofnlcbliaaGreatDoor
open Go.RowKit Go.Maps Go.WideMaps
set_option maxRecDepth 100000
theorem IH {s:ByteArray} (h:s.size≤1000000):s.size≤maxLen:=by unfold maxLen;omega
abbrev drO (u v1 v2 v3:Value) (d:Dr):Obj:= .cells #[u,.string d.pk.nm,.int .i64 d.pk.a,.int .i64 d.pk.b,.int .i64 d.pk.c,v1,v2,v3,.int .i64 d.nd] 56
theorem II {W:World} {N:Nat} {u v1 v2 v3:Value} {d:Dr} (h:W.heap[N]? =some (drO u v1 v2 v3 d)):
 W.cell? ⟨N,0,none⟩=some u∧W.cell? ⟨N,1,none⟩=some (.string d.pk.nm)∧W.cell? ⟨N,2,none⟩=some (.int .i64 d.pk.a)∧W.cell? ⟨N,3,none⟩=some (.int .i64 d.pk.b)∧W.cell? ⟨N,4,none⟩=some (.int .i64 d.pk.c)∧W.cell? ⟨N,5,none⟩=some v1∧W.cell? ⟨N,6,none⟩=some v2∧W.cell? ⟨N,7,none⟩=some v3:=by
 refine ⟨?_,?_,?_,?_,?_,?_,?_,?_⟩<;>rw [Lib.cell_of_heap h]<;>rfl
set_option maxHeartbeats 6400000 in
theorem Bv {P:Mn} {G:List Nd} {L:List Dr} {x1 x2 x3 x4 xg:Value} {g o cap:Nat} {w:World} (hm:MnAt w P x1 x2 x3 x4) (hg:NodesAt w xg G) (ht:DirsAt w (.slice (some ⟨g,o,none⟩) L.length cap) L) (hk:TrOk L) (he:Env w) (hf:FL w):
 Calls Tryz.prog 25 #[.agg #[x1,x2,x3,x4,xg,.slice (some ⟨g,o,none⟩) L.length cap,.bool false]] w fun e w'=>e= .returned (.map (some (w.heap.size+1)))∧LdQ w (stO x1 x2 x3 x4 xg (.slice (some ⟨g,o,none⟩) L.length cap) false) (kY (aF P) (Lo.prT G) false L (L.length - 1)) 1000 w':=by
 have hmm:= @run_makeMap Tryz.prog;have HMP:Hid (∀ W,Below w.heap.size w W→Calls Tryz.prog 74 #[.agg #[x1,x2,x3,x4]] W fun e w'=>e= .returned (.tuple #[.string (aF P),.int .i64 (if aN P=true then 0 else 25)])∧Below W.heap.size W w'):=fun W hb=>wJ (hm.below hb) (he.below hb) (hf.below hb)
 have HGP:Hid (∀ W,Below w.heap.size w W→Calls Tryz.prog 75 #[.agg #[xg]] W fun e w'=>e= .returned (.tuple #[.string (Lo.prT G),.int .i64 (Lo.prE G)])∧Below W.heap.size W w'):=fun W hb=>Lo.wT (hg.below hb) (fun W2 hb2 n h0 h1=>jB (he.below hb).tab W2 hb2 n h0 h1)
 have HDR:Hid (∀ W,Below w.heap.size w W→∀ i (hi:i<L.length),∃ u v1 v2 v3,DrIn W g (o+i*9) L[i] u v1 v2 v3):=fun W hb i hi=>by
  obtain ⟨_,_,e,_,hel⟩:=(ht.below hb).sl;cases e;obtain ⟨g',o',e2,r⟩:=hel i hi;cases e2;exact r
 have HTX:Hid (∀ W i (hi:i<L.length) u,i≠0→PathAt W u L[i].pa→Calls Tryz.prog 16 #[u] W fun e w'=>e= .returned (.string (aO L[i].pa))∧Below W.heap.size W w'):=fun W i hi u hne hu=>by
  obtain ⟨n1,n2,n3,_⟩:=hk.names i hi hne;have h1:=kR n2;rw [←gX n1 n2];exact kP hu (by omega)
 have HPP:Hid (∀ W i (hi:i<L.length) v1 v2 v3,Below w.heap.size w W→PgAt W L[i].pk v1 v2 v3→Calls Tryz.prog 76 #[.agg #[.string L[i].pk.nm,.int .i64 L[i].pk.a,.int .i64 L[i].pk.b,.int .i64 L[i].pk.c,v1,v2,v3]] W fun e w'=>∃ er,e= .returned (.tuple #[.string (bA L[i].pk),.int .i64 er])∧Below W.heap.size W w'):=fun W i hi v1 v2 v3 hb hp=>(vN hp (he.below hb) (hf.below hb)).mono fun e w' h=>⟨_,h.1,h.2⟩
 have HAR:Hid (∀ W i (hi:i<L.length),i≠0→Calls Tryz.prog 77 #[.string (aO L[i].pa)] W fun e w'=>e= .returned (.string (aO (upP L[i].pa)++kE))∧Below W.heap.size W w'):=fun W i hi hne=>by
  obtain ⟨n1,n2,n3,_⟩:=hk.names i hi hne;rw [←gX n1 n2];exact wH n1 n2 n3 W
 have HSZ:Hid (∀ i (hi:i<L.length),i≠0→(aO L[i].pa).size≤1024∧(aO (upP L[i].pa)++kE).size≤1100∧(aO L[i].pa++fH).size≤1100):=fun i hi hne=>by
  obtain ⟨n1,n2,n3,_⟩:=hk.names i hi hne;have h1:=oN L[i].pa (L[i].pa.length - 1);have h8:kE.size=8:=rfl;have h9:fH.size=8:=rfl;refine ⟨by rw [dQ];exact n3,?_,?_⟩
  · rw [bP,dQ,h8]
    unfold upP;omega
  · rw [bP,dQ,h9]
    omega
 have HL0:=aB (LdQ.start w x1 x2 x3 x4 xg (.slice (some ⟨g,o,none⟩) L.length cap) false);obtain ⟨a1,c1,rfl⟩:=hm.1.sl;obtain ⟨a2,c2,rfl⟩:=hm.2.1.sl;obtain ⟨a3,c3,rfl⟩:=hm.2.2.1.sl;obtain ⟨a4,c4,rfl⟩:=hm.2.2.2.sl;have hl0:=hk.len;have hcap:L.length≤cap:=by obtain ⟨_,_,e,hc,_⟩:=ht;cases e;exact hc
 have HAS:Hid (∀ k (hk:k+1<L.length),kY (aF P) (Lo.prT G) false L (k+1)=aR (aR (aR (kY (aF P) (Lo.prT G) false L k) ⟨aO (upP L[k+1].pa)++kE,true,⟨#[]⟩⟩) ⟨aO L[k+1].pa,true,⟨#[]⟩⟩) ⟨aO L[k+1].pa++fH,false,bA L[k+1].pk⟩):=fun k hk=>AK hk
 have HA0:Hid (kY (aF P) (Lo.prT G) false L 0=aR (aR [] ⟨kF,false,aF P⟩) ⟨gW,false,Lo.prT G⟩):=AJ _ _ _ _;clear hm hg ht he hf hk;generalize (if aN P=true then (0:Int) else 25)=me at*;generalize Lo.prE G=ge at*;generalize aF P=mt at*;generalize Lo.prT G=lt at*;generalize kY mt lt false L=AC at*;obtain ⟨m,hm⟩:∃ m,L.length=m+1:=⟨L.length - 1,by omega⟩;obtain ⟨cp,rfl⟩:∃ cp,cap=cp+1:=⟨cap - 1,by omega⟩;rw [hm] at hl0 hcap HL0 ⊢;have HM:=aB hm;clear hm;obtain ⟨⟨s0,s1,s2,s3⟩,s4,s5,s6⟩:=HL0.out.cells
 have HPT:∀ (x:Fi) (C:List Fi) (c:Nat) (W:World),Hid (x.pa.size≤1000000→c<999→LdQ w (stO (.slice a1 P.d.length c1) (.slice a2 P.v.length c2) (.slice a3 P.o.length c3) (.slice a4 P.p.length c4) xg (.slice (some ⟨g,o,none⟩) (m+1) (cp+1)) false) C c W→Calls Tryz.prog 73 #[.agg #[.string x.pa,.bool x.dr,.string x.da],.pointer (some ⟨w.heap.size+1+1,0,none⟩)] W fun e W'=>e= .returned (.tuple #[])∧LdQ w (stO (.slice a1 P.d.length c1) (.slice a2 P.v.length c2) (.slice a3 P.o.length c3) (.slice a4 P.p.length c4) xg (.slice (some ⟨g,o,none⟩) (m+1) (cp+1)) false) (aR C x) (c+1) W'):=fun x C c W h1 h2 h3=>h3.put x (IH h1) (by unfold maxLen;omega)
 have hm256:m≤256:=by omega
 go_enter Tryz.func25,Tryz.ntmps25
 go_upto_region 9 with (first
  |(have _t:=HL3;go_at_call 73;refine ((HPT ⟨gW,false,lt⟩ _ (0+1) _).out (by show gW.size≤1000000;decide) (by decide) HL3.out).mono ?_;rintro e W4 ⟨rfl,ok⟩;have HL4:=aB ok;obtain ⟨⟨s0,s1,s2,s3⟩,s4,s5,s6⟩:=ok.cells;clear ok HL3)
  |(have _t:=HL2;go_at_call 73;refine ((HPT ⟨kF,false,mt⟩ _ 0 _).out (by show kF.size≤1000000;decide) (by decide) HL2.out).mono ?_;rintro e W3 ⟨rfl,ok⟩;have HL3:=aB ok;clear ok HL2)
  |(have _t:=HL1;go_at_call 75;refine (HGP.out _ HL1.out.below).mono ?_;rintro e W2 ⟨rfl,ok⟩;have HL2:=aB (HL1.out.keep ok);clear ok HL1 s0 s1 s2 s3 s4 s5 s6)
  |(have _t:=HL0;go_at_call 74;refine (HMP.out _ HL0.out.below).mono ?_;rintro e W1 ⟨rfl,ok⟩;have HL1:=aB (HL0.out.keep ok);clear HL0 s0 s1 s2 s3 s4 s5 s6;obtain ⟨⟨s0,s1,s2,s3⟩,s4,s5,s6⟩:=HL1.out.cells;clear ok))
 have HLZ:Hid (LdQ w (stO (.slice a1 P.d.length c1) (.slice a2 P.v.length c2) (.slice a3 P.o.length c3) (.slice a4 P.p.length c4) xg (.slice (some ⟨g,o,none⟩) (m+1) (cp+1)) false) (AC 0) 3 _):=(by
  have e:=HL4.out;rw [HA0.out];obtain ⟨n,D,h1,h2,h3⟩:=e.own;exact ⟨e.st,e.box,e.size,⟨n,D,by omega,h2,h3⟩,e.below⟩)
 clear HL4 HA0 HMP HGP
 by_cases hc1:cp=0
 · have hm0:m=0:=by omega
   subst hc1;subst hm0
   go_wp2_with fail
   go_loopw [46] (fun i wr=>i= .int .i64 0∧LdQ w (stO (.slice a1 P.d.length c1) (.slice a2 P.v.length c2) (.slice a3 P.o.length c3) (.slice a4 P.p.length c4) xg (.slice (some ⟨g,o,none⟩) (0+1) (0+1)) false) (AC 0) 3 wr) (fun i _=>0)
   case atStart=>exact ⟨rfl,HLZ.out⟩
   case round=>
    obtain ⟨rfl,hld⟩:=hrel;have HLD:=aB hld;have b0:=hld.box;clear hld
    go_wp2
    go_ret;exact ⟨rfl,HLD.out.more (by decide)⟩
 · go_wp2_with fail
   go_loopw [46] (fun i wr=>∃ k:Nat,k≤m∧i= .int .i64 k∧LdQ w (stO (.slice a1 P.d.length c1) (.slice a2 P.v.length c2) (.slice a3 P.o.length c3) (.slice a4 P.p.length c4) xg (.slice (some ⟨g,o,none⟩) (m+1) (cp+1)) false) (AC k) (3+3*k) wr) (fun i _=>m - (intOf i).toNat)
   case atStart=>exact ⟨0,Nat.zero_le _,rfl,HLZ.out⟩
   case round=>
    obtain ⟨k,hk,rfl,hld⟩:=hrel
    by_cases hlt:k<m
    · have hi:k+1<L.length:=by rw [HM.out];omega
      obtain ⟨u,v1,v2,v3,⟨d0,d1,d2,d3,d4,d5,d6,d7,d8⟩,⟨hpa,hpk⟩,hgl⟩:=HDR.out wr hld.below (k+1) hi;have HTC:Hid (∀ W,Below wr.heap.size wr W→Calls Tryz.prog 16 #[u] W fun e w'=>e= .returned (.string (aO L[k+1].pa))∧Below W.heap.size W w'):=fun W hb=>HTX.out W (k+1) hi u (by omega) (hpa.below hb)
      have HPC:Hid (∀ W,Below wr.heap.size wr W→Calls Tryz.prog 76 #[.agg #[.string L[k+1].pk.nm,.int .i64 L[k+1].pk.a,.int .i64 L[k+1].pk.b,.int .i64 L[k+1].pk.c,v1,v2,v3]] W fun e w'=>∃ er,e= .returned (.tuple #[.string (bA L[k+1].pk),.int .i64 er])∧Below W.heap.size W w'):=fun W hb=>HPP.out W (k+1) hi v1 v2 v3 (hld.below.trans (hb.mono hld.below.size)) (hpk.below hb)
      have HAC:=aB (fun W=>HAR.out W (k+1) hi (by omega));obtain ⟨hz1,hz2,hz3⟩:=HSZ.out (k+1) hi (by omega);have HST:=aB (HAS.out k hi);have e1:=fun W:World=>run_string_add_sum (P:=Tryz.prog) (w:=W) (aO L[k+1].pa) fH (by have h9:fH.size=8:=rfl;omega)
      obtain ⟨ua,uc,rfl⟩:=hpa.sl;obtain ⟨pa1,pn1,pc1,rfl⟩:∃ a n c,v1= .slice a n c:=by obtain ⟨a,c,e⟩:=hpk.1.sl;exact ⟨_,_,_,e⟩
      obtain ⟨pa2,pn2,pc2,rfl⟩:∃ a n c,v2= .slice a n c:=by obtain ⟨a,c,e⟩:=hpk.2.1.sl;exact ⟨_,_,_,e⟩
      obtain ⟨pa3,pn3,pc3,rfl⟩:∃ a n c,v3= .slice a n c:=by obtain ⟨a,c,e⟩:=hpk.2.2.sl;exact ⟨_,_,_,e⟩
      rw [show o+(k+1)*9=o+9+k*9 by omega] at d0 d1 d2 d3 d4 d5 d6 d7 d8;clear hpa hpk;generalize L[k+1].pa.length=ul at*;generalize aO (upP L[k+1].pa)++kE=tm at*;generalize aO L[k+1].pa=tx at*;generalize bA L[k+1].pk=wt at*;generalize L[k+1]=d at*;have HQ0:Hid (LdQ w (stO (.slice a1 P.d.length c1) (.slice a2 P.v.length c2) (.slice a3 P.o.length c3) (.slice a4 P.p.length c4) xg (.slice (some ⟨g,o,none⟩) (m+1) (cp+1)) false) (AC k) (3+3*k) (wr.alloc (drO (.slice ua ul uc) (.slice pa1 pn1 pc1) (.slice pa2 pn2 pc2) (.slice pa3 pn3 pc3) d))):=hld.keep (aC _ _);have HX0:Hid ((wr.alloc (drO (.slice ua ul uc) (.slice pa1 pn1 pc1) (.slice pa2 pn2 pc2) (.slice pa3 pn3 pc3) d)).heap[wr.heap.size]? =some (drO (.slice ua ul uc) (.slice pa1 pn1 pc1) (.slice pa2 pn2 pc2) (.slice pa3 pn3 pc3) d)):=World.alloc_heap_new wr _;have hzb:(tx++fH).size≤1000000:=by omega
      have hzm:tm.size≤1000000:=by omega
      have hzx:tx.size≤1000000:=by omega
      unfold fH at e1;clear hld hi hz1 hz2 hz3 HAS HSZ HAR HPP HTX HDR
      go_wp2_with (first
       |(have _t:=HQ5;go_at_call 73;refine ((HPT ⟨tx++fH,false,wt⟩ _ (3+3*k+1+1) _).out hzb (by omega) HQ5.out).mono ?_;rintro e V6 ⟨rfl,ok⟩;have HQ6:=aB ok;clear ok HQ5)
       |(have _t:=HQ4;go_at_call 73;refine ((HPT ⟨tx,true,⟨#[]⟩⟩ _ (3+3*k+1) _).out hzx (by omega) HQ4.out).mono ?_;rintro e V5 ⟨rfl,ok⟩;have HQ5:=aB ok;clear ok HQ4)
       |(have _t:=HQ3;go_at_call 73;refine ((HPT ⟨tm,true,⟨#[]⟩⟩ _ (3+3*k) _).out hzm (by omega) HQ3.out).mono ?_;rintro e V4 ⟨rfl,ok⟩;have HQ4:=aB ok;clear ok HQ3)
       |(have _t:=HQ2;go_at_call 77;refine (HAC.out _).mono ?_;rintro e V3 ⟨rfl,ok⟩;have HQ3:=aB (HQ2.out.keep ok);clear ok HQ2)
       |(have _t:=HQ1;go_at_call 76;refine (HPC.out _ HB1.out).mono ?_;rintro e V2 ⟨er,rfl,ok⟩;have HQ2:=aB (HQ1.out.keep ok);clear ok HQ1 q1 q2 q3 q4 q5 q6 q7)
       |(have _t:=HQ0;go_at_call 16;refine (HTC.out _ (aC _ _)).mono ?_;rintro e V1 ⟨rfl,ok⟩;have HQ1:=aB (HQ0.out.keep ok);have HB1:Hid (Below wr.heap.size wr V1):=aA (aC _ _) ok;obtain ⟨_,q1,q2,q3,q4,q5,q6,q7⟩:=II ((ok.block wr.heap.size (by simp)).trans HX0.out);clear ok HQ0 HX0))
      exact ⟨⟨k+1,by omega,by go_num,by rw [HST.out];exact HQ6.out.more (by omega)⟩,by simp [intOf];omega⟩
    · obtain rfl:k=m:=by omega
      have HLD:=aB hld;have b0:=hld.box;clear hld
      go_wp2
      go_ret;exact ⟨rfl,HLD.out.more (by omega)⟩
set_option maxHeartbeats 6400000 in
theorem YL {P:Mn} {G:List Nd} {L:List Dr} {x1 x2 x3 x4 xg:Value} {g o cap:Nat} {w:World} (hm:MnAt w P x1 x2 x3 x4) (hg:NodesAt w xg G) (ht:DirsAt w (.slice (some ⟨g,o,none⟩) L.length cap) L) (hk:TrOk L) (he:Env w) (hf:FL w):
 Calls Tryz.prog 25 #[.agg #[x1,x2,x3,x4,xg,.slice (some ⟨g,o,none⟩) L.length cap,.bool true]] w fun e w'=>e= .returned (.map (some (w.heap.size+1)))∧LdQ w (stO x1 x2 x3 x4 xg (.slice (some ⟨g,o,none⟩) L.length cap) true) (kY (aF P) (Lo.prT G) true L (L.length - 1)) 1000 w':=by
 have hmm:= @run_makeMap Tryz.prog;have HMP:Hid (∀ W,Below w.heap.size w W→Calls Tryz.prog 74 #[.agg #[x1,x2,x3,x4]] W fun e w'=>e= .returned (.tuple #[.string (aF P),.int .i64 (if aN P=true then 0 else 25)])∧Below W.heap.size W w'):=fun W hb=>wJ (hm.below hb) (he.below hb) (hf.below hb)
 have HGP:Hid (∀ W,Below w.heap.size w W→Calls Tryz.prog 75 #[.agg #[xg]] W fun e w'=>e= .returned (.tuple #[.string (Lo.prT G),.int .i64 (Lo.prE G)])∧Below W.heap.size W w'):=fun W hb=>Lo.wT (hg.below hb) (fun W2 hb2 n h0 h1=>jB (he.below hb).tab W2 hb2 n h0 h1)
 have HDR:Hid (∀ W,Below w.heap.size w W→∀ i (hi:i<L.length),∃ u v1 v2 v3,DrIn W g (o+i*9) L[i] u v1 v2 v3):=fun W hb i hi=>by
  obtain ⟨_,_,e,_,hel⟩:=(ht.below hb).sl;cases e;obtain ⟨g',o',e2,r⟩:=hel i hi;cases e2;exact r
 have HTX:Hid (∀ W i (hi:i<L.length) u,i≠0→PathAt W u L[i].pa→Calls Tryz.prog 16 #[u] W fun e w'=>e= .returned (.string (aO L[i].pa))∧Below W.heap.size W w'):=fun W i hi u hne hu=>by
  obtain ⟨n1,n2,n3,_⟩:=hk.names i hi hne;have h1:=kR n2;rw [←gX n1 n2];exact kP hu (by omega)
 have HPP:Hid (∀ W i (hi:i<L.length) v1 v2 v3,Below w.heap.size w W→PgAt W L[i].pk v1 v2 v3→Calls Tryz.prog 76 #[.agg #[.string L[i].pk.nm,.int .i64 L[i].pk.a,.int .i64 L[i].pk.b,.int .i64 L[i].pk.c,v1,v2,v3]] W fun e w'=>∃ er,e= .returned (.tuple #[.string (bA L[i].pk),.int .i64 er])∧Below W.heap.size W w'):=fun W i hi v1 v2 v3 hb hp=>(vN hp (he.below hb) (hf.below hb)).mono fun e w' h=>⟨_,h.1,h.2⟩
 have HAR:Hid (∀ W i (hi:i<L.length),i≠0→Calls Tryz.prog 77 #[.string (aO L[i].pa)] W fun e w'=>e= .returned (.string (aO (upP L[i].pa)++kE))∧Below W.heap.size W w'):=fun W i hi hne=>by
  obtain ⟨n1,n2,n3,_⟩:=hk.names i hi hne;rw [←gX n1 n2];exact wH n1 n2 n3 W
 have HSZ:Hid (∀ i (hi:i<L.length),i≠0→(aO L[i].pa).size≤1024∧(aO (upP L[i].pa)++kE).size≤1100∧(aO L[i].pa++fH).size≤1100):=fun i hi hne=>by
  obtain ⟨n1,n2,n3,_⟩:=hk.names i hi hne;have h1:=oN L[i].pa (L[i].pa.length - 1);have h8:kE.size=8:=rfl;have h9:fH.size=8:=rfl;refine ⟨by rw [dQ];exact n3,?_,?_⟩
  · rw [bP,dQ,h8]
    unfold upP;omega
  · rw [bP,dQ,h9]
    omega
 have HL0:=aB (LdQ.start w x1 x2 x3 x4 xg (.slice (some ⟨g,o,none⟩) L.length cap) true);obtain ⟨a1,c1,rfl⟩:=hm.1.sl;obtain ⟨a2,c2,rfl⟩:=hm.2.1.sl;obtain ⟨a3,c3,rfl⟩:=hm.2.2.1.sl;obtain ⟨a4,c4,rfl⟩:=hm.2.2.2.sl;have hl0:=hk.len;have hcap:L.length≤cap:=by obtain ⟨_,_,e,hc,_⟩:=ht;cases e;exact hc
 have HAS:Hid (∀ k (hk:k+1<L.length),kY (aF P) (Lo.prT G) true L (k+1)=aR (aR (aR (kY (aF P) (Lo.prT G) true L k) ⟨aO (upP L[k+1].pa)++kE,true,⟨#[]⟩⟩) ⟨aO L[k+1].pa,true,⟨#[]⟩⟩) ⟨aO L[k+1].pa++fH,false,bA L[k+1].pk⟩):=fun k hk=>AK hk
 have HA0:Hid (kY (aF P) (Lo.prT G) true L 0=aR (aR (aR [] ⟨kF,false,aF P⟩) ⟨gW,false,Lo.prT G⟩) ⟨qH,false,⟨#[]⟩⟩):=AJ _ _ _ _;clear hm hg ht he hf hk;generalize (if aN P=true then (0:Int) else 25)=me at*;generalize Lo.prE G=ge at*;generalize aF P=mt at*;generalize Lo.prT G=lt at*;generalize kY mt lt true L=AC at*;obtain ⟨m,hm⟩:∃ m,L.length=m+1:=⟨L.length - 1,by omega⟩;obtain ⟨cp,rfl⟩:∃ cp,cap=cp+1:=⟨cap - 1,by omega⟩;rw [hm] at hl0 hcap HL0 ⊢;have HM:=aB hm;clear hm;obtain ⟨⟨s0,s1,s2,s3⟩,s4,s5,s6⟩:=HL0.out.cells
 have HPT:∀ (x:Fi) (C:List Fi) (c:Nat) (W:World),Hid (x.pa.size≤1000000→c<999→LdQ w (stO (.slice a1 P.d.length c1) (.slice a2 P.v.length c2) (.slice a3 P.o.length c3) (.slice a4 P.p.length c4) xg (.slice (some ⟨g,o,none⟩) (m+1) (cp+1)) true) C c W→Calls Tryz.prog 73 #[.agg #[.string x.pa,.bool x.dr,.string x.da],.pointer (some ⟨w.heap.size+1+1,0,none⟩)] W fun e W'=>e= .returned (.tuple #[])∧LdQ w (stO (.slice a1 P.d.length c1) (.slice a2 P.v.length c2) (.slice a3 P.o.length c3) (.slice a4 P.p.length c4) xg (.slice (some ⟨g,o,none⟩) (m+1) (cp+1)) true) (aR C x) (c+1) W'):=fun x C c W h1 h2 h3=>h3.put x (IH h1) (by unfold maxLen;omega)
 have hm256:m≤256:=by omega
 go_enter Tryz.func25,Tryz.ntmps25
 go_upto_region 9 with (first
  |(have _t:=HL4;go_at_call 73;refine ((HPT ⟨qH,false,⟨#[]⟩⟩ _ (0+1+1) _).out (by show qH.size≤1000000;decide) (by decide) HL4.out).mono ?_;rintro e W5 ⟨rfl,ok⟩;have HL5:=aB ok;clear HL4 s0 s1 s2 s3 s4 s5 s6;obtain ⟨⟨s0,s1,s2,s3⟩,s4,s5,s6⟩:=ok.cells;clear ok)
  |(have _t:=HL3;go_at_call 73;refine ((HPT ⟨gW,false,lt⟩ _ (0+1) _).out (by show gW.size≤1000000;decide) (by decide) HL3.out).mono ?_;rintro e W4 ⟨rfl,ok⟩;have HL4:=aB ok;obtain ⟨⟨s0,s1,s2,s3⟩,s4,s5,s6⟩:=ok.cells;clear ok HL3)
  |(have _t:=HL2;go_at_call 73;refine ((HPT ⟨kF,false,mt⟩ _ 0 _).out (by show kF.size≤1000000;decide) (by decide) HL2.out).mono ?_;rintro e W3 ⟨rfl,ok⟩;have HL3:=aB ok;clear ok HL2)
  |(have _t:=HL1;go_at_call 75;refine (HGP.out _ HL1.out.below).mono ?_;rintro e W2 ⟨rfl,ok⟩;have HL2:=aB (HL1.out.keep ok);clear ok HL1 s0 s1 s2 s3 s4 s5 s6)
  |(have _t:=HL0;go_at_call 74;refine (HMP.out _ HL0.out.below).mono ?_;rintro e W1 ⟨rfl,ok⟩;have HL1:=aB (HL0.out.keep ok);clear HL0 s0 s1 s2 s3 s4 s5 s6;obtain ⟨⟨s0,s1,s2,s3⟩,s4,s5,s6⟩:=HL1.out.cells;clear ok))
 have HLZ:Hid (LdQ w (stO (.slice a1 P.d.length c1) (.slice a2 P.v.length c2) (.slice a3 P.o.length c3) (.slice a4 P.p.length c4) xg (.slice (some ⟨g,o,none⟩) (m+1) (cp+1)) true) (AC 0) 3 _):=(by
  have e:=HL5.out;rw [HA0.out];obtain ⟨n,D,h1,h2,h3⟩:=e.own;exact ⟨e.st,e.box,e.size,⟨n,D,by omega,h2,h3⟩,e.below⟩)
 clear HL5 HA0 HMP HGP
 by_cases hc1:cp=0
 · have hm0:m=0:=by omega
   subst hc1;subst hm0
   go_wp2_with fail
   go_loopw [46] (fun i wr=>i= .int .i64 0∧LdQ w (stO (.slice a1 P.d.length c1) (.slice a2 P.v.length c2) (.slice a3 P.o.length c3) (.slice a4 P.p.length c4) xg (.slice (some ⟨g,o,none⟩) (0+1) (0+1)) true) (AC 0) 3 wr) (fun i _=>0)
   case atStart=>exact ⟨rfl,HLZ.out⟩
   case round=>
    obtain ⟨rfl,hld⟩:=hrel;have HLD:=aB hld;have b0:=hld.box;clear hld
    go_wp2
    go_ret;exact ⟨rfl,HLD.out.more (by decide)⟩
 · go_wp2_with fail
   go_loopw [46] (fun i wr=>∃ k:Nat,k≤m∧i= .int .i64 k∧LdQ w (stO (.slice a1 P.d.length c1) (.slice a2 P.v.length c2) (.slice a3 P.o.length c3) (.slice a4 P.p.length c4) xg (.slice (some ⟨g,o,none⟩) (m+1) (cp+1)) true) (AC k) (3+3*k) wr) (fun i _=>m - (intOf i).toNat)
   case atStart=>exact ⟨0,Nat.zero_le _,rfl,HLZ.out⟩
   case round=>
    obtain ⟨k,hk,rfl,hld⟩:=hrel
    by_cases hlt:k<m
    · have hi:k+1<L.length:=by rw [HM.out];omega
      obtain ⟨u,v1,v2,v3,⟨d0,d1,d2,d3,d4,d5,d6,d7,d8⟩,⟨hpa,hpk⟩,hgl⟩:=HDR.out wr hld.below (k+1) hi;have HTC:Hid (∀ W,Below wr.heap.size wr W→Calls Tryz.prog 16 #[u] W fun e w'=>e= .returned (.string (aO L[k+1].pa))∧Below W.heap.size W w'):=fun W hb=>HTX.out W (k+1) hi u (by omega) (hpa.below hb)
      have HPC:Hid (∀ W,Below wr.heap.size wr W→Calls Tryz.prog 76 #[.agg #[.string L[k+1].pk.nm,.int .i64 L[k+1].pk.a,.int .i64 L[k+1].pk.b,.int .i64 L[k+1].pk.c,v1,v2,v3]] W fun e w'=>∃ er,e= .returned (.tuple #[.string (bA L[k+1].pk),.int .i64 er])∧Below W.heap.size W w'):=fun W hb=>HPP.out W (k+1) hi v1 v2 v3 (hld.below.trans (hb.mono hld.below.size)) (hpk.below hb)
      have HAC:=aB (fun W=>HAR.out W (k+1) hi (by omega));obtain ⟨hz1,hz2,hz3⟩:=HSZ.out (k+1) hi (by omega);have HST:=aB (HAS.out k hi);have e1:=fun W:World=>run_string_add_sum (P:=Tryz.prog) (w:=W) (aO L[k+1].pa) fH (by have h9:fH.size=8:=rfl;omega)
      obtain ⟨ua,uc,rfl⟩:=hpa.sl;obtain ⟨pa1,pn1,pc1,rfl⟩:∃ a n c,v1= .slice a n c:=by obtain ⟨a,c,e⟩:=hpk.1.sl;exact ⟨_,_,_,e⟩
      obtain ⟨pa2,pn2,pc2,rfl⟩:∃ a n c,v2= .slice a n c:=by obtain ⟨a,c,e⟩:=hpk.2.1.sl;exact ⟨_,_,_,e⟩
      obtain ⟨pa3,pn3,pc3,rfl⟩:∃ a n c,v3= .slice a n c:=by obtain ⟨a,c,e⟩:=hpk.2.2.sl;exact ⟨_,_,_,e⟩
      rw [show o+(k+1)*9=o+9+k*9 by omega] at d0 d1 d2 d3 d4 d5 d6 d7 d8;clear hpa hpk;generalize L[k+1].pa.length=ul at*;generalize aO (upP L[k+1].pa)++kE=tm at*;generalize aO L[k+1].pa=tx at*;generalize bA L[k+1].pk=wt at*;generalize L[k+1]=d at*;have HQ0:Hid (LdQ w (stO (.slice a1 P.d.length c1) (.slice a2 P.v.length c2) (.slice a3 P.o.length c3) (.slice a4 P.p.length c4) xg (.slice (some ⟨g,o,none⟩) (m+1) (cp+1)) true) (AC k) (3+3*k) (wr.alloc (drO (.slice ua ul uc) (.slice pa1 pn1 pc1) (.slice pa2 pn2 pc2) (.slice pa3 pn3 pc3) d))):=hld.keep (aC _ _);have HX0:Hid ((wr.alloc (drO (.slice ua ul uc) (.slice pa1 pn1 pc1) (.slice pa2 pn2 pc2) (.slice pa3 pn3 pc3) d)).heap[wr.heap.size]? =some (drO (.slice ua ul uc) (.slice pa1 pn1 pc1) (.slice pa2 pn2 pc2) (.slice pa3 pn3 pc3) d)):=World.alloc_heap_new wr _;have hzb:(tx++fH).size≤1000000:=by omega
      have hzm:tm.size≤1000000:=by omega
      have hzx:tx.size≤1000000:=by omega
      unfold fH at e1;clear hld hi hz1 hz2 hz3 HAS HSZ HAR HPP HTX HDR
      go_wp2_with (first
       |(have _t:=HQ5;go_at_call 73;refine ((HPT ⟨tx++fH,false,wt⟩ _ (3+3*k+1+1) _).out hzb (by omega) HQ5.out).mono ?_;rintro e V6 ⟨rfl,ok⟩;have HQ6:=aB ok;clear ok HQ5)
       |(have _t:=HQ4;go_at_call 73;refine ((HPT ⟨tx,true,⟨#[]⟩⟩ _ (3+3*k+1) _).out hzx (by omega) HQ4.out).mono ?_;rintro e V5 ⟨rfl,ok⟩;have HQ5:=aB ok;clear ok HQ4)
       |(have _t:=HQ3;go_at_call 73;refine ((HPT ⟨tm,true,⟨#[]⟩⟩ _ (3+3*k) _).out hzm (by omega) HQ3.out).mono ?_;rintro e V4 ⟨rfl,ok⟩;have HQ4:=aB ok;clear ok HQ3)
       |(have _t:=HQ2;go_at_call 77;refine (HAC.out _).mono ?_;rintro e V3 ⟨rfl,ok⟩;have HQ3:=aB (HQ2.out.keep ok);clear ok HQ2)
       |(have _t:=HQ1;go_at_call 76;refine (HPC.out _ HB1.out).mono ?_;rintro e V2 ⟨er,rfl,ok⟩;have HQ2:=aB (HQ1.out.keep ok);clear ok HQ1 q1 q2 q3 q4 q5 q6 q7)
       |(have _t:=HQ0;go_at_call 16;refine (HTC.out _ (aC _ _)).mono ?_;rintro e V1 ⟨rfl,ok⟩;have HQ1:=aB (HQ0.out.keep ok);have HB1:Hid (Below wr.heap.size wr V1):=aA (aC _ _) ok;obtain ⟨_,q1,q2,q3,q4,q5,q6,q7⟩:=II ((ok.block wr.heap.size (by simp)).trans HX0.out);clear ok HQ0 HX0))
      exact ⟨⟨k+1,by omega,by go_num,by rw [HST.out];exact HQ6.out.more (by omega)⟩,by simp [intOf];omega⟩
    · obtain rfl:k=m:=by omega
      have HLD:=aB hld;have b0:=hld.box;clear hld
      go_wp2
      go_ret;exact ⟨rfl,HLD.out.more (by omega)⟩
end Go.Proofs.YtmnhnofnlcbliaaGreatDoor
namespace Go.Proofs.YtmnhnofnlcbliaaGreatDoor
open Go.RowKit
set_option maxRecDepth 100000
def drV (u v1 v2 v3:Value) (d:Dr):Value:= .agg #[u,.string d.pk.nm,.int .i64 d.pk.a,.int .i64 d.pk.b,.int .i64 d.pk.c,v1,v2,v3,.int .i64 d.nd]
def BxU (w:World) (N:Nat) (u:Value):Prop:=w.cell? ⟨N,0,none⟩=some u∧N<w.heap.size
theorem CT (N:Nat) (u:Value):KeepP fun w=>BxU w N u:=fun _ _ h hb=>⟨(hb.cell (p:=⟨N,0,none⟩) h.2).trans h.1,Nat.lt_of_lt_of_le h.2 hb.size⟩
set_option maxHeartbeats 3200000 in
theorem MX {d e:Dr} {u u1 u2 u3 v v1 v2 v3:Value} {w:World} (hd:PathAt w u d.pa) (he:PathAt w v e.pa) (hz1:d.pa.length*16≤140737488355328) (hz2:e.pa.length*16≤140737488355328):
 Calls Tryz.prog 65 #[drV u u1 u2 u3 d,drV v v1 v2 v3 e] w fun x w'=>x= .returned (.int .i64 (eF (aH d.pa) (aH e.pa)))∧Below w.heap.size w w':=by
 have HT1:Hid (∀ w1,Below w.heap.size w w1→Calls Tryz.prog 16 #[u] w1 fun x w'=>x= .returned (.string (aH d.pa))∧Below w1.heap.size w1 w'):=fun w1 hb=>kP (hd.below hb) hz1
 have HT2:Hid (∀ w1,Below w.heap.size w w1→Calls Tryz.prog 16 #[v] w1 fun x w'=>x= .returned (.string (aH e.pa))∧Below w1.heap.size w1 w'):=fun w1 hb=>kP (he.below hb) hz2
 have HSC:Hid (∀ w1,Calls Tryz.prog 71 #[.string (aH d.pa),.string (aH e.pa)] w1 fun x w'=>x= .returned (.int .i64 (eF (aH d.pa) (aH e.pa)))∧Below w1.heap.size w1 w'):=fun w1=>(Tryz.strings_Compare (aH d.pa) (aH e.pa) w1).mono fun x w' h=>⟨h.1,by rw [h.2];exact Below.refl _ _⟩
 obtain ⟨ua,uc,rfl⟩:=hd.sl;obtain ⟨va,vc,rfl⟩:=he.sl;clear hd he;unfold drV;generalize eF (aH d.pa) (aH e.pa)=r at*;generalize aH d.pa=s at*;generalize aH e.pa=t at*;have HK:Hid (KeepP fun w1=>Below w.heap.size w w1∧BxU w1 w.heap.size (.slice ua d.pa.length uc)∧BxU w1 (w.heap.size+1) (.slice va e.pa.length vc)):=(aG w).and ((CT _ _).and (CT _ _))
 have HO:Hid (Below w.heap.size w ((w.alloc (drO (.slice ua d.pa.length uc) u1 u2 u3 d)).alloc (drO (.slice va e.pa.length vc) v1 v2 v3 e))∧BxU ((w.alloc (drO (.slice ua d.pa.length uc) u1 u2 u3 d)).alloc (drO (.slice va e.pa.length vc) v1 v2 v3 e)) w.heap.size (.slice ua d.pa.length uc)∧BxU ((w.alloc (drO (.slice ua d.pa.length uc) u1 u2 u3 d)).alloc (drO (.slice va e.pa.length vc) v1 v2 v3 e)) (w.heap.size+1) (.slice va e.pa.length vc)):=by
  refine ⟨aA (aC _ _) (aC _ _),CT _ _ _ _ ⟨?_,by simp⟩ (aC _ _),?_,by simp⟩
  · rw [World.cell?_alloc_new]
    rfl
  · have h1:(w.alloc (drO (.slice ua d.pa.length uc) u1 u2 u3 d)).heap.size=w.heap.size+1:=by simp
    have h2:=World.cell?_alloc_new (w:=w.alloc (drO (.slice ua d.pa.length uc) u1 u2 u3 d)) #[.slice va e.pa.length vc,.string e.pk.nm,.int .i64 e.pk.a,.int .i64 e.pk.b,.int .i64 e.pk.c,v1,v2,v3,.int .i64 e.nd] 56 0;rw [h1] at h2;rw [h2];rfl
 go_enter Tryz.func65,Tryz.ntmps65
 go_wp2_with fail
 refine cE HK (by kernel_rfl) (by kernel_rfl) (by first|exact HO.out|exact HK.out.drew HO.out) ?_;intro C HIN HOUT;clear HO
 repeat
  (with_reducible refine wpQuiet_step (fun K hK=> ?_)
   go_simp
   first
    |(refine hK _ ?_;clear hK K)
    |(apply Exists.intro;refine ⟨fun w1 hC=> ?_,hK _ ?_⟩;(focus ((first|(go_at_call 71;with_reducible exact eJ HIN HOUT HK (fun w1=>HSC.out w1) w1 hC)|(go_at_call 16;with_reducible exact bJ HIN HOUT HK (fun w1 hk=>HT1.out w1 hk.1) w1 hC)|(go_at_call 16;with_reducible exact bJ HIN HOUT HK (fun w1 hk=>HT2.out w1 hk.1) w1 hC)|(exact rfl)|(obtain ⟨hb1,⟨b0,b1⟩,⟨b2,b3⟩⟩:=HOUT.out w1 hC;clear hC;go_simp;first|done|exact rfl));done));clear hK K))
 refine wpQuiet_nil ?_;intro wn hC;have HO:=aB (HOUT.out _ hC);clear hC HIN HOUT C;obtain ⟨hb1,⟨b0,b1⟩,⟨b2,b3⟩⟩:=HO.out
 go_wp2
 go_ret;exact ⟨rfl,HO.out.1⟩
theorem MY {d:Dr} {u v1 v2 v3:Value} {w:World} (n:Int):
 Calls Tryz.prog 67 #[drV u v1 v2 v3 d,.int .i64 n] w fun x w'=>x= .returned (.bool (d.nd==n))∧Below w.heap.size w w':=by
 unfold drV
 go_enter Tryz.func67,Tryz.ntmps67
 go_wp2
 go_ret;exact ⟨rfl,aC _ _⟩
noncomputable def tP (L:List Dr):Bool:= @decide (∀ i (h:i+1<L.length),¬ eF (aH L[i+1].pa) (aH L[i].pa)<0) (Classical.propDecidable _)
theorem IJ {L:List Dr} (h:∀ i (h:i+1<L.length),¬ eF (aH L[i+1].pa) (aH L[i].pa)<0):tP L=true:=by
 unfold tP;exact @decide_eq_true _ (Classical.propDecidable _) h
theorem Bw {L:List Dr} (h:¬ ∀ i (h:i+1<L.length),¬ eF (aH L[i+1].pa) (aH L[i].pa)<0):tP L=false:=by
 unfold tP;exact @decide_eq_false _ (Classical.propDecidable _) h
set_option maxHeartbeats 6400000 in
theorem CU {L:List Dr} {v:Value} {w:World} (h:DirsAt w v L) (h0:0<L.length) (hz:L.length≤9223372036854775807) (hf:FitP1 L):
 Calls Tryz.prog 64 #[v,.func (.func 65) #[] #[]] w fun e w'=>e= .returned (.bool (tP L))∧Below w.heap.size w w':=by
 obtain ⟨ad,cap,rfl,hc,hsl⟩:=h.sl;obtain ⟨g,o,rfl,_⟩:=hsl 0 h0
 have HD:Hid (∀ w1,Below w.heap.size w w1→∀ i (hi:i<L.length),∃ u v1 v2 v3,DrIn w1 g (o+i*9) L[i] u v1 v2 v3):=fun w1 hb i hi=>by
  obtain ⟨g',o',e,u,v1,v2,v3,hd⟩:=hsl i hi;cases e;exact ⟨u,v1,v2,v3,hd.below hb⟩
 have HF:=aB hf;clear h hsl hf
 go_enter Tryz.func64,Tryz.ntmps64
 go_wp2_with fail
 go_loopw [5] (fun vi wr=>∃ k:Nat,k<L.length∧vi= .int .i64 k∧Below w.heap.size w wr∧∀ i (h:i+1<L.length),k≤i→¬ eF (aH L[i+1].pa) (aH L[i].pa)<0) (fun vi _=>(intOf vi).toNat)
 case atStart=>exact ⟨L.length - 1,by omega,by go_num,Below.refl _ _,fun i h1 h2=>by omega⟩
 case round=>
  obtain ⟨k,hk,rfl,hb,hall⟩:=hrel;have HB:=aB hb;have HALL:=aB hall;clear hall
  rcases Nat.eq_zero_or_pos k with rfl|hpos
  · have HR:Hid (tP L=true):=IJ fun i h1=>HALL.out i h1 (Nat.zero_le _)
    clear hb
    go_wp2
    go_ret;exact ⟨aD HR.out.symm,HB.out⟩
  · obtain ⟨j,hkj⟩:∃ j,k=j+1:=⟨k - 1,by omega⟩
    have hjl:j<L.length:=by omega
    obtain ⟨u,u1,u2,u3,hd1⟩:=HD.out wr hb k hk;obtain ⟨v,v1,v2,v3,hd2⟩:=HD.out wr hb j hjl;have hz1:=HF.out _ (List.getElem_mem hk);have hz2:=HF.out _ (List.getElem_mem hjl);have HBT:Hid (∀ w1,(Below w.heap.size w w1∧DrIn w1 g (o+k*9) L[k] u u1 u2 u3∧DrIn w1 g (o+j*9) L[j] v v1 v2 v3)→Calls Tryz.prog 65 #[.agg #[u,.string L[k].pk.nm,.int .i64 L[k].pk.a,.int .i64 L[k].pk.b,.int .i64 L[k].pk.c,u1,u2,u3,.int .i64 L[k].nd],.agg #[v,.string L[j].pk.nm,.int .i64 L[j].pk.a,.int .i64 L[j].pk.b,.int .i64 L[j].pk.c,v1,v2,v3,.int .i64 L[j].nd]] w1 fun e w'=>e= .returned (.int .i64 (eF (aH L[k].pa) (aH L[j].pa)))∧Below w1.heap.size w1 w'):=fun w1 hk=>MX hk.2.1.2.1.1 hk.2.2.2.1.1 hz1 hz2
    have HK:Hid (KeepP fun w1=>Below w.heap.size w w1∧DrIn w1 g (o+k*9) L[k] u u1 u2 u3∧DrIn w1 g (o+j*9) L[j] v v1 v2 v3):=(aG w).and ((rJ _ _ _ _ _ _ _).and (rJ _ _ _ _ _ _ _));have HO:Hid (Below w.heap.size w wr∧DrIn wr g (o+k*9) L[k] u u1 u2 u3∧DrIn wr g (o+j*9) L[j] v v1 v2 v3):=⟨hb,hd1,hd2⟩
    have HNO:Hid (eF (aH L[k].pa) (aH L[j].pa)<0→tP L=false):=fun q=>by
     subst hkj;exact Bw fun h=>h j hk q
    have HGO:Hid (¬ eF (aH L[k].pa) (aH L[j].pa)<0→∀ i (h:i+1<L.length),j≤i→¬ eF (aH L[i+1].pa) (aH L[i].pa)<0):=fun q i h1 h2=>by
     subst hkj
     rcases Nat.eq_or_lt_of_le h2 with e|e
     · subst e;exact q
     · exact HALL.out i h1 (by omega)
    clear hb hd1 hd2 hz1 hz2 HALL HD HF;generalize eF (aH L[k].pa) (aH L[j].pa)=r at*;generalize L[k]=d1 at*;generalize L[j]=d2 at*
    have hw1:IntKind.i64.wrap ((k:Int) - 1)=(j:Int):=by
     rw [show (k:Int) - 1=((j:Nat):Int) by omega];exact Di (by omega)
    have g1:decide (0<k)=true:=decide_eq_true hpos;have HKJ:=aB hkj;clear hkj
    by_cases hr:r<0
    · have HR:=aB (HNO.out hr)
      have hrd:decide (r<0)=true:=decide_eq_true hr;clear HNO HGO
      go_wp2_with fail
      refine cE HK (by kernel_rfl) (by kernel_rfl) (by first|exact HO.out|exact HK.out.drew HO.out) ?_;intro C HIN HOUT;clear HO
      repeat
       (with_reducible refine wpQuiet_step (fun K hK=> ?_)
        go_simp
        first
         |(refine hK _ ?_;clear hK K)
         |(apply Exists.intro;refine ⟨fun w1 hC=> ?_,hK _ ?_⟩;(focus ((first|(go_at_call 65;with_reducible exact bJ HIN HOUT HK (fun w1 hk=>HBT.out w1 hk) w1 hC)|(exact rfl)|(obtain ⟨hb1,⟨⟨a0,a1,a2,a3,a4,a5,a6,a7,a8⟩,_,_⟩,⟨⟨c0,c1,c2,c3,c4,c5,c6,c7,c8⟩,_,_⟩⟩:=HOUT.out w1 hC;clear hC;go_simp;first|done|exact rfl));done));clear hK K))
      refine wpQuiet_nil ?_;intro wn hC;have HO:=aB (HOUT.out _ hC);clear hC HIN HOUT C;obtain ⟨hb1,⟨⟨a0,a1,a2,a3,a4,a5,a6,a7,a8⟩,_,_⟩,⟨⟨c0,c1,c2,c3,c4,c5,c6,c7,c8⟩,_,_⟩⟩:=HO.out
      go_wp2
      go_ret;exact ⟨aD HR.out.symm,HO.out.1⟩
    · have HR:=aB (HGO.out hr)
      have hrd:decide (r<0)=false:=decide_eq_false hr;clear HNO HGO
      go_wp2_with fail
      refine cE HK (by kernel_rfl) (by kernel_rfl) (by first|exact HO.out|exact HK.out.drew HO.out) ?_;intro C HIN HOUT;clear HO
      repeat
       (with_reducible refine wpQuiet_step (fun K hK=> ?_)
        go_simp
        first
         |(refine hK _ ?_;clear hK K)
         |(apply Exists.intro;refine ⟨fun w1 hC=> ?_,hK _ ?_⟩;(focus ((first|(go_at_call 65;with_reducible exact bJ HIN HOUT HK (fun w1 hk=>HBT.out w1 hk) w1 hC)|(exact rfl)|(obtain ⟨hb1,⟨⟨a0,a1,a2,a3,a4,a5,a6,a7,a8⟩,_,_⟩,⟨⟨c0,c1,c2,c3,c4,c5,c6,c7,c8⟩,_,_⟩⟩:=HOUT.out w1 hC;clear hC;go_simp;first|done|exact rfl));done));clear hK K))
      refine wpQuiet_nil ?_;intro wn hC;have HO:=aB (HOUT.out _ hC);clear hC HIN HOUT C;obtain ⟨hb1,⟨⟨a0,a1,a2,a3,a4,a5,a6,a7,a8⟩,_,_⟩,⟨⟨c0,c1,c2,c3,c4,c5,c6,c7,c8⟩,_,_⟩⟩:=HO.out
      go_wp2
      exact ⟨⟨j,hjl,by have:=HKJ.out;go_num,HO.out.1,fun i h1 h2=>Int.not_lt.2 (HR.out i h1 h2)⟩,by have:=HKJ.out;simp [intOf];omega⟩
theorem OwnI.els {w:World} {B:Nat} {v:Value} {M:List Int} (h:OwnI w B v M) (h0:0<M.length):∃ g cap,v= .slice (some ⟨g,0,none⟩) M.length cap∧∀ i (hi:i<M.length),InI w g i M[i]:=by
 have h1:=h
 rcases h.2 with ⟨rfl,hn⟩|⟨g,cap,cur,rfl,hB,hg,hc,_⟩
 · omega
 · refine ⟨g,cap,rfl,fun i hi=>⟨?_,(Array.getElem?_eq_some_iff.1 hg).1⟩⟩
   have:=World.ownsRow.cellAt h1 i (by omega)
   rw [this];simp [lP,hi]
set_option maxHeartbeats 3200000 in
theorem MZ {L:List Dr} {M:List Int} {v vm:Value} {w:World} {B:Nat} (h:DirsAt w v L) (hm:OwnI w B vm M) (hlen:M.length=L.length) (h0:0<L.length) (hz:L.length≤9223372036854775807):
 Calls Tryz.prog 66 #[v,vm,.func (.func 67) #[] #[]] w fun e w'=>e= .returned (.bool (eqB (L.map Dr.nd) M))∧Below w.heap.size w w':=by
 obtain ⟨gm,cm,rfl,hem⟩:=hm.els (by omega);obtain ⟨ad,cap,rfl,hc,hsl⟩:=h.sl;obtain ⟨g,o,rfl,_⟩:=hsl 0 h0
 have HD:Hid (∀ w1,Below w.heap.size w w1→∀ i (hi:i<L.length) (hi2:i<M.length),(∃ u v1 v2 v3,DrIn w1 g (o+i*9) L[i] u v1 v2 v3)∧InI w1 gm i M[i]):=fun w1 hb i hi hi2=>by
  obtain ⟨g',o',e,u,v1,v2,v3,hd⟩:=hsl i hi;cases e;exact ⟨⟨u,v1,v2,v3,hd.below hb⟩,lR _ _ _ _ _ (hem i hi2) (hb.mono (Nat.le_refl _))⟩
 have HLN:=aB hlen
 have HNO:Hid (∀ k (hk:k<L.length) (hk2:k<M.length),L[k].nd≠M[k]→eqB (L.map Dr.nd) M=false):=fun k hk hk2 q=>bX fun e=>q (by
  have:(L.map Dr.nd)[k]'(by simpa using hk)=M[k]:=by simp only [e]
  simpa using this)
 have HYE:Hid ((∀ k (hk:k<L.length) (hk2:k<M.length),L[k].nd=M[k])→eqB (L.map Dr.nd) M=true):=fun q=>aX (List.ext_getElem (by simpa using hlen.symm) fun i h1 h2=>by
  simp only [List.getElem_map];exact q i (by simpa using h1) h2)
 rw [hlen];clear h hsl hem hm hlen
 go_enter Tryz.func66,Tryz.ntmps66
 go_wp2_with fail
 go_loopw [17] (fun vi wr=>∃ k:Nat,k≤L.length∧vi= .int .i64 k∧Below w.heap.size w wr∧∀ i (h:i<L.length) (h2:i<M.length),i<k→L[i].nd=M[i]) (fun vi _=>L.length - (intOf vi).toNat)
 case atStart=>exact ⟨0,Nat.zero_le _,rfl,Below.refl _ _,fun i _ _ h=>by omega⟩
 case round=>
  obtain ⟨k,hk,rfl,hb,hall⟩:=hrel;have HB:=aB hb;have HALL:=aB hall;clear hall
  by_cases hlt:k<L.length
  · have hltM:k<M.length:=by rw [HLN.out];exact hlt
    obtain ⟨⟨u,v1,v2,v3,⟨d0,d1,d2,d3,d4,d5,d6,d7,d8⟩,⟨hpa,hpk⟩,hgl⟩,m0,m1⟩:=HD.out wr hb k hlt hltM;obtain ⟨ua,ul,uc,rfl⟩:∃ a n c,u= .slice a n c:=by obtain ⟨a,c,e⟩:=hpa.sl;exact ⟨_,_,_,e⟩
    obtain ⟨pa1,pn1,pc1,rfl⟩:∃ a n c,v1= .slice a n c:=by obtain ⟨a,c,e⟩:=hpk.1.sl;exact ⟨_,_,_,e⟩
    obtain ⟨pa2,pn2,pc2,rfl⟩:∃ a n c,v2= .slice a n c:=by obtain ⟨a,c,e⟩:=hpk.2.1.sl;exact ⟨_,_,_,e⟩
    obtain ⟨pa3,pn3,pc3,rfl⟩:∃ a n c,v3= .slice a n c:=by obtain ⟨a,c,e⟩:=hpk.2.2.sl;exact ⟨_,_,_,e⟩
    have HIN:Hid (∀ w1,Calls Tryz.prog 67 #[.agg #[.slice ua ul uc,.string L[k].pk.nm,.int .i64 L[k].pk.a,.int .i64 L[k].pk.b,.int .i64 L[k].pk.c,.slice pa1 pn1 pc1,.slice pa2 pn2 pc2,.slice pa3 pn3 pc3,.int .i64 L[k].nd],.int .i64 M[k]] w1 fun x w'=>x= .returned (.bool (L[k].nd==M[k]))∧Below w1.heap.size w1 w'):=fun w1=>MY M[k]
    have HN1:Hid (L[k].nd≠M[k]→eqB (L.map Dr.nd) M=false):=HNO.out k hlt hltM
    have HY1:Hid (L[k].nd=M[k]→∀ i (h:i<L.length) (h2:i<M.length),i<k+1→L[i].nd=M[i]):=fun q i h1 h2 h3=>by
     rcases Nat.lt_or_ge i k with hik|hik
     · exact HALL.out i h1 h2 hik
     · obtain rfl:i=k:=by omega
       exact q
    have mb:(wr.alloc (drO (.slice ua ul uc) (.slice pa1 pn1 pc1) (.slice pa2 pn2 pc2) (.slice pa3 pn3 pc3) L[k])).cell? ⟨gm,k,none⟩=some (.int .i64 M[k]):=((aC wr (drO (.slice ua ul uc) (.slice pa1 pn1 pc1) (.slice pa2 pn2 pc2) (.slice pa3 pn3 pc3) L[k])).cell (p:=⟨gm,k,none⟩) m1).trans m0;clear hb hpa hpk hgl m0 m1 HNO HYE HALL HD
    by_cases hq:L[k].nd=M[k]
    · have HR:=aB (HY1.out hq)
      have hqq:(L[k].nd==M[k])=true:=by rw [hq];simp
      rw [hqq] at HIN;clear HN1 HY1 hqq;generalize M[k]=mk at*;generalize L[k]=d at*;clear hq
      go_wp2_with (go_at_call 67;refine (HIN.out _).mono ?_;rintro e W1 ⟨rfl,ok⟩;have HB1:=aB (aA (aA HB.out (aC _ _)) ok);clear ok)
      exact ⟨⟨k+1,by omega,by go_num,HB1.out,HR.out⟩,by simp [intOf];omega⟩
    · have HR:=aB (HN1.out hq)
      have hqq:(L[k].nd==M[k])=false:=beq_eq_false_iff_ne.2 hq;rw [hqq] at HIN;clear HN1 HY1 hqq;generalize M[k]=mk at*;generalize L[k]=d at*;clear hq
      go_wp2_with (go_at_call 67;refine (HIN.out _).mono ?_;rintro e W1 ⟨rfl,ok⟩;have HB1:=aB (aA (aA HB.out (aC _ _)) ok);clear ok)
      go_ret;exact ⟨aD HR.out.symm,HB1.out⟩
  · obtain rfl:k=L.length:=by omega
    have HR:=aB (HYE.out fun i h1 h2=>HALL.out i h1 h2 h1);clear hb
    go_wp2
    go_ret;exact ⟨aD HR.out.symm,HB.out⟩
noncomputable def fW (P:Mn) (G:List Nd) (L:List Dr):Bool:=(aN P&&Lo.eO G)&&((lQ L G==0)&&(tP L&&eqB (L.map Dr.nd) (fV L G)))
def StB (W:World) (N:Nat) (x1 x2 x3 x4 xg xt:Value) (pr:Bool):Prop:=((W.cell? ⟨N,0,none⟩=some x1∧W.cell? ⟨N,1,none⟩=some x2∧W.cell? ⟨N,2,none⟩=some x3∧W.cell? ⟨N,3,none⟩=some x4)∧W.cell? ⟨N,4,none⟩=some xg∧W.cell? ⟨N,5,none⟩=some xt∧W.cell? ⟨N,6,none⟩=some (.bool pr))∧N<W.heap.size
theorem StB.new (w:World) (x1 x2 x3 x4 xg xt:Value) (pr:Bool):StB (w.alloc (stO x1 x2 x3 x4 xg xt pr)) w.heap.size x1 x2 x3 x4 xg xt pr:=by
 refine ⟨⟨⟨?_,?_,?_,?_⟩,?_,?_,?_⟩,by simp⟩<;>rw [World.cell?_alloc_new]<;>rfl
theorem StB.keep {W W':World} {N:Nat} {x1 x2 x3 x4 xg xt:Value} {pr:Bool} (h:StB W N x1 x2 x3 x4 xg xt pr) (hb:Below W.heap.size W W'):StB W' N x1 x2 x3 x4 xg xt pr:=by
 obtain ⟨⟨⟨h0,h1,h2,h3⟩,h4,h5,h6⟩,hl⟩:=h;have q:∀ i,W'.cell? ⟨N,i,none⟩=W.cell? ⟨N,i,none⟩:=fun i=>hb.cell (p:=⟨N,i,none⟩) hl
 exact ⟨⟨⟨by rw [q];exact h0,by rw [q];exact h1,by rw [q];exact h2,by rw [q];exact h3⟩,by rw [q];exact h4,by rw [q];exact h5,by rw [q];exact h6⟩,Nat.lt_of_lt_of_le hl hb.size⟩
theorem kZ {L:List Dr} {G:List Nd} (h:lQ L G=0):cH L=true∧eM G=true∧(iN L G).isSome=true:=by
 unfold lQ at h
 split at h
 · rename_i h1
   split at h
   · rename_i h2
     split at h
     · rename_i h3
       exact ⟨h1,h2,h3⟩
     · cases h
   · cases h
 · cases h
set_option maxHeartbeats 6400000 in
theorem YM {P:Mn} {G:List Nd} {L:List Dr} {x1 x2 x3 x4 xg xt:Value} {pr:Bool} {w:World} (hm:MnAt w P x1 x2 x3 x4) (hg:NodesAt w xg G) (ht:DirsAt w xt L) (hz:L.length≤9223372036854775807) (hk:qB L) (hgz:CJ G) (hml:lQ L G=0→(fV L G).length=L.length) (he:Env w) (hf:FL w):
 Calls Tryz.prog 21 #[.agg #[x1,x2,x3,x4,xg,xt,.bool pr]] w fun e w'=>e= .returned (.bool (fW P G L))∧Below w.heap.size w w':=by
 have HMM:Hid (∀ W,Below w.heap.size w W→Calls Tryz.prog 61 #[.agg #[x1,x2,x3,x4]] W fun e w'=>e= .returned (.bool (aN P))∧Below W.heap.size W w'):=fun W hb=>GV (hm.below hb) (he.below hb) (hf.below hb)
 have HGM:Hid (∀ W,Below w.heap.size w W→Calls Tryz.prog 62 #[.agg #[xg]] W fun e w'=>e= .returned (.bool (Lo.eO G))∧Below W.heap.size W w'):=fun W hb=>Lo.wO (hg.below hb)
 have HMA:Hid (∀ W,Below w.heap.size w W→Calls Tryz.prog 63 #[.agg #[xt],.agg #[xg]] W fun e w'=>qF W L G e w'):=fun W hb=>PR (ht.below hb) hz hk (hg.below hb) hgz (he.below hb) (hf.below hb)
 have HIS:Hid (∀ W,Below w.heap.size w W→0<L.length→Calls Tryz.prog 64 #[xt,.func (.func 65) #[] #[]] W fun e w'=>e= .returned (.bool (tP L))∧Below W.heap.size W w'):=fun W hb h0=>CU (ht.below hb) h0 hz hk.1
 have HEQ:Hid (∀ W B vm,Below w.heap.size w W→0<L.length→(fV L G).length=L.length→OwnI W B vm (fV L G)→Calls Tryz.prog 66 #[xt,vm,.func (.func 67) #[] #[]] W fun e w'=>e= .returned (.bool (eqB (L.map Dr.nd) (fV L G)))∧Below W.heap.size W w'):=fun W B vm hb h0 hl ho=>MZ (ht.below hb) ho hl h0 hz
 have HML:=aB hml;have HLP:Hid (lQ L G=0→0<L.length):=fun h=>(Bn (kZ h).1).len.1
 obtain ⟨a1,c1,rfl⟩:=hm.1.sl;obtain ⟨a2,c2,rfl⟩:=hm.2.1.sl;obtain ⟨a3,c3,rfl⟩:=hm.2.2.1.sl;obtain ⟨a4,c4,rfl⟩:=hm.2.2.2.sl;obtain ⟨at0,ct0,rfl,_⟩:=ht.sl;obtain ⟨ag,cg,rfl⟩:∃ a c,xg= .slice a G.length c:=by obtain ⟨a,c,e,_⟩:=hg;exact ⟨a,c,e⟩
 have HS0:=aB (StB.new w (.slice a1 P.d.length c1) (.slice a2 P.v.length c2) (.slice a3 P.o.length c3) (.slice a4 P.p.length c4) (.slice ag G.length cg) (.slice at0 L.length ct0) pr);have HB0:Hid (Below w.heap.size w (w.alloc (stO (.slice a1 P.d.length c1) (.slice a2 P.v.length c2) (.slice a3 P.o.length c3) (.slice a4 P.p.length c4) (.slice ag G.length cg) (.slice at0 L.length ct0) pr))):=aC _ _;clear hm hg ht hk hgz hml he hf;unfold fW;cases hwm:aN P
 · rw [hwm] at HMM
   clear HGM HMA HIS HEQ;obtain ⟨⟨⟨s0,s1,s2,s3⟩,s4,s5,s6⟩,sl⟩:=HS0.out;clear sl
   go_enter Tryz.func21,Tryz.ntmps21
   go_wp2_with (go_at_call 61;refine (HMM.out _ HB0.out).mono ?_;rintro e W1 ⟨rfl,ok⟩;have HB1:=aB (aA HB0.out ok);clear ok)
   go_ret;exact ⟨rfl,HB1.out⟩
 · rw [hwm] at HMM
   cases hgm:Lo.eO G
   · rw [hgm] at HGM
     clear HMA HIS HEQ;obtain ⟨⟨⟨s0,s1,s2,s3⟩,s4,s5,s6⟩,sl⟩:=HS0.out;clear sl
     go_enter Tryz.func21,Tryz.ntmps21
     go_wp2_with (first
      |(go_at_call 61;refine (HMM.out _ HB0.out).mono ?_;rintro e W1 ⟨rfl,ok⟩;have HB1:=aB (aA HB0.out ok);clear s0 s1 s2 s3 s4 s5 s6;obtain ⟨⟨⟨s0,s1,s2,s3⟩,s4,s5,s6⟩,_⟩:=HS0.out.keep ok;clear ok)
      |(go_at_call 62;refine (HGM.out _ HB1.out).mono ?_;rintro e W2 ⟨rfl,ok⟩;have HB2:=aB (aA HB1.out ok);clear ok))
     go_ret;exact ⟨rfl,HB2.out⟩
   · rw [hgm] at HGM
     obtain ⟨⟨⟨s0,s1,s2,s3⟩,s4,s5,s6⟩,sl⟩:=HS0.out;clear sl
     by_cases hme:lQ L G=0
     · have hl0:=HLP.out hme
       have HIC:=aB (fun W hb=>HIS.out W hb hl0);have HEC:=aB (fun W B vm hb ho=>HEQ.out W B vm hb hl0 (HML.out hme) ho);unfold qF at HMA;rw [hme] at HMA ⊢;clear HIS HEQ HML HLP hme
       have hvm:∀ (W:World) B vm,OwnI W B vm (fV L G)→∃ a n c,vm= .slice a n c:=fun W B vm ho=>by
        rcases ho.2 with ⟨rfl,_⟩|⟨g,cap,cur,rfl,_⟩
        · exact ⟨_,_,_,rfl⟩
        · exact ⟨_,_,_,rfl⟩
       generalize fV L G=mo at*;cases hsr:tP L
       · rw [hsr] at HIC
         clear HEC
         go_enter Tryz.func21,Tryz.ntmps21
         go_wp2_with (first
 |(have _t:=HS0;go_at_call 61;refine (HMM.out _ HB0.out).mono ?_;rintro e W1 ⟨rfl,ok⟩;have HB1:=aB (aA HB0.out ok);have HS1:=aB (HS0.out.keep ok);clear s0 s1 s2 s3 s4 s5 s6 HS0;obtain ⟨⟨⟨s0,s1,s2,s3⟩,s4,s5,s6⟩,_⟩:=HS1.out;clear ok)
 |(have _t:=HS1;go_at_call 62;refine (HGM.out _ HB1.out).mono ?_;rintro e W2 ⟨rfl,ok⟩;have HB2:=aB (aA HB1.out ok);have HS2:=aB (HS1.out.keep ok);clear s0 s1 s2 s3 s4 s5 s6 HS1;obtain ⟨⟨⟨s0,s1,s2,s3⟩,s4,s5,s6⟩,_⟩:=HS2.out;clear ok)
 |(have _t:=HS2;go_at_call 63;refine (HMA.out _ HB2.out).mono ?_;rintro e W3 ⟨vm,rfl,hoi,ok⟩;have HB3:=aB (aA HB2.out ok);have HS3:=aB (HS2.out.keep ok);have HOI:=aB hoi;clear s0 s1 s2 s3 s4 s5 s6 HS2;obtain ⟨⟨⟨s0,s1,s2,s3⟩,s4,s5,s6⟩,_⟩:=HS3.out;clear ok hoi)
    |(have _t:=HS3;go_at_call 64;refine (HIC.out _ HB3.out).mono ?_;rintro e W4 ⟨rfl,ok⟩;have HB4:=aB (aA HB3.out ok);clear ok))
         go_ret;exact ⟨rfl,HB4.out⟩
       · rw [hsr] at HIC
         generalize eqB (L.map Dr.nd) mo=eb at*
         go_enter Tryz.func21,Tryz.ntmps21
         go_wp2_with (first
 |(have _t:=HS0;go_at_call 61;refine (HMM.out _ HB0.out).mono ?_;rintro e W1 ⟨rfl,ok⟩;have HB1:=aB (aA HB0.out ok);have HS1:=aB (HS0.out.keep ok);clear s0 s1 s2 s3 s4 s5 s6 HS0;obtain ⟨⟨⟨s0,s1,s2,s3⟩,s4,s5,s6⟩,_⟩:=HS1.out;clear ok)
 |(have _t:=HS1;go_at_call 62;refine (HGM.out _ HB1.out).mono ?_;rintro e W2 ⟨rfl,ok⟩;have HB2:=aB (aA HB1.out ok);have HS2:=aB (HS1.out.keep ok);clear s0 s1 s2 s3 s4 s5 s6 HS1;obtain ⟨⟨⟨s0,s1,s2,s3⟩,s4,s5,s6⟩,_⟩:=HS2.out;clear ok)
 |(have _t:=HS2;go_at_call 63;refine (HMA.out _ HB2.out).mono ?_;rintro e W3 ⟨vm,rfl,hoi,ok⟩;have HB3:=aB (aA HB2.out ok);have HS3:=aB (HS2.out.keep ok);have HOI:=aB hoi;clear s0 s1 s2 s3 s4 s5 s6 HS2;obtain ⟨⟨⟨s0,s1,s2,s3⟩,s4,s5,s6⟩,_⟩:=HS3.out;clear ok hoi)
    |(have _t:=HS3;go_at_call 64;refine (HIC.out _ HB3.out).mono ?_;rintro e W4 ⟨rfl,ok⟩;have HB4:=aB (aA HB3.out ok);have HS4:=aB (HS3.out.keep ok);have HO4:Hid (OwnI W4 _ _ mo):=dN HOI.out ok;clear s0 s1 s2 s3 s4 s5 s6 HS3;obtain ⟨⟨⟨s0,s1,s2,s3⟩,s4,s5,s6⟩,_⟩:=HS4.out;clear ok)
    |(have _t:=HS4;go_at_call 66;refine (HEC.out _ _ _ HB4.out HO4.out).mono ?_;rintro e W5 ⟨rfl,ok⟩;have HB5:=aB (aA HB4.out ok);clear ok))
         go_ret;exact ⟨by cases eb<;>rfl,HB5.out⟩
     · have hme2:(lQ L G==0)=false:=beq_eq_false_iff_ne.2 hme
       unfold qF at HMA;generalize lQ L G=me at*;generalize fV L G=mo at*;rw [hme2];clear HIS HEQ HML HLP hme
       go_enter Tryz.func21,Tryz.ntmps21
       go_wp2_with (first
       |(have _t:=HS0;go_at_call 61;refine (HMM.out _ HB0.out).mono ?_;rintro e W1 ⟨rfl,ok⟩;have HB1:=aB (aA HB0.out ok);have HS1:=aB (HS0.out.keep ok);clear s0 s1 s2 s3 s4 s5 s6 HS0;obtain ⟨⟨⟨s0,s1,s2,s3⟩,s4,s5,s6⟩,_⟩:=HS1.out;clear ok)
       |(have _t:=HS1;go_at_call 62;refine (HGM.out _ HB1.out).mono ?_;rintro e W2 ⟨rfl,ok⟩;have HB2:=aB (aA HB1.out ok);have HS2:=aB (HS1.out.keep ok);clear s0 s1 s2 s3 s4 s5 s6 HS1;obtain ⟨⟨⟨s0,s1,s2,s3⟩,s4,s5,s6⟩,_⟩:=HS2.out;clear ok)
       |(have _t:=HS2;go_at_call 63;refine (HMA.out _ HB2.out).mono ?_;rintro e W3 ⟨vm,rfl,hoi,ok⟩;have HB3:=aB (aA HB2.out ok);have HS3:=aB (HS2.out.keep ok);have HOI:=aB hoi;clear s0 s1 s2 s3 s4 s5 s6 HS2;obtain ⟨⟨⟨s0,s1,s2,s3⟩,s4,s5,s6⟩,_⟩:=HS3.out;clear ok hoi))
       go_ret;exact ⟨by simp,HB3.out⟩
end Go.Proofs.YtmnhnofnlcbliaaGreatDoor
