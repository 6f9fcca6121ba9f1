/- Ge2: their declarations that are needed, laid in one text, remarks and blanks left out. -/
import Derived.Test.YtpfemjlhklnfoaaGreatDoorMg16
import Derived.Test.YtpfemjlhklnfoaaGreatDoorMg18
import Derived.Test.YtpfemjlhklnfoaaGreatDoorMg19
namespace Go.Proofs.YtpfemjlhklnfoaaGreatDoor
open Go.Shelf Go.RowKit
set_option maxRecDepth 100000
theorem eO {w:World} {B:Nat} {v:Value} {ps:List Pn} (h:OwnPn w B v ps):PinsAt w v ps:=by
 rcases ps with _|⟨p,ps⟩
 · obtain ⟨ad,cap,rfl⟩:=xP h
   exact ⟨ad,cap,rfl,Nat.zero_le _,Or.inl rfl⟩
 · obtain ⟨g,cap,_,hg,rfl,hc,_⟩:=cS h 0 (by simp)
   refine ⟨_,cap,rfl,hc,Or.inr ⟨g,0,rfl,hg,fun i hi=> ?_⟩⟩;obtain ⟨g',cap',_,_,hv,_,hp⟩:=cS h i hi;injection hv with e1 e2 e3
   injection e1 with e1
   injection e1 with e1
   subst e1;rw [Nat.zero_add];exact hp
theorem fX {w:World} {B:Nat} {v:Value} {l:List Nat} (h:OwnN w B v l):jI w v l:=by
 have h0:=h
 rcases h.2 with ⟨rfl,hn⟩|⟨g,cap,cur,rfl,hB,hgg,hc,_⟩
 · obtain rfl:l=[]:=List.eq_nil_of_length_eq_zero hn
   exact ⟨none,0,rfl,Nat.le_refl _,Or.inl rfl⟩
 · refine ⟨_,cap,rfl,hc,Or.inr ⟨g,0,rfl,(Array.getElem?_eq_some_iff.1 hgg).1,fun i hi=> ?_⟩⟩
   rw [Nat.zero_add];exact OwnN.at h0 hi
theorem yM (G:List Nd):(cP G).length≤G.length:=by
 unfold cP
 split
 · exact Nat.zero_le _
 · exact Nat.le_trans (List.length_filter_le _ _) (by rw [List.length_range];exact Nat.le_refl _)
theorem oC (y:Pn):∀ m:List Pn,(aY m y).length≤m.length+1
 |[]=>Nat.le_refl _
 |z::s=>by
  have hs:=oC y s;rw [aY]
  split
  · rw [List.length_cons,List.length_cons];omega
  · split
    · rw [List.length_cons];omega
    · rw [List.length_cons,List.length_cons];omega
theorem oD:∀ (l m:List Pn),(l.foldl aY m).length≤m.length+l.length
 |[],m=>by simp
 |y::r,m=>by
  have h1:=oD r (aY m y);have h2:=oC y m;rw [List.foldl_cons,List.length_cons];omega
theorem wI (G:List Nd):(dY (aR G G.length)).length≤G.length:=by
 have h1:=oD (aR G G.length) [];have h2:=eM G G.length;unfold dY
 simp at h1
 omega
theorem yN (w:World) {n:Nat} (hn:n≤1000000000000):vF w n:=fun w1 B v ts h1 hB ho hl=>by
 by_cases h2:2≤ts.length
 · exact kZ ho h2 (by omega)
 · exact kL w w1 B v ts h1 hB ho (by omega)
set_option maxHeartbeats 12800000 in
theorem gZ {G:List Nd} {x:Nd} {u vc ve:Value} {w:World} (hG:NodesAt w u G) (hx:PinsAt w vc x.cx) (hxe:EdgesAt w ve x.ed) (hB:GrB G) (hN:∀ n ∈ G,n.nm.size≤281474976710656) (hz:G.length≤1048576) (he:Env w) (hf:FL w):
 Calls Tryz.prog 5 #[.agg #[u],.agg #[.string x.nm,.int .i64 x.a,.int .i64 x.b,.int .i64 x.c,vc,ve]] w fun e w'=>e= .returned (.bool true)∧Below w.heap.size w w':=by
 have hzG:G.length≤9223372036854775807:=by omega
 have HF:Hid (∀ W (y:Nd) v,Below w.heap.size w W→PinsAt W v y.cx→Calls Tryz.prog 29 #[.agg #[u],.string y.nm,.agg #[.int .i64 y.a,.int .i64 y.b,.int .i64 y.c],v] W fun e w'=>e= .returned (.int .i64 (jM G ⟨y.nm,y.a,y.b,y.c,y.cx,[]⟩))∧Below W.heap.size W w'):=fun W y v h hv=>rV (hG.below h) hv hzG hB.2
 have HR:Hid (∀ W (y:Nd) v,Below w.heap.size w W→PinsAt W v y.cx→Calls Tryz.prog 30 #[.agg #[u],.string y.nm,.agg #[.int .i64 y.a,.int .i64 y.b,.int .i64 y.c],v] W fun e w'=>e= .returned (.int .i64 (jM G ⟨y.nm,y.a,y.b,y.c,y.cx,[]⟩))∧Below W.heap.size W w'):=fun W y v h hv=>mW (hG.below h) hv hzG hB.2
 have HXP:Hid (∀ W,Below w.heap.size w W→PinsAt W vc x.cx):=fun W h=>hx.below h
 have HNG:Hid (∀ W,Below w.heap.size w W→NodesAt W u G):=fun W h=>hG.below h
 have HGR:Hid (∀ W,Below w.heap.size w W→Calls Tryz.prog 32 #[.agg #[u]] W fun e w'=>∃ v,e= .returned v∧OwnN w' W.heap.size v (cP G)∧Below W.heap.size W w'):=fun W h=>(gI (hG.below h) hB).mono fun e w' ⟨ad,c,h1,h2,h3⟩=>⟨_,h1,h2,h3⟩
 have HRR:Hid (∀ W,Below w.heap.size w W→Calls Tryz.prog 33 #[.agg #[u]] W fun e w'=>∃ v,e= .returned v∧OwnN w' W.heap.size v (cP G)∧Below W.heap.size W w'):=fun W h=>(qC (hG.below h) hB).mono fun e w' ⟨ad,c,h1,h2,h3⟩=>⟨_,h1,h2,h3⟩
 have HGP:Hid (∀ W,Below w.heap.size w W→Calls Tryz.prog 35 #[.agg #[u]] W fun e w'=>∃ v,e= .returned v∧OwnPn w' W.heap.size v (dY (aR G G.length))∧Below W.heap.size W w'):=fun W h=>(mT (hG.below h) hB hN (by omega) (yN W (by omega))).mono fun e w' ⟨v,us,h1,⟨hp,hs⟩,h3,h4⟩=>⟨v,h1,by rw [←vI hp hs];exact h3,h4⟩
 have HRP:Hid (∀ W,Below w.heap.size w W→Calls Tryz.prog 36 #[.agg #[u]] W fun e w'=>∃ v,e= .returned v∧OwnPn w' W.heap.size v (dY (aR G G.length))∧Below W.heap.size W w'):=fun W h=>nP (hG.below h) (by omega)
 have HPL:Hid (∀ W va vb,jI W va (cP G)→jI W vb (cP G)→Calls Tryz.prog 31 #[va,vb] W fun e w'=>e= .returned (.bool true)∧Below W.heap.size W w'):=fun W va vb h1 h2=>by
  have q:=nR h1 h2 (by have:=yM G;omega);rw [aN rfl] at q;exact q
 have HPN:Hid (∀ W va vb,PinsAt W va (dY (aR G G.length))→PinsAt W vb (dY (aR G G.length))→Calls Tryz.prog 34 #[va,vb] W fun e w'=>e= .returned (.bool true)∧Below W.heap.size W w'):=fun W va vb h1 h2=>by
  have q:=tM h1 h2 (by have:=wI G;omega);rw [aN rfl] at q;exact q
 have HLV:Hid (∀ W,Below w.heap.size w W→Calls Tryz.prog 28 #[] W fun e w'=>e= .returned (.bool true)∧Below W.heap.size W w'):=fun W h=>oA (he.below h) (hf.below h)
 have HSZ:=aA (fun n (h:n ∈ G)=>hB.2 n h);obtain ⟨ad,cap,rfl⟩:=hG.sl;obtain ⟨ac,cc,rfl⟩:=hx.sl;obtain ⟨ae,ce,rfl⟩:=hxe.sl;clear hG hx hxe hB hN hzG he hf;have HKP:Hid (KeepP fun W=>(Below w.heap.size w W∧BxG W w.heap.size (.slice ad G.length cap)∧BxNd W (w.heap.size+1) x (.slice ac x.cx.length cc) (.slice ae x.ed.length ce))):=(aL w).and ((aW _ _).and (aJ _ _ _ _))
 have HK0:Hid ((Below w.heap.size w ((w.alloc (.cells #[.slice ad G.length cap] 55)).alloc (.cells #[.string x.nm,.int .i64 x.a,.int .i64 x.b,.int .i64 x.c,.slice ac x.cx.length cc,.slice ae x.ed.length ce] 67))∧BxG ((w.alloc (.cells #[.slice ad G.length cap] 55)).alloc (.cells #[.string x.nm,.int .i64 x.a,.int .i64 x.b,.int .i64 x.c,.slice ac x.cx.length cc,.slice ae x.ed.length ce] 67)) w.heap.size (.slice ad G.length cap)∧BxNd ((w.alloc (.cells #[.slice ad G.length cap] 55)).alloc (.cells #[.string x.nm,.int .i64 x.a,.int .i64 x.b,.int .i64 x.c,.slice ac x.cx.length cc,.slice ae x.ed.length ce] 67)) (w.heap.size+1) x (.slice ac x.cx.length cc) (.slice ae x.ed.length ce))):=⟨aB (aD _ _) (aD _ _),aW _ _ _ _ (BxG.new rfl _) (aD _ _),BxNd.new (by simp) x _ _⟩;obtain ⟨r0,hr0⟩:∃ r,r=jM G ⟨x.nm,x.a,x.b,x.c,x.cx,[]⟩:=⟨_,rfl⟩
 have HF1:Hid (∀ W,(Below w.heap.size w W∧BxG W w.heap.size (.slice ad G.length cap)∧BxNd W (w.heap.size+1) x (.slice ac x.cx.length cc) (.slice ae x.ed.length ce))→Calls Tryz.prog 29 #[.agg #[.slice ad G.length cap],.string x.nm,.agg #[.int .i64 x.a,.int .i64 x.b,.int .i64 x.c],.slice ac x.cx.length cc] W fun e w'=>e= .returned (.int .i64 r0)∧Below W.heap.size W w'):=fun W h=>by rw [hr0];exact HF.out W x _ h.1 (HXP.out W h.1)
 have HR1:Hid (∀ W,(Below w.heap.size w W∧BxG W w.heap.size (.slice ad G.length cap)∧BxNd W (w.heap.size+1) x (.slice ac x.cx.length cc) (.slice ae x.ed.length ce))→Calls Tryz.prog 30 #[.agg #[.slice ad G.length cap],.string x.nm,.agg #[.int .i64 x.a,.int .i64 x.b,.int .i64 x.c],.slice ac x.cx.length cc] W fun e w'=>e= .returned (.int .i64 r0)∧Below W.heap.size W w'):=fun W h=>by rw [hr0];exact HR.out W x _ h.1 (HXP.out W h.1)
 clear hr0;have HK:=HKP;have HO:=HK0;generalize hl1:x.cx.length=l1 at*;generalize hl2:x.ed.length=l2 at*;clear hl1 hl2
 go_enter Tryz.func5,Tryz.ntmps5
 go_wp2_with fail
 refine aX HK (by kernel_rfl) (by kernel_rfl) (by first|exact HO.out|exact HK.out.drew HO.out) ?_;intro C HIN HOUT;clear HO
 repeat
  (with_reducible refine wpQuiet_step (fun K hK=> ?_)
   go_simp
   first
    |(refine hK _ ?_;clear hK K)
    |(apply Exists.intro;refine ⟨fun w1 hC=> ?_,hK _ ?_⟩;(focus ((first|(go_at_call 29;with_reducible exact cT HIN HOUT HK (fun w1 hk=>HF1.out w1 hk) w1 hC)|(go_at_call 30;with_reducible exact cT HIN HOUT HK (fun w1 hk=>HR1.out w1 hk) w1 hC)|(exact rfl)|(obtain ⟨hb1,⟨y0,y1⟩,⟨z0,z1,z2,z3,z4,z5⟩,z6⟩:=HOUT.out w1 hC;clear hC;go_simp;first|done|exact rfl));done));clear hK K))
 refine wpQuiet_nil ?_;intro wn hC;have HO:=aA (HOUT.out _ hC);clear hC HIN HOUT C;obtain ⟨hb1,⟨y0,y1⟩,⟨z0,z1,z2,z3,z4,z5⟩,z6⟩:=HO.out
 go_wp2_with fail
 clear y0 y1 z0 z1 z2 z3 z4 z5 z6 HK0 HF1 HR1
 go_loopw [5] (fun i wr=>∃ k:Nat,k≤G.length∧i= .int .i64 k∧(Below w.heap.size w wr∧BxG wr w.heap.size (.slice ad G.length cap)∧BxNd wr (w.heap.size+1) x (.slice ac l1 cc) (.slice ae l2 ce))) (fun i _=>G.length - (intOf i).toNat)
 case atStart=>exact ⟨0,Nat.zero_le _,rfl,HO.out⟩
 case round=>
  clear HO hb1;obtain ⟨k,hk,rfl,hb⟩:=hrel
  by_cases hlt:k<G.length
  · obtain ⟨ad',cap',e,_,hcs⟩:=HNG.out wr hb.1
    cases e
    obtain ⟨g,o,rfl,hg,hcz⟩:∃ g o,ad=some ⟨g,o,none⟩∧g<wr.heap.size∧∀ i (h:i<G.length),∃ vc ve,NdIn wr g (o+i*6) G[i] vc ve:=by
     rcases hcs with h|h
     · rw [h] at hlt;simp at hlt
     · exact h
    clear hcs;obtain ⟨vc,ve,hx⟩:=hcz k hlt;clear hcz;obtain ⟨av,cv,rfl⟩:=hx.2.1.1.sl;obtain ⟨ae2,ce2,rfl⟩:=hx.2.1.2.sl;have HYP:Hid (∀ W,Below wr.heap.size wr W→PinsAt W (.slice av G[k].cx.length cv) G[k].cx):=fun W h=>hx.2.1.1.below h
    obtain ⟨⟨x0,x1,x2,x3,x4,x5⟩,_,x6⟩:=hx;obtain ⟨y,hy⟩:∃ y,y=G[k]:=⟨_,rfl⟩;rw [←hy] at x0 x1 x2 x3 x4 x5 HYP;clear hy;obtain ⟨r1,hr1⟩:∃ r,r=jM G ⟨y.nm,y.a,y.b,y.c,y.cx,[]⟩:=⟨_,rfl⟩;have HF1:Hid (∀ W,Below w.heap.size w W→Below wr.heap.size wr W→Calls Tryz.prog 29 #[.agg #[.slice (some ⟨g,o,none⟩) G.length cap],.string y.nm,.agg #[.int .i64 y.a,.int .i64 y.b,.int .i64 y.c],.slice av y.cx.length cv] W fun e w'=>e= .returned (.int .i64 r1)∧Below W.heap.size W w'):=fun W h h2=>by rw [hr1];exact HF.out W y _ h (HYP.out W h2)
    have HR1:Hid (∀ W,Below w.heap.size w W→Below wr.heap.size wr W→Calls Tryz.prog 30 #[.agg #[.slice (some ⟨g,o,none⟩) G.length cap],.string y.nm,.agg #[.int .i64 y.a,.int .i64 y.b,.int .i64 y.c],.slice av y.cx.length cv] W fun e w'=>e= .returned (.int .i64 r1)∧Below W.heap.size W w'):=fun W h h2=>by rw [hr1];exact HR.out W y _ h (HYP.out W h2)
    have HKZ:Hid (KeepP fun W=>((Below w.heap.size w W∧BxG W w.heap.size (.slice (some ⟨g,o,none⟩) G.length cap)∧BxNd W (w.heap.size+1) x (.slice ac l1 cc) (.slice ae l2 ce)))∧Below wr.heap.size wr W∧BxNd W wr.heap.size y (.slice av y.cx.length cv) (.slice ae2 y.ed.length ce2)):=HKP.out.and ((aL wr).and (aJ _ _ _ _))
    have HOZ:Hid (((Below w.heap.size w (wr.alloc (.cells #[.string y.nm,.int .i64 y.a,.int .i64 y.b,.int .i64 y.c,.slice av y.cx.length cv,.slice ae2 y.ed.length ce2] 67))∧BxG (wr.alloc (.cells #[.string y.nm,.int .i64 y.a,.int .i64 y.b,.int .i64 y.c,.slice av y.cx.length cv,.slice ae2 y.ed.length ce2] 67)) w.heap.size (.slice (some ⟨g,o,none⟩) G.length cap)∧BxNd (wr.alloc (.cells #[.string y.nm,.int .i64 y.a,.int .i64 y.b,.int .i64 y.c,.slice av y.cx.length cv,.slice ae2 y.ed.length ce2] 67)) (w.heap.size+1) x (.slice ac l1 cc) (.slice ae l2 ce)))∧Below wr.heap.size wr (wr.alloc (.cells #[.string y.nm,.int .i64 y.a,.int .i64 y.b,.int .i64 y.c,.slice av y.cx.length cv,.slice ae2 y.ed.length ce2] 67))∧BxNd (wr.alloc (.cells #[.string y.nm,.int .i64 y.a,.int .i64 y.b,.int .i64 y.c,.slice av y.cx.length cv,.slice ae2 y.ed.length ce2] 67)) wr.heap.size y (.slice av y.cx.length cv) (.slice ae2 y.ed.length ce2)):=⟨HKP.out _ _ hb (aD _ _),aD _ _,BxNd.new rfl y _ _⟩
    obtain ⟨_,⟨y0,y1⟩,_⟩:=hb;clear hr1;have HK:=HKZ;have HO:=HOZ;clear HKZ HOZ;generalize y.cx.length=m1 at*;generalize y.ed.length=m2 at*
    go_wp2_with fail
    clear y0 y1 x0 x1 x2 x3 x4 x5 x6;refine aX HK (by kernel_rfl) (by kernel_rfl) (by first|exact HO.out|exact HK.out.drew HO.out) ?_;intro C HIN HOUT;clear HO
    repeat
     (with_reducible refine wpQuiet_step (fun K hK=> ?_)
      go_simp
      first
       |(refine hK _ ?_;clear hK K)
       |(apply Exists.intro;refine ⟨fun w1 hC=> ?_,hK _ ?_⟩;(focus ((first|(go_at_call 29;with_reducible exact cT HIN HOUT HK (fun w1 hk=>HF1.out w1 hk.1.1 hk.2.1) w1 hC)|(go_at_call 30;with_reducible exact cT HIN HOUT HK (fun w1 hk=>HR1.out w1 hk.1.1 hk.2.1) w1 hC)|(exact rfl)|(obtain ⟨⟨hb1,⟨y0,y1⟩,_⟩,hb2,⟨z0,z1,z2,z3,z4,z5⟩,z6⟩:=HOUT.out w1 hC;clear hC;go_simp;first|done|exact rfl));done));clear hK K))
    refine wpQuiet_nil ?_;intro wn hC;have HO:=aA (HOUT.out _ hC);clear hC HIN HOUT C;obtain ⟨⟨hb1,⟨y0,y1⟩,_⟩,hb2,⟨z0,z1,z2,z3,z4,z5⟩,z6⟩:=HO.out
    go_wp2_with fail
    exact ⟨⟨k+1,by omega,by go_num,HO.out.1⟩,by simp [intOf];omega⟩
  · obtain rfl:k=G.length:=by omega
    have HKA:=aA hb;obtain ⟨_,⟨y0,y1⟩,_⟩:=hb;clear HF HR HXP HNG HSZ hlt
    go_wp2_with fail
    go_region_held3 (fun w'=>w'.cell? ⟨w.heap.size,0,none⟩=some (.slice ad G.length cap)) (go_keep) (first
     |(have _t:=HU2;go_at_call 31;refine (HPL.out _ _ _ HU1.out HU2.out).mono ?_;rintro e w5 ⟨rfl,ok⟩;have HK5:=aA (HKP.out _ _ HKB.out ok);have y0:=HK5.out.2.1.1;clear ok HU2)
     |(have _t:=HS1;go_at_call 33;refine (HRR.out _ HKA1.out.1).mono ?_;rintro e w4 ⟨vb,rfl,ho,ok⟩;have HKB:=aA (HKP.out _ _ HKA1.out ok);have HU1:=aA (fX (OwnN.below HS1.out ok));have HU2:=aA (fX ho);have y0:=HKB.out.2.1.1;clear ho ok HS1)
     |(have _t:=HS2;go_at_call 32;refine (HGR.out _ HKA1.out.1).mono ?_;rintro e w4 ⟨va,rfl,ho,ok⟩;have HKB:=aA (HKP.out _ _ HKA1.out ok);have HU2:=aA (fX (OwnN.below HS2.out ok));have HU1:=aA (fX ho);have y0:=HKB.out.2.1.1;clear ho ok HS2)
     |(go_at_call 32;refine (HGR.out _ (KeepP.drew HKP.out HKA.out).1).mono ?_;rintro e w3 ⟨va,rfl,ho,ok⟩;have HKA1:=aA (HKP.out _ _ (KeepP.drew HKP.out HKA.out) ok);have HS1:=aA ho;have y0:=HKA1.out.2.1.1;clear ho ok)
     |(go_at_call 33;refine (HRR.out _ (KeepP.drew HKP.out HKA.out).1).mono ?_;rintro e w3 ⟨vb,rfl,ho,ok⟩;have HKA1:=aA (HKP.out _ _ (KeepP.drew HKP.out HKA.out) ok);have HS2:=aA ho;have y0:=HKA1.out.2.1.1;clear ho ok))
    all_goals go_wp2_with fail
    all_goals go_region_held3 (fun w'=>w'.cell? ⟨w.heap.size,0,none⟩=some (.slice ad G.length cap)) (go_keep) (first
     |(have _t:=HV2;go_at_call 34;refine (HPN.out _ _ _ HV1.out HV2.out).mono ?_;rintro e w8 ⟨rfl,ok⟩;have HK8:=aA (HKP.out _ _ HKC.out ok);have y0:=HK8.out.2.1.1;clear ok HV2)
     |(have _t:=HT1;go_at_call 36;refine (HRP.out _ HK51.out.1).mono ?_;rintro e w7 ⟨vd,rfl,ho,ok⟩;have HKC:=aA (HKP.out _ _ HK51.out ok);have HV1:=aA (eO (OwnPn.belowG HT1.out ok));have HV2:=aA (eO ho);have y0:=HKC.out.2.1.1;clear ho ok HT1)
     |(have _t:=HT2;go_at_call 35;refine (HGP.out _ HK51.out.1).mono ?_;rintro e w7 ⟨vd,rfl,ho,ok⟩;have HKC:=aA (HKP.out _ _ HK51.out ok);have HV2:=aA (eO (OwnPn.belowG HT2.out ok));have HV1:=aA (eO ho);have y0:=HKC.out.2.1.1;clear ho ok HT2)
     |(go_at_call 35;refine (HGP.out _ (KeepP.drew HKP.out HK5.out).1).mono ?_;rintro e w6 ⟨vd,rfl,ho,ok⟩;have HK51:=aA (HKP.out _ _ (KeepP.drew HKP.out HK5.out) ok);have HT1:=aA ho;have y0:=HK51.out.2.1.1;clear ho ok)
     |(go_at_call 36;refine (HRP.out _ (KeepP.drew HKP.out HK5.out).1).mono ?_;rintro e w6 ⟨vd,rfl,ho,ok⟩;have HK51:=aA (HKP.out _ _ (KeepP.drew HKP.out HK5.out) ok);have HT2:=aA ho;have y0:=HK51.out.2.1.1;clear ho ok))
    all_goals go_wp2_with (go_at_call 28;refine (HLV.out _ HK8.out.1).mono ?_;rintro e w9 ⟨rfl,ok⟩;have HK9:=aA (HKP.out _ _ HK8.out ok);clear ok)
    all_goals go_ret
    all_goals exact ⟨rfl,HK9.out.1⟩
end Go.Proofs.YtpfemjlhklnfoaaGreatDoor
