/- Gt9: their declarations that are needed, laid in one text, remarks and blanks left out. -/
import Derived.Test.YtpfemjlhklnfoaaGreatDoorMh29
import Derived.Test.YtpfemjlhklnfoaaGreatDoorMh30
namespace Go.Proofs.YtpfemjlhklnfoaaGreatDoor
open Go.Shelf Go.RowKit Go.Maps Go.WideMaps
set_option maxRecDepth 100000
theorem oW {s:ByteArray} {a b c:Int} (h:Sc.aQ s.data.toList=true) (hv:aN a b c=true):bQ s a b c:=by
 unfold Sc.aQ at h;rw [Bool.and_eq_true,decide_eq_true_eq,Array.length_toList] at h;have hs:s.size≤16:=h.2;obtain ⟨h1,h2,h3⟩:=zB hv;exact ⟨by unfold maxLen;omega,h1,h2,h3⟩
theorem AD:∀ {L:List Pn} {s:ByteArray},Lo.mF s L=true→∀ p ∈ L,Sc.aQ p.nm.data.toList=true∧aN p.a p.b p.c=true
 |[],_,_,p,hp=>by cases hp
 |q::r,s,h,p,hp=>by
  unfold Lo.mF Lo.oT at h;simp only [Bool.and_eq_true] at h
  rcases List.mem_cons.1 hp with rfl|hp
  · exact ⟨h.1.1.1,h.1.2⟩
  · exact AD h.2 p hp
theorem AE {n:Int}:∀ {L:List Eg} {s:ByteArray},Lo.iP n s L=true→∀ e ∈ L,Sc.aQ e.lb.data.toList=true∧1≤e.to∧e.to<n
 |[],_,_,e,he=>by cases he
 |q::r,s,h,e,he=>by
  unfold Lo.iP Lo.oT at h;simp only [Bool.and_eq_true,decide_eq_true_eq] at h
  rcases List.mem_cons.1 he with rfl|he
  · exact ⟨h.1.1.1.1,h.1.1.2,h.1.2⟩
  · exact AE h.2 e he
structure GOk (G:List Nd):Prop where
 pos:0<G.length
 len:G.length≤128
 root:∀ (h:0<G.length),Lo.fM G[0]=true
 edge:∀ n ∈ G,∀ e ∈ n.ed,Sc.aQ e.lb.data.toList=true∧1≤e.to∧e.to<(G.length:Int)
 key:∀ n ∈ G,bQ n.nm n.a n.b n.c
 ckey:∀ n ∈ G,∀ q ∈ n.cx,Sc.aQ q.nm.data.toList=true∧aN q.a q.b q.c=true
 sm:∀ n ∈ G,n.cx.length≤128∧n.ed.length≤128
theorem dZ {G:List Nd} (h:Lo.dS G=true):GOk G:=by
 cases G with
 |nil=>cases h
 |cons x r=>
  unfold Lo.dS at h;simp only [Bool.and_eq_true,decide_eq_true_eq,List.all_eq_true] at h;obtain ⟨⟨⟨h1,h2⟩,h3⟩,h4⟩:=h
  have hf:x.nm.size=0∧(x.a=0∧x.b=0∧x.c=0)∧x.cx.length=0:=by
   unfold Lo.fM at h2;simp only [Bool.and_eq_true,decide_eq_true_eq] at h2;exact ⟨h2.1.1,h2.1.2,h2.2⟩
  have hl:∀ n ∈ r,Sc.aQ n.nm.data.toList=true∧aN n.a n.b n.c=true∧n.cx.length≤128∧Lo.mF ⟨#[]⟩ n.cx=true:=fun n hn=>by
   have q:=h3 n hn;unfold Lo.cZ Lo.gB at q;simp only [Bool.and_eq_true,decide_eq_true_eq] at q;exact ⟨q.1.1,q.1.2,q.2.1,q.2.2⟩
  have he:∀ n ∈ x::r,n.ed.length≤128∧Lo.iP (r.length+1) ⟨#[]⟩ n.ed=true:=fun n hn=>by
   have q:=h4 n hn;unfold Lo.cF at q;simp only [Bool.and_eq_true,decide_eq_true_eq] at q;exact q
  have hcx:x.cx=[]:=List.eq_nil_of_length_eq_zero hf.2.2
  exact {
   pos:=by simp
   len:=by simpa using h1
   root:=fun _=>h2
   edge:=fun n hn e h=>by
    have q:=AE (he n hn).2 e h;exact ⟨q.1,q.2.1,by rw [List.length_cons];exact q.2.2⟩
   key:=fun n hn=>by
    rcases List.mem_cons.1 hn with rfl|hn
    · obtain ⟨e0,⟨e1,e2,e3⟩,_⟩:=hf
      rw [e1,e2,e3];exact ⟨by rw [e0];exact Nat.zero_le _,by unfold I64;decide,by unfold I64;decide,by unfold I64;decide⟩
    · exact oW (hl n hn).1 (hl n hn).2.1
   ckey:=fun n hn q hq=>by
    rcases List.mem_cons.1 hn with rfl|hn
    · rw [hcx] at hq;cases hq
    · exact AD (hl n hn).2.2.2 q hq
   sm:=fun n hn=>by
    refine ⟨?_,(he n hn).1⟩
    rcases List.mem_cons.1 hn with rfl|hn
    · rw [hcx];simp
    · exact (hl n hn).2.2.1 }
theorem GOk.ing {G:List Nd} (h:GOk G):InG G:=fun n hn e he=>by have:=h.edge n hn e he;exact ⟨by omega,this.2.2⟩
theorem oX {α:Type} (f:α→Nat) (b:Nat):∀ l:List α,(∀ x ∈ l,f x≤b)→(l.map f).sum≤l.length*b
 |[],_=>by simp
 |x::r,h=>by
  have h1:=oX f b r fun y hy=>h y (List.mem_cons_of_mem _ hy)
  have h2:=h x (List.mem_cons_self ..);rw [List.map_cons,List.sum_cons,List.length_cons,Nat.add_mul];omega
theorem GOk.grb {G:List Nd} (h:GOk G):GrB G:=by
 refine ⟨⟨by have:=h.len;omega,?_⟩,fun n hn=>by have:=h.sm n hn;exact ⟨by omega,by omega⟩⟩
 have h1:=oX (fun i=>(edA G i).length) 128 (List.range G.length) fun i hi=>by
  rw [FX (List.mem_range.1 hi)];exact (h.sm _ (List.getElem_mem (List.mem_range.1 hi))).2
 rw [List.length_range] at h1;have h2:=h.len;unfold KQ;omega
noncomputable def rC (G:List Nd):Bool:=Lo.dS G&&(iO G&&(!(eG [] G)&& !(decide ((gL G).length<G.length))))
noncomputable def vS (L:List CV) (P:Mn) (dv:Bool) (G:List Nd) (k:Nat):Bool:=match G[k]? with
 |some n=>rB L P dv G k n
 |none=>true
theorem AF {L:List CV} {P:Mn} {dv:Bool} {G:List Nd} {k:Nat} (h:k<G.length):vS L P dv G k=rB L P dv G k G[k]:=by
 unfold vS;rw [List.getElem?_eq_getElem h]
noncomputable def pM (L:List CV) (P:Mn) (dv:Bool) (G:List Nd):Int:=if aO P=true then (if rC G=true then (if (List.range G.length).all (vS L P dv G)=true then 0 else 33) else 33) else 1
def KCg (w:World) (v v1 v2 v3 v4:Value) (W:World):Prop:=Below w.heap.size w W∧BxG W w.heap.size v∧(W.cell? ⟨w.heap.size+1,0,none⟩=some v1∧W.cell? ⟨w.heap.size+1,1,none⟩=some v2∧W.cell? ⟨w.heap.size+1,2,none⟩=some v3∧W.cell? ⟨w.heap.size+1,3,none⟩=some v4)∧w.heap.size+1<W.heap.size
theorem LP (w:World) (v v1 v2 v3 v4:Value):KeepP (KCg w v v1 v2 v3 v4):=fun _ _ ⟨h1,h2,⟨h3,h4,h5,h6⟩,h7⟩ hb=>
 ⟨aB h1 hb,bY _ _ _ _ h2 hb,⟨(hb.cell (p:=⟨w.heap.size+1,0,none⟩) h7).trans h3,(hb.cell (p:=⟨w.heap.size+1,1,none⟩) h7).trans h4,(hb.cell (p:=⟨w.heap.size+1,2,none⟩) h7).trans h5,(hb.cell (p:=⟨w.heap.size+1,3,none⟩) h7).trans h6⟩,Nat.lt_of_lt_of_le h7 hb.size⟩
theorem KCg.new (w:World) (v v1 v2 v3 v4:Value):KCg w v v1 v2 v3 v4 ((w.alloc (.cells #[v] 55)).alloc (.cells #[v1,v2,v3,v4] 57)):=
 ⟨aR _ _ _,bY _ _ _ _ (BxG.new rfl _) (aD _ _),⟨by simp,by simp,by simp,by simp⟩,by simp⟩
set_option maxHeartbeats 25600000 in
theorem DR {G:List Nd} {P:Mn} {ad x1 x2 x3 x4:Option Addr} {cap z1 z2 z3 z4 C B Q:Nat} {dv:Bool} {L:List CV} {w:World} (hG:NodesAt w (.slice ad G.length cap) G)
 (hc:CatAt w B C Q L) (hL:L.length≤128) (hM:MnAt w P (.slice x1 P.d.length z1) (.slice x2 P.v.length z2) (.slice x3 P.o.length z3) (.slice x4 P.p.length z4)) (he:Env w) (hf:FL w):
 Calls Tryz.prog 26 #[.agg #[.slice ad G.length cap],.pointer (some ⟨C,0,none⟩),.agg #[.slice x1 P.d.length z1,.slice x2 P.v.length z2,.slice x3 P.o.length z3,.slice x4 P.p.length z4],.bool dv] w fun e w'=>e= .returned (.int .i64 (pM L P dv G))∧Below w.heap.size w w':=by
 have HMF:Hid (∀ w1,Below w.heap.size w w1→Calls Tryz.prog 58 #[.agg #[.slice x1 P.d.length z1,.slice x2 P.v.length z2,.slice x3 P.o.length z3,.slice x4 P.p.length z4]] w1 fun e w'=>e= .returned (.bool (aO P))∧Below w1.heap.size w1 w'):=fun w1 hb=>oP ⟨hM.1.below hb,hM.2.1.below hb,hM.2.2.1.below hb,hM.2.2.2.below hb⟩ (he.below hb) (hf.below hb)
 have HLM:Hid (∀ w1,Below w.heap.size w w1→Calls Tryz.prog 59 #[.agg #[.slice ad G.length cap]] w1 fun e w'=>e= .returned (.bool (Lo.dS G))∧Below w1.heap.size w1 w'):=fun w1 hb=>Lo.oV (hG.below hb)
 have HLB:Hid (Lo.dS G=true→∀ w1,Below w.heap.size w w1→Calls Tryz.prog 60 #[.agg #[.slice ad G.length cap]] w1 fun e w'=>e= .returned (.bool (iO G))∧Below w1.heap.size w1 w'):=fun hm w1 hb=>gH (hG.below hb) (by have:=(dZ hm).len;omega) (dZ hm).grb.2 (dZ hm).ing
 have HTW:Hid (Lo.dS G=true→∀ w1,Below w.heap.size w w1→Calls Tryz.prog 61 #[.slice ad G.length cap] w1 fun e w'=>e= .returned (.bool (eG [] G))∧Below w1.heap.size w1 w'):=fun hm w1 hb=>lL (hG.below hb) (by have:=(dZ hm).len;omega) (dZ hm).grb.2
 have HRC:Hid (Lo.dS G=true→∀ w1,Below w.heap.size w w1→Calls Tryz.prog 32 #[.agg #[.slice ad G.length cap]] w1 fun e w'=>∃ ad c,e= .returned (.slice ad (gL G).length c)∧Below w1.heap.size w1 w'):=fun hm w1 hb=>by
  refine (lN (hG.below hb) (dZ hm).grb).mono ?_;rintro e w' ⟨ad,c,rfl,_,h⟩;exact ⟨ad,c,rfl,h⟩
 have HFT:Hid (aO P=true→Lo.dS G=true→∀ w1 k,k<G.length→Below w.heap.size w w1→Calls Tryz.prog 62 #[.agg #[.slice ad G.length cap,.pointer (some ⟨C,0,none⟩),.slice x1 P.d.length z1,.slice x2 P.v.length z2,.slice x3 P.o.length z3,.slice x4 P.p.length z4,.bool dv],.int .i64 k] w1 fun e w'=>e= .returned (.bool (vS L P dv G k))∧Below w1.heap.size w1 w'):=fun hP hm w1 k hk hb=>by
  rw [AF hk];have q:=dZ hm;exact IH (hG.below hb) hk q.ing (hc.below hb) hL ⟨hM.1.below hb,hM.2.1.below hb,hM.2.2.1.below hb,hM.2.2.2.below hb⟩ hP q.key (fun n hn p hp=>oW (q.ckey n hn p hp).1 (q.ckey n hn p hp).2) (fun n hn e he=>(oW (a:=0) (b:=0) (c:=0) (q.edge n hn e he).1 (by decide)).1) (fun n hn=>by have:=q.sm n hn;exact ⟨by omega,by omega⟩)
 have HKN:=aA (KCg.new w (.slice ad G.length cap) (.slice x1 P.d.length z1) (.slice x2 P.v.length z2) (.slice x3 P.o.length z3) (.slice x4 P.p.length z4));have HKP:=aA (LP w (.slice ad G.length cap) (.slice x1 P.d.length z1) (.slice x2 P.v.length z2) (.slice x3 P.o.length z3) (.slice x4 P.p.length z4));have HKW:Hid (∀ W,KCg w (.slice ad G.length cap) (.slice x1 P.d.length z1) (.slice x2 P.v.length z2) (.slice x3 P.o.length z3) (.slice x4 P.p.length z4) W→W.cell? ⟨w.heap.size,0,none⟩=some (.slice ad G.length cap)):=fun W h=>h.2.1.1
 have HKB:Hid (∀ W,KCg w (.slice ad G.length cap) (.slice x1 P.d.length z1) (.slice x2 P.v.length z2) (.slice x3 P.o.length z3) (.slice x4 P.p.length z4) W→Below w.heap.size w W):=fun W h=>h.1
 have HCE:Hid (pM L P dv G=if aO P=true then (if rC G=true then (if (List.range G.length).all (vS L P dv G)=true then 0 else 33) else 33) else 1):=rfl;have HFM:Hid (rC G=(Lo.dS G&&(iO G&&(!(eG [] G)&& !(decide ((gL G).length<G.length)))))):=rfl;have HLG:Hid (Lo.dS G=true→G.length≤128):=fun h=>(dZ h).len
 clear hG hc hL hM he hf;obtain ⟨FA,hFA⟩:∃ F,F=vS L P dv G:=⟨_,rfl⟩;rw [←hFA] at HFT HCE;clear hFA;generalize pM L P dv G=ce at*;generalize aO P=b0 at*;generalize rC G=fb at*;generalize Lo.dS G=b1 at*;generalize iO G=b2 at*;generalize eG [] G=b3 at*;generalize (gL G).length=rl at*;generalize G.length=lg at*;generalize P.d.length=l1 at*;generalize P.v.length=l2 at*;generalize P.o.length=l3 at*;generalize P.p.length=l4 at*;obtain ⟨_,⟨y0,_⟩,⟨z0',z1',z2',z3'⟩,_⟩:=HKN.out
 go_enter Tryz.func26,Tryz.ntmps26
 cases b0 with
 |false=>
  go_wp2_with (go_at_call 58;refine (HMF.out _ HKN.out.1).mono ?_;rintro e w1 ⟨rfl,ok⟩;have HK1:=aA (HKP.out _ _ HKN.out ok);have k1:=HKW.out _ HK1.out;clear ok)
  go_ret;exact ⟨Sc.bE (by rw [HCE.out];rfl),HK1.out.1⟩
 |true=>
  go_wp2_with (go_at_call 58;refine (HMF.out _ HKN.out.1).mono ?_;rintro e w1 ⟨rfl,ok⟩;have HK1:=aA (HKP.out _ _ HKN.out ok);have k1:=HKW.out _ HK1.out;clear ok)
  clear y0 z0' z1' z2' z3' HMF HKN;cases b1 with
  |false=>
   have HK:=HKP;have HO:=HK1;refine bA HK (by kernel_rfl) (by kernel_rfl) (by first|exact HO.out|exact HK.out.drew HO.out) ?_;intro C HIN HOUT;clear HO
   repeat
    (with_reducible refine wpQuiet_step (fun K hK=> ?_)
     go_simp
     first
      |(refine hK _ ?_;clear hK K)
      |(apply Exists.intro;refine ⟨fun w1 hC=> ?_,hK _ ?_⟩;(focus ((first|(go_at_call 59;with_reducible exact cI HIN HOUT HK (fun w1 hk=>HLM.out w1 (HKB.out w1 hk)) w1 hC)|(exact rfl)|(obtain ⟨hb1,⟨y0,y1⟩,⟨z0',z1',z2',z3'⟩,z4'⟩:=HOUT.out w1 hC;clear hC;go_simp;first|done|exact rfl));done));clear hK K))
   refine wpQuiet_nil ?_;intro wn hC;have HO:=aA (HOUT.out _ hC);clear hC HIN HOUT C;obtain ⟨hb1,⟨y0,y1⟩,⟨z0',z1',z2',z3'⟩,z4'⟩:=HO.out
   go_wp2
   go_ret;exact ⟨Sc.bE (by rw [HCE.out,HFM.out];rfl),hb1⟩
  |true=>
   have HLB2:=aA (HLB.out rfl);have HTW2:=aA (HTW.out rfl);have HRC2:=aA (HRC.out rfl);have HFT2:=aA (HFT.out (by trivial) rfl);have hlg:=HLG.out rfl;clear HLB HTW HRC HFT HLG;cases b2 with
   |false=>
    have HK:=HKP;have HO:=HK1;refine bA HK (by kernel_rfl) (by kernel_rfl) (by first|exact HO.out|exact HK.out.drew HO.out) ?_;intro C HIN HOUT;clear HO
    repeat
     (with_reducible refine wpQuiet_step (fun K hK=> ?_)
      go_simp
      first
       |(refine hK _ ?_;clear hK K)
       |(apply Exists.intro;refine ⟨fun w1 hC=> ?_,hK _ ?_⟩;(focus ((first|(go_at_call 59;with_reducible exact cI HIN HOUT HK (fun w1 hk=>HLM.out w1 (HKB.out w1 hk)) w1 hC)|(go_at_call 60;with_reducible exact cI HIN HOUT HK (fun w1 hk=>HLB2.out w1 (HKB.out w1 hk)) w1 hC)|(exact rfl)|(obtain ⟨hb1,⟨y0,y1⟩,⟨z0',z1',z2',z3'⟩,z4'⟩:=HOUT.out w1 hC;clear hC;go_simp;first|done|exact rfl));done));clear hK K))
    refine wpQuiet_nil ?_;intro wn hC;have HO:=aA (HOUT.out _ hC);clear hC HIN HOUT C;obtain ⟨hb1,⟨y0,y1⟩,⟨z0',z1',z2',z3'⟩,z4'⟩:=HO.out
    go_wp2
    go_ret;exact ⟨Sc.bE (by rw [HCE.out,HFM.out];rfl),hb1⟩
   |true=>
    cases b3 with
    |true=>
     have HK:=HKP;have HO:=HK1;refine bA HK (by kernel_rfl) (by kernel_rfl) (by first|exact HO.out|exact HK.out.drew HO.out) ?_;intro C HIN HOUT;clear HO
     repeat
      (with_reducible refine wpQuiet_step (fun K hK=> ?_)
       go_simp
       first
        |(refine hK _ ?_;clear hK K)
        |(apply Exists.intro;refine ⟨fun w1 hC=> ?_,hK _ ?_⟩;(focus ((first|(go_at_call 59;with_reducible exact cI HIN HOUT HK (fun w1 hk=>HLM.out w1 (HKB.out w1 hk)) w1 hC)|(go_at_call 60;with_reducible exact cI HIN HOUT HK (fun w1 hk=>HLB2.out w1 (HKB.out w1 hk)) w1 hC)|(go_at_call 61;with_reducible exact cI HIN HOUT HK (fun w1 hk=>HTW2.out w1 (HKB.out w1 hk)) w1 hC)|(exact rfl)|(obtain ⟨hb1,⟨y0,y1⟩,⟨z0',z1',z2',z3'⟩,z4'⟩:=HOUT.out w1 hC;clear hC;go_simp;first|done|exact rfl));done));clear hK K))
     refine wpQuiet_nil ?_;intro wn hC;have HO:=aA (HOUT.out _ hC);clear hC HIN HOUT C;obtain ⟨hb1,⟨y0,y1⟩,⟨z0',z1',z2',z3'⟩,z4'⟩:=HO.out
     go_wp2
     go_ret;exact ⟨Sc.bE (by rw [HCE.out,HFM.out];rfl),hb1⟩
    |false=>
     by_cases hr:rl<lg
     · have HF0:Hid (fb=false):=by rw [HFM.out,decide_eq_true hr];rfl
       have hri:(rl:Int)<(lg:Int):=by omega
       go_region_held3 (fun w'=>w'.cell? ⟨w.heap.size,0,none⟩=some (.slice ad lg cap)) (go_keep) (first|(go_at_call 32;refine (HRC2.out _ HK4.out.1).mono ?_;rintro e w5 ⟨ar,cr,rfl,ok⟩;have HK5:=aA (HKP.out _ _ HK4.out ok);have k1:=HKW.out _ HK5.out;clear ok)|(go_at_call 61;refine (HTW2.out _ HK3.out.1).mono ?_;rintro e w4 ⟨rfl,ok⟩;have HK4:=aA (HKP.out _ _ HK3.out ok);have k1:=HKW.out _ HK4.out;clear ok)|(go_at_call 60;refine (HLB2.out _ HK2.out.1).mono ?_;rintro e w3 ⟨rfl,ok⟩;have HK3:=aA (HKP.out _ _ HK2.out ok);have k1:=HKW.out _ HK3.out;clear ok)|(go_at_call 59;refine (HLM.out _ HK1.out.1.drew).mono ?_;rintro e w2 ⟨rfl,ok⟩;have HK2:=aA (HKP.out _ _ (KeepP.drew HKP.out HK1.out) ok);have k1:=HKW.out _ HK2.out;clear ok))
       go_wp2
       go_ret;exact ⟨Sc.bE (by rw [HCE.out,HF0.out];rfl),HK5.out.1⟩
     · have HF0:Hid (fb=true):=by rw [HFM.out,decide_eq_false hr];rfl
       have hri:¬ (rl:Int)<(lg:Int):=by omega
       go_region_held3 (fun w'=>w'.cell? ⟨w.heap.size,0,none⟩=some (.slice ad lg cap)) (go_keep) (first|(go_at_call 32;refine (HRC2.out _ HK4.out.1).mono ?_;rintro e w5 ⟨ar,cr,rfl,ok⟩;have HK5:=aA (HKP.out _ _ HK4.out ok);have k1:=HKW.out _ HK5.out;clear ok)|(go_at_call 61;refine (HTW2.out _ HK3.out.1).mono ?_;rintro e w4 ⟨rfl,ok⟩;have HK4:=aA (HKP.out _ _ HK3.out ok);have k1:=HKW.out _ HK4.out;clear ok)|(go_at_call 60;refine (HLB2.out _ HK2.out.1).mono ?_;rintro e w3 ⟨rfl,ok⟩;have HK3:=aA (HKP.out _ _ HK2.out ok);have k1:=HKW.out _ HK3.out;clear ok)|(go_at_call 59;refine (HLM.out _ HK1.out.1.drew).mono ?_;rintro e w2 ⟨rfl,ok⟩;have HK2:=aA (HKP.out _ _ (KeepP.drew HKP.out HK1.out) ok);have k1:=HKW.out _ HK2.out;clear ok))
       obtain ⟨_,_,⟨z0',z1',z2',z3'⟩,_⟩:=HK5.out;have HS0:Hid (Below w.heap.size w (w5.alloc (.cells #[.slice ad lg cap,.pointer (some ⟨C,0,none⟩),.slice x1 l1 z1,.slice x2 l2 z2,.slice x3 l3 z3,.slice x4 l4 z4,.bool dv] 109))∧BxSo (w5.alloc (.cells #[.slice ad lg cap,.pointer (some ⟨C,0,none⟩),.slice x1 l1 z1,.slice x2 l2 z2,.slice x3 l3 z3,.slice x4 l4 z4,.bool dv] 109)) w5.heap.size (.slice ad lg cap) (.pointer (some ⟨C,0,none⟩)) (.slice x1 l1 z1) (.slice x2 l2 z2) (.slice x3 l3 z3) (.slice x4 l4 z4) (.bool dv)∧BxG (w5.alloc (.cells #[.slice ad lg cap,.pointer (some ⟨C,0,none⟩),.slice x1 l1 z1,.slice x2 l2 z2,.slice x3 l3 z3,.slice x4 l4 z4,.bool dv] 109)) w.heap.size (.slice ad lg cap)):=⟨aB HK5.out.1 (aD _ _),BxSo.new rfl _ _ _ _ _ _ _,bY _ _ _ _ HK5.out.2.1 (aD _ _)⟩;obtain ⟨_,_,⟨g0,_⟩⟩:=HS0.out
       go_wp2_with fail
       clear g0 z0' z1' z2' z3' k1
       go_loopw [49] (fun vi wr=>∃ k:Nat,k≤lg∧vi= .int .i64 k∧(Below w.heap.size w wr∧BxSo wr w5.heap.size (.slice ad lg cap) (.pointer (some ⟨C,0,none⟩)) (.slice x1 l1 z1) (.slice x2 l2 z2) (.slice x3 l3 z3) (.slice x4 l4 z4) (.bool dv))∧∀ j,j<k→FA j=true) (fun vi _=>lg - (intOf vi).toNat)
       case atStart=>exact ⟨0,Nat.zero_le _,rfl,⟨HS0.out.1,HS0.out.2.1⟩,fun j h=>by omega⟩
       case round=>
        clear HS0;obtain ⟨k,hk,rfl,hb,hall⟩:=hrel;have HB:=aA hb;have HALL:=aA hall;clear hall
        by_cases hlt:k<lg
        · have hki:(k:Int)<(lg:Int):=by omega
          obtain ⟨_,⟨k0,k1,k2,k3,k4,k5,k6⟩,k7⟩:=hb;have HFK:=aA (HFT2.out wr k hlt HB.out.1)
          have HST:Hid (FA k=true→∀ j,j<k+1→FA j=true):=fun h j hj=>by
           rcases Nat.lt_or_ge j k with hjk|hjk
           · exact HALL.out j hjk
           · obtain rfl:j=k:=by omega
             exact h
          have HNO:Hid (FA k=false→(List.range lg).all FA=false):=fun h=>Bool.eq_false_iff.2 fun q=>by rw [List.all_eq_true.1 q k (List.mem_range.2 hlt)] at h;cases h
          cases hq:FA k with
          |true=>
           have HR:=aA (HST.out hq);rw [hq] at HFK;clear HST HNO hq HALL
           go_wp2_with (go_at_call 62;refine HFK.out.mono ?_;rintro e w6 ⟨rfl,ok⟩;have HB6:Hid (Below w.heap.size w w6∧BxSo w6 w5.heap.size (.slice ad lg cap) (.pointer (some ⟨C,0,none⟩)) (.slice x1 l1 z1) (.slice x2 l2 z2) (.slice x3 l3 z3) (.slice x4 l4 z4) (.bool dv)):=⟨aB HB.out.1 ok,bL _ _ _ _ _ _ _ _ _ _ HB.out.2 ok⟩;clear ok)
           exact ⟨⟨k+1,by omega,by go_num,HB6.out,HR.out⟩,by simp [intOf];omega⟩
          |false=>
           have HR:=aA (HNO.out hq);rw [hq] at HFK;clear HST HNO hq HALL
           go_wp2_with (go_at_call 62;refine HFK.out.mono ?_;rintro e w6 ⟨rfl,ok⟩;have HB6:Hid (Below w.heap.size w w6):=aB HB.out.1 ok;clear ok)
           go_ret;exact ⟨Sc.bE (by rw [HCE.out,HF0.out,HR.out];rfl),HB6.out⟩
        · obtain rfl:k=lg:=by omega
          have hki:¬ ((k:Int)<(k:Int)):=by omega
          have HR:Hid ((List.range k).all FA=true):=List.all_eq_true.2 fun j hj=>HALL.out j (List.mem_range.1 hj)
          clear hb HALL
          go_wp2
          go_ret;exact ⟨Sc.bE (by rw [HCE.out,HF0.out,HR.out];rfl),HB.out.1⟩
end Go.Proofs.YtpfemjlhklnfoaaGreatDoor
