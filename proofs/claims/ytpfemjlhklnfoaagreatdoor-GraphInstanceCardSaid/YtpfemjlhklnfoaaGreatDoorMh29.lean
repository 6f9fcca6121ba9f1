/- Gt8: their declarations that are needed, laid in one text, remarks and blanks left out. -/
import Derived.Test.YtpfemjlhklnfoaaGreatDoorMh27
import Derived.Test.YtpfemjlhklnfoaaGreatDoorMh28
namespace Go.Proofs.YtpfemjlhklnfoaaGreatDoor
open Go.Shelf Go.RowKit Go.Maps Go.WideMaps
set_option maxRecDepth 100000
noncomputable def DO (n:Nd) (E:List (Dp×Int)):Bool:= !(n.ed.any fun e=>clB (e.lb ∉ E.map (·.1.nm)∧e.lb ∉ n.cx.map (·.nm)))
def rA (l:List Pn) (O:List Dp) (E:List (Dp×Int)):Bool:=E.all fun e=>match iU l e.1.nm with
 |none=> !(decide (e.2=1))
 |some q=>inL (bV O e.1) q.a q.b q.c
theorem xX {O:List Dp} {E:List (Dp×Int)} {w:World} {B:Nat} {v:Value} {Y:List Wt} (h:dO O E w B v Y) (s:ByteArray):s ∈ Y.map (·.nm)↔s ∈ E.map (·.1.nm):=by
 obtain ⟨_,_,hp,hx⟩:=h
 constructor
 · intro hs
   obtain ⟨x,hx1,rfl⟩:=List.mem_map.1 hs;obtain ⟨e,he,h1,_⟩:=hx x hx1;exact List.mem_map.2 ⟨e,List.mem_of_getElem? he,h1.symm⟩
 · intro hs
   obtain ⟨e,he,rfl⟩:=List.mem_map.1 hs;obtain ⟨i,hi,rfl⟩:=List.getElem_of_mem he;obtain ⟨x,hx1,hx2⟩:=List.mem_map.1 (hp.mem_iff.2 (List.mem_range.2 hi));obtain ⟨e,he,h1,_⟩:=hx x hx1;rw [hx2,List.getElem?_eq_getElem hi] at he;cases he;exact List.mem_map.2 ⟨x,hx1,h1⟩
theorem IE {O:List Dp} {E:List (Dp×Int)} {w:World} {B:Nat} {v:Value} {Y:List Wt} (h:dO O E w B v Y) (n:Nd):LD n (Y.map (·.nm))=DO n E:=by
 unfold LD DO
 congr 2
 funext e
 rw [Bool.eq_iff_iff,decide_eq_true_eq,mP,qS,List.mem_append,not_or,xX h]
theorem IF {O:List Dp} {E:List (Dp×Int)} {w:World} {B:Nat} {v:Value} {Y:List Wt} (h:dO O E w B v Y) (l:List Pn):vJ l (kN O E Y)=rA l O E:=by
 obtain ⟨_,_,hp,hx⟩:=h;unfold vJ rA;rw [Bool.eq_iff_iff,List.all_eq_true,List.all_eq_true]
 constructor
 · intro hs e he
   obtain ⟨i,hi,rfl⟩:=List.getElem_of_mem he;obtain ⟨x,hx1,hx2⟩:=List.mem_map.1 (hp.mem_iff.2 (List.mem_range.2 hi));have q:=hs (x,rgT O E x.tg) (List.mem_map.2 ⟨x,hx1,rfl⟩);obtain ⟨e,he,h1,h2⟩:=hx x hx1;unfold hJ rgT at q;rw [he] at q;simp only [h1,h2] at q;rw [hx2,List.getElem?_eq_getElem hi] at he;cases he;exact q
 · intro hs p hp1
   obtain ⟨x,hx1,rfl⟩:=List.mem_map.1 hp1;obtain ⟨e,he,h1,h2⟩:=hx x hx1;have q:=hs e (List.mem_of_getElem? he);unfold hJ rgT;rw [he];simp only [h1,h2];exact q
theorem vQ {O:List Dp} {E:List (Dp×Int)} {w:World} {B:Nat} {v:Value} {Y:List Wt} (h:dO O E w B v Y):Y.length=E.length:=by
 have e:=h.2.2.1.length_eq;rw [List.length_map,List.length_range] at e;exact e
theorem xY {L:List CV} {P:Mn} {dv:Bool} {k:Nat} {n:Nd} {w:World} {B C Q:Nat} (hc:CatAt w B C Q L) (hP:aO P=true):(gM L P dv k n).length≤10000000∧∀ e ∈ gM L P dv k n,e.1.nm.size≤1000000:=by
 obtain ⟨s1,s2,s3,s4⟩:=oQ hP
 have two:∀ d o:List Dp,SmD d→SmD o→(ofE d o).length≤10000000∧∀ e ∈ ofE d o,e.1.nm.size≤1000000:=fun d o h1 h2=>by
  unfold ofE;refine ⟨by rw [List.length_append,List.length_map,List.length_map];have:=h1.1;have:=h2.1;omega,fun e he=> ?_⟩
  rcases List.mem_append.1 he with h|h
  · obtain ⟨x,hx,rfl⟩:=List.mem_map.1 h
    exact (h1.2 x hx).1
  · obtain ⟨x,hx,rfl⟩:=List.mem_map.1 h
    exact (h2.2 x hx).1
 unfold gM
 split
 · have sd:SmD (if dv=true then P.v else []):=by
    split
    · exact s2
    · exact oS
   unfold iT;refine ⟨by rw [List.length_append,List.length_append,List.length_map,List.length_map,List.length_map];have:=s1.1;have:=sd.1;have:=s3.1;omega,fun e he=> ?_⟩
   rcases List.mem_append.1 he with h|h
   · rcases List.mem_append.1 h with h|h
     · obtain ⟨x,hx,rfl⟩:=List.mem_map.1 h
       exact (s1.2 x hx).1
     · obtain ⟨x,hx,rfl⟩:=List.mem_map.1 h
       exact (sd.2 x hx).1
   · obtain ⟨x,hx,rfl⟩:=List.mem_map.1 h
     exact (s3.2 x hx).1
 · cases hx:bJ L n.nm n.a n.b n.c with
   |none=>exact two [] [] oS oS
   |some x=>
    have h:=(hc.find hx).2.2.2.2.2.2.2;exact two _ _ h.2.1 h.2.2.2
theorem IG {w:World} {B N:Nat} {v:Value} {l:List Pn} (h:OwnPn w B v l) (hN:N<B) (n:Nd) (vc ve:Value):OwnPn (set6 w N n vc ve) B v l:=by
 refine ⟨h.1,h.2.imp id ?_⟩;rintro ⟨g,cap,cur,rfl,hB,hgg,r⟩
 have q:∀ (W:World) (i:Nat) (u:Value),(W.setCell ⟨N,i,none⟩ u).heap[g]? =W.heap[g]? :=fun W i u=>by
  have hne:g≠N:=by omega
  exact Below.heap_setCell _ _ _ _ hne
 refine ⟨g,cap,cur,rfl,hB,?_,r⟩;unfold set6;rw [q,q,q,q,q,q];exact hgg
theorem BxSo.set6 {w:World} {N M:Nat} {v0 v1 v2 v3 v4 v5 v6:Value} (hb:BxSo w M v0 v1 v2 v3 v4 v5 v6) (h:N≠M) (n:Nd) (vc ve:Value):BxSo (set6 w N n vc ve) M v0 v1 v2 v3 v4 v5 v6:=by
 obtain ⟨⟨h0,h1,h2,h3,h4,h5,h6⟩,hg⟩:=hb;refine ⟨⟨?_,?_,?_,?_,?_,?_,?_⟩,?_⟩
 case refine_8=>unfold Go.Proofs.YtpfemjlhklnfoaaGreatDoor.set6;simp;exact hg
 all_goals rw [vO h]
 all_goals assumption
noncomputable def rB (L:List CV) (P:Mn) (dv:Bool) (G:List Nd) (k:Nat) (n:Nd):Bool:=jK L k n&&(DO n (gM L P dv k n)&&(rA (cG G n.ed) P.p (gM L P dv k n)&&(vI n.cx (cG G n.ed)&&pL L P.p (n.cx++cG G n.ed) G n.ed)))
set_option maxHeartbeats 25600000 in
theorem IH {G:List Nd} {P:Mn} {ad x1 x2 x3 x4:Option Addr} {cap z1 z2 z3 z4 C B Q:Nat} {dv:Bool} {k:Nat} {L:List CV} {w:World} (hG:NodesAt w (.slice ad G.length cap) G) (hk:k<G.length) (hin:InG G)
 (hc:CatAt w B C Q L) (hL:L.length≤128) (hM:MnAt w P (.slice x1 P.d.length z1) (.slice x2 P.v.length z2) (.slice x3 P.o.length z3) (.slice x4 P.p.length z4)) (hP:aO P=true)
 (hkn:∀ n ∈ G,bQ n.nm n.a n.b n.c) (hkc:∀ n ∈ G,∀ q ∈ n.cx,bQ q.nm q.a q.b q.c) (hke:∀ n ∈ G,∀ e ∈ n.ed,e.lb.size≤maxLen) (hz:∀ n ∈ G,n.cx.length≤1000000∧n.ed.length≤1000000):
 Calls Tryz.prog 62 #[.agg #[.slice ad G.length cap,.pointer (some ⟨C,0,none⟩),.slice x1 P.d.length z1,.slice x2 P.v.length z2,.slice x3 P.o.length z3,.slice x4 P.p.length z4,.bool dv],.int .i64 k] w fun e w'=>e= .returned (.bool (rB L P dv G k G[k]))∧Below w.heap.size w w':=by
 obtain ⟨sz1,sz2⟩:=xY (dv:=dv) (k:=k) (n:=G[k]) hc hP;obtain ⟨s1,s2,s3,s4⟩:=oQ hP;have hO1:P.p.length≤9223372036854775807:=Nat.le_trans s4.1 (by decide);have hO2:∀ d ∈ P.p,d.nm.size≤9223372036854775807:=fun d hd=>Nat.le_trans (s4.2 d hd).1 (by decide)
 obtain ⟨hz1,hz2⟩:=hz _ (List.getElem_mem hk)
 have hkl:∀ q ∈ cG G G[k].ed,bQ q.nm q.a q.b q.c:=fun q hq=>by
  obtain ⟨e,he,rfl⟩:=List.mem_map.1 hq;obtain ⟨h0,h1⟩:=hin _ (List.getElem_mem hk) e he;have ht:e.to.toNat<G.length:=by omega
  rw [oJ (t:=e.to.toNat) (by omega) ht];exact ⟨hke _ (List.getElem_mem hk) e he,(hkn _ (List.getElem_mem ht)).2⟩
 have hW:=aA (qZ (dv:=dv) hG hk hc hM hP (hkn _ (List.getElem_mem hk)));have HWB:Hid (∀ W,Below w.heap.size w W→Calls Tryz.prog 112 #[.agg #[.slice ad G.length cap,.pointer (some ⟨C,0,none⟩),.slice x1 P.d.length z1,.slice x2 P.v.length z2,.slice x3 P.o.length z3,.slice x4 P.p.length z4,.bool dv],.int .i64 k] W fun e w'=>∃ v,e= .returned (.tuple #[v,.bool (jK L k G[k])])∧(∃ Y,dO P.p (gM L P dv k G[k]) w' W.heap.size v Y)∧Below W.heap.size W w'):=fun W h=>qZ (hG.below h) hk (hc.below h) ⟨hM.1.below h,hM.2.1.below h,hM.2.2.1.below h,hM.2.2.2.below h⟩ hP (hkn _ (List.getElem_mem hk))
 have HLD:Hid (∀ W,Below w.heap.size w W→Calls Tryz.prog 113 #[.agg #[.slice ad G.length cap,.pointer (some ⟨C,0,none⟩),.slice x1 P.d.length z1,.slice x2 P.v.length z2,.slice x3 P.o.length z3,.slice x4 P.p.length z4,.bool dv],.int .i64 k] W fun e w'=>∃ v,e= .returned v∧OwnPn w' W.heap.size v (cG G G[k].ed)∧Below W.heap.size W w'):=fun W h=>LA (hG.below h) hk hin hz2
 have HCH:Hid (∀ W vl,Below w.heap.size w W→PinsAt W vl (cG G G[k].ed)→Calls Tryz.prog 117 #[.agg #[.slice ad G.length cap,.pointer (some ⟨C,0,none⟩),.slice x1 P.d.length z1,.slice x2 P.v.length z2,.slice x3 P.o.length z3,.slice x4 P.p.length z4,.bool dv],.int .i64 k,vl] W fun e w'=>e= .returned (.bool (pL L P.p (G[k].cx++cG G G[k].ed) G G[k].ed))∧Below W.heap.size W w'):=fun W vl h hl=>lS (hG.below h) hk hin (hc.below h) hL (hM.2.2.2.below h) hO1 hO2 hl hz1 hz2 (hkc _ (List.getElem_mem hk)) hkl (fun n hn=>by have:=(hz n hn).1;omega)
 clear hW;obtain ⟨ad',cap',e,_,hcs⟩:=hG;cases e
 obtain ⟨g,o,rfl,hg,hcz⟩:∃ g o,ad=some ⟨g,o,none⟩∧g<w.heap.size∧∀ i (h:i<G.length),∃ vc ve,NdIn w g (o+i*6) G[i] vc ve:=by
  rcases hcs with h|h
  · rw [h] at hk;simp at hk
  · exact h
 clear hcs;obtain ⟨vc,ve,hx⟩:=hcz k hk;clear hcz;obtain ⟨ac,cc,rfl⟩:=hx.2.1.1.sl;obtain ⟨ae,ce,rfl⟩:=hx.2.1.2.sl;have HX:Hid (∀ W,Below w.heap.size w W→NdIn W g (o+k*6) G[k] (.slice ac G[k].cx.length cc) (.slice ae G[k].ed.length ce)):=fun W h=>hx.below h
 have HAW:Hid (∀ W v Y l,Below w.heap.size w W→WtsAt W v Y→dO P.p (gM L P dv k G[k]) l w.heap.size v Y→Calls Tryz.prog 114 #[.agg #[.string G[k].nm,.int .i64 G[k].a,.int .i64 G[k].b,.int .i64 G[k].c,.slice ac G[k].cx.length cc,.slice ae G[k].ed.length ce],v] W fun e w'=>e= .returned (.bool (DO G[k] (gM L P dv k G[k])))∧Below W.heap.size W w'):=fun W v Y l h hw ht=>by
  rw [←IE ht];refine pK (hx.2.1.1.below h) (hx.2.1.2.below h) hw (by omega) (by omega) (by rw [vQ ht];omega) (fun q hq=>(hkc _ (List.getElem_mem hk) q hq).1) (fun e he=>hke _ (List.getElem_mem hk) e he) fun y hy=> ?_
  obtain ⟨e,he,h1,_⟩:=ht.2.2.2 y hy;rw [h1];exact Nat.le_trans (sz2 e (List.mem_of_getElem? he)) (by decide)
 have HOW:Hid (∀ W v vl Y,dO P.p (gM L P dv k G[k]) W w.heap.size v Y→PinsAt W vl (cG G G[k].ed)→Calls Tryz.prog 115 #[v,vl] W fun e w'=>e= .returned (.bool (rA (cG G G[k].ed) P.p (gM L P dv k G[k])))∧Below W.heap.size W w'):=fun W v vl Y ht hl=>by
  rw [←IF ht];refine xV hl ht.1 (by rw [kO];omega) (by unfold kN;rw [List.length_map,vQ ht];omega) (fun q hq=>(hkl q hq).1) fun p hp=> ?_
  obtain ⟨x,hx1,rfl⟩:=List.mem_map.1 hp;obtain ⟨e,he,h1,_⟩:=ht.2.2.2 x hx1
  simp only
  rw [h1];exact Nat.le_trans (sz2 e (List.mem_of_getElem? he)) (by decide)
 have HCX:Hid (∀ W vl,Below w.heap.size w W→PinsAt W vl (cG G G[k].ed)→Calls Tryz.prog 116 #[.agg #[.string G[k].nm,.int .i64 G[k].a,.int .i64 G[k].b,.int .i64 G[k].c,.slice ac G[k].cx.length cc,.slice ae G[k].ed.length ce],vl] W fun e w'=>e= .returned (.bool (vI G[k].cx (cG G G[k].ed)))∧Below W.heap.size W w'):=fun W vl h hl=>oK (hx.2.1.1.below h) hl (by omega) (by rw [kO];omega)
 have HFB:Hid (rB L P dv G k G[k]=(jK L k G[k]&&(DO G[k] (gM L P dv k G[k])&&(rA (cG G G[k].ed) P.p (gM L P dv k G[k])&&(vI G[k].cx (cG G G[k].ed)&&pL L P.p (G[k].cx++cG G G[k].ed) G G[k].ed))))):=rfl;have hcl:=kO G G[k].ed;have hki:(k:Int)<(G.length:Int):=by omega
 clear hx hin hc hL hM hP hkn hkc hke hz hkl sz1 sz2 s1 s2 s3 s4 hO1 hO2 hz1 hz2;generalize rB L P dv G k G[k]=bb at*;generalize jK L k G[k]=b0 at*;generalize DO G[k] (gM L P dv k G[k])=b1 at*;generalize rA (cG G G[k].ed) P.p (gM L P dv k G[k])=b2 at*;generalize vI G[k].cx (cG G G[k].ed)=b3 at*;generalize pL L P.p (G[k].cx++cG G G[k].ed) G G[k].ed=b4 at*;generalize gM L P dv k G[k]=E at*;generalize cG G G[k].ed=l at*;obtain ⟨n,hn⟩:∃ n,n=G[k]:=⟨_,rfl⟩;rw [←hn] at HX HAW HCX hcl;clear hn;generalize n.cx.length=lc at*;generalize n.ed.length=le at*;generalize P.d.length=l1 at*;generalize P.v.length=l2 at*;generalize P.o.length=l3 at*;generalize P.p.length=l4 at*
 have HB0:Hid (Below w.heap.size w (w.alloc (.cells #[.slice (some ⟨g,o,none⟩) G.length cap,.pointer (some ⟨C,0,none⟩),.slice x1 l1 z1,.slice x2 l2 z2,.slice x3 l3 z3,.slice x4 l4 z4,.bool dv] 109))∧BxSo (w.alloc (.cells #[.slice (some ⟨g,o,none⟩) G.length cap,.pointer (some ⟨C,0,none⟩),.slice x1 l1 z1,.slice x2 l2 z2,.slice x3 l3 z3,.slice x4 l4 z4,.bool dv] 109)) w.heap.size (.slice (some ⟨g,o,none⟩) G.length cap) (.pointer (some ⟨C,0,none⟩)) (.slice x1 l1 z1) (.slice x2 l2 z2) (.slice x3 l3 z3) (.slice x4 l4 z4) (.bool dv)):=⟨aD _ _,BxSo.new rfl _ _ _ _ _ _ _⟩;obtain ⟨_,⟨u0,u1,u2,u3,u4,u5,u6⟩,u7⟩:=HB0.out
 go_enter Tryz.func62,Tryz.ntmps62
 go_wp2_with (go_at_call 112;refine (HWB.out _ HB0.out.1).mono ?_;rintro e w1 ⟨vW,rfl,⟨Y,hY⟩,ok⟩;have HB1:Hid (Below w.heap.size w w1∧BxSo w1 w.heap.size (.slice (some ⟨g,o,none⟩) G.length cap) (.pointer (some ⟨C,0,none⟩)) (.slice x1 l1 z1) (.slice x2 l2 z2) (.slice x3 l3 z3) (.slice x4 l4 z4) (.bool dv)):=⟨aB HB0.out.1 ok,bL _ _ _ _ _ _ _ _ _ _ HB0.out.2 ok⟩;have HY:Hid (dO P.p E w1 w.heap.size vW Y):=⟨hY.1.base HB0.out.1.size,hY.2⟩;obtain ⟨aW,cW,hvW⟩:=hY.1.len;obtain ⟨lW,hlW⟩:∃ n,n=(kN P.p E Y).length:=⟨_,rfl⟩;rw [←hlW] at hvW;subst hvW;clear ok hY hlW)
 clear u0 u1 u2 u3 u4 u5 u6 u7 HB0 HWB;obtain ⟨⟨x0,x1',x2',x3',x4',x5'⟩,_,x6'⟩:=HX.out w1 HB1.out.1;obtain ⟨_,⟨k0,k1,k2,k3,k4,k5,k6⟩,k7⟩:=HB1.out;have HYW:Hid (∀ W,Below w1.heap.size w1 W→dO P.p E W w.heap.size (.slice aW lW cW) Y):=fun W h=>⟨HY.out.1.below h,HY.out.2⟩
 have HYS:Hid (∀ W,Below w1.heap.size w1 W→WtsAt W (.slice aW lW cW) Y):=fun W h=>zZ (HY.out.1.below h) (qR _ _ _)
 have HZ:Hid ((Below w.heap.size w (w1.alloc (.cells #[.string ⟨#[]⟩,.int .i64 0,.int .i64 0,.int .i64 0,.slice none 0 0,.slice none 0 0] 67)).drew∧BxSo (w1.alloc (.cells #[.string ⟨#[]⟩,.int .i64 0,.int .i64 0,.int .i64 0,.slice none 0 0,.slice none 0 0] 67)).drew w.heap.size (.slice (some ⟨g,o,none⟩) G.length cap) (.pointer (some ⟨C,0,none⟩)) (.slice x1 l1 z1) (.slice x2 l2 z2) (.slice x3 l3 z3) (.slice x4 l4 z4) (.bool dv)∧Below w1.heap.size w1 (w1.alloc (.cells #[.string ⟨#[]⟩,.int .i64 0,.int .i64 0,.int .i64 0,.slice none 0 0,.slice none 0 0] 67)).drew)∧BxNF (w1.alloc (.cells #[.string ⟨#[]⟩,.int .i64 0,.int .i64 0,.int .i64 0,.slice none 0 0,.slice none 0 0] 67)).drew w1.heap.size (ndB ⟨#[]⟩ 0 0 0) (.slice none 0 0) (.slice none 0 0)):=
  ⟨⟨(aB HB1.out.1 (aD _ _)).drew,KeepP.drew (bL _ _ _ _ _ _ _ _) (bL _ _ _ _ _ _ _ _ _ _ HB1.out.2 (aD _ _)),(aD _ _).drew⟩,KeepP.drew (kQ _ _ _ _) (BxNF.new rfl (ndB ⟨#[]⟩ 0 0 0) _ _)⟩
 have hw1:w.heap.size<w1.heap.size:=HB1.out.2.2;have hne1:w1.heap.size≠w.heap.size:=by omega
 have hne2:w1.heap.size≠g:=by omega
 have hzz:(w1.alloc (.cells #[.string ⟨#[]⟩,.int .i64 0,.int .i64 0,.int .i64 0,.slice none 0 0,.slice none 0 0] 67)).drew.heap.size=w1.heap.size+1:=by simp
 have HZS:=aA hzz;clear hzz
 go_region_held3 (fun w'=>w'.cell? ⟨w.heap.size,0,none⟩=some (.slice (some ⟨g,o,none⟩) G.length cap)∧w'.cell? ⟨w.heap.size,1,none⟩=some (.pointer (some ⟨C,0,none⟩))∧w'.cell? ⟨w.heap.size,2,none⟩=some (.slice x1 l1 z1)∧w'.cell? ⟨w.heap.size,3,none⟩=some (.slice x2 l2 z2)∧w'.cell? ⟨w.heap.size,4,none⟩=some (.slice x3 l3 z3)∧w'.cell? ⟨w.heap.size,5,none⟩=some (.slice x4 l4 z4)∧w'.cell? ⟨w.heap.size,6,none⟩=some (.bool dv)∧w'.cell? ⟨g,o+k*6,none⟩=some (.string n.nm)∧w'.cell? ⟨g,o+k*6+1,none⟩=some (.int .i64 n.a)∧w'.cell? ⟨g,o+k*6+2,none⟩=some (.int .i64 n.b)∧w'.cell? ⟨g,o+k*6+3,none⟩=some (.int .i64 n.c)∧w'.cell? ⟨g,o+k*6+4,none⟩=some (.slice ac lc cc)∧w'.cell? ⟨g,o+k*6+5,none⟩=some (.slice ae le ce)) (go_keep)
  (first
    |(go_at_call 113;refine (HLD.out w1.drew HB1.out.1.drew).mono ?_;rintro e w2 ⟨vl,rfl,hol,ok⟩;obtain ⟨al,cl,hvl⟩:=hol.lenT;rw [hcl] at hvl;subst hvl;have HB2:Hid ((Below w.heap.size w w2∧BxSo w2 w.heap.size (.slice (some ⟨g,o,none⟩) G.length cap) (.pointer (some ⟨C,0,none⟩)) (.slice x1 l1 z1) (.slice x2 l2 z2) (.slice x3 l3 z3) (.slice x4 l4 z4) (.bool dv)∧Below w1.heap.size w1 w2)∧OwnPn w2 w1.heap.size (.slice al le cl) l):=⟨⟨aB HB1.out.1.drew ok,bL _ _ _ _ _ _ _ _ _ _ (KeepP.drew (bL _ _ _ _ _ _ _ _) HB1.out.2) ok,aB (Below.refl _ _).drew ok⟩,hol⟩;have HX2:=aA (HX.out w2 HB2.out.1.1);obtain ⟨⟨x0,x1',x2',x3',x4',x5'⟩,_,x6'⟩:=HX2.out;obtain ⟨⟨_,⟨⟨k0,k1,k2,k3,k4,k5,k6⟩,k7⟩,_⟩,_⟩:=HB2.out;have hne3:w2.heap.size≠w.heap.size:=(by omega);have hne4:w2.heap.size≠g:=(by omega);clear ok hol)
    |(go_at_call 113;refine (HLD.out _ HZ.out.1.1).mono ?_;rintro e w2 ⟨vl,rfl,hol,ok⟩;obtain ⟨al,cl,hvl⟩:=hol.lenT;rw [hcl] at hvl;subst hvl;rw [HZS.out] at hol;have HBZ:Hid (((Below w.heap.size w w2∧BxSo w2 w.heap.size (.slice (some ⟨g,o,none⟩) G.length cap) (.pointer (some ⟨C,0,none⟩)) (.slice x1 l1 z1) (.slice x2 l2 z2) (.slice x3 l3 z3) (.slice x4 l4 z4) (.bool dv)∧Below w1.heap.size w1 w2)∧OwnPn w2 (w1.heap.size+1) (.slice al le cl) l)∧BxNF w2 w1.heap.size (ndB ⟨#[]⟩ 0 0 0) (.slice none 0 0) (.slice none 0 0)):=⟨⟨⟨aB HZ.out.1.1 ok,bL _ _ _ _ _ _ _ _ _ _ HZ.out.1.2.1 ok,aB HZ.out.1.2.2 ok⟩,hol⟩,kQ _ _ _ _ _ _ HZ.out.2 ok⟩;have HX2:=aA (HX.out w2 HBZ.out.1.1.1);obtain ⟨⟨x0,x1',x2',x3',x4',x5'⟩,_,x6'⟩:=HX2.out;obtain ⟨⟨⟨_,⟨⟨k0,k1,k2,k3,k4,k5,k6⟩,k7⟩,_⟩,_⟩,⟨⟨j0,j1,j2,j3,j4,j5⟩,j6⟩,jf⟩:=HBZ.out;dsimp only [ndB] at j0 j1 j2 j3;have f0:=jf 0 (by decide);have f1:=jf 1 (by decide);have f2:=jf 2 (by decide);have f3:=jf 3 (by decide);have f4:=jf 4 (by decide);have f5:=jf 5 (by decide);clear jf ok hol))
 · have HK3:Hid ((Below w.heap.size w (w2.alloc (.cells #[.string n.nm,.int .i64 n.a,.int .i64 n.b,.int .i64 n.c,.slice ac lc cc,.slice ae le ce] 67))∧BxSo (w2.alloc (.cells #[.string n.nm,.int .i64 n.a,.int .i64 n.b,.int .i64 n.c,.slice ac lc cc,.slice ae le ce] 67)) w.heap.size (.slice (some ⟨g,o,none⟩) G.length cap) (.pointer (some ⟨C,0,none⟩)) (.slice x1 l1 z1) (.slice x2 l2 z2) (.slice x3 l3 z3) (.slice x4 l4 z4) (.bool dv)∧Below w1.heap.size w1 (w2.alloc (.cells #[.string n.nm,.int .i64 n.a,.int .i64 n.b,.int .i64 n.c,.slice ac lc cc,.slice ae le ce] 67)))∧BxNd (w2.alloc (.cells #[.string n.nm,.int .i64 n.a,.int .i64 n.b,.int .i64 n.c,.slice ac lc cc,.slice ae le ce] 67)) w2.heap.size n (.slice ac lc cc) (.slice ae le ce)∧PinsAt (w2.alloc (.cells #[.string n.nm,.int .i64 n.a,.int .i64 n.b,.int .i64 n.c,.slice ac lc cc,.slice ae le ce] 67)) (.slice al le cl) l):=⟨⟨aB HB2.out.1.1 (aD _ _),bL _ _ _ _ _ _ _ _ _ _ HB2.out.1.2.1 (aD _ _),aB HB2.out.1.2.2 (aD _ _)⟩,BxNd.new rfl n _ _,(kP HB2.out.2).below (aD _ _)⟩
   generalize (w2.alloc (.cells #[.string n.nm,.int .i64 n.a,.int .i64 n.b,.int .i64 n.c,.slice ac lc cc,.slice ae le ce] 67))=W3 at*;generalize w2.heap.size=N at*;clear x0 x1' x2' x3' x4' x5' x6' k0 k1 k2 k3 k4 k5 k6 k7 hne1 hne2 hne3 hne4 HX2 HB2;have HKK:Hid (KeepP fun W=>((Below w.heap.size w W∧BxSo W w.heap.size (.slice (some ⟨g,o,none⟩) G.length cap) (.pointer (some ⟨C,0,none⟩)) (.slice x1 l1 z1) (.slice x2 l2 z2) (.slice x3 l3 z3) (.slice x4 l4 z4) (.bool dv)∧Below w1.heap.size w1 W)∧BxNd W N n (.slice ac lc cc) (.slice ae le ce)∧PinsAt W (.slice al le cl) l)):=((aG w).and ((bL _ _ _ _ _ _ _ _).and (aG w1))).and ((aZ _ _ _ _).and fun _ _ h hb=>h.below hb);obtain ⟨_,⟨⟨y0,y1,y2,y3,y4,y5⟩,y6⟩,_⟩:=HK3.out;cases b0 with
   |false=>
    go_wp2
    go_ret;exact ⟨aC (by rw [HFB.out];rfl),HK3.out.1.1⟩
   |true=>
    cases b1 with
    |false=>
     go_wp2_with (first|(go_at_call 114;refine (HAW.out _ _ Y w1 HK3.out.1.1 (HYS.out _ HK3.out.1.2.2) (HYW.out _ (Below.refl _ _))).mono ?_;rintro e w4 ⟨rfl,ok⟩;have HK4:=aA (HKK.out _ _ HK3.out ok);obtain ⟨_,⟨⟨y0,y1,y2,y3,y4,y5⟩,y6⟩,_⟩:=HK4.out;clear ok)|(go_at_call 115;refine (HOW.out _ _ _ Y (HYW.out _ HK4.out.1.2.2) HK4.out.2.2).mono ?_;rintro e w5 ⟨rfl,ok⟩;have HK5:=aA (HKK.out _ _ HK4.out ok);obtain ⟨_,⟨⟨y0,y1,y2,y3,y4,y5⟩,y6⟩,_⟩:=HK5.out;clear ok)|(go_at_call 116;refine (HCX.out _ _ HK5.out.1.1 HK5.out.2.2).mono ?_;rintro e w6 ⟨rfl,ok⟩;have HK6:=aA (HKK.out _ _ HK5.out ok);obtain ⟨⟨_,⟨⟨z0',z1',z2',z3',z4',z5',z6'⟩,z7'⟩,_⟩,_⟩:=HK6.out;clear ok)|(go_at_call 117;refine (HCH.out _ _ HK6.out.1.1 HK6.out.2.2).mono ?_;rintro e w7 ⟨rfl,ok⟩;have HK7:=aA (HKK.out _ _ HK6.out ok);clear ok))
     go_ret;exact ⟨aC (by rw [HFB.out];rfl),HK4.out.1.1⟩
    |true=>
     cases b2 with
     |false=>
      go_wp2_with (first|(go_at_call 114;refine (HAW.out _ _ Y w1 HK3.out.1.1 (HYS.out _ HK3.out.1.2.2) (HYW.out _ (Below.refl _ _))).mono ?_;rintro e w4 ⟨rfl,ok⟩;have HK4:=aA (HKK.out _ _ HK3.out ok);obtain ⟨_,⟨⟨y0,y1,y2,y3,y4,y5⟩,y6⟩,_⟩:=HK4.out;clear ok)|(go_at_call 115;refine (HOW.out _ _ _ Y (HYW.out _ HK4.out.1.2.2) HK4.out.2.2).mono ?_;rintro e w5 ⟨rfl,ok⟩;have HK5:=aA (HKK.out _ _ HK4.out ok);obtain ⟨_,⟨⟨y0,y1,y2,y3,y4,y5⟩,y6⟩,_⟩:=HK5.out;clear ok)|(go_at_call 116;refine (HCX.out _ _ HK5.out.1.1 HK5.out.2.2).mono ?_;rintro e w6 ⟨rfl,ok⟩;have HK6:=aA (HKK.out _ _ HK5.out ok);obtain ⟨⟨_,⟨⟨z0',z1',z2',z3',z4',z5',z6'⟩,z7'⟩,_⟩,_⟩:=HK6.out;clear ok)|(go_at_call 117;refine (HCH.out _ _ HK6.out.1.1 HK6.out.2.2).mono ?_;rintro e w7 ⟨rfl,ok⟩;have HK7:=aA (HKK.out _ _ HK6.out ok);clear ok))
      go_ret;exact ⟨aC (by rw [HFB.out];rfl),HK5.out.1.1⟩
     |true=>
      cases b3 with
      |false=>
       go_wp2_with (first|(go_at_call 114;refine (HAW.out _ _ Y w1 HK3.out.1.1 (HYS.out _ HK3.out.1.2.2) (HYW.out _ (Below.refl _ _))).mono ?_;rintro e w4 ⟨rfl,ok⟩;have HK4:=aA (HKK.out _ _ HK3.out ok);obtain ⟨_,⟨⟨y0,y1,y2,y3,y4,y5⟩,y6⟩,_⟩:=HK4.out;clear ok)|(go_at_call 115;refine (HOW.out _ _ _ Y (HYW.out _ HK4.out.1.2.2) HK4.out.2.2).mono ?_;rintro e w5 ⟨rfl,ok⟩;have HK5:=aA (HKK.out _ _ HK4.out ok);obtain ⟨_,⟨⟨y0,y1,y2,y3,y4,y5⟩,y6⟩,_⟩:=HK5.out;clear ok)|(go_at_call 116;refine (HCX.out _ _ HK5.out.1.1 HK5.out.2.2).mono ?_;rintro e w6 ⟨rfl,ok⟩;have HK6:=aA (HKK.out _ _ HK5.out ok);obtain ⟨⟨_,⟨⟨z0',z1',z2',z3',z4',z5',z6'⟩,z7'⟩,_⟩,_⟩:=HK6.out;clear ok)|(go_at_call 117;refine (HCH.out _ _ HK6.out.1.1 HK6.out.2.2).mono ?_;rintro e w7 ⟨rfl,ok⟩;have HK7:=aA (HKK.out _ _ HK6.out ok);clear ok))
       go_ret;exact ⟨aC (by rw [HFB.out];rfl),HK6.out.1.1⟩
      |true=>
       cases b4 with
       |false=>
        go_wp2_with (first|(go_at_call 114;refine (HAW.out _ _ Y w1 HK3.out.1.1 (HYS.out _ HK3.out.1.2.2) (HYW.out _ (Below.refl _ _))).mono ?_;rintro e w4 ⟨rfl,ok⟩;have HK4:=aA (HKK.out _ _ HK3.out ok);obtain ⟨_,⟨⟨y0,y1,y2,y3,y4,y5⟩,y6⟩,_⟩:=HK4.out;clear ok)|(go_at_call 115;refine (HOW.out _ _ _ Y (HYW.out _ HK4.out.1.2.2) HK4.out.2.2).mono ?_;rintro e w5 ⟨rfl,ok⟩;have HK5:=aA (HKK.out _ _ HK4.out ok);obtain ⟨_,⟨⟨y0,y1,y2,y3,y4,y5⟩,y6⟩,_⟩:=HK5.out;clear ok)|(go_at_call 116;refine (HCX.out _ _ HK5.out.1.1 HK5.out.2.2).mono ?_;rintro e w6 ⟨rfl,ok⟩;have HK6:=aA (HKK.out _ _ HK5.out ok);obtain ⟨⟨_,⟨⟨z0',z1',z2',z3',z4',z5',z6'⟩,z7'⟩,_⟩,_⟩:=HK6.out;clear ok)|(go_at_call 117;refine (HCH.out _ _ HK6.out.1.1 HK6.out.2.2).mono ?_;rintro e w7 ⟨rfl,ok⟩;have HK7:=aA (HKK.out _ _ HK6.out ok);clear ok))
        go_ret;exact ⟨aC (by rw [HFB.out];rfl),HK7.out.1.1⟩
       |true=>
        go_wp2_with (first|(go_at_call 114;refine (HAW.out _ _ Y w1 HK3.out.1.1 (HYS.out _ HK3.out.1.2.2) (HYW.out _ (Below.refl _ _))).mono ?_;rintro e w4 ⟨rfl,ok⟩;have HK4:=aA (HKK.out _ _ HK3.out ok);obtain ⟨_,⟨⟨y0,y1,y2,y3,y4,y5⟩,y6⟩,_⟩:=HK4.out;clear ok)|(go_at_call 115;refine (HOW.out _ _ _ Y (HYW.out _ HK4.out.1.2.2) HK4.out.2.2).mono ?_;rintro e w5 ⟨rfl,ok⟩;have HK5:=aA (HKK.out _ _ HK4.out ok);obtain ⟨_,⟨⟨y0,y1,y2,y3,y4,y5⟩,y6⟩,_⟩:=HK5.out;clear ok)|(go_at_call 116;refine (HCX.out _ _ HK5.out.1.1 HK5.out.2.2).mono ?_;rintro e w6 ⟨rfl,ok⟩;have HK6:=aA (HKK.out _ _ HK5.out ok);obtain ⟨⟨_,⟨⟨z0',z1',z2',z3',z4',z5',z6'⟩,z7'⟩,_⟩,_⟩:=HK6.out;clear ok)|(go_at_call 117;refine (HCH.out _ _ HK6.out.1.1 HK6.out.2.2).mono ?_;rintro e w7 ⟨rfl,ok⟩;have HK7:=aA (HKK.out _ _ HK6.out ok);clear ok))
        go_ret;exact ⟨aC (by rw [HFB.out];rfl),HK7.out.1.1⟩
 · have HK3:Hid ((Below w.heap.size w (set6 w2 w1.heap.size n (.slice ac lc cc) (.slice ae le ce))∧BxSo (set6 w2 w1.heap.size n (.slice ac lc cc) (.slice ae le ce)) w.heap.size (.slice (some ⟨g,o,none⟩) G.length cap) (.pointer (some ⟨C,0,none⟩)) (.slice x1 l1 z1) (.slice x2 l2 z2) (.slice x3 l3 z3) (.slice x4 l4 z4) (.bool dv)∧Below w1.heap.size w1 (set6 w2 w1.heap.size n (.slice ac lc cc) (.slice ae le ce)))∧BxNd (set6 w2 w1.heap.size n (.slice ac lc cc) (.slice ae le ce)) w1.heap.size n (.slice ac lc cc) (.slice ae le ce)∧PinsAt (set6 w2 w1.heap.size n (.slice ac lc cc) (.slice ae le ce)) (.slice al le cl) l):=
    ⟨⟨jL (by omega) HBZ.out.1.1.1,HBZ.out.1.1.2.1.set6 (by omega) _ _ _,jL (Nat.le_refl _) HBZ.out.1.1.2.2⟩,AC HBZ.out.2.1,kP (IG HBZ.out.1.2 (by omega) _ _ _)⟩
   unfold set6 at HK3;generalize ((((((w2.setCell ⟨w1.heap.size,0,none⟩ (.string n.nm)).setCell ⟨w1.heap.size,1,none⟩ (.int .i64 n.a)).setCell ⟨w1.heap.size,2,none⟩ (.int .i64 n.b)).setCell ⟨w1.heap.size,3,none⟩ (.int .i64 n.c)).setCell ⟨w1.heap.size,4,none⟩ (.slice ac lc cc)).setCell ⟨w1.heap.size,5,none⟩ (.slice ae le ce))=W3 at*;clear x0 x1' x2' x3' x4' x5' x6' k0 k1 k2 k3 k4 k5 k6 k7 hne1 hne2 HX2 j0 j1 j2 j3 j4 j5 j6 f0 f1 f2 f3 f4 f5 HBZ;have HKK:Hid (KeepP fun W=>((Below w.heap.size w W∧BxSo W w.heap.size (.slice (some ⟨g,o,none⟩) G.length cap) (.pointer (some ⟨C,0,none⟩)) (.slice x1 l1 z1) (.slice x2 l2 z2) (.slice x3 l3 z3) (.slice x4 l4 z4) (.bool dv)∧Below w1.heap.size w1 W)∧BxNd W w1.heap.size n (.slice ac lc cc) (.slice ae le ce)∧PinsAt W (.slice al le cl) l)):=((aG w).and ((bL _ _ _ _ _ _ _ _).and (aG w1))).and ((aZ _ _ _ _).and fun _ _ h hb=>h.below hb)
   obtain ⟨_,⟨⟨y0,y1,y2,y3,y4,y5⟩,y6⟩,_⟩:=HK3.out;cases b0 with
   |false=>
    go_wp2
    go_ret;exact ⟨aC (by rw [HFB.out];rfl),HK3.out.1.1⟩
   |true=>
    cases b1 with
    |false=>
     go_wp2_with (first|(go_at_call 114;refine (HAW.out _ _ Y w1 HK3.out.1.1 (HYS.out _ HK3.out.1.2.2) (HYW.out _ (Below.refl _ _))).mono ?_;rintro e w4 ⟨rfl,ok⟩;have HK4:=aA (HKK.out _ _ HK3.out ok);obtain ⟨_,⟨⟨y0,y1,y2,y3,y4,y5⟩,y6⟩,_⟩:=HK4.out;clear ok)|(go_at_call 115;refine (HOW.out _ _ _ Y (HYW.out _ HK4.out.1.2.2) HK4.out.2.2).mono ?_;rintro e w5 ⟨rfl,ok⟩;have HK5:=aA (HKK.out _ _ HK4.out ok);obtain ⟨_,⟨⟨y0,y1,y2,y3,y4,y5⟩,y6⟩,_⟩:=HK5.out;clear ok)|(go_at_call 116;refine (HCX.out _ _ HK5.out.1.1 HK5.out.2.2).mono ?_;rintro e w6 ⟨rfl,ok⟩;have HK6:=aA (HKK.out _ _ HK5.out ok);obtain ⟨⟨_,⟨⟨z0',z1',z2',z3',z4',z5',z6'⟩,z7'⟩,_⟩,_⟩:=HK6.out;clear ok)|(go_at_call 117;refine (HCH.out _ _ HK6.out.1.1 HK6.out.2.2).mono ?_;rintro e w7 ⟨rfl,ok⟩;have HK7:=aA (HKK.out _ _ HK6.out ok);clear ok))
     go_ret;exact ⟨aC (by rw [HFB.out];rfl),HK4.out.1.1⟩
    |true=>
     cases b2 with
     |false=>
      go_wp2_with (first|(go_at_call 114;refine (HAW.out _ _ Y w1 HK3.out.1.1 (HYS.out _ HK3.out.1.2.2) (HYW.out _ (Below.refl _ _))).mono ?_;rintro e w4 ⟨rfl,ok⟩;have HK4:=aA (HKK.out _ _ HK3.out ok);obtain ⟨_,⟨⟨y0,y1,y2,y3,y4,y5⟩,y6⟩,_⟩:=HK4.out;clear ok)|(go_at_call 115;refine (HOW.out _ _ _ Y (HYW.out _ HK4.out.1.2.2) HK4.out.2.2).mono ?_;rintro e w5 ⟨rfl,ok⟩;have HK5:=aA (HKK.out _ _ HK4.out ok);obtain ⟨_,⟨⟨y0,y1,y2,y3,y4,y5⟩,y6⟩,_⟩:=HK5.out;clear ok)|(go_at_call 116;refine (HCX.out _ _ HK5.out.1.1 HK5.out.2.2).mono ?_;rintro e w6 ⟨rfl,ok⟩;have HK6:=aA (HKK.out _ _ HK5.out ok);obtain ⟨⟨_,⟨⟨z0',z1',z2',z3',z4',z5',z6'⟩,z7'⟩,_⟩,_⟩:=HK6.out;clear ok)|(go_at_call 117;refine (HCH.out _ _ HK6.out.1.1 HK6.out.2.2).mono ?_;rintro e w7 ⟨rfl,ok⟩;have HK7:=aA (HKK.out _ _ HK6.out ok);clear ok))
      go_ret;exact ⟨aC (by rw [HFB.out];rfl),HK5.out.1.1⟩
     |true=>
      cases b3 with
      |false=>
       go_wp2_with (first|(go_at_call 114;refine (HAW.out _ _ Y w1 HK3.out.1.1 (HYS.out _ HK3.out.1.2.2) (HYW.out _ (Below.refl _ _))).mono ?_;rintro e w4 ⟨rfl,ok⟩;have HK4:=aA (HKK.out _ _ HK3.out ok);obtain ⟨_,⟨⟨y0,y1,y2,y3,y4,y5⟩,y6⟩,_⟩:=HK4.out;clear ok)|(go_at_call 115;refine (HOW.out _ _ _ Y (HYW.out _ HK4.out.1.2.2) HK4.out.2.2).mono ?_;rintro e w5 ⟨rfl,ok⟩;have HK5:=aA (HKK.out _ _ HK4.out ok);obtain ⟨_,⟨⟨y0,y1,y2,y3,y4,y5⟩,y6⟩,_⟩:=HK5.out;clear ok)|(go_at_call 116;refine (HCX.out _ _ HK5.out.1.1 HK5.out.2.2).mono ?_;rintro e w6 ⟨rfl,ok⟩;have HK6:=aA (HKK.out _ _ HK5.out ok);obtain ⟨⟨_,⟨⟨z0',z1',z2',z3',z4',z5',z6'⟩,z7'⟩,_⟩,_⟩:=HK6.out;clear ok)|(go_at_call 117;refine (HCH.out _ _ HK6.out.1.1 HK6.out.2.2).mono ?_;rintro e w7 ⟨rfl,ok⟩;have HK7:=aA (HKK.out _ _ HK6.out ok);clear ok))
       go_ret;exact ⟨aC (by rw [HFB.out];rfl),HK6.out.1.1⟩
      |true=>
       cases b4 with
       |false=>
        go_wp2_with (first|(go_at_call 114;refine (HAW.out _ _ Y w1 HK3.out.1.1 (HYS.out _ HK3.out.1.2.2) (HYW.out _ (Below.refl _ _))).mono ?_;rintro e w4 ⟨rfl,ok⟩;have HK4:=aA (HKK.out _ _ HK3.out ok);obtain ⟨_,⟨⟨y0,y1,y2,y3,y4,y5⟩,y6⟩,_⟩:=HK4.out;clear ok)|(go_at_call 115;refine (HOW.out _ _ _ Y (HYW.out _ HK4.out.1.2.2) HK4.out.2.2).mono ?_;rintro e w5 ⟨rfl,ok⟩;have HK5:=aA (HKK.out _ _ HK4.out ok);obtain ⟨_,⟨⟨y0,y1,y2,y3,y4,y5⟩,y6⟩,_⟩:=HK5.out;clear ok)|(go_at_call 116;refine (HCX.out _ _ HK5.out.1.1 HK5.out.2.2).mono ?_;rintro e w6 ⟨rfl,ok⟩;have HK6:=aA (HKK.out _ _ HK5.out ok);obtain ⟨⟨_,⟨⟨z0',z1',z2',z3',z4',z5',z6'⟩,z7'⟩,_⟩,_⟩:=HK6.out;clear ok)|(go_at_call 117;refine (HCH.out _ _ HK6.out.1.1 HK6.out.2.2).mono ?_;rintro e w7 ⟨rfl,ok⟩;have HK7:=aA (HKK.out _ _ HK6.out ok);clear ok))
        go_ret;exact ⟨aC (by rw [HFB.out];rfl),HK7.out.1.1⟩
       |true=>
        go_wp2_with (first|(go_at_call 114;refine (HAW.out _ _ Y w1 HK3.out.1.1 (HYS.out _ HK3.out.1.2.2) (HYW.out _ (Below.refl _ _))).mono ?_;rintro e w4 ⟨rfl,ok⟩;have HK4:=aA (HKK.out _ _ HK3.out ok);obtain ⟨_,⟨⟨y0,y1,y2,y3,y4,y5⟩,y6⟩,_⟩:=HK4.out;clear ok)|(go_at_call 115;refine (HOW.out _ _ _ Y (HYW.out _ HK4.out.1.2.2) HK4.out.2.2).mono ?_;rintro e w5 ⟨rfl,ok⟩;have HK5:=aA (HKK.out _ _ HK4.out ok);obtain ⟨_,⟨⟨y0,y1,y2,y3,y4,y5⟩,y6⟩,_⟩:=HK5.out;clear ok)|(go_at_call 116;refine (HCX.out _ _ HK5.out.1.1 HK5.out.2.2).mono ?_;rintro e w6 ⟨rfl,ok⟩;have HK6:=aA (HKK.out _ _ HK5.out ok);obtain ⟨⟨_,⟨⟨z0',z1',z2',z3',z4',z5',z6'⟩,z7'⟩,_⟩,_⟩:=HK6.out;clear ok)|(go_at_call 117;refine (HCH.out _ _ HK6.out.1.1 HK6.out.2.2).mono ?_;rintro e w7 ⟨rfl,ok⟩;have HK7:=aA (HKK.out _ _ HK6.out ok);clear ok))
        go_ret;exact ⟨aC (by rw [HFB.out];rfl),HK7.out.1.1⟩
end Go.Proofs.YtpfemjlhklnfoaaGreatDoor
