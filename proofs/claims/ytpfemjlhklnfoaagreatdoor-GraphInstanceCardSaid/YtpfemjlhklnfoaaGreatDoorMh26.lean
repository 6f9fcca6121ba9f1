/- Gt6, Mf1: their declarations that are needed, laid in one text, remarks and blanks left out. -/
import Derived.Test.YtpfemjlhklnfoaaGreatDoorMh25
namespace Go.Proofs.YtpfemjlhklnfoaaGreatDoor
open Go.Shelf Go.RowKit Go.Maps Go.WideMaps
set_option maxRecDepth 100000
noncomputable def clB (p:Prop):Bool:= @decide p (Classical.propDecidable p)
theorem mP {p:Prop}:clB p=true↔p:= @decide_eq_true_iff p (Classical.propDecidable p)
theorem IA {p:Prop} (h:¬ p):clB p=false:=Bool.eq_false_iff.2 fun q=>h (mP.1 q)
noncomputable def iV (L:List CV) (O:List Dp) (E:List Pn) (G:List Nd) (e:Eg):Bool:=clB (∃ out u,kE L O E (fI G e)=some out∧G[e.to.toNat]? =some u∧u.cx.Perm out∧u.cx.Pairwise fun p q=>ltP q p=false)
noncomputable def pL (L:List CV) (O:List Dp) (E:List Pn) (G:List Nd) (l:List Eg):Bool:=l.all (iV L O E G)
theorem IB {L:List CV} {O:List Dp} {E:List Pn} {G:List Nd} {e:Eg} (h:kE L O E (fI G e)=none):iV L O E G e=false:=by
 refine IA ?_;rintro ⟨out,u,h1,_⟩;rw [h] at h1;cases h1
theorem IC {L:List CV} {O:List Dp} {E:List Pn} {G:List Nd} {e:Eg} {out ts:List Pn} {u:Nd} (h:kE L O E (fI G e)=some out) (hu:G[e.to.toNat]? =some u) (hp:ts.Perm out) (hs:ts.Pairwise fun x y=>ltP y x=false) (hn:(out.map Pn.nm).Nodup):iV L O E G e=eqB ts u.cx:=by
 by_cases he:ts=u.cx
 · rw [cT he]
   exact mP.2 ⟨out,u,h,hu,he ▸ hp,he ▸ hs⟩
 · rw [gO he]
   refine IA ?_;rintro ⟨out',u',h1,h2,h3,h4⟩;rw [h] at h1;rw [hu] at h2;cases h1;cases h2;exact he (oM hp hs hn h3 h4)
theorem LE {L:List CV} {O:List Dp} {E:List Pn} {G:List Nd} {e:Eg}:iV L O E G e=true↔∃ out u,kE L O E (fI G e)=some out∧G[e.to.toNat]? =some u∧u.cx.Perm out∧u.cx.Pairwise fun p q=>ltP q p=false:=mP
theorem ID (w:World) (b:Obj) {N:Nat} {v0 v1:Value} (hN:w.heap.size=N) (hb:b= .cells #[v0,v1] 77):((w.alloc b).cell? ⟨N,0,none⟩=some v0∧(w.alloc b).cell? ⟨N,1,none⟩=some v1)∧N<(w.alloc b).heap.size:=by
 subst hN hb;refine ⟨⟨?_,?_⟩,?_⟩<;>simp
set_option maxHeartbeats 12800000 in
theorem lS {G:List Nd} {ad x1 x2 x3 x4:Option Addr} {cap y1 z1 y2 z2 y3 z3 y4 z4 C B Q:Nat} {dv:Bool} {k:Nat} {L:List CV} {O:List Dp} {vl:Value} {w:World} (hG:NodesAt w (.slice ad G.length cap) G) (hk:k<G.length) (hin:InG G)
 (hc:CatAt w B C Q L) (hL:L.length≤128) (ho:DepsAt w (.slice x4 y4 z4) O) (hol:O.length≤9223372036854775807) (hon:∀ d ∈ O,d.nm.size≤9223372036854775807) (hvl:PinsAt w vl (cG G G[k].ed))
 (hzc:G[k].cx.length≤1000000) (hze:G[k].ed.length≤1000000) (hkc:∀ q ∈ G[k].cx,bQ q.nm q.a q.b q.c) (hke:∀ q ∈ cG G G[k].ed,bQ q.nm q.a q.b q.c) (hzn:∀ n ∈ G,n.cx.length≤9223372036854775807):
 Calls Tryz.prog 117 #[.agg #[.slice ad G.length cap,.pointer (some ⟨C,0,none⟩),.slice x1 y1 z1,.slice x2 y2 z2,.slice x3 y3 z3,.slice x4 y4 z4,.bool dv],.int .i64 k,vl] w fun e w'=>e= .returned (.bool (pL L O (G[k].cx++cG G G[k].ed) G G[k].ed))∧Below w.heap.size w w':=by
 obtain ⟨ad',cap',e,_,hcs⟩:=hG;cases e
 obtain ⟨g,o,rfl,hg,hcz⟩:∃ g o,ad=some ⟨g,o,none⟩∧g<w.heap.size∧∀ i (h:i<G.length),∃ vc ve,NdIn w g (o+i*6) G[i] vc ve:=by
  rcases hcs with h|h
  · rw [h] at hk;simp at hk
  · exact h
 clear hcs;have HCZ:Hid (∀ W,Below w.heap.size w W→∀ i (h:i<G.length),∃ vc ve,NdIn W g (o+i*6) G[i] vc ve):=fun W hb i hi=>let ⟨a,b,h⟩:=hcz i hi;⟨a,b,h.below hb⟩
 have hcl:=kO G G[k].ed
 have HCX:Hid (∀ W ve q,Below w.heap.size w W→q ∈ cG G G[k].ed→PinsAt W ve (G[k].cx++cG G G[k].ed)→Calls Tryz.prog 173 #[.pointer (some ⟨C,0,none⟩),.agg #[.slice x1 y1 z1,.slice x2 y2 z2,.slice x3 y3 z3,.slice x4 y4 z4],ve,.agg #[.string q.nm,.int .i64 q.a,.int .i64 q.b,.int .i64 q.c]] W (BV W L (kE L O (G[k].cx++cG G G[k].ed) q))):=fun W ve q hb hq hE=>by
  have hall:∀ p ∈ G[k].cx++cG G G[k].ed,bQ p.nm p.a p.b p.c:=fun p hp=>by
   rcases List.mem_append.1 hp with h|h
   · exact hkc p h
   · exact hke p h
  exact JW (hc.below hb) hL (ho.below hb) hol hon hE (by rw [List.length_append,hcl];omega) (fun p hp=>by have:=(hall p hp).1;unfold maxLen at this;exact this) (fun p hp=>(hall p hp).2) q (hke q hq)
 obtain ⟨vc,ve,hx⟩:=hcz k hk;clear hcz;have HIN:=aA (hin _ (List.getElem_mem hk));obtain ⟨ac,cc,rfl⟩:=hx.2.1.1.sl;obtain ⟨ae,ce,rfl⟩:=hx.2.1.2.sl;obtain ⟨al,cl,rfl⟩:=hvl.sl;have HED:Hid (∀ W,Below w.heap.size w W→EdgesAt W (.slice ae G[k].ed.length ce) G[k].ed):=fun W h=>hx.2.1.2.below h
 have HLD:Hid (∀ W,Below w.heap.size w W→PinsAt W (.slice al (cG G G[k].ed).length cl) (cG G G[k].ed)):=fun W h=>hvl.below h
 have HCP:Hid (∀ W,Below w.heap.size w W→PinsAt W (.slice ac G[k].cx.length cc) G[k].cx):=fun W h=>hx.2.1.1.below h
 have HZN:=aA hzn;have HX0:=aA (hx.below (aD w (.cells #[.slice (some ⟨g,o,none⟩) G.length cap,.pointer (some ⟨C,0,none⟩),.slice x1 y1 z1,.slice x2 y2 z2,.slice x3 y3 z3,.slice x4 y4 z4,.bool dv] 109)));obtain ⟨⟨q0,q1,q2,q3,q4,q5⟩,_,q6⟩:=HX0.out;have hki:(k:Int)<(G.length:Int):=by omega
 clear hx hin HX0 hc hL ho hol hon hvl hkc hke hzn;obtain ⟨x,hxe⟩:∃ x,x=G[k]:=⟨_,rfl⟩;rw [←hxe] at q0 q1 q2 q3 q4 q5 HIN HED hze hzc hcl HCX HLD HCP ⊢;clear hxe
 have HB0:Hid (Below w.heap.size w ((w.alloc (.cells #[.slice (some ⟨g,o,none⟩) G.length cap,.pointer (some ⟨C,0,none⟩),.slice x1 y1 z1,.slice x2 y2 z2,.slice x3 y3 z3,.slice x4 y4 z4,.bool dv] 109)).alloc (.cells #[.string x.nm,.int .i64 x.a,.int .i64 x.b,.int .i64 x.c,.slice ac x.cx.length cc,.slice ae x.ed.length ce] 67))∧BxSo ((w.alloc (.cells #[.slice (some ⟨g,o,none⟩) G.length cap,.pointer (some ⟨C,0,none⟩),.slice x1 y1 z1,.slice x2 y2 z2,.slice x3 y3 z3,.slice x4 y4 z4,.bool dv] 109)).alloc (.cells #[.string x.nm,.int .i64 x.a,.int .i64 x.b,.int .i64 x.c,.slice ac x.cx.length cc,.slice ae x.ed.length ce] 67)) w.heap.size (.slice (some ⟨g,o,none⟩) G.length cap) (.pointer (some ⟨C,0,none⟩)) (.slice x1 y1 z1) (.slice x2 y2 z2) (.slice x3 y3 z3) (.slice x4 y4 z4) (.bool dv)∧BxNd ((w.alloc (.cells #[.slice (some ⟨g,o,none⟩) G.length cap,.pointer (some ⟨C,0,none⟩),.slice x1 y1 z1,.slice x2 y2 z2,.slice x3 y3 z3,.slice x4 y4 z4,.bool dv] 109)).alloc (.cells #[.string x.nm,.int .i64 x.a,.int .i64 x.b,.int .i64 x.c,.slice ac x.cx.length cc,.slice ae x.ed.length ce] 67)) (w.heap.size+1) x (.slice ac x.cx.length cc) (.slice ae x.ed.length ce)):=⟨aR _ _ _,bL _ _ _ _ _ _ _ _ _ _ (BxSo.new rfl _ _ _ _ _ _ _) (aD _ _),BxNd.new (by simp) x _ _⟩
 have HKP:Hid (KeepP fun W=>(Below w.heap.size w W∧BxSo W w.heap.size (.slice (some ⟨g,o,none⟩) G.length cap) (.pointer (some ⟨C,0,none⟩)) (.slice x1 y1 z1) (.slice x2 y2 z2) (.slice x3 y3 z3) (.slice x4 y4 z4) (.bool dv)∧BxNd W (w.heap.size+1) x (.slice ac x.cx.length cc) (.slice ae x.ed.length ce))):=(aG w).and ((bL _ _ _ _ _ _ _ _).and (aZ _ _ _ _));obtain ⟨l,hld⟩:∃ l,l=cG G x.ed:=⟨_,rfl⟩;have HLE:=aA hld;rw [←hld] at hcl HCX HLD ⊢;rw [hcl] at HLD;clear hld
 have HCN:Hid (Calls Tryz.prog 172 #[.slice (some ⟨w.heap.size+2,0,none⟩) 2 2] (((w.alloc (.cells #[.slice (some ⟨g,o,none⟩) G.length cap,.pointer (some ⟨C,0,none⟩),.slice x1 y1 z1,.slice x2 y2 z2,.slice x3 y3 z3,.slice x4 y4 z4,.bool dv] 109)).alloc (.cells #[.string x.nm,.int .i64 x.a,.int .i64 x.b,.int .i64 x.c,.slice ac x.cx.length cc,.slice ae x.ed.length ce] 67)).alloc (.cells #[.slice ac x.cx.length cc,.slice al x.ed.length cl] 40)) fun e w'=>∃ v,e= .returned v∧OwnPn w' (w.heap.size+2) v (x.cx++l)∧(Below w.heap.size w w'∧BxSo w' w.heap.size (.slice (some ⟨g,o,none⟩) G.length cap) (.pointer (some ⟨C,0,none⟩)) (.slice x1 y1 z1) (.slice x2 y2 z2) (.slice x3 y3 z3) (.slice x4 y4 z4) (.bool dv)∧BxNd w' (w.heap.size+1) x (.slice ac x.cx.length cc) (.slice ae x.ed.length ce))):=by
  have key:∀ W:World,W.heap.size=w.heap.size+2→(Below w.heap.size w W∧BxSo W w.heap.size (.slice (some ⟨g,o,none⟩) G.length cap) (.pointer (some ⟨C,0,none⟩)) (.slice x1 y1 z1) (.slice x2 y2 z2) (.slice x3 y3 z3) (.slice x4 y4 z4) (.bool dv)∧BxNd W (w.heap.size+1) x (.slice ac x.cx.length cc) (.slice ae x.ed.length ce))→Calls Tryz.prog 172 #[.slice (some ⟨w.heap.size+2,0,none⟩) 2 2] (W.alloc (.cells #[.slice ac x.cx.length cc,.slice al x.ed.length cl] 40)) fun e w'=>∃ v,e= .returned v∧OwnPn w' (w.heap.size+2) v (x.cx++l)∧(Below w.heap.size w w'∧BxSo w' w.heap.size (.slice (some ⟨g,o,none⟩) G.length cap) (.pointer (some ⟨C,0,none⟩)) (.slice x1 y1 z1) (.slice x2 y2 z2) (.slice x3 y3 z3) (.slice x4 y4 z4) (.bool dv)∧BxNd w' (w.heap.size+1) x (.slice ac x.cx.length cc) (.slice ae x.ed.length ce)):=fun W hs h1=>by
   have e0:(W.alloc (.cells #[.slice ac x.cx.length cc,.slice al x.ed.length cl] 40)).cell? ⟨w.heap.size+2,0,none⟩=some (.slice ac x.cx.length cc):=by rw [←hs];simp
   have e1:(W.alloc (.cells #[.slice ac x.cx.length cc,.slice al x.ed.length cl] 40)).cell? ⟨w.heap.size+2,1,none⟩=some (.slice al x.ed.length cl):=by rw [←hs];simp
   have hb:=aB h1.1 (aD W (.cells #[.slice ac x.cx.length cc,.slice al x.ed.length cl] 40));refine (vL (HCP.out _ hb) (HLD.out _ hb) e0 e1 (by omega) (by omega)).mono ?_;rintro e w' ⟨v,rfl,ho,hb2⟩;exact ⟨v,rfl,bZ ho (by simp;omega),HKP.out _ _ (HKP.out _ _ h1 (aD _ _)) hb2⟩
  exact key _ (by simp) HB0.out
 obtain ⟨lE,hlE⟩:∃ n,n=(x.cx++l).length:=⟨_,rfl⟩
 have HCN2:Hid (Calls Tryz.prog 172 #[.slice (some ⟨w.heap.size+2,0,none⟩) 2 2] (((w.alloc (.cells #[.slice (some ⟨g,o,none⟩) G.length cap,.pointer (some ⟨C,0,none⟩),.slice x1 y1 z1,.slice x2 y2 z2,.slice x3 y3 z3,.slice x4 y4 z4,.bool dv] 109)).alloc (.cells #[.string x.nm,.int .i64 x.a,.int .i64 x.b,.int .i64 x.c,.slice ac x.cx.length cc,.slice ae x.ed.length ce] 67)).alloc (.cells #[.slice ac x.cx.length cc,.slice al x.ed.length cl] 40)) fun e w'=>∃ aE cE,e= .returned (.slice aE lE cE)∧OwnPn w' (w.heap.size+2) (.slice aE lE cE) (x.cx++l)∧(Below w.heap.size w w'∧BxSo w' w.heap.size (.slice (some ⟨g,o,none⟩) G.length cap) (.pointer (some ⟨C,0,none⟩)) (.slice x1 y1 z1) (.slice x2 y2 z2) (.slice x3 y3 z3) (.slice x4 y4 z4) (.bool dv)∧BxNd w' (w.heap.size+1) x (.slice ac x.cx.length cc) (.slice ae x.ed.length ce))):=by
  refine HCN.out.mono ?_;rintro e w' ⟨v,rfl,h1,h2⟩;obtain ⟨aE,cE,rfl⟩:=h1.lenT;rw [←hlE] at h1 ⊢;exact ⟨aE,cE,rfl,h1,h2⟩
 clear HCN hlE;obtain ⟨le,hle⟩:∃ n,n=x.ed.length:=⟨_,rfl⟩;have HLX:=aA hle;obtain ⟨lc,hlc⟩:∃ n,n=x.cx.length:=⟨_,rfl⟩;rw [←hle] at q5 hze HED hcl HLD HCN2 HB0 HKP;rw [←hlc] at q4 hzc HCP HCN2 HB0 HKP;clear hle hlc;obtain ⟨_,_,⟨z0,z1',z2',z3',z4',z5⟩,z6⟩:=HB0.out
 go_enter Tryz.func117,Tryz.ntmps117
 go_wp2_with (go_at_call 172;refine HCN2.out.mono ?_;rintro e w1 ⟨aE,cE,rfl,hoE,hK1⟩;have HK1:=aA hK1;have HOE:=aA hoE;obtain ⟨_,_,⟨r0,r1,r2,r3,r4,r5⟩,r6⟩:=hK1;clear hoE)
 clear q0 q1 q2 q3 q4 q5 q6 z0 z1' z2' z3' z4' z5 z6 r0 r1 r2 r3 r4 r5 r6 HCN2 HB0;have HEP:Hid (∀ W,Below w1.heap.size w1 W→PinsAt W (.slice aE lE cE) (x.cx++l)):=fun W h=>(kP HOE.out).below h
 go_loopw [26] (fun vi wr=>∃ m:Nat,m≤le∧vi= .int .i64 m∧((Below w.heap.size w wr∧BxSo wr w.heap.size (.slice (some ⟨g,o,none⟩) G.length cap) (.pointer (some ⟨C,0,none⟩)) (.slice x1 y1 z1) (.slice x2 y2 z2) (.slice x3 y3 z3) (.slice x4 y4 z4) (.bool dv)∧BxNd wr (w.heap.size+1) x (.slice ac lc cc) (.slice ae le ce))∧Below w1.heap.size w1 wr)∧∀ j (_:j<m) (h1:j<x.ed.length),iV L O (x.cx++l) G x.ed[j]=true) (fun vi _=>le - (intOf vi).toNat)
 case atStart=>exact ⟨0,Nat.zero_le _,rfl,⟨HK1.out,Below.refl _ _⟩,fun j h=>by omega⟩
 case round=>
  clear HK1 HOE;obtain ⟨m,hm,rfl,hb,hall⟩:=hrel;have HB:=aA hb;have HALL:=aA hall;clear hall
  by_cases hml:m<le
  · have hmx:m<x.ed.length:=by have:=HLX.out;omega
    have hmi:(m:Int)<(le:Int):=by omega
    obtain ⟨gp,op,rfl,hei⟩:∃ gp op,ae=some ⟨gp,op,none⟩∧EgIn wr gp (op+m*2) x.ed[m]:=by
     obtain ⟨a1,c1,hv,hc,hl⟩:=HED.out wr hb.1.1;injection hv with hv1 _ _
     rcases hl with h|⟨g,o,h,_,hs⟩
     · rw [h] at hmx;cases hmx
     · exact ⟨g,o,hv1.trans h,hs m hmx⟩
    have hll:m<l.length:=by omega
    obtain ⟨gl,ol,rfl,hli⟩:∃ gl ol,al=some ⟨gl,ol,none⟩∧PnIn wr gl (ol+m*4) l[m]:=by
     obtain ⟨a1,c1,hv,hc,hl⟩:=HLD.out wr hb.1.1;injection hv with hv1 _ _
     rcases hl with h|⟨g,o,h,_,hs⟩
     · rw [h] at hll;cases hll
     · exact ⟨g,o,hv1.trans h,hs m hll⟩
    obtain ⟨hto0,hto1⟩:=HIN.out _ (List.getElem_mem hmx)
    have hlm:l[m]=fI G x.ed[m]:=by
     have e:=HLE.out
     have q:l[m]? =some (fI G x.ed[m]):=by
      rw [e];unfold cG;rw [List.getElem?_map,List.getElem?_eq_getElem hmx];rfl
     rw [List.getElem?_eq_getElem hll] at q;exact Option.some.inj q
    have HQM:Hid (l[m] ∈ l):=List.getElem_mem hll
    have HNO:Hid (iV L O (x.cx++l) G x.ed[m]=false→pL L O (x.cx++l) G x.ed=false):=fun h=>by
     unfold pL;exact Bool.eq_false_iff.2 fun q=>by rw [List.all_eq_true.1 q _ (List.getElem_mem hmx)] at h;cases h
    have HST:Hid (iV L O (x.cx++l) G x.ed[m]=true→∀ j (_:j<m+1) (h1:j<x.ed.length),iV L O (x.cx++l) G x.ed[j]=true):=fun h j hj h1=>by
     rcases Nat.lt_or_ge j m with hjk|hjk
     · exact HALL.out j hjk h1
     · obtain rfl:j=m:=by omega
       exact h
    obtain ⟨y,hy⟩:∃ y,y=x.ed[m]:=⟨_,rfl⟩;rw [←hy] at hei hto0 hto1 hlm HNO HST
    have HLM:Hid (∀ W,Below w.heap.size w W→PnIn W gl (ol+m*4) l[m]):=fun W h=>by
     obtain ⟨a1,c1,hv,hc,hl⟩:=HLD.out W h;injection hv with hv1 _ _
     rcases hl with h|⟨g,o,h,_,hs⟩
     · rw [h] at hll;cases hll
     · cases hv1.trans h
       exact hs m hll
    obtain ⟨q,hq⟩:∃ q,q=l[m]:=⟨_,rfl⟩;rw [←hq] at hli hlm HQM HLM;obtain ⟨t,ht⟩:∃ t:Nat,y.to=(t:Int):=⟨y.to.toNat,by omega⟩;have htl:t<G.length:=by omega
    have HU:Hid (G[y.to.toNat]? =some G[t]):=by unfold Hid;rw [ht,Int.toNat_natCast,List.getElem?_eq_getElem htl]
    have hzu:=HZN.out _ (List.getElem_mem htl);have HTZ:Hid (∀ W,Below w.heap.size w W→∃ vc ve,NdIn W g (o+t*6) G[t] vc ve):=fun W h=>HCZ.out W h t htl
    have HQE:=aA hlm;obtain ⟨⟨e0,e1⟩,e2⟩:=hei;rw [ht] at e1;have hti:(t:Int)<(G.length:Int):=by omega
    have hBX:=aD wr (.cells #[.string y.lb,.int .i64 t] 77);have HKZ:Hid (KeepP fun W=>(((Below w.heap.size w W∧BxSo W w.heap.size (.slice (some ⟨g,o,none⟩) G.length cap) (.pointer (some ⟨C,0,none⟩)) (.slice x1 y1 z1) (.slice x2 y2 z2) (.slice x3 y3 z3) (.slice x4 y4 z4) (.bool dv)∧BxNd W (w.heap.size+1) x (.slice ac lc cc) (.slice (some ⟨gp,op,none⟩) le ce))∧Below w1.heap.size w1 W)∧((W.cell? ⟨wr.heap.size,0,none⟩=some (.string y.lb)∧W.cell? ⟨wr.heap.size,1,none⟩=some (.int .i64 t))∧wr.heap.size<W.heap.size))):=(HKP.out.and (aG w1)).and fun W W' h hb=>⟨⟨(hb.cell (p:=⟨wr.heap.size,0,none⟩) h.2).trans h.1.1,(hb.cell (p:=⟨wr.heap.size,1,none⟩) h.2).trans h.1.2⟩,Nat.lt_of_lt_of_le h.2 hb.size⟩
    have HZ0:Hid (((Below w.heap.size w (wr.alloc (.cells #[.string y.lb,.int .i64 t] 77))∧BxSo (wr.alloc (.cells #[.string y.lb,.int .i64 t] 77)) w.heap.size (.slice (some ⟨g,o,none⟩) G.length cap) (.pointer (some ⟨C,0,none⟩)) (.slice x1 y1 z1) (.slice x2 y2 z2) (.slice x3 y3 z3) (.slice x4 y4 z4) (.bool dv)∧BxNd (wr.alloc (.cells #[.string y.lb,.int .i64 t] 77)) (w.heap.size+1) x (.slice ac lc cc) (.slice (some ⟨gp,op,none⟩) le ce))∧Below w1.heap.size w1 (wr.alloc (.cells #[.string y.lb,.int .i64 t] 77)))∧(((wr.alloc (.cells #[.string y.lb,.int .i64 t] 77)).cell? ⟨wr.heap.size,0,none⟩=some (.string y.lb)∧(wr.alloc (.cells #[.string y.lb,.int .i64 t] 77)).cell? ⟨wr.heap.size,1,none⟩=some (.int .i64 t))∧wr.heap.size<(wr.alloc (.cells #[.string y.lb,.int .i64 t] 77)).heap.size)):=⟨⟨HKP.out _ _ hb.1 hBX,aB hb.2 hBX⟩,ID _ _ rfl rfl⟩
    have HZ1:Hid (((Below w.heap.size w (wr.alloc (.cells #[.string y.lb,.int .i64 t] 77)).drew∧BxSo (wr.alloc (.cells #[.string y.lb,.int .i64 t] 77)).drew w.heap.size (.slice (some ⟨g,o,none⟩) G.length cap) (.pointer (some ⟨C,0,none⟩)) (.slice x1 y1 z1) (.slice x2 y2 z2) (.slice x3 y3 z3) (.slice x4 y4 z4) (.bool dv)∧BxNd (wr.alloc (.cells #[.string y.lb,.int .i64 t] 77)).drew (w.heap.size+1) x (.slice ac lc cc) (.slice (some ⟨gp,op,none⟩) le ce))∧Below w1.heap.size w1 (wr.alloc (.cells #[.string y.lb,.int .i64 t] 77)).drew)∧(((wr.alloc (.cells #[.string y.lb,.int .i64 t] 77)).drew.cell? ⟨wr.heap.size,0,none⟩=some (.string y.lb)∧(wr.alloc (.cells #[.string y.lb,.int .i64 t] 77)).drew.cell? ⟨wr.heap.size,1,none⟩=some (.int .i64 t))∧wr.heap.size<(wr.alloc (.cells #[.string y.lb,.int .i64 t] 77)).drew.heap.size)):=KeepP.drew HKZ.out HZ0.out;obtain ⟨⟨p0,p1,p2,p3⟩,p4⟩:=hli
    have a0:=(hBX.cell (p:=⟨gl,ol+m*4,none⟩) p4).trans p0;have a1:=(hBX.cell (p:=⟨gl,ol+m*4+1,none⟩) p4).trans p1;have a2:=(hBX.cell (p:=⟨gl,ol+m*4+2,none⟩) p4).trans p2;have a3:=(hBX.cell (p:=⟨gl,ol+m*4+3,none⟩) p4).trans p3
    have HCC:Hid (∀ W,(((Below w.heap.size w W∧BxSo W w.heap.size (.slice (some ⟨g,o,none⟩) G.length cap) (.pointer (some ⟨C,0,none⟩)) (.slice x1 y1 z1) (.slice x2 y2 z2) (.slice x3 y3 z3) (.slice x4 y4 z4) (.bool dv)∧BxNd W (w.heap.size+1) x (.slice ac lc cc) (.slice (some ⟨gp,op,none⟩) le ce))∧Below w1.heap.size w1 W)∧((W.cell? ⟨wr.heap.size,0,none⟩=some (.string y.lb)∧W.cell? ⟨wr.heap.size,1,none⟩=some (.int .i64 t))∧wr.heap.size<W.heap.size))→Calls Tryz.prog 173 #[.pointer (some ⟨C,0,none⟩),.agg #[.slice x1 y1 z1,.slice x2 y2 z2,.slice x3 y3 z3,.slice x4 y4 z4],.slice aE lE cE,.agg #[.string q.nm,.int .i64 q.a,.int .i64 q.b,.int .i64 q.c]] W (BV W L (kE L O (x.cx++l) q))):=fun W h=>HCX.out W _ q h.1.1.1 HQM.out (HEP.out W h.1.2)
    obtain ⟨⟨⟨_,⟨⟨s0,s1,s2,s3,s4,s5,s6⟩,s7⟩,_⟩,_⟩,_⟩:=HZ0.out;clear hy hq hto0 hto1 hBX hb HALL p0 p1 p2 p3 p4 hlm hll;generalize G[t]=u at*;cases hcx:kE L O (x.cx++l) q with
    |none=>
     have HR:=aA (HNO.out (IB (by rw [←HQE.out];exact hcx)));rw [hcx] at HCC;clear HNO HST hcx
     go_wp2_with fail
     go_region_held3 (fun w'=>(w'.cell? ⟨w.heap.size,1,none⟩=some (.pointer (some ⟨C,0,none⟩))∧w'.cell? ⟨w.heap.size,2,none⟩=some (.slice x1 y1 z1)∧w'.cell? ⟨w.heap.size,3,none⟩=some (.slice x2 y2 z2)∧w'.cell? ⟨w.heap.size,4,none⟩=some (.slice x3 y3 z3)∧w'.cell? ⟨w.heap.size,5,none⟩=some (.slice x4 y4 z4))∧w'.cell? ⟨gl,ol+m*4,none⟩=some (.string q.nm)∧w'.cell? ⟨gl,ol+m*4+1,none⟩=some (.int .i64 q.a)∧w'.cell? ⟨gl,ol+m*4+2,none⟩=some (.int .i64 q.b)∧w'.cell? ⟨gl,ol+m*4+3,none⟩=some (.int .i64 q.c)) (go_keep) (first
      |(go_at_call 173;refine (HCC.out _ HZ1.out).mono ?_;rintro e w3 ⟨h1,_,hb3⟩;obtain rfl:=h1 rfl;have HZ3:=aA (HKZ.out _ _ HZ1.out hb3);obtain ⟨⟨c0,c1,c2,c3⟩,_⟩:=HLM.out _ HZ3.out.1.1.1;obtain ⟨⟨⟨_,⟨⟨t0,t1,t2,t3,t4,t5,t6⟩,t7⟩,_⟩,_⟩,_⟩:=HZ3.out;clear h1 hb3))
     go_wp2
     go_ret;exact ⟨aC HR.out.symm,HZ3.out.1.1.1⟩
    |some out=>
     have HCE:Hid (kE L O (x.cx++l) (fI G y)=some out):=by rw [←HQE.out];exact hcx
     rw [hcx] at HCC
     have HCD:Hid (∀ W,(((Below w.heap.size w W∧BxSo W w.heap.size (.slice (some ⟨g,o,none⟩) G.length cap) (.pointer (some ⟨C,0,none⟩)) (.slice x1 y1 z1) (.slice x2 y2 z2) (.slice x3 y3 z3) (.slice x4 y4 z4) (.bool dv)∧BxNd W (w.heap.size+1) x (.slice ac lc cc) (.slice (some ⟨gp,op,none⟩) le ce))∧Below w1.heap.size w1 W)∧((W.cell? ⟨wr.heap.size,0,none⟩=some (.string y.lb)∧W.cell? ⟨wr.heap.size,1,none⟩=some (.int .i64 t))∧wr.heap.size<W.heap.size))→Calls Tryz.prog 173 #[.pointer (some ⟨C,0,none⟩),.agg #[.slice x1 y1 z1,.slice x2 y2 z2,.slice x3 y3 z3,.slice x4 y4 z4],.slice aE lE cE,.agg #[.string q.nm,.int .i64 q.a,.int .i64 q.b,.int .i64 q.c]] W fun e w'=>∃ at1 ct1 ts,e= .returned (.tuple #[.slice at1 ts.length ct1,.bool true])∧(iV L O (x.cx++l) G y=eqB ts u.cx∧PinsAt w' (.slice at1 ts.length ct1) ts∧ts.length≤9223372036854775807)∧(((Below w.heap.size w w'∧BxSo w' w.heap.size (.slice (some ⟨g,o,none⟩) G.length cap) (.pointer (some ⟨C,0,none⟩)) (.slice x1 y1 z1) (.slice x2 y2 z2) (.slice x3 y3 z3) (.slice x4 y4 z4) (.bool dv)∧BxNd w' (w.heap.size+1) x (.slice ac lc cc) (.slice (some ⟨gp,op,none⟩) le ce))∧Below w1.heap.size w1 w')∧((w'.cell? ⟨wr.heap.size,0,none⟩=some (.string y.lb)∧w'.cell? ⟨wr.heap.size,1,none⟩=some (.int .i64 t))∧wr.heap.size<w'.heap.size))):=fun W h=>by
      refine (HCC.out W h).mono ?_;rintro e w' ⟨_,h2,hb3⟩;obtain ⟨v,ts,rfl,⟨h3,h4,h5⟩,h6⟩:=h2 out rfl;obtain ⟨at1,ct1,rfl⟩:=h6.lenT;refine ⟨at1,ct1,ts,rfl,⟨IC HCE.out HU.out h3 h4 h5.1,kP h6,?_⟩,HKZ.out _ _ h hb3⟩;have hq:=h6.2
      rcases hq with ⟨_,hn⟩|⟨_,cap,_,hv,_,_,hc1,hc2,_⟩
      · omega
      · unfold maxLen at hc2;omega
     clear hcx HCC
     go_wp2_with fail
     go_region_held3 (fun w'=>(w'.cell? ⟨w.heap.size,1,none⟩=some (.pointer (some ⟨C,0,none⟩))∧w'.cell? ⟨w.heap.size,2,none⟩=some (.slice x1 y1 z1)∧w'.cell? ⟨w.heap.size,3,none⟩=some (.slice x2 y2 z2)∧w'.cell? ⟨w.heap.size,4,none⟩=some (.slice x3 y3 z3)∧w'.cell? ⟨w.heap.size,5,none⟩=some (.slice x4 y4 z4))∧w'.cell? ⟨gl,ol+m*4,none⟩=some (.string q.nm)∧w'.cell? ⟨gl,ol+m*4+1,none⟩=some (.int .i64 q.a)∧w'.cell? ⟨gl,ol+m*4+2,none⟩=some (.int .i64 q.b)∧w'.cell? ⟨gl,ol+m*4+3,none⟩=some (.int .i64 q.c)) (go_keep) (first
      |(go_at_call 173;refine (HCD.out _ HZ1.out).mono ?_;rintro e w3 ⟨at1,ct1,ts,rfl,⟨hcb,hpt,hzt⟩,hz3⟩;have HZ3:=aA hz3;have HPT:=aA hpt;have HCB:=aA hcb;obtain ⟨⟨c0,c1,c2,c3⟩,_⟩:=HLM.out _ HZ3.out.1.1.1;obtain ⟨⟨⟨_,⟨⟨t0,t1,t2,t3,t4,t5,t6⟩,t7⟩,_⟩,_⟩,_⟩:=HZ3.out;clear hcb hpt hz3))
     clear c0 c1 c2 c3 t0 t1 t2 t3 t4 t5 t6 t7;obtain ⟨uc,ue,hzz⟩:=HTZ.out w3 HZ3.out.1.1.1;obtain ⟨av,cv,rfl⟩:=hzz.2.1.1.sl;have HEQ:Hid (Calls Tryz.prog 124 #[.slice at1 ts.length ct1,.slice av u.cx.length cv] w3 fun e w'=>e= .returned (.bool (eqB ts u.cx))∧Below w3.heap.size w3 w'):=uU HPT.out hzz.2.1.1 hzt;obtain ⟨⟨_,_,_,_,b4,_⟩,_,_⟩:=hzz;obtain ⟨⟨⟨_,⟨⟨s0,_,_,_,_,_,_⟩,_⟩,_⟩,_⟩,⟨f0,f1⟩,_⟩:=HZ3.out;rw [←HCB.out] at HEQ;clear HCD HPT hzt;generalize ts.length=lt at*;generalize u.cx.length=lu at*;cases hcb:iV L O (x.cx++l) G y with
     |true=>
      have HR:=aA (HST.out hcb);rw [hcb] at HEQ;clear HNO HST hcb HCB
      go_wp2_with (go_at_call 124;refine HEQ.out.mono ?_;rintro e w4 ⟨rfl,ok⟩;have HZ4:=aA (HKZ.out _ _ HZ3.out ok);clear ok)
      exact ⟨⟨m+1,by omega,by go_num,HZ4.out.1,HR.out⟩,by simp [intOf];omega⟩
     |false=>
      have HR:=aA (HNO.out hcb);rw [hcb] at HEQ;clear HNO HST hcb HCB
      go_wp2_with (go_at_call 124;refine HEQ.out.mono ?_;rintro e w4 ⟨rfl,ok⟩;have HZ4:=aA (HKZ.out _ _ HZ3.out ok);clear ok)
      go_ret;exact ⟨aC HR.out.symm,HZ4.out.1.1.1⟩
  · obtain rfl:m=le:=by omega
    have hmi:¬ ((m:Int)<(m:Int)):=by omega
    have HR:Hid (pL L O (x.cx++l) G x.ed=true):=by
     unfold Hid pL;rw [List.all_eq_true];intro p hp;obtain ⟨i,hi,rfl⟩:=List.getElem_of_mem hp;exact HALL.out i (by have:=HLX.out;omega) hi
    clear hb HALL
    go_wp2
    go_ret;exact ⟨aC HR.out.symm,HB.out.1.1⟩
end Go.Proofs.YtpfemjlhklnfoaaGreatDoor
namespace Go.Proofs.YtpfemjlhklnfoaaGreatDoor
open Go.RowKit
set_option maxRecDepth 100000
structure Mn where
 d:List Dp
 v:List Dp
 o:List Dp
 p:List Dp
def MnAt (w:World) (P:Mn) (v1 v2 v3 v4:Value):Prop:=DepsAt w v1 P.d∧DepsAt w v2 P.v∧DepsAt w v3 P.o∧DepsAt w v4 P.p
theorem MnAt.below {w w':World} {P:Mn} {v1 v2 v3 v4:Value} (h:MnAt w P v1 v2 v3 v4) (hb:Below w.heap.size w w'):MnAt w' P v1 v2 v3 v4:=⟨h.1.below hb,h.2.1.below hb,h.2.2.1.below hb,h.2.2.2.below hb⟩
def BxM (w:World) (N:Nat) (v1 v2 v3 v4:Value):Prop:=w.cell? ⟨N,0,none⟩=some v1∧w.cell? ⟨N,1,none⟩=some v2∧w.cell? ⟨N,2,none⟩=some v3∧w.cell? ⟨N,3,none⟩=some v4∧N<w.heap.size
theorem AB (N:Nat) (v1 v2 v3 v4:Value):KeepP fun w1=>BxM w1 N v1 v2 v3 v4:=fun w w' h hb=>by
 obtain ⟨h0,h1,h2,h3,h4⟩:=h;have q:∀ i,w'.cell? ⟨N,i,none⟩=w.cell? ⟨N,i,none⟩:=fun i=>hb.cell (p:=⟨N,i,none⟩) h4
 exact ⟨by rw [q];exact h0,by rw [q];exact h1,by rw [q];exact h2,by rw [q];exact h3,Nat.lt_of_lt_of_le h4 hb.size⟩
theorem BxM.new {w:World} {N:Nat} (hN:w.heap.size=N) (v1 v2 v3 v4:Value):BxM (w.alloc (.cells #[v1,v2,v3,v4] 57)) N v1 v2 v3 v4:=by
 subst hN;refine ⟨?_,?_,?_,?_,?_⟩<;>simp
def cA (v1 v2 v3 v4:Value):Obj:= .cells #[.string ⟨#[110,101,101,100,115]⟩,v1,.string ⟨#[100,101,118]⟩,v2,.string ⟨#[108,105,107,101,115]⟩,v3,.string ⟨#[112,105,110,115]⟩,v4] 208 (0,0)
theorem vM (a1 a2 a3 a4:Option Addr) (l1 l2 l3 l4 c1 c2 c3 c4:Nat) (w:World):
 Calls Tryz.prog 161 #[.agg #[.slice a1 l1 c1,.slice a2 l2 c2,.slice a3 l3 c3,.slice a4 l4 c4]] w fun e w'=>∃ g,e= .returned (.slice (some ⟨g,0,none⟩) 4 4)∧Below w.heap.size w w'∧w.heap.size≤g∧w'.heap[g]? =some (cA (.slice a1 l1 c1) (.slice a2 l2 c2) (.slice a3 l3 c3) (.slice a4 l4 c4)):=by
 go_enter Tryz.func161,Tryz.ntmps161
 go_wp2
 go_ret;refine ⟨w.heap.size+1,by first|rfl|simp,aR _ _ _,by omega,?_⟩;show ((w.heap.push _).push _)[w.heap.size+1]? =_;rw [Array.getElem?_push,if_pos (by simp)];rfl
noncomputable def gK (P:Mn):Bool:=(aM P.d&&(aM P.v&&(aM P.o&&aM P.p)))&&fG [P.d,P.v,P.o]
theorem LF {w:World} {A B C:List Dp} {v1 v2 v3:Value} (h1:DepsAt w v1 A) (h2:DepsAt w v2 B) (h3:DepsAt w v3 C):rT (w.alloc (.cells #[v1,v2,v3] 32)) w.heap.size 0 [A,B,C]:=by
 refine ⟨by simp,fun k hk=> ?_⟩
 match k,hk with
 |0,_=>exact ⟨v1,by simp,h1.below (aD _ _)⟩
 |1,_=>exact ⟨v2,by simp,h2.below (aD _ _)⟩
 |2,_=>exact ⟨v3,by simp,h3.below (aD _ _)⟩
theorem NI {w:World} {A B C:List Dp} {v1 v2 v3:Value} (h1:DepsAt w v1 A) (h2:DepsAt w v2 B) (h3:DepsAt w v3 C) (k1:eI A) (k2:eI B) (k3:eI C):Calls Tryz.prog 198 #[.slice (some ⟨w.heap.size,0,none⟩) 3 3] (w.alloc (.cells #[v1,v2,v3] 32)) fun e w'=>e= .returned (.bool (fG [A,B,C]))∧Below (w.alloc (.cells #[v1,v2,v3] 32)).heap.size (w.alloc (.cells #[v1,v2,v3] 32)) w':=
 tR (Ls:=[A,B,C]) (LF h1 h2 h3) (fun L hL=>by
  simp only [List.mem_cons,List.not_mem_nil,or_false] at hL
  rcases hL with rfl|rfl|rfl<;>assumption) (by simp)
set_option maxHeartbeats 6400000 in
theorem vN {P:Mn} {v1 v2 v3 v4:Value} {w:World} (h:MnAt w P v1 v2 v3 v4):
 Calls Tryz.prog 160 #[.agg #[v1,v2,v3,v4]] w fun e w'=>e= .returned (.bool (gK P))∧Below w.heap.size w w':=by
 have HM1:Hid (∀ w1,Below w.heap.size w w1→Calls Tryz.prog 197 #[v1] w1 fun e w'=>e= .returned (.bool (aM P.d))∧Below w1.heap.size w1 w'):=fun w1 hb=>cX (h.1.below hb)
 have HM2:Hid (∀ w1,Below w.heap.size w w1→Calls Tryz.prog 197 #[v2] w1 fun e w'=>e= .returned (.bool (aM P.v))∧Below w1.heap.size w1 w'):=fun w1 hb=>cX (h.2.1.below hb)
 have HM3:Hid (∀ w1,Below w.heap.size w w1→Calls Tryz.prog 197 #[v3] w1 fun e w'=>e= .returned (.bool (aM P.o))∧Below w1.heap.size w1 w'):=fun w1 hb=>cX (h.2.2.1.below hb)
 have HM4:Hid (∀ w1,Below w.heap.size w w1→Calls Tryz.prog 197 #[v4] w1 fun e w'=>e= .returned (.bool (aM P.p))∧Below w1.heap.size w1 w'):=fun w1 hb=>cX (h.2.2.2.below hb)
 have HEO:Hid (aM P.d=true→aM P.v=true→aM P.o=true→∀ w1,Below w.heap.size w w1→Calls Tryz.prog 198 #[.slice (some ⟨w1.heap.size,0,none⟩) 3 3] (w1.alloc (.cells #[v1,v2,v3] 32)) fun e w'=>e= .returned (.bool (fG [P.d,P.v,P.o]))∧Below (w1.alloc (.cells #[v1,v2,v3] 32)).heap.size (w1.alloc (.cells #[v1,v2,v3] 32)) w'):=fun g1 g2 g3 w1 hb=>NI (h.1.below hb) (h.2.1.below hb) (h.2.2.1.below hb) (bH g1) (bH g2) (bH g3)
 have HSB:Hid (gK P=((aM P.d&&(aM P.v&&(aM P.o&&aM P.p)))&&fG [P.d,P.v,P.o])):=rfl;obtain ⟨a1,c1,rfl⟩:=h.1.sl;obtain ⟨a2,c2,rfl⟩:=h.2.1.sl;obtain ⟨a3,c3,rfl⟩:=h.2.2.1.sl;obtain ⟨a4,c4,rfl⟩:=h.2.2.2.sl;have HLI:Hid (∀ w1,Calls Tryz.prog 161 #[.agg #[.slice a1 P.d.length c1,.slice a2 P.v.length c2,.slice a3 P.o.length c3,.slice a4 P.p.length c4]] w1 fun e w'=>∃ g,e= .returned (.slice (some ⟨g,0,none⟩) 4 4)∧Below w1.heap.size w1 w'∧w1.heap.size≤g∧w'.heap[g]? =some (cA (.slice a1 P.d.length c1) (.slice a2 P.v.length c2) (.slice a3 P.o.length c3) (.slice a4 P.p.length c4))):=fun w1=>vM _ _ _ _ _ _ _ _ _ _ _ _ w1
 clear h;generalize gK P=SB at*;generalize fG [P.d,P.v,P.o]=ob at*;generalize aM P.d=m1 at*;generalize aM P.v=m2 at*;generalize aM P.o=m3 at*;generalize aM P.p=m4 at*;generalize P.d.length=l1 at*;generalize P.v.length=l2 at*;generalize P.o.length=l3 at*;generalize P.p.length=l4 at*;have HKB:Hid (KeepP fun w1=>BxM w1 w.heap.size (.slice a1 l1 c1) (.slice a2 l2 c2) (.slice a3 l3 c3) (.slice a4 l4 c4)):=AB _ _ _ _ _
 go_enter Tryz.func160,Tryz.ntmps160
 go_wp2_with (go_at_call 161;refine (HLI.out _).mono ?_;rintro e w3 ⟨g,rfl,ok,hg,hgl⟩;have HO3:Hid ((Below w.heap.size w w3∧BxM w3 w.heap.size (.slice a1 l1 c1) (.slice a2 l2 c2) (.slice a3 l3 c3) (.slice a4 l4 c4))∧w3.heap[g]? =some (cA (.slice a1 l1 c1) (.slice a2 l2 c2) (.slice a3 l3 c3) (.slice a4 l4 c4))):=⟨⟨aB (aD _ _) ok,HKB.out _ _ (BxM.new rfl _ _ _ _) ok⟩,hgl⟩;clear ok hg hgl)
 go_loopw [8] (fun i wr=>∃ k:Nat,k≤4∧i= .int .i64 k∧((Below w.heap.size w wr∧BxM wr w.heap.size (.slice a1 l1 c1) (.slice a2 l2 c2) (.slice a3 l3 c3) (.slice a4 l4 c4))∧wr.heap[g]? =some (cA (.slice a1 l1 c1) (.slice a2 l2 c2) (.slice a3 l3 c3) (.slice a4 l4 c4)))∧(1≤k→m1=true)∧(2≤k→m2=true)∧(3≤k→m3=true)∧(4≤k→m4=true)) (fun i _=>4 - (intOf i).toNat)
 case atStart=>exact ⟨0,Nat.zero_le _,rfl,HO3.out,(fun h=>by omega),(fun h=>by omega),(fun h=>by omega),(fun h=>by omega)⟩
 case round=>
  obtain ⟨k,hk,rfl,hb,e1,e2,e3,e4⟩:=hrel;have HB:=aA hb
  rcases (show k=0∨k=1∨k=2∨k=3∨k=4 by omega) with rfl|rfl|rfl|rfl|rfl
  · have q0:wr.cell? ⟨g,0,none⟩=some (.string ⟨#[110,101,101,100,115]⟩):=by rw [Lib.cell_of_heap HB.out.2];rfl
    have q1:wr.cell? ⟨g,1,none⟩=some (.slice a1 l1 c1):=by rw [Lib.cell_of_heap HB.out.2];rfl
    have HBA:Hid ((Below w.heap.size w (wr.alloc (.cells #[.string ⟨#[110,101,101,100,115]⟩,.slice a1 l1 c1] 208))∧BxM (wr.alloc (.cells #[.string ⟨#[110,101,101,100,115]⟩,.slice a1 l1 c1] 208)) w.heap.size (.slice a1 l1 c1) (.slice a2 l2 c2) (.slice a3 l3 c3) (.slice a4 l4 c4))∧(wr.alloc (.cells #[.string ⟨#[110,101,101,100,115]⟩,.slice a1 l1 c1] 208)).heap[g]? =some (cA (.slice a1 l1 c1) (.slice a2 l2 c2) (.slice a3 l3 c3) (.slice a4 l4 c4))):=⟨⟨aB HB.out.1.1 (aD _ _),HKB.out _ _ HB.out.1.2 (aD _ _)⟩,((aD _ _).block g (Array.getElem?_eq_some_iff.1 HB.out.2).1).trans HB.out.2⟩;clear hb e1 e2 e3 e4;cases m1
    · have HR:Hid (SB=false):=by unfold Hid;rw [HSB.out];simp
      go_wp2_with (go_at_call 197;refine (HM1.out _ HBA.out.1.1).mono ?_;rintro e w4 ⟨rfl,ok⟩;have HO4:=aA (aB HBA.out.1.1 ok);clear ok)
      go_ret;exact ⟨aC HR.out.symm,HO4.out⟩
    · go_wp2_with (go_at_call 197;refine (HM1.out _ HBA.out.1.1).mono ?_;rintro e w4 ⟨rfl,ok⟩;have HO4:Hid ((Below w.heap.size w w4∧BxM w4 w.heap.size (.slice a1 l1 c1) (.slice a2 l2 c2) (.slice a3 l3 c3) (.slice a4 l4 c4))∧w4.heap[g]? =some (cA (.slice a1 l1 c1) (.slice a2 l2 c2) (.slice a3 l3 c3) (.slice a4 l4 c4))):=⟨⟨aB HBA.out.1.1 ok,HKB.out _ _ HBA.out.1.2 ok⟩,(ok.block g (Array.getElem?_eq_some_iff.1 HBA.out.2).1).trans HBA.out.2⟩;clear ok)
      exact ⟨⟨1,by omega,rfl,HO4.out,(fun _=>trivial),(fun h=>by omega),(fun h=>by omega),(fun h=>by omega)⟩,by simp [intOf]⟩
  · have e1':=e1 (by omega)
    subst e1';have q0:wr.cell? ⟨g,2,none⟩=some (.string ⟨#[100,101,118]⟩):=by rw [Lib.cell_of_heap HB.out.2];rfl
    have q1:wr.cell? ⟨g,3,none⟩=some (.slice a2 l2 c2):=by rw [Lib.cell_of_heap HB.out.2];rfl
    have HBA:Hid ((Below w.heap.size w (wr.alloc (.cells #[.string ⟨#[100,101,118]⟩,.slice a2 l2 c2] 208))∧BxM (wr.alloc (.cells #[.string ⟨#[100,101,118]⟩,.slice a2 l2 c2] 208)) w.heap.size (.slice a1 l1 c1) (.slice a2 l2 c2) (.slice a3 l3 c3) (.slice a4 l4 c4))∧(wr.alloc (.cells #[.string ⟨#[100,101,118]⟩,.slice a2 l2 c2] 208)).heap[g]? =some (cA (.slice a1 l1 c1) (.slice a2 l2 c2) (.slice a3 l3 c3) (.slice a4 l4 c4))):=⟨⟨aB HB.out.1.1 (aD _ _),HKB.out _ _ HB.out.1.2 (aD _ _)⟩,((aD _ _).block g (Array.getElem?_eq_some_iff.1 HB.out.2).1).trans HB.out.2⟩;clear hb e1 e2 e3 e4;cases m2
    · have HR:Hid (SB=false):=by unfold Hid;rw [HSB.out];simp
      go_wp2_with (go_at_call 197;refine (HM2.out _ HBA.out.1.1).mono ?_;rintro e w4 ⟨rfl,ok⟩;have HO4:=aA (aB HBA.out.1.1 ok);clear ok)
      go_ret;exact ⟨aC HR.out.symm,HO4.out⟩
    · go_wp2_with (go_at_call 197;refine (HM2.out _ HBA.out.1.1).mono ?_;rintro e w4 ⟨rfl,ok⟩;have HO4:Hid ((Below w.heap.size w w4∧BxM w4 w.heap.size (.slice a1 l1 c1) (.slice a2 l2 c2) (.slice a3 l3 c3) (.slice a4 l4 c4))∧w4.heap[g]? =some (cA (.slice a1 l1 c1) (.slice a2 l2 c2) (.slice a3 l3 c3) (.slice a4 l4 c4))):=⟨⟨aB HBA.out.1.1 ok,HKB.out _ _ HBA.out.1.2 ok⟩,(ok.block g (Array.getElem?_eq_some_iff.1 HBA.out.2).1).trans HBA.out.2⟩;clear ok)
      exact ⟨⟨2,by omega,rfl,HO4.out,(fun _=>trivial),(fun _=>trivial),(fun h=>by omega),(fun h=>by omega)⟩,by simp [intOf]⟩
  · have e1':=e1 (by omega)
    have e2':=e2 (by omega);subst e1' e2';have q0:wr.cell? ⟨g,4,none⟩=some (.string ⟨#[108,105,107,101,115]⟩):=by rw [Lib.cell_of_heap HB.out.2];rfl
    have q1:wr.cell? ⟨g,5,none⟩=some (.slice a3 l3 c3):=by rw [Lib.cell_of_heap HB.out.2];rfl
    have HBA:Hid ((Below w.heap.size w (wr.alloc (.cells #[.string ⟨#[108,105,107,101,115]⟩,.slice a3 l3 c3] 208))∧BxM (wr.alloc (.cells #[.string ⟨#[108,105,107,101,115]⟩,.slice a3 l3 c3] 208)) w.heap.size (.slice a1 l1 c1) (.slice a2 l2 c2) (.slice a3 l3 c3) (.slice a4 l4 c4))∧(wr.alloc (.cells #[.string ⟨#[108,105,107,101,115]⟩,.slice a3 l3 c3] 208)).heap[g]? =some (cA (.slice a1 l1 c1) (.slice a2 l2 c2) (.slice a3 l3 c3) (.slice a4 l4 c4))):=⟨⟨aB HB.out.1.1 (aD _ _),HKB.out _ _ HB.out.1.2 (aD _ _)⟩,((aD _ _).block g (Array.getElem?_eq_some_iff.1 HB.out.2).1).trans HB.out.2⟩;clear hb e1 e2 e3 e4;cases m3
    · have HR:Hid (SB=false):=by unfold Hid;rw [HSB.out];simp
      go_wp2_with (go_at_call 197;refine (HM3.out _ HBA.out.1.1).mono ?_;rintro e w4 ⟨rfl,ok⟩;have HO4:=aA (aB HBA.out.1.1 ok);clear ok)
      go_ret;exact ⟨aC HR.out.symm,HO4.out⟩
    · go_wp2_with (go_at_call 197;refine (HM3.out _ HBA.out.1.1).mono ?_;rintro e w4 ⟨rfl,ok⟩;have HO4:Hid ((Below w.heap.size w w4∧BxM w4 w.heap.size (.slice a1 l1 c1) (.slice a2 l2 c2) (.slice a3 l3 c3) (.slice a4 l4 c4))∧w4.heap[g]? =some (cA (.slice a1 l1 c1) (.slice a2 l2 c2) (.slice a3 l3 c3) (.slice a4 l4 c4))):=⟨⟨aB HBA.out.1.1 ok,HKB.out _ _ HBA.out.1.2 ok⟩,(ok.block g (Array.getElem?_eq_some_iff.1 HBA.out.2).1).trans HBA.out.2⟩;clear ok)
      exact ⟨⟨3,by omega,rfl,HO4.out,(fun _=>trivial),(fun _=>trivial),(fun _=>trivial),(fun h=>by omega)⟩,by simp [intOf]⟩
  · have e1':=e1 (by omega)
    have e2':=e2 (by omega);have e3':=e3 (by omega);subst e1' e2' e3';have q0:wr.cell? ⟨g,6,none⟩=some (.string ⟨#[112,105,110,115]⟩):=by rw [Lib.cell_of_heap HB.out.2];rfl
    have q1:wr.cell? ⟨g,7,none⟩=some (.slice a4 l4 c4):=by rw [Lib.cell_of_heap HB.out.2];rfl
    have HBA:Hid ((Below w.heap.size w (wr.alloc (.cells #[.string ⟨#[112,105,110,115]⟩,.slice a4 l4 c4] 208))∧BxM (wr.alloc (.cells #[.string ⟨#[112,105,110,115]⟩,.slice a4 l4 c4] 208)) w.heap.size (.slice a1 l1 c1) (.slice a2 l2 c2) (.slice a3 l3 c3) (.slice a4 l4 c4))∧(wr.alloc (.cells #[.string ⟨#[112,105,110,115]⟩,.slice a4 l4 c4] 208)).heap[g]? =some (cA (.slice a1 l1 c1) (.slice a2 l2 c2) (.slice a3 l3 c3) (.slice a4 l4 c4))):=⟨⟨aB HB.out.1.1 (aD _ _),HKB.out _ _ HB.out.1.2 (aD _ _)⟩,((aD _ _).block g (Array.getElem?_eq_some_iff.1 HB.out.2).1).trans HB.out.2⟩;clear hb e1 e2 e3 e4;cases m4
    · have HR:Hid (SB=false):=by unfold Hid;rw [HSB.out];simp
      go_wp2_with (go_at_call 197;refine (HM4.out _ HBA.out.1.1).mono ?_;rintro e w4 ⟨rfl,ok⟩;have HO4:=aA (aB HBA.out.1.1 ok);clear ok)
      go_ret;exact ⟨aC HR.out.symm,HO4.out⟩
    · go_wp2_with (go_at_call 197;refine (HM4.out _ HBA.out.1.1).mono ?_;rintro e w4 ⟨rfl,ok⟩;have HO4:Hid ((Below w.heap.size w w4∧BxM w4 w.heap.size (.slice a1 l1 c1) (.slice a2 l2 c2) (.slice a3 l3 c3) (.slice a4 l4 c4))∧w4.heap[g]? =some (cA (.slice a1 l1 c1) (.slice a2 l2 c2) (.slice a3 l3 c3) (.slice a4 l4 c4))):=⟨⟨aB HBA.out.1.1 ok,HKB.out _ _ HBA.out.1.2 ok⟩,(ok.block g (Array.getElem?_eq_some_iff.1 HBA.out.2).1).trans HBA.out.2⟩;clear ok)
      exact ⟨⟨4,by omega,rfl,HO4.out,(fun _=>trivial),(fun _=>trivial),(fun _=>trivial),(fun _=>trivial)⟩,by simp [intOf]⟩
  · have e1':=e1 (by omega)
    have e2':=e2 (by omega);have e3':=e3 (by omega);have e4':=e4 (by omega);subst e1' e2' e3' e4';have HR:Hid (SB=ob):=by unfold Hid;rw [HSB.out];simp
    have HEW:=aA (HEO.out rfl rfl rfl);obtain ⟨k0,k1,k2,k3,k4⟩:=HB.out.1.2;clear hb e1 e2 e3 e4
    go_wp2_with (go_at_call 198;refine (HEW.out _ HB.out.1.1).mono ?_;rintro e w4 ⟨rfl,ok⟩;have HO4:=aA (aB (aB HB.out.1.1 (aD _ _)) ok);clear ok)
    go_ret;exact ⟨aC HR.out.symm,HO4.out⟩
end Go.Proofs.YtpfemjlhklnfoaaGreatDoor
