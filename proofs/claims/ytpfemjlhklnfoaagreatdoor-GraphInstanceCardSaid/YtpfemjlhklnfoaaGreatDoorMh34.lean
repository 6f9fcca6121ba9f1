/- Gi2, Bk1, RwW, RwGg, RwGw, Gi3: their declarations that are needed, laid in one text, remarks and blanks left out. -/
import Derived.Deep.DeepHandedRow
import Derived.Deep.DeepWitnessRowRef
import Derived.Test.YtpfemjlhklnfoaaGreatDoorMh33
namespace Go.Proofs.YtpfemjlhklnfoaaGreatDoor
open Go.Shelf Go.RowKit Go.Maps Go.WideMaps
set_option maxRecDepth 100000
def OG (G:List Nd):Prop:=Lo.dS G=true∧∀ {i m:Nat} (hi:i<G.length) (hm:m<G.length) (e:Eg),e ∈ G[i].ed→e.to=(m:Int)→∀ q ∈ G[m].cx,∃ t,∃ ht:t<G.length,1≤t∧toP G[i].ed q.nm=(t:Int)∧toP G[m].ed q.nm=(t:Int)∧G[t].a=q.a∧G[t].b=q.b∧G[t].c=q.c
set_option maxHeartbeats 25600000 in
theorem jN {G:List Nd} {P:Mn} {Ps:List Pg} {ad ap x1 x2 x3 x4:Option Addr} {cap cp z1 z2 z3 z4:Nat} {dv:Bool} {w:World} (hG:NodesAt w (.slice ad G.length cap) G) (hps:PgsAt w (.slice ap Ps.length cp) Ps) (hpz:Ps.length≤9223372036854775807) (hpo:∀ P ∈ Ps,lH P)
 (hM:MnAt w P (.slice x1 P.d.length z1) (.slice x2 P.v.length z2) (.slice x3 P.o.length z3) (.slice x4 P.p.length z4)) (he:Env w) (hf:FL w):
 Calls Tryz.prog 7 #[.agg #[.slice ad G.length cap],.agg #[.slice ap Ps.length cp,.slice x1 P.d.length z1,.slice x2 P.v.length z2,.slice x3 P.o.length z3,.slice x4 P.p.length z4,.bool dv]] w fun e w'=>e= .returned (.bool true)∧Below w.heap.size w w':=by
 have HCT:Hid (∀ W,Below w.heap.size w W→Calls Tryz.prog 25 #[.agg #[.slice ap Ps.length cp,.slice x1 P.d.length z1,.slice x2 P.v.length z2,.slice x3 P.o.length z3,.slice x4 P.p.length z4,.bool dv]] W fun e w'=>LY W w' e):=fun W h=>sV (he.below h) (hf.below h) (hps.below h) hpz hpo
 have HCK:Hid (∀ W B C Q L,Below w.heap.size w W→CatAt W B C Q L→L.length≤128→Calls Tryz.prog 26 #[.agg #[.slice ad G.length cap],.pointer (some ⟨C,0,none⟩),.agg #[.slice x1 P.d.length z1,.slice x2 P.v.length z2,.slice x3 P.o.length z3,.slice x4 P.p.length z4],.bool dv] W fun e w'=>e= .returned (.int .i64 (pM L P dv G))∧Below W.heap.size W w'):=fun W B C Q L h hc hl=>DR (hG.below h) hc hl ⟨hM.1.below h,hM.2.1.below h,hM.2.2.1.below h,hM.2.2.2.below h⟩ (he.below h) (hf.below h)
 have HLV:Hid (∀ W,Below w.heap.size w W→Calls Tryz.prog 28 #[] W fun e w'=>e= .returned (.bool true)∧Below W.heap.size W w'):=fun W h=>vV (he.below h) (hf.below h)
 have HNG:Hid (∀ W,Below w.heap.size w W→NodesAt W (.slice ad G.length cap) G):=fun W h=>hG.below h
 have HFM:Hid (∀ L,pM L P dv G=0→OG G):=fun L h=>⟨(oZ h).2.1.1,fun hi hm e he hto q hq=>sY h hi hm he hto hq⟩
 clear hG hps hpz hpo hM he hf;have HKP:Hid (KeepP fun W=>((Below w.heap.size w W∧BxG W w.heap.size (.slice ad G.length cap))∧BxW6 W (w.heap.size+1) (.slice ap Ps.length cp) (.slice x1 P.d.length z1) (.slice x2 P.v.length z2) (.slice x3 P.o.length z3) (.slice x4 P.p.length z4) (.bool dv))):=((aG w).and (bY _ _)).and (IW _ _ _ _ _ _ _)
 have HK0:Hid ((Below w.heap.size w ((w.alloc (.cells #[.slice ad G.length cap] 55)).alloc (.cells #[.slice ap Ps.length cp,.slice x1 P.d.length z1,.slice x2 P.v.length z2,.slice x3 P.o.length z3,.slice x4 P.p.length z4,.bool dv] 59))∧BxG ((w.alloc (.cells #[.slice ad G.length cap] 55)).alloc (.cells #[.slice ap Ps.length cp,.slice x1 P.d.length z1,.slice x2 P.v.length z2,.slice x3 P.o.length z3,.slice x4 P.p.length z4,.bool dv] 59)) w.heap.size (.slice ad G.length cap))∧BxW6 ((w.alloc (.cells #[.slice ad G.length cap] 55)).alloc (.cells #[.slice ap Ps.length cp,.slice x1 P.d.length z1,.slice x2 P.v.length z2,.slice x3 P.o.length z3,.slice x4 P.p.length z4,.bool dv] 59)) (w.heap.size+1) (.slice ap Ps.length cp) (.slice x1 P.d.length z1) (.slice x2 P.v.length z2) (.slice x3 P.o.length z3) (.slice x4 P.p.length z4) (.bool dv)):=⟨⟨aR _ _ _,bY _ _ _ _ (BxG.new rfl _) (aD _ _)⟩,BxW6.new (by simp) _ _ _ _ _ _⟩
 obtain ⟨CE,hCE⟩:∃ F,F=fun L=>pM L P dv G:=⟨_,rfl⟩
 have HCE:=aA hCE;have HCK2:Hid (∀ W B C Q L,Below w.heap.size w W→CatAt W B C Q L→L.length≤128→Calls Tryz.prog 26 #[.agg #[.slice ad G.length cap],.pointer (some ⟨C,0,none⟩),.agg #[.slice x1 P.d.length z1,.slice x2 P.v.length z2,.slice x3 P.o.length z3,.slice x4 P.p.length z4],.bool dv] W fun e w'=>e= .returned (.int .i64 (CE L))∧Below W.heap.size W w'):=by rw [hCE];exact HCK.out
 have HFM2:Hid (∀ L,CE L=0→OG G):=by rw [hCE];exact HFM.out
 clear HCK HFM hCE HCE;generalize P.d.length=l1 at*;generalize P.v.length=l2 at*;generalize P.o.length=l3 at*;generalize P.p.length=l4 at*;generalize Ps.length=lp at*;obtain ⟨lg,hlg⟩:∃ n,n=G.length:=⟨_,rfl⟩;have HLG:=aA hlg;rw [←hlg] at HCK2 HNG HKP HK0;rw [←hlg];clear hlg;obtain ⟨⟨_,⟨y0,y1⟩⟩,⟨b0,b1,b2,b3,b4,b5⟩,b6⟩:=HK0.out
 go_enter Tryz.func7,Tryz.ntmps7
 go_wp2_with (go_at_call 25;refine (HCT.out _ HK0.out.1.1).mono ?_;rintro e w1 ⟨C,E,M,L,R,rfl,hbt⟩;have HK1:=aA (HKP.out _ _ HK0.out hbt.2.2.2);have HCT1:=aA hbt.1;obtain ⟨⟨_,⟨y0,y1⟩⟩,⟨b0,b1,b2,b3,b4,b5⟩,b6⟩:=HK1.out;clear hbt)
 have HF2:=aA (HFM2.out L);have HC3:=aA (HCK2.out _ _ _ _ _ HK1.out.1.1 HCT1.out.1 HCT1.out.2);clear HFM2 HCK2 HCT HK0 HCT1;generalize CE L=ce at*
 by_cases hce:ce=0
 · have HF3:=aA (HF2.out hce)
   subst hce;clear HF2
   go_wp2_with (go_at_call 26;refine HC3.out.mono ?_;rintro e w2 ⟨rfl,ok⟩;have HK2:=aA (HKP.out _ _ HK1.out ok).1;obtain ⟨_,⟨y0,y1⟩⟩:=HK2.out;clear ok)
   clear HKP HC3 HK1 b0 b1 b2 b3 b4 b5 b6;have HG:=aA (dZ HF3.out.1);have hlp:=HLG.out;have hl1:1≤lg:=by have:=HG.out.pos;omega
   have hl2:lg≤128:=by have:=HG.out.len;omega
   clear hlp
   obtain ⟨g,o,hgo⟩:∃ g o,ad=some ⟨g,o,none⟩:=by
    obtain ⟨a,c,e,_,hcs⟩:=HNG.out w2 HK2.out.1;injection e with e1 _ _
    rcases hcs with h|⟨g,o,h1,_,_⟩
    · exfalso
      have q:=HLG.out;rw [h] at q
      simp at q
      omega
    · exact ⟨g,o,e1.trans h1⟩
   subst hgo
   have HND:Hid (∀ W,Below w.heap.size w W→∀ i (h:i<G.length),∃ vc ve,NdIn W g (o+i*6) G[i] vc ve):=fun W hW i hi=>by
    obtain ⟨a,c,e,_,hcs⟩:=HNG.out W hW;injection e with e1 _ _
    rcases hcs with h|⟨g',o',h1,_,h2⟩
    · rw [h] at hi;cases hi
    · cases e1.trans h1
      exact h2 i hi
   clear HNG
   go_loopw [8] (fun vi wr=>∃ i:Nat,i≤lg∧vi= .int .i64 i∧(Below w.heap.size w wr∧BxG wr w.heap.size (.slice (some ⟨g,o,none⟩) lg cap))) (fun vi _=>lg - (intOf vi).toNat)
   case atStart=>exact ⟨0,Nat.zero_le _,rfl,HK2.out⟩
   case round=>
    clear HK2;obtain ⟨i,hi2,rfl,hb⟩:=hrel;have HB:=aA hb
    by_cases hlt:i<lg
    · have hki:(i:Int)<(lg:Int):=by omega
      have hiG:i<G.length:=by have:=HLG.out;omega
      have HXZ:Hid (∀ W,Below w.heap.size w W→∃ vc ve,NdIn W g (o+i*6) G[i] vc ve):=fun W h=>HND.out W h i hiG
      have HIE:=aA (fun e he=>HG.out.edge _ (List.getElem_mem hiG) e he);have hzx:=(HG.out.sm _ (List.getElem_mem hiG)).2;have HIN:Hid (∀ e ∈ G[i].ed,∀ m,∀ hm:m<G.length,e.to=(m:Int)→∀ q ∈ G[m].cx,∃ t,∃ ht:t<G.length,1≤t∧toP G[i].ed q.nm=(t:Int)∧toP G[m].ed q.nm=(t:Int)∧G[t].a=q.a∧G[t].b=q.b∧G[t].c=q.c):=fun e he m hm hto q hq=>HF3.out.2 hiG hm e he hto q hq
      obtain ⟨x,hxe⟩:∃ x,x=G[i]:=⟨_,rfl⟩;rw [←hxe] at HXZ HIE hzx HIN;clear hxe;obtain ⟨_,⟨y0,y1⟩⟩:=hb
      go_wp2_with fail
      clear y0 y1
      go_loopw [9] (fun vk wr=>∃ k:Nat,k≤x.ed.length∧vk= .int .i64 k∧(Below w.heap.size w wr∧BxG wr w.heap.size (.slice (some ⟨g,o,none⟩) lg cap))) (fun vk _=>x.ed.length - (intOf vk).toNat)
      case atStart=>exact ⟨0,Nat.zero_le _,rfl,HB.out⟩
      case round=>
       clear HB;obtain ⟨k,hk,rfl,hb⟩:=hrel;have HB:=aA hb;obtain ⟨wk,hwk⟩:∃ x,x=wr:=⟨_,rfl⟩;subst hwk;obtain ⟨vc,ve,hx⟩:=HXZ.out wk hb.1;obtain ⟨axc,cxc,hvc⟩:=hx.2.1.1.sl;obtain ⟨axe,cxe,hve⟩:=hx.2.1.2.sl;subst hvc hve;have HX:=aA hx
       by_cases hkt:k<x.ed.length
       · have hkk:(k:Int)<(x.ed.length:Int):=by omega
         obtain ⟨ge,oe,hae,hei⟩:∃ ge oe,axe=some ⟨ge,oe,none⟩∧EgIn wk ge (oe+k*2) x.ed[k]:=by
          obtain ⟨a1,c1,hv,hc,hl⟩:=hx.2.1.2;injection hv with hv1 _ _
          rcases hl with h|⟨g,o,h,_,hs⟩
          · rw [h] at hkt;cases hkt
          · exact ⟨g,o,hv1.trans h,hs k hkt⟩
         subst hae;obtain ⟨_,he1,he2⟩:=HIE.out _ (List.getElem_mem hkt);have HI2:=aA (HIN.out _ (List.getElem_mem hkt));obtain ⟨e,hee⟩:∃ e,e=x.ed[k]:=⟨_,rfl⟩;rw [←hee] at hei he1 he2 HI2;clear hee;obtain ⟨m,hm⟩:∃ m:Nat,e.to=(m:Int):=⟨e.to.toNat,by omega⟩;have hmG:m<G.length:=by omega
         have hml:m<lg:=by have:=HLG.out;omega
         have hmi:(m:Int)<(lg:Int):=by omega
         have HI3:=aA (HI2.out m hmG hm);have hzc:=(HG.out.sm _ (List.getElem_mem hmG)).1;have hze:=(HG.out.sm _ (List.getElem_mem hmG)).2;obtain ⟨vc,ve,hy⟩:=HND.out wk hb.1 m hmG;obtain ⟨ayc,cyc,hvc⟩:=hy.2.1.1.sl;obtain ⟨aye,cye,hve⟩:=hy.2.1.2.sl;subst hvc hve;have HYP:Hid (∀ W,Below wk.heap.size wk W→PinsAt W (.slice ayc G[m].cx.length cyc) G[m].cx):=fun W h=>hy.2.1.1.below h
         have HTY:Hid (∀ W s,Below wk.heap.size wk W→Calls Tryz.prog 39 #[.agg #[.string G[m].nm,.int .i64 G[m].a,.int .i64 G[m].b,.int .i64 G[m].c,.slice ayc G[m].cx.length cyc,.slice aye G[m].ed.length cye],.string s] W fun e w'=>e= .returned (.int .i64 (toP G[m].ed s))∧Below W.heap.size W w'):=fun W s h=>IR ⟨_,_,_,rfl⟩ (hy.2.1.2.below h) (by omega)
         have HTX:Hid (∀ W s,Below wk.heap.size wk W→Calls Tryz.prog 39 #[.agg #[.string x.nm,.int .i64 x.a,.int .i64 x.b,.int .i64 x.c,.slice axc x.cx.length cxc,.slice (some ⟨ge,oe,none⟩) x.ed.length cxe],.string s] W fun e w'=>e= .returned (.int .i64 (toP x.ed s))∧Below W.heap.size W w'):=fun W s h=>IR ⟨_,_,_,rfl⟩ (hx.2.1.2.below h) (by omega)
         obtain ⟨⟨e0,e1⟩,e2⟩:=hei;rw [hm] at e1;obtain ⟨⟨p0,p1,p2,p3,p4,p5⟩,hxx,p6⟩:=hx;obtain ⟨⟨r0,r1,r2,r3,r4,r5⟩,hyy,r6⟩:=hy;obtain ⟨y,hye⟩:∃ y,y=G[m]:=⟨_,rfl⟩;rw [←hye] at r0 r1 r2 r3 r4 r5 HYP HTY HI3 hzc hze;clear hxx hyy hye HI2;have HYN:Hid ((Below w.heap.size w (wk.alloc (.cells #[.string y.nm,.int .i64 y.a,.int .i64 y.b,.int .i64 y.c,.slice ayc y.cx.length cyc,.slice aye y.ed.length cye] 67))∧BxG (wk.alloc (.cells #[.string y.nm,.int .i64 y.a,.int .i64 y.b,.int .i64 y.c,.slice ayc y.cx.length cyc,.slice aye y.ed.length cye] 67)) w.heap.size (.slice (some ⟨g,o,none⟩) lg cap))∧BxNd (wk.alloc (.cells #[.string y.nm,.int .i64 y.a,.int .i64 y.b,.int .i64 y.c,.slice ayc y.cx.length cyc,.slice aye y.ed.length cye] 67)) wk.heap.size y (.slice ayc y.cx.length cyc) (.slice aye y.ed.length cye)):=⟨⟨aB hb.1 (aD _ _),bY _ _ _ _ hb.2 (aD _ _)⟩,BxNd.new rfl y _ _⟩;obtain ⟨_,⟨n0,n1⟩⟩:=hb
         have hnw:wk.heap.size≠w.heap.size:=by omega
         have hng:wk.heap.size≠g:=by omega
         have hnge:wk.heap.size≠ge:=by omega
         clear he1 he2 hm
         go_wp2_with fail
         go_region_held3 (fun w'=>w'.cell? ⟨w.heap.size,0,none⟩=some (.slice (some ⟨g,o,none⟩) lg cap)∧w'.cell? ⟨g,o+i*6+5,none⟩=some (.slice (some ⟨ge,oe,none⟩) x.ed.length cxe)∧w'.cell? ⟨ge,oe+k*2+1,none⟩=some (.int .i64 m)∧w'.cell? ⟨g,o+m*6,none⟩=some (.string y.nm)∧w'.cell? ⟨g,o+m*6+1,none⟩=some (.int .i64 y.a)∧w'.cell? ⟨g,o+m*6+2,none⟩=some (.int .i64 y.b)∧w'.cell? ⟨g,o+m*6+3,none⟩=some (.int .i64 y.c)∧w'.cell? ⟨g,o+m*6+4,none⟩=some (.slice ayc y.cx.length cyc)∧w'.cell? ⟨g,o+m*6+5,none⟩=some (.slice aye y.ed.length cye)) (go_keep) (fail)
         have HK4:Hid ((((Below w.heap.size w (wk.alloc (.cells #[.string y.nm,.int .i64 y.a,.int .i64 y.b,.int .i64 y.c,.slice ayc y.cx.length cyc,.slice aye y.ed.length cye] 67)).drew∧BxG (wk.alloc (.cells #[.string y.nm,.int .i64 y.a,.int .i64 y.b,.int .i64 y.c,.slice ayc y.cx.length cyc,.slice aye y.ed.length cye] 67)).drew w.heap.size (.slice (some ⟨g,o,none⟩) lg cap))∧BxNd (wk.alloc (.cells #[.string y.nm,.int .i64 y.a,.int .i64 y.b,.int .i64 y.c,.slice ayc y.cx.length cyc,.slice aye y.ed.length cye] 67)).drew wk.heap.size y (.slice ayc y.cx.length cyc) (.slice aye y.ed.length cye))∧Below wk.heap.size wk (wk.alloc (.cells #[.string y.nm,.int .i64 y.a,.int .i64 y.b,.int .i64 y.c,.slice ayc y.cx.length cyc,.slice aye y.ed.length cye] 67)).drew)):=⟨⟨⟨HYN.out.1.1.drew,KeepP.drew (bY _ _) HYN.out.1.2⟩,KeepP.drew (aZ _ _ _ _) HYN.out.2⟩,(aD _ _).drew⟩
         have HKP4:Hid (KeepP fun W=>(((Below w.heap.size w W∧BxG W w.heap.size (.slice (some ⟨g,o,none⟩) lg cap))∧BxNd W wk.heap.size y (.slice ayc y.cx.length cyc) (.slice aye y.ed.length cye))∧Below wk.heap.size wk W)):=(((aG w).and (bY _ _)).and (aZ _ _ _ _)).and (aG wk);clear HYN e0 e1 e2 p0 p1 p2 p3 p4 p5 p6 r0 r1 r2 r3 r4 r5 r6 n0 n1 hnw hng hnge;generalize (wk.alloc (.cells #[.string y.nm,.int .i64 y.a,.int .i64 y.b,.int .i64 y.c,.slice ayc y.cx.length cyc,.slice aye y.ed.length cye] 67)).drew=Wp at*
         go_wp2_with fail
         go_loopw [11] (fun vj wr=>∃ j:Nat,j≤y.cx.length∧vj= .int .i64 j∧(((Below w.heap.size w wr∧BxG wr w.heap.size (.slice (some ⟨g,o,none⟩) lg cap))∧BxNd wr wk.heap.size y (.slice ayc y.cx.length cyc) (.slice aye y.ed.length cye))∧Below wk.heap.size wk wr)) (fun vj _=>y.cx.length - (intOf vj).toNat)
         case atStart=>exact ⟨0,Nat.zero_le _,rfl,HK4.out⟩
         case round=>
          clear HK4;obtain ⟨j,hj,rfl,hb4⟩:=hrel;have HB4:=aA hb4
          by_cases hjt:j<y.cx.length
          · have hjj:(j:Int)<(y.cx.length:Int):=by omega
            obtain ⟨gq,oq,hay,hpq⟩:∃ gq oq,ayc=some ⟨gq,oq,none⟩∧PnIn wr gq (oq+j*4) y.cx[j]:=by
             obtain ⟨a1,c1,hv,hc,hl⟩:=HYP.out wr hb4.2;injection hv with hv1 _ _
             rcases hl with h|⟨g,o,h,_,hs⟩
             · rw [h] at hjt;cases hjt
             · exact ⟨g,o,hv1.trans h,hs j hjt⟩
            subst hay;obtain ⟨t,htG,ht1,htx,hty,hta,htb,htc⟩:=HI3.out _ (List.getElem_mem hjt);obtain ⟨q,hqe⟩:∃ q,q=y.cx[j]:=⟨_,rfl⟩;rw [←hqe] at hpq htx hty hta htb htc;clear hqe;obtain ⟨vc,ve,hu⟩:=HND.out wr hb4.1.1.1 t htG;obtain ⟨auc,cuc,hvc⟩:=hu.2.1.1.sl;obtain ⟨aue,cue,hve⟩:=hu.2.1.2.sl;subst hvc hve;obtain ⟨u,hue⟩:∃ u,u=G[t]:=⟨_,rfl⟩;rw [←hue] at hu hta htb htc;clear hue;have HTX2:Hid (∀ W,Below wk.heap.size wk W→Calls Tryz.prog 39 #[.agg #[.string x.nm,.int .i64 x.a,.int .i64 x.b,.int .i64 x.c,.slice axc x.cx.length cxc,.slice (some ⟨ge,oe,none⟩) x.ed.length cxe],.string q.nm] W fun e w'=>e= .returned (.int .i64 t)∧Below W.heap.size W w'):=fun W h=>by rw [←htx];exact HTX.out W q.nm h
            have HTY2:Hid (∀ W,Below wk.heap.size wk W→Calls Tryz.prog 39 #[.agg #[.string y.nm,.int .i64 y.a,.int .i64 y.b,.int .i64 y.c,.slice (some ⟨gq,oq,none⟩) y.cx.length cyc,.slice aye y.ed.length cye],.string q.nm] W fun e w'=>e= .returned (.int .i64 t)∧Below W.heap.size W w'):=fun W h=>by rw [←hty];exact HTY.out W q.nm h
            have hv:∀ W,(binOp .neq 31 (.agg #[.int .i64 u.a,.int .i64 u.b,.int .i64 u.c]) (.agg #[.int .i64 q.a,.int .i64 q.b,.int .i64 q.c])).run Tryz.prog W= .ok (.bool false) W:=fun W=>by
             have e:=OH u.a u.b u.c q.a q.b q.c W;rw [decide_eq_true ⟨hta,htb,htc⟩] at e;exact e
            have hgd:=iW;have HO:Hid ((((((Below w.heap.size w wr∧BxG wr w.heap.size (.slice (some ⟨g,o,none⟩) lg cap))∧BxNd wr wk.heap.size y (.slice (some ⟨gq,oq,none⟩) y.cx.length cyc) (.slice aye y.ed.length cye))∧Below wk.heap.size wk wr)∧NdIn wr g (o+i*6) x (.slice axc x.cx.length cxc) (.slice (some ⟨ge,oe,none⟩) x.ed.length cxe))∧(PnIn wr gq (oq+j*4) q∧NdIn wr g (o+t*6) u (.slice auc u.cx.length cuc) (.slice aue u.ed.length cue)))):=⟨⟨hb4,HX.out.below hb4.2⟩,hpq,hu⟩
            have HK:Hid (KeepP fun W=>(((((Below w.heap.size w W∧BxG W w.heap.size (.slice (some ⟨g,o,none⟩) lg cap))∧BxNd W wk.heap.size y (.slice (some ⟨gq,oq,none⟩) y.cx.length cyc) (.slice aye y.ed.length cye))∧Below wk.heap.size wk W)∧NdIn W g (o+i*6) x (.slice axc x.cx.length cxc) (.slice (some ⟨ge,oe,none⟩) x.ed.length cxe))∧(PnIn W gq (oq+j*4) q∧NdIn W g (o+t*6) u (.slice auc u.cx.length cuc) (.slice aue u.ed.length cue)))):=(HKP4.out.and (sJ _ _ _ _ _)).and ((mK _ _ _).and (sJ _ _ _ _ _));obtain ⟨⟨⟨_,⟨n0,n1⟩⟩,⟨⟨s0,s1,s2,s3,s4,s5⟩,s6⟩⟩,hbk⟩:=hb4;have htl:t<lg:=by have:=HLG.out;omega
            have hti:(t:Int)<(lg:Int):=by omega
            have hd1:decide ((t:Int)<1)=false:=decide_eq_false (by omega);have hd2:¬ (t:Int)<1:=by omega
            have hd3:¬ t=0:=by omega
            clear hta htb htc htx hty hu hpq
            go_wp2_with fail
            clear n0 n1 s0 s1 s2 s3 s4 s5 s6 hbk;refine bA HK (by kernel_rfl) (by kernel_rfl) (by first|exact HO.out|exact HK.out.drew HO.out) ?_;intro C HIN HOUT;clear HO
            repeat
             (with_reducible refine wpQuiet_step (fun K hK=> ?_)
              go_simp
              first
               |(refine hK _ ?_;clear hK K)
               |(apply Exists.intro;refine ⟨fun w1 hC=> ?_,hK _ ?_⟩;(focus ((first|(go_at_call 39;with_reducible exact cI HIN HOUT HK (fun w1 hk=>HTX2.out w1 hk.1.1.2) w1 hC)|(exact rfl)|(obtain ⟨⟨⟨⟨⟨hb1,⟨n0,n1⟩⟩,⟨⟨s0,s1,s2,s3,s4,s5⟩,s6⟩⟩,hbk⟩,⟨⟨p0,p1,p2,p3,p4,p5⟩,_,p6⟩⟩,⟨⟨⟨q0,q1,q2,q3⟩,q6⟩,⟨⟨u0,u1,u2,u3,u4,u5⟩,_,u6⟩⟩⟩:=HOUT.out w1 hC;clear hC;go_simp;first|done|exact rfl));done));clear hK K))
            refine wpQuiet_nil ?_;intro wn hC;have HO:=aA (HOUT.out _ hC);clear hC HIN HOUT C;obtain ⟨⟨⟨⟨⟨hb1,⟨n0,n1⟩⟩,⟨⟨s0,s1,s2,s3,s4,s5⟩,s6⟩⟩,hbk⟩,⟨⟨p0,p1,p2,p3,p4,p5⟩,_,p6⟩⟩,⟨⟨⟨q0,q1,q2,q3⟩,q6⟩,⟨⟨u0,u1,u2,u3,u4,u5⟩,_,u6⟩⟩⟩:=HO.out
            go_wp2_with fail
            clear hb1 n0 n1 s0 s1 s2 s3 s4 s5 s6 hbk p0 p1 p2 p3 p4 p5 p6 q0 q1 q2 q3 q6 u0 u1 u2 u3 u4 u5 u6;refine bA HK (by kernel_rfl) (by kernel_rfl) (by first|exact HO.out|exact HK.out.drew HO.out) ?_;intro C HIN HOUT;clear HO
            repeat
             (with_reducible refine wpQuiet_step (fun K hK=> ?_)
              go_simp
              first
               |(refine hK _ ?_;clear hK K)
               |(apply Exists.intro;refine ⟨fun w1 hC=> ?_,hK _ ?_⟩;(focus ((first|(go_at_call 39;with_reducible exact cI HIN HOUT HK (fun w1 hk=>HTY2.out w1 hk.1.1.2) w1 hC)|(exact rfl)|(obtain ⟨⟨⟨⟨⟨hb1,⟨n0,n1⟩⟩,⟨⟨s0,s1,s2,s3,s4,s5⟩,s6⟩⟩,hbk⟩,⟨⟨p0,p1,p2,p3,p4,p5⟩,_,p6⟩⟩,⟨⟨⟨q0,q1,q2,q3⟩,q6⟩,⟨⟨u0,u1,u2,u3,u4,u5⟩,_,u6⟩⟩⟩:=HOUT.out w1 hC;clear hC;go_simp;first|done|exact rfl));done));clear hK K))
            refine wpQuiet_nil ?_;intro wn hC;have HO:=aA (HOUT.out _ hC);clear hC HIN HOUT C;obtain ⟨⟨⟨⟨⟨hb1,⟨n0,n1⟩⟩,⟨⟨s0,s1,s2,s3,s4,s5⟩,s6⟩⟩,hbk⟩,⟨⟨p0,p1,p2,p3,p4,p5⟩,_,p6⟩⟩,⟨⟨⟨q0,q1,q2,q3⟩,q6⟩,⟨⟨u0,u1,u2,u3,u4,u5⟩,_,u6⟩⟩⟩:=HO.out
            go_wp2_with fail
            clear hb1 n0 n1 s0 s1 s2 s3 s4 s5 s6 hbk p0 p1 p2 p3 p4 p5 p6 q0 q1 q2 q3 q6 u0 u1 u2 u3 u4 u5 u6;refine bA HK (by kernel_rfl) (by kernel_rfl) (by first|exact HO.out|exact HK.out.drew HO.out) ?_;intro C HIN HOUT;clear HO
            repeat
             (with_reducible refine wpQuiet_step (fun K hK=> ?_)
              go_simp
              first
               |(refine hK _ ?_;clear hK K)
               |(apply Exists.intro;refine ⟨fun w1 hC=> ?_,hK _ ?_⟩;(focus ((first|(exact rfl)|(obtain ⟨⟨⟨⟨⟨hb1,⟨n0,n1⟩⟩,⟨⟨s0,s1,s2,s3,s4,s5⟩,s6⟩⟩,hbk⟩,⟨⟨p0,p1,p2,p3,p4,p5⟩,_,p6⟩⟩,⟨⟨⟨q0,q1,q2,q3⟩,q6⟩,⟨⟨u0,u1,u2,u3,u4,u5⟩,_,u6⟩⟩⟩:=HOUT.out w1 hC;clear hC;go_simp;first|done|exact rfl));done));clear hK K))
            refine wpQuiet_nil ?_;intro wn hC;have HO:=aA (HOUT.out _ hC);clear hC HIN HOUT C;obtain ⟨⟨⟨⟨⟨hb1,⟨n0,n1⟩⟩,⟨⟨s0,s1,s2,s3,s4,s5⟩,s6⟩⟩,hbk⟩,⟨⟨p0,p1,p2,p3,p4,p5⟩,_,p6⟩⟩,⟨⟨⟨q0,q1,q2,q3⟩,q6⟩,⟨⟨u0,u1,u2,u3,u4,u5⟩,_,u6⟩⟩⟩:=HO.out
            go_wp2_with fail
            exact ⟨⟨j+1,by omega,by go_num,HO.out.1.1⟩,by simp [intOf];omega⟩
          · obtain rfl:j=y.cx.length:=by omega
            have hjj:¬ ((y.cx.length:Int)<(y.cx.length:Int)):=by omega
            obtain ⟨⟨⟨_,⟨n0,n1⟩⟩,⟨⟨s0,s1,s2,s3,s4,s5⟩,s6⟩⟩,hbk⟩:=hb4
            go_wp2_with fail
            exact ⟨⟨k+1,by omega,by go_num,HB4.out.1.1⟩,by simp [intOf];omega⟩
       · obtain rfl:k=x.ed.length:=by omega
         have hkk:¬ ((x.ed.length:Int)<(x.ed.length:Int)):=by omega
         obtain ⟨⟨p0,p1,p2,p3,p4,p5⟩,hxx,p6⟩:=hx;obtain ⟨_,⟨n0,n1⟩⟩:=hb;clear hxx
         go_wp2_with fail
         exact ⟨⟨i+1,by omega,by go_num,HB.out⟩,by simp [intOf];omega⟩
    · obtain rfl:i=lg:=by omega
      have hki:¬ ((i:Int)<(i:Int)):=by omega
      obtain ⟨_,⟨y0,y1⟩⟩:=hb
      go_wp2_with (go_at_call 28;refine (HLV.out _ HB.out.1).mono ?_;rintro e w9 ⟨rfl,ok⟩;have HK9:=aA (aB HB.out.1 ok);clear ok)
      go_ret;exact ⟨rfl,HK9.out⟩
 · have hcd:(ce != 0)=true:=by simp;exact hce
   clear HF2
   go_wp2_with (first
    |(have _t:=HK2;go_at_call 28;refine (HLV.out _ HK2.out.1.1).mono ?_;rintro e w3 ⟨rfl,ok⟩;have HK3:=aA (aB HK2.out.1.1 ok);clear ok)
    |(go_at_call 26;refine HC3.out.mono ?_;rintro e w2 ⟨rfl,ok⟩;have HK2:=aA (HKP.out _ _ HK1.out ok);clear ok))
   go_ret;exact ⟨rfl,HK3.out⟩
end Go.Proofs.YtpfemjlhklnfoaaGreatDoor
namespace Go.Proofs.YtpfemjlhklnfoaaGreatDoor
open Go.ChangeShapes Go.WideShapes Go.ChangeAt Go.RowKit Go.ChangeMaps
set_option maxRecDepth 100000
theorem DU:Tryz.prog.cellsOf 57=4:=by kernel_rfl
end Go.Proofs.YtpfemjlhklnfoaaGreatDoor
namespace Go.Proofs.YtpfemjlhklnfoaaGreatDoor
open Go.ChangeShapes Go.WideShapes Go.ChangeAt Go.RowKit
set_option maxRecDepth 100000
def gC (W:World) (v:Value) (L:List Dp):Prop:=DepsAt W v L∧L.length≤9223372036854775807∧∀ d ∈ L,d.nm.size≤9223372036854775807
theorem NN {H:Type} {enc:TypeId×Value→H} {W:World} {base n:Nat} {held:Bool} {cs:List Value} {x:DataW H×List MemPlace} (h:DataW.trod enc Tryz.prog W base (fun _=>true) held n 57 cs=some x):
 ∃ v1 v2 v3 v4 L1 L2 L3 L4,(cs[0]? =some v1∧cs[1]? =some v2∧cs[2]? =some v3∧cs[3]? =some v4)∧gC W v1 L1∧gC W v2 L2∧gC W v3 L3∧gC W v4 L4:=by
 have hs:Tryz.prog.underlying 57=some (.struct (Tryz.prog.fieldsOf 57)):=by kernel_rfl
 obtain ⟨xs,n',_,_,_,hxl,hf⟩:=DataW.trod_struct hs h;have hfz:(Tryz.prog.fieldsOf 57).size=4:=by kernel_rfl
 have get:∀ i,((Tryz.prog.fieldsOf 57)[i]?).map (fun f=>(f.type,f.offset))=some (32,i)→i<4→∃ v L,cs[i]? =some v∧gC W v L:=by
  intro i hfd hi;obtain ⟨f,h1,h2,h3⟩:=bB hfd;have hr:=hf i f h1;rw [h2,h3,iH,List.getElem?_eq_getElem (by omega:i<xs.length)] at hr;obtain ⟨v,L,e,hL,hz,hm⟩:=mJ hr;exact ⟨v,L,eF e,hL,hz,hm⟩
 obtain ⟨v1,L1,k1,h1⟩:=get 0 (by kernel_rfl) (by decide);obtain ⟨v2,L2,k2,h2⟩:=get 1 (by kernel_rfl) (by decide);obtain ⟨v3,L3,k3,h3⟩:=get 2 (by kernel_rfl) (by decide);obtain ⟨v4,L4,k4,h4⟩:=get 3 (by kernel_rfl) (by decide);exact ⟨v1,v2,v3,v4,L1,L2,L3,L4,⟨k1,k2,k3,k4⟩,h1,h2,h3,h4⟩
end Go.Proofs.YtpfemjlhklnfoaaGreatDoor
namespace Go.Proofs.YtpfemjlhklnfoaaGreatDoor.Rg
open Go.ChangeShapes Go.WideShapes Go.ChangeAt Go.RowKit
set_option maxRecDepth 100000
theorem jV {H:Type} {enc:TypeId×Value→H} {W:World} {base:Nat} {spare:Nat→Bool} {held:Bool} {n:Nat} {cs:List Value} {x:DataW H×List MemPlace} (h:DataW.trod enc Tryz.prog W base spare held n 31 cs=some x):
 ∃ a b c,cs[0]? =some (.int .i64 a)∧cs[1]? =some (.int .i64 b)∧cs[2]? =some (.int .i64 c)∧x.1= .agg [.lit (.int .i64 a),.lit (.int .i64 b),.lit (.int .i64 c)]:=by
 have hs:Tryz.prog.underlying 31=some (.struct (Tryz.prog.fieldsOf 31)):=by kernel_rfl
 obtain ⟨xs,n',_,hx,_,hxl,hf⟩:=DataW.trod_struct hs h;have hfz:(Tryz.prog.fieldsOf 31).size=3:=by kernel_rfl
 have ints:∀ i off,((Tryz.prog.fieldsOf 31)[i]?).map (fun f=>(f.type,f.offset))=some (3,off)→i<3→∃ k,cs[off]? =some (.int .i64 k)∧xs[i]? =some (.lit (.int .i64 k),[]):=by
  intro i off hfd hi;obtain ⟨f,h1,h2,h3⟩:=bB hfd;have hr:=hf i f h1;rw [h2,h3,mY,List.getElem?_eq_getElem (by omega:i<xs.length)] at hr;obtain ⟨k,e1,e2,wk⟩:=DataW.trod_int Tryz.underlying3 hr;exact ⟨k,mZ e1,by rw [List.getElem?_eq_getElem (by omega:i<xs.length),e2]⟩
 obtain ⟨a,a0,x0⟩:=ints 0 0 (by kernel_rfl) (by decide);obtain ⟨b,a1,x1⟩:=ints 1 1 (by kernel_rfl) (by decide);obtain ⟨c,a2,x2⟩:=ints 2 2 (by kernel_rfl) (by decide);refine ⟨a,b,c,a0,a1,a2,?_⟩;rw [hx];obtain ⟨y0,y1,y2,rfl⟩:=LV (l:=xs) (by omega)
 simp at x0 x1 x2
 subst x0 x1 x2;rfl
theorem eE {α:Type} {P:Nat→α→Prop}:∀ {n:Nat},(∀ i,i<n→∃ s,P i s)→∃ L:List α,L.length=n∧∀ i (h:i<L.length),P i L[i]
 |0,_=>⟨[],rfl,fun i h=>by simp at h⟩
 |n+1,h=>by
  obtain ⟨L,hl,hP⟩:=eE (n:=n) fun i hi=>h i (by omega)
  obtain ⟨s,hs⟩:=h n (by omega);refine ⟨L++[s],by simp [hl],fun i hi=> ?_⟩
  by_cases hin:i<L.length
  · rw [List.getElem_append_left hin];exact hP i hin
  · have:i=n:=by simp at hi;omega
    subst this
    simpa [hl] using hs
theorem eF {cs:List Value} {o:Nat} {v:Value} (h:(cs.drop o).take 1=[v]):cs[o]? =some v:=by
 have h0:((cs.drop o).take 1)[0]? =some v:=by rw [h];rfl
 simpa using h0
theorem lT:Tryz.prog.cellsOf 9=1:=by kernel_rfl
theorem IY:Tryz.prog.cellsOf 80=4:=by kernel_rfl
theorem DV:Tryz.prog.cellsOf 77=2:=by kernel_rfl
theorem DW:Tryz.prog.cellsOf 67=6:=by kernel_rfl
theorem DX:Tryz.prog.cellsOf 40=1:=by kernel_rfl
theorem yF:Tryz.prog.cellsOf 65=1:=by kernel_rfl
theorem yG:Tryz.prog.cellsOf 53=1:=by kernel_rfl
theorem yH:Tryz.prog.cellsOf 55=1:=by kernel_rfl
theorem DY:Tryz.prog.cellsOf 3=1:=by kernel_rfl
theorem IZ {H:Type} {enc:TypeId×Value→H} {W:World} {base:Nat} {held:Bool} {n:Nat} {g o:Nat} {cs:List Value} {x:DataW H×List MemPlace} (hc:W.cells? base ⟨g,o,none⟩ 4=some cs) (h:DataW.trod enc Tryz.prog W base (fun _=>true) held n 80 cs=some x):∃ d:Pn,PnIn W g o d∧d.nm.size≤9223372036854775807:=by
 have hs:Tryz.prog.underlying 80=some (.struct (Tryz.prog.fieldsOf 80)):=by kernel_rfl
 obtain ⟨xs,n',_,_,_,hxl,hf⟩:=DataW.trod_struct hs h;have hsz:(Tryz.prog.fieldsOf 80).size=2:=by kernel_rfl
 obtain ⟨_,hcl,hq⟩:=World.cells?_some hc;obtain ⟨f0,i0,t0,o0⟩:=bB (fs:=Tryz.prog.fieldsOf 80) (i:=0) (ty:=9) (off:=0) (by kernel_rfl);obtain ⟨f1,i1,t1,o1⟩:=bB (fs:=Tryz.prog.fieldsOf 80) (i:=1) (ty:=31) (off:=1) (by kernel_rfl);have r0:=hf 0 f0 i0;have r1:=hf 1 f1 i1;rw [t0,o0,lT,List.getElem?_eq_getElem (by omega:0<xs.length)] at r0;rw [t1,o1,jT,List.getElem?_eq_getElem (by omega:1<xs.length)] at r1;obtain ⟨s,e0,_,hs0⟩:=DataW.trod_string Tryz.underlying9 r0;obtain ⟨a,b,c,ea,eb,ec,_⟩:=jV r1;have ka:((cs.drop 1).take 3)[0]? =some (.int .i64 a):=ea;have kb:((cs.drop 1).take 3)[1]? =some (.int .i64 b):=eb;have kc:((cs.drop 1).take 3)[2]? =some (.int .i64 c):=ec;have q0:=hq 0 (by decide);have q1:=hq 1 (by decide);have q2:=hq 2 (by decide);have q3:=hq 3 (by decide);have ad:∀ i,(⟨g,o,none⟩:Addr).add i=⟨g,o+i,none⟩:=fun i=>by unfold Addr.add;split<;>simp_all
 simp at ka kb kc
 rw [ad,eF e0] at q0;rw [ad,ka] at q1;rw [ad,kb] at q2;rw [ad,kc] at q3;exact ⟨⟨s,a,b,c⟩,⟨⟨q0,q1,q2,q3⟩,dI q0⟩,by unfold maxLen at hs0;exact hs0⟩
theorem DZ {H:Type} {enc:TypeId×Value→H} {W:World} {base:Nat} {held:Bool} {n:Nat} {g o:Nat} {cs:List Value} {x:DataW H×List MemPlace} (hc:W.cells? base ⟨g,o,none⟩ 2=some cs) (h:DataW.trod enc Tryz.prog W base (fun _=>true) held n 77 cs=some x):∃ d:Eg,EgIn W g o d∧d.lb.size≤9223372036854775807:=by
 have hs:Tryz.prog.underlying 77=some (.struct (Tryz.prog.fieldsOf 77)):=by kernel_rfl
 obtain ⟨xs,n',_,_,_,hxl,hf⟩:=DataW.trod_struct hs h;have hsz:(Tryz.prog.fieldsOf 77).size=2:=by kernel_rfl
 obtain ⟨_,hcl,hq⟩:=World.cells?_some hc;obtain ⟨f0,i0,t0,o0⟩:=bB (fs:=Tryz.prog.fieldsOf 77) (i:=0) (ty:=9) (off:=0) (by kernel_rfl);obtain ⟨f1,i1,t1,o1⟩:=bB (fs:=Tryz.prog.fieldsOf 77) (i:=1) (ty:=3) (off:=1) (by kernel_rfl);have r0:=hf 0 f0 i0;have r1:=hf 1 f1 i1;rw [t0,o0,lT,List.getElem?_eq_getElem (by omega:0<xs.length)] at r0;rw [t1,o1,DY,List.getElem?_eq_getElem (by omega:1<xs.length)] at r1;obtain ⟨s,e0,_,hs0⟩:=DataW.trod_string Tryz.underlying9 r0;obtain ⟨k,e1,_,_⟩:=DataW.trod_int Tryz.underlying3 r1;have q0:=hq 0 (by decide);have q1:=hq 1 (by decide);have ad:∀ i,(⟨g,o,none⟩:Addr).add i=⟨g,o+i,none⟩:=fun i=>by unfold Addr.add;split<;>simp_all
 rw [ad,eF e0] at q0;rw [ad,eF e1] at q1;exact ⟨⟨s,k⟩,⟨⟨q0,q1⟩,dI q0⟩,by unfold maxLen at hs0;exact hs0⟩
theorem LS {H:Type} {enc:TypeId×Value→H} {W:World} {base fuel:Nat} {held:Bool} {cs:List Value} {x:DataW H×List MemPlace} (h:DataW.trod enc Tryz.prog W base (fun _=>true) held fuel 40 cs=some x):
 ∃ v L,cs=[v]∧PinsAt W v L∧L.length≤9223372036854775807∧∀ d ∈ L,d.nm.size≤9223372036854775807:=by
 rcases Go.Deep.open_slice Tryz.underlying40 h with ⟨rfl,_⟩|⟨ad,len,cap,m,n,D,Pl,rfl,_,hl,hcm,hm,hx,hel⟩
 · exact ⟨_,[],rfl,⟨none,0,rfl,Nat.le_refl _,Or.inl rfl⟩,by simp,(fun d hd=>by cases hd)⟩
 · have hz:len≤9223372036854775807:=by unfold maxLen at hcm;omega
   rcases Nat.eq_zero_or_pos len with h0|h0
   · subst h0
     exact ⟨_,[],rfl,⟨_,_,rfl,Nat.zero_le _,Or.inl rfl⟩,by simp,(fun d hd=>by cases hd)⟩
   · have hmm:len≤m:=by rw [hm];simp;exact hl
     rw [IY] at hel;obtain ⟨g,off,spot⟩:=ad;obtain ⟨cs0,hc0,_⟩:=hel 0 (by omega);obtain ⟨_,hln,hq⟩:=World.cells?_some hc0;have hcell:=hq 0 (by decide);rw [List.getElem?_eq_getElem (by omega:0<cs0.length)] at hcell;have hspot:spot=none:=by simpa [Addr.add] using World.cell?_spot hcell
     subst hspot;have ad2:∀ o i,(⟨g,o,none⟩:Addr).add i=⟨g,o+i,none⟩:=fun o i=>by unfold Addr.add;split<;>simp_all
     obtain ⟨L,hL,hP⟩:=eE (P:=fun i (d:Pn)=>PnIn W g (off+i*4) d∧d.nm.size≤9223372036854775807) (n:=len) fun i hi=>by
      obtain ⟨cs,hc,ht⟩:=hel i (by omega);rw [ad2] at hc;exact IZ hc ht
     subst hL;refine ⟨_,L,rfl,⟨_,_,rfl,hl,Or.inr ⟨g,off,rfl,?_,fun i hi=>(hP i hi).1⟩⟩,hz,?_⟩
     · have:=dI hcell
       rw [ad2,ad2] at this;exact this
     · intro d hd
       obtain ⟨i,hi,rfl⟩:=List.getElem_of_mem hd;exact (hP i hi).2
theorem JA {H:Type} {enc:TypeId×Value→H} {W:World} {base fuel:Nat} {held:Bool} {cs:List Value} {x:DataW H×List MemPlace} (h:DataW.trod enc Tryz.prog W base (fun _=>true) held fuel 65 cs=some x):
 ∃ v L,cs=[v]∧EdgesAt W v L∧L.length≤9223372036854775807∧∀ d ∈ L,d.lb.size≤9223372036854775807:=by
 rcases Go.Deep.open_slice Tryz.underlying65 h with ⟨rfl,_⟩|⟨ad,len,cap,m,n,D,Pl,rfl,_,hl,hcm,hm,hx,hel⟩
 · exact ⟨_,[],rfl,⟨none,0,rfl,Nat.le_refl _,Or.inl rfl⟩,by simp,(fun d hd=>by cases hd)⟩
 · have hz:len≤9223372036854775807:=by unfold maxLen at hcm;omega
   rcases Nat.eq_zero_or_pos len with h0|h0
   · subst h0
     exact ⟨_,[],rfl,⟨_,_,rfl,Nat.zero_le _,Or.inl rfl⟩,by simp,(fun d hd=>by cases hd)⟩
   · have hmm:len≤m:=by rw [hm];simp;exact hl
     rw [DV] at hel;obtain ⟨g,off,spot⟩:=ad;obtain ⟨cs0,hc0,_⟩:=hel 0 (by omega);obtain ⟨_,hln,hq⟩:=World.cells?_some hc0;have hcell:=hq 0 (by decide);rw [List.getElem?_eq_getElem (by omega:0<cs0.length)] at hcell;have hspot:spot=none:=by simpa [Addr.add] using World.cell?_spot hcell
     subst hspot;have ad2:∀ o i,(⟨g,o,none⟩:Addr).add i=⟨g,o+i,none⟩:=fun o i=>by unfold Addr.add;split<;>simp_all
     obtain ⟨L,hL,hP⟩:=eE (P:=fun i (d:Eg)=>EgIn W g (off+i*2) d∧d.lb.size≤9223372036854775807) (n:=len) fun i hi=>by
      obtain ⟨cs,hc,ht⟩:=hel i (by omega);rw [ad2] at hc;exact DZ hc ht
     subst hL;refine ⟨_,L,rfl,⟨_,_,rfl,hl,Or.inr ⟨g,off,rfl,?_,fun i hi=>(hP i hi).1⟩⟩,hz,?_⟩
     · have:=dI hcell
       rw [ad2,ad2] at this;exact this
     · intro d hd
       obtain ⟨i,hi,rfl⟩:=List.getElem_of_mem hd;exact (hP i hi).2
def NdZ (n:Nd):Prop:=n.nm.size≤9223372036854775807∧(n.cx.length≤9223372036854775807∧∀ d ∈ n.cx,d.nm.size≤9223372036854775807)∧n.ed.length≤9223372036854775807∧∀ d ∈ n.ed,d.lb.size≤9223372036854775807
theorem EA {H:Type} {enc:TypeId×Value→H} {W:World} {base:Nat} {held:Bool} {n:Nat} {g o:Nat} {cs:List Value} {x:DataW H×List MemPlace} (hc:W.cells? base ⟨g,o,none⟩ 6=some cs) (h:DataW.trod enc Tryz.prog W base (fun _=>true) held n 67 cs=some x):∃ d:Nd,(∃ vc ve,NdIn W g o d vc ve)∧NdZ d:=by
 have hs:Tryz.prog.underlying 67=some (.struct (Tryz.prog.fieldsOf 67)):=by kernel_rfl
 obtain ⟨xs,n',_,_,_,hxl,hf⟩:=DataW.trod_struct hs h;have hsz:(Tryz.prog.fieldsOf 67).size=4:=by kernel_rfl
 obtain ⟨_,hcl,hq⟩:=World.cells?_some hc;obtain ⟨f0,i0,t0,o0⟩:=bB (fs:=Tryz.prog.fieldsOf 67) (i:=0) (ty:=9) (off:=0) (by kernel_rfl);obtain ⟨f1,i1,t1,o1⟩:=bB (fs:=Tryz.prog.fieldsOf 67) (i:=1) (ty:=31) (off:=1) (by kernel_rfl);obtain ⟨f2,i2,t2,o2⟩:=bB (fs:=Tryz.prog.fieldsOf 67) (i:=2) (ty:=40) (off:=4) (by kernel_rfl);obtain ⟨f3,i3,t3,o3⟩:=bB (fs:=Tryz.prog.fieldsOf 67) (i:=3) (ty:=65) (off:=5) (by kernel_rfl);have r0:=hf 0 f0 i0;have r1:=hf 1 f1 i1;have r2:=hf 2 f2 i2;have r3:=hf 3 f3 i3;rw [t0,o0,lT,List.getElem?_eq_getElem (by omega:0<xs.length)] at r0;rw [t1,o1,jT,List.getElem?_eq_getElem (by omega:1<xs.length)] at r1;rw [t2,o2,DX,List.getElem?_eq_getElem (by omega:2<xs.length)] at r2;rw [t3,o3,yF,List.getElem?_eq_getElem (by omega:3<xs.length)] at r3;obtain ⟨s,e0,_,hs0⟩:=DataW.trod_string Tryz.underlying9 r0;obtain ⟨a,b,c,ea,eb,ec,_⟩:=jV r1;obtain ⟨vc,L1,e2,h2,z2,m2⟩:=LS r2
 obtain ⟨ve,L2,e3,h3,z3,m3⟩:=JA r3;have ka:((cs.drop 1).take 3)[0]? =some (.int .i64 a):=ea;have kb:((cs.drop 1).take 3)[1]? =some (.int .i64 b):=eb;have kc:((cs.drop 1).take 3)[2]? =some (.int .i64 c):=ec;have q0:=hq 0 (by decide);have q1:=hq 1 (by decide);have q2:=hq 2 (by decide);have q3:=hq 3 (by decide);have q4:=hq 4 (by decide);have q5:=hq 5 (by decide);have ad:∀ i,(⟨g,o,none⟩:Addr).add i=⟨g,o+i,none⟩:=fun i=>by unfold Addr.add;split<;>simp_all
 simp at ka kb kc
 rw [ad,eF e0] at q0;rw [ad,ka] at q1;rw [ad,kb] at q2;rw [ad,kc] at q3;rw [ad,eF e2] at q4;rw [ad,eF e3] at q5;exact ⟨⟨s,a,b,c,L1,L2⟩,⟨vc,ve,⟨q0,q1,q2,q3,q4,q5⟩,⟨h2,h3⟩,dI q0⟩,by unfold maxLen at hs0;exact hs0,⟨z2,m2⟩,z3,m3⟩
theorem JB {H:Type} {enc:TypeId×Value→H} {W:World} {base fuel:Nat} {held:Bool} {cs:List Value} {x:DataW H×List MemPlace} (h:DataW.trod enc Tryz.prog W base (fun _=>true) held fuel 53 cs=some x):
 ∃ v L,cs=[v]∧NodesAt W v L∧L.length≤9223372036854775807∧∀ d ∈ L,NdZ d:=by
 rcases Go.Deep.open_slice Tryz.underlying53 h with ⟨rfl,_⟩|⟨ad,len,cap,m,n,D,Pl,rfl,_,hl,hcm,hm,hx,hel⟩
 · exact ⟨_,[],rfl,⟨none,0,rfl,Nat.le_refl _,Or.inl rfl⟩,by simp,(fun d hd=>by cases hd)⟩
 · have hz:len≤9223372036854775807:=by unfold maxLen at hcm;omega
   rcases Nat.eq_zero_or_pos len with h0|h0
   · subst h0
     exact ⟨_,[],rfl,⟨_,_,rfl,Nat.zero_le _,Or.inl rfl⟩,by simp,(fun d hd=>by cases hd)⟩
   · have hmm:len≤m:=by rw [hm];simp;exact hl
     rw [DW] at hel;obtain ⟨g,off,spot⟩:=ad;obtain ⟨cs0,hc0,_⟩:=hel 0 (by omega);obtain ⟨_,hln,hq⟩:=World.cells?_some hc0;have hcell:=hq 0 (by decide);rw [List.getElem?_eq_getElem (by omega:0<cs0.length)] at hcell;have hspot:spot=none:=by simpa [Addr.add] using World.cell?_spot hcell
     subst hspot;have ad2:∀ o i,(⟨g,o,none⟩:Addr).add i=⟨g,o+i,none⟩:=fun o i=>by unfold Addr.add;split<;>simp_all
     obtain ⟨L,hL,hP⟩:=eE (P:=fun i (d:Nd)=>(∃ vc ve,NdIn W g (off+i*6) d vc ve)∧NdZ d) (n:=len) fun i hi=>by
      obtain ⟨cs,hc,ht⟩:=hel i (by omega);rw [ad2] at hc;exact EA hc ht
     subst hL;refine ⟨_,L,rfl,⟨_,_,rfl,hl,Or.inr ⟨g,off,rfl,?_,fun i hi=>(hP i hi).1⟩⟩,hz,?_⟩
     · have:=dI hcell
       rw [ad2,ad2] at this;exact this
     · intro d hd
       obtain ⟨i,hi,rfl⟩:=List.getElem_of_mem hd;exact (hP i hi).2
theorem yI {H:Type} {enc:TypeId×Value→H} {W:World} {base b0:Nat} {held:Bool} {v:Value} {d:DataW H} {p:List MemPlace} (hv:Value.okWide Tryz.prog W .any b0 55 v) (h:DataW.Trod enc Tryz.prog W base (fun _=>true) held 55 v d p):
 ∃ (G:List Nd) (u:Value),v= .agg #[u]∧NodesAt W u G∧G.length≤9223372036854775807∧∀ n ∈ G,NdZ n:=by
 have hs:Tryz.prog.underlying 55=some (.struct (Tryz.prog.fieldsOf 55)):=by kernel_rfl
 obtain ⟨cs,rfl,hsz⟩:=okWide_struct hs hv;obtain ⟨n,h⟩:=h;obtain ⟨xs,n',_,_,_,hxl,hf⟩:=DataW.trod_struct hs h;have hfz:(Tryz.prog.fieldsOf 55).size=1:=by kernel_rfl
 rw [yH] at hsz;obtain ⟨f0,i0,t0,o0⟩:=bB (fs:=Tryz.prog.fieldsOf 55) (i:=0) (ty:=53) (off:=0) (by kernel_rfl);have r0:=hf 0 f0 i0;rw [t0,o0,yG,List.getElem?_eq_getElem (by omega:0<xs.length)] at r0;obtain ⟨u,G,e0,h0,z0,m0⟩:=JB r0;have k0:cs.toList[0]? =some u:=eF e0;obtain ⟨l⟩:=cs
 match l,hsz with
 |[x0],_=>
  simp at k0
  subst k0;exact ⟨G,_,rfl,h0,z0,m0⟩
end Go.Proofs.YtpfemjlhklnfoaaGreatDoor.Rg
namespace Go.Proofs.YtpfemjlhklnfoaaGreatDoor
open Go.ChangeShapes Go.WideShapes Go.ChangeAt Go.RowKit
set_option maxRecDepth 100000
theorem JC:Tryz.prog.cellsOf 59=6:=by kernel_rfl
theorem yJ:Tryz.prog.cellsOf 4=1:=by kernel_rfl
theorem NO {α:Type} {l:List α} (h:l.length=6):∃ a b c d e f,l=[a,b,c,d,e,f]:=by
 match l,h with
 |[a,b,c,d,e,f],_=>exact ⟨a,b,c,d,e,f,rfl⟩
theorem JD {H:Type} {enc:TypeId×Value→H} {W:World} {base b0:Nat} {held:Bool} {v:Value} {d:DataW H} {p:List MemPlace} (hv:Value.okWide Tryz.prog W .any b0 59 v) (h:DataW.Trod enc Tryz.prog W base (fun _=>true) held 59 v d p):
 ∃ (v0 v1 v2 v3 v4:Value) (dv:Bool) (Ps:List Pg) (L1 L2 L3 L4:List Dp),v= .agg #[v0,v1,v2,v3,v4,.bool dv]∧(PgsAt W v0 Ps∧Ps.length≤9223372036854775807∧∀ P ∈ Ps,lH P)∧gC W v1 L1∧gC W v2 L2∧gC W v3 L3∧gC W v4 L4:=by
 have hs:Tryz.prog.underlying 59=some (.struct (Tryz.prog.fieldsOf 59)):=by kernel_rfl
 obtain ⟨cs,rfl,hsz⟩:=okWide_struct hs hv;obtain ⟨n,h⟩:=h;obtain ⟨xs,n',_,_,_,hxl,hf⟩:=DataW.trod_struct hs h;have hfz:(Tryz.prog.fieldsOf 59).size=3:=by kernel_rfl
 rw [JC] at hsz;obtain ⟨f0,i0,t0,o0⟩:=bB (fs:=Tryz.prog.fieldsOf 59) (i:=0) (ty:=22) (off:=0) (by kernel_rfl);obtain ⟨f1,i1,t1,o1⟩:=bB (fs:=Tryz.prog.fieldsOf 59) (i:=1) (ty:=57) (off:=1) (by kernel_rfl);obtain ⟨f2,i2,t2,o2⟩:=bB (fs:=Tryz.prog.fieldsOf 59) (i:=2) (ty:=4) (off:=5) (by kernel_rfl);have r0:=hf 0 f0 i0;have r1:=hf 1 f1 i1;have r2:=hf 2 f2 i2;rw [t0,o0,CD,List.getElem?_eq_getElem (by omega:0<xs.length)] at r0;rw [t1,o1,DU,List.getElem?_eq_getElem (by omega:1<xs.length)] at r1;rw [t2,o2,yJ,List.getElem?_eq_getElem (by omega:2<xs.length)] at r2;obtain ⟨v0,Ps,e0,h0⟩:=JZ r0;obtain ⟨v1,v2,v3,v4,L1,L2,L3,L4,⟨e1,e2,e3,e4⟩,hr⟩:=NN r1;obtain ⟨dv,e5,_⟩:=DataW.trod_bool Tryz.underlying4 r2;have k0:cs.toList[0]? =some v0:=eF e0;have k1:((cs.toList.drop 1).take 4)[0]? =some v1:=e1;have k2:((cs.toList.drop 1).take 4)[1]? =some v2:=e2;have k3:((cs.toList.drop 1).take 4)[2]? =some v3:=e3
 have k4:((cs.toList.drop 1).take 4)[3]? =some v4:=e4;have k5:cs.toList[5]? =some (.bool dv):=eF e5;obtain ⟨l⟩:=cs;obtain ⟨x0,x1,x2,x3,x4,x5,rfl⟩:=NO (l:=l) (by simpa using hsz)
 simp at k0 k1 k2 k3 k4 k5
 subst k0 k1 k2 k3 k4 k5;exact ⟨_,_,_,_,_,dv,Ps,L1,L2,L3,L4,rfl,h0,hr⟩
theorem kS {W:World} (he:Env W) (hf:FL W) {u v0 v1 v2 v3 v4:Value} {dv:Bool} {G:List Nd} {Ps:List Pg} {L1 L2 L3 L4:List Dp} (hG:NodesAt W u G) (h0:PgsAt W v0 Ps∧Ps.length≤9223372036854775807∧∀ P ∈ Ps,lH P) (h1:gC W v1 L1) (h2:gC W v2 L2) (h3:gC W v3 L3) (h4:gC W v4 L4):
 Calls Tryz.prog 7 #[.agg #[u],.agg #[v0,v1,v2,v3,v4,.bool dv]] W fun e w'=>e= .returned (.bool true)∧Below W.heap.size W w':=by
 obtain ⟨q0,h0b,h0c⟩:=h0;obtain ⟨_,_,rfl⟩:=hG.sl;obtain ⟨_,_,rfl,_⟩:=q0.sl;obtain ⟨_,_,rfl,_,_⟩:=h1.1.el;obtain ⟨_,_,rfl,_,_⟩:=h2.1.el;obtain ⟨_,_,rfl,_,_⟩:=h3.1.el;obtain ⟨_,_,rfl,_,_⟩:=h4.1.el;exact jN (P:=⟨L1,L2,L3,L4⟩) hG q0 h0b h0c ⟨h1.1,h2.1,h3.1,h4.1⟩ he hf
end Go.Proofs.YtpfemjlhklnfoaaGreatDoor
