/- Gu3, Bk1, RwW: their declarations that are needed, laid in one text, remarks and blanks left out. -/
import Derived.Deep.DeepHandedRow
import Derived.Deep.DeepWitnessRowRef
import Derived.Test.YtpfemjlhklnfoaaGreatDoorMg33
namespace Go.Proofs.YtpfemjlhklnfoaaGreatDoor
open Go.Shelf Go.RowKit Go.Maps Go.WideMaps
set_option maxRecDepth 100000
def BxW6 (w:World) (N:Nat) (v0 v1 v2 v3 v4 v5:Value):Prop:=(w.cell? ⟨N,0,none⟩=some v0∧w.cell? ⟨N,1,none⟩=some v1∧w.cell? ⟨N,2,none⟩=some v2∧w.cell? ⟨N,3,none⟩=some v3∧w.cell? ⟨N,4,none⟩=some v4∧w.cell? ⟨N,5,none⟩=some v5)∧N<w.heap.size
theorem ID (N:Nat) (v0 v1 v2 v3 v4 v5:Value):KeepP fun w1=>BxW6 w1 N v0 v1 v2 v3 v4 v5:=fun w w' h hb=>by
 obtain ⟨⟨h0,h1,h2,h3,h4,h5⟩,hN⟩:=h;exact ⟨⟨(hb.cell (p:=⟨N,0,none⟩) hN).trans h0,(hb.cell (p:=⟨N,1,none⟩) hN).trans h1,(hb.cell (p:=⟨N,2,none⟩) hN).trans h2,(hb.cell (p:=⟨N,3,none⟩) hN).trans h3,(hb.cell (p:=⟨N,4,none⟩) hN).trans h4,(hb.cell (p:=⟨N,5,none⟩) hN).trans h5⟩,Nat.lt_of_lt_of_le hN hb.size⟩
theorem BxW6.new {w:World} {N:Nat} (hN:w.heap.size=N) (v0 v1 v2 v3 v4 v5:Value):BxW6 (w.alloc (.cells #[v0,v1,v2,v3,v4,v5] 59)) N v0 v1 v2 v3 v4 v5:=by
 subst hN;refine ⟨⟨?_,?_,?_,?_,?_,?_⟩,?_⟩<;>simp
def lL (G:List Nd) (s:ByteArray) (i k:Nat):Bool:=(G.take k).any fun n=>decide (toP n.ed s=(i:Int))
theorem DH {G:List Nd} {s:ByteArray} {i k:Nat} (hk:k<G.length):lL G s i (k+1)=(lL G s i k||decide (toP G[k].ed s=(i:Int))):=by
 unfold lL;rw [List.take_succ_eq_append_getElem hk,List.any_append]
 simp
theorem IE {G:List Nd} {s:ByteArray} {i:Nat} (h:∃ k,∃ hk:k<G.length,toP G[k].ed s=(i:Int)):lL G s i G.length=true:=by
 obtain ⟨k,hk,e⟩:=h;unfold lL;rw [List.take_length];exact List.any_eq_true.2 ⟨_,List.getElem_mem hk,decide_eq_true e⟩
theorem IF {L:List CV} {P:Mn} {dv:Bool} {G:List Nd} (h:uX L P dv G=0):aN P=true∧(Lo.dO G=true∧gA G=true∧dR [] G=false∧¬ (eZ G).length<G.length)∧∀ k,k<G.length→uW L P dv G k=true:=by
 unfold uX at h
 by_cases h1:aN P=true
 · rw [if_pos h1] at h
   by_cases h2:qG G=true
   · rw [if_pos h2] at h
     by_cases h3:(List.range G.length).all (uW L P dv G)=true
     · refine ⟨h1,?_,fun k hk=>List.all_eq_true.1 h3 k (List.mem_range.2 hk)⟩
       unfold qG at h2;simp only [Bool.and_eq_true,Bool.not_eq_true',decide_eq_false_iff_not] at h2;exact ⟨h2.1,h2.2.1,h2.2.2.1,h2.2.2.2⟩
     · rw [if_neg h3] at h;cases h
   · rw [if_neg h2] at h;cases h
 · rw [if_neg h1] at h;cases h
set_option maxHeartbeats 25600000 in
theorem oU {G:List Nd} {P:Mn} {Ps:List Pg} {ad ap x1 x2 x3 x4:Option Addr} {cap cp z1 z2 z3 z4:Nat} {dv:Bool} {w:World} (hG:NodesAt w (.slice ad G.length cap) G) (hps:PgsAt w (.slice ap Ps.length cp) Ps) (hpz:Ps.length≤9223372036854775807) (hpo:∀ P ∈ Ps,kQ P)
 (hM:MnAt w P (.slice x1 P.d.length z1) (.slice x2 P.v.length z2) (.slice x3 P.o.length z3) (.slice x4 P.p.length z4)) (he:Env w) (hf:FL w):
 Calls Tryz.prog 8 #[.agg #[.slice ad G.length cap],.agg #[.slice ap Ps.length cp,.slice x1 P.d.length z1,.slice x2 P.v.length z2,.slice x3 P.o.length z3,.slice x4 P.p.length z4,.bool dv]] w fun e w'=>e= .returned (.bool true)∧Below w.heap.size w w':=by
 have HCT:Hid (∀ W,Below w.heap.size w W→Calls Tryz.prog 25 #[.agg #[.slice ap Ps.length cp,.slice x1 P.d.length z1,.slice x2 P.v.length z2,.slice x3 P.o.length z3,.slice x4 P.p.length z4,.bool dv]] W fun e w'=>LM W w' e):=fun W h=>rZ (he.below h) (hf.below h) (hps.below h) hpz hpo
 have HCK:Hid (∀ W B C Q L,Below w.heap.size w W→CatAt W B C Q L→L.length≤128→Calls Tryz.prog 26 #[.agg #[.slice ad G.length cap],.pointer (some ⟨C,0,none⟩),.agg #[.slice x1 P.d.length z1,.slice x2 P.v.length z2,.slice x3 P.o.length z3,.slice x4 P.p.length z4],.bool dv] W fun e w'=>e= .returned (.int .i64 (uX L P dv G))∧Below W.heap.size W w'):=fun W B C Q L h hc hl=>DC (hG.below h) hc hl ⟨hM.1.below h,hM.2.1.below h,hM.2.2.1.below h,hM.2.2.2.below h⟩ (he.below h) (hf.below h)
 have HLV:Hid (∀ W,Below w.heap.size w W→Calls Tryz.prog 28 #[] W fun e w'=>e= .returned (.bool true)∧Below W.heap.size W w'):=fun W h=>vC (he.below h) (hf.below h)
 have HNG:Hid (∀ W,Below w.heap.size w W→NodesAt W (.slice ad G.length cap) G):=fun W h=>hG.below h
 have HFM:Hid (∀ L,uX L P dv G=0→(Lo.dO G=true∧gA G=true∧dR [] G=false∧¬ (eZ G).length<G.length)):=fun L h=>(IF h).2.1
 clear hG hps hpz hpo hM he hf;have HKP:Hid (KeepP fun W=>((Below w.heap.size w W∧BxG W w.heap.size (.slice ad G.length cap))∧BxW6 W (w.heap.size+1) (.slice ap Ps.length cp) (.slice x1 P.d.length z1) (.slice x2 P.v.length z2) (.slice x3 P.o.length z3) (.slice x4 P.p.length z4) (.bool dv))):=((aG w).and (cD _ _)).and (ID _ _ _ _ _ _ _)
 have HK0:Hid ((Below w.heap.size w ((w.alloc (.cells #[.slice ad G.length cap] 55)).alloc (.cells #[.slice ap Ps.length cp,.slice x1 P.d.length z1,.slice x2 P.v.length z2,.slice x3 P.o.length z3,.slice x4 P.p.length z4,.bool dv] 59))∧BxG ((w.alloc (.cells #[.slice ad G.length cap] 55)).alloc (.cells #[.slice ap Ps.length cp,.slice x1 P.d.length z1,.slice x2 P.v.length z2,.slice x3 P.o.length z3,.slice x4 P.p.length z4,.bool dv] 59)) w.heap.size (.slice ad G.length cap))∧BxW6 ((w.alloc (.cells #[.slice ad G.length cap] 55)).alloc (.cells #[.slice ap Ps.length cp,.slice x1 P.d.length z1,.slice x2 P.v.length z2,.slice x3 P.o.length z3,.slice x4 P.p.length z4,.bool dv] 59)) (w.heap.size+1) (.slice ap Ps.length cp) (.slice x1 P.d.length z1) (.slice x2 P.v.length z2) (.slice x3 P.o.length z3) (.slice x4 P.p.length z4) (.bool dv)):=⟨⟨aS _ _ _,cD _ _ _ _ (BxG.new rfl _) (aD _ _)⟩,BxW6.new (by simp) _ _ _ _ _ _⟩
 obtain ⟨CE,hCE⟩:∃ F,F=fun L=>uX L P dv G:=⟨_,rfl⟩
 have HCE:=aA hCE;have HCK2:Hid (∀ W B C Q L,Below w.heap.size w W→CatAt W B C Q L→L.length≤128→Calls Tryz.prog 26 #[.agg #[.slice ad G.length cap],.pointer (some ⟨C,0,none⟩),.agg #[.slice x1 P.d.length z1,.slice x2 P.v.length z2,.slice x3 P.o.length z3,.slice x4 P.p.length z4],.bool dv] W fun e w'=>e= .returned (.int .i64 (CE L))∧Below W.heap.size W w'):=by rw [hCE];exact HCK.out
 have HFM2:Hid (∀ L,CE L=0→(Lo.dO G=true∧gA G=true∧dR [] G=false∧¬ (eZ G).length<G.length)):=by rw [hCE];exact HFM.out
 clear HCK HFM hCE HCE;generalize P.d.length=l1 at*;generalize P.v.length=l2 at*;generalize P.o.length=l3 at*;generalize P.p.length=l4 at*;generalize Ps.length=lp at*;obtain ⟨lg,hlg⟩:∃ n,n=G.length:=⟨_,rfl⟩;have HLG:=aA hlg;rw [←hlg] at HCK2 HNG HKP HK0;rw [←hlg];clear hlg;obtain ⟨⟨_,⟨y0,y1⟩⟩,⟨b0,b1,b2,b3,b4,b5⟩,b6⟩:=HK0.out
 go_enter Tryz.func8,Tryz.ntmps8
 go_wp2_with (go_at_call 25;refine (HCT.out _ HK0.out.1.1).mono ?_;rintro e w1 ⟨C,E,M,L,R,rfl,hbt⟩;have HK1:=aA (HKP.out _ _ HK0.out hbt.2.2.2);have HCT1:=aA hbt.1;obtain ⟨⟨_,⟨y0,y1⟩⟩,⟨b0,b1,b2,b3,b4,b5⟩,b6⟩:=HK1.out;clear hbt)
 have HF2:=aA (HFM2.out L);have HC3:=aA (HCK2.out _ _ _ _ _ HK1.out.1.1 HCT1.out.1 HCT1.out.2);clear HFM2 HCK2 HCT HK0 HCT1;generalize CE L=ce at*
 by_cases hce:ce=0
 · have HF3:=aA (HF2.out hce)
   subst hce;clear HF2
   go_wp2_with (go_at_call 26;refine HC3.out.mono ?_;rintro e w2 ⟨rfl,ok⟩;have HK2:=aA (HKP.out _ _ HK1.out ok).1;obtain ⟨_,⟨y0,y1⟩⟩:=HK2.out;clear ok)
   clear HKP HC3 HK1 b0 b1 b2 b3 b4 b5 b6;have HG:=aA (eL HF3.out.1);have hlp:=HLG.out;have hl1:1≤lg:=by have:=HG.out.pos;omega
   have hl2:lg≤128:=by have:=HG.out.len;omega
   clear hlp
   go_loopw [8] (fun vi wr=>∃ i:Nat,1≤i∧i≤lg∧vi= .int .i64 i∧(Below w.heap.size w wr∧BxG wr w.heap.size (.slice ad lg cap))) (fun vi _=>lg - (intOf vi).toNat)
   case atStart=>exact ⟨1,Nat.le_refl _,hl1,rfl,HK2.out⟩
   case round=>
    clear HK2;obtain ⟨i,hi1,hi2,rfl,hb⟩:=hrel;have HB:=aA hb
    by_cases hlt:i<lg
    · have hki:(i:Int)<(lg:Int):=by omega
      have hiG:i<G.length:=by have:=HLG.out;omega
      have HLA:Hid (lL G G[i].nm i lg=true):=by
       have e:=HLG.out;have q:=IE (NB HF3.out.1 HF3.out.2.1 HF3.out.2.2.2 hi1 hiG);rw [←e] at q;exact q
      obtain ⟨_,⟨y0,y1⟩⟩:=hb
      go_wp2_with fail
      clear y0 y1
      go_loopw [9,10] (fun v9 vk wr=>∃ k:Nat,k≤lg∧vk= .int .i64 k∧v9= .bool (lL G G[i].nm i k)∧(Below w.heap.size w wr∧BxG wr w.heap.size (.slice ad lg cap))) (fun _ vk _=>lg - (intOf vk).toNat)
      case atStart=>exact ⟨0,Nat.zero_le _,rfl,rfl,HB.out⟩
      case round=>
       clear HB;obtain ⟨k,hk,rfl,rfl,hb⟩:=hrel;have HB:=aA hb
       by_cases hkt:k<lg
       · have hkk:(k:Int)<(lg:Int):=by omega
         have hkG:k<G.length:=by have:=HLG.out;omega
         obtain ⟨g,o,hgo,hcz⟩:∃ g o,ad=some ⟨g,o,none⟩∧∀ i (h:i<G.length),∃ vc ve,NdIn wr g (o+i*6) G[i] vc ve:=by
          obtain ⟨ad',cap',e,_,hcs⟩:=HNG.out wr hb.1;injection e with e1 _ _
          rcases hcs with h|⟨g,o,h1,_,h2⟩
          · rw [h] at hkG;cases hkG
          · exact ⟨g,o,e1.trans h1,h2⟩
         subst hgo;obtain ⟨vc,ve,hx⟩:=hcz i hiG;obtain ⟨axc,cxc,hvc⟩:=hx.2.1.1.sl;obtain ⟨axe,cxe,hve⟩:=hx.2.1.2.sl;subst hvc hve;obtain ⟨vc,ve,hy⟩:=hcz k hkG;obtain ⟨ayc,cyc,hvc⟩:=hy.2.1.1.sl;obtain ⟨aye,cye,hve⟩:=hy.2.1.2.sl;subst hvc hve;clear hcz;have HLN:Hid (lL G G[i].nm i (k+1)=(lL G G[i].nm i k||decide (toP G[k].ed G[i].nm=(i:Int)))):=DH hkG;have HAP:Hid (k≠i→eJ G[k] G[i]=false):=fun h=>uZ HF3.out.2.2.1 hiG hkG h
         have HPN:Hid (∀ W,Below wr.heap.size wr W→Calls Tryz.prog 34 #[.slice axc G[i].cx.length cxc,.slice ayc G[k].cx.length cyc] W fun e w'=>e= .returned (.bool (eqB G[i].cx G[k].cx))∧Below W.heap.size W w'):=fun W h=>DF (hx.2.1.1.below h) (hy.2.1.1.below h) (by have:=(HG.out.sm _ (List.getElem_mem hiG)).1;omega)
         have HTO:Hid (∀ W,Below wr.heap.size wr W→Calls Tryz.prog 39 #[.agg #[.string G[k].nm,.int .i64 G[k].a,.int .i64 G[k].b,.int .i64 G[k].c,.slice ayc G[k].cx.length cyc,.slice aye G[k].ed.length cye],.string G[i].nm] W fun e w'=>e= .returned (.int .i64 (toP G[k].ed G[i].nm))∧Below W.heap.size W w'):=fun W h=>MY ⟨_,_,_,rfl⟩ (hy.2.1.2.below h) (by have:=(HG.out.sm _ (List.getElem_mem hkG)).2;omega)
         obtain ⟨x,hxe⟩:∃ x,x=G[i]:=⟨_,rfl⟩;obtain ⟨y,hye⟩:∃ y,y=G[k]:=⟨_,rfl⟩;have HLK:Hid (∀ b,b=lL G x.nm i (k+1)→b=lL G G[i].nm i (k+1)):=fun b h=>by rw [h,hxe]
         rw [←hxe] at hx HLN HAP HPN HTO;rw [←hxe];rw [←hye] at hy HLN HAP HPN HTO;clear hxe hye;obtain ⟨eb,heb⟩:∃ b,b=eqB x.cx y.cx:=⟨_,rfl⟩;obtain ⟨tp,htp⟩:∃ t,t=toP y.ed x.nm:=⟨_,rfl⟩;obtain ⟨lb,hlb⟩:∃ b,b=lL G x.nm i k:=⟨_,rfl⟩
         have HNA:Hid (k≠i→eb=true→y.nm.toList=x.nm.toList→(decide (y.a=x.a)&&decide (y.b=x.b)&&decide (y.c=x.c))=false):=fun h1 h2 h3=>by
          have q:=HAP.out h1;unfold eJ at q;rw [LD h3] at q;rw [heb] at h2;rw [cB (lO.1 h2).symm,Bool.and_true] at q;exact q
         rw [←heb] at HPN;rw [←htp] at HTO HLN;rw [←hlb] at HLN;rw [←hlb];clear heb htp hlb HAP;have HO:Hid (((Below w.heap.size w wr∧BxG wr w.heap.size (.slice (some ⟨g,o,none⟩) lg cap))∧NdIn wr g (o+i*6) x (.slice axc x.cx.length cxc) (.slice axe x.ed.length cxe)∧NdIn wr g (o+k*6) y (.slice ayc y.cx.length cyc) (.slice aye y.ed.length cye))∧Below wr.heap.size wr wr):=⟨⟨hb,hx,hy⟩,Below.refl _ _⟩;have HK:Hid (KeepP fun W=>((Below w.heap.size w W∧BxG W w.heap.size (.slice (some ⟨g,o,none⟩) lg cap))∧NdIn W g (o+i*6) x (.slice axc x.cx.length cxc) (.slice axe x.ed.length cxe)∧NdIn W g (o+k*6) y (.slice ayc y.cx.length cyc) (.slice aye y.ed.length cye))∧Below wr.heap.size wr W):=(((aG w).and (cD _ _)).and ((rM _ _ _ _ _).and (rM _ _ _ _ _))).and (aG wr);have hv:=NU y.a y.b y.c x.a x.b x.c;have hgd:=iI;obtain ⟨_,⟨y0,y1⟩⟩:=hb;clear hx hy;generalize x.cx.length=lxc at*
         generalize x.ed.length=lxe at*;generalize y.cx.length=lyc at*;generalize y.ed.length=lye at*
         go_wp2_with fail
         clear y0 y1;refine aR HK (by kernel_rfl) (by kernel_rfl) (by first|exact HO.out|exact HK.out.drew HO.out) ?_;intro C HIN HOUT;clear HO
         repeat
          (with_reducible refine wpQuiet_step (fun K hK=> ?_)
           go_simp
           first
            |(refine hK _ ?_;clear hK K)
            |(apply Exists.intro;refine ⟨fun w1 hC=> ?_,hK _ ?_⟩;(focus ((first|(go_at_call 34;with_reducible exact bU HIN HOUT HK (fun w1 hk=>HPN.out w1 hk.2) w1 hC)|(exact rfl)|(obtain ⟨⟨⟨hb1,⟨n0,n1⟩⟩,⟨⟨p0,p1,p2,p3,p4,p5⟩,_,p6⟩,⟨⟨q0,q1,q2,q3,q4,q5⟩,_,q6⟩⟩,hbw⟩:=HOUT.out w1 hC;clear hC;go_simp;first|done|exact rfl));done));clear hK K))
         refine wpQuiet_nil ?_;intro wn hC;have HO:=aA (HOUT.out _ hC);clear hC HIN HOUT C;obtain ⟨⟨⟨hb1,⟨n0,n1⟩⟩,⟨⟨p0,p1,p2,p3,p4,p5⟩,_,p6⟩,⟨⟨q0,q1,q2,q3,q4,q5⟩,_,q6⟩⟩,hbw⟩:=HO.out;have HKI:=aA hkk
         by_cases hki2:k=i
         · have hd1:((k:Int) != (i:Int))=false:=by simp;omega
           clear hki2 HNA
           go_wp2_with fail
           clear n0 n1 p0 p1 p2 p3 p4 p5 p6 q0 q1 q2 q3 q4 q5 q6;refine aR HK (by kernel_rfl) (by kernel_rfl) (by first|exact HO.out|exact HK.out.drew HO.out) ?_;intro C HIN HOUT;clear HO
           repeat
            (with_reducible refine wpQuiet_step (fun K hK=> ?_)
             go_simp
             first
              |(refine hK _ ?_;clear hK K)
              |(apply Exists.intro;refine ⟨fun w1 hC=> ?_,hK _ ?_⟩;(focus ((first|(exact rfl)|(obtain ⟨⟨⟨hb1,⟨n0,n1⟩⟩,⟨⟨p0,p1,p2,p3,p4,p5⟩,_,p6⟩,⟨⟨q0,q1,q2,q3,q4,q5⟩,_,q6⟩⟩,hbw⟩:=HOUT.out w1 hC;clear hC;go_simp;first|done|exact rfl));done));clear hK K))
           refine wpQuiet_nil ?_;intro wn hC;have HO:=aA (HOUT.out _ hC);clear hC HIN HOUT C;obtain ⟨⟨⟨hb1,⟨n0,n1⟩⟩,⟨⟨p0,p1,p2,p3,p4,p5⟩,_,p6⟩,⟨⟨q0,q1,q2,q3,q4,q5⟩,_,q6⟩⟩,hbw⟩:=HO.out
           go_wp2_with fail
           clear n0 n1 p0 p1 p2 p3 p4 p5 p6 q0 q1 q2 q3 q4 q5 q6;cases lb with
           |true=>
            refine aR HK (by kernel_rfl) (by kernel_rfl) (by first|exact HO.out|exact HK.out.drew HO.out) ?_;intro C HIN HOUT;clear HO
            repeat
             (with_reducible refine wpQuiet_step (fun K hK=> ?_)
              go_simp
              first
               |(refine hK _ ?_;clear hK K)
               |(apply Exists.intro;refine ⟨fun w1 hC=> ?_,hK _ ?_⟩;(focus ((first|(exact rfl)|(obtain ⟨⟨⟨hb1,⟨n0,n1⟩⟩,⟨⟨p0,p1,p2,p3,p4,p5⟩,_,p6⟩,⟨⟨q0,q1,q2,q3,q4,q5⟩,_,q6⟩⟩,hbw⟩:=HOUT.out w1 hC;clear hC;go_simp;first|done|exact rfl));done));clear hK K))
            refine wpQuiet_nil ?_;intro wn hC;have HO:=aA (HOUT.out _ hC);clear hC HIN HOUT C;obtain ⟨⟨⟨hb1,⟨n0,n1⟩⟩,⟨⟨p0,p1,p2,p3,p4,p5⟩,_,p6⟩,⟨⟨q0,q1,q2,q3,q4,q5⟩,_,q6⟩⟩,hbw⟩:=HO.out
            go_wp2_with fail
            exact ⟨⟨k+1,by omega,by go_num,congrArg Value.bool (show true=_ by rw [HLN.out];first|done|rfl),HO.out.1.1⟩,by simp [intOf];omega⟩
           |false=>
            by_cases ht:tp=(i:Int)
            · have htd:(tp==(i:Int))=true:=by simp;exact ht
              have HTD:Hid (decide (tp=(i:Int))=true):=decide_eq_true ht;clear ht;refine aR HK (by kernel_rfl) (by kernel_rfl) (by first|exact HO.out|exact HK.out.drew HO.out) ?_;intro C HIN HOUT;clear HO
              repeat
               (with_reducible refine wpQuiet_step (fun K hK=> ?_)
                go_simp
                first
                 |(refine hK _ ?_;clear hK K)
                 |(apply Exists.intro;refine ⟨fun w1 hC=> ?_,hK _ ?_⟩;(focus ((first|(go_at_call 39;with_reducible exact bU HIN HOUT HK (fun w1 hk=>HTO.out w1 hk.2) w1 hC)|(exact rfl)|(obtain ⟨⟨⟨hb1,⟨n0,n1⟩⟩,⟨⟨p0,p1,p2,p3,p4,p5⟩,_,p6⟩,⟨⟨q0,q1,q2,q3,q4,q5⟩,_,q6⟩⟩,hbw⟩:=HOUT.out w1 hC;clear hC;go_simp;first|done|exact rfl));done));clear hK K))
              refine wpQuiet_nil ?_;intro wn hC;have HO:=aA (HOUT.out _ hC);clear hC HIN HOUT C;obtain ⟨⟨⟨hb1,⟨n0,n1⟩⟩,⟨⟨p0,p1,p2,p3,p4,p5⟩,_,p6⟩,⟨⟨q0,q1,q2,q3,q4,q5⟩,_,q6⟩⟩,hbw⟩:=HO.out
              go_wp2_with fail
              exact ⟨⟨k+1,by omega,by go_num,congrArg Value.bool (show true=_ by rw [HLN.out,HTD.out];first|done|rfl),HO.out.1.1⟩,by simp [intOf];omega⟩
            · have htd:(tp==(i:Int))=false:=by simp;exact ht
              have HTD:Hid (decide (tp=(i:Int))=false):=decide_eq_false ht;clear ht;refine aR HK (by kernel_rfl) (by kernel_rfl) (by first|exact HO.out|exact HK.out.drew HO.out) ?_;intro C HIN HOUT;clear HO
              repeat
               (with_reducible refine wpQuiet_step (fun K hK=> ?_)
                go_simp
                first
                 |(refine hK _ ?_;clear hK K)
                 |(apply Exists.intro;refine ⟨fun w1 hC=> ?_,hK _ ?_⟩;(focus ((first|(go_at_call 39;with_reducible exact bU HIN HOUT HK (fun w1 hk=>HTO.out w1 hk.2) w1 hC)|(exact rfl)|(obtain ⟨⟨⟨hb1,⟨n0,n1⟩⟩,⟨⟨p0,p1,p2,p3,p4,p5⟩,_,p6⟩,⟨⟨q0,q1,q2,q3,q4,q5⟩,_,q6⟩⟩,hbw⟩:=HOUT.out w1 hC;clear hC;go_simp;first|done|exact rfl));done));clear hK K))
              refine wpQuiet_nil ?_;intro wn hC;have HO:=aA (HOUT.out _ hC);clear hC HIN HOUT C;obtain ⟨⟨⟨hb1,⟨n0,n1⟩⟩,⟨⟨p0,p1,p2,p3,p4,p5⟩,_,p6⟩,⟨⟨q0,q1,q2,q3,q4,q5⟩,_,q6⟩⟩,hbw⟩:=HO.out
              go_wp2_with fail
              exact ⟨⟨k+1,by omega,by go_num,congrArg Value.bool (show false=_ by rw [HLN.out,HTD.out];first|done|rfl),HO.out.1.1⟩,by simp [intOf];omega⟩
         · have hd1:((k:Int) != (i:Int))=true:=by simp;omega
           have HN2:=aA (HNA.out hki2);clear hki2 HNA;cases eb with
           |false=>
            clear HN2
            go_wp2_with fail
            clear n0 n1 p0 p1 p2 p3 p4 p5 p6 q0 q1 q2 q3 q4 q5 q6;refine aR HK (by kernel_rfl) (by kernel_rfl) (by first|exact HO.out|exact HK.out.drew HO.out) ?_;intro C HIN HOUT;clear HO
            repeat
             (with_reducible refine wpQuiet_step (fun K hK=> ?_)
              go_simp
              first
               |(refine hK _ ?_;clear hK K)
               |(apply Exists.intro;refine ⟨fun w1 hC=> ?_,hK _ ?_⟩;(focus ((first|(exact rfl)|(obtain ⟨⟨⟨hb1,⟨n0,n1⟩⟩,⟨⟨p0,p1,p2,p3,p4,p5⟩,_,p6⟩,⟨⟨q0,q1,q2,q3,q4,q5⟩,_,q6⟩⟩,hbw⟩:=HOUT.out w1 hC;clear hC;go_simp;first|done|exact rfl));done));clear hK K))
            refine wpQuiet_nil ?_;intro wn hC;have HO:=aA (HOUT.out _ hC);clear hC HIN HOUT C;obtain ⟨⟨⟨hb1,⟨n0,n1⟩⟩,⟨⟨p0,p1,p2,p3,p4,p5⟩,_,p6⟩,⟨⟨q0,q1,q2,q3,q4,q5⟩,_,q6⟩⟩,hbw⟩:=HO.out
            go_wp2_with fail
            clear n0 n1 p0 p1 p2 p3 p4 p5 p6 q0 q1 q2 q3 q4 q5 q6;cases lb with
            |true=>
             refine aR HK (by kernel_rfl) (by kernel_rfl) (by first|exact HO.out|exact HK.out.drew HO.out) ?_;intro C HIN HOUT;clear HO
             repeat
              (with_reducible refine wpQuiet_step (fun K hK=> ?_)
               go_simp
               first
                |(refine hK _ ?_;clear hK K)
                |(apply Exists.intro;refine ⟨fun w1 hC=> ?_,hK _ ?_⟩;(focus ((first|(exact rfl)|(obtain ⟨⟨⟨hb1,⟨n0,n1⟩⟩,⟨⟨p0,p1,p2,p3,p4,p5⟩,_,p6⟩,⟨⟨q0,q1,q2,q3,q4,q5⟩,_,q6⟩⟩,hbw⟩:=HOUT.out w1 hC;clear hC;go_simp;first|done|exact rfl));done));clear hK K))
             refine wpQuiet_nil ?_;intro wn hC;have HO:=aA (HOUT.out _ hC);clear hC HIN HOUT C;obtain ⟨⟨⟨hb1,⟨n0,n1⟩⟩,⟨⟨p0,p1,p2,p3,p4,p5⟩,_,p6⟩,⟨⟨q0,q1,q2,q3,q4,q5⟩,_,q6⟩⟩,hbw⟩:=HO.out
             go_wp2_with fail
             exact ⟨⟨k+1,by omega,by go_num,congrArg Value.bool (show true=_ by rw [HLN.out];first|done|rfl),HO.out.1.1⟩,by simp [intOf];omega⟩
            |false=>
             by_cases ht:tp=(i:Int)
             · have htd:(tp==(i:Int))=true:=by simp;exact ht
               have HTD:Hid (decide (tp=(i:Int))=true):=decide_eq_true ht;clear ht;refine aR HK (by kernel_rfl) (by kernel_rfl) (by first|exact HO.out|exact HK.out.drew HO.out) ?_;intro C HIN HOUT;clear HO
               repeat
                (with_reducible refine wpQuiet_step (fun K hK=> ?_)
                 go_simp
                 first
                  |(refine hK _ ?_;clear hK K)
                  |(apply Exists.intro;refine ⟨fun w1 hC=> ?_,hK _ ?_⟩;(focus ((first|(go_at_call 39;with_reducible exact bU HIN HOUT HK (fun w1 hk=>HTO.out w1 hk.2) w1 hC)|(exact rfl)|(obtain ⟨⟨⟨hb1,⟨n0,n1⟩⟩,⟨⟨p0,p1,p2,p3,p4,p5⟩,_,p6⟩,⟨⟨q0,q1,q2,q3,q4,q5⟩,_,q6⟩⟩,hbw⟩:=HOUT.out w1 hC;clear hC;go_simp;first|done|exact rfl));done));clear hK K))
               refine wpQuiet_nil ?_;intro wn hC;have HO:=aA (HOUT.out _ hC);clear hC HIN HOUT C;obtain ⟨⟨⟨hb1,⟨n0,n1⟩⟩,⟨⟨p0,p1,p2,p3,p4,p5⟩,_,p6⟩,⟨⟨q0,q1,q2,q3,q4,q5⟩,_,q6⟩⟩,hbw⟩:=HO.out
               go_wp2_with fail
               exact ⟨⟨k+1,by omega,by go_num,congrArg Value.bool (show true=_ by rw [HLN.out,HTD.out];first|done|rfl),HO.out.1.1⟩,by simp [intOf];omega⟩
             · have htd:(tp==(i:Int))=false:=by simp;exact ht
               have HTD:Hid (decide (tp=(i:Int))=false):=decide_eq_false ht;clear ht;refine aR HK (by kernel_rfl) (by kernel_rfl) (by first|exact HO.out|exact HK.out.drew HO.out) ?_;intro C HIN HOUT;clear HO
               repeat
                (with_reducible refine wpQuiet_step (fun K hK=> ?_)
                 go_simp
                 first
                  |(refine hK _ ?_;clear hK K)
                  |(apply Exists.intro;refine ⟨fun w1 hC=> ?_,hK _ ?_⟩;(focus ((first|(go_at_call 39;with_reducible exact bU HIN HOUT HK (fun w1 hk=>HTO.out w1 hk.2) w1 hC)|(exact rfl)|(obtain ⟨⟨⟨hb1,⟨n0,n1⟩⟩,⟨⟨p0,p1,p2,p3,p4,p5⟩,_,p6⟩,⟨⟨q0,q1,q2,q3,q4,q5⟩,_,q6⟩⟩,hbw⟩:=HOUT.out w1 hC;clear hC;go_simp;first|done|exact rfl));done));clear hK K))
               refine wpQuiet_nil ?_;intro wn hC;have HO:=aA (HOUT.out _ hC);clear hC HIN HOUT C;obtain ⟨⟨⟨hb1,⟨n0,n1⟩⟩,⟨⟨p0,p1,p2,p3,p4,p5⟩,_,p6⟩,⟨⟨q0,q1,q2,q3,q4,q5⟩,_,q6⟩⟩,hbw⟩:=HO.out
               go_wp2_with fail
               exact ⟨⟨k+1,by omega,by go_num,congrArg Value.bool (show false=_ by rw [HLN.out,HTD.out];first|done|rfl),HO.out.1.1⟩,by simp [intOf];omega⟩
           |true=>
            by_cases hnm:y.nm.toList=x.nm.toList
            · have hd2:(y.nm.toList==x.nm.toList)=true:=by simpa using hnm
              rw [HN2.out rfl hnm] at hv;clear HN2 hnm
              go_wp2_with fail
              clear n0 n1 p0 p1 p2 p3 p4 p5 p6 q0 q1 q2 q3 q4 q5 q6;refine aR HK (by kernel_rfl) (by kernel_rfl) (by first|exact HO.out|exact HK.out.drew HO.out) ?_;intro C HIN HOUT;clear HO
              repeat
               (with_reducible refine wpQuiet_step (fun K hK=> ?_)
                go_simp
                first
                 |(refine hK _ ?_;clear hK K)
                 |(apply Exists.intro;refine ⟨fun w1 hC=> ?_,hK _ ?_⟩;(focus ((first|(exact rfl)|(obtain ⟨⟨⟨hb1,⟨n0,n1⟩⟩,⟨⟨p0,p1,p2,p3,p4,p5⟩,_,p6⟩,⟨⟨q0,q1,q2,q3,q4,q5⟩,_,q6⟩⟩,hbw⟩:=HOUT.out w1 hC;clear hC;go_simp;first|done|exact rfl));done));clear hK K))
              refine wpQuiet_nil ?_;intro wn hC;have HO:=aA (HOUT.out _ hC);clear hC HIN HOUT C;obtain ⟨⟨⟨hb1,⟨n0,n1⟩⟩,⟨⟨p0,p1,p2,p3,p4,p5⟩,_,p6⟩,⟨⟨q0,q1,q2,q3,q4,q5⟩,_,q6⟩⟩,hbw⟩:=HO.out
              go_wp2_with fail
              clear n0 n1 p0 p1 p2 p3 p4 p5 p6 q0 q1 q2 q3 q4 q5 q6;cases lb with
              |true=>
               refine aR HK (by kernel_rfl) (by kernel_rfl) (by first|exact HO.out|exact HK.out.drew HO.out) ?_;intro C HIN HOUT;clear HO
               repeat
                (with_reducible refine wpQuiet_step (fun K hK=> ?_)
                 go_simp
                 first
                  |(refine hK _ ?_;clear hK K)
                  |(apply Exists.intro;refine ⟨fun w1 hC=> ?_,hK _ ?_⟩;(focus ((first|(exact rfl)|(obtain ⟨⟨⟨hb1,⟨n0,n1⟩⟩,⟨⟨p0,p1,p2,p3,p4,p5⟩,_,p6⟩,⟨⟨q0,q1,q2,q3,q4,q5⟩,_,q6⟩⟩,hbw⟩:=HOUT.out w1 hC;clear hC;go_simp;first|done|exact rfl));done));clear hK K))
               refine wpQuiet_nil ?_;intro wn hC;have HO:=aA (HOUT.out _ hC);clear hC HIN HOUT C;obtain ⟨⟨⟨hb1,⟨n0,n1⟩⟩,⟨⟨p0,p1,p2,p3,p4,p5⟩,_,p6⟩,⟨⟨q0,q1,q2,q3,q4,q5⟩,_,q6⟩⟩,hbw⟩:=HO.out
               go_wp2_with fail
               exact ⟨⟨k+1,by omega,by go_num,congrArg Value.bool (show true=_ by rw [HLN.out];first|done|rfl),HO.out.1.1⟩,by simp [intOf];omega⟩
              |false=>
               by_cases ht:tp=(i:Int)
               · have htd:(tp==(i:Int))=true:=by simp;exact ht
                 have HTD:Hid (decide (tp=(i:Int))=true):=decide_eq_true ht;clear ht;refine aR HK (by kernel_rfl) (by kernel_rfl) (by first|exact HO.out|exact HK.out.drew HO.out) ?_;intro C HIN HOUT;clear HO
                 repeat
                  (with_reducible refine wpQuiet_step (fun K hK=> ?_)
                   go_simp
                   first
                    |(refine hK _ ?_;clear hK K)
                    |(apply Exists.intro;refine ⟨fun w1 hC=> ?_,hK _ ?_⟩;(focus ((first|(go_at_call 39;with_reducible exact bU HIN HOUT HK (fun w1 hk=>HTO.out w1 hk.2) w1 hC)|(exact rfl)|(obtain ⟨⟨⟨hb1,⟨n0,n1⟩⟩,⟨⟨p0,p1,p2,p3,p4,p5⟩,_,p6⟩,⟨⟨q0,q1,q2,q3,q4,q5⟩,_,q6⟩⟩,hbw⟩:=HOUT.out w1 hC;clear hC;go_simp;first|done|exact rfl));done));clear hK K))
                 refine wpQuiet_nil ?_;intro wn hC;have HO:=aA (HOUT.out _ hC);clear hC HIN HOUT C;obtain ⟨⟨⟨hb1,⟨n0,n1⟩⟩,⟨⟨p0,p1,p2,p3,p4,p5⟩,_,p6⟩,⟨⟨q0,q1,q2,q3,q4,q5⟩,_,q6⟩⟩,hbw⟩:=HO.out
                 go_wp2_with fail
                 exact ⟨⟨k+1,by omega,by go_num,congrArg Value.bool (show true=_ by rw [HLN.out,HTD.out];first|done|rfl),HO.out.1.1⟩,by simp [intOf];omega⟩
               · have htd:(tp==(i:Int))=false:=by simp;exact ht
                 have HTD:Hid (decide (tp=(i:Int))=false):=decide_eq_false ht;clear ht;refine aR HK (by kernel_rfl) (by kernel_rfl) (by first|exact HO.out|exact HK.out.drew HO.out) ?_;intro C HIN HOUT;clear HO
                 repeat
                  (with_reducible refine wpQuiet_step (fun K hK=> ?_)
                   go_simp
                   first
                    |(refine hK _ ?_;clear hK K)
                    |(apply Exists.intro;refine ⟨fun w1 hC=> ?_,hK _ ?_⟩;(focus ((first|(go_at_call 39;with_reducible exact bU HIN HOUT HK (fun w1 hk=>HTO.out w1 hk.2) w1 hC)|(exact rfl)|(obtain ⟨⟨⟨hb1,⟨n0,n1⟩⟩,⟨⟨p0,p1,p2,p3,p4,p5⟩,_,p6⟩,⟨⟨q0,q1,q2,q3,q4,q5⟩,_,q6⟩⟩,hbw⟩:=HOUT.out w1 hC;clear hC;go_simp;first|done|exact rfl));done));clear hK K))
                 refine wpQuiet_nil ?_;intro wn hC;have HO:=aA (HOUT.out _ hC);clear hC HIN HOUT C;obtain ⟨⟨⟨hb1,⟨n0,n1⟩⟩,⟨⟨p0,p1,p2,p3,p4,p5⟩,_,p6⟩,⟨⟨q0,q1,q2,q3,q4,q5⟩,_,q6⟩⟩,hbw⟩:=HO.out
                 go_wp2_with fail
                 exact ⟨⟨k+1,by omega,by go_num,congrArg Value.bool (show false=_ by rw [HLN.out,HTD.out];first|done|rfl),HO.out.1.1⟩,by simp [intOf];omega⟩
            · have hd2:(y.nm.toList==x.nm.toList)=false:=by simpa using hnm
              clear HN2 hnm
              go_wp2_with fail
              clear n0 n1 p0 p1 p2 p3 p4 p5 p6 q0 q1 q2 q3 q4 q5 q6;refine aR HK (by kernel_rfl) (by kernel_rfl) (by first|exact HO.out|exact HK.out.drew HO.out) ?_;intro C HIN HOUT;clear HO
              repeat
               (with_reducible refine wpQuiet_step (fun K hK=> ?_)
                go_simp
                first
                 |(refine hK _ ?_;clear hK K)
                 |(apply Exists.intro;refine ⟨fun w1 hC=> ?_,hK _ ?_⟩;(focus ((first|(exact rfl)|(obtain ⟨⟨⟨hb1,⟨n0,n1⟩⟩,⟨⟨p0,p1,p2,p3,p4,p5⟩,_,p6⟩,⟨⟨q0,q1,q2,q3,q4,q5⟩,_,q6⟩⟩,hbw⟩:=HOUT.out w1 hC;clear hC;go_simp;first|done|exact rfl));done));clear hK K))
              refine wpQuiet_nil ?_;intro wn hC;have HO:=aA (HOUT.out _ hC);clear hC HIN HOUT C;obtain ⟨⟨⟨hb1,⟨n0,n1⟩⟩,⟨⟨p0,p1,p2,p3,p4,p5⟩,_,p6⟩,⟨⟨q0,q1,q2,q3,q4,q5⟩,_,q6⟩⟩,hbw⟩:=HO.out
              go_wp2_with fail
              clear n0 n1 p0 p1 p2 p3 p4 p5 p6 q0 q1 q2 q3 q4 q5 q6;cases lb with
              |true=>
               refine aR HK (by kernel_rfl) (by kernel_rfl) (by first|exact HO.out|exact HK.out.drew HO.out) ?_;intro C HIN HOUT;clear HO
               repeat
                (with_reducible refine wpQuiet_step (fun K hK=> ?_)
                 go_simp
                 first
                  |(refine hK _ ?_;clear hK K)
                  |(apply Exists.intro;refine ⟨fun w1 hC=> ?_,hK _ ?_⟩;(focus ((first|(exact rfl)|(obtain ⟨⟨⟨hb1,⟨n0,n1⟩⟩,⟨⟨p0,p1,p2,p3,p4,p5⟩,_,p6⟩,⟨⟨q0,q1,q2,q3,q4,q5⟩,_,q6⟩⟩,hbw⟩:=HOUT.out w1 hC;clear hC;go_simp;first|done|exact rfl));done));clear hK K))
               refine wpQuiet_nil ?_;intro wn hC;have HO:=aA (HOUT.out _ hC);clear hC HIN HOUT C;obtain ⟨⟨⟨hb1,⟨n0,n1⟩⟩,⟨⟨p0,p1,p2,p3,p4,p5⟩,_,p6⟩,⟨⟨q0,q1,q2,q3,q4,q5⟩,_,q6⟩⟩,hbw⟩:=HO.out
               go_wp2_with fail
               exact ⟨⟨k+1,by omega,by go_num,congrArg Value.bool (show true=_ by rw [HLN.out];first|done|rfl),HO.out.1.1⟩,by simp [intOf];omega⟩
              |false=>
               by_cases ht:tp=(i:Int)
               · have htd:(tp==(i:Int))=true:=by simp;exact ht
                 have HTD:Hid (decide (tp=(i:Int))=true):=decide_eq_true ht;clear ht;refine aR HK (by kernel_rfl) (by kernel_rfl) (by first|exact HO.out|exact HK.out.drew HO.out) ?_;intro C HIN HOUT;clear HO
                 repeat
                  (with_reducible refine wpQuiet_step (fun K hK=> ?_)
                   go_simp
                   first
                    |(refine hK _ ?_;clear hK K)
                    |(apply Exists.intro;refine ⟨fun w1 hC=> ?_,hK _ ?_⟩;(focus ((first|(go_at_call 39;with_reducible exact bU HIN HOUT HK (fun w1 hk=>HTO.out w1 hk.2) w1 hC)|(exact rfl)|(obtain ⟨⟨⟨hb1,⟨n0,n1⟩⟩,⟨⟨p0,p1,p2,p3,p4,p5⟩,_,p6⟩,⟨⟨q0,q1,q2,q3,q4,q5⟩,_,q6⟩⟩,hbw⟩:=HOUT.out w1 hC;clear hC;go_simp;first|done|exact rfl));done));clear hK K))
                 refine wpQuiet_nil ?_;intro wn hC;have HO:=aA (HOUT.out _ hC);clear hC HIN HOUT C;obtain ⟨⟨⟨hb1,⟨n0,n1⟩⟩,⟨⟨p0,p1,p2,p3,p4,p5⟩,_,p6⟩,⟨⟨q0,q1,q2,q3,q4,q5⟩,_,q6⟩⟩,hbw⟩:=HO.out
                 go_wp2_with fail
                 exact ⟨⟨k+1,by omega,by go_num,congrArg Value.bool (show true=_ by rw [HLN.out,HTD.out];first|done|rfl),HO.out.1.1⟩,by simp [intOf];omega⟩
               · have htd:(tp==(i:Int))=false:=by simp;exact ht
                 have HTD:Hid (decide (tp=(i:Int))=false):=decide_eq_false ht;clear ht;refine aR HK (by kernel_rfl) (by kernel_rfl) (by first|exact HO.out|exact HK.out.drew HO.out) ?_;intro C HIN HOUT;clear HO
                 repeat
                  (with_reducible refine wpQuiet_step (fun K hK=> ?_)
                   go_simp
                   first
                    |(refine hK _ ?_;clear hK K)
                    |(apply Exists.intro;refine ⟨fun w1 hC=> ?_,hK _ ?_⟩;(focus ((first|(go_at_call 39;with_reducible exact bU HIN HOUT HK (fun w1 hk=>HTO.out w1 hk.2) w1 hC)|(exact rfl)|(obtain ⟨⟨⟨hb1,⟨n0,n1⟩⟩,⟨⟨p0,p1,p2,p3,p4,p5⟩,_,p6⟩,⟨⟨q0,q1,q2,q3,q4,q5⟩,_,q6⟩⟩,hbw⟩:=HOUT.out w1 hC;clear hC;go_simp;first|done|exact rfl));done));clear hK K))
                 refine wpQuiet_nil ?_;intro wn hC;have HO:=aA (HOUT.out _ hC);clear hC HIN HOUT C;obtain ⟨⟨⟨hb1,⟨n0,n1⟩⟩,⟨⟨p0,p1,p2,p3,p4,p5⟩,_,p6⟩,⟨⟨q0,q1,q2,q3,q4,q5⟩,_,q6⟩⟩,hbw⟩:=HO.out
                 go_wp2_with fail
                 exact ⟨⟨k+1,by omega,by go_num,congrArg Value.bool (show false=_ by rw [HLN.out,HTD.out];first|done|rfl),HO.out.1.1⟩,by simp [intOf];omega⟩
       · obtain rfl:k=lg:=by omega
         have hkk:¬ ((k:Int)<(k:Int)):=by omega
         rw [HLA.out];obtain ⟨_,⟨y0,y1⟩⟩:=hb
         go_wp2_with fail
         exact ⟨⟨i+1,by omega,by omega,by go_num,HB.out⟩,by simp [intOf];omega⟩
    · obtain rfl:i=lg:=by omega
      have hki:¬ ((i:Int)<(i:Int)):=by omega
      obtain ⟨_,⟨y0,y1⟩⟩:=hb
      go_wp2_with (go_at_call 28;refine (HLV.out _ HB.out.1).mono ?_;rintro e w9 ⟨rfl,ok⟩;have HK9:=aA (aB HB.out.1 ok);clear ok)
      go_ret;exact ⟨rfl,HK9.out⟩
 · have hcd:(ce != 0)=true:=by simp;exact hce
   clear HF2
   go_wp2_with (first
    |(have _t:=HK2;go_at_call 28;refine (HLV.out _ HK2.out.1.1).mono ?_;rintro e w3 ⟨rfl,ok⟩;have HK3:=aA (aB HK2.out.1.1 ok);clear ok)
    |(go_at_call 26;refine HC3.out.mono ?_;rintro e w2 ⟨rfl,ok⟩;have HK2:=aA (HKP.out _ _ HK1.out ok);clear ok))
   go_ret;exact ⟨rfl,HK3.out⟩
end Go.Proofs.YtpfemjlhklnfoaaGreatDoor
namespace Go.Proofs.YtpfemjlhklnfoaaGreatDoor
open Go.ChangeShapes Go.WideShapes Go.ChangeAt Go.RowKit Go.ChangeMaps
set_option maxRecDepth 100000
theorem DI:Tryz.prog.cellsOf 57=4:=by kernel_rfl
end Go.Proofs.YtpfemjlhklnfoaaGreatDoor
namespace Go.Proofs.YtpfemjlhklnfoaaGreatDoor
open Go.ChangeShapes Go.WideShapes Go.ChangeAt Go.RowKit
set_option maxRecDepth 100000
def fV (W:World) (v:Value) (L:List Dp):Prop:=DepsAt W v L∧L.length≤9223372036854775807∧∀ d ∈ L,d.nm.size≤9223372036854775807
theorem ND {H:Type} {enc:TypeId×Value→H} {W:World} {base n:Nat} {held:Bool} {cs:List Value} {x:DataW H×List MemPlace} (h:DataW.trod enc Tryz.prog W base (fun _=>true) held n 57 cs=some x):
 ∃ v1 v2 v3 v4 L1 L2 L3 L4,(cs[0]? =some v1∧cs[1]? =some v2∧cs[2]? =some v3∧cs[3]? =some v4)∧fV W v1 L1∧fV W v2 L2∧fV W v3 L3∧fV W v4 L4:=by
 have hs:Tryz.prog.underlying 57=some (.struct (Tryz.prog.fieldsOf 57)):=by kernel_rfl
 obtain ⟨xs,n',_,_,_,hxl,hf⟩:=DataW.trod_struct hs h;have hfz:(Tryz.prog.fieldsOf 57).size=4:=by kernel_rfl
 have get:∀ i,((Tryz.prog.fieldsOf 57)[i]?).map (fun f=>(f.type,f.offset))=some (32,i)→i<4→∃ v L,cs[i]? =some v∧fV W v L:=by
  intro i hfd hi;obtain ⟨f,h1,h2,h3⟩:=bA hfd;have hr:=hf i f h1;rw [h2,h3,hI,List.getElem?_eq_getElem (by omega:i<xs.length)] at hr;obtain ⟨v,L,e,hL,hz,hm⟩:=lT hr;exact ⟨v,L,eC e,hL,hz,hm⟩
 obtain ⟨v1,L1,k1,h1⟩:=get 0 (by kernel_rfl) (by decide);obtain ⟨v2,L2,k2,h2⟩:=get 1 (by kernel_rfl) (by decide);obtain ⟨v3,L3,k3,h3⟩:=get 2 (by kernel_rfl) (by decide);obtain ⟨v4,L4,k4,h4⟩:=get 3 (by kernel_rfl) (by decide);exact ⟨v1,v2,v3,v4,L1,L2,L3,L4,⟨k1,k2,k3,k4⟩,h1,h2,h3,h4⟩
end Go.Proofs.YtpfemjlhklnfoaaGreatDoor
