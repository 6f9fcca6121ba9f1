/- Gd7, Ge1: their declarations that are needed, laid in one text, remarks and blanks left out. -/
import Derived.Test.YtpfemjlhklnfoaaGreatDoorMg15
namespace Go.Proofs.YtpfemjlhklnfoaaGreatDoor
open Go.Shelf Go.RowKit Go.Lib Go.Sort
set_option maxRecDepth 100000
theorem StP.grown {w:World} {v:Value} {N:Nat} {x:Pn} {ao:Option Addr} {co:Nat} {L:List Pn} {W W1:World} {row:Option Nat} {B:Nat} (h:StP w v N x ao co L W) (hg:W.grownBy W1 row) (hr:∀ b,row=some b→B≤b) (hw:w.heap.size<B) (hN:N<B) (ho:∀ b,(Value.slice ao L.length co).ownBlock=some b→b<B):StP w v N x ao co L W1:=by
 have hc:∀ g i u,g<B→W.cell? ⟨g,i,none⟩=some u→W1.cell? ⟨g,i,none⟩=some u:=fun g i u hgb hu=>hg.cell hu (fun e=>by
  have h3:B≤g:=hr g e.symm;omega)
 obtain ⟨⟨h1,h2,h3⟩,⟨⟨h4,h5,h6,h7⟩,h8⟩,h9⟩:=h;refine ⟨⟨h1.grown hg h1.size (fun b hb=>Nat.le_trans (Nat.le_of_lt hw) (hr b hb)),hc _ _ _ hw h2,Nat.lt_of_lt_of_le h3 hg.size⟩,⟨⟨hc _ _ _ hN h4,hc _ _ _ hN h5,hc _ _ _ hN h6,hc _ _ _ hN h7⟩,Nat.lt_of_lt_of_le h8 hg.size⟩,?_⟩;refine World.ownsRow.kept h9 hg ?_;cases hob:(Value.slice ao L.length co).ownBlock with
 |none=>exact Or.inl rfl
 |some b=>
  refine Or.inr fun e=> ?_
  have h10:=ho b hob;have h11:=hr b e.symm;omega
theorem lD (w:World) (l:List Pn) (ad:Option Addr) {c:Nat}:eD w (.slice ad 0 c) 0 ((l.drop l.length).flatMap aF):=by
 rw [List.drop_length];exact tK
def AG (w:World) (G:List Nd) (e:Ending) (w':World):Prop:=∃ v,e= .returned v∧OwnPn w' w.heap.size v (dY (aR G G.length))∧Below w.heap.size w w'
set_option maxHeartbeats 25600000 in
theorem nP {G:List Nd} {v:Value} {w:World} (hG:NodesAt w v G) (hz:G.length≤1000000000000):
 Calls Tryz.prog 36 #[.agg #[v]] w fun e w'=>AG w G e w':=by
 obtain ⟨ad,cap,rfl,hcap,hl⟩:=hG
 have HEL:Hid (∀ k (h:k<G.length),∃ g o,ad=some ⟨g,o,none⟩∧∃ vc ve,NdIn w g (o+k*6) G[k] vc ve):=fun k hk=>by
  rcases hl with e|⟨g,o,e,_,hs⟩
  · rw [e] at hk;cases hk
  · exact ⟨g,o,e,hs k hk⟩
 have HB0:Hid (Below w.heap.size w (w.alloc (.cells #[.slice ad G.length cap] 55))∧BxG (w.alloc (.cells #[.slice ad G.length cap] 55)) w.heap.size (.slice ad G.length cap)):=⟨aD _ _,BxG.new rfl _⟩;have HLS:=aA (fun (x y:Pn) (w1:World)=>mX x y w1);have hgd:=eI
 have hlA:∀ k,(dY (aR G k)).length≤k:=fun k=>by
  have h1:∀ (l m:List Pn),(l.foldl aY m).length≤m.length+l.length:=fun l=>by
   induction l with
   |nil=>intro m;simp
   |cons y r ih=>
    intro m
    have h2:∀ (m:List Pn),(aY m y).length≤m.length+1:=fun m=>by
     induction m with
     |nil=>exact Nat.le_refl _
     |cons z s ih2=>
      rw [aY]
      split
      · rw [List.length_cons,List.length_cons];omega
      · split
        · rw [List.length_cons];omega
        · rw [List.length_cons,List.length_cons];omega
    have h3:=ih (aY m y);have h4:=h2 m;rw [List.foldl_cons,List.length_cons];omega
  have h5:=h1 (aR G k) [];have h6:=eM G k;unfold dY
  simp at h5
  omega
 have HLA:=aA hlA;clear hl hlA
 go_enter Tryz.func36,Tryz.ntmps36
 go_wp2_with fail
 go_loopw [3,4] (fun v3 v4 wr=>∃ (k:Nat) (ao:Option Addr) (co:Nat) (L:List Pn),v3= .slice ao L.length co∧v4= .int .i64 (k:Nat)∧(1≤k∧(k≤G.length∨k=1))∧L=dY (aR G k)∧((ao=none∧L=[]∧co=0)∨∃ g,ao=some ⟨g,0,none⟩)∧(Below w.heap.size w wr∧BxG wr w.heap.size (.slice ad G.length cap))∧OwnPn wr w.heap.size (.slice ao L.length co) L) (fun _ v4 _=>G.length+1 - (intOf v4).toNat)
 case atStart=>exact ⟨1,none,0,[],rfl,rfl,⟨Nat.le_refl _,Or.inr rfl⟩,by
  unfold aR;cases G with
  |nil=>rfl
  |cons a r=>simp [dY],Or.inl ⟨rfl,rfl,rfl⟩,HB0.out,OwnPn.nil _ _⟩
 case round=>
  clear HB0;obtain ⟨k,ao,co,L,rfl,rfl,⟨hk1,hk2⟩,hL,hao,hb,hown⟩:=hrel;have HB:=aA hb;have HOW:=aA hown;have HLL:=aA hL;have HAO:=aA hao;have hLl:=HLA.out k;rw [←hL] at hLl;obtain ⟨_,y0,y1⟩:=hb
  by_cases hlt:k<G.length
  · obtain ⟨g0,o0,rfl,vc,ve,hx⟩:=HEL.out k hlt
    have HX:=aA (hx.below HB.out.1)
    have HNX:Hid (dY (aR G (k+1))=aY L (bV G[k])):=by
     unfold Hid;rw [iW hlt (by omega),sT,hL]
    obtain ⟨⟨x0,x1,x2,x3,x4,x5⟩,_,x6⟩:=HX.out;have hkl:(k:Int)<G.length:=by omega
    have hk0:(0:Int)≤k:=by omega
    have hpn:bV G[k]=⟨G[k].nm,G[k].a,G[k].b,G[k].c⟩:=rfl;rw [hpn] at HNX;obtain ⟨x,hxe⟩:∃ x:Pn,x=⟨G[k].nm,G[k].a,G[k].b,G[k].c⟩:=⟨_,rfl⟩;rw [←hxe] at HNX;have e1:G[k].nm=x.nm:=by rw [hxe]
    have e2:G[k].a=x.a:=by rw [hxe]
    have e3:G[k].b=x.b:=by rw [hxe]
    have e4:G[k].c=x.c:=by rw [hxe]
    rw [e1] at x0;rw [e2] at x1;rw [e3] at x2;rw [e4] at x3;clear hx hown hL hao hpn hxe e1 e2 e3 e4 HX
    go_wp2_with fail
    go_region
    obtain ⟨W,hW⟩:∃ q,q=(wr.alloc (.cells #[.string x.nm,.int .i64 x.a,.int .i64 x.b,.int .i64 x.c] 80)).drew:=⟨_,rfl⟩;obtain ⟨N,hN⟩:∃ q,q=wr.heap.size:=⟨_,rfl⟩
    have HSP:Hid (StP w (.slice (some ⟨g0,o0,none⟩) G.length cap) N x ao co L W):=by
     rw [hW,hN];exact KeepP.drew (dP _ _ _ _ _ _ _) ⟨⟨aB HB.out.1 (aD _ _),aW _ _ _ _ HB.out.2 (aD _ _)⟩,BxPq.new rfl x,HOW.out.belowG (aD _ _)⟩
    rw [←hW,←hN]
    have HFA:Hid (∀ w6 a6 c6,OwnPn w6 w.heap.size (.slice a6 (aY L x).length c6) (aY L x)→(a6=none∧aY L x=[]∧c6=0)∨∃ g,a6=some ⟨g,0,none⟩):=fun w6 a6 c6 h=>by
     rcases h.2 with ⟨e,hn⟩|⟨g',cap',cur,hv,_⟩
     · injection e with _ e2 _
       have:x ∈ aY L x:=(fR L x x).2 (Or.inr rfl)
       rw [List.eq_nil_of_length_eq_zero e2] at this;cases this
     · injection hv with h1 _ _
       exact Or.inr ⟨_,h1⟩
    have HIQ:=aA (qU L x);have hpl:=qS L x;clear hW x0 x1 x2 x3 x4 x5 x6 y0 y1 hN HB HOW
    go_wp2_with fail
    go_loopw [6] (fun vi wq=>∃ t:Nat,vi= .int .i64 (t:Nat)∧t≤cL L x∧StP w (.slice (some ⟨g0,o0,none⟩) G.length cap) N x ao co L wq) (fun vi _=>L.length - (intOf vi).toNat)
    case atStart=>exact ⟨0,rfl,Nat.zero_le _,HSP.out⟩
    case round=>
     clear HSP;obtain ⟨t,rfl,ht,hsp⟩:=hrel;have HSP:=aA hsp
     by_cases htl:t<L.length
     · obtain ⟨g,rfl⟩:∃ g,ao=some ⟨g,0,none⟩:=by
        rcases HAO.out with ⟨_,h,_⟩|h
        · rw [h] at htl;cases htl
        · exact h
       have hpt:=hsp.2.2.cell htl;have HK:Hid (KeepP fun W=>StP w (.slice (some ⟨g0,o0,none⟩) G.length cap) N x (some ⟨g,0,none⟩) co L W∧PnIn W g (t*4) L[t]):=(dP _ _ _ _ _ _ _).and (cA _ _ _);have HO:Hid (StP w (.slice (some ⟨g0,o0,none⟩) G.length cap) N x (some ⟨g,0,none⟩) co L wr∧PnIn wr g (t*4) L[t]):=⟨hsp,hpt⟩;have HLX:Hid (∀ w1,Calls Tryz.prog 79 #[.agg #[.string L[t].nm,.int .i64 L[t].a,.int .i64 L[t].b,.int .i64 L[t].c],.agg #[.string x.nm,.int .i64 x.a,.int .i64 x.b,.int .i64 x.c]] w1 fun e w'=>e= .returned (.bool (ltQ L[t] x))∧Below w1.heap.size w1 w'):=fun w1=>HLS.out L[t] x w1
       have htli:(t:Int)<L.length:=by omega
       have ht0:(0:Int)≤t:=by omega
       by_cases htp:t<cL L x
       · have hq:=iY L x t htl htp
         rw [hq] at HLX;clear hsp hpt hq
         go_wp2_with fail
         refine aX HK (by kernel_rfl) (by kernel_rfl) (by first|exact HO.out|exact HK.out.drew HO.out) ?_;intro C HIN HOUT;clear HO
         repeat
          (with_reducible refine wpQuiet_step (fun K hK=> ?_)
           go_simp
           first
            |(refine hK _ ?_;clear hK K)
            |(apply Exists.intro;refine ⟨fun w1 hC=> ?_,hK _ ?_⟩;(focus ((first|(go_at_call 79;with_reducible exact bL HIN HOUT HK HLX.out w1 hC)|(exact rfl)|(obtain ⟨⟨⟨_,y0,y1⟩,⟨⟨z0,z1,z2,z3⟩,z4⟩,_⟩,⟨p0,p1,p2,p3⟩,p4⟩:=HOUT.out w1 hC;clear hC;go_simp;first|done|exact rfl));done));clear hK K))
         refine wpQuiet_nil ?_;intro wn hC;have HO:=aA (HOUT.out _ hC);clear hC HIN HOUT C;obtain ⟨⟨⟨_,y0,y1⟩,⟨⟨z0,z1,z2,z3⟩,z4⟩,_⟩,⟨p0,p1,p2,p3⟩,p4⟩:=HO.out
         go_wp2
         exact ⟨⟨t+1,by go_num,by omega,HO.out.1⟩,by simp [intOf];omega⟩
       · have hte:cL L x=t:=by omega
         have hq:ltQ L[t] x=false:=by
          have q:=qT L x (by omega);simp only [hte] at q;exact q
         have HIX:Hid (aY L x=if bD L[t] x=true then L else L.take t++x::L.drop t):=by
          unfold Hid;rw [HIQ.out,hte,List.getElem?_eq_getElem htl]
          simp
         rw [hq] at HLX;have hv:=uF L[t] x;clear hsp hpt hq
         go_wp2_with fail
         refine aX HK (by kernel_rfl) (by kernel_rfl) (by first|exact HO.out|exact HK.out.drew HO.out) ?_;intro C HIN HOUT;clear HO
         repeat
          (with_reducible refine wpQuiet_step (fun K hK=> ?_)
           go_simp
           first
            |(refine hK _ ?_;clear hK K)
            |(apply Exists.intro;refine ⟨fun w1 hC=> ?_,hK _ ?_⟩;(focus ((first|(go_at_call 79;with_reducible exact bL HIN HOUT HK HLX.out w1 hC)|(exact rfl)|(obtain ⟨⟨⟨_,y0,y1⟩,⟨⟨z0,z1,z2,z3⟩,z4⟩,_⟩,⟨p0,p1,p2,p3⟩,p4⟩:=HOUT.out w1 hC;clear hC;go_simp;first|done|exact rfl));done));clear hK K))
         refine wpQuiet_nil ?_;intro wn0 hC;have HO:=aA (HOUT.out _ hC);clear hC HIN HOUT C;obtain ⟨⟨⟨_,y0,y1⟩,⟨⟨z0,z1,z2,z3⟩,z4⟩,_⟩,⟨p0,p1,p2,p3⟩,p4⟩:=HO.out;have HO1:=aA HO.out;clear HO;have HO:=aA HO1.out;clear HO1;cases hqe:bD L[t] x
         · rw [hqe] at hv HIX
           have HIN:Hid (aY L x=L.take t++x::L.drop t):=by unfold Hid;rw [HIX.out,if_neg (by simp)]
           go_wp2_with fail
           clear y0 y1 z0 z1 z2 z3 z4 p0 p1 p2 p3 p4;refine aX HK (by kernel_rfl) (by kernel_rfl) (by first|exact HO.out|exact HK.out.drew HO.out) ?_;intro C HIN HOUT;clear HO
           repeat
            (with_reducible refine wpQuiet_step (fun K hK=> ?_)
             go_simp
             first
              |(refine hK _ ?_;clear hK K)
              |(apply Exists.intro;refine ⟨fun w1 hC=> ?_,hK _ ?_⟩;(focus ((first|(exact rfl)|(obtain ⟨⟨⟨_,y0,y1⟩,⟨⟨z0,z1,z2,z3⟩,z4⟩,_⟩,⟨p0,p1,p2,p3⟩,p4⟩:=HOUT.out w1 hC;clear hC;go_simp;first|done|exact rfl));done));clear hK K))
           refine wpQuiet_nil ?_;intro wn hC;have HO:=aA (HOUT.out _ hC);clear hC HIN HOUT C;obtain ⟨⟨⟨_,y0,y1⟩,⟨⟨z0,z1,z2,z3⟩,z4⟩,_⟩,⟨p0,p1,p2,p3⟩,p4⟩:=HO.out;have HO1:=aA HO.out.1;clear HO y0 y1 z0 z1 z2 z3 z4 p0 p1 p2 p3 p4 HSP HLX HIX HK;have HO:=aA HO1.out;clear HO1;have hPl:t≤L.length:=by omega
           have hNb:N<wn.heap.size:=HO.out.2.1.2;have hwb:w.heap.size<wn.heap.size:=HO.out.1.2.2;have hob:∀ b,(Value.slice (some ⟨g,0,none⟩) L.length co).ownBlock=some b→b<wn.heap.size:=fun b hb=>(World.ownsRow.lt HO.out.2.2 b hb).2
           obtain ⟨_,y0,y1⟩:=HO.out.1;obtain ⟨⟨z0,z1,z2,z3⟩,z4⟩:=HO.out.2.1;have HSA:Hid (eD wn (.slice (some ⟨g,0,none⟩) t co) t ((L.take t).flatMap aF)):=eN HO.out.2.2 hPl;have hLc:L.length≤co:=HO.out.2.2.roomG.1;have hPc:(t:Int)≤(co:Nat):=by omega
           have hPl2:(t:Int)≤L.length:=by first|omega|simp
           have hP0:(0:Int)≤t:=by omega
           have hlk:(L.take t).length=t:=by first|(rw [List.length_take];omega)|simp
           have hlx:(L.take t++[x]).length=t+1:=by rw [List.length_append,hlk];rfl
           have hld:(L.drop t).length=L.length - t:=by simp
           go_wp2_with (first
            |(have _t:=HA2;at_builtin;refine cN (B:=wn.heap.size) (n:=t+1) (m:=L.length - t) (news:=(L.drop t).flatMap aF) rfl _ _ rfl rfl HA2.out.2 hlx HA2.out.1.1.1.2 rfl HA2.out.1.2 (bZ _) (by omega) ?_;intro v6 w6 ho6 hg6;have HF:Hid ((StP w (.slice (some ⟨g0,o0,none⟩) G.length cap) N x (some ⟨g,0,none⟩) co L w6∧wn.heap.size≤w6.heap.size)∧OwnPn w6 wn.heap.size v6 (aY L x)):=(by
               refine ⟨⟨HA2.out.1.1.1.1.grown hg6 (fun b hb=>(World.ownsRow.lt HA2.out.2 b hb).1) hwb hNb hob,Nat.le_trans HA2.out.1.1.1.2 hg6.size⟩,?_⟩;rw [HIN.out];unfold OwnPn;rw [show L.take t++x::L.drop t=(L.take t++[x])++L.drop t by simp,List.length_append,List.flatMap_append,List.length_append,hlk,hld];exact ho6);obtain ⟨a6,c6,rfl⟩:=HF.out.2.lenG;clear ho6 hg6)
            |(have _t:=HA1;at_builtin;refine cN (B:=wn.heap.size) (n:=t) (m:=1) (news:=aF x) rfl _ _ rfl rfl HA1.out.2.1 hlk HA1.out.1.2 rfl HA1.out.2.2 (cF x) (by omega) ?_;intro v5 w5 ho5 hg5;have HA2:Hid ((((StP w (.slice (some ⟨g0,o0,none⟩) G.length cap) N x (some ⟨g,0,none⟩) co L w5∧wn.heap.size≤w5.heap.size)∧True)∧eD w5 (.slice (some ⟨g,t*4,none⟩) (L.length - t) (co - t)) (L.length - t) ((L.drop t).flatMap aF))∧OwnPn w5 wn.heap.size v5 (L.take t++[x])):=(by
               have hS:=HA1.out.1.1.grown hg5 (fun b hb=>(World.ownsRow.lt HA1.out.2.1 b hb).1) hwb hNb hob;refine ⟨⟨⟨⟨hS,Nat.le_trans HA1.out.1.2 hg5.size⟩,trivial⟩,wB hS.2.2 hPl⟩,?_⟩;unfold OwnPn;rw [List.length_append,hlk,List.flatMap_append]
               simpa using ho5);obtain ⟨a5,c5,rfl⟩:=HA2.out.2.lenG;rw [hlx] at HA2;clear ho5 hg5)
            |(at_builtin;refine cN (B:=wn.heap.size) (n:=0) (m:=t) (l:=[]) (news:=(L.take t).flatMap aF) rfl _ _ rfl rfl (OwnPn.nil _ _) rfl (Nat.le_refl _) rfl HSA.out (bZ _) (by omega) ?_;intro v4 w4 ho4 hg4;have HA1:Hid ((StP w (.slice (some ⟨g0,o0,none⟩) G.length cap) N x (some ⟨g,0,none⟩) co L (w4.alloc (.cells #[.string x.nm,.int .i64 x.a,.int .i64 x.b,.int .i64 x.c] 80))∧wn.heap.size≤(w4.alloc (.cells #[.string x.nm,.int .i64 x.a,.int .i64 x.b,.int .i64 x.c] 80)).heap.size)∧OwnPn (w4.alloc (.cells #[.string x.nm,.int .i64 x.a,.int .i64 x.b,.int .i64 x.c] 80)) wn.heap.size v4 (L.take t)∧eD (w4.alloc (.cells #[.string x.nm,.int .i64 x.a,.int .i64 x.b,.int .i64 x.c] 80)) (.slice (some ⟨w4.heap.size,0,none⟩) 1 1) 1 (aF x)):=(by
               have h4:=HO.out.grown hg4 (fun b hb=>by cases hb) hwb hNb hob
               have o4:OwnPn w4 wn.heap.size v4 (L.take t):=(by
                unfold OwnPn;rw [hlk]
                simpa using ho4)
               refine ⟨⟨dP _ _ _ _ _ _ _ _ _ h4 (aD _ _),Nat.le_trans hg4.size (aD _ _).size⟩,o4.belowG (aD _ _),rfl,Or.inr ⟨_,_,rfl,fun j u hu=> ?_⟩⟩
               rcases j with _|_|_|_|j<;>simp [aF] at hu<;>subst hu<;>simp [Addr.add]);have h4z:BxPq w4 N x:=(HO.out.grown hg4 (fun b hb=>by cases hb) hwb hNb hob).2.1;obtain ⟨⟨z0,z1,z2,z3⟩,z4⟩:=h4z;obtain ⟨a4,c4,rfl⟩:=HA1.out.2.1.lenG;rw [hlk] at HA1;clear ho4 hg4))
           have HFB:Hid (OwnPn w6 w.heap.size (.slice a6 (aY L x).length c6) (aY L x)):=dF HF.out.2 (Nat.le_of_lt hwb);exact ⟨⟨k+1,a6,c6,aY L x,rfl,by go_num,⟨by omega,by omega⟩,HNX.out.symm,HFA.out _ _ _ HFB.out,HF.out.1.1.1,HFB.out⟩,by simp [intOf];omega⟩
         · rw [hqe] at hv HIX
           have HIN:Hid (aY L x=L):=by unfold Hid;rw [HIX.out,if_pos rfl]
           go_wp2_with fail
           clear y0 y1 z0 z1 z2 z3 z4 p0 p1 p2 p3 p4;refine aX HK (by kernel_rfl) (by kernel_rfl) (by first|exact HO.out|exact HK.out.drew HO.out) ?_;intro C HIN HOUT;clear HO
           repeat
            (with_reducible refine wpQuiet_step (fun K hK=> ?_)
             go_simp
             first
              |(refine hK _ ?_;clear hK K)
              |(apply Exists.intro;refine ⟨fun w1 hC=> ?_,hK _ ?_⟩;(focus ((first|(exact rfl)|(obtain ⟨⟨⟨_,y0,y1⟩,⟨⟨z0,z1,z2,z3⟩,z4⟩,_⟩,⟨p0,p1,p2,p3⟩,p4⟩:=HOUT.out w1 hC;clear hC;go_simp;first|done|exact rfl));done));clear hK K))
           refine wpQuiet_nil ?_;intro wn hC;have HO:=aA (HOUT.out _ hC);clear hC HIN HOUT C;obtain ⟨⟨⟨_,y0,y1⟩,⟨⟨z0,z1,z2,z3⟩,z4⟩,_⟩,⟨p0,p1,p2,p3⟩,p4⟩:=HO.out
           go_wp2
           exact ⟨⟨k+1,some ⟨g,0,none⟩,co,L,rfl,by go_num,⟨by omega,by omega⟩,by rw [HNX.out,HIN.out],Or.inr ⟨_,rfl⟩,HO.out.1.1,HO.out.1.2.2⟩,by simp [intOf];omega⟩
     · have hte:t=L.length:=by omega
       subst hte;have hpe:cL L x=L.length:=by omega
       have HIN:Hid (aY L x=L.take L.length++x::L.drop L.length):=by
        unfold Hid;rw [HIQ.out,hpe,List.getElem?_eq_none (Nat.le_refl _)]
        simp
       have HK:Hid (KeepP fun W=>StP w (.slice (some ⟨g0,o0,none⟩) G.length cap) N x ao co L W):=dP _ _ _ _ _ _ _;have HO:=aA hsp;have hPl:L.length≤L.length:=Nat.le_refl _;clear hsp HSP
       rcases HAO.out with ⟨rfl,hL0,rfl⟩|⟨g,rfl⟩
       · subst hL0
         have HIN1:=HIN.out;clear HIN;have HIN:Hid (aY [] x=([]:List Pn).take 0++x::([]:List Pn).drop 0):=HIN1;clear HIN1;have hPl:0≤([]:List Pn).length:=Nat.le_refl _
         go_wp2_with fail
         refine aX HK (by kernel_rfl) (by kernel_rfl) (by first|exact HO.out|exact HK.out.drew HO.out) ?_;intro C HIN HOUT;clear HO
         repeat
          (with_reducible refine wpQuiet_step (fun K hK=> ?_)
           go_simp
           first
            |(refine hK _ ?_;clear hK K)
            |(apply Exists.intro;refine ⟨fun w1 hC=> ?_,hK _ ?_⟩;(focus ((first|(exact rfl)|(obtain ⟨⟨_,y0,y1⟩,⟨⟨z0,z1,z2,z3⟩,z4⟩,_⟩:=HOUT.out w1 hC;clear hC;go_simp;first|done|exact rfl));done));clear hK K))
         refine wpQuiet_nil ?_;intro wn hC;have HO:=aA (HOUT.out _ hC);clear hC HIN HOUT C;obtain ⟨⟨_,y0,y1⟩,⟨⟨z0,z1,z2,z3⟩,z4⟩,_⟩:=HO.out;clear y0 y1 z0 z1 z2 z3 z4 HK;have hNb:N<wn.heap.size:=HO.out.2.1.2;have hwb:w.heap.size<wn.heap.size:=HO.out.1.2.2;have hob:∀ b,(Value.slice none ([]:List Pn).length 0).ownBlock=some b→b<wn.heap.size:=fun b hb=>(World.ownsRow.lt HO.out.2.2 b hb).2
         obtain ⟨_,y0,y1⟩:=HO.out.1;obtain ⟨⟨z0,z1,z2,z3⟩,z4⟩:=HO.out.2.1;have HSA:Hid (eD wn (.slice none 0 0) 0 ((([]:List Pn).take 0).flatMap aF)):=eN HO.out.2.2 hPl;have hLc:([]:List Pn).length≤0:=HO.out.2.2.roomG.1;have hPc:(0:Int)≤(0:Nat):=by omega
         have hPl2:(0:Int)≤([]:List Pn).length:=by first|omega|simp
         have hP0:(0:Int)≤0:=by omega
         have hlk:(([]:List Pn).take 0).length=0:=by first|(rw [List.length_take];omega)|simp
         have hlx:(([]:List Pn).take 0++[x]).length=0+1:=by rw [List.length_append,hlk];rfl
         have hld:(([]:List Pn).drop 0).length=0:=by simp
         go_wp2_with (first
          |(have _t:=HA2;at_builtin;refine cN (B:=wn.heap.size) (n:=0+1) (m:=0) (news:=(([]:List Pn).drop 0).flatMap aF) rfl _ _ rfl rfl HA2.out.2 hlx HA2.out.1.1.1.2 rfl HA2.out.1.2 (bZ _) (by omega) ?_;intro v6 w6 ho6 hg6;have HF:Hid ((StP w (.slice (some ⟨g0,o0,none⟩) G.length cap) N x none 0 ([]:List Pn) w6∧wn.heap.size≤w6.heap.size)∧OwnPn w6 wn.heap.size v6 (aY ([]:List Pn) x)):=(by
             refine ⟨⟨HA2.out.1.1.1.1.grown hg6 (fun b hb=>(World.ownsRow.lt HA2.out.2 b hb).1) hwb hNb hob,Nat.le_trans HA2.out.1.1.1.2 hg6.size⟩,?_⟩;rw [HIN.out];unfold OwnPn;rw [show ([]:List Pn).take 0++x::([]:List Pn).drop 0=(([]:List Pn).take 0++[x])++([]:List Pn).drop 0 by simp,List.length_append,List.flatMap_append,List.length_append,hlk,hld];exact ho6);obtain ⟨a6,c6,rfl⟩:=HF.out.2.lenG;clear ho6 hg6)
          |(have _t:=HA1;at_builtin;refine cN (B:=wn.heap.size) (n:=0) (m:=1) (news:=aF x) rfl _ _ rfl rfl HA1.out.2.1 hlk HA1.out.1.2 rfl HA1.out.2.2 (cF x) (by omega) ?_;intro v5 w5 ho5 hg5;have HA2:Hid ((((StP w (.slice (some ⟨g0,o0,none⟩) G.length cap) N x none 0 ([]:List Pn) w5∧wn.heap.size≤w5.heap.size)∧True)∧eD w5 (.slice none 0 0) (0) ((([]:List Pn).drop 0).flatMap aF))∧OwnPn w5 wn.heap.size v5 (([]:List Pn).take 0++[x])):=(by
             have hS:=HA1.out.1.1.grown hg5 (fun b hb=>(World.ownsRow.lt HA1.out.2.1 b hb).1) hwb hNb hob;refine ⟨⟨⟨⟨hS,Nat.le_trans HA1.out.1.2 hg5.size⟩,trivial⟩,lD _ ([]:List Pn) _⟩,?_⟩;unfold OwnPn;rw [List.length_append,hlk,List.flatMap_append]
             simpa using ho5);obtain ⟨a5,c5,rfl⟩:=HA2.out.2.lenG;rw [hlx] at HA2;clear ho5 hg5)
          |(at_builtin;refine cN (B:=wn.heap.size) (n:=0) (m:=0) (l:=[]) (news:=(([]:List Pn).take 0).flatMap aF) rfl _ _ rfl rfl (OwnPn.nil _ _) rfl (Nat.le_refl _) rfl HSA.out (bZ _) (by omega) ?_;intro v4 w4 ho4 hg4;have HA1:Hid ((StP w (.slice (some ⟨g0,o0,none⟩) G.length cap) N x none 0 ([]:List Pn) (w4.alloc (.cells #[.string x.nm,.int .i64 x.a,.int .i64 x.b,.int .i64 x.c] 80))∧wn.heap.size≤(w4.alloc (.cells #[.string x.nm,.int .i64 x.a,.int .i64 x.b,.int .i64 x.c] 80)).heap.size)∧OwnPn (w4.alloc (.cells #[.string x.nm,.int .i64 x.a,.int .i64 x.b,.int .i64 x.c] 80)) wn.heap.size v4 (([]:List Pn).take 0)∧eD (w4.alloc (.cells #[.string x.nm,.int .i64 x.a,.int .i64 x.b,.int .i64 x.c] 80)) (.slice (some ⟨w4.heap.size,0,none⟩) 1 1) 1 (aF x)):=(by
             have h4:=HO.out.grown hg4 (fun b hb=>by cases hb) hwb hNb hob
             have o4:OwnPn w4 wn.heap.size v4 (([]:List Pn).take 0):=(by
              unfold OwnPn;rw [hlk]
              simpa using ho4)
             refine ⟨⟨dP _ _ _ _ _ _ _ _ _ h4 (aD _ _),Nat.le_trans hg4.size (aD _ _).size⟩,o4.belowG (aD _ _),rfl,Or.inr ⟨_,_,rfl,fun j u hu=> ?_⟩⟩
             rcases j with _|_|_|_|j<;>simp [aF] at hu<;>subst hu<;>simp [Addr.add]);have h4z:BxPq w4 N x:=(HO.out.grown hg4 (fun b hb=>by cases hb) hwb hNb hob).2.1;obtain ⟨⟨z0,z1,z2,z3⟩,z4⟩:=h4z;obtain ⟨a4,c4,rfl⟩:=HA1.out.2.1.lenG;rw [hlk] at HA1;clear ho4 hg4))
         have HFB:Hid (OwnPn w6 w.heap.size (.slice a6 (aY ([]:List Pn) x).length c6) (aY ([]:List Pn) x)):=dF HF.out.2 (Nat.le_of_lt hwb);exact ⟨⟨k+1,a6,c6,aY ([]:List Pn) x,rfl,by go_num,⟨by omega,by omega⟩,HNX.out.symm,HFA.out _ _ _ HFB.out,HF.out.1.1.1,HFB.out⟩,by simp [intOf];omega⟩
       · go_wp2_with fail
         refine aX HK (by kernel_rfl) (by kernel_rfl) (by first|exact HO.out|exact HK.out.drew HO.out) ?_;intro C HIN HOUT;clear HO
         repeat
          (with_reducible refine wpQuiet_step (fun K hK=> ?_)
           go_simp
           first
            |(refine hK _ ?_;clear hK K)
            |(apply Exists.intro;refine ⟨fun w1 hC=> ?_,hK _ ?_⟩;(focus ((first|(exact rfl)|(obtain ⟨⟨_,y0,y1⟩,⟨⟨z0,z1,z2,z3⟩,z4⟩,_⟩:=HOUT.out w1 hC;clear hC;go_simp;first|done|exact rfl));done));clear hK K))
         refine wpQuiet_nil ?_;intro wn hC;have HO:=aA (HOUT.out _ hC);clear hC HIN HOUT C;obtain ⟨⟨_,y0,y1⟩,⟨⟨z0,z1,z2,z3⟩,z4⟩,_⟩:=HO.out;clear y0 y1 z0 z1 z2 z3 z4 HK;have hLco:L.length≤co:=HO.out.2.2.roomG.1
         by_cases hcz:co=L.length
         · subst hcz
           have hNb:N<wn.heap.size:=HO.out.2.1.2;have hwb:w.heap.size<wn.heap.size:=HO.out.1.2.2;have hob:∀ b,(Value.slice (some ⟨g,0,none⟩) L.length L.length).ownBlock=some b→b<wn.heap.size:=fun b hb=>(World.ownsRow.lt HO.out.2.2 b hb).2
           obtain ⟨_,y0,y1⟩:=HO.out.1;obtain ⟨⟨z0,z1,z2,z3⟩,z4⟩:=HO.out.2.1;have HSA:Hid (eD wn (.slice (some ⟨g,0,none⟩) L.length L.length) L.length ((L.take L.length).flatMap aF)):=eN HO.out.2.2 hPl;have hLc:L.length≤L.length:=HO.out.2.2.roomG.1;have hPc:(L.length:Int)≤(L.length:Nat):=by omega
           have hPl2:(L.length:Int)≤L.length:=by first|omega|simp
           have hP0:(0:Int)≤L.length:=by omega
           have hlk:(L.take L.length).length=L.length:=by first|(rw [List.length_take];omega)|simp
           have hlx:(L.take L.length++[x]).length=L.length+1:=by rw [List.length_append,hlk];rfl
           have hld:(L.drop L.length).length=0:=by simp
           go_wp2_with (first
            |(have _t:=HA2;at_builtin;refine cN (B:=wn.heap.size) (n:=L.length+1) (m:=0) (news:=(L.drop L.length).flatMap aF) rfl _ _ rfl rfl HA2.out.2 hlx HA2.out.1.1.1.2 rfl HA2.out.1.2 (bZ _) (by omega) ?_;intro v6 w6 ho6 hg6;have HF:Hid ((StP w (.slice (some ⟨g0,o0,none⟩) G.length cap) N x (some ⟨g,0,none⟩) L.length L w6∧wn.heap.size≤w6.heap.size)∧OwnPn w6 wn.heap.size v6 (aY L x)):=(by
               refine ⟨⟨HA2.out.1.1.1.1.grown hg6 (fun b hb=>(World.ownsRow.lt HA2.out.2 b hb).1) hwb hNb hob,Nat.le_trans HA2.out.1.1.1.2 hg6.size⟩,?_⟩;rw [HIN.out];unfold OwnPn;rw [show L.take L.length++x::L.drop L.length=(L.take L.length++[x])++L.drop L.length by simp,List.length_append,List.flatMap_append,List.length_append,hlk,hld];exact ho6);obtain ⟨a6,c6,rfl⟩:=HF.out.2.lenG;clear ho6 hg6)
            |(have _t:=HA1;at_builtin;refine cN (B:=wn.heap.size) (n:=L.length) (m:=1) (news:=aF x) rfl _ _ rfl rfl HA1.out.2.1 hlk HA1.out.1.2 rfl HA1.out.2.2 (cF x) (by omega) ?_;intro v5 w5 ho5 hg5;have HA2:Hid ((((StP w (.slice (some ⟨g0,o0,none⟩) G.length cap) N x (some ⟨g,0,none⟩) L.length L w5∧wn.heap.size≤w5.heap.size)∧True)∧eD w5 (.slice (some ⟨g,0,none⟩) 0 0) (0) ((L.drop L.length).flatMap aF))∧OwnPn w5 wn.heap.size v5 (L.take L.length++[x])):=(by
               have hS:=HA1.out.1.1.grown hg5 (fun b hb=>(World.ownsRow.lt HA1.out.2.1 b hb).1) hwb hNb hob;refine ⟨⟨⟨⟨hS,Nat.le_trans HA1.out.1.2 hg5.size⟩,trivial⟩,lD _ L _⟩,?_⟩;unfold OwnPn;rw [List.length_append,hlk,List.flatMap_append]
               simpa using ho5);obtain ⟨a5,c5,rfl⟩:=HA2.out.2.lenG;rw [hlx] at HA2;clear ho5 hg5)
            |(at_builtin;refine cN (B:=wn.heap.size) (n:=0) (m:=L.length) (l:=[]) (news:=(L.take L.length).flatMap aF) rfl _ _ rfl rfl (OwnPn.nil _ _) rfl (Nat.le_refl _) rfl HSA.out (bZ _) (by omega) ?_;intro v4 w4 ho4 hg4;have HA1:Hid ((StP w (.slice (some ⟨g0,o0,none⟩) G.length cap) N x (some ⟨g,0,none⟩) L.length L (w4.alloc (.cells #[.string x.nm,.int .i64 x.a,.int .i64 x.b,.int .i64 x.c] 80))∧wn.heap.size≤(w4.alloc (.cells #[.string x.nm,.int .i64 x.a,.int .i64 x.b,.int .i64 x.c] 80)).heap.size)∧OwnPn (w4.alloc (.cells #[.string x.nm,.int .i64 x.a,.int .i64 x.b,.int .i64 x.c] 80)) wn.heap.size v4 (L.take L.length)∧eD (w4.alloc (.cells #[.string x.nm,.int .i64 x.a,.int .i64 x.b,.int .i64 x.c] 80)) (.slice (some ⟨w4.heap.size,0,none⟩) 1 1) 1 (aF x)):=(by
               have h4:=HO.out.grown hg4 (fun b hb=>by cases hb) hwb hNb hob
               have o4:OwnPn w4 wn.heap.size v4 (L.take L.length):=(by
                unfold OwnPn;rw [hlk]
                simpa using ho4)
               refine ⟨⟨dP _ _ _ _ _ _ _ _ _ h4 (aD _ _),Nat.le_trans hg4.size (aD _ _).size⟩,o4.belowG (aD _ _),rfl,Or.inr ⟨_,_,rfl,fun j u hu=> ?_⟩⟩
               rcases j with _|_|_|_|j<;>simp [aF] at hu<;>subst hu<;>simp [Addr.add]);have h4z:BxPq w4 N x:=(HO.out.grown hg4 (fun b hb=>by cases hb) hwb hNb hob).2.1;obtain ⟨⟨z0,z1,z2,z3⟩,z4⟩:=h4z;obtain ⟨a4,c4,rfl⟩:=HA1.out.2.1.lenG;rw [hlk] at HA1;clear ho4 hg4))
           have HFB:Hid (OwnPn w6 w.heap.size (.slice a6 (aY L x).length c6) (aY L x)):=dF HF.out.2 (Nat.le_of_lt hwb);exact ⟨⟨k+1,a6,c6,aY L x,rfl,by go_num,⟨by omega,by omega⟩,HNX.out.symm,HFA.out _ _ _ HFB.out,HF.out.1.1.1,HFB.out⟩,by simp [intOf];omega⟩
         · have hcz1:L.length<co:=by omega
           have hNb:N<wn.heap.size:=HO.out.2.1.2;have hwb:w.heap.size<wn.heap.size:=HO.out.1.2.2;have hob:∀ b,(Value.slice (some ⟨g,0,none⟩) L.length co).ownBlock=some b→b<wn.heap.size:=fun b hb=>(World.ownsRow.lt HO.out.2.2 b hb).2
           obtain ⟨_,y0,y1⟩:=HO.out.1;obtain ⟨⟨z0,z1,z2,z3⟩,z4⟩:=HO.out.2.1;have HSA:Hid (eD wn (.slice (some ⟨g,0,none⟩) L.length co) L.length ((L.take L.length).flatMap aF)):=eN HO.out.2.2 hPl;have hLc:L.length≤co:=HO.out.2.2.roomG.1;have hPc:(L.length:Int)≤(co:Nat):=by omega
           have hcl:L.length<co:=by omega
           have hPl2:(L.length:Int)≤L.length:=by first|omega|simp
           have hP0:(0:Int)≤L.length:=by omega
           have hlk:(L.take L.length).length=L.length:=by first|(rw [List.length_take];omega)|simp
           have hlx:(L.take L.length++[x]).length=L.length+1:=by rw [List.length_append,hlk];rfl
           have hld:(L.drop L.length).length=0:=by simp
           go_wp2_with (first
            |(have _t:=HA2;at_builtin;refine cN (B:=wn.heap.size) (n:=L.length+1) (m:=0) (news:=(L.drop L.length).flatMap aF) rfl _ _ rfl rfl HA2.out.2 hlx HA2.out.1.1.1.2 rfl HA2.out.1.2 (bZ _) (by omega) ?_;intro v6 w6 ho6 hg6;have HF:Hid ((StP w (.slice (some ⟨g0,o0,none⟩) G.length cap) N x (some ⟨g,0,none⟩) co L w6∧wn.heap.size≤w6.heap.size)∧OwnPn w6 wn.heap.size v6 (aY L x)):=(by
               refine ⟨⟨HA2.out.1.1.1.1.grown hg6 (fun b hb=>(World.ownsRow.lt HA2.out.2 b hb).1) hwb hNb hob,Nat.le_trans HA2.out.1.1.1.2 hg6.size⟩,?_⟩;rw [HIN.out];unfold OwnPn;rw [show L.take L.length++x::L.drop L.length=(L.take L.length++[x])++L.drop L.length by simp,List.length_append,List.flatMap_append,List.length_append,hlk,hld];exact ho6);obtain ⟨a6,c6,rfl⟩:=HF.out.2.lenG;clear ho6 hg6)
            |(have _t:=HA1;at_builtin;refine cN (B:=wn.heap.size) (n:=L.length) (m:=1) (news:=aF x) rfl _ _ rfl rfl HA1.out.2.1 hlk HA1.out.1.2 rfl HA1.out.2.2 (cF x) (by omega) ?_;intro v5 w5 ho5 hg5;have HA2:Hid ((((StP w (.slice (some ⟨g0,o0,none⟩) G.length cap) N x (some ⟨g,0,none⟩) co L w5∧wn.heap.size≤w5.heap.size)∧True)∧eD w5 (.slice (some ⟨g,L.length*4,none⟩) 0 (co - L.length)) (0) ((L.drop L.length).flatMap aF))∧OwnPn w5 wn.heap.size v5 (L.take L.length++[x])):=(by
               have hS:=HA1.out.1.1.grown hg5 (fun b hb=>(World.ownsRow.lt HA1.out.2.1 b hb).1) hwb hNb hob;refine ⟨⟨⟨⟨hS,Nat.le_trans HA1.out.1.2 hg5.size⟩,trivial⟩,lD _ L _⟩,?_⟩;unfold OwnPn;rw [List.length_append,hlk,List.flatMap_append]
               simpa using ho5);obtain ⟨a5,c5,rfl⟩:=HA2.out.2.lenG;rw [hlx] at HA2;clear ho5 hg5)
            |(at_builtin;refine cN (B:=wn.heap.size) (n:=0) (m:=L.length) (l:=[]) (news:=(L.take L.length).flatMap aF) rfl _ _ rfl rfl (OwnPn.nil _ _) rfl (Nat.le_refl _) rfl HSA.out (bZ _) (by omega) ?_;intro v4 w4 ho4 hg4;have HA1:Hid ((StP w (.slice (some ⟨g0,o0,none⟩) G.length cap) N x (some ⟨g,0,none⟩) co L (w4.alloc (.cells #[.string x.nm,.int .i64 x.a,.int .i64 x.b,.int .i64 x.c] 80))∧wn.heap.size≤(w4.alloc (.cells #[.string x.nm,.int .i64 x.a,.int .i64 x.b,.int .i64 x.c] 80)).heap.size)∧OwnPn (w4.alloc (.cells #[.string x.nm,.int .i64 x.a,.int .i64 x.b,.int .i64 x.c] 80)) wn.heap.size v4 (L.take L.length)∧eD (w4.alloc (.cells #[.string x.nm,.int .i64 x.a,.int .i64 x.b,.int .i64 x.c] 80)) (.slice (some ⟨w4.heap.size,0,none⟩) 1 1) 1 (aF x)):=(by
               have h4:=HO.out.grown hg4 (fun b hb=>by cases hb) hwb hNb hob
               have o4:OwnPn w4 wn.heap.size v4 (L.take L.length):=(by
                unfold OwnPn;rw [hlk]
                simpa using ho4)
               refine ⟨⟨dP _ _ _ _ _ _ _ _ _ h4 (aD _ _),Nat.le_trans hg4.size (aD _ _).size⟩,o4.belowG (aD _ _),rfl,Or.inr ⟨_,_,rfl,fun j u hu=> ?_⟩⟩
               rcases j with _|_|_|_|j<;>simp [aF] at hu<;>subst hu<;>simp [Addr.add]);have h4z:BxPq w4 N x:=(HO.out.grown hg4 (fun b hb=>by cases hb) hwb hNb hob).2.1;obtain ⟨⟨z0,z1,z2,z3⟩,z4⟩:=h4z;obtain ⟨a4,c4,rfl⟩:=HA1.out.2.1.lenG;rw [hlk] at HA1;clear ho4 hg4))
           have HFB:Hid (OwnPn w6 w.heap.size (.slice a6 (aY L x).length c6) (aY L x)):=dF HF.out.2 (Nat.le_of_lt hwb);exact ⟨⟨k+1,a6,c6,aY L x,rfl,by go_num,⟨by omega,by omega⟩,HNX.out.symm,HFA.out _ _ _ HFB.out,HF.out.1.1.1,HFB.out⟩,by simp [intOf];omega⟩
  · have hGk:aR G k=aR G G.length:=by
     unfold aR;rw [List.take_of_length_le (by omega),List.take_of_length_le (Nat.le_refl _)]
    have HF:Hid (AG w G (.returned (.slice ao L.length co)) wr):=⟨_,rfl,by rw [←hGk,←hL];exact hown,HB.out.1⟩;have hkl:¬ ((k:Int)<G.length):=by omega
    clear hown hL
    go_wp2
    go_ret;exact HF.out
end Go.Proofs.YtpfemjlhklnfoaaGreatDoor
namespace Go.Proofs.YtpfemjlhklnfoaaGreatDoor
open Go.RowKit
set_option maxRecDepth 100000
def NtIn (w:World) (g o:Nat) (n:Nat):Prop:=w.cell? ⟨g,o,none⟩=some (.int .i64 n)∧g<w.heap.size
theorem NtIn.below {w w':World} {g o n:Nat} (h:NtIn w g o n) (hb:Below w.heap.size w w'):NtIn w' g o n:=⟨(hb.cell (p:=⟨g,o,none⟩) h.2).trans h.1,Nat.lt_of_lt_of_le h.2 hb.size⟩
theorem rD (g o n:Nat):KeepP fun W=>NtIn W g o n:=fun _ _ h hb=>h.below hb
def jI (w:World) (v:Value) (l:List Nat):Prop:=∃ ad cap,v= .slice ad l.length cap∧l.length≤cap∧(l=[]∨∃ g o,ad=some ⟨g,o,none⟩∧g<w.heap.size∧∀ i (h:i<l.length),NtIn w g (o+i) l[i])
set_option maxHeartbeats 1600000 in
theorem pW (A B:List Pn) (hAB:A.length=B.length) (hsz:A.length≤9223372036854775807) (ga oa ca gb ob cb:Nat) (w:World) (hla:∀ i (h:i<A.length),PnIn w ga (oa+i*4) A[i]) (hlb:∀ i (h:i<B.length),PnIn w gb (ob+i*4) B[i]):
 Calls Tryz.prog 34 #[.slice (some ⟨ga,oa,none⟩) A.length ca,.slice (some ⟨gb,ob,none⟩) B.length cb] w fun e w'=>e= .returned (.bool (eqB A B))∧Below w.heap.size w w':=by
 have HL:Hid (∀ w1,Below w.heap.size w w1→∀ i (h:i<A.length) (h2:i<B.length),PnIn w1 ga (oa+i*4) A[i]∧PnIn w1 gb (ob+i*4) B[i]):=fun w1 hb i hi hi2=>⟨(hla i hi).below hb,(hlb i hi2).below hb⟩
 have HAB:=aA hAB;clear hla hlb;rw [←hAB];clear hAB
 go_enter Tryz.func34,Tryz.ntmps34
 go_wp2_with fail
 go_loopw [5] (fun i wr=>∃ k:Nat,k≤A.length∧i= .int .i64 k∧Below w.heap.size w wr∧∀ j (h:j<k) (h1:j<A.length) (h2:j<B.length),A[j]=B[j]) (fun i _=>A.length - (intOf i).toNat)
 case atStart=>exact ⟨0,Nat.zero_le _,rfl,Below.refl _ _,fun j h=>by omega⟩
 case round=>
  obtain ⟨k,hk,rfl,hb,hall⟩:=hrel;have HALL:=aA hall;have HB:=aA hb;clear hall
  by_cases hlt:k<A.length
  · have hltB:k<B.length:=HAB.out ▸ hlt
    have HO:Hid (Below w.heap.size w wr∧PnIn wr ga (oa+k*4) A[k]∧PnIn wr gb (ob+k*4) B[k]):=⟨hb,HL.out wr hb k hlt hltB⟩;have HK:Hid (KeepP fun w1=>Below w.heap.size w w1∧PnIn w1 ga (oa+k*4) A[k]∧PnIn w1 gb (ob+k*4) B[k]):=(aL w).and ((cA _ _ _).and (cA _ _ _));have HNE:Hid (bD A[k] B[k]=false→eqB A B=false):=fun h=>cD fun e=>by subst e;rw [bI.2 rfl] at h;cases h
    have HST:Hid (bD A[k] B[k]=true→∀ j (h:j<k+1) (h1:j<A.length) (h2:j<B.length),A[j]=B[j]):=fun h j hj h1 h2=>by
     rcases Nat.lt_or_ge j k with hjk|hjk
     · exact HALL.out j hjk h1 h2
     · obtain rfl:j=k:=by omega
       exact bI.1 h
    have he:=qK A[k] B[k];generalize A[k]=s at*;generalize B[k]=t at*;have hgd:=eI;cases hq:bD s t
    · have HR:=aA (HNE.out hq)
      rw [hq] at he;clear hb HNE HST HALL
      go_wp2_with fail
      refine aX HK (by kernel_rfl) (by kernel_rfl) (by first|exact HO.out|exact HK.out.drew HO.out) ?_;intro C HIN HOUT;clear HO
      repeat
       (with_reducible refine wpQuiet_step (fun K hK=> ?_)
        go_simp
        first
         |(refine hK _ ?_;clear hK K)
         |(apply Exists.intro;refine ⟨fun w1 hC=> ?_,hK _ ?_⟩;(focus ((first|(exact rfl)|(obtain ⟨hb1,⟨⟨p0,p1,p2,p3⟩,p6⟩,⟨⟨q0,q1,q2,q3⟩,q6⟩⟩:=HOUT.out w1 hC;clear hC;go_simp;first|done|exact rfl));done));clear hK K))
      refine wpQuiet_nil ?_;intro wn hC;have HO:=aA (HOUT.out _ hC);clear hC HIN HOUT C;obtain ⟨hb1,⟨⟨p0,p1,p2,p3⟩,p6⟩,⟨⟨q0,q1,q2,q3⟩,q6⟩⟩:=HO.out
      go_wp2
      go_ret;exact ⟨aC HR.out.symm,HO.out.1⟩
    · have HR:=aA (HST.out hq)
      rw [hq] at he;clear hb HNE HST HALL
      go_wp2_with fail
      refine aX HK (by kernel_rfl) (by kernel_rfl) (by first|exact HO.out|exact HK.out.drew HO.out) ?_;intro C HIN HOUT;clear HO
      repeat
       (with_reducible refine wpQuiet_step (fun K hK=> ?_)
        go_simp
        first
         |(refine hK _ ?_;clear hK K)
         |(apply Exists.intro;refine ⟨fun w1 hC=> ?_,hK _ ?_⟩;(focus ((first|(exact rfl)|(obtain ⟨hb1,⟨⟨p0,p1,p2,p3⟩,p6⟩,⟨⟨q0,q1,q2,q3⟩,q6⟩⟩:=HOUT.out w1 hC;clear hC;go_simp;first|done|exact rfl));done));clear hK K))
      refine wpQuiet_nil ?_;intro wn hC;have HO:=aA (HOUT.out _ hC);clear hC HIN HOUT C;obtain ⟨hb1,⟨⟨p0,p1,p2,p3⟩,p6⟩,⟨⟨q0,q1,q2,q3⟩,q6⟩⟩:=HO.out
      go_wp2
      exact ⟨⟨k+1,by omega,by go_num,HO.out.1,HR.out⟩,by simp [intOf];omega⟩
  · have hke:k=A.length:=by omega
    subst hke;have HR:Hid (eqB A B=true):=aN (List.ext_getElem HAB.out fun j h1 h2=>HALL.out j h1 h1 h2);clear hb
    go_wp2
    go_ret;exact ⟨aC HR.out.symm,HB.out⟩
theorem kJ (ad bd:Option Addr) (ca cb:Nat) (w:World):
 Calls Tryz.prog 34 #[.slice ad 0 ca,.slice bd 0 cb] w fun e w'=>e= .returned (.bool true)∧Below w.heap.size w w':=by
 go_enter Tryz.func34,Tryz.ntmps34
 go_wp2_with fail
 go_loop [5] (fun i=>i= .int .i64 0) (fun _=>0)
 case atStart=>rfl
 case round=>
  subst hrel
  go_wp2
  go_ret;exact ⟨rfl,Below.refl _ _⟩
theorem tL (ad bd:Option Addr) (n m ca cb:Nat) (h:n≠m) (w:World):
 Calls Tryz.prog 34 #[.slice ad n ca,.slice bd m cb] w fun e w'=>e= .returned (.bool false)∧Below w.heap.size w w':=by
 have hn:((n:Int)=(m:Int))=False:=by simp;omega
 go_enter Tryz.func34,Tryz.ntmps34
 go_wp2
 go_ret;exact ⟨rfl,Below.refl _ _⟩
theorem tM {A B:List Pn} {va vb:Value} {w:World} (ha:PinsAt w va A) (hb:PinsAt w vb B) (hsz:A.length≤9223372036854775807):
 Calls Tryz.prog 34 #[va,vb] w fun e w'=>e= .returned (.bool (eqB A B))∧Below w.heap.size w w':=by
 obtain ⟨ad,ca,rfl,_,hl⟩:=ha;obtain ⟨bd,cb,rfl,_,hm⟩:=hb
 by_cases hn:A.length=B.length
 · rcases hl with rfl|⟨ga,oa,rfl,hga,hla⟩
   · obtain rfl:B=[]:=List.eq_nil_of_length_eq_zero (by simpa using hn.symm)
     rw [aN rfl];exact kJ _ _ _ _ w
   · rcases hm with rfl|⟨gb,ob,rfl,hgb,hlb⟩
     · obtain rfl:A=[]:=List.eq_nil_of_length_eq_zero (by simpa using hn)
       rw [aN rfl];exact kJ _ _ _ _ w
     · exact pW A B hn hsz ga oa ca gb ob cb w hla hlb
 · rw [cD fun e=>hn (by rw [e])]
   exact tL _ _ _ _ _ _ hn w
set_option maxHeartbeats 1600000 in
theorem lE (A B:List Nat) (hAB:A.length=B.length) (hsz:A.length≤9223372036854775807) (ga oa ca gb ob cb:Nat) (w:World) (hla:∀ i (h:i<A.length),NtIn w ga (oa+i) A[i]) (hlb:∀ i (h:i<B.length),NtIn w gb (ob+i) B[i]):
 Calls Tryz.prog 31 #[.slice (some ⟨ga,oa,none⟩) A.length ca,.slice (some ⟨gb,ob,none⟩) B.length cb] w fun e w'=>e= .returned (.bool (eqB A B))∧Below w.heap.size w w':=by
 have HL:Hid (∀ w1,Below w.heap.size w w1→∀ i (h:i<A.length) (h2:i<B.length),NtIn w1 ga (oa+i) A[i]∧NtIn w1 gb (ob+i) B[i]):=fun w1 hb i hi hi2=>⟨(hla i hi).below hb,(hlb i hi2).below hb⟩
 have HAB:=aA hAB;clear hla hlb;rw [←hAB];clear hAB
 go_enter Tryz.func31,Tryz.ntmps31
 go_wp2_with fail
 go_loopw [5] (fun i wr=>∃ k:Nat,k≤A.length∧i= .int .i64 k∧Below w.heap.size w wr∧∀ j (h:j<k) (h1:j<A.length) (h2:j<B.length),A[j]=B[j]) (fun i _=>A.length - (intOf i).toNat)
 case atStart=>exact ⟨0,Nat.zero_le _,rfl,Below.refl _ _,fun j h=>by omega⟩
 case round=>
  obtain ⟨k,hk,rfl,hb,hall⟩:=hrel;have HALL:=aA hall;have HB:=aA hb;clear hall
  by_cases hlt:k<A.length
  · have hltB:k<B.length:=HAB.out ▸ hlt
    have HO:Hid (Below w.heap.size w wr∧NtIn wr ga (oa+k) A[k]∧NtIn wr gb (ob+k) B[k]):=⟨hb,HL.out wr hb k hlt hltB⟩;have HK:Hid (KeepP fun w1=>Below w.heap.size w w1∧NtIn w1 ga (oa+k) A[k]∧NtIn w1 gb (ob+k) B[k]):=(aL w).and ((rD _ _ _).and (rD _ _ _));have HNE:Hid (decide (A[k]=B[k])=false→eqB A B=false):=fun h=>cD fun e=>by subst e;simp at h
    have HST:Hid (decide (A[k]=B[k])=true→∀ j (h:j<k+1) (h1:j<A.length) (h2:j<B.length),A[j]=B[j]):=fun h j hj h1 h2=>by
     rcases Nat.lt_or_ge j k with hjk|hjk
     · exact HALL.out j hjk h1 h2
     · obtain rfl:j=k:=by omega
       exact of_decide_eq_true h
    generalize A[k]=s at*;generalize B[k]=t at*;cases hq:decide (s=t)
    · have HR:=aA (HNE.out hq)
      have hne:((s:Int) != (t:Int))=true:=by
       have:=of_decide_eq_false hq
       simp;omega
      clear hb HNE HST HALL
      go_wp2_with fail
      refine aX HK (by kernel_rfl) (by kernel_rfl) (by first|exact HO.out|exact HK.out.drew HO.out) ?_;intro C HIN HOUT;clear HO
      repeat
       (with_reducible refine wpQuiet_step (fun K hK=> ?_)
        go_simp
        first
         |(refine hK _ ?_;clear hK K)
         |(apply Exists.intro;refine ⟨fun w1 hC=> ?_,hK _ ?_⟩;(focus ((first|(exact rfl)|(obtain ⟨hb1,⟨p0,p6⟩,⟨q0,q6⟩⟩:=HOUT.out w1 hC;clear hC;go_simp;first|done|exact rfl));done));clear hK K))
      refine wpQuiet_nil ?_;intro wn hC;have HO:=aA (HOUT.out _ hC);clear hC HIN HOUT C;obtain ⟨hb1,⟨p0,p6⟩,⟨q0,q6⟩⟩:=HO.out
      go_wp2
      go_ret;exact ⟨aC HR.out.symm,HO.out.1⟩
    · have HR:=aA (HST.out hq)
      obtain rfl:=of_decide_eq_true hq;clear hb HNE HST HALL
      go_wp2_with fail
      refine aX HK (by kernel_rfl) (by kernel_rfl) (by first|exact HO.out|exact HK.out.drew HO.out) ?_;intro C HIN HOUT;clear HO
      repeat
       (with_reducible refine wpQuiet_step (fun K hK=> ?_)
        go_simp
        first
         |(refine hK _ ?_;clear hK K)
         |(apply Exists.intro;refine ⟨fun w1 hC=> ?_,hK _ ?_⟩;(focus ((first|(exact rfl)|(obtain ⟨hb1,⟨p0,p6⟩,⟨q0,q6⟩⟩:=HOUT.out w1 hC;clear hC;go_simp;first|done|exact rfl));done));clear hK K))
      refine wpQuiet_nil ?_;intro wn hC;have HO:=aA (HOUT.out _ hC);clear hC HIN HOUT C;obtain ⟨hb1,⟨p0,p6⟩,⟨q0,q6⟩⟩:=HO.out
      go_wp2
      exact ⟨⟨k+1,by omega,by go_num,HO.out.1,HR.out⟩,by simp [intOf];omega⟩
  · have hke:k=A.length:=by omega
    subst hke;have HR:Hid (eqB A B=true):=aN (List.ext_getElem HAB.out fun j h1 h2=>HALL.out j h1 h1 h2);clear hb
    go_wp2
    go_ret;exact ⟨aC HR.out.symm,HB.out⟩
theorem gV (ad bd:Option Addr) (ca cb:Nat) (w:World):
 Calls Tryz.prog 31 #[.slice ad 0 ca,.slice bd 0 cb] w fun e w'=>e= .returned (.bool true)∧Below w.heap.size w w':=by
 go_enter Tryz.func31,Tryz.ntmps31
 go_wp2_with fail
 go_loop [5] (fun i=>i= .int .i64 0) (fun _=>0)
 case atStart=>rfl
 case round=>
  subst hrel
  go_wp2
  go_ret;exact ⟨rfl,Below.refl _ _⟩
theorem nQ (ad bd:Option Addr) (n m ca cb:Nat) (h:n≠m) (w:World):
 Calls Tryz.prog 31 #[.slice ad n ca,.slice bd m cb] w fun e w'=>e= .returned (.bool false)∧Below w.heap.size w w':=by
 have hn:((n:Int)=(m:Int))=False:=by simp;omega
 go_enter Tryz.func31,Tryz.ntmps31
 go_wp2
 go_ret;exact ⟨rfl,Below.refl _ _⟩
theorem nR {A B:List Nat} {va vb:Value} {w:World} (ha:jI w va A) (hb:jI w vb B) (hsz:A.length≤9223372036854775807):
 Calls Tryz.prog 31 #[va,vb] w fun e w'=>e= .returned (.bool (eqB A B))∧Below w.heap.size w w':=by
 obtain ⟨ad,ca,rfl,_,hl⟩:=ha;obtain ⟨bd,cb,rfl,_,hm⟩:=hb
 by_cases hn:A.length=B.length
 · rcases hl with rfl|⟨ga,oa,rfl,hga,hla⟩
   · obtain rfl:B=[]:=List.eq_nil_of_length_eq_zero (by simpa using hn.symm)
     rw [aN rfl];exact gV _ _ _ _ w
   · rcases hm with rfl|⟨gb,ob,rfl,hgb,hlb⟩
     · obtain rfl:A=[]:=List.eq_nil_of_length_eq_zero (by simpa using hn)
       rw [aN rfl];exact gV _ _ _ _ w
     · exact lE A B hn hsz ga oa ca gb ob cb w hla hlb
 · rw [cD fun e=>hn (by rw [e])]
   exact nQ _ _ _ _ _ _ hn w
end Go.Proofs.YtpfemjlhklnfoaaGreatDoor
