/- Id3, RwM, RwGr, RwTb, RwSt: their declarations that are needed, laid in one text, remarks and blanks left out. -/
import Derived.Test.YtlmpiohbmlddiaaGreatDoorMd23
namespace Go.Proofs.YtlmpiohbmlddiaaGreatDoor
open Go.RowKit
set_option maxRecDepth 100000
theorem NC {w:World} {B g n c:Nat} {Ls:List ByteArray} (h:w.ownsRow B 9 1 (.slice (some ⟨g,0,none⟩) n c) n (pcs Ls)) (hn:n=Ls.length):∀ k (hk:k<Ls.length),w.cell? ⟨g,k,none⟩=some (.string Ls[k])∧g<w.heap.size:=fun k hk=>by
 subst hn;obtain ⟨ad,cap,e,_,hl⟩:=(show OwnPa w B (.slice (some ⟨g,0,none⟩) Ls.length c) Ls from h).at
 rcases hl with e2|⟨g2,o2,e2,hs⟩
 · subst e2
   cases hk
 · injection e with e3 _ _
   rw [e2] at e3;injection e3 with e3
   injection e3 with e4 e5 _
   have q:=hs k hk;rw [←e4,←e5,Nat.zero_add] at q;exact q
theorem CA {w:World} {B n:Nat} {v:Value} {xs:List Value} (h:w.ownsRow B 9 1 v (n+1) xs):∃ g c,v= .slice (some ⟨g,0,none⟩) (n+1) c∧g<w.heap.size:=by
 rcases h.2 with ⟨_,h0⟩|⟨g,cap,cur,rfl,_,hg,_⟩
 · cases h0
 · exact ⟨g,cap,rfl,(Array.getElem?_eq_some_iff.1 hg).1⟩
def NmC (w:World) (g k:Nat) (s:ByteArray):Prop:=w.cell? ⟨g,k,none⟩=some (.string s)∧g<w.heap.size
theorem uK (g k:Nat) (s:ByteArray):KeepP fun w=>NmC w g k s:=fun _ _ h hb=>⟨(hb.cell (p:=⟨g,k,none⟩) h.2).trans h.1,Nat.lt_of_lt_of_le h.2 hb.size⟩
theorem uL {L:List Dr} (h:TrOk L) {i:Nat} (hi:i<L.length):(aF L[i].pa).size≤140737488351232:=by
 rcases Nat.eq_zero_or_pos i with rfl|h0
 · rw [h.root hi]
   decide
 · obtain ⟨h1,h2,h3,_⟩:=h.names i hi (by omega)
   unfold aF;rw [if_neg h1,if_pos h2,←aK];show (aJ L[i].pa).length≤_;omega
set_option maxHeartbeats 16000000 in
theorem qP {P:Mn} {G:List Nd} {L:List Dr} {x1 x2 x3 x4 xg xt:Value} {pr:Bool} (s:ByteArray) {w:World} (hpm:MnAt w P x1 x2 x3 x4) (hpz:P.d.length≤9223372036854775807∧P.v.length≤9223372036854775807∧P.o.length≤9223372036854775807∧P.p.length≤9223372036854775807) (hpg:NodesAt w xg G) (hpt:DirsAt w xt L) (hpl:L.length≤9223372036854775807) (hpk:kO L) (hpo:tL G) (he:Env w) (hf:FL w):
 Calls Tryz.prog 6 #[.agg #[x1,x2,x3,x4,xg,xt,.bool pr],.string s] w fun e w'=>e= .returned (.bool true)∧Below w.heap.size w w':=by
 have HF1:Hid (∀ W,Below w.heap.size w W→Calls Tryz.prog 8 #[.agg #[x1,x2,x3,x4,xg,xt,.bool pr]] W (LI W (eM P G L pr) (erI P G L))):=fun W hb=>lV (hpm.below hb) hpz (hpg.below hb) (hpt.below hb) hpl hpk hpo pV (he.below hb) (hf.below hb)
 have HLV:Hid (∀ W,Below w.heap.size w W→Calls Tryz.prog 11 #[] W fun e w'=>e= .returned (.bool true)∧Below W.heap.size W w'):=fun W hb=>yU (he.below hb) (hf.below hb)
 have HLD:Hid (dN P G L=true→∀ W a c,Below w.heap.size w W→Dk.nL W a (lE P G L pr)→Calls Tryz.prog 15 #[.slice a (eM P G L pr).length c] W fun e w'=>e= .returned (.tuple #[.pointer (some ⟨W.heap.size+1,0,none⟩),.int .i64 0])∧Below W.heap.size W w'∧∃ n,Dk.IsDisk W.heap.size w' (W.heap.size+1) W.heap.size n (.slice none 0 0) ⟨Dk.bB (lE P G L pr),[],-1⟩):=fun h W a c hb hc=>by
  obtain ⟨m,hm⟩:=(he.below hb).max;have q:=Dk.ML (lE P G L pr) a c m W hm (by rw [DZ];have:=BX P G L pr;omega) hc (GP h);rw [DZ] at q;refine q.mono ?_;rintro e w' ⟨hbl,⟨_,rfl,n,_,hd⟩|⟨hno,_⟩⟩
  · exact ⟨rfl,hbl,n,hd⟩
  · exact absurd (GN h) hno
 have HE1:Hid (dN P G L=true→erI P G L=0):=RU.2;have HN1:Hid (dN P G L=false→erI P G L=43):=fun h=>by unfold erI;rw [h];rfl
 have HTR:Hid (dN P G L=true→TrOk L):=fun h=>(iOk h).ok
 have HTX:Hid (∀ W,Below w.heap.size w W→∀ i (hi:i<L.length) u,PathAt W u L[i].pa→Calls Tryz.prog 16 #[u] W fun e w'=>e= .returned (.string (aF L[i].pa))∧Below W.heap.size W w'):=fun W _ i hi u hu=>eS hu (hpk.1 _ (List.getElem_mem hi))
 have HLK:Hid (∀ W,Below w.heap.size w W→∀ (i:Nat) t,Calls Tryz.prog 17 #[.agg #[xt],.int .i64 (i:Int),.string t] W fun e w'=>e= .returned (.int .i64 (bE L (i:Int) t))∧Below W.heap.size W w'):=fun W hb i t=>vM (hpt.below hb) hpl hpk.1 (i:Int) t
 have HNI:Hid (dN P G L=true→∀ i (hi:i<L.length),∃ y:Nat,y<G.length∧L[i].nd=(y:Int)):=fun h i hi=>TG h hi
 have HOV:Hid (dN P G L=true→∀ i (hi:i<L.length) t,odV (Dk.bB (lE P G L pr)) (aF L[i].pa) t=atO L (bE L (i:Int) t)):=fun h i hi t=>PH h hi t
 have HGE:Hid (dN P G L=true→∀ n ∈ G,n.ed.length≤1000000):=fun h n hn=>((BZ (iOk h).lok).2 n hn).2
 have HFL:Hid (∀ W v,FlsAt W v (eM P G L pr)→∃ a c,v= .slice a (eM P G L pr).length c∧Dk.nL W a (lE P G L pr)):=fun W v h=>h.files
 obtain ⟨a1,c1,rfl⟩:=hpm.1.sl;obtain ⟨a2,c2,rfl⟩:=hpm.2.1.sl;obtain ⟨a3,c3,rfl⟩:=hpm.2.2.1.sl;obtain ⟨a4,c4,rfl⟩:=hpm.2.2.2.sl;obtain ⟨at0,ct0,rfl,hct,hsl⟩:=hpt.sl;obtain ⟨ag,cg,rfl,_,hgl⟩:=hpg
 have HDR:Hid (∀ W,Below w.heap.size w W→∀ i (hi:i<L.length),∃ g o,at0=some ⟨g,o,none⟩∧∃ u v1 v2 v3,DrIn W g (o+i*9) L[i] u v1 v2 v3):=fun W hb i hi=>by
  obtain ⟨g,o,e,u,v1,v2,v3,hd⟩:=hsl i hi;exact ⟨g,o,e,u,v1,v2,v3,hd.below hb⟩
 have HGR:Hid (∀ W,Below w.heap.size w W→∀ y (hy:y<G.length),∃ g o,ag=some ⟨g,o,none⟩∧∃ vc ve,NdIn W g (o+y*6) G[y] vc ve):=fun W hb y hy=>by
  rcases hgl with e|⟨g,o,e,_,hs⟩
  · rw [e] at hy
    cases hy
  · obtain ⟨vc,ve,hn⟩:=hs y hy
    exact ⟨g,o,e,vc,ve,hn.below hb⟩
 have HS0:Hid (StB (w.alloc (stO (.slice a1 P.d.length c1) (.slice a2 P.v.length c2) (.slice a3 P.o.length c3) (.slice a4 P.p.length c4) (.slice ag G.length cg) (.slice at0 L.length ct0) pr)) w.heap.size (.slice a1 P.d.length c1) (.slice a2 P.v.length c2) (.slice a3 P.o.length c3) (.slice a4 P.p.length c4) (.slice ag G.length cg) (.slice at0 L.length ct0) pr):=StB.new w (.slice a1 P.d.length c1) (.slice a2 P.v.length c2) (.slice a3 P.o.length c3) (.slice a4 P.p.length c4) (.slice ag G.length cg) (.slice at0 L.length ct0) pr;have HB0:Hid (Below w.heap.size w (w.alloc (stO (.slice a1 P.d.length c1) (.slice a2 P.v.length c2) (.slice a3 P.o.length c3) (.slice a4 P.p.length c4) (.slice ag G.length cg) (.slice at0 L.length ct0) pr))):=aD _ _;obtain ⟨⟨⟨s0,s1,s2,s3⟩,s4,s5,s6⟩,_⟩:=HS0.out;clear hpm hpz hpt hpl hpk hpo he hf hct hsl hgl;generalize hfi:eM P G L pr=fi at*
 generalize hfd:lE P G L pr=fd at*;generalize erI P G L=er at*;clear hfi hfd;cases hmx:dN P G L
 · obtain rfl:=HN1.out hmx
   clear HN1 HE1 HLD HTR HTX HLK HNI HOV HGE HFL HDR HGR hmx
   go_enter Tryz.func6,Tryz.ntmps6
   go_wp2_with (first
    |(have _t:=HB1;go_at_call 11;refine (HLV.out _ HB1.out).mono ?_;rintro e W2 ⟨rfl,ok⟩;have HB2:=aB (aA HB1.out ok);clear ok)
    |(have _t:=HS0;go_at_call 8;refine (HF1.out _ HB0.out).mono ?_;rintro e W1 ⟨v1,rfl,ho1,ok⟩;obtain ⟨b1,k1,q1⟩:=ho1.form;obtain ⟨m1,hm1⟩:∃ n,n=fi.length:=⟨_,rfl⟩;rw [←hm1] at q1;subst q1;have HB1:=aB (aA HB0.out ok);clear hm1 ho1 ok s0 s1 s2 s3 s4 s5 s6 HS0))
   go_ret;exact ⟨rfl,HB2.out⟩
 · obtain rfl:=HE1.out hmx
   have HLD:=aB (HLD.out hmx);have HTR:=aB (HTR.out hmx);have HNI:=aB (HNI.out hmx);have HOV:=aB (HOV.out hmx);have HGE:=aB (HGE.out hmx);clear HN1 HE1 hmx
   go_enter Tryz.func6,Tryz.ntmps6
   go_wp2_with (first
    |(have _t:=HV1;go_at_call 15;refine (HLD.out _ _ _ HB1.out HV1.out).mono ?_;rintro e W2 ⟨rfl,ok,n2,hd2⟩;have HD2:=aB hd2;have HB2:=aB (aA HB1.out ok);have HS2:=aB (HS1.out.keep ok);clear hd2 ok s0 s1 s2 s3 s4 s5 s6 HS1 HV1;obtain ⟨⟨⟨s0,s1,s2,s3⟩,s4,s5,s6⟩,_⟩:=HS2.out)
    |(have _t:=HS0;go_at_call 8;refine (HF1.out _ HB0.out).mono ?_;rintro e W1 ⟨v1,rfl,ho1,ok⟩;obtain ⟨b1,k1,q1,hfs⟩:=HFL.out _ _ ho1.at;have HV1:=aB hfs;obtain ⟨m1,hm1⟩:∃ n,n=fi.length:=⟨_,rfl⟩;rw [←hm1] at HLD;rw [←hm1] at q1;subst q1;have HB1:=aB (aA HB0.out ok);have HS1:=aB (HS0.out.keep ok);clear hm1 ho1 hfs s0 s1 s2 s3 s4 s5 s6 HS0;obtain ⟨⟨⟨s0,s1,s2,s3⟩,s4,s5,s6⟩,_⟩:=HS1.out;clear ok))
   have HW:Hid (∀ W,Below W2.heap.size W2 W→Below w.heap.size w W∧StB W w.heap.size (.slice a1 P.d.length c1) (.slice a2 P.v.length c2) (.slice a3 P.o.length c3) (.slice a4 P.p.length c4) (.slice ag G.length cg) (.slice at0 L.length ct0) pr):=fun W hb=>⟨aA HB2.out hb,HS2.out.keep hb⟩
   have HOD:Hid (∀ W,Below W2.heap.size W2 W→∀ i (hi:i<L.length) t,Calls Tryz.prog 18 #[.pointer (some ⟨W1.heap.size+1,0,none⟩),.string (aF L[i].pa),.string t] W fun e w'=>e= .returned (odA (atO L (bE L (i:Int) t)))∧Below W.heap.size W w'):=fun W hb i hi t=>by
    have q:=BQ (HD2.out.below hb) (aF L[i].pa) t (uL HTR.out hi);rw [HOV.out i hi t] at q;exact q
   have hll:L.length≤257:=HTR.out.len.2;clear HD2 HLD HOV HF1 HFL s0 s1 s2 s3 s4 s5 s6
   go_loopw [9] (fun vi wr=>∃ i:Nat,i≤L.length∧vi= .int .i64 i∧Below W2.heap.size W2 wr) (fun vi _=>L.length - (intOf vi).toNat)
   case atStart=>exact ⟨0,Nat.zero_le _,rfl,Below.refl _ _⟩
   case round=>
    obtain ⟨i,hil,rfl,hbr⟩:=hrel;have HBR:=aB hbr;obtain ⟨hbw,⟨⟨⟨s0,s1,s2,s3⟩,s4,s5,s6⟩,sl⟩⟩:=HW.out wr hbr;have HBW:=aB hbw
    by_cases hlt:i<L.length
    · have hii:(i:Int)<L.length:=by omega
      obtain ⟨y,hy,hnd⟩:=HNI.out i hlt;have HND:=aB hnd;obtain ⟨g,o,rfl,u,v1,v2,v3,hd⟩:=HDR.out wr hbw i hlt;have HTI:=aB (HTX.out wr hbw i hlt u hd.2.1.1);have HDI:Hid (∀ W,Below wr.heap.size wr W→DrIn W g (o+i*9) L[i] u v1 v2 v3):=fun W hb=>hd.below hb
      obtain ⟨p0,p1,p2,p3,p4,p5,p6,p7,p8⟩:=hd.1;clear hd hnd hbw hbr;have hyi:(y:Int)<G.length:=by omega
      obtain ⟨wa,rfl⟩:∃ x,x=wr:=⟨wr,rfl⟩
      go_wp2_with (go_at_call 16;refine HTI.out.mono ?_;rintro e W3 ⟨rfl,ok⟩;clear s0 s1 s2 s3 s4 s5 s6 p0 p1 p2 p3 p4 p5 p6 p7 p8;have HB3:=aB (aA HBR.out ok);obtain ⟨_,⟨⟨⟨s0,s1,s2,s3⟩,s4,s5,s6⟩,sl⟩⟩:=HW.out W3 HB3.out;obtain ⟨⟨p0,p1,p2,p3,p4,p5,p6,p7,p8⟩,_⟩:=HDI.out W3 ok;rw [HND.out] at p8;clear ok HTI)
      clear s0 s1 s2 s3 s4 s5 s6 p0 p1 p2 p3 p4 p5 p6 p7 p8;obtain ⟨E,hE⟩:∃ E,E=G[y].ed:=⟨_,rfl⟩;have hel:E.length≤1000000:=by rw [hE];exact HGE.out _ (List.getElem_mem hy)
      have HND2:Hid (∀ W,Below W3.heap.size W3 W→∃ g o,ag=some ⟨g,o,none⟩∧∃ ge oe ce,W.cell? ⟨g,o+y*6+5,none⟩=some (.slice ge E.length ce)∧∀ k (hk:k<E.length),∃ gg oo,ge=some ⟨gg,oo,none⟩∧W.cell? ⟨gg,oo+k*2,none⟩=some (.string E[k].lb)):=fun W hb=>by
       obtain ⟨g,o,e,vc,ve,hn⟩:=HGR.out W (aA (HW.out W3 HB3.out).1 hb) y hy;obtain ⟨ge,ce,rfl,_,hl⟩:=hn.2.1.2;subst hE;refine ⟨g,o,e,ge,(G[y].ed).length,ce,hn.1.2.2.2.2.2,fun k hk=> ?_⟩
       rcases hl with e0|⟨gg,oo,e0,_,hs⟩
       · rw [e0] at hk
         cases hk
       · exact ⟨gg,oo,e0,(hs k hk).1.1⟩
      clear HND hE HDI
      go_loopw [12,13] (fun vn vk wr=>NmL W3 s E vn vk wr) (fun _ vk _=>E.length - (intOf vk).toNat)
      case atStart=>exact ⟨0,W3.heap.size,1,Nat.zero_le _,rfl,rfl,GQ W3 (Nat.le_refl _) s,aD _ _⟩
      case round=>
       obtain ⟨k,g9,c9,hk,rfl,rfl,hown,hbk⟩:=hrel;have HOW:=aB hown;have HBK:=aB hbk;obtain ⟨_,⟨⟨⟨s0,s1,s2,s3⟩,s4,s5,s6⟩,sl⟩⟩:=HW.out wr (aA HB3.out hbk);obtain ⟨gn,on,rfl,ge,oe,ce,hce,hed⟩:=HND2.out wr hbk;have HED:=aB hed;clear hed hown
       by_cases hkt:k<E.length
       · have hki:(k:Int)<E.length:=by omega
         obtain ⟨gg,oo,rfl,hlb⟩:=HED.out k hkt;have hBr:W3.heap.size≤wr.heap.size:=hbk.size
         have HNX:Hid (∀ v5 w5,w5.ownsRow W3.heap.size 9 1 v5 (k+1+1) (pcs (mA s (E.take k))++[.string E[k].lb])→(wr.alloc (.cells #[.string E[k].lb] 9)).grownBy w5 (some g9)→NmL W3 s E v5 (.int .i64 ((k+1:Nat):Int)) w5):=fun v5 w5 ho hgr=>by
          obtain ⟨g5,c5,rfl,_⟩:=CA ho;refine ⟨k+1,g5,c5,hkt,rfl,rfl,?_,?_⟩
          · rw [GR hkt]
            exact ho
          · exact HBK.out.grown (iF (aD _ _) hgr) HBK.out.size (fun j hj=>(World.ownsRow.lt HOW.out j hj).1)
         have HFM:Hid (∀ v5 w5,NmL W3 s E v5 (.int .i64 ((k+1:Nat):Int)) w5→∃ g5 c5,v5= .slice (some ⟨g5,0,none⟩) (k+1+1) c5):=fun v5 w5 h=>by
          obtain ⟨k2,g5,c5,_,e,rfl,_⟩:=h;injection e with _ e
          have:k2=k+1:=by omega
          subst this;exact ⟨g5,c5,rfl⟩
         clear hbk
         go_wp2_with (at_builtin;refine PJ (B:=W3.heap.size) (wx:=wr) (x:=E[k].lb) (v:= .slice (some ⟨g9,0,none⟩) (k+1) c9) (n:=k+1) rfl (.tmp 74) (.tmp 86) rfl rfl HOW.out hBr rfl rfl (by omega) ?_;intro v5 w5 ho hgr hat;have HNL:=aB (HNX.out v5 w5 ho hgr);obtain ⟨g5,c5,rfl⟩:=HFM.out _ _ HNL.out;clear ho hgr hat)
         exact ⟨HNL.out,by simp [intOf];omega⟩
       · obtain rfl:k=E.length:=by omega
         have HNA:Hid (∀ q (hq:q<(mA s E).length),wr.cell? ⟨g9,q,none⟩=some (.string (mA s E)[q])∧g9<wr.heap.size):=NC (Ls:=mA s E) (by have q:=HOW.out;rw [List.take_length] at q;exact q) (by simp [mA]);obtain ⟨m,hm⟩:∃ m,m=E.length+1:=⟨_,rfl⟩;have hml:m≤1000001:=by omega
         have HLN:Hid (m=(mA s E).length):=by unfold Hid;rw [hm];simp [mA]
         rw [←hm];clear hm HOW HED HND2;have HB5:=aB (aA HB3.out hbk);clear hbk HBK;obtain ⟨W5,rfl⟩:∃ x,x=wr:=⟨wr,rfl⟩
         go_wp2_with fail
         clear s0 s1 s2 s3 s4 s5 s6 hce
         go_loopw [14] (fun vk wr=>∃ q:Nat,q≤m∧vk= .int .i64 q∧Below W5.heap.size W5 wr) (fun vk _=>m - (intOf vk).toNat)
         case atStart=>exact ⟨0,Nat.zero_le _,rfl,Below.refl _ _⟩
         case round=>
          obtain ⟨q,hql,rfl,hbq⟩:=hrel;have HBQ:=aB hbq;obtain ⟨hbz,hst⟩:=HW.out wr (aA HB5.out hbq)
          by_cases hqt:q<m
          · have hqi:(q:Int)<m:=by omega
            have hql2:q<(mA s E).length:=by have:=HLN.out;omega
            obtain ⟨nm,hnm⟩:∃ x,x=(mA s E)[q]:=⟨_,rfl⟩;have hc:NmC wr g9 q nm:=by rw [hnm];exact uK _ _ _ _ _ (HNA.out q hql2) hbq
            have HLQ:Hid (∀ W,Below wr.heap.size wr W→Calls Tryz.prog 17 #[.agg #[.slice (some ⟨g,o,none⟩) L.length ct0],.int .i64 (i:Int),.string nm] W fun e w'=>e= .returned (.int .i64 (bE L (i:Int) nm))∧Below W.heap.size W w'):=fun W hb=>HLK.out W (aA hbz hb) i nm
            have HOQ:Hid (∀ W,Below wr.heap.size wr W→Calls Tryz.prog 18 #[.pointer (some ⟨W1.heap.size+1,0,none⟩),.string (aF L[i].pa),.string nm] W fun e w'=>e= .returned (odA (atO L (bE L (i:Int) nm)))∧Below W.heap.size W w'):=fun W hb=>HOD.out W (aA (aA HB5.out hbq) hb) i hlt nm
            have HFI:Hid (∀ W,Below wr.heap.size wr W→Below W5.heap.size W5 W):=fun W hb=>aA HBQ.out hb
            clear hnm hql2
            rcases PI HTR.out i nm with hlk|⟨j,hj,hlk⟩
            · have hat:atO L (bE L (i:Int) nm)=none:=by rw [hlk];rfl
              rw [hat] at HOQ;rw [hlk] at HLQ;have HOQ2:Hid (∀ W,Below wr.heap.size wr W→Calls Tryz.prog 18 #[.pointer (some ⟨W1.heap.size+1,0,none⟩),.string (aF L[i].pa),.string nm] W fun e w'=>e= .returned (.tuple #[.string ⟨#[]⟩,.bool false])∧Below W.heap.size W w'):=HOQ;have HK:Hid (KeepP fun w9=>Below wr.heap.size wr w9∧(StB w9 w.heap.size (.slice a1 P.d.length c1) (.slice a2 P.v.length c2) (.slice a3 P.o.length c3) (.slice a4 P.p.length c4) (.slice (some ⟨gn,on,none⟩) G.length cg) (.slice (some ⟨g,o,none⟩) L.length ct0) pr∧NmC w9 g9 q nm)):=(aO wr).and ((DU _ _ _ _ _ _ _ _).and (uK _ _ _));have HO:Hid (Below wr.heap.size wr wr∧(StB wr w.heap.size (.slice a1 P.d.length c1) (.slice a2 P.v.length c2) (.slice a3 P.o.length c3) (.slice a4 P.p.length c4) (.slice (some ⟨gn,on,none⟩) G.length cg) (.slice (some ⟨g,o,none⟩) L.length ct0) pr∧NmC wr g9 q nm)):=⟨Below.refl _ _,hst,hc⟩
              obtain ⟨⟨⟨⟨s0,s1,s2,s3⟩,s4,s5,s6⟩,sl⟩,hc0,_⟩:=HO.out.2;clear hst hc hlk hat HOQ hbz hbq
              go_wp2_with fail
              clear s0 s1 s2 s3 s4 s5 s6 sl hc0;refine cI HK (by kernel_rfl) (by kernel_rfl) (by first|exact HO.out|exact HK.out.drew HO.out) ?_;intro C HIN HOUT;clear HO
              repeat
               (with_reducible refine wpQuiet_step (fun K hK=> ?_)
                go_simp
                first
                 |(refine hK _ ?_;clear hK K)
                 |(apply Exists.intro;refine ⟨fun w1 hC=> ?_,hK _ ?_⟩;(focus ((first|(go_at_call 17;with_reducible exact bA HIN HOUT HK (fun w1 hk=>HLQ.out w1 hk.1) w1 hC)|(exact rfl)|(obtain ⟨hb1,⟨⟨⟨s0,s1,s2,s3⟩,s4,s5,s6⟩,sl⟩,hc0,_⟩:=HOUT.out w1 hC;clear hC;go_simp;first|done|exact rfl));done));clear hK K))
              refine wpQuiet_nil ?_;intro wn hC;have HO:=aB (HOUT.out _ hC);clear hC HIN HOUT C;obtain ⟨hb1,⟨⟨⟨s0,s1,s2,s3⟩,s4,s5,s6⟩,sl⟩,hc0,_⟩:=HO.out
              go_wp2_with (go_at_call 18;refine (HOQ2.out _ hb1).mono ?_;rintro e W6 ⟨rfl,ok⟩;have HB6:=aB (HFI.out _ (aA hb1 ok));clear ok)
              exact ⟨⟨q+1,by omega,by go_num,HB6.out⟩,by simp [intOf];omega⟩
            · have hat:atO L (bE L (i:Int) nm)=some (aF L[j].pa):=by
               rw [hlk];unfold atO;rw [if_neg (by omega),show ((j:Int)).toNat=j by omega,List.getElem?_eq_getElem hj];rfl
              rw [hat] at HOQ;rw [hlk] at HLQ;obtain ⟨tx,htx⟩:∃ x,x=aF L[j].pa:=⟨_,rfl⟩;rw [←htx] at HOQ;have HOQ2:Hid (∀ W,Below wr.heap.size wr W→Calls Tryz.prog 18 #[.pointer (some ⟨W1.heap.size+1,0,none⟩),.string (aF L[i].pa),.string nm] W fun e w'=>e= .returned (.tuple #[.string tx,.bool true])∧Below W.heap.size W w'):=HOQ;obtain ⟨g2,o2,e2,uj,w1',w2',w3',hdj⟩:=HDR.out wr hbz j hj;injection e2 with e2
              injection e2 with e3 e4 _
              subst e3;subst e4;have hji:(j:Int)<L.length:=by omega
              have HTJ:Hid (∀ W,Below wr.heap.size wr W→Calls Tryz.prog 16 #[uj] W fun e w'=>e= .returned (.string tx)∧Below W.heap.size W w'):=fun W hb=>by
               have q:=HTX.out W (aA hbz hb) j hj uj (hdj.2.1.1.below hb);rw [←htx] at q;exact q
              have HK:Hid (KeepP fun w9=>Below wr.heap.size wr w9∧(StB w9 w.heap.size (.slice a1 P.d.length c1) (.slice a2 P.v.length c2) (.slice a3 P.o.length c3) (.slice a4 P.p.length c4) (.slice (some ⟨gn,on,none⟩) G.length cg) (.slice (some ⟨g,o,none⟩) L.length ct0) pr∧(NmC w9 g9 q nm∧DrIn w9 g (o+j*9) L[j] uj w1' w2' w3'))):=(aO wr).and ((DU _ _ _ _ _ _ _ _).and ((uK _ _ _).and (oF _ _ _ _ _ _ _)));have HO:Hid (Below wr.heap.size wr wr∧(StB wr w.heap.size (.slice a1 P.d.length c1) (.slice a2 P.v.length c2) (.slice a3 P.o.length c3) (.slice a4 P.p.length c4) (.slice (some ⟨gn,on,none⟩) G.length cg) (.slice (some ⟨g,o,none⟩) L.length ct0) pr∧(NmC wr g9 q nm∧DrIn wr g (o+j*9) L[j] uj w1' w2' w3'))):=⟨Below.refl _ _,hst,hc,hdj⟩
              have HKP:Hid (∀ W W',(Below wr.heap.size wr W∧StB W w.heap.size (.slice a1 P.d.length c1) (.slice a2 P.v.length c2) (.slice a3 P.o.length c3) (.slice a4 P.p.length c4) (.slice (some ⟨gn,on,none⟩) G.length cg) (.slice (some ⟨g,o,none⟩) L.length ct0) pr∧(NmC W g9 q nm∧DrIn W g (o+j*9) L[j] uj w1' w2' w3'))→Below W.heap.size W W'→(Below wr.heap.size wr W'∧StB W' w.heap.size (.slice a1 P.d.length c1) (.slice a2 P.v.length c2) (.slice a3 P.o.length c3) (.slice a4 P.p.length c4) (.slice (some ⟨gn,on,none⟩) G.length cg) (.slice (some ⟨g,o,none⟩) L.length ct0) pr∧(NmC W' g9 q nm∧DrIn W' g (o+j*9) L[j] uj w1' w2' w3'))):=fun W W' h hb=>HK.out W W' h hb
              obtain ⟨⟨⟨⟨s0,s1,s2,s3⟩,s4,s5,s6⟩,sl⟩,⟨hc0,_⟩,hdr,_⟩:=HO.out.2;clear hst hc hdj hlk hat HOQ htx hbz hbq hdr
              go_wp2_with fail
              clear s0 s1 s2 s3 s4 s5 s6 sl hc0;refine cI HK (by kernel_rfl) (by kernel_rfl) (by first|exact HO.out|exact HK.out.drew HO.out) ?_;intro C HIN HOUT;clear HO
              repeat
               (with_reducible refine wpQuiet_step (fun K hK=> ?_)
                go_simp
                first
                 |(refine hK _ ?_;clear hK K)
                 |(apply Exists.intro;refine ⟨fun w1 hC=> ?_,hK _ ?_⟩;(focus ((first|(go_at_call 17;with_reducible exact bA HIN HOUT HK (fun w1 hk=>HLQ.out w1 hk.1) w1 hC)|(exact rfl)|(obtain ⟨hb1,⟨⟨⟨s0,s1,s2,s3⟩,s4,s5,s6⟩,sl⟩,⟨hc0,_⟩,⟨p0,p1,p2,p3,p4,p5,p6,p7,p8⟩,_,_⟩:=HOUT.out w1 hC;clear hC;go_simp;first|done|exact rfl));done));clear hK K))
              refine wpQuiet_nil ?_;intro wn hC;have HO:=aB (HOUT.out _ hC);clear hC HIN HOUT C;obtain ⟨hb1,⟨⟨⟨s0,s1,s2,s3⟩,s4,s5,s6⟩,sl⟩,⟨hc0,_⟩,⟨p0,p1,p2,p3,p4,p5,p6,p7,p8⟩,_,_⟩:=HO.out
              go_wp2_with (first
               |(have _t:=HTJ2;go_at_call 16;refine (HTJ2.out _ hb1).mono ?_;rintro e W7 ⟨rfl,ok⟩;have HB6:=aB (HFI.out _ (aA hb1 ok));clear ok HO HTJ2)
               |(go_at_call 18;refine (HOQ2.out _ hb1).mono ?_;rintro e W6 ⟨rfl,ok⟩;have HO6:=aB (HKP.out _ _ HO.out ok);clear ok HO s0 s1 s2 s3 s4 s5 s6 sl hc0 hb1 p0 p1 p2 p3 p4 p5 p6 p7 p8;have HO:=aB HO6.out;clear HO6;have HTJ2:=aB HTJ.out;obtain ⟨hb1,⟨⟨⟨s0,s1,s2,s3⟩,s4,s5,s6⟩,sl⟩,⟨hc0,_⟩,⟨p0,p1,p2,p3,p4,p5,p6,p7,p8⟩,_,_⟩:=HO.out))
              exact ⟨⟨q+1,by omega,by go_num,HB6.out⟩,by simp [intOf];omega⟩
          · obtain rfl:q=m:=by omega
            have HB7:=aB (aA HB5.out hbq);clear hbq hbz hst
            go_wp2
            exact ⟨⟨i+1,by omega,by go_num,HB7.out⟩,by simp [intOf];omega⟩
    · obtain rfl:i=L.length:=by omega
      clear hbw hbr
      go_wp2_with (go_at_call 11;refine (HLV.out _ HBW.out).mono ?_;rintro e W4 ⟨rfl,ok⟩;have HB4:=aB (aA HBW.out ok);clear ok)
      go_ret;exact ⟨rfl,HB4.out⟩
end Go.Proofs.YtlmpiohbmlddiaaGreatDoor
namespace Go.Proofs.YtlmpiohbmlddiaaGreatDoor
open Go.ChangeShapes Go.WideShapes Go.ChangeAt Go.RowKit
set_option maxRecDepth 100000
theorem ND:Tryz.prog.cellsOf 24=4:=by kernel_rfl
theorem kB:Tryz.prog.cellsOf 9=1:=by kernel_rfl
theorem IA:Tryz.prog.cellsOf 129=4:=by kernel_rfl
theorem CB:Tryz.prog.cellsOf 62=2:=by kernel_rfl
theorem CD:Tryz.prog.cellsOf 60=6:=by kernel_rfl
theorem CE:Tryz.prog.cellsOf 57=1:=by kernel_rfl
theorem yV:Tryz.prog.cellsOf 58=1:=by kernel_rfl
theorem yW:Tryz.prog.cellsOf 25=1:=by kernel_rfl
theorem yX:Tryz.prog.cellsOf 27=1:=by kernel_rfl
theorem CF:Tryz.prog.cellsOf 3=1:=by kernel_rfl
theorem IB {H:Type} {enc:TypeId×Value→H} {W:World} {base:Nat} {held:Bool} {n:Nat} {g o:Nat} {cs:List Value} {x:DataW H×List MemPlace} (hc:W.cells? base ⟨g,o,none⟩ 4=some cs) (h:DataW.trod enc Tryz.prog W base (fun _=>true) held n 129 cs=some x):∃ d:Pn,PnIn W g o d∧d.nm.size≤9223372036854775807:=by
 have hs:Tryz.prog.underlying 129=some (.struct (Tryz.prog.fieldsOf 129)):=by kernel_rfl
 obtain ⟨xs,n',_,_,_,hxl,hf⟩:=DataW.trod_struct hs h;have hsz:(Tryz.prog.fieldsOf 129).size=2:=by kernel_rfl
 obtain ⟨_,hcl,hq⟩:=World.cells?_some hc;obtain ⟨f0,i0,t0,o0⟩:=aT (fs:=Tryz.prog.fieldsOf 129) (i:=0) (ty:=9) (off:=0) (by kernel_rfl);obtain ⟨f1,i1,t1,o1⟩:=aT (fs:=Tryz.prog.fieldsOf 129) (i:=1) (ty:=52) (off:=1) (by kernel_rfl);have r0:=hf 0 f0 i0;have r1:=hf 1 f1 i1;rw [t0,o0,kB,List.getElem?_eq_getElem (by omega:0<xs.length)] at r0;rw [t1,o1,kG,List.getElem?_eq_getElem (by omega:1<xs.length)] at r1;obtain ⟨s,e0,_,hs0⟩:=DataW.trod_string Tryz.underlying9 r0;obtain ⟨a,b,c,ea,eb,ec,_⟩:=kP r1;have ka:((cs.drop 1).take 3)[0]? =some (.int .i64 a):=ea;have kb:((cs.drop 1).take 3)[1]? =some (.int .i64 b):=eb;have kc:((cs.drop 1).take 3)[2]? =some (.int .i64 c):=ec;have q0:=hq 0 (by decide);have q1:=hq 1 (by decide);have q2:=hq 2 (by decide);have q3:=hq 3 (by decide);have ad:∀ i,(⟨g,o,none⟩:Addr).add i=⟨g,o+i,none⟩:=fun i=>by unfold Addr.add;split<;>simp_all
 simp at ka kb kc
 rw [ad,eC e0] at q0;rw [ad,ka] at q1;rw [ad,kb] at q2;rw [ad,kc] at q3;exact ⟨⟨s,a,b,c⟩,⟨⟨q0,q1,q2,q3⟩,bZ q0⟩,by unfold maxLen at hs0;exact hs0⟩
theorem CG {H:Type} {enc:TypeId×Value→H} {W:World} {base:Nat} {held:Bool} {n:Nat} {g o:Nat} {cs:List Value} {x:DataW H×List MemPlace} (hc:W.cells? base ⟨g,o,none⟩ 2=some cs) (h:DataW.trod enc Tryz.prog W base (fun _=>true) held n 62 cs=some x):∃ d:Eg,EgIn W g o d∧d.lb.size≤9223372036854775807:=by
 have hs:Tryz.prog.underlying 62=some (.struct (Tryz.prog.fieldsOf 62)):=by kernel_rfl
 obtain ⟨xs,n',_,_,_,hxl,hf⟩:=DataW.trod_struct hs h;have hsz:(Tryz.prog.fieldsOf 62).size=2:=by kernel_rfl
 obtain ⟨_,hcl,hq⟩:=World.cells?_some hc;obtain ⟨f0,i0,t0,o0⟩:=aT (fs:=Tryz.prog.fieldsOf 62) (i:=0) (ty:=9) (off:=0) (by kernel_rfl);obtain ⟨f1,i1,t1,o1⟩:=aT (fs:=Tryz.prog.fieldsOf 62) (i:=1) (ty:=3) (off:=1) (by kernel_rfl);have r0:=hf 0 f0 i0;have r1:=hf 1 f1 i1;rw [t0,o0,kB,List.getElem?_eq_getElem (by omega:0<xs.length)] at r0;rw [t1,o1,CF,List.getElem?_eq_getElem (by omega:1<xs.length)] at r1;obtain ⟨s,e0,_,hs0⟩:=DataW.trod_string Tryz.underlying9 r0;obtain ⟨k,e1,_,_⟩:=DataW.trod_int Tryz.underlying3 r1;have q0:=hq 0 (by decide);have q1:=hq 1 (by decide);have ad:∀ i,(⟨g,o,none⟩:Addr).add i=⟨g,o+i,none⟩:=fun i=>by unfold Addr.add;split<;>simp_all
 rw [ad,eC e0] at q0;rw [ad,eC e1] at q1;exact ⟨⟨s,k⟩,⟨⟨q0,q1⟩,bZ q0⟩,by unfold maxLen at hs0;exact hs0⟩
theorem NE {H:Type} {enc:TypeId×Value→H} {W:World} {base fuel:Nat} {held:Bool} {cs:List Value} {x:DataW H×List MemPlace} (h:DataW.trod enc Tryz.prog W base (fun _=>true) held fuel 57 cs=some x):
 ∃ v L,cs=[v]∧PinsAt W v L∧L.length≤9223372036854775807∧∀ d ∈ L,d.nm.size≤9223372036854775807:=by
 rcases Go.Deep.open_slice Tryz.underlying57 h with ⟨rfl,_⟩|⟨ad,len,cap,m,n,D,Pl,rfl,_,hl,hcm,hm,hx,hel⟩
 · exact ⟨_,[],rfl,⟨none,0,rfl,Nat.le_refl _,Or.inl rfl⟩,by simp,(fun d hd=>by cases hd)⟩
 · have hz:len≤9223372036854775807:=by unfold maxLen at hcm;omega
   rcases Nat.eq_zero_or_pos len with h0|h0
   · subst h0
     exact ⟨_,[],rfl,⟨_,_,rfl,Nat.zero_le _,Or.inl rfl⟩,by simp,(fun d hd=>by cases hd)⟩
   · have hmm:len≤m:=by rw [hm];simp;exact hl
     rw [IA] at hel;obtain ⟨g,off,spot⟩:=ad;obtain ⟨cs0,hc0,_⟩:=hel 0 (by omega);obtain ⟨_,hln,hq⟩:=World.cells?_some hc0;have hcell:=hq 0 (by decide);rw [List.getElem?_eq_getElem (by omega:0<cs0.length)] at hcell;have hspot:spot=none:=by simpa [Addr.add] using World.cell?_spot hcell
     subst hspot;have ad2:∀ o i,(⟨g,o,none⟩:Addr).add i=⟨g,o+i,none⟩:=fun o i=>by unfold Addr.add;split<;>simp_all
     obtain ⟨L,hL,hP⟩:=fD (P:=fun i (d:Pn)=>PnIn W g (off+i*4) d∧d.nm.size≤9223372036854775807) (n:=len) fun i hi=>by
      obtain ⟨cs,hc,ht⟩:=hel i (by omega);rw [ad2] at hc;exact IB hc ht
     subst hL;refine ⟨_,L,rfl,⟨_,_,rfl,hl,Or.inr ⟨g,off,rfl,?_,fun i hi=>(hP i hi).1⟩⟩,hz,?_⟩
     · have:=bZ hcell
       rw [ad2,ad2] at this;exact this
     · intro d hd
       obtain ⟨i,hi,rfl⟩:=List.getElem_of_mem hd;exact (hP i hi).2
theorem IC {H:Type} {enc:TypeId×Value→H} {W:World} {base fuel:Nat} {held:Bool} {cs:List Value} {x:DataW H×List MemPlace} (h:DataW.trod enc Tryz.prog W base (fun _=>true) held fuel 58 cs=some x):
 ∃ v L,cs=[v]∧EdgesAt W v L∧L.length≤9223372036854775807∧∀ d ∈ L,d.lb.size≤9223372036854775807:=by
 rcases Go.Deep.open_slice Tryz.underlying58 h with ⟨rfl,_⟩|⟨ad,len,cap,m,n,D,Pl,rfl,_,hl,hcm,hm,hx,hel⟩
 · exact ⟨_,[],rfl,⟨none,0,rfl,Nat.le_refl _,Or.inl rfl⟩,by simp,(fun d hd=>by cases hd)⟩
 · have hz:len≤9223372036854775807:=by unfold maxLen at hcm;omega
   rcases Nat.eq_zero_or_pos len with h0|h0
   · subst h0
     exact ⟨_,[],rfl,⟨_,_,rfl,Nat.zero_le _,Or.inl rfl⟩,by simp,(fun d hd=>by cases hd)⟩
   · have hmm:len≤m:=by rw [hm];simp;exact hl
     rw [CB] at hel;obtain ⟨g,off,spot⟩:=ad;obtain ⟨cs0,hc0,_⟩:=hel 0 (by omega);obtain ⟨_,hln,hq⟩:=World.cells?_some hc0;have hcell:=hq 0 (by decide);rw [List.getElem?_eq_getElem (by omega:0<cs0.length)] at hcell;have hspot:spot=none:=by simpa [Addr.add] using World.cell?_spot hcell
     subst hspot;have ad2:∀ o i,(⟨g,o,none⟩:Addr).add i=⟨g,o+i,none⟩:=fun o i=>by unfold Addr.add;split<;>simp_all
     obtain ⟨L,hL,hP⟩:=fD (P:=fun i (d:Eg)=>EgIn W g (off+i*2) d∧d.lb.size≤9223372036854775807) (n:=len) fun i hi=>by
      obtain ⟨cs,hc,ht⟩:=hel i (by omega);rw [ad2] at hc;exact CG hc ht
     subst hL;refine ⟨_,L,rfl,⟨_,_,rfl,hl,Or.inr ⟨g,off,rfl,?_,fun i hi=>(hP i hi).1⟩⟩,hz,?_⟩
     · have:=bZ hcell
       rw [ad2,ad2] at this;exact this
     · intro d hd
       obtain ⟨i,hi,rfl⟩:=List.getElem_of_mem hd;exact (hP i hi).2
def PU (n:Nd):Prop:=n.nm.size≤9223372036854775807∧(n.cx.length≤9223372036854775807∧∀ d ∈ n.cx,d.nm.size≤9223372036854775807)∧n.ed.length≤9223372036854775807∧∀ d ∈ n.ed,d.lb.size≤9223372036854775807
theorem CH {H:Type} {enc:TypeId×Value→H} {W:World} {base:Nat} {held:Bool} {n:Nat} {g o:Nat} {cs:List Value} {x:DataW H×List MemPlace} (hc:W.cells? base ⟨g,o,none⟩ 6=some cs) (h:DataW.trod enc Tryz.prog W base (fun _=>true) held n 60 cs=some x):∃ d:Nd,(∃ vc ve,NdIn W g o d vc ve)∧PU d:=by
 have hs:Tryz.prog.underlying 60=some (.struct (Tryz.prog.fieldsOf 60)):=by kernel_rfl
 obtain ⟨xs,n',_,_,_,hxl,hf⟩:=DataW.trod_struct hs h;have hsz:(Tryz.prog.fieldsOf 60).size=4:=by kernel_rfl
 obtain ⟨_,hcl,hq⟩:=World.cells?_some hc;obtain ⟨f0,i0,t0,o0⟩:=aT (fs:=Tryz.prog.fieldsOf 60) (i:=0) (ty:=9) (off:=0) (by kernel_rfl);obtain ⟨f1,i1,t1,o1⟩:=aT (fs:=Tryz.prog.fieldsOf 60) (i:=1) (ty:=52) (off:=1) (by kernel_rfl);obtain ⟨f2,i2,t2,o2⟩:=aT (fs:=Tryz.prog.fieldsOf 60) (i:=2) (ty:=57) (off:=4) (by kernel_rfl);obtain ⟨f3,i3,t3,o3⟩:=aT (fs:=Tryz.prog.fieldsOf 60) (i:=3) (ty:=58) (off:=5) (by kernel_rfl);have r0:=hf 0 f0 i0;have r1:=hf 1 f1 i1;have r2:=hf 2 f2 i2;have r3:=hf 3 f3 i3;rw [t0,o0,kB,List.getElem?_eq_getElem (by omega:0<xs.length)] at r0;rw [t1,o1,kG,List.getElem?_eq_getElem (by omega:1<xs.length)] at r1;rw [t2,o2,CE,List.getElem?_eq_getElem (by omega:2<xs.length)] at r2;rw [t3,o3,yV,List.getElem?_eq_getElem (by omega:3<xs.length)] at r3;obtain ⟨s,e0,_,hs0⟩:=DataW.trod_string Tryz.underlying9 r0;obtain ⟨a,b,c,ea,eb,ec,_⟩:=kP r1;obtain ⟨vc,L1,e2,h2,z2,m2⟩:=NE r2
 obtain ⟨ve,L2,e3,h3,z3,m3⟩:=IC r3;have ka:((cs.drop 1).take 3)[0]? =some (.int .i64 a):=ea;have kb:((cs.drop 1).take 3)[1]? =some (.int .i64 b):=eb;have kc:((cs.drop 1).take 3)[2]? =some (.int .i64 c):=ec;have q0:=hq 0 (by decide);have q1:=hq 1 (by decide);have q2:=hq 2 (by decide);have q3:=hq 3 (by decide);have q4:=hq 4 (by decide);have q5:=hq 5 (by decide);have ad:∀ i,(⟨g,o,none⟩:Addr).add i=⟨g,o+i,none⟩:=fun i=>by unfold Addr.add;split<;>simp_all
 simp at ka kb kc
 rw [ad,eC e0] at q0;rw [ad,ka] at q1;rw [ad,kb] at q2;rw [ad,kc] at q3;rw [ad,eC e2] at q4;rw [ad,eC e3] at q5;exact ⟨⟨s,a,b,c,L1,L2⟩,⟨vc,ve,⟨q0,q1,q2,q3,q4,q5⟩,⟨h2,h3⟩,bZ q0⟩,by unfold maxLen at hs0;exact hs0,⟨z2,m2⟩,z3,m3⟩
theorem ID {H:Type} {enc:TypeId×Value→H} {W:World} {base fuel:Nat} {held:Bool} {cs:List Value} {x:DataW H×List MemPlace} (h:DataW.trod enc Tryz.prog W base (fun _=>true) held fuel 25 cs=some x):
 ∃ v L,cs=[v]∧NodesAt W v L∧L.length≤9223372036854775807∧∀ d ∈ L,PU d:=by
 rcases Go.Deep.open_slice Tryz.underlying25 h with ⟨rfl,_⟩|⟨ad,len,cap,m,n,D,Pl,rfl,_,hl,hcm,hm,hx,hel⟩
 · exact ⟨_,[],rfl,⟨none,0,rfl,Nat.le_refl _,Or.inl rfl⟩,by simp,(fun d hd=>by cases hd)⟩
 · have hz:len≤9223372036854775807:=by unfold maxLen at hcm;omega
   rcases Nat.eq_zero_or_pos len with h0|h0
   · subst h0
     exact ⟨_,[],rfl,⟨_,_,rfl,Nat.zero_le _,Or.inl rfl⟩,by simp,(fun d hd=>by cases hd)⟩
   · have hmm:len≤m:=by rw [hm];simp;exact hl
     rw [CD] at hel;obtain ⟨g,off,spot⟩:=ad;obtain ⟨cs0,hc0,_⟩:=hel 0 (by omega);obtain ⟨_,hln,hq⟩:=World.cells?_some hc0;have hcell:=hq 0 (by decide);rw [List.getElem?_eq_getElem (by omega:0<cs0.length)] at hcell;have hspot:spot=none:=by simpa [Addr.add] using World.cell?_spot hcell
     subst hspot;have ad2:∀ o i,(⟨g,o,none⟩:Addr).add i=⟨g,o+i,none⟩:=fun o i=>by unfold Addr.add;split<;>simp_all
     obtain ⟨L,hL,hP⟩:=fD (P:=fun i (d:Nd)=>(∃ vc ve,NdIn W g (off+i*6) d vc ve)∧PU d) (n:=len) fun i hi=>by
      obtain ⟨cs,hc,ht⟩:=hel i (by omega);rw [ad2] at hc;exact CH hc ht
     subst hL;refine ⟨_,L,rfl,⟨_,_,rfl,hl,Or.inr ⟨g,off,rfl,?_,fun i hi=>(hP i hi).1⟩⟩,hz,?_⟩
     · have:=bZ hcell
       rw [ad2,ad2] at this;exact this
     · intro d hd
       obtain ⟨i,hi,rfl⟩:=List.getElem_of_mem hd;exact (hP i hi).2
theorem IE:Tryz.prog.bytesOf 56=144:=by kernel_rfl
theorem NF {H:Type} {enc:TypeId×Value→H} {W:World} {base fuel:Nat} {held:Bool} {cs:List Value} {x:DataW H×List MemPlace} (h:DataW.trod enc Tryz.prog W base (fun _=>true) held fuel 28 cs=some x):
 ∃ v L,cs=[v]∧DirsAt W v L∧L.length≤9223372036854775807∧(∀ d ∈ L,DrN d)∧((x.1.weights Tryz.prog 28).all (· ≤reachBytes)=true→FitP1 L∧L.length*144≤140737488355328):=by
 rcases Go.Deep.open_slice Tryz.underlying28 h with ⟨rfl,_⟩|⟨ad,len,cap,m,n,D,Pl,rfl,_,hl,hcm,hm,hx,hel⟩
 · exact ⟨_,[],rfl,⟨none,0,rfl,Nat.le_refl _,Or.inl rfl⟩,by simp,(fun d hd=>by cases hd),fun _=>⟨(fun d hd=>by cases hd),by simp⟩⟩
 · have hz:len≤9223372036854775807:=by unfold maxLen at hcm;omega
   rcases Nat.eq_zero_or_pos len with h0|h0
   · subst h0
     exact ⟨_,[],rfl,⟨_,_,rfl,Nat.zero_le _,Or.inl rfl⟩,by simp,(fun d hd=>by cases hd),fun _=>⟨(fun d hd=>by cases hd),by simp⟩⟩
   · have hmm:len≤m:=by rw [hm];simp;exact hl
     rw [FJ] at hel;obtain ⟨g,off,spot⟩:=ad;obtain ⟨cs0,hc0,_⟩:=hel 0 (by omega);obtain ⟨_,hln,hq⟩:=World.cells?_some hc0;have hcell:=hq 0 (by decide);rw [List.getElem?_eq_getElem (by omega:0<cs0.length)] at hcell;have hspot:spot=none:=by simpa [Addr.add] using World.cell?_spot hcell
     subst hspot
     obtain ⟨L,hL,hP⟩:=fD (P:=fun i (d:Dr)=>(∃ u v1 v2 v3,DrIn W g (off+i*9) d u v1 v2 v3)∧DrN d∧(((D i).weights Tryz.prog 56).all (· ≤reachBytes)=true→d.pa.length*16≤140737488355328)) (n:=len) fun i hi=>by
      obtain ⟨cs,hc,ht⟩:=hel i (by omega);rw [mV] at hc;exact KC hc ht
     subst hL;refine ⟨_,L,rfl,⟨_,_,rfl,hl,Or.inr ⟨g,off,rfl,fun i hi=>(hP i hi).1⟩⟩,hz,?_,fun hr=> ?_⟩
     · intro d hd
       obtain ⟨i,hi,rfl⟩:=List.getElem_of_mem hd;exact (hP i hi).2.1
     · have hxi:x.1= .slice ((List.range L.length).map D) ((List.range (m - L.length)).map fun j=>D (L.length+j)):=by rw [hx]
       refine ⟨?_,by
        rw [hxi] at hr;have hb:=(lQ Tryz.underlying28 hr).1;rw [List.length_map,List.length_range,IE] at hb;unfold reachBytes at hb;omega⟩
       intro d hd;obtain ⟨i,hi,rfl⟩:=List.getElem_of_mem hd;have hxi:x.1= .slice ((List.range L.length).map D) ((List.range (m - L.length)).map fun j=>D (L.length+j)):=by rw [hx]
       rw [hxi] at hr;exact (hP i hi).2.2 ((lQ Tryz.underlying28 hr).2 (D i) (List.mem_map.2 ⟨i,List.mem_range.2 (by omega),rfl⟩))
theorem CI:Tryz.prog.cellsOf 32=7:=by kernel_rfl
theorem CJ:Tryz.prog.cellsOf 4=1:=by kernel_rfl
theorem uM {cs:List Value} {o k i:Nat} {v:Value} (h:((cs.drop o).take k)[i]? =some v) (hi:i<k):cs[o+i]? =some v:=by
 rw [List.getElem?_take_of_lt hi,List.getElem?_drop] at h;exact h
set_option maxHeartbeats 1600000 in
theorem CK {H:Type} {enc:TypeId×Value→H} {W:World} {base b0:Nat} {held:Bool} {v:Value} {d:DataW H} {p:List MemPlace} (hv:Value.okWide Tryz.prog W .any b0 32 v) (h:DataW.Trod enc Tryz.prog W base (fun _=>true) held 32 v d p):
 ∃ (P:Mn) (G:List Nd) (L:List Dr) (pr:Bool) (v1 v2 v3 v4 vg vt:Value),v= .agg #[v1,v2,v3,v4,vg,vt,.bool pr]∧(MnAt W P v1 v2 v3 v4∧(P.d.length≤9223372036854775807∧P.v.length≤9223372036854775807∧P.o.length≤9223372036854775807∧P.p.length≤9223372036854775807)∧((∀ d ∈ P.d,d.nm.size≤9223372036854775807)∧(∀ d ∈ P.v,d.nm.size≤9223372036854775807)∧(∀ d ∈ P.o,d.nm.size≤9223372036854775807)∧∀ d ∈ P.p,d.nm.size≤9223372036854775807))∧
   (NodesAt W vg G∧tL G∧∀ n ∈ G,PU n)∧(DirsAt W vt L∧L.length≤9223372036854775807∧∀ d ∈ L,DrN d)∧((d.weights Tryz.prog 32).all (· ≤reachBytes)=true→FitP1 L∧L.length*144≤140737488355328):=by
 have hs:Tryz.prog.underlying 32=some (.struct (Tryz.prog.fieldsOf 32)):=by kernel_rfl
 have hsm:Tryz.prog.underlying 24=some (.struct (Tryz.prog.fieldsOf 24)):=by kernel_rfl
 have hsg:Tryz.prog.underlying 27=some (.struct (Tryz.prog.fieldsOf 27)):=by kernel_rfl
 have hst:Tryz.prog.underlying 30=some (.struct (Tryz.prog.fieldsOf 30)):=by kernel_rfl
 obtain ⟨cs,rfl,hsz⟩:=okWide_struct hs hv;obtain ⟨n,h⟩:=h;obtain ⟨xs,n',_,hxx,_,hxl,hf⟩:=DataW.trod_struct hs h;have hfz:(Tryz.prog.fieldsOf 32).size=4:=by kernel_rfl
 rw [CI] at hsz;obtain ⟨f0,i0,t0,o0⟩:=aT (fs:=Tryz.prog.fieldsOf 32) (i:=0) (ty:=24) (off:=0) (by kernel_rfl);obtain ⟨f1,i1,t1,o1⟩:=aT (fs:=Tryz.prog.fieldsOf 32) (i:=1) (ty:=27) (off:=4) (by kernel_rfl);obtain ⟨f2,i2,t2,o2⟩:=aT (fs:=Tryz.prog.fieldsOf 32) (i:=2) (ty:=30) (off:=5) (by kernel_rfl);obtain ⟨f3,i3,t3,o3⟩:=aT (fs:=Tryz.prog.fieldsOf 32) (i:=3) (ty:=4) (off:=6) (by kernel_rfl);have r0:=hf 0 f0 i0;have r1:=hf 1 f1 i1;have r2:=hf 2 f2 i2;have r3:=hf 3 f3 i3;rw [t0,o0,ND,List.getElem?_eq_getElem (by omega:0<xs.length)] at r0;rw [t1,o1,yX,List.getElem?_eq_getElem (by omega:1<xs.length)] at r1;rw [t2,o2,AG,List.getElem?_eq_getElem (by omega:2<xs.length)] at r2;rw [t3,o3,CJ,List.getElem?_eq_getElem (by omega:3<xs.length)] at r3;obtain ⟨pr,e3,_⟩:=DataW.trod_bool Tryz.underlying4 r3;have k6:cs.toList[6]? =some (.bool pr):=eC e3;obtain ⟨xm,_,_,_,_,hxm,hfm⟩:=DataW.trod_struct hsm r0
 have hfzm:(Tryz.prog.fieldsOf 24).size=4:=by kernel_rfl
 have get:∀ i,((Tryz.prog.fieldsOf 24)[i]?).map (fun f=>(f.type,f.offset))=some (22,i)→i<4→∃ v L,cs.toList[i]? =some v∧DepsAt W v L∧L.length≤9223372036854775807∧∀ d ∈ L,d.nm.size≤9223372036854775807:=by
  intro i hfd hi;obtain ⟨f,h1,h2,h3⟩:=aT hfd;have hr:=hfm i f h1;rw [h2,h3,iU,List.getElem?_eq_getElem (by omega:i<xm.length)] at hr;obtain ⟨v,L,e,hL,hz,hm⟩:=nF hr
  have:=uM (eC e) hi
  rw [Nat.zero_add] at this;exact ⟨v,L,this,hL,hz,hm⟩
 obtain ⟨v1,L1,k0,h1,z1,m1⟩:=get 0 (by kernel_rfl) (by decide);obtain ⟨v2,L2,k1,h2,z2,m2⟩:=get 1 (by kernel_rfl) (by decide);obtain ⟨v3,L3,k2,h3,z3,m3⟩:=get 2 (by kernel_rfl) (by decide);obtain ⟨v4,L4,k3,h4,z4,m4⟩:=get 3 (by kernel_rfl) (by decide);obtain ⟨xg,_,_,_,_,hxg,hfg⟩:=DataW.trod_struct hsg r1;have hfzg:(Tryz.prog.fieldsOf 27).size=1:=by kernel_rfl
 obtain ⟨g0,ig0,tg0,og0⟩:=aT (fs:=Tryz.prog.fieldsOf 27) (i:=0) (ty:=25) (off:=0) (by kernel_rfl);have rg:=hfg 0 g0 ig0;rw [tg0,og0,yW,List.getElem?_eq_getElem (by omega:0<xg.length)] at rg;obtain ⟨u,G,eg,hg0,zg0,mg0⟩:=ID rg;have k4:cs.toList[4+0]? =some u:=uM (eC eg) (by decide);obtain ⟨xt,_,_,hxxt,_,hxt,hft⟩:=DataW.trod_struct hst r2;have hfzt:(Tryz.prog.fieldsOf 30).size=1:=by kernel_rfl
 obtain ⟨q0,iq0,tq0,oq0⟩:=aT (fs:=Tryz.prog.fieldsOf 30) (i:=0) (ty:=28) (off:=0) (by kernel_rfl);have rt:=hft 0 q0 iq0;rw [tq0,oq0,AF,List.getElem?_eq_getElem (by omega:0<xt.length)] at rt;obtain ⟨vt,L,et,hd,hz,hn,hwt⟩:=NF rt;have k5:cs.toList[5+0]? =some vt:=uM (eC et) (by decide);obtain ⟨l⟩:=cs;obtain ⟨y0,y1,y2,y3,y4,y5,y6,rfl⟩:=SX (l:=l) (by simpa using hsz)
 simp at k0 k1 k2 k3 k4 k5 k6
 subst k0 k1 k2 k3 k4 k5 k6;refine ⟨⟨L1,L2,L3,L4⟩,G,L,pr,_,_,_,_,_,_,rfl,⟨⟨h1,h2,h3,h4⟩,⟨z1,z2,z3,z4⟩,m1,m2,m3,m4⟩,⟨hg0,⟨zg0,fun n hn=>(mg0 n hn).2.2.1⟩,mg0⟩,⟨hd,hz,hn⟩,fun hr=> ?_⟩;have hdd:d= .agg (xs.map (·.1)):=congrArg Prod.fst hxx;rw [hdd] at hr;have hp2:=oZ hs hr i2 (d:=xs[2].1) (by rw [List.getElem?_map,List.getElem?_eq_getElem (by omega:2<xs.length)];rfl);rw [t2] at hp2;have hxi:xs[2].1= .agg (xt.map (·.1)):=congrArg Prod.fst hxxt;rw [hxi] at hp2;have hp3:=oZ hst hp2 iq0 (d:=xt[0].1) (by rw [List.getElem?_map,List.getElem?_eq_getElem (by omega:0<xt.length)];rfl);rw [tq0] at hp3;exact hwt hp3
end Go.Proofs.YtlmpiohbmlddiaaGreatDoor
