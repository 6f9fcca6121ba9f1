/- Gl3, Lm1: their declarations that are needed, laid in one text, remarks and blanks left out. -/
import Derived.Test.YtpfemjlhklnfoaaGreatDoorMg15
namespace Go.Proofs.YtpfemjlhklnfoaaGreatDoor
open Go.Shelf Go.RowKit Go.Maps Go.WideMaps
set_option maxRecDepth 100000
def BxNF (w:World) (N:Nat) (n:Nd) (vc ve:Value):Prop:=BxNd w N n vc ve∧∀ i,i<6→w.frozen? ⟨N,i,none⟩=false
theorem nS (N:Nat) (n:Nd) (vc ve:Value):KeepP fun w1=>BxNF w1 N n vc ve:=fun _ _ h hb=>⟨aJ _ _ _ _ _ _ h.1 hb,fun i hi=>(hb.frozen (p:=⟨N,i,none⟩) h.1.2).trans (h.2 i hi)⟩
theorem BxNF.new {w:World} {N:Nat} (hN:w.heap.size=N) (n:Nd) (vc ve:Value):BxNF (w.alloc (.cells #[.string n.nm,.int .i64 n.a,.int .i64 n.b,.int .i64 n.c,vc,ve] 67)) N n vc ve:=by
 refine ⟨BxNd.new hN n vc ve,fun i hi=> ?_⟩;subst hN
 simp
theorem aI {w:World} {N i j:Nat} {u x:Value} (h:i≠j) (hx:w.cell? ⟨N,j,none⟩=some x):(w.setCell ⟨N,i,none⟩ u).cell? ⟨N,j,none⟩=some x:=(World.cell?_setCell_other _ _ _ _ (fun e=>by cases e;exact h rfl)).trans hx
def set6 (w:World) (N:Nat) (n:Nd) (vc ve:Value):World:=(((((w.setCell ⟨N,0,none⟩ (.string n.nm)).setCell ⟨N,1,none⟩ (.int .i64 n.a)).setCell ⟨N,2,none⟩ (.int .i64 n.b)).setCell ⟨N,3,none⟩ (.int .i64 n.c)).setCell ⟨N,4,none⟩ vc).setCell ⟨N,5,none⟩ ve
theorem yB {w:World} {N:Nat} {m n:Nd} {uc ue vc ve:Value} (h:BxNd w N m uc ue):BxNd (set6 w N n vc ve) N n vc ve:=by
 obtain ⟨⟨j0,j1,j2,j3,j4,j5⟩,hN⟩:=h;refine ⟨⟨?_,?_,?_,?_,?_,?_⟩,by unfold set6;simp;exact hN⟩
 · exact aI (by decide) (aI (by decide) (aI (by decide) (aI (by decide) (aI (by decide) (World.cell?_setCell_same _ _ _ j0)))))
 · exact aI (by decide) (aI (by decide) (aI (by decide) (aI (by decide) (World.cell?_setCell_same _ _ _ (aI (by decide) j1)))))
 · exact aI (by decide) (aI (by decide) (aI (by decide) (World.cell?_setCell_same _ _ _ (aI (by decide) (aI (by decide) j2)))))
 · exact aI (by decide) (aI (by decide) (World.cell?_setCell_same _ _ _ (aI (by decide) (aI (by decide) (aI (by decide) j3)))))
 · exact aI (by decide) (World.cell?_setCell_same _ _ _ (aI (by decide) (aI (by decide) (aI (by decide) (aI (by decide) j4)))))
 · exact World.cell?_setCell_same _ _ _ (aI (by decide) (aI (by decide) (aI (by decide) (aI (by decide) (aI (by decide) j5)))))
theorem pX {w w':World} {N B:Nat} {n:Nd} {vc ve:Value} (hN:B≤N) (h:Below B w w'):Below B w (set6 w' N n vc ve):=
 (((((h.setCell (p:=⟨N,0,none⟩) hN _).setCell (p:=⟨N,1,none⟩) hN _).setCell (p:=⟨N,2,none⟩) hN _).setCell (p:=⟨N,3,none⟩) hN _).setCell (p:=⟨N,4,none⟩) hN _).setCell (p:=⟨N,5,none⟩) hN _
theorem wC {w:World} {N M:Nat} (h:N≠M) (n:Nd) (vc ve:Value) (i:Nat):(set6 w N n vc ve).cell? ⟨M,i,none⟩=w.cell? ⟨M,i,none⟩:=by
 have q:∀ (w':World) (j:Nat) (u:Value),(w'.setCell ⟨N,j,none⟩ u).cell? ⟨M,i,none⟩=w'.cell? ⟨M,i,none⟩:=fun w' j u=>World.cell?_setCell_other _ _ _ _ (fun e=>by cases e;exact h rfl)
 unfold set6;rw [q,q,q,q,q,q]
theorem BxS.set6 {w:World} {N M:Nat} {v:Value} {p:Option Addr} (hb:BxS w M v p) (h:N≠M) (n:Nd) (vc ve:Value):BxS (set6 w N n vc ve) M v p:=by
 obtain ⟨⟨h0,h1,h2,h3,h4,h5,h6⟩,hg⟩:=hb;refine ⟨⟨?_,?_,?_,?_,?_,?_,?_⟩,?_⟩
 case refine_8=>unfold Go.Proofs.YtpfemjlhklnfoaaGreatDoor.set6;simp;exact hg
 all_goals rw [wC h]
 all_goals assumption
set_option maxHeartbeats 1600000 in
theorem nT {s:ByteArray} {a b c:Int} {g o n cap:Nat} {p:Option Addr} {ac ae al:Option Addr} {cc ce cl:Nat} {w:World} (hx:NdIn w g o (ndB s a b c) (.slice ac 0 cc) (.slice ae 0 ce)) (hn:0<n):
 Calls Tryz.prog 117 #[.agg #[.slice (some ⟨g,o,none⟩) n cap,.pointer p,.slice none 0 0,.slice none 0 0,.slice none 0 0,.slice none 0 0,.bool true],.int .i64 0,.slice al 0 cl] w fun e w'=>e= .returned (.bool true)∧Below w.heap.size w w':=by
 have HB:Hid (Below w.heap.size w ((w.alloc (.cells #[.slice (some ⟨g,o,none⟩) n cap,.pointer p,.slice none 0 0,.slice none 0 0,.slice none 0 0,.slice none 0 0,.bool true] 109)).alloc (.cells #[.string s,.int .i64 a,.int .i64 b,.int .i64 c,.slice ac 0 cc,.slice ae 0 ce] 67))∧BxNd ((w.alloc (.cells #[.slice (some ⟨g,o,none⟩) n cap,.pointer p,.slice none 0 0,.slice none 0 0,.slice none 0 0,.slice none 0 0,.bool true] 109)).alloc (.cells #[.string s,.int .i64 a,.int .i64 b,.int .i64 c,.slice ac 0 cc,.slice ae 0 ce] 67)) (w.heap.size+1) (ndB s a b c) (.slice ac 0 cc) (.slice ae 0 ce)):=⟨aM _ _ _,BxNd.new (by simp) (ndB s a b c) _ _⟩
 have HCN:Hid (Calls Tryz.prog 172 #[.slice (some ⟨w.heap.size+2,0,none⟩) 2 2] (((w.alloc (.cells #[.slice (some ⟨g,o,none⟩) n cap,.pointer p,.slice none 0 0,.slice none 0 0,.slice none 0 0,.slice none 0 0,.bool true] 109)).alloc (.cells #[.string s,.int .i64 a,.int .i64 b,.int .i64 c,.slice ac 0 cc,.slice ae 0 ce] 67)).alloc (.cells #[.slice ac 0 cc,.slice al 0 cl] 40)) fun e w'=>(∃ ad c,e= .returned (.slice ad 0 c))∧Below w.heap.size w w'∧BxNd w' (w.heap.size+1) (ndB s a b c) (.slice ac 0 cc) (.slice ae 0 ce)):=by
  have key:∀ W:World,W.heap.size=w.heap.size+2→Below w.heap.size w W→BxNd W (w.heap.size+1) (ndB s a b c) (.slice ac 0 cc) (.slice ae 0 ce)→Calls Tryz.prog 172 #[.slice (some ⟨w.heap.size+2,0,none⟩) 2 2] (W.alloc (.cells #[.slice ac 0 cc,.slice al 0 cl] 40)) fun e w'=>(∃ ad c,e= .returned (.slice ad 0 c))∧Below w.heap.size w w'∧BxNd w' (w.heap.size+1) (ndB s a b c) (.slice ac 0 cc) (.slice ae 0 ce):=fun W hs h1 h2=>by
   have e0:(W.alloc (.cells #[.slice ac 0 cc,.slice al 0 cl] 40)).cell? ⟨w.heap.size+2,0,none⟩=some (.slice ac 0 cc):=by rw [←hs];simp
   have e1:(W.alloc (.cells #[.slice ac 0 cc,.slice al 0 cl] 40)).cell? ⟨w.heap.size+2,1,none⟩=some (.slice al 0 cl):=by rw [←hs];simp
   refine (tJ e0 e1).mono ?_;rintro e w' ⟨ad,c,rfl,hb⟩;exact ⟨⟨ad,c,rfl⟩,aB (aB h1 (aD _ _)) hb,aJ _ _ _ _ _ _ (aJ _ _ _ _ _ _ h2 (aD _ _)) hb⟩
  exact key _ (by simp) HB.out.1 HB.out.2
 have HX:=aA (hx.below (aD w (.cells #[.slice (some ⟨g,o,none⟩) n cap,.pointer p,.slice none 0 0,.slice none 0 0,.slice none 0 0,.slice none 0 0,.bool true] 109)));obtain ⟨⟨x0,x1,x2,x3,x4,x5⟩,_,x6⟩:=HX.out;obtain ⟨⟨q0,q1,q2,q3,q4,q5⟩,q6⟩:=HB.out.2;have hni:(0:Int)<(n:Int):=by omega
 clear hx HX
 go_enter Tryz.func117,Tryz.ntmps117
 go_wp2_with (go_at_call 172;refine HCN.out.mono ?_;rintro e w1 ⟨⟨ad,c1,rfl⟩,hb,⟨k0,k1,k2,k3,k4,k5⟩,k6⟩;have HB1:=aA hb;clear hb)
 clear x0 x1 x2 x3 x4 x5 x6 q0 q1 q2 q3 q4 q5 q6 k0 k1 k2 k3 k4 k5 k6
 go_loopw [26] (fun i wr=>i= .int .i64 0∧Below w.heap.size w wr) (fun _ _=>0)
 case atStart=>exact ⟨rfl,HB1.out⟩
 case round=>
  clear HB1;obtain ⟨rfl,hb⟩:=hrel;have HB2:=aA hb;clear hb
  go_wp2
  go_ret;exact ⟨rfl,HB2.out⟩
set_option maxHeartbeats 6400000 in
theorem tN {s:ByteArray} {a b c:Int} {g o n cap:Nat} {p:Option Addr} {ac ae:Option Addr} {cc ce:Nat} {w:World} (hx:NdIn w g o (ndB s a b c) (.slice ac 0 cc) (.slice ae 0 ce)) (hn:0<n):
 Calls Tryz.prog 62 #[.agg #[.slice (some ⟨g,o,none⟩) n cap,.pointer p,.slice none 0 0,.slice none 0 0,.slice none 0 0,.slice none 0 0,.bool true],.int .i64 0] w fun e w'=>e= .returned (.bool true)∧Below w.heap.size w w':=by
 have HW:Hid (∀ w1,Calls Tryz.prog 112 #[.agg #[.slice (some ⟨g,o,none⟩) n cap,.pointer p,.slice none 0 0,.slice none 0 0,.slice none 0 0,.slice none 0 0,.bool true],.int .i64 0] w1 fun e w'=>∃ ad c,e= .returned (.tuple #[.slice ad 0 c,.bool true])∧Below w1.heap.size w1 w'):=fun w1=>pV ⟨_,_,_,rfl⟩
 have HL:Hid (∀ w1,Below w.heap.size w w1→Calls Tryz.prog 113 #[.agg #[.slice (some ⟨g,o,none⟩) n cap,.pointer p,.slice none 0 0,.slice none 0 0,.slice none 0 0,.slice none 0 0,.bool true],.int .i64 0] w1 fun e w'=>e= .returned (.slice none 0 0)∧Below w1.heap.size w1 w'):=fun w1 hb=>zN (hx.below hb) hn
 have HH:Hid (∀ w1,Below w.heap.size w w1→Calls Tryz.prog 117 #[.agg #[.slice (some ⟨g,o,none⟩) n cap,.pointer p,.slice none 0 0,.slice none 0 0,.slice none 0 0,.slice none 0 0,.bool true],.int .i64 0,.slice none 0 0] w1 fun e w'=>e= .returned (.bool true)∧Below w1.heap.size w1 w'):=fun w1 hb=>nT (hx.below hb) hn
 have HA:=aA (fun (ao:Option Addr) (co:Nat) (w1:World)=>lA (s:=s) (a:=a) (b:=b) (c:=c) (ac:=ac) (ae:=ae) (ao:=ao) (cc:=cc) (ce:=ce) (co:=co) (w:=w1));have HOW:=aA (fun (ao:Option Addr) (co:Nat) (w1:World)=>sU (al:=none) (cl:=0) (ao:=ao) (co:=co) (w:=w1));have HCX:=aA (fun (w1:World)=>jP (s:=s) (a:=a) (b:=b) (c:=c) (ac:=ac) (ae:=ae) (al:=none) (cc:=cc) (ce:=ce) (kl:=0) (cl:=0) (w:=w1));have HX:Hid (∀ w1,Below w.heap.size w w1→NdIn w1 g o (ndB s a b c) (.slice ac 0 cc) (.slice ae 0 ce)):=fun w1 hb=>hx.below hb
 have hni:(0:Int)<(n:Int):=by omega
 have HB0:Hid (Below w.heap.size w (w.alloc (.cells #[.slice (some ⟨g,o,none⟩) n cap,.pointer p,.slice none 0 0,.slice none 0 0,.slice none 0 0,.slice none 0 0,.bool true] 109))∧BxS (w.alloc (.cells #[.slice (some ⟨g,o,none⟩) n cap,.pointer p,.slice none 0 0,.slice none 0 0,.slice none 0 0,.slice none 0 0,.bool true] 109)) w.heap.size (.slice (some ⟨g,o,none⟩) n cap) p):=⟨aD _ _,BxS.new rfl _ _⟩;have HKK:Hid (∀ N sa a' b' c',KeepP fun w1=>Below w.heap.size w w1∧BxS w1 w.heap.size (.slice (some ⟨g,o,none⟩) n cap) p∧BxNd w1 N (ndB sa a' b' c') (.slice ac 0 cc) (.slice ae 0 ce)):=fun N sa a' b' c'=>(aL w).and ((cQ _ _ _).and (aJ _ _ _ _))
 clear hx
 go_enter Tryz.func62,Tryz.ntmps62
 go_wp2_with (go_at_call 112;refine (HW.out _).mono ?_;rintro e w1 ⟨ao,co,rfl,ok⟩;have HB1:Hid (Below w.heap.size w w1∧BxS w1 w.heap.size (.slice (some ⟨g,o,none⟩) n cap) p):=⟨aB HB0.out.1 ok,cQ _ _ _ _ _ HB0.out.2 ok⟩;clear ok)
 obtain ⟨⟨x0,x1,x2,x3,x4,x5⟩,_,x6⟩:=HX.out w1 HB1.out.1;dsimp only [ndB] at x0 x1 x2 x3;obtain ⟨_,⟨k0,k1,k2,k3,k4,k5,k6⟩,k7⟩:=HB1.out;have hn0:(0:Int)≤0:=Int.le_refl 0
 have HZ:Hid ((Below w.heap.size w (w1.alloc (.cells #[.string ⟨#[]⟩,.int .i64 0,.int .i64 0,.int .i64 0,.slice none 0 0,.slice none 0 0] 67)).drew∧BxS (w1.alloc (.cells #[.string ⟨#[]⟩,.int .i64 0,.int .i64 0,.int .i64 0,.slice none 0 0,.slice none 0 0] 67)).drew w.heap.size (.slice (some ⟨g,o,none⟩) n cap) p)∧BxNF (w1.alloc (.cells #[.string ⟨#[]⟩,.int .i64 0,.int .i64 0,.int .i64 0,.slice none 0 0,.slice none 0 0] 67)).drew w1.heap.size (ndB ⟨#[]⟩ 0 0 0) (.slice none 0 0) (.slice none 0 0)):=
  ⟨⟨(aB HB1.out.1 (aD _ _)).drew,KeepP.drew (cQ _ _ _) (cQ _ _ _ _ _ HB1.out.2 (aD _ _))⟩,KeepP.drew (nS _ _ _ _) (BxNF.new rfl (ndB ⟨#[]⟩ 0 0 0) _ _)⟩
 have hw1:w.heap.size<w1.heap.size:=HB1.out.2.2;have hne1:w1.heap.size≠w.heap.size:=by omega
 have hne2:w1.heap.size≠g:=by omega
 go_region_held3 (fun w'=>w'.cell? ⟨w.heap.size,0,none⟩=some (.slice (some ⟨g,o,none⟩) n cap)∧w'.cell? ⟨w.heap.size,1,none⟩=some (.pointer p)∧w'.cell? ⟨w.heap.size,2,none⟩=some (.slice none 0 0)∧w'.cell? ⟨w.heap.size,3,none⟩=some (.slice none 0 0)∧w'.cell? ⟨w.heap.size,4,none⟩=some (.slice none 0 0)∧w'.cell? ⟨w.heap.size,5,none⟩=some (.slice none 0 0)∧w'.cell? ⟨w.heap.size,6,none⟩=some (.bool true)∧w'.cell? ⟨g,o,none⟩=some (.string s)∧w'.cell? ⟨g,o+1,none⟩=some (.int .i64 a)∧w'.cell? ⟨g,o+2,none⟩=some (.int .i64 b)∧w'.cell? ⟨g,o+3,none⟩=some (.int .i64 c)∧w'.cell? ⟨g,o+4,none⟩=some (.slice ac 0 cc)∧w'.cell? ⟨g,o+5,none⟩=some (.slice ae 0 ce)) (go_keep)
  (first
    |(go_at_call 113;refine (HL.out w1.drew HB1.out.1.drew).mono ?_;rintro e w2 ⟨rfl,ok⟩;have HB2:Hid (Below w.heap.size w w2∧BxS w2 w.heap.size (.slice (some ⟨g,o,none⟩) n cap) p):=⟨aB HB1.out.1.drew ok,cQ _ _ _ _ _ (KeepP.drew (cQ _ _ _) HB1.out.2) ok⟩;have HX2:=aA (HX.out w2 HB2.out.1);obtain ⟨⟨x0,x1,x2,x3,x4,x5⟩,_,x6⟩:=HX2.out;dsimp only [ndB] at x0 x1 x2 x3;obtain ⟨_,⟨k0,k1,k2,k3,k4,k5,k6⟩,k7⟩:=HB2.out;have hne3:w2.heap.size≠w.heap.size:=(by omega);have hne4:w2.heap.size≠g:=(by omega);clear ok)
    |(go_at_call 113;refine (HL.out _ HZ.out.1.1).mono ?_;rintro e w2 ⟨rfl,ok⟩;have HBZ:Hid ((Below w.heap.size w w2∧BxS w2 w.heap.size (.slice (some ⟨g,o,none⟩) n cap) p)∧BxNF w2 w1.heap.size (ndB ⟨#[]⟩ 0 0 0) (.slice none 0 0) (.slice none 0 0)):=⟨⟨aB HZ.out.1.1 ok,cQ _ _ _ _ _ HZ.out.1.2 ok⟩,nS _ _ _ _ _ _ HZ.out.2 ok⟩;have HX2:=aA (HX.out w2 HBZ.out.1.1);obtain ⟨⟨x0,x1,x2,x3,x4,x5⟩,_,x6⟩:=HX2.out;dsimp only [ndB] at x0 x1 x2 x3;obtain ⟨⟨_,⟨k0,k1,k2,k3,k4,k5,k6⟩,k7⟩,⟨⟨j0,j1,j2,j3,j4,j5⟩,j6⟩,jf⟩:=HBZ.out;dsimp only [ndB] at j0 j1 j2 j3;have f0:=jf 0 (by decide);have f1:=jf 1 (by decide);have f2:=jf 2 (by decide);have f3:=jf 3 (by decide);have f4:=jf 4 (by decide);have f5:=jf 5 (by decide);clear jf ok))
 · have HK3:Hid (Below w.heap.size w (w2.alloc (.cells #[.string s,.int .i64 a,.int .i64 b,.int .i64 c,.slice ac 0 cc,.slice ae 0 ce] 67))∧BxS (w2.alloc (.cells #[.string s,.int .i64 a,.int .i64 b,.int .i64 c,.slice ac 0 cc,.slice ae 0 ce] 67)) w.heap.size (.slice (some ⟨g,o,none⟩) n cap) p∧BxNd (w2.alloc (.cells #[.string s,.int .i64 a,.int .i64 b,.int .i64 c,.slice ac 0 cc,.slice ae 0 ce] 67)) w2.heap.size (ndB s a b c) (.slice ac 0 cc) (.slice ae 0 ce)):=⟨aB HB2.out.1 (aD _ _),cQ _ _ _ _ _ HB2.out.2 (aD _ _),BxNd.new rfl (ndB s a b c) _ _⟩
   generalize (w2.alloc (.cells #[.string s,.int .i64 a,.int .i64 b,.int .i64 c,.slice ac 0 cc,.slice ae 0 ce] 67))=W3 at*;clear x0 x1 x2 x3 x4 x5 x6 k0 k1 k2 k3 k4 k5 k6 k7 hne1 hne2 hne3 hne4 HX2;obtain ⟨_,_,⟨⟨y0,y1,y2,y3,y4,y5⟩,y6⟩⟩:=HK3.out;dsimp only [ndB] at y0 y1 y2 y3
   go_wp2_with (first
    |(go_at_call 114;refine (HA.out _ _ _).mono ?_;rintro e w4 ⟨rfl,ok⟩;have HK4:=aA (HKK.out _ _ _ _ _ _ _ HK3.out ok);obtain ⟨_,_,⟨⟨y0,y1,y2,y3,y4,y5⟩,y6⟩⟩:=HK4.out;dsimp only [ndB] at y0 y1 y2 y3;clear ok)
    |(go_at_call 115;refine (HOW.out _ _ _).mono ?_;rintro e w5 ⟨rfl,ok⟩;have HK5:=aA (HKK.out _ _ _ _ _ _ _ HK4.out ok);obtain ⟨_,_,⟨⟨y0,y1,y2,y3,y4,y5⟩,y6⟩⟩:=HK5.out;dsimp only [ndB] at y0 y1 y2 y3;clear ok)
    |(go_at_call 116;refine (HCX.out _).mono ?_;rintro e w6 ⟨rfl,ok⟩;have HK6:=aA (HKK.out _ _ _ _ _ _ _ HK5.out ok);obtain ⟨_,⟨⟨z0,z1,z2,z3,z4,z5,z6⟩,z7⟩,_⟩:=HK6.out;clear ok)
    |(go_at_call 117;refine (HH.out _ HK6.out.1).mono ?_;rintro e w7 ⟨rfl,ok⟩;have HK7:=aA (aB HK6.out.1 ok);clear ok))
   go_ret;exact ⟨rfl,HK7.out⟩
 · have HK3:Hid (Below w.heap.size w (set6 w2 w1.heap.size (ndB s a b c) (.slice ac 0 cc) (.slice ae 0 ce))∧BxS (set6 w2 w1.heap.size (ndB s a b c) (.slice ac 0 cc) (.slice ae 0 ce)) w.heap.size (.slice (some ⟨g,o,none⟩) n cap) p∧BxNd (set6 w2 w1.heap.size (ndB s a b c) (.slice ac 0 cc) (.slice ae 0 ce)) w1.heap.size (ndB s a b c) (.slice ac 0 cc) (.slice ae 0 ce)):=
    ⟨pX (by omega) HBZ.out.1.1,HBZ.out.1.2.set6 (by omega) _ _ _,yB HBZ.out.2.1⟩
   unfold set6 at HK3;dsimp only [ndB] at HK3;generalize (((((w2.setCell ⟨w1.heap.size,0,none⟩ (.string s)).setCell ⟨w1.heap.size,1,none⟩ (.int .i64 a)).setCell ⟨w1.heap.size,2,none⟩ (.int .i64 b)).setCell ⟨w1.heap.size,3,none⟩ (.int .i64 c)).setCell ⟨w1.heap.size,4,none⟩ (.slice ac 0 cc)).setCell ⟨w1.heap.size,5,none⟩ (.slice ae 0 ce)=W3 at*;clear x0 x1 x2 x3 x4 x5 x6 k0 k1 k2 k3 k4 k5 k6 k7 hne1 hne2 HX2 j0 j1 j2 j3 j4 j5 j6 f0 f1 f2 f3 f4 f5;obtain ⟨_,_,⟨⟨y0,y1,y2,y3,y4,y5⟩,y6⟩⟩:=HK3.out;dsimp only [ndB] at y0 y1 y2 y3
   go_wp2_with (first
    |(go_at_call 114;refine (HA.out _ _ _).mono ?_;rintro e w4 ⟨rfl,ok⟩;have HK4:=aA (HKK.out _ _ _ _ _ _ _ HK3.out ok);obtain ⟨_,_,⟨⟨y0,y1,y2,y3,y4,y5⟩,y6⟩⟩:=HK4.out;dsimp only [ndB] at y0 y1 y2 y3;clear ok)
    |(go_at_call 115;refine (HOW.out _ _ _).mono ?_;rintro e w5 ⟨rfl,ok⟩;have HK5:=aA (HKK.out _ _ _ _ _ _ _ HK4.out ok);obtain ⟨_,_,⟨⟨y0,y1,y2,y3,y4,y5⟩,y6⟩⟩:=HK5.out;dsimp only [ndB] at y0 y1 y2 y3;clear ok)
    |(go_at_call 116;refine (HCX.out _).mono ?_;rintro e w6 ⟨rfl,ok⟩;have HK6:=aA (HKK.out _ _ _ _ _ _ _ HK5.out ok);obtain ⟨_,⟨⟨z0,z1,z2,z3,z4,z5,z6⟩,z7⟩,_⟩:=HK6.out;clear ok)
    |(go_at_call 117;refine (HH.out _ HK6.out.1).mono ?_;rintro e w7 ⟨rfl,ok⟩;have HK7:=aA (aB HK6.out.1 ok);clear ok))
   go_ret;exact ⟨rfl,HK7.out⟩
end Go.Proofs.YtpfemjlhklnfoaaGreatDoor
namespace Go.Proofs.YtpfemjlhklnfoaaGreatDoor.Lo
open Go.RowKit
set_option maxRecDepth 100000
open Sc (KeepP aA aL)
def ltS (s t:ByteArray):Bool:=Op.bytesLess s.toList t.toList
def nU (q s:ByteArray):Bool:=Sc.bK s.data.toList&&ltS q s
def lF:ByteArray→List Pn→Bool
 |_,[]=>true
 |q,p::r=>nU q p.nm&&aQ p.a p.b p.c&&lF p.nm r
def lG (n:Int):ByteArray→List Eg→Bool
 |_,[]=>true
 |q,e::r=>nU q e.lb&&decide (1≤e.to)&&decide (e.to<n)&&lG n e.lb r
def dQ (L:List Pn):Bool:=decide (L.length≤128)&&lF ⟨#[]⟩ L
def bG (n:Int) (L:List Eg):Bool:=decide (L.length≤128)&&lG n ⟨#[]⟩ L
def eE (n:Nd):Bool:=decide (n.nm.size=0)&&decide (n.a=0∧n.b=0∧n.c=0)&&decide (n.cx.length=0)
def bT (n:Nd):Bool:=Sc.bK n.nm.data.toList&&aQ n.a n.b n.c&&dQ n.cx
def gN:List Nd→Bool
 |[]=>false
 |n::r=>decide (r.length+1≤128)&&eE n&&r.all bT&&(n::r).all fun m=>bG (r.length+1) m.ed
theorem nV (q s:ByteArray) (w:World):Calls Tryz.prog 164 #[.string q,.string s] w fun e w'=>e= .returned (.bool (nU q s))∧w'=w:=by
 have HN:Hid (Calls Tryz.prog 162 #[.string s] w fun e w'=>e= .returned (.bool (Sc.bK s.data.toList))∧w'=w):=Sc.iO s w;have HF:Hid (nU q s=(Sc.bK s.data.toList&&Op.bytesLess q.toList s.toList)):=rfl;cases hn:Sc.bK s.data.toList
 · rw [hn] at HN HF
   go_enter Tryz.func164,Tryz.ntmps164
   go_wp2_with (go_at_call 162;refine HN.out.mono ?_;rintro e w1 ⟨rfl,rfl⟩)
   go_ret;exact ⟨aC HF.out.symm,rfl⟩
 · rw [hn] at HN HF
   go_enter Tryz.func164,Tryz.ntmps164
   go_wp2_with (go_at_call 162;refine HN.out.mono ?_;rintro e w1 ⟨rfl,rfl⟩)
   go_ret;exact ⟨aC (by rw [HF.out];simp),rfl⟩
def BxPn (w:World) (N:Nat) (p:Pn):Prop:=(w.cell? ⟨N,0,none⟩=some (.string p.nm)∧w.cell? ⟨N,1,none⟩=some (.int .i64 p.a)∧w.cell? ⟨N,2,none⟩=some (.int .i64 p.b)∧w.cell? ⟨N,3,none⟩=some (.int .i64 p.c))∧N<w.heap.size
theorem wD (N:Nat) (p:Pn):KeepP fun w1=>BxPn w1 N p:=fun w w' h hb=>by
 obtain ⟨⟨h0,h1,h2,h3⟩,hg⟩:=h;have q:∀ i,w'.cell? ⟨N,i,none⟩=w.cell? ⟨N,i,none⟩:=fun i=>hb.cell (p:=⟨N,i,none⟩) hg
 exact ⟨⟨by rw [q];exact h0,by rw [q];exact h1,by rw [q];exact h2,by rw [q];exact h3⟩,Nat.lt_of_lt_of_le hg hb.size⟩
theorem BxPn.new {w:World} {N:Nat} (hN:w.heap.size=N) (p:Pn):BxPn (w.alloc (.cells #[.string p.nm,.int .i64 p.a,.int .i64 p.b,.int .i64 p.c] 80)) N p:=by
 subst hN;refine ⟨⟨?_,?_,?_,?_⟩,?_⟩<;>simp
def BxEg (w:World) (N:Nat) (p:Eg):Prop:=(w.cell? ⟨N,0,none⟩=some (.string p.lb)∧w.cell? ⟨N,1,none⟩=some (.int .i64 p.to))∧N<w.heap.size
theorem BxEg.new {w:World} {N:Nat} (hN:w.heap.size=N) (p:Eg):BxEg (w.alloc (.cells #[.string p.lb,.int .i64 p.to] 77)) N p:=by
 subst hN;refine ⟨⟨?_,?_⟩,?_⟩<;>simp
theorem pY {L:List Pn} (h:¬ L.length≤128):dQ L=false:=by unfold dQ;rw [decide_eq_false h];rfl
theorem pZ {n:Int} {L:List Eg} (h:¬ L.length≤128):bG n L=false:=by unfold bG;rw [decide_eq_false h];rfl
set_option maxHeartbeats 3200000 in
theorem jJ {L:List Pn} {v:Value} {w:World} (hv:PinsAt w v L):
 Calls Tryz.prog 163 #[v] w fun e w'=>e= .returned (.bool (dQ L))∧Below w.heap.size w w':=by
 have HD:Hid (∀ w',Below w.heap.size w w'→PinsAt w' v L):=fun w' hb=>hv.below hb
 obtain ⟨ad,cap,rfl⟩:=hv.sl;clear hv
 by_cases hl:L.length≤128
 · have HM:Hid (dQ L=lF ⟨#[]⟩ L):=by unfold Hid dQ;rw [decide_eq_true hl];rfl
   have hli:decide ((128:Int)<(L.length:Int))=false:=decide_eq_false (by omega)
   go_enter Tryz.func163,Tryz.ntmps163
   go_wp2
   go_loopw [3,11] (fun va vi wr=>∃ (k:Nat) (q:ByteArray),k≤L.length∧vi= .int .i64 k∧va= .string q∧Below w.heap.size w wr∧lF ⟨#[]⟩ L=lF q (L.drop k)) (fun _ i _=>L.length - (intOf i).toNat)
   case atStart=>exact ⟨0,⟨#[]⟩,Nat.zero_le _,rfl,rfl,Below.refl _ _,by rw [List.drop_zero]⟩
   case round=>
    obtain ⟨k,q,hk,rfl,rfl,hb,hst⟩:=hrel;have HB:=aA hb
    by_cases hlt:k<L.length
    · obtain ⟨ad',cap',e,_,hcs⟩:=HD.out wr hb
      cases e
      obtain ⟨g,o,rfl,hg,hcs⟩:∃ g o,ad=some ⟨g,o,none⟩∧g<wr.heap.size∧∀ i (h:i<L.length),PnIn wr g (o+i*4) L[i]:=by
       rcases hcs with h|h
       · rw [h] at hlt;simp at hlt
       · exact h
      obtain ⟨⟨c0,c1,c2,c3⟩,_⟩:=hcs k hlt
      have HST:Hid (lF ⟨#[]⟩ L=(nU q L[k].nm&&aQ L[k].a L[k].b L[k].c&&lF L[k].nm (L.drop (k+1)))):=by
       unfold Hid;rw [hst,List.drop_eq_getElem_cons hlt];rfl
      clear hcs hb hst;generalize L[k]=p at*;have HA:Hid (Below w.heap.size w (wr.alloc (.cells #[.string p.nm,.int .i64 p.a,.int .i64 p.b,.int .i64 p.c] 80))∧BxPn (wr.alloc (.cells #[.string p.nm,.int .i64 p.a,.int .i64 p.b,.int .i64 p.c] 80)) wr.heap.size p):=⟨aB HB.out (aD _ _),BxPn.new rfl _⟩;have HF:=aA (nV q p.nm);have HV:=aA (eG p.a p.b p.c);generalize nU q p.nm=bf at*;generalize aQ p.a p.b p.c=bv at*;cases bf
      · have HR:Hid (dQ L=false):=by unfold Hid;rw [HM.out,HST.out];rfl
        go_wp2_with (go_at_call 164;refine (HF.out _).mono ?_;rintro e w1 ⟨rfl,rfl⟩)
        go_ret;exact ⟨aC HR.out.symm,HA.out.1⟩
      · cases bv
        · have HR:Hid (dQ L=false):=by unfold Hid;rw [HM.out,HST.out];rfl
          go_wp2_with (first
           |(go_at_call 164;refine (HF.out _).mono ?_;rintro e w1 ⟨rfl,rfl⟩)
           |(go_at_call 97;refine (HV.out _).mono ?_;rintro e w2 ⟨rfl,ok⟩;have HA2:=aA (aB HA.out.1 ok);clear ok))
          go_ret;exact ⟨aC HR.out.symm,HA2.out⟩
        · have HR:Hid (lF ⟨#[]⟩ L=lF p.nm (L.drop (k+1))):=by unfold Hid;rw [HST.out];rfl
          go_wp2_with (first
           |(go_at_call 164;refine (HF.out _).mono ?_;rintro e w1 ⟨rfl,rfl⟩)
           |(go_at_call 97;refine (HV.out _).mono ?_;rintro e w2 ⟨rfl,ok⟩;have HA2:Hid (Below w.heap.size w w2∧BxPn w2 wr.heap.size p):=⟨aB HA.out.1 ok,wD _ _ _ _ HA.out.2 ok⟩;obtain ⟨⟨y0,y1,y2,y3⟩,y4⟩:=HA2.out.2;clear ok))
          exact ⟨⟨k+1,p.nm,by omega,by go_num,rfl,HA2.out.1,HR.out⟩,by simp [intOf];omega⟩
    · obtain rfl:k=L.length:=by omega
      rw [List.drop_length] at hst;have HR:Hid (dQ L=true):=by unfold Hid;rw [HM.out,hst];rfl
      clear hst hb
      go_wp2
      go_ret;exact ⟨aC HR.out.symm,HB.out⟩
 · have HR:=aA (pY hl)
   have hli:decide ((128:Int)<(L.length:Int))=true:=decide_eq_true (by omega)
   go_enter Tryz.func163,Tryz.ntmps163
   go_wp2
   go_ret;exact ⟨aC HR.out.symm,Below.refl _ _⟩
set_option maxHeartbeats 3200000 in
theorem fV {L:List Eg} {n:Int} {v:Value} {w:World} (hv:EdgesAt w v L):
 Calls Tryz.prog 109 #[v,.int .i64 n] w fun e w'=>e= .returned (.bool (bG n L))∧Below w.heap.size w w':=by
 have HD:Hid (∀ w',Below w.heap.size w w'→EdgesAt w' v L):=fun w' hb=>hv.below hb
 obtain ⟨ad,cap,rfl⟩:=hv.sl;clear hv
 by_cases hl:L.length≤128
 · have HM:Hid (bG n L=lG n ⟨#[]⟩ L):=by unfold Hid bG;rw [decide_eq_true hl];rfl
   have hli:decide ((128:Int)<(L.length:Int))=false:=decide_eq_false (by omega)
   go_enter Tryz.func109,Tryz.ntmps109
   go_wp2
   go_loopw [5,13] (fun va vi wr=>∃ (k:Nat) (q:ByteArray),k≤L.length∧vi= .int .i64 k∧va= .string q∧Below w.heap.size w wr∧lG n ⟨#[]⟩ L=lG n q (L.drop k)) (fun _ i _=>L.length - (intOf i).toNat)
   case atStart=>exact ⟨0,⟨#[]⟩,Nat.zero_le _,rfl,rfl,Below.refl _ _,by rw [List.drop_zero]⟩
   case round=>
    obtain ⟨k,q,hk,rfl,rfl,hb,hst⟩:=hrel;have HB:=aA hb
    by_cases hlt:k<L.length
    · obtain ⟨ad',cap',e,_,hcs⟩:=HD.out wr hb
      cases e
      obtain ⟨g,o,rfl,hg,hcs⟩:∃ g o,ad=some ⟨g,o,none⟩∧g<wr.heap.size∧∀ i (h:i<L.length),EgIn wr g (o+i*2) L[i]:=by
       rcases hcs with h|h
       · rw [h] at hlt;simp at hlt
       · exact h
      obtain ⟨⟨c0,c1⟩,_⟩:=hcs k hlt
      have HST:Hid (lG n ⟨#[]⟩ L=(nU q L[k].lb&&decide (1≤L[k].to)&&decide (L[k].to<n)&&lG n L[k].lb (L.drop (k+1)))):=by
       unfold Hid;rw [hst,List.drop_eq_getElem_cons hlt];rfl
      clear hcs hb hst;generalize L[k]=p at*;have HA:Hid (Below w.heap.size w (wr.alloc (.cells #[.string p.lb,.int .i64 p.to] 77))∧BxEg (wr.alloc (.cells #[.string p.lb,.int .i64 p.to] 77)) wr.heap.size p):=⟨aB HB.out (aD _ _),BxEg.new rfl _⟩;have HF:=aA (nV q p.lb);generalize nU q p.lb=bf at*;cases bf
      · have HR:Hid (bG n L=false):=by unfold Hid;rw [HM.out,HST.out];rfl
        go_wp2_with (go_at_call 164;refine (HF.out _).mono ?_;rintro e w1 ⟨rfl,rfl⟩)
        go_ret;exact ⟨aC HR.out.symm,HA.out.1⟩
      · by_cases h1:1≤p.to
        · have h1i:decide (p.to<1)=false:=decide_eq_false (by omega)
          by_cases h2:p.to<n
          · have h2i:decide (n≤p.to)=false:=decide_eq_false (by omega)
            have HR:Hid (lG n ⟨#[]⟩ L=lG n p.lb (L.drop (k+1))):=by unfold Hid;rw [HST.out,decide_eq_true h1,decide_eq_true h2];rfl
            go_wp2_with (go_at_call 164;refine (HF.out _).mono ?_;rintro e w1 ⟨rfl,rfl⟩)
            exact ⟨⟨k+1,p.lb,by omega,by go_num,rfl,HA.out.1,HR.out⟩,by simp [intOf];omega⟩
          · have h2i:decide (n≤p.to)=true:=decide_eq_true (by omega)
            have HR:Hid (bG n L=false):=by unfold Hid;rw [HM.out,HST.out,decide_eq_false h2];simp
            go_wp2_with (go_at_call 164;refine (HF.out _).mono ?_;rintro e w1 ⟨rfl,rfl⟩)
            go_ret;exact ⟨aC HR.out.symm,HA.out.1⟩
        · have h1i:decide (p.to<1)=true:=decide_eq_true (by omega)
          have HR:Hid (bG n L=false):=by unfold Hid;rw [HM.out,HST.out,decide_eq_false h1];simp
          go_wp2_with (go_at_call 164;refine (HF.out _).mono ?_;rintro e w1 ⟨rfl,rfl⟩)
          go_ret;exact ⟨aC HR.out.symm,HA.out.1⟩
    · obtain rfl:k=L.length:=by omega
      rw [List.drop_length] at hst;have HR:Hid (bG n L=true):=by unfold Hid;rw [HM.out,hst];rfl
      clear hst hb
      go_wp2
      go_ret;exact ⟨aC HR.out.symm,HB.out⟩
 · have HR:=aA (pZ (n:=n) hl)
   have hli:decide ((128:Int)<(L.length:Int))=true:=decide_eq_true (by omega)
   go_enter Tryz.func109,Tryz.ntmps109
   go_wp2
   go_ret;exact ⟨aC HR.out.symm,Below.refl _ _⟩
def BxNd (w:World) (N:Nat) (n:Nd) (vc ve:Value):Prop:=(w.cell? ⟨N,0,none⟩=some (.string n.nm)∧w.cell? ⟨N,1,none⟩=some (.int .i64 n.a)∧w.cell? ⟨N,2,none⟩=some (.int .i64 n.b)∧w.cell? ⟨N,3,none⟩=some (.int .i64 n.c)∧w.cell? ⟨N,4,none⟩=some vc∧w.cell? ⟨N,5,none⟩=some ve)∧N<w.heap.size
theorem aJ (N:Nat) (n:Nd) (vc ve:Value):KeepP fun w1=>BxNd w1 N n vc ve:=fun w w' h hb=>by
 obtain ⟨⟨h0,h1,h2,h3,h4,h5⟩,hg⟩:=h;have q:∀ i,w'.cell? ⟨N,i,none⟩=w.cell? ⟨N,i,none⟩:=fun i=>hb.cell (p:=⟨N,i,none⟩) hg
 exact ⟨⟨by rw [q];exact h0,by rw [q];exact h1,by rw [q];exact h2,by rw [q];exact h3,by rw [q];exact h4,by rw [q];exact h5⟩,Nat.lt_of_lt_of_le hg hb.size⟩
theorem BxNd.new {w:World} {N:Nat} (hN:w.heap.size=N) (n:Nd) (vc ve:Value):BxNd (w.alloc (.cells #[.string n.nm,.int .i64 n.a,.int .i64 n.b,.int .i64 n.c,vc,ve] 67)) N n vc ve:=by
 subst hN;refine ⟨⟨?_,?_,?_,?_,?_,?_⟩,?_⟩<;>simp
set_option maxHeartbeats 3200000 in
theorem lH {n:Nd} {vc ve:Value} {w:World} (hc:PinsAt w vc n.cx) (he:EdgesAt w ve n.ed):
 Calls Tryz.prog 108 #[.agg #[.string n.nm,.int .i64 n.a,.int .i64 n.b,.int .i64 n.c,vc,ve]] w fun e w'=>e= .returned (.bool (bT n))∧Below w.heap.size w w':=by
 have HN:=aA (Sc.iO n.nm);have HV:=aA (eG n.a n.b n.c);have HC:Hid (∀ w1,Below w.heap.size w w1→Calls Tryz.prog 163 #[vc] w1 fun e w'=>e= .returned (.bool (dQ n.cx))∧Below w1.heap.size w1 w'):=fun w1 hb=>jJ (hc.below hb)
 have HL:Hid (bT n=(Sc.bK n.nm.data.toList&&aQ n.a n.b n.c&&dQ n.cx)):=rfl;obtain ⟨ac,cc,rfl⟩:=hc.sl;obtain ⟨ae,ce,rfl⟩:=he.sl;clear hc he;have HA:Hid (Below w.heap.size w (w.alloc (.cells #[.string n.nm,.int .i64 n.a,.int .i64 n.b,.int .i64 n.c,.slice ac n.cx.length cc,.slice ae n.ed.length ce] 67))∧BxNd (w.alloc (.cells #[.string n.nm,.int .i64 n.a,.int .i64 n.b,.int .i64 n.c,.slice ac n.cx.length cc,.slice ae n.ed.length ce] 67)) w.heap.size n (.slice ac n.cx.length cc) (.slice ae n.ed.length ce)):=⟨aD _ _,BxNd.new rfl _ _ _⟩;generalize bT n=lb at*;generalize Sc.bK n.nm.data.toList=b1 at*;generalize aQ n.a n.b n.c=b2 at*;generalize dQ n.cx=b3 at*;cases b1
 · have HR:Hid (lb=false):=by unfold Hid;rw [HL.out];rfl
   go_enter Tryz.func108,Tryz.ntmps108
   go_wp2_with (go_at_call 162;refine (HN.out _).mono ?_;rintro e w1 ⟨rfl,rfl⟩)
   go_ret;exact ⟨aC HR.out.symm,HA.out.1⟩
 · cases b2
   · have HR:Hid (lb=false):=by unfold Hid;rw [HL.out];rfl
     go_enter Tryz.func108,Tryz.ntmps108
     go_wp2_with (first
      |(go_at_call 162;refine (HN.out _).mono ?_;rintro e w1 ⟨rfl,rfl⟩)
      |(go_at_call 97;refine (HV.out _).mono ?_;rintro e w2 ⟨rfl,ok⟩;have HA2:=aA (aB HA.out.1 ok);clear ok))
     go_ret;exact ⟨aC HR.out.symm,HA2.out⟩
   · have HR:Hid (lb=b3):=by unfold Hid;rw [HL.out];rfl
     go_enter Tryz.func108,Tryz.ntmps108
     go_wp2_with (first
      |(go_at_call 162;refine (HN.out _).mono ?_;rintro e w1 ⟨rfl,rfl⟩)
      |(go_at_call 97;refine (HV.out _).mono ?_;rintro e w2 ⟨rfl,ok⟩;have HA2:Hid (Below w.heap.size w w2∧BxNd w2 w.heap.size n (.slice ac n.cx.length cc) (.slice ae n.ed.length ce)):=⟨aB HA.out.1 ok,aJ _ _ _ _ _ _ HA.out.2 ok⟩;obtain ⟨⟨y0,y1,y2,y3,y4,y5⟩,y6⟩:=HA2.out.2;clear ok)
      |(go_at_call 163;refine (HC.out _ HA2.out.1).mono ?_;rintro e w3 ⟨rfl,ok⟩;have HA3:=aA (aB HA2.out.1 ok);clear ok))
     go_ret;exact ⟨aC HR.out.symm,HA3.out⟩
theorem AM (p q r p' q' r':Int) (w:World):(binOp .eql 31 (.agg #[.int .i64 p,.int .i64 q,.int .i64 r]) (.agg #[.int .i64 p',.int .i64 q',.int .i64 r'])).run Tryz.prog w= .ok (.bool (decide (p=p')&&decide (q=q')&&decide (r=r'))) w:=by
 have u3:=Tryz.underlying3;have a3:=Tryz.isAgg3;have z3:=Tryz.sizeOf3;rw [run_eql_struct,show (10000:Nat)=9999+1 from rfl,run_equalIn_agg w 9999 31 _ _ (by kernel_rfl) (by kernel_rfl)];simp only [Program.fieldsOf,Tryz.underlying31]
 by_cases h1:p=p'
 · by_cases h2:q=q'
   · by_cases h3:r=r'
     · subst h1 h2 h3;go_simp
     · subst h1 h2;simp only [h3,decide_false,Bool.and_false];go_simp
   · subst h1;simp only [h2,decide_false,Bool.and_false,Bool.false_and];go_simp
 · simp only [h1,decide_false,Bool.false_and];go_simp
set_option maxHeartbeats 3200000 in
theorem lI {n:Nd} {vc ve:Value} {w:World} (hc:PinsAt w vc n.cx) (he:EdgesAt w ve n.ed):
 Calls Tryz.prog 107 #[.agg #[.string n.nm,.int .i64 n.a,.int .i64 n.b,.int .i64 n.c,vc,ve]] w fun e w'=>e= .returned (.bool (eE n))∧Below w.heap.size w w':=by
 obtain ⟨ac,cc,rfl⟩:=hc.sl;obtain ⟨ae,ce,rfl⟩:=he.sl;clear hc he
 have HL:Hid (eE n=(n.nm.toList.isEmpty&&(decide (n.a=0)&&decide (n.b=0)&&decide (n.c=0))&&decide (n.cx.length=0))):=by
  unfold Hid eE
  have e:decide (n.nm.size=0)=n.nm.toList.isEmpty:=by
   rw [ByteArray.toList_eq,Bool.eq_iff_iff,decide_eq_true_eq,List.isEmpty_iff_length_eq_zero];rfl
  rw [e];simp only [Bool.decide_and,Bool.and_assoc]
 have hv:=AM n.a n.b n.c 0 0 0;have hgd:=hR;have HA:Hid (Below w.heap.size w (w.alloc (.cells #[.string n.nm,.int .i64 n.a,.int .i64 n.b,.int .i64 n.c,.slice ac n.cx.length cc,.slice ae n.ed.length ce] 67))):=aD _ _;generalize eE n=fb at*;generalize (decide (n.a=0)&&decide (n.b=0)&&decide (n.c=0))=xv at*;cases hx:n.nm.toList.isEmpty
 · have hx2:(n.nm.toList==[])=false:=by rw [←hx];cases n.nm.toList<;>rfl
   have HR:Hid (fb=false):=by unfold Hid;rw [HL.out,hx];rfl
   go_enter Tryz.func107,Tryz.ntmps107
   go_wp2
   go_ret;exact ⟨aC HR.out.symm,HA.out⟩
 · have hx2:(n.nm.toList==[])=true:=by rw [←hx];cases n.nm.toList<;>rfl
   cases xv
   · have HR:Hid (fb=false):=by unfold Hid;rw [HL.out,hx];rfl
     go_enter Tryz.func107,Tryz.ntmps107
     go_wp2
     go_ret;exact ⟨aC HR.out.symm,HA.out⟩
   · by_cases hl:n.cx.length=0
     · have hl2:((n.cx.length:Int)==0)=true:=by rw [hl];rfl
       have HR:Hid (fb=true):=by unfold Hid;rw [HL.out,hx,decide_eq_true hl];rfl
       clear hl
       go_enter Tryz.func107,Tryz.ntmps107
       go_wp2
       go_ret;exact ⟨aC (by first|exact HR.out.symm|(rw [HR.out];exact hl2)),HA.out⟩
     · have hl2:((n.cx.length:Int)==0)=false:=by rw [beq_eq_false_iff_ne];omega
       have HR:Hid (fb=false):=by unfold Hid;rw [HL.out,hx,decide_eq_false hl];rfl
       clear hl
       go_enter Tryz.func107,Tryz.ntmps107
       go_wp2
       go_ret;exact ⟨aC (by first|exact HR.out.symm|(rw [HR.out];exact hl2)),HA.out⟩
def BxG (w:World) (N:Nat) (v:Value):Prop:=w.cell? ⟨N,0,none⟩=some v∧N<w.heap.size
theorem aW (N:Nat) (v:Value):KeepP fun w1=>BxG w1 N v:=fun _ _ h hb=>⟨(hb.cell (p:=⟨N,0,none⟩) h.2).trans h.1,Nat.lt_of_lt_of_le h.2 hb.size⟩
theorem BxG.new {w:World} {N:Nat} (hN:w.heap.size=N) (v:Value):BxG (w.alloc (.cells #[v] 55)) N v:=by
 subst hN;exact ⟨by simp,by simp⟩
set_option maxHeartbeats 6400000 in
theorem nW {G:List Nd} {v:Value} {w:World} (h:NodesAt w v G):
 Calls Tryz.prog 59 #[.agg #[v]] w fun e w'=>e= .returned (.bool (gN G))∧Below w.heap.size w w':=by
 have HD:Hid (∀ w',Below w.heap.size w w'→NodesAt w' v G):=fun w' hb=>h.below hb
 obtain ⟨ad,cap,rfl,hcap,hcs⟩:=h;cases G with
 |nil=>
  rw [List.length_nil]
  go_enter Tryz.func59,Tryz.ntmps59
  go_wp2
  go_ret;exact ⟨rfl,aD _ _⟩
 |cons n0 r=>
  obtain ⟨g,o,rfl,hg,hcs⟩:∃ g o,ad=some ⟨g,o,none⟩∧g<w.heap.size∧∀ i (h:i<(n0::r).length),∃ vc ve,NdIn w g (o+i*6) (n0::r)[i] vc ve:=by
   rcases hcs with h|h
   · cases h
   · exact h
  have HX:Hid (∀ W,Below w.heap.size w W→∀ i (h:i<(n0::r).length),∃ vc ve,NdIn W g (o+i*6) (n0::r)[i] vc ve):=fun W hb i hi=>by obtain ⟨vc,ve,h⟩:=hcs i hi;exact ⟨vc,ve,h.below hb⟩
  obtain ⟨vc0,ve0,⟨c0,c1,c2,c3,c4,c5⟩,⟨hp0,he0⟩,_⟩:=hcs 0 (by simp);clear hcs HD;have HMG:Hid (gN (n0::r)=(decide (r.length+1≤128)&&eE n0&&r.all bT&&(n0::r).all fun m=>bG (r.length+1) m.ed)):=rfl;rw [List.length_cons] at hcap ⊢;obtain ⟨nn,hnn⟩:∃ nn,r.length+1=nn:=⟨_,rfl⟩;have HNN:=aA hnn;rw [hnn] at hcap ⊢;have hni:((r.length:Int)+1)=(nn:Int):=by omega
  rw [hni] at HMG;have HF:Hid (∀ W,Below w.heap.size w W→Calls Tryz.prog 107 #[.agg #[.string n0.nm,.int .i64 n0.a,.int .i64 n0.b,.int .i64 n0.c,vc0,ve0]] W fun e w'=>e= .returned (.bool (eE n0))∧Below W.heap.size W w'):=fun W hb=>lI (hp0.below hb) (he0.below hb)
  obtain ⟨ac0,cc0,rfl⟩:=hp0.sl;obtain ⟨ae0,ce0,rfl⟩:=he0.sl;have HB0:Hid (Below w.heap.size w (w.alloc (.cells #[.slice (some ⟨g,o,none⟩) nn cap] 55))∧BxG (w.alloc (.cells #[.slice (some ⟨g,o,none⟩) nn cap] 55)) w.heap.size (.slice (some ⟨g,o,none⟩) nn cap)):=⟨aD _ _,BxG.new rfl _⟩;have HKB:Hid (KeepP fun W=>Below w.heap.size w W∧BxG W w.heap.size (.slice (some ⟨g,o,none⟩) nn cap)):=(aL w).and (aW _ _);have lift:∀ i v,w.cell? ⟨g,i,none⟩=some v→(w.alloc (.cells #[.slice (some ⟨g,o,none⟩) nn cap] 55)).cell? ⟨g,i,none⟩=some v:=fun i v h=>((aD w _).cell (p:=⟨g,i,none⟩) hg).trans h
  simp only [Nat.zero_mul,Nat.add_zero,List.getElem_cons_zero] at c0 c1 c2 c3 c4 c5;have k0:=lift _ _ c0;have k1:=lift _ _ c1;have k2:=lift _ _ c2;have k3:=lift _ _ c3;have k4:=lift _ _ c4;have k5:=lift _ _ c5;have hn0:((nn:Int)==0)=false:=by rw [beq_eq_false_iff_ne];omega
  have hn1:(0:Int)<(nn:Int):=by omega
  have hn2:0<nn:=by omega
  clear c0 c1 c2 c3 c4 c5 lift hp0 he0
  by_cases hbig:nn≤128
  · have hb128:decide ((128:Int)<(nn:Int))=false:=decide_eq_false (by omega)
    cases hfb:eE n0
    · have HR:Hid (gN (n0::r)=false):=by unfold Hid;rw [HMG.out,hfb];simp
      rw [hfb] at HF;clear hnn hni HMG
      go_enter Tryz.func59,Tryz.ntmps59
      go_wp2_with (go_at_call 107;refine (HF.out _ HB0.out.1).mono ?_;rintro e w1 ⟨rfl,ok⟩;have HB1:=aA (aB HB0.out.1 ok);clear ok)
      go_ret;exact ⟨aC HR.out.symm,HB1.out⟩
    · have HM2:Hid (gN (n0::r)=(r.all bT&&(n0::r).all fun m=>bG nn m.ed)):=by unfold Hid;rw [HMG.out,hfb,decide_eq_true (by omega)];simp
      rw [hfb] at HF;clear HMG hni
      by_cases hcap1:cap=1
      · subst hcap1
        have hr00:r.length≤0:=by omega
        have hc1:(1:Int)≤(nn:Int):=by omega
        have hc2:(nn:Int)≤1:=by omega
        have hrl:((nn:Int) - 1)=(r.length:Int):=by omega
        have hrn:nn - 1=r.length:=by omega
        clear hnn
        go_enter Tryz.func59,Tryz.ntmps59
        go_wp2_with (go_at_call 107;refine (HF.out _ HB0.out.1).mono ?_;rintro e w1 ⟨rfl,ok⟩;have HB1:=aA (HKB.out _ _ HB0.out ok);obtain ⟨y0,y1⟩:=HB1.out.2;clear ok)
        go_loopw [29] (fun i wr=>∃ k:Nat,k≤r.length∧i= .int .i64 k∧(Below w.heap.size w wr∧BxG wr w.heap.size (.slice (some ⟨g,o,none⟩) nn 1))∧(r.take k).all bT=true) (fun i _=>r.length - (intOf i).toNat)
        case atStart=>exact ⟨0,Nat.zero_le _,rfl,HB1.out,rfl⟩
        case round=>
         obtain ⟨k,hk,rfl,hbw,hall⟩:=hrel;have HBW:=aA hbw;clear y0 y1;obtain ⟨y0,y1⟩:=hbw.2
         by_cases hlt:k<r.length
         · exact absurd hlt (by omega)
         · obtain rfl:k=r.length:=by omega
           have HAL:Hid (r.all bT=true):=by rw [List.take_length] at hall;exact hall
           have HBL:=aA hbw;have hki:¬ ((r.length:Int)<(r.length:Int)):=by omega
           clear hall hbw
           go_wp2_with fail
           go_loopw [40] (fun i wr=>∃ k:Nat,k≤nn∧i= .int .i64 k∧(Below w.heap.size w wr∧BxG wr w.heap.size (.slice (some ⟨g,o,none⟩) nn 1))∧((n0::r).take k).all (fun m=>bG nn m.ed)=true) (fun i _=>nn - (intOf i).toNat)
           case atStart=>exact ⟨0,Nat.zero_le _,rfl,HBL.out,rfl⟩
           case round=>
            obtain ⟨k,hk,rfl,hbw,hall⟩:=hrel;have HBW:=aA hbw
            by_cases hlt:k<nn
            · have hki:(k:Int)<(nn:Int):=by omega
              have hkG:k<(n0::r).length:=by rw [List.length_cons];have:=HNN.out;omega
              obtain ⟨vc,ve,⟨d0,d1,d2,d3,d4,d5⟩,⟨hpk,hek⟩,_⟩:=HX.out _ hbw.1 k hkG;have HE:Hid (∀ W,Below wr.heap.size wr W→Calls Tryz.prog 109 #[ve,.int .i64 (nn:Int)] W fun e w'=>e= .returned (.bool (bG nn (n0::r)[k].ed))∧Below W.heap.size W w'):=fun W hb=>fV (hek.below hb)
              have HT:Hid (((n0::r).take (k+1)).all (fun m=>bG nn m.ed)=bG nn (n0::r)[k].ed):=by
               unfold Hid;rw [List.take_succ_eq_append_getElem hkG,List.all_append,hall]
               simp
              have HT2:Hid (bG nn (n0::r)[k].ed=false→((n0::r).all fun m=>bG nn m.ed)=false):=fun hf=>by
               rw [List.all_eq_false];exact ⟨_,List.getElem_mem hkG,by rw [hf];simp⟩
              obtain ⟨ac,cc,rfl⟩:=hpk.sl;obtain ⟨ae,ce,rfl⟩:=hek.sl;clear hall hbw hpk hek;generalize (n0::r)[k]=m at*;have HA:Hid ((Below w.heap.size w (wr.alloc (.cells #[.string m.nm,.int .i64 m.a,.int .i64 m.b,.int .i64 m.c,.slice ac m.cx.length cc,.slice ae m.ed.length ce] 67))∧BxG (wr.alloc (.cells #[.string m.nm,.int .i64 m.a,.int .i64 m.b,.int .i64 m.c,.slice ac m.cx.length cc,.slice ae m.ed.length ce] 67)) w.heap.size (.slice (some ⟨g,o,none⟩) nn 1))∧BxNd (wr.alloc (.cells #[.string m.nm,.int .i64 m.a,.int .i64 m.b,.int .i64 m.c,.slice ac m.cx.length cc,.slice ae m.ed.length ce] 67)) wr.heap.size m (.slice ac m.cx.length cc) (.slice ae m.ed.length ce)):=⟨HKB.out _ _ HBW.out (aD _ _),BxNd.new rfl _ _ _⟩;cases hme:bG nn m.ed
              · have HR:Hid (gN (n0::r)=false):=by unfold Hid;rw [HM2.out,HT2.out hme];simp
                rw [hme] at HE
                go_wp2_with (go_at_call 109;refine (HE.out _ (aD _ _)).mono ?_;rintro e w5 ⟨rfl,ok⟩;have HB5:=aA (aB HA.out.1.1 ok);clear ok)
                go_ret;exact ⟨aC HR.out.symm,HB5.out⟩
              · rw [hme] at HE HT
                go_wp2_with (go_at_call 109;refine (HE.out _ (aD _ _)).mono ?_;rintro e w5 ⟨rfl,ok⟩;have HB5:=aA (HKB.out _ _ HA.out.1 ok);clear ok)
                exact ⟨⟨k+1,by omega,by go_num,HB5.out,HT.out⟩,by simp [intOf];omega⟩
            · obtain rfl:k=nn:=by omega
              have HR:Hid (gN (n0::r)=true):=by
               unfold Hid;have hz:k=(n0::r).length:=by rw [List.length_cons];have:=HNN.out;omega
               rw [HM2.out,HAL.out];rw [hz,List.take_length] at hall;rw [←hz] at hall;exact hall
              clear hall hbw
              go_wp2
              go_ret;exact ⟨aC HR.out.symm,HBW.out.1⟩
      · have hc1:(1:Int)≤(nn:Int):=by omega
        have hc2:(nn:Int)≤(cap:Int):=by omega
        have hrl:((nn:Int) - 1)=(r.length:Int):=by omega
        have hrn:nn - 1=r.length:=by omega
        clear hnn
        go_enter Tryz.func59,Tryz.ntmps59
        go_wp2_with (go_at_call 107;refine (HF.out _ HB0.out.1).mono ?_;rintro e w1 ⟨rfl,ok⟩;have HB1:=aA (HKB.out _ _ HB0.out ok);obtain ⟨y0,y1⟩:=HB1.out.2;clear ok)
        go_loopw [29] (fun i wr=>∃ k:Nat,k≤r.length∧i= .int .i64 k∧(Below w.heap.size w wr∧BxG wr w.heap.size (.slice (some ⟨g,o,none⟩) nn cap))∧(r.take k).all bT=true) (fun i _=>r.length - (intOf i).toNat)
        case atStart=>exact ⟨0,Nat.zero_le _,rfl,HB1.out,rfl⟩
        case round=>
         obtain ⟨k,hk,rfl,hbw,hall⟩:=hrel;have HBW:=aA hbw;clear y0 y1;obtain ⟨y0,y1⟩:=hbw.2
         by_cases hlt:k<r.length
         · have hki:(k:Int)<(r.length:Int):=by omega
           obtain ⟨vc,ve,hnd⟩:=HX.out _ hbw.1 (k+1) (by simp;omega);rw [show o+(k+1)*6=o+6+k*6 by omega,List.getElem_cons_succ] at hnd;obtain ⟨⟨d0,d1,d2,d3,d4,d5⟩,⟨hpk,hek⟩,_⟩:=hnd;have HE:Hid (∀ W,Below wr.heap.size wr W→Calls Tryz.prog 108 #[.agg #[.string r[k].nm,.int .i64 r[k].a,.int .i64 r[k].b,.int .i64 r[k].c,vc,ve]] W fun e w'=>e= .returned (.bool (bT r[k]))∧Below W.heap.size W w'):=fun W hb=>lH (hpk.below hb) (hek.below hb)
           have HT:Hid ((r.take (k+1)).all bT=bT r[k]):=by
            unfold Hid;rw [List.take_succ_eq_append_getElem hlt,List.all_append,hall]
            simp
           have HT2:Hid (bT r[k]=false→r.all bT=false):=fun hf=>by
            rw [List.all_eq_false];exact ⟨_,List.getElem_mem hlt,by rw [hf];simp⟩
           obtain ⟨ac,cc,rfl⟩:=hpk.sl;obtain ⟨ae,ce,rfl⟩:=hek.sl;clear hall hbw hpk hek;generalize r[k]=m at*;have HA:Hid ((Below w.heap.size w (wr.alloc (.cells #[.string m.nm,.int .i64 m.a,.int .i64 m.b,.int .i64 m.c,.slice ac m.cx.length cc,.slice ae m.ed.length ce] 67))∧BxG (wr.alloc (.cells #[.string m.nm,.int .i64 m.a,.int .i64 m.b,.int .i64 m.c,.slice ac m.cx.length cc,.slice ae m.ed.length ce] 67)) w.heap.size (.slice (some ⟨g,o,none⟩) nn cap))∧BxNd (wr.alloc (.cells #[.string m.nm,.int .i64 m.a,.int .i64 m.b,.int .i64 m.c,.slice ac m.cx.length cc,.slice ae m.ed.length ce] 67)) wr.heap.size m (.slice ac m.cx.length cc) (.slice ae m.ed.length ce)):=⟨HKB.out _ _ HBW.out (aD _ _),BxNd.new rfl _ _ _⟩;cases hme:bT m
           · have HR:Hid (gN (n0::r)=false):=by unfold Hid;rw [HM2.out,HT2.out hme];rfl
             rw [hme] at HE
             go_wp2_with (go_at_call 108;refine (HE.out _ (aD _ _)).mono ?_;rintro e w5 ⟨rfl,ok⟩;have HB5:=aA (aB HA.out.1.1 ok);clear ok)
             go_ret;exact ⟨aC HR.out.symm,HB5.out⟩
           · rw [hme] at HE HT
             go_wp2_with (go_at_call 108;refine (HE.out _ (aD _ _)).mono ?_;rintro e w5 ⟨rfl,ok⟩;have HB5:=aA (HKB.out _ _ HA.out.1 ok);clear ok)
             exact ⟨⟨k+1,by omega,by go_num,HB5.out,HT.out⟩,by simp [intOf];omega⟩
         · obtain rfl:k=r.length:=by omega
           have HAL:Hid (r.all bT=true):=by rw [List.take_length] at hall;exact hall
           have HBL:=aA hbw;have hki:¬ ((r.length:Int)<(r.length:Int)):=by omega
           clear hall hbw
           go_wp2_with fail
           go_loopw [40] (fun i wr=>∃ k:Nat,k≤nn∧i= .int .i64 k∧(Below w.heap.size w wr∧BxG wr w.heap.size (.slice (some ⟨g,o,none⟩) nn cap))∧((n0::r).take k).all (fun m=>bG nn m.ed)=true) (fun i _=>nn - (intOf i).toNat)
           case atStart=>exact ⟨0,Nat.zero_le _,rfl,HBL.out,rfl⟩
           case round=>
            obtain ⟨k,hk,rfl,hbw,hall⟩:=hrel;have HBW:=aA hbw
            by_cases hlt:k<nn
            · have hki:(k:Int)<(nn:Int):=by omega
              have hkG:k<(n0::r).length:=by rw [List.length_cons];have:=HNN.out;omega
              obtain ⟨vc,ve,⟨d0,d1,d2,d3,d4,d5⟩,⟨hpk,hek⟩,_⟩:=HX.out _ hbw.1 k hkG;have HE:Hid (∀ W,Below wr.heap.size wr W→Calls Tryz.prog 109 #[ve,.int .i64 (nn:Int)] W fun e w'=>e= .returned (.bool (bG nn (n0::r)[k].ed))∧Below W.heap.size W w'):=fun W hb=>fV (hek.below hb)
              have HT:Hid (((n0::r).take (k+1)).all (fun m=>bG nn m.ed)=bG nn (n0::r)[k].ed):=by
               unfold Hid;rw [List.take_succ_eq_append_getElem hkG,List.all_append,hall]
               simp
              have HT2:Hid (bG nn (n0::r)[k].ed=false→((n0::r).all fun m=>bG nn m.ed)=false):=fun hf=>by
               rw [List.all_eq_false];exact ⟨_,List.getElem_mem hkG,by rw [hf];simp⟩
              obtain ⟨ac,cc,rfl⟩:=hpk.sl;obtain ⟨ae,ce,rfl⟩:=hek.sl;clear hall hbw hpk hek;generalize (n0::r)[k]=m at*;have HA:Hid ((Below w.heap.size w (wr.alloc (.cells #[.string m.nm,.int .i64 m.a,.int .i64 m.b,.int .i64 m.c,.slice ac m.cx.length cc,.slice ae m.ed.length ce] 67))∧BxG (wr.alloc (.cells #[.string m.nm,.int .i64 m.a,.int .i64 m.b,.int .i64 m.c,.slice ac m.cx.length cc,.slice ae m.ed.length ce] 67)) w.heap.size (.slice (some ⟨g,o,none⟩) nn cap))∧BxNd (wr.alloc (.cells #[.string m.nm,.int .i64 m.a,.int .i64 m.b,.int .i64 m.c,.slice ac m.cx.length cc,.slice ae m.ed.length ce] 67)) wr.heap.size m (.slice ac m.cx.length cc) (.slice ae m.ed.length ce)):=⟨HKB.out _ _ HBW.out (aD _ _),BxNd.new rfl _ _ _⟩;cases hme:bG nn m.ed
              · have HR:Hid (gN (n0::r)=false):=by unfold Hid;rw [HM2.out,HT2.out hme];simp
                rw [hme] at HE
                go_wp2_with (go_at_call 109;refine (HE.out _ (aD _ _)).mono ?_;rintro e w5 ⟨rfl,ok⟩;have HB5:=aA (aB HA.out.1.1 ok);clear ok)
                go_ret;exact ⟨aC HR.out.symm,HB5.out⟩
              · rw [hme] at HE HT
                go_wp2_with (go_at_call 109;refine (HE.out _ (aD _ _)).mono ?_;rintro e w5 ⟨rfl,ok⟩;have HB5:=aA (HKB.out _ _ HA.out.1 ok);clear ok)
                exact ⟨⟨k+1,by omega,by go_num,HB5.out,HT.out⟩,by simp [intOf];omega⟩
            · obtain rfl:k=nn:=by omega
              have HR:Hid (gN (n0::r)=true):=by
               unfold Hid;have hz:k=(n0::r).length:=by rw [List.length_cons];have:=HNN.out;omega
               rw [HM2.out,HAL.out];rw [hz,List.take_length] at hall;rw [←hz] at hall;exact hall
              clear hall hbw
              go_wp2
              go_ret;exact ⟨aC HR.out.symm,HBW.out.1⟩
  · have hb128:decide ((128:Int)<(nn:Int))=true:=decide_eq_true (by omega)
    have HR:Hid (gN (n0::r)=false):=by unfold Hid;rw [HMG.out,decide_eq_false (by omega)];rfl
    clear hnn hni HMG
    go_enter Tryz.func59,Tryz.ntmps59
    go_wp2
    go_ret;exact ⟨aC HR.out.symm,HB0.out.1⟩
end Go.Proofs.YtpfemjlhklnfoaaGreatDoor.Lo
