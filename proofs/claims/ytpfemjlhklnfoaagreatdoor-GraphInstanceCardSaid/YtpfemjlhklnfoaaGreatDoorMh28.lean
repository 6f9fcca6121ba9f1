/- Gl3: their declarations that are needed, laid in one text, remarks and blanks left out. -/
import Derived.Test.YtpfemjlhklnfoaaGreatDoorMh24
namespace Go.Proofs.YtpfemjlhklnfoaaGreatDoor
open Go.Shelf Go.RowKit Go.Maps Go.WideMaps
set_option maxRecDepth 100000
def BxNF (w:World) (N:Nat) (n:Nd) (vc ve:Value):Prop:=BxNd w N n vc ve∧∀ i,i<6→w.frozen? ⟨N,i,none⟩=false
theorem kQ (N:Nat) (n:Nd) (vc ve:Value):KeepP fun w1=>BxNF w1 N n vc ve:=fun _ _ h hb=>⟨aZ _ _ _ _ _ _ h.1 hb,fun i hi=>(hb.frozen (p:=⟨N,i,none⟩) h.1.2).trans (h.2 i hi)⟩
theorem BxNF.new {w:World} {N:Nat} (hN:w.heap.size=N) (n:Nd) (vc ve:Value):BxNF (w.alloc (.cells #[.string n.nm,.int .i64 n.a,.int .i64 n.b,.int .i64 n.c,vc,ve] 67)) N n vc ve:=by
 refine ⟨BxNd.new hN n vc ve,fun i hi=> ?_⟩;subst hN
 simp
theorem aS {w:World} {N i j:Nat} {u x:Value} (h:i≠j) (hx:w.cell? ⟨N,j,none⟩=some x):(w.setCell ⟨N,i,none⟩ u).cell? ⟨N,j,none⟩=some x:=(World.cell?_setCell_other _ _ _ _ (fun e=>by cases e;exact h rfl)).trans hx
def set6 (w:World) (N:Nat) (n:Nd) (vc ve:Value):World:=(((((w.setCell ⟨N,0,none⟩ (.string n.nm)).setCell ⟨N,1,none⟩ (.int .i64 n.a)).setCell ⟨N,2,none⟩ (.int .i64 n.b)).setCell ⟨N,3,none⟩ (.int .i64 n.c)).setCell ⟨N,4,none⟩ vc).setCell ⟨N,5,none⟩ ve
theorem AC {w:World} {N:Nat} {m n:Nd} {uc ue vc ve:Value} (h:BxNd w N m uc ue):BxNd (set6 w N n vc ve) N n vc ve:=by
 obtain ⟨⟨j0,j1,j2,j3,j4,j5⟩,hN⟩:=h;refine ⟨⟨?_,?_,?_,?_,?_,?_⟩,by unfold set6;simp;exact hN⟩
 · exact aS (by decide) (aS (by decide) (aS (by decide) (aS (by decide) (aS (by decide) (World.cell?_setCell_same _ _ _ j0)))))
 · exact aS (by decide) (aS (by decide) (aS (by decide) (aS (by decide) (World.cell?_setCell_same _ _ _ (aS (by decide) j1)))))
 · exact aS (by decide) (aS (by decide) (aS (by decide) (World.cell?_setCell_same _ _ _ (aS (by decide) (aS (by decide) j2)))))
 · exact aS (by decide) (aS (by decide) (World.cell?_setCell_same _ _ _ (aS (by decide) (aS (by decide) (aS (by decide) j3)))))
 · exact aS (by decide) (World.cell?_setCell_same _ _ _ (aS (by decide) (aS (by decide) (aS (by decide) (aS (by decide) j4)))))
 · exact World.cell?_setCell_same _ _ _ (aS (by decide) (aS (by decide) (aS (by decide) (aS (by decide) (aS (by decide) j5)))))
theorem jL {w w':World} {N B:Nat} {n:Nd} {vc ve:Value} (hN:B≤N) (h:Below B w w'):Below B w (set6 w' N n vc ve):=
 (((((h.setCell (p:=⟨N,0,none⟩) hN _).setCell (p:=⟨N,1,none⟩) hN _).setCell (p:=⟨N,2,none⟩) hN _).setCell (p:=⟨N,3,none⟩) hN _).setCell (p:=⟨N,4,none⟩) hN _).setCell (p:=⟨N,5,none⟩) hN _
theorem vO {w:World} {N M:Nat} (h:N≠M) (n:Nd) (vc ve:Value) (i:Nat):(set6 w N n vc ve).cell? ⟨M,i,none⟩=w.cell? ⟨M,i,none⟩:=by
 have q:∀ (w':World) (j:Nat) (u:Value),(w'.setCell ⟨N,j,none⟩ u).cell? ⟨M,i,none⟩=w'.cell? ⟨M,i,none⟩:=fun w' j u=>World.cell?_setCell_other _ _ _ _ (fun e=>by cases e;exact h rfl)
 unfold set6;rw [q,q,q,q,q,q]
theorem BxS.set6 {w:World} {N M:Nat} {v:Value} {p:Option Addr} (hb:BxS w M v p) (h:N≠M) (n:Nd) (vc ve:Value):BxS (set6 w N n vc ve) M v p:=by
 obtain ⟨⟨h0,h1,h2,h3,h4,h5,h6⟩,hg⟩:=hb;refine ⟨⟨?_,?_,?_,?_,?_,?_,?_⟩,?_⟩
 case refine_8=>unfold Go.Proofs.YtpfemjlhklnfoaaGreatDoor.set6;simp;exact hg
 all_goals rw [vO h]
 all_goals assumption
set_option maxHeartbeats 1600000 in
theorem vP {s:ByteArray} {a b c:Int} {g o n cap:Nat} {p:Option Addr} {ac ae al:Option Addr} {cc ce cl:Nat} {w:World} (hx:NdIn w g o (ndB s a b c) (.slice ac 0 cc) (.slice ae 0 ce)) (hn:0<n):
 Calls Tryz.prog 117 #[.agg #[.slice (some ⟨g,o,none⟩) n cap,.pointer p,.slice none 0 0,.slice none 0 0,.slice none 0 0,.slice none 0 0,.bool true],.int .i64 0,.slice al 0 cl] w fun e w'=>e= .returned (.bool true)∧Below w.heap.size w w':=by
 have HB:Hid (Below w.heap.size w ((w.alloc (.cells #[.slice (some ⟨g,o,none⟩) n cap,.pointer p,.slice none 0 0,.slice none 0 0,.slice none 0 0,.slice none 0 0,.bool true] 109)).alloc (.cells #[.string s,.int .i64 a,.int .i64 b,.int .i64 c,.slice ac 0 cc,.slice ae 0 ce] 67))∧BxNd ((w.alloc (.cells #[.slice (some ⟨g,o,none⟩) n cap,.pointer p,.slice none 0 0,.slice none 0 0,.slice none 0 0,.slice none 0 0,.bool true] 109)).alloc (.cells #[.string s,.int .i64 a,.int .i64 b,.int .i64 c,.slice ac 0 cc,.slice ae 0 ce] 67)) (w.heap.size+1) (ndB s a b c) (.slice ac 0 cc) (.slice ae 0 ce)):=⟨aR _ _ _,BxNd.new (by simp) (ndB s a b c) _ _⟩
 have HCN:Hid (Calls Tryz.prog 172 #[.slice (some ⟨w.heap.size+2,0,none⟩) 2 2] (((w.alloc (.cells #[.slice (some ⟨g,o,none⟩) n cap,.pointer p,.slice none 0 0,.slice none 0 0,.slice none 0 0,.slice none 0 0,.bool true] 109)).alloc (.cells #[.string s,.int .i64 a,.int .i64 b,.int .i64 c,.slice ac 0 cc,.slice ae 0 ce] 67)).alloc (.cells #[.slice ac 0 cc,.slice al 0 cl] 40)) fun e w'=>(∃ ad c,e= .returned (.slice ad 0 c))∧Below w.heap.size w w'∧BxNd w' (w.heap.size+1) (ndB s a b c) (.slice ac 0 cc) (.slice ae 0 ce)):=by
  have key:∀ W:World,W.heap.size=w.heap.size+2→Below w.heap.size w W→BxNd W (w.heap.size+1) (ndB s a b c) (.slice ac 0 cc) (.slice ae 0 ce)→Calls Tryz.prog 172 #[.slice (some ⟨w.heap.size+2,0,none⟩) 2 2] (W.alloc (.cells #[.slice ac 0 cc,.slice al 0 cl] 40)) fun e w'=>(∃ ad c,e= .returned (.slice ad 0 c))∧Below w.heap.size w w'∧BxNd w' (w.heap.size+1) (ndB s a b c) (.slice ac 0 cc) (.slice ae 0 ce):=fun W hs h1 h2=>by
   have e0:(W.alloc (.cells #[.slice ac 0 cc,.slice al 0 cl] 40)).cell? ⟨w.heap.size+2,0,none⟩=some (.slice ac 0 cc):=by rw [←hs];simp
   have e1:(W.alloc (.cells #[.slice ac 0 cc,.slice al 0 cl] 40)).cell? ⟨w.heap.size+2,1,none⟩=some (.slice al 0 cl):=by rw [←hs];simp
   refine (DF e0 e1).mono ?_;rintro e w' ⟨ad,c,rfl,hb⟩;exact ⟨⟨ad,c,rfl⟩,aB (aB h1 (aD _ _)) hb,aZ _ _ _ _ _ _ (aZ _ _ _ _ _ _ h2 (aD _ _)) hb⟩
  exact key _ (by simp) HB.out.1 HB.out.2
 have HX:=aA (hx.below (aD w (.cells #[.slice (some ⟨g,o,none⟩) n cap,.pointer p,.slice none 0 0,.slice none 0 0,.slice none 0 0,.slice none 0 0,.bool true] 109)));obtain ⟨⟨x0,x1,x2,x3,x4,x5⟩,_,x6⟩:=HX.out;obtain ⟨⟨q0,q1,q2,q3,q4,q5⟩,q6⟩:=HB.out.2;have hni:(0:Int)<(n:Int):=by omega
 clear hx HX
 go_enter Tryz.func117,Tryz.ntmps117
 go_wp2_with (go_at_call 172;refine HCN.out.mono ?_;rintro e w1 ⟨⟨ad,c1,rfl⟩,hb,⟨k0,k1,k2,k3,k4,k5⟩,k6⟩;have HB1:=aA hb;clear hb)
 clear x0 x1 x2 x3 x4 x5 x6 q0 q1 q2 q3 q4 q5 q6 k0 k1 k2 k3 k4 k5 k6
 go_loopw [26] (fun i wr=>i= .int .i64 0∧Below w.heap.size w wr) (fun _ _=>0)
 case atStart=>exact ⟨rfl,HB1.out⟩
 case round=>
  clear HB1;obtain ⟨rfl,hb⟩:=hrel;have HB2:=aA hb;clear hb
  go_wp2
  go_ret;exact ⟨rfl,HB2.out⟩
set_option maxHeartbeats 6400000 in
theorem DN {s:ByteArray} {a b c:Int} {g o n cap:Nat} {p:Option Addr} {ac ae:Option Addr} {cc ce:Nat} {w:World} (hx:NdIn w g o (ndB s a b c) (.slice ac 0 cc) (.slice ae 0 ce)) (hn:0<n):
 Calls Tryz.prog 62 #[.agg #[.slice (some ⟨g,o,none⟩) n cap,.pointer p,.slice none 0 0,.slice none 0 0,.slice none 0 0,.slice none 0 0,.bool true],.int .i64 0] w fun e w'=>e= .returned (.bool true)∧Below w.heap.size w w':=by
 have HW:Hid (∀ w1,Calls Tryz.prog 112 #[.agg #[.slice (some ⟨g,o,none⟩) n cap,.pointer p,.slice none 0 0,.slice none 0 0,.slice none 0 0,.slice none 0 0,.bool true],.int .i64 0] w1 fun e w'=>∃ ad c,e= .returned (.tuple #[.slice ad 0 c,.bool true])∧Below w1.heap.size w1 w'):=fun w1=>xT ⟨_,_,_,rfl⟩
 have HL:Hid (∀ w1,Below w.heap.size w w1→Calls Tryz.prog 113 #[.agg #[.slice (some ⟨g,o,none⟩) n cap,.pointer p,.slice none 0 0,.slice none 0 0,.slice none 0 0,.slice none 0 0,.bool true],.int .i64 0] w1 fun e w'=>e= .returned (.slice none 0 0)∧Below w1.heap.size w1 w'):=fun w1 hb=>NC (hx.below hb) hn
 have HH:Hid (∀ w1,Below w.heap.size w w1→Calls Tryz.prog 117 #[.agg #[.slice (some ⟨g,o,none⟩) n cap,.pointer p,.slice none 0 0,.slice none 0 0,.slice none 0 0,.slice none 0 0,.bool true],.int .i64 0,.slice none 0 0] w1 fun e w'=>e= .returned (.bool true)∧Below w1.heap.size w1 w'):=fun w1 hb=>vP (hx.below hb) hn
 have HA:=aA (fun (ao:Option Addr) (co:Nat) (w1:World)=>sK (s:=s) (a:=a) (b:=b) (c:=c) (ac:=ac) (ae:=ae) (ao:=ao) (cc:=cc) (ce:=ce) (co:=co) (w:=w1));have HOW:=aA (fun (ao:Option Addr) (co:Nat) (w1:World)=>CR (al:=none) (cl:=0) (ao:=ao) (co:=co) (w:=w1));have HCX:=aA (fun (w1:World)=>pI (s:=s) (a:=a) (b:=b) (c:=c) (ac:=ac) (ae:=ae) (al:=none) (cc:=cc) (ce:=ce) (kl:=0) (cl:=0) (w:=w1));have HX:Hid (∀ w1,Below w.heap.size w w1→NdIn w1 g o (ndB s a b c) (.slice ac 0 cc) (.slice ae 0 ce)):=fun w1 hb=>hx.below hb
 have hni:(0:Int)<(n:Int):=by omega
 have HB0:Hid (Below w.heap.size w (w.alloc (.cells #[.slice (some ⟨g,o,none⟩) n cap,.pointer p,.slice none 0 0,.slice none 0 0,.slice none 0 0,.slice none 0 0,.bool true] 109))∧BxS (w.alloc (.cells #[.slice (some ⟨g,o,none⟩) n cap,.pointer p,.slice none 0 0,.slice none 0 0,.slice none 0 0,.slice none 0 0,.bool true] 109)) w.heap.size (.slice (some ⟨g,o,none⟩) n cap) p):=⟨aD _ _,BxS.new rfl _ _⟩;have HKK:Hid (∀ N sa a' b' c',KeepP fun w1=>Below w.heap.size w w1∧BxS w1 w.heap.size (.slice (some ⟨g,o,none⟩) n cap) p∧BxNd w1 N (ndB sa a' b' c') (.slice ac 0 cc) (.slice ae 0 ce)):=fun N sa a' b' c'=>(aG w).and ((eN _ _ _).and (aZ _ _ _ _))
 clear hx
 go_enter Tryz.func62,Tryz.ntmps62
 go_wp2_with (go_at_call 112;refine (HW.out _).mono ?_;rintro e w1 ⟨ao,co,rfl,ok⟩;have HB1:Hid (Below w.heap.size w w1∧BxS w1 w.heap.size (.slice (some ⟨g,o,none⟩) n cap) p):=⟨aB HB0.out.1 ok,eN _ _ _ _ _ HB0.out.2 ok⟩;clear ok)
 obtain ⟨⟨x0,x1,x2,x3,x4,x5⟩,_,x6⟩:=HX.out w1 HB1.out.1;dsimp only [ndB] at x0 x1 x2 x3;obtain ⟨_,⟨k0,k1,k2,k3,k4,k5,k6⟩,k7⟩:=HB1.out;have hn0:(0:Int)≤0:=Int.le_refl 0
 have HZ:Hid ((Below w.heap.size w (w1.alloc (.cells #[.string ⟨#[]⟩,.int .i64 0,.int .i64 0,.int .i64 0,.slice none 0 0,.slice none 0 0] 67)).drew∧BxS (w1.alloc (.cells #[.string ⟨#[]⟩,.int .i64 0,.int .i64 0,.int .i64 0,.slice none 0 0,.slice none 0 0] 67)).drew w.heap.size (.slice (some ⟨g,o,none⟩) n cap) p)∧BxNF (w1.alloc (.cells #[.string ⟨#[]⟩,.int .i64 0,.int .i64 0,.int .i64 0,.slice none 0 0,.slice none 0 0] 67)).drew w1.heap.size (ndB ⟨#[]⟩ 0 0 0) (.slice none 0 0) (.slice none 0 0)):=
  ⟨⟨(aB HB1.out.1 (aD _ _)).drew,KeepP.drew (eN _ _ _) (eN _ _ _ _ _ HB1.out.2 (aD _ _))⟩,KeepP.drew (kQ _ _ _ _) (BxNF.new rfl (ndB ⟨#[]⟩ 0 0 0) _ _)⟩
 have hw1:w.heap.size<w1.heap.size:=HB1.out.2.2;have hne1:w1.heap.size≠w.heap.size:=by omega
 have hne2:w1.heap.size≠g:=by omega
 go_region_held3 (fun w'=>w'.cell? ⟨w.heap.size,0,none⟩=some (.slice (some ⟨g,o,none⟩) n cap)∧w'.cell? ⟨w.heap.size,1,none⟩=some (.pointer p)∧w'.cell? ⟨w.heap.size,2,none⟩=some (.slice none 0 0)∧w'.cell? ⟨w.heap.size,3,none⟩=some (.slice none 0 0)∧w'.cell? ⟨w.heap.size,4,none⟩=some (.slice none 0 0)∧w'.cell? ⟨w.heap.size,5,none⟩=some (.slice none 0 0)∧w'.cell? ⟨w.heap.size,6,none⟩=some (.bool true)∧w'.cell? ⟨g,o,none⟩=some (.string s)∧w'.cell? ⟨g,o+1,none⟩=some (.int .i64 a)∧w'.cell? ⟨g,o+2,none⟩=some (.int .i64 b)∧w'.cell? ⟨g,o+3,none⟩=some (.int .i64 c)∧w'.cell? ⟨g,o+4,none⟩=some (.slice ac 0 cc)∧w'.cell? ⟨g,o+5,none⟩=some (.slice ae 0 ce)) (go_keep)
  (first
    |(go_at_call 113;refine (HL.out w1.drew HB1.out.1.drew).mono ?_;rintro e w2 ⟨rfl,ok⟩;have HB2:Hid (Below w.heap.size w w2∧BxS w2 w.heap.size (.slice (some ⟨g,o,none⟩) n cap) p):=⟨aB HB1.out.1.drew ok,eN _ _ _ _ _ (KeepP.drew (eN _ _ _) HB1.out.2) ok⟩;have HX2:=aA (HX.out w2 HB2.out.1);obtain ⟨⟨x0,x1,x2,x3,x4,x5⟩,_,x6⟩:=HX2.out;dsimp only [ndB] at x0 x1 x2 x3;obtain ⟨_,⟨k0,k1,k2,k3,k4,k5,k6⟩,k7⟩:=HB2.out;have hne3:w2.heap.size≠w.heap.size:=(by omega);have hne4:w2.heap.size≠g:=(by omega);clear ok)
    |(go_at_call 113;refine (HL.out _ HZ.out.1.1).mono ?_;rintro e w2 ⟨rfl,ok⟩;have HBZ:Hid ((Below w.heap.size w w2∧BxS w2 w.heap.size (.slice (some ⟨g,o,none⟩) n cap) p)∧BxNF w2 w1.heap.size (ndB ⟨#[]⟩ 0 0 0) (.slice none 0 0) (.slice none 0 0)):=⟨⟨aB HZ.out.1.1 ok,eN _ _ _ _ _ HZ.out.1.2 ok⟩,kQ _ _ _ _ _ _ HZ.out.2 ok⟩;have HX2:=aA (HX.out w2 HBZ.out.1.1);obtain ⟨⟨x0,x1,x2,x3,x4,x5⟩,_,x6⟩:=HX2.out;dsimp only [ndB] at x0 x1 x2 x3;obtain ⟨⟨_,⟨k0,k1,k2,k3,k4,k5,k6⟩,k7⟩,⟨⟨j0,j1,j2,j3,j4,j5⟩,j6⟩,jf⟩:=HBZ.out;dsimp only [ndB] at j0 j1 j2 j3;have f0:=jf 0 (by decide);have f1:=jf 1 (by decide);have f2:=jf 2 (by decide);have f3:=jf 3 (by decide);have f4:=jf 4 (by decide);have f5:=jf 5 (by decide);clear jf ok))
 · have HK3:Hid (Below w.heap.size w (w2.alloc (.cells #[.string s,.int .i64 a,.int .i64 b,.int .i64 c,.slice ac 0 cc,.slice ae 0 ce] 67))∧BxS (w2.alloc (.cells #[.string s,.int .i64 a,.int .i64 b,.int .i64 c,.slice ac 0 cc,.slice ae 0 ce] 67)) w.heap.size (.slice (some ⟨g,o,none⟩) n cap) p∧BxNd (w2.alloc (.cells #[.string s,.int .i64 a,.int .i64 b,.int .i64 c,.slice ac 0 cc,.slice ae 0 ce] 67)) w2.heap.size (ndB s a b c) (.slice ac 0 cc) (.slice ae 0 ce)):=⟨aB HB2.out.1 (aD _ _),eN _ _ _ _ _ HB2.out.2 (aD _ _),BxNd.new rfl (ndB s a b c) _ _⟩
   generalize (w2.alloc (.cells #[.string s,.int .i64 a,.int .i64 b,.int .i64 c,.slice ac 0 cc,.slice ae 0 ce] 67))=W3 at*;clear x0 x1 x2 x3 x4 x5 x6 k0 k1 k2 k3 k4 k5 k6 k7 hne1 hne2 hne3 hne4 HX2;obtain ⟨_,_,⟨⟨y0,y1,y2,y3,y4,y5⟩,y6⟩⟩:=HK3.out;dsimp only [ndB] at y0 y1 y2 y3
   go_wp2_with (first
    |(go_at_call 114;refine (HA.out _ _ _).mono ?_;rintro e w4 ⟨rfl,ok⟩;have HK4:=aA (HKK.out _ _ _ _ _ _ _ HK3.out ok);obtain ⟨_,_,⟨⟨y0,y1,y2,y3,y4,y5⟩,y6⟩⟩:=HK4.out;dsimp only [ndB] at y0 y1 y2 y3;clear ok)
    |(go_at_call 115;refine (HOW.out _ _ _).mono ?_;rintro e w5 ⟨rfl,ok⟩;have HK5:=aA (HKK.out _ _ _ _ _ _ _ HK4.out ok);obtain ⟨_,_,⟨⟨y0,y1,y2,y3,y4,y5⟩,y6⟩⟩:=HK5.out;dsimp only [ndB] at y0 y1 y2 y3;clear ok)
    |(go_at_call 116;refine (HCX.out _).mono ?_;rintro e w6 ⟨rfl,ok⟩;have HK6:=aA (HKK.out _ _ _ _ _ _ _ HK5.out ok);obtain ⟨_,⟨⟨z0,z1,z2,z3,z4,z5,z6⟩,z7⟩,_⟩:=HK6.out;clear ok)
    |(go_at_call 117;refine (HH.out _ HK6.out.1).mono ?_;rintro e w7 ⟨rfl,ok⟩;have HK7:=aA (aB HK6.out.1 ok);clear ok))
   go_ret;exact ⟨rfl,HK7.out⟩
 · have HK3:Hid (Below w.heap.size w (set6 w2 w1.heap.size (ndB s a b c) (.slice ac 0 cc) (.slice ae 0 ce))∧BxS (set6 w2 w1.heap.size (ndB s a b c) (.slice ac 0 cc) (.slice ae 0 ce)) w.heap.size (.slice (some ⟨g,o,none⟩) n cap) p∧BxNd (set6 w2 w1.heap.size (ndB s a b c) (.slice ac 0 cc) (.slice ae 0 ce)) w1.heap.size (ndB s a b c) (.slice ac 0 cc) (.slice ae 0 ce)):=
    ⟨jL (by omega) HBZ.out.1.1,HBZ.out.1.2.set6 (by omega) _ _ _,AC HBZ.out.2.1⟩
   unfold set6 at HK3;dsimp only [ndB] at HK3;generalize (((((w2.setCell ⟨w1.heap.size,0,none⟩ (.string s)).setCell ⟨w1.heap.size,1,none⟩ (.int .i64 a)).setCell ⟨w1.heap.size,2,none⟩ (.int .i64 b)).setCell ⟨w1.heap.size,3,none⟩ (.int .i64 c)).setCell ⟨w1.heap.size,4,none⟩ (.slice ac 0 cc)).setCell ⟨w1.heap.size,5,none⟩ (.slice ae 0 ce)=W3 at*;clear x0 x1 x2 x3 x4 x5 x6 k0 k1 k2 k3 k4 k5 k6 k7 hne1 hne2 HX2 j0 j1 j2 j3 j4 j5 j6 f0 f1 f2 f3 f4 f5;obtain ⟨_,_,⟨⟨y0,y1,y2,y3,y4,y5⟩,y6⟩⟩:=HK3.out;dsimp only [ndB] at y0 y1 y2 y3
   go_wp2_with (first
    |(go_at_call 114;refine (HA.out _ _ _).mono ?_;rintro e w4 ⟨rfl,ok⟩;have HK4:=aA (HKK.out _ _ _ _ _ _ _ HK3.out ok);obtain ⟨_,_,⟨⟨y0,y1,y2,y3,y4,y5⟩,y6⟩⟩:=HK4.out;dsimp only [ndB] at y0 y1 y2 y3;clear ok)
    |(go_at_call 115;refine (HOW.out _ _ _).mono ?_;rintro e w5 ⟨rfl,ok⟩;have HK5:=aA (HKK.out _ _ _ _ _ _ _ HK4.out ok);obtain ⟨_,_,⟨⟨y0,y1,y2,y3,y4,y5⟩,y6⟩⟩:=HK5.out;dsimp only [ndB] at y0 y1 y2 y3;clear ok)
    |(go_at_call 116;refine (HCX.out _).mono ?_;rintro e w6 ⟨rfl,ok⟩;have HK6:=aA (HKK.out _ _ _ _ _ _ _ HK5.out ok);obtain ⟨_,⟨⟨z0,z1,z2,z3,z4,z5,z6⟩,z7⟩,_⟩:=HK6.out;clear ok)
    |(go_at_call 117;refine (HH.out _ HK6.out.1).mono ?_;rintro e w7 ⟨rfl,ok⟩;have HK7:=aA (aB HK6.out.1 ok);clear ok))
   go_ret;exact ⟨rfl,HK7.out⟩
end Go.Proofs.YtpfemjlhklnfoaaGreatDoor
