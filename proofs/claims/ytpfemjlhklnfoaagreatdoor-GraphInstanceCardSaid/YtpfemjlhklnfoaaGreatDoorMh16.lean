/- Rc3, Lt1, Wb4: their declarations that are needed, laid in one text, remarks and blanks left out. -/
import Derived.Test.YtpfemjlhklnfoaaGreatDoorMh15
namespace Go.Proofs.YtpfemjlhklnfoaaGreatDoor
open Go.RowKit Go.Maps Go.WideMaps
set_option maxRecDepth 100000
noncomputable def cD (R:List CV) (P:Pg):Int:=if aI P=true then (if (bJ R P.nm P.a P.b P.c).isSome=true then 11 else if R.length<128 then 0 else 26) else 24
theorem zI {x y:CV}:eC x.pg.nm x.pg.a x.pg.b x.pg.c y=false↔eC y.pg.nm y.pg.a y.pg.b y.pg.c x=false:=by
 unfold eC;rw [decide_eq_false_iff_not,decide_eq_false_iff_not];exact ⟨fun h q=>h ⟨q.1.symm,q.2.1.symm,q.2.2.1.symm,q.2.2.2.symm⟩,fun h q=>h ⟨q.1.symm,q.2.1.symm,q.2.2.1.symm,q.2.2.2.symm⟩⟩
theorem xE {R:List CV} {x:CV} (h:R.Pairwise fun x y=>eC x.pg.nm x.pg.a x.pg.b x.pg.c y=false) (hx:bJ R x.pg.nm x.pg.a x.pg.b x.pg.c=none):(kH R x).Pairwise fun x y=>eC x.pg.nm x.pg.a x.pg.b x.pg.c y=false:=by
 refine ((iG R x).pairwise_iff (fun q=>zI.1 q)).2 (List.pairwise_cons.2 ⟨fun y hy=> ?_,h⟩);unfold bJ at hx;exact Bool.eq_false_iff.2 (List.find?_eq_none.1 hx y hy)
theorem MY {w0 w w5:World} {E:Nat} {R:List CV} (h:RcAt w0 w E R) (hb0:w0.heap.size≤w.heap.size) {x:CV} (hp:PgAt w0 x.pg x.u1 x.u2 x.u3) (hw:aI x.pg=true) (hx:bJ R x.pg.nm x.pg.a x.pg.b x.pg.c=none) (hl:R.length<128) {v:Value} {n:Nat} {xs:List Value} (ho:w5.ownsRow w.heap.size 34 7 v n xs) (hn:n=R.length+1) (hxs:xs=(kH R x).flatMap bU) (hb:Below w.heap.size w w5):RcAt w0 (w5.setCell ⟨E,0,none⟩ v) E (kH R x)∧w.grownBy (w5.setCell ⟨E,0,none⟩ v) (some E):=by
 have hE:=h.lt;obtain ⟨⟨u,hu,_⟩,h2,h3,h4⟩:=h;have hu5:=(hb.block E hE).trans hu;have hg:w5.grownBy (w5.setCell ⟨E,0,none⟩ v) (some E):=⟨rfl,rfl,rfl,(KeepsWalks.setCell w5 ⟨E,0,none⟩ v).size,fun k _ hk=>Below.heap_setCell _ _ _ k (fun e=>hk (by rw [e]))⟩;refine ⟨⟨⟨v,?_,?_⟩,fun y hy=> ?_,xE h3 hx,by rw [uL];omega⟩,cR hb hg⟩
 · simp [World.setCell,Array.getElem?_modify,hu5]
 · subst hn
   subst hxs;rw [uL];exact bZ (eZ ho hu5 (by decide) hg) hb0
 · rcases List.mem_cons.1 ((iG R x).mem_iff.1 hy) with rfl|hy
   · exact ⟨hp,hw⟩
   · exact h2 y hy
theorem KA {w:World} {B:Nat} {v:Value} {R:List CV} (h:w.ownsRow B 34 7 v R.length (R.flatMap bU)):(v= .slice none 0 0∧R=[])∨∃ g cap,v= .slice (some ⟨g,0,none⟩) R.length cap∧R.length≤cap∧g<w.heap.size∧∀ j u,(R.flatMap bU)[j]? =some u→w.cell? ⟨g,j,none⟩=some u:=by
 rcases h.2 with ⟨e,hn⟩|⟨g,cap,cur,rfl,hB,hgg,hc,_,_,ht⟩
 · exact Or.inl ⟨e,List.length_eq_zero_iff.1 hn⟩
 · refine Or.inr ⟨g,cap,rfl,hc,(Array.getElem?_eq_some_iff.1 hgg).1,fun j u hj=> ?_⟩
   have e:=nT hgg ht j u hj;rw [wQ,Nat.zero_add] at e;exact e
set_option maxHeartbeats 3200000 in
theorem KD {w0 w:World} {E:Nat} {R:List CV} (h:RcAt w0 w E R) (hb0:Below w0.heap.size w0 w) {P:Pg} {v1 v2 v3:Value} (hp:PgAt w0 P v1 v2 v3) (hok:lH P) (hw:aI P=false):Calls Tryz.prog 13 #[.pointer (some ⟨E,0,none⟩),.agg #[.string P.nm,.int .i64 P.a,.int .i64 P.b,.int .i64 P.c,v1,v2,v3]] w fun e w'=>e= .returned (.int .i64 24)∧Below w.heap.size w w':=by
 have HMY:Hid (∀ W,Below w.heap.size w W→Calls Tryz.prog 45 #[.agg #[.string P.nm,.int .i64 P.a,.int .i64 P.b,.int .i64 P.c,v1,v2,v3]] W fun e w'=>e= .returned (.bool (aI P))∧Below W.heap.size W w'):=fun W hb=>by
  have e:=mI (hp.below (hb0.trans (hb.mono hb0.size))) hok.1 hok.2.1;rw [sD] at e;exact e
 have HPG:=aA hp;obtain ⟨⟨a1,n1,c1,rfl⟩,⟨a2,n2,c2,rfl⟩,a3,n3,c3,rfl⟩:=dC hp;have HKD:Hid (KeepP fun W=>(Below w.heap.size w W∧RcAt w0 W E R)∧BxP W w.heap.size P.nm P.a P.b P.c (.slice a1 n1 c1) (.slice a2 n2 c2) (.slice a3 n3 c3)):=fun a b hx hab=>⟨⟨aB hx.1.1 hab,hx.1.2.below hab⟩,bF _ _ _ _ _ _ _ _ _ _ hx.2 hab⟩
 have HO0:Hid ((Below w.heap.size w (w.alloc (.cells #[.string P.nm,.int .i64 P.a,.int .i64 P.b,.int .i64 P.c,.slice a1 n1 c1,.slice a2 n2 c2,.slice a3 n3 c3] 34))∧RcAt w0 (w.alloc (.cells #[.string P.nm,.int .i64 P.a,.int .i64 P.b,.int .i64 P.c,.slice a1 n1 c1,.slice a2 n2 c2,.slice a3 n3 c3] 34)) E R)∧BxP (w.alloc (.cells #[.string P.nm,.int .i64 P.a,.int .i64 P.b,.int .i64 P.c,.slice a1 n1 c1,.slice a2 n2 c2,.slice a3 n3 c3] 34)) w.heap.size P.nm P.a P.b P.c (.slice a1 n1 c1) (.slice a2 n2 c2) (.slice a3 n3 c3)):=⟨⟨aD _ _,h.below (aD _ _)⟩,BxP.new rfl _ _ _ _ _ _ _⟩;obtain ⟨k0,k1,k2,k3,k4,k5,k6,_⟩:=HO0.out.2;rw [hw] at HMY;clear h hp hok hw hb0
 go_enter Tryz.func13,Tryz.ntmps13
 go_wp2_with (first|(go_at_call 45;refine (HMY.out _ HO0.out.1.1).mono ?_;rintro e w1 ⟨rfl,hb⟩;have HO1:=aA (HKD.out _ _ HO0.out hb);clear hb k0 k1 k2 k3 k4 k5 k6;obtain ⟨k0,k1,k2,k3,k4,k5,k6,_⟩:=HO1.out.2))
 go_ret;exact ⟨rfl,HO1.out.1.1⟩
set_option maxHeartbeats 3200000 in
theorem xF {w0 w:World} {E:Nat} {R:List CV} (h:RcAt w0 w E R) (hb0:Below w0.heap.size w0 w) {P:Pg} {v1 v2 v3:Value} (hp:PgAt w0 P v1 v2 v3) (hok:lH P) (hw:aI P=true) {x:CV} (hx:bJ R P.nm P.a P.b P.c=some x):Calls Tryz.prog 13 #[.pointer (some ⟨E,0,none⟩),.agg #[.string P.nm,.int .i64 P.a,.int .i64 P.b,.int .i64 P.c,v1,v2,v3]] w fun e w'=>e= .returned (.int .i64 11)∧Below w.heap.size w w':=by
 have HMY:Hid (∀ W,Below w.heap.size w W→Calls Tryz.prog 45 #[.agg #[.string P.nm,.int .i64 P.a,.int .i64 P.b,.int .i64 P.c,v1,v2,v3]] W fun e w'=>e= .returned (.bool (aI P))∧Below W.heap.size W w'):=fun W hb=>by
  have e:=mI (hp.below (hb0.trans (hb.mono hb0.size))) hok.1 hok.2.1;rw [sD] at e;exact e
 have HPG:=aA hp;obtain ⟨⟨a1,n1,c1,rfl⟩,⟨a2,n2,c2,rfl⟩,a3,n3,c3,rfl⟩:=dC hp;have HKD:Hid (KeepP fun W=>(Below w.heap.size w W∧RcAt w0 W E R)∧BxP W w.heap.size P.nm P.a P.b P.c (.slice a1 n1 c1) (.slice a2 n2 c2) (.slice a3 n3 c3)):=fun a b hx hab=>⟨⟨aB hx.1.1 hab,hx.1.2.below hab⟩,bF _ _ _ _ _ _ _ _ _ _ hx.2 hab⟩
 have HO0:Hid ((Below w.heap.size w (w.alloc (.cells #[.string P.nm,.int .i64 P.a,.int .i64 P.b,.int .i64 P.c,.slice a1 n1 c1,.slice a2 n2 c2,.slice a3 n3 c3] 34))∧RcAt w0 (w.alloc (.cells #[.string P.nm,.int .i64 P.a,.int .i64 P.b,.int .i64 P.c,.slice a1 n1 c1,.slice a2 n2 c2,.slice a3 n3 c3] 34)) E R)∧BxP (w.alloc (.cells #[.string P.nm,.int .i64 P.a,.int .i64 P.b,.int .i64 P.c,.slice a1 n1 c1,.slice a2 n2 c2,.slice a3 n3 c3] 34)) w.heap.size P.nm P.a P.b P.c (.slice a1 n1 c1) (.slice a2 n2 c2) (.slice a3 n3 c3)):=⟨⟨aD _ _,h.below (aD _ _)⟩,BxP.new rfl _ _ _ _ _ _ _⟩;obtain ⟨k0,k1,k2,k3,k4,k5,k6,_⟩:=HO0.out.2;rw [hw] at HMY;obtain ⟨⟨e1,m1,d1,q1⟩,⟨e2,m2,d2,q2⟩,e3,m3,d3,q3⟩:=dC (h.2.1 x (List.mem_of_find?_eq_some hx)).1
 have HCV:Hid (cvV x= .agg #[.string x.pg.nm,.int .i64 x.pg.a,.int .i64 x.pg.b,.int .i64 x.pg.c,.slice e1 m1 d1,.slice e2 m2 d2,.slice e3 m3 d3]):=by
  unfold Hid cvV;rw [q1,q2,q3]
 have HGT:Hid (∀ W,RcAt w0 W E R→Calls Tryz.prog 16 #[.pointer (some ⟨E,0,none⟩),.string P.nm,.agg #[.int .i64 P.a,.int .i64 P.b,.int .i64 P.c]] W fun e w'=>e= .returned (.tuple #[.agg #[.string x.pg.nm,.int .i64 x.pg.a,.int .i64 x.pg.b,.int .i64 x.pg.c,.slice e1 m1 d1,.slice e2 m2 d2,.slice e3 m3 d3],.bool true])∧Below W.heap.size W w'):=fun W hW=>by
  have e:=nY hW P.nm P.a P.b P.c;rw [iM,hx] at e;simp only [Option.isSome,HCV.out] at e;exact e
 clear h hp hok hw hb0 hx q1 q2 q3 HCV
 go_enter Tryz.func13,Tryz.ntmps13
 go_wp2_with (first|(go_at_call 45;refine (HMY.out _ HO0.out.1.1).mono ?_;rintro e w1 ⟨rfl,hb⟩;have HO1:=aA (HKD.out _ _ HO0.out hb);clear hb k0 k1 k2 k3 k4 k5 k6;obtain ⟨k0,k1,k2,k3,k4,k5,k6,_⟩:=HO1.out.2)|(go_at_call 16;refine (HGT.out _ HO1.out.1.2).mono ?_;rintro e w2 ⟨rfl,hb⟩;have HO2:=aA (HKD.out _ _ HO1.out hb);clear hb k0 k1 k2 k3 k4 k5 k6;obtain ⟨k0,k1,k2,k3,k4,k5,k6,_⟩:=HO2.out.2))
 go_ret;exact ⟨rfl,aB HO2.out.1.1 (aD _ _)⟩
set_option maxHeartbeats 3200000 in
theorem CF {w0 w:World} {E:Nat} {R:List CV} (h:RcAt w0 w E R) (hb0:Below w0.heap.size w0 w) {P:Pg} {v1 v2 v3:Value} (hp:PgAt w0 P v1 v2 v3) (hok:lH P) (hw:aI P=true) (hx:bJ R P.nm P.a P.b P.c=none) (hl:128≤R.length):Calls Tryz.prog 13 #[.pointer (some ⟨E,0,none⟩),.agg #[.string P.nm,.int .i64 P.a,.int .i64 P.b,.int .i64 P.c,v1,v2,v3]] w fun e w'=>e= .returned (.int .i64 26)∧Below w.heap.size w w':=by
 have HMY:Hid (∀ W,Below w.heap.size w W→Calls Tryz.prog 45 #[.agg #[.string P.nm,.int .i64 P.a,.int .i64 P.b,.int .i64 P.c,v1,v2,v3]] W fun e w'=>e= .returned (.bool (aI P))∧Below W.heap.size W w'):=fun W hb=>by
  have e:=mI (hp.below (hb0.trans (hb.mono hb0.size))) hok.1 hok.2.1;rw [sD] at e;exact e
 have HPG:=aA hp;obtain ⟨⟨a1,n1,c1,rfl⟩,⟨a2,n2,c2,rfl⟩,a3,n3,c3,rfl⟩:=dC hp;have HKD:Hid (KeepP fun W=>(Below w.heap.size w W∧RcAt w0 W E R)∧BxP W w.heap.size P.nm P.a P.b P.c (.slice a1 n1 c1) (.slice a2 n2 c2) (.slice a3 n3 c3)):=fun a b hx hab=>⟨⟨aB hx.1.1 hab,hx.1.2.below hab⟩,bF _ _ _ _ _ _ _ _ _ _ hx.2 hab⟩
 have HO0:Hid ((Below w.heap.size w (w.alloc (.cells #[.string P.nm,.int .i64 P.a,.int .i64 P.b,.int .i64 P.c,.slice a1 n1 c1,.slice a2 n2 c2,.slice a3 n3 c3] 34))∧RcAt w0 (w.alloc (.cells #[.string P.nm,.int .i64 P.a,.int .i64 P.b,.int .i64 P.c,.slice a1 n1 c1,.slice a2 n2 c2,.slice a3 n3 c3] 34)) E R)∧BxP (w.alloc (.cells #[.string P.nm,.int .i64 P.a,.int .i64 P.b,.int .i64 P.c,.slice a1 n1 c1,.slice a2 n2 c2,.slice a3 n3 c3] 34)) w.heap.size P.nm P.a P.b P.c (.slice a1 n1 c1) (.slice a2 n2 c2) (.slice a3 n3 c3)):=⟨⟨aD _ _,h.below (aD _ _)⟩,BxP.new rfl _ _ _ _ _ _ _⟩;obtain ⟨k0,k1,k2,k3,k4,k5,k6,_⟩:=HO0.out.2;rw [hw] at HMY
 have HGT:Hid (∀ W,RcAt w0 W E R→Calls Tryz.prog 16 #[.pointer (some ⟨E,0,none⟩),.string P.nm,.agg #[.int .i64 P.a,.int .i64 P.b,.int .i64 P.c]] W fun e w'=>e= .returned (.tuple #[.agg #[.string ByteArray.empty,.int .i64 0,.int .i64 0,.int .i64 0,.slice none 0 0,.slice none 0 0,.slice none 0 0],.bool false])∧Below W.heap.size W w'):=fun W hW=>by
  have e:=nY hW P.nm P.a P.b P.c;rw [iM,hx] at e;exact e
 have hE:=h.lt;obtain ⟨⟨v,hv,ho⟩,_⟩:=h;have e0:w.cell? ⟨E,0,none⟩=some v:=by simp [World.cell?,hv]
 obtain ⟨av,cv,rfl⟩:=bN ho;have hl2:(128:Int)≤(R.length:Int):=by omega
 clear hp hok hw hb0 hx hv ho
 go_enter Tryz.func13,Tryz.ntmps13
 go_wp2_with (first|(go_at_call 45;refine (HMY.out _ HO0.out.1.1).mono ?_;rintro e w1 ⟨rfl,hb⟩;have HO1:=aA (HKD.out _ _ HO0.out hb);clear hb k0 k1 k2 k3 k4 k5 k6;obtain ⟨k0,k1,k2,k3,k4,k5,k6,_⟩:=HO1.out.2)|(go_at_call 16;refine (HGT.out _ HO1.out.1.2).mono ?_;rintro e w2 ⟨rfl,hb⟩;have HO2:=aA (HKD.out _ _ HO1.out hb);clear hb k0 k1 k2 k3 k4 k5 k6;obtain ⟨k0,k1,k2,k3,k4,k5,k6,_⟩:=HO2.out.2;have g0:=(HO2.out.1.1.cell (p:=⟨E,0,none⟩) hE).trans e0;have g1:=((aB HO2.out.1.1 (aD w2 (.cells #[.string ByteArray.empty,.int .i64 0,.int .i64 0,.int .i64 0,.slice none 0 0,.slice none 0 0,.slice none 0 0] 34))).cell (p:=⟨E,0,none⟩) hE).trans e0))
 go_ret;exact ⟨rfl,aB HO2.out.1.1 (aD _ _)⟩
set_option maxHeartbeats 6400000 in
theorem KE {w0 w:World} {E:Nat} {R:List CV} (h:RcAt w0 w E R) (hb0:Below w0.heap.size w0 w) {P:Pg} {v1 v2 v3:Value} (hp:PgAt w0 P v1 v2 v3) (hok:lH P) (hw:aI P=true) (hx:bJ R P.nm P.a P.b P.c=none) (hl:R.length<128):Calls Tryz.prog 13 #[.pointer (some ⟨E,0,none⟩),.agg #[.string P.nm,.int .i64 P.a,.int .i64 P.b,.int .i64 P.c,v1,v2,v3]] w fun e w'=>e= .returned (.int .i64 0)∧RcAt w0 w' E (kH R ⟨P,v1,v2,v3⟩)∧w.grownBy w' (some E):=by
 have HMY:Hid (∀ W,Below w.heap.size w W→Calls Tryz.prog 45 #[.agg #[.string P.nm,.int .i64 P.a,.int .i64 P.b,.int .i64 P.c,v1,v2,v3]] W fun e w'=>e= .returned (.bool (aI P))∧Below W.heap.size W w'):=fun W hb=>by
  have e:=mI (hp.below (hb0.trans (hb.mono hb0.size))) hok.1 hok.2.1;rw [sD] at e;exact e
 have HPG:=aA hp;obtain ⟨⟨a1,n1,c1,rfl⟩,⟨a2,n2,c2,rfl⟩,a3,n3,c3,rfl⟩:=dC hp;have HKD:Hid (KeepP fun W=>(Below w.heap.size w W∧RcAt w0 W E R)∧BxP W w.heap.size P.nm P.a P.b P.c (.slice a1 n1 c1) (.slice a2 n2 c2) (.slice a3 n3 c3)):=fun a b hx hab=>⟨⟨aB hx.1.1 hab,hx.1.2.below hab⟩,bF _ _ _ _ _ _ _ _ _ _ hx.2 hab⟩
 have HO0:Hid ((Below w.heap.size w (w.alloc (.cells #[.string P.nm,.int .i64 P.a,.int .i64 P.b,.int .i64 P.c,.slice a1 n1 c1,.slice a2 n2 c2,.slice a3 n3 c3] 34))∧RcAt w0 (w.alloc (.cells #[.string P.nm,.int .i64 P.a,.int .i64 P.b,.int .i64 P.c,.slice a1 n1 c1,.slice a2 n2 c2,.slice a3 n3 c3] 34)) E R)∧BxP (w.alloc (.cells #[.string P.nm,.int .i64 P.a,.int .i64 P.b,.int .i64 P.c,.slice a1 n1 c1,.slice a2 n2 c2,.slice a3 n3 c3] 34)) w.heap.size P.nm P.a P.b P.c (.slice a1 n1 c1) (.slice a2 n2 c2) (.slice a3 n3 c3)):=⟨⟨aD _ _,h.below (aD _ _)⟩,BxP.new rfl _ _ _ _ _ _ _⟩;obtain ⟨k0,k1,k2,k3,k4,k5,k6,_⟩:=HO0.out.2;rw [hw] at HMY
 have HGT:Hid (∀ W,RcAt w0 W E R→Calls Tryz.prog 16 #[.pointer (some ⟨E,0,none⟩),.string P.nm,.agg #[.int .i64 P.a,.int .i64 P.b,.int .i64 P.c]] W fun e w'=>e= .returned (.tuple #[.agg #[.string ByteArray.empty,.int .i64 0,.int .i64 0,.int .i64 0,.slice none 0 0,.slice none 0 0,.slice none 0 0],.bool false])∧Below W.heap.size W w'):=fun W hW=>by
  have e:=nY hW P.nm P.a P.b P.c;rw [iM,hx] at e;exact e
 have hE:=h.lt;have HH:=aA h;have HFIN:Hid (∀ (w5:World) (v:Value) (n:Nat) (xs:List Value),w5.ownsRow w.heap.size 34 7 v n xs→n=R.length+1→xs=(kH R ⟨P,.slice a1 n1 c1,.slice a2 n2 c2,.slice a3 n3 c3⟩).flatMap bU→Below w.heap.size w w5→RcAt w0 (w5.setCell ⟨E,0,none⟩ v) E (kH R ⟨P,.slice a1 n1 c1,.slice a2 n2 c2,.slice a3 n3 c3⟩)∧w.grownBy (w5.setCell ⟨E,0,none⟩ v) (some E)):=fun w5 v n xs ho h1 h2 hb=>MY (x:=⟨P,.slice a1 n1 c1,.slice a2 n2 c2,.slice a3 n3 c3⟩) HH.out hb0.size HPG.out hw hx hl ho h1 h2 hb
 obtain ⟨⟨v,hv,ho⟩,hR,_⟩:=h;have e0:w.cell? ⟨E,0,none⟩=some v:=by simp [World.cell?,hv]
 have fz0:w.frozen? ⟨E,0,none⟩=false:=by simp [World.frozen?,hv]
 have HRP:Hid (∀ x ∈ R,PgAt w0 x.pg x.u1 x.u2 x.u3∧x.pg.nm.size≤9223372036854775807):=fun x hx=>⟨(hR x hx).1,Nat.le_trans (fJ (hR x hx).2).1 (by decide)⟩
 have hl2:¬ (128:Int)≤(R.length:Int):=by omega
 obtain ⟨pos,hpos⟩:∃ p,p=kG R ⟨P,.slice a1 n1 c1,.slice a2 n2 c2,.slice a3 n3 c3⟩:=⟨_,rfl⟩
 have HXS:Hid ((R.take pos).flatMap bU++[.string P.nm,.int .i64 P.a,.int .i64 P.b,.int .i64 P.c,.slice a1 n1 c1,.slice a2 n2 c2,.slice a3 n3 c3]++(R.drop pos).flatMap bU=(kH R ⟨P,.slice a1 n1 c1,.slice a2 n2 c2,.slice a3 n3 c3⟩).flatMap bU):=by
  unfold Hid;rw [xC,←hpos];rfl
 have HP1:Hid (∀ i (hi:i<R.length),i<pos→ahC R[i] ⟨P,.slice a1 n1 c1,.slice a2 n2 c2,.slice a3 n3 c3⟩=true):=fun i hi q=>nX hi (hpos ▸ q)
 have HP2:Hid (∀ i (hi:i<R.length),i=pos→ahC R[i] ⟨P,.slice a1 n1 c1,.slice a2 n2 c2,.slice a3 n3 c3⟩=false):=fun i hi q=>zF hi (q.trans hpos)
 have hpl:pos≤R.length:=hpos ▸ zD _ _;have HOR:=aA (KA ho);clear hp hok hw hb0 hx hv ho hR hpos HH
 rcases HOR.out with hq|hq
 · obtain ⟨rfl,hre⟩:=hq
   have hp0:pos=0:=by
    rw [hre] at hpl;exact Nat.le_zero.1 hpl
   subst hp0
   have HRL:Hid (R.length=0):=by
    unfold Hid;rw [hre];rfl
   have HXE:Hid ([]++[.string P.nm,.int .i64 P.a,.int .i64 P.b,.int .i64 P.c,.slice a1 n1 c1,.slice a2 n2 c2,.slice a3 n3 c3]++[]=(kH R ⟨P,.slice a1 n1 c1,.slice a2 n2 c2,.slice a3 n3 c3⟩).flatMap bU):=by
    unfold Hid;rw [←HXS.out,hre];rfl
   clear hre HXS hl hl2 hpl HP1 HP2 HRP HOR
   go_enter Tryz.func13,Tryz.ntmps13
   go_wp2_with (first|(go_at_call 45;refine (HMY.out _ HO0.out.1.1).mono ?_;rintro e w1 ⟨rfl,hb⟩;have HO1:=aA (HKD.out _ _ HO0.out hb);clear hb k0 k1 k2 k3 k4 k5 k6;obtain ⟨k0,k1,k2,k3,k4,k5,k6,_⟩:=HO1.out.2)|(go_at_call 16;refine (HGT.out _ HO1.out.1.2).mono ?_;rintro e w2 ⟨rfl,hb⟩;have HO2:=aA (HKD.out _ _ HO1.out hb);clear hb k0 k1 k2 k3 k4 k5 k6;obtain ⟨k0,k1,k2,k3,k4,k5,k6,_⟩:=HO2.out.2;have g0:=(HO2.out.1.1.cell (p:=⟨E,0,none⟩) hE).trans e0;have g1:=((aB HO2.out.1.1 (aD w2 (.cells #[.string ByteArray.empty,.int .i64 0,.int .i64 0,.int .i64 0,.slice none 0 0,.slice none 0 0,.slice none 0 0] 34))).cell (p:=⟨E,0,none⟩) hE).trans e0))
   have HOW:Hid ((Below w.heap.size w (w2.alloc (.cells #[.string ByteArray.empty,.int .i64 0,.int .i64 0,.int .i64 0,.slice none 0 0,.slice none 0 0,.slice none 0 0] 34))∧RcAt w0 (w2.alloc (.cells #[.string ByteArray.empty,.int .i64 0,.int .i64 0,.int .i64 0,.slice none 0 0,.slice none 0 0,.slice none 0 0] 34)) E R)∧BxP (w2.alloc (.cells #[.string ByteArray.empty,.int .i64 0,.int .i64 0,.int .i64 0,.slice none 0 0,.slice none 0 0,.slice none 0 0] 34)) w.heap.size P.nm P.a P.b P.c (.slice a1 n1 c1) (.slice a2 n2 c2) (.slice a3 n3 c3)):=HKD.out _ _ HO2.out (aD _ _);clear HO0 HO1 HO2 HKD HMY HGT k0 k1 k2 k3 k4 k5 k6 g0 g1;generalize (w2.alloc (.cells #[.string ByteArray.empty,.int .i64 0,.int .i64 0,.int .i64 0,.slice none 0 0,.slice none 0 0,.slice none 0 0] 34))=W at*;obtain ⟨k0,k1,k2,k3,k4,k5,k6,hwl⟩:=HOW.out.2;have hwW:w.heap.size≤W.heap.size:=HOW.out.1.1.size
   have g0:=(HOW.out.1.1.cell (p:=⟨E,0,none⟩) hE).trans e0;have gz:=(HOW.out.1.1.frozen (p:=⟨E,0,none⟩) hE).trans fz0;have hEW:E<W.heap.size:=Nat.lt_of_lt_of_le hE hwW
   have HBK:Hid (∀ W2,Below W.heap.size W W2→(W2.cell? ⟨w.heap.size,0,none⟩=some (.string P.nm)∧W2.cell? ⟨w.heap.size,1,none⟩=some (.int .i64 P.a)∧W2.cell? ⟨w.heap.size,2,none⟩=some (.int .i64 P.b)∧W2.cell? ⟨w.heap.size,3,none⟩=some (.int .i64 P.c)∧W2.cell? ⟨w.heap.size,4,none⟩=some (.slice a1 n1 c1)∧W2.cell? ⟨w.heap.size,5,none⟩=some (.slice a2 n2 c2)∧W2.cell? ⟨w.heap.size,6,none⟩=some (.slice a3 n3 c3))∧W2.cell? ⟨E,0,none⟩=some (.slice none 0 0)∧W2.frozen? ⟨E,0,none⟩=false∧Below w.heap.size w W2):=fun W2 hb=>by
    obtain ⟨l0,l1,l2,l3,l4,l5,l6,_⟩:=bF _ _ _ _ _ _ _ _ _ _ HOW.out.2 hb;exact ⟨⟨l0,l1,l2,l3,l4,l5,l6⟩,(hb.cell (p:=⟨E,0,none⟩) hEW).trans g0,(hb.frozen (p:=⟨E,0,none⟩) hEW).trans gz,aB HOW.out.1.1 hb⟩
   clear k0 k1 k2 k3 k4 k5 k6 g0 gz
   go_loopw [7] (fun vi wr=>vi= .int .i64 0∧Below W.heap.size W wr) (fun _ _=>0)
   case atStart=>exact ⟨rfl,Below.refl _ _⟩
   case round=>
    obtain ⟨rfl,hbw⟩:=hrel;have HB:=aA hbw;clear hbw;obtain ⟨_,y9,_,_⟩:=HBK.out _ HB.out;have HK:Hid (KeepP fun w1=>Below W.heap.size W w1∧Sc.aF w1 E 0 (.slice none 0 0)):=KeepP.and (aG W) (aP _ _ _);have HO:Hid (Below W.heap.size W wr∧Sc.aF wr E 0 (.slice none 0 0)):=⟨HB.out,y9,Nat.lt_of_lt_of_le hEW HB.out.size⟩;clear y9
    go_wp2_with fail
    refine bA HK (by kernel_rfl) (by kernel_rfl) (by first|exact HO.out|exact HK.out.drew HO.out) ?_;intro C HIN HOUT;clear HO
    repeat
     (with_reducible refine wpQuiet_step (fun K hK=> ?_)
      go_simp
      first
       |(refine hK _ ?_;clear hK K)
       |(apply Exists.intro;refine ⟨fun w1 hC=> ?_,hK _ ?_⟩;(focus ((first|(exact rfl)|(obtain ⟨hb1,t0,_⟩:=HOUT.out w1 hC;clear hC;go_simp;first|done|exact rfl));done));clear hK K))
    refine wpQuiet_nil ?_;intro wz hC;have HO:=aA (HOUT.out _ hC);clear hC HIN HOUT C;obtain ⟨hb1,t0,_⟩:=HO.out;have HBX:=aA hb1;clear hb1 t0 HK HO;obtain ⟨_,y0,_,_⟩:=HBK.out _ HBX.out;have tok1:True:=trivial
    go_wp2_with (first
     |(have _t:=tok1;clear _t tok1;at_builtin;refine rV (B:=W.heap.size) (B':=0) (v:= .slice none 0 0) (x:= .slice none 0 0) (xs:=[]) (news:=[]) (n:=0) (m:=0) eJ Tryz.underlying22 rfl (by decide) (by decide) rfl (.tmp 48) (.tmp 54) rfl rfl ⟨rfl,Or.inl ⟨rfl,rfl⟩⟩ HBX.out.size rfl ⟨rfl,Or.inl ⟨rfl,rfl⟩⟩ (fun u hu=>by cases hu) (by omega) ?_;intro y1 w6 ho6 hg6 hat6;rw [Nat.zero_add,List.nil_append] at ho6;obtain ⟨b1,d1,rfl⟩:=bN ho6;have HO6:=aA ho6;have HB6:Hid (Below W.heap.size W w6):=HBX.out.grown hg6 HBX.out.size (fun k hk=>by cases hk);clear ho6 hg6 hat6;obtain ⟨⟨l0,l1,l2,l3,l4,l5,l6⟩,z0,_,_⟩:=HBK.out _ HB6.out;have HO7:Hid ((w6.alloc (.cells #[.string P.nm,.int .i64 P.a,.int .i64 P.b,.int .i64 P.c,.slice a1 n1 c1,.slice a2 n2 c2,.slice a3 n3 c3] 34)).ownsRow W.heap.size 34 7 (.slice b1 (0) d1) (0) []):=bG HO6.out (aD _ _);have HB7:Hid (Below W.heap.size W (w6.alloc (.cells #[.string P.nm,.int .i64 P.a,.int .i64 P.b,.int .i64 P.c,.slice a1 n1 c1,.slice a2 n2 c2,.slice a3 n3 c3] 34))):=aB HB6.out (aD _ _);have HNW:Hid (∀ j u,([.string P.nm,.int .i64 P.a,.int .i64 P.b,.int .i64 P.c,.slice a1 n1 c1,.slice a2 n2 c2,.slice a3 n3 c3]:List Value)[j]? =some u→(w6.alloc (.cells #[.string P.nm,.int .i64 P.a,.int .i64 P.b,.int .i64 P.c,.slice a1 n1 c1,.slice a2 n2 c2,.slice a3 n3 c3] 34)).cell? ((⟨w6.heap.size,0,none⟩:Addr).add j)=some u):=World.news_of_block (cs:= #[.string P.nm,.int .i64 P.a,.int .i64 P.b,.int .i64 P.c,.slice a1 n1 c1,.slice a2 n2 c2,.slice a3 n3 c3]) (t:=34) (fr:=(0,0)) (by show (w6.heap.push _)[_]? =_;rw [Array.getElem?_push,if_pos rfl]);have tok2:True:=trivial)
     |(have _t:=tok2;clear _t tok2;at_builtin;refine cH (B:=W.heap.size) (wx:=w6.alloc (.cells #[.string P.nm,.int .i64 P.a,.int .i64 P.b,.int .i64 P.c,.slice a1 n1 c1,.slice a2 n2 c2,.slice a3 n3 c3] 34)) (v:= .slice b1 (0) d1) (ad:=⟨w6.heap.size,0,none⟩) (n:=0) (m:=1) (news:=[.string P.nm,.int .i64 P.a,.int .i64 P.b,.int .i64 P.c,.slice a1 n1 c1,.slice a2 n2 c2,.slice a3 n3 c3]) eJ Tryz.underlying22 rfl (by decide) (by decide) rfl (.tmp 56) (.tmp 58) rfl rfl HO7.out HB7.out.size rfl rfl HNW.out (by simp [Value.oneCell']) (by omega) ?_;intro y2 w8 ho8 hg8 hat8;obtain ⟨b2,d2,rfl⟩:=bN ho8;have HO8:=aA ho8;have HB8:Hid (Below W.heap.size W w8):=HB7.out.grown hg8 HB7.out.size (fun k hk=>(World.ownsRow.lt HO7.out k hk).1);obtain ⟨_,z8,_,_⟩:=HBK.out _ HB8.out;clear ho8 hg8 hat8;have tok3:True:=trivial)
     |(have _t:=tok3;clear _t tok3;at_builtin;refine rV (B:=W.heap.size) (B':=0) (v:= .slice b2 (0+1) d2) (x:= .slice none 0 0) (news:=[]) (n:=0+1) (m:=0) eJ Tryz.underlying22 rfl (by decide) (by decide) rfl (.tmp 60) (.tmp 66) rfl rfl HO8.out HB8.out.size rfl ⟨rfl,Or.inl ⟨rfl,rfl⟩⟩ (fun u hu=>by cases hu) (by omega) ?_;intro y3 w9 ho9 hg9 hat9;obtain ⟨b3,d3,rfl⟩:=bN ho9;have HO9:=aA ho9;have HB9:Hid (Below W.heap.size W w9):=HB8.out.grown hg9 HB8.out.size (fun k hk=>(World.ownsRow.lt HO8.out k hk).1);clear ho9 hg9 hat9;obtain ⟨_,z9,fz9,_⟩:=HBK.out _ HB9.out))
    go_ret;exact ⟨rfl,HFIN.out _ _ _ _ (bZ HO9.out hwW) (by rw [HRL.out]) HXE.out (HBK.out _ HB9.out).2.2.2⟩
 · obtain ⟨g,cap,rfl,hcap,hg,hcells⟩:=hq
   have HCE:=aA hcells
   have HN1:Hid (∀ W2,Below w.heap.size w W2→∀ j u,((R.take pos).flatMap bU)[j]? =some u→W2.cell? ((⟨g,0,none⟩:Addr).add j)=some u):=fun W2 hb j u hj=>by
    rw [qB bU 7 (fun _=>rfl)] at hj
    by_cases q:j<pos*7
    · rw [List.getElem?_take_of_lt q] at hj
      rw [wQ,Nat.zero_add];exact (hb.cell (p:=⟨g,j,none⟩) hg).trans (HCE.out j u hj)
    · rw [List.getElem?_take_eq_none (by omega)] at hj
      cases hj
   have HN3:Hid (∀ W2,Below w.heap.size w W2→∀ j u,((R.drop pos).flatMap bU)[j]? =some u→W2.cell? ((⟨g,pos*7,none⟩:Addr).add j)=some u):=fun W2 hb j u hj=>by
    rw [qC bU 7 (fun _=>rfl),List.getElem?_drop] at hj;rw [wQ];exact (hb.cell (p:=⟨g,pos*7+j,none⟩) hg).trans (HCE.out _ u hj)
   have HL1:Hid (((R.take pos).flatMap bU).length=pos*7):=by
    unfold Hid;rw [eB bU 7 (fun _=>rfl),List.length_take,Nat.min_eq_left hpl]
   have HL3:Hid (((R.drop pos).flatMap bU).length=(R.length - pos)*7):=by
    unfold Hid;rw [eB bU 7 (fun _=>rfl),List.length_drop]
   have HE1:Hid (∀ u ∈ (R.take pos).flatMap bU,u.oneCell'=true):=uM (w:=w0) fun x hx=>(HRP.out x (List.mem_of_mem_take hx)).1
   have HE3:Hid (∀ u ∈ (R.drop pos).flatMap bU,u.oneCell'=true):=uM (w:=w0) fun x hx=>(HRP.out x (List.mem_of_mem_drop hx)).1
   have hpi1:(pos:Int)≤(R.length:Int):=by omega
   have hpi2:(pos:Int)≤(cap:Int):=by omega
   have hpi3:(R.length:Int)≤(cap:Int):=by omega
   clear hcells
   go_enter Tryz.func13,Tryz.ntmps13
   go_wp2_with (first|(go_at_call 45;refine (HMY.out _ HO0.out.1.1).mono ?_;rintro e w1 ⟨rfl,hb⟩;have HO1:=aA (HKD.out _ _ HO0.out hb);clear hb k0 k1 k2 k3 k4 k5 k6;obtain ⟨k0,k1,k2,k3,k4,k5,k6,_⟩:=HO1.out.2)|(go_at_call 16;refine (HGT.out _ HO1.out.1.2).mono ?_;rintro e w2 ⟨rfl,hb⟩;have HO2:=aA (HKD.out _ _ HO1.out hb);clear hb k0 k1 k2 k3 k4 k5 k6;obtain ⟨k0,k1,k2,k3,k4,k5,k6,_⟩:=HO2.out.2;have g0:=(HO2.out.1.1.cell (p:=⟨E,0,none⟩) hE).trans e0;have g1:=((aB HO2.out.1.1 (aD w2 (.cells #[.string ByteArray.empty,.int .i64 0,.int .i64 0,.int .i64 0,.slice none 0 0,.slice none 0 0,.slice none 0 0] 34))).cell (p:=⟨E,0,none⟩) hE).trans e0))
   have HOW:Hid ((Below w.heap.size w (w2.alloc (.cells #[.string ByteArray.empty,.int .i64 0,.int .i64 0,.int .i64 0,.slice none 0 0,.slice none 0 0,.slice none 0 0] 34))∧RcAt w0 (w2.alloc (.cells #[.string ByteArray.empty,.int .i64 0,.int .i64 0,.int .i64 0,.slice none 0 0,.slice none 0 0,.slice none 0 0] 34)) E R)∧BxP (w2.alloc (.cells #[.string ByteArray.empty,.int .i64 0,.int .i64 0,.int .i64 0,.slice none 0 0,.slice none 0 0,.slice none 0 0] 34)) w.heap.size P.nm P.a P.b P.c (.slice a1 n1 c1) (.slice a2 n2 c2) (.slice a3 n3 c3)):=HKD.out _ _ HO2.out (aD _ _);clear HO0 HO1 HO2 HKD HMY HGT k0 k1 k2 k3 k4 k5 k6 g0 g1;generalize (w2.alloc (.cells #[.string ByteArray.empty,.int .i64 0,.int .i64 0,.int .i64 0,.slice none 0 0,.slice none 0 0,.slice none 0 0] 34))=W at*;obtain ⟨k0,k1,k2,k3,k4,k5,k6,hwl⟩:=HOW.out.2;have hwW:w.heap.size≤W.heap.size:=HOW.out.1.1.size
   have g0:=(HOW.out.1.1.cell (p:=⟨E,0,none⟩) hE).trans e0;have gz:=(HOW.out.1.1.frozen (p:=⟨E,0,none⟩) hE).trans fz0;have hEW:E<W.heap.size:=Nat.lt_of_lt_of_le hE hwW
   have HBK:Hid (∀ W2,Below W.heap.size W W2→(W2.cell? ⟨w.heap.size,0,none⟩=some (.string P.nm)∧W2.cell? ⟨w.heap.size,1,none⟩=some (.int .i64 P.a)∧W2.cell? ⟨w.heap.size,2,none⟩=some (.int .i64 P.b)∧W2.cell? ⟨w.heap.size,3,none⟩=some (.int .i64 P.c)∧W2.cell? ⟨w.heap.size,4,none⟩=some (.slice a1 n1 c1)∧W2.cell? ⟨w.heap.size,5,none⟩=some (.slice a2 n2 c2)∧W2.cell? ⟨w.heap.size,6,none⟩=some (.slice a3 n3 c3))∧W2.cell? ⟨E,0,none⟩=some (.slice (some ⟨g,0,none⟩) R.length cap)∧W2.frozen? ⟨E,0,none⟩=false∧Below w.heap.size w W2):=fun W2 hb=>by
    obtain ⟨l0,l1,l2,l3,l4,l5,l6,_⟩:=bF _ _ _ _ _ _ _ _ _ _ HOW.out.2 hb;exact ⟨⟨l0,l1,l2,l3,l4,l5,l6⟩,(hb.cell (p:=⟨E,0,none⟩) hEW).trans g0,(hb.frozen (p:=⟨E,0,none⟩) hEW).trans gz,aB HOW.out.1.1 hb⟩
   clear k0 k1 k2 k3 k4 k5 k6 g0 gz
   go_loopw [7] (fun vi wr=>∃ i:Nat,i≤pos∧vi= .int .i64 i∧Below W.heap.size W wr) (fun vi _=>R.length - (intOf vi).toNat)
   case atStart=>exact ⟨0,Nat.zero_le _,rfl,Below.refl _ _⟩
   case round=>
    obtain ⟨i,hi,rfl,hbw⟩:=hrel;have HB:=aA hbw;clear hbw
    by_cases hlt:i<R.length
    · have hki:(i:Int)<(R.length:Int):=by omega
      obtain ⟨⟨a4,n4,c4,q4⟩,⟨a5,n5,c5,q5⟩,a6,n6,c6,q6⟩:=dC (HRP.out _ (List.getElem_mem hlt)).1;have HAH:Hid (∀ W2,Calls Tryz.prog 46 #[.agg #[.string R[i].pg.nm,.int .i64 R[i].pg.a,.int .i64 R[i].pg.b,.int .i64 R[i].pg.c,.slice a4 n4 c4,.slice a5 n5 c5,.slice a6 n6 c6],.agg #[.string P.nm,.int .i64 P.a,.int .i64 P.b,.int .i64 P.c,.slice a1 n1 c1,.slice a2 n2 c2,.slice a3 n3 c3]] W2 fun e w'=>e= .returned (.bool (ahC R[i] ⟨P,.slice a1 n1 c1,.slice a2 n2 c2,.slice a3 n3 c3⟩))∧Below W2.heap.size W2 w'):=fun W2=>xD R[i] ⟨P,.slice a1 n1 c1,.slice a2 n2 c2,.slice a3 n3 c3⟩ W2 (HRP.out _ (List.getElem_mem hlt)).2
      have HPK:Hid (∀ W2,Below W.heap.size W W2→PkIn W2 g (i*7) R[i]):=fun W2 hb=>by
       obtain ⟨d0,d1,d2,d3,d4,d5,d6⟩:=zG R i hlt;exact PkIn.below ⟨HCE.out _ _ d0,HCE.out _ _ d1,HCE.out _ _ d2,HCE.out _ _ d3,HCE.out _ _ d4,HCE.out _ _ d5,HCE.out _ _ d6⟩ (HBK.out _ hb).2.2.2 hg
      have HKI:Hid (∀ W2,Below W.heap.size W W2→(W2.cell? ⟨g,i*7,none⟩=some (.string R[i].pg.nm)∧W2.cell? ⟨g,i*7+1,none⟩=some (.int .i64 R[i].pg.a)∧W2.cell? ⟨g,i*7+2,none⟩=some (.int .i64 R[i].pg.b)∧W2.cell? ⟨g,i*7+3,none⟩=some (.int .i64 R[i].pg.c)∧W2.cell? ⟨g,i*7+4,none⟩=some (.slice a4 n4 c4)∧W2.cell? ⟨g,i*7+5,none⟩=some (.slice a5 n5 c5)∧W2.cell? ⟨g,i*7+6,none⟩=some (.slice a6 n6 c6))):=fun W2 hb=>by
       obtain ⟨d0,d1,d2,d3,d4,d5,d6⟩:=HPK.out W2 hb;exact ⟨d0,d1,d2,d3,q4 ▸ d4,q5 ▸ d5,q6 ▸ d6⟩
      obtain ⟨d0,d1,d2,d3,d4,d5,d6⟩:=HKI.out _ HB.out;obtain ⟨⟨l0,l1,l2,l3,l4,l5,l6⟩,y9,_,_⟩:=HBK.out _ HB.out;have HQ1:=aA (HP1.out i hlt);have HQ2:=aA (HP2.out i hlt);have hEr:E<wr.heap.size:=Nat.lt_of_lt_of_le hEW HB.out.size;have hgr:g<wr.heap.size:=Nat.lt_of_lt_of_le hg (HBK.out _ HB.out).2.2.2.size;have hwr:w.heap.size<wr.heap.size:=Nat.lt_of_lt_of_le hwl HB.out.size;clear q4 q5 q6 HPK;generalize R[i]=x at*
      have HK:Hid (KeepP fun w1=>Below W.heap.size W w1∧Sc.aF w1 E 0 (.slice (some ⟨g,0,none⟩) R.length cap)∧Sc.aF w1 g (i*7) (.string x.pg.nm)∧Sc.aF w1 g (i*7+1) (.int .i64 x.pg.a)∧Sc.aF w1 g (i*7+2) (.int .i64 x.pg.b)∧Sc.aF w1 g (i*7+3) (.int .i64 x.pg.c)∧Sc.aF w1 g (i*7+4) (.slice a4 n4 c4)∧Sc.aF w1 g (i*7+5) (.slice a5 n5 c5)∧Sc.aF w1 g (i*7+6) (.slice a6 n6 c6)∧Sc.aF w1 w.heap.size 0 (.string P.nm)∧Sc.aF w1 w.heap.size 1 (.int .i64 P.a)∧Sc.aF w1 w.heap.size 2 (.int .i64 P.b)∧Sc.aF w1 w.heap.size 3 (.int .i64 P.c)∧Sc.aF w1 w.heap.size 4 (.slice a1 n1 c1)∧Sc.aF w1 w.heap.size 5 (.slice a2 n2 c2)∧Sc.aF w1 w.heap.size 6 (.slice a3 n3 c3)):=KeepP.and (aG W) (KeepP.and (aP _ _ _) (KeepP.and (aP _ _ _) (KeepP.and (aP _ _ _) (KeepP.and (aP _ _ _) (KeepP.and (aP _ _ _) (KeepP.and (aP _ _ _) (KeepP.and (aP _ _ _) (KeepP.and (aP _ _ _) (KeepP.and (aP _ _ _) (KeepP.and (aP _ _ _) (KeepP.and (aP _ _ _) (KeepP.and (aP _ _ _) (KeepP.and (aP _ _ _) (KeepP.and (aP _ _ _) (aP _ _ _)))))))))))))))
      have HO:Hid (Below W.heap.size W wr∧Sc.aF wr E 0 (.slice (some ⟨g,0,none⟩) R.length cap)∧Sc.aF wr g (i*7) (.string x.pg.nm)∧Sc.aF wr g (i*7+1) (.int .i64 x.pg.a)∧Sc.aF wr g (i*7+2) (.int .i64 x.pg.b)∧Sc.aF wr g (i*7+3) (.int .i64 x.pg.c)∧Sc.aF wr g (i*7+4) (.slice a4 n4 c4)∧Sc.aF wr g (i*7+5) (.slice a5 n5 c5)∧Sc.aF wr g (i*7+6) (.slice a6 n6 c6)∧Sc.aF wr w.heap.size 0 (.string P.nm)∧Sc.aF wr w.heap.size 1 (.int .i64 P.a)∧Sc.aF wr w.heap.size 2 (.int .i64 P.b)∧Sc.aF wr w.heap.size 3 (.int .i64 P.c)∧Sc.aF wr w.heap.size 4 (.slice a1 n1 c1)∧Sc.aF wr w.heap.size 5 (.slice a2 n2 c2)∧Sc.aF wr w.heap.size 6 (.slice a3 n3 c3)):=⟨HB.out,⟨y9,hEr⟩,⟨d0,hgr⟩,⟨d1,hgr⟩,⟨d2,hgr⟩,⟨d3,hgr⟩,⟨d4,hgr⟩,⟨d5,hgr⟩,⟨d6,hgr⟩,⟨l0,hwr⟩,⟨l1,hwr⟩,⟨l2,hwr⟩,⟨l3,hwr⟩,⟨l4,hwr⟩,⟨l5,hwr⟩,⟨l6,hwr⟩⟩;clear d0 d1 d2 d3 d4 d5 d6 l0 l1 l2 l3 l4 l5 l6 y9
      by_cases hip:i=pos
      · rw [HQ2.out hip] at HAH
        subst hip;clear HQ1 HQ2
        go_wp2_with fail
        refine bA HK (by kernel_rfl) (by kernel_rfl) (by first|exact HO.out|exact HK.out.drew HO.out) ?_;intro C HIN HOUT;clear HO
        repeat
         (with_reducible refine wpQuiet_step (fun K hK=> ?_)
          go_simp
          first
           |(refine hK _ ?_;clear hK K)
           |(apply Exists.intro;refine ⟨fun w1 hC=> ?_,hK _ ?_⟩;(focus ((first|(go_at_call 46;with_reducible exact aU HIN HOUT HK HAH.out w1 hC)|(exact rfl)|(obtain ⟨hb1,⟨t0,_⟩,⟨t1,_⟩,⟨t2,_⟩,⟨t3,_⟩,⟨t4,_⟩,⟨t5,_⟩,⟨t6,_⟩,⟨t7,_⟩,⟨t8,_⟩,⟨t9,_⟩,⟨t10,_⟩,⟨t11,_⟩,⟨t12,_⟩,⟨t13,_⟩,⟨t14,_⟩⟩:=HOUT.out w1 hC;clear hC;go_simp;first|done|exact rfl));done));clear hK K))
        refine wpQuiet_nil ?_;intro wz hC;have HO:=aA (HOUT.out _ hC);clear hC HIN HOUT C;obtain ⟨hb1,⟨t0,_⟩,⟨t1,_⟩,⟨t2,_⟩,⟨t3,_⟩,⟨t4,_⟩,⟨t5,_⟩,⟨t6,_⟩,⟨t7,_⟩,⟨t8,_⟩,⟨t9,_⟩,⟨t10,_⟩,⟨t11,_⟩,⟨t12,_⟩,⟨t13,_⟩,⟨t14,_⟩⟩:=HO.out;have HBX:=aA hb1;clear hb1 HK HO t0 t1 t2 t3 t4 t5 t6 t7 t8 t9 t10 t11 t12 t13 t14;obtain ⟨_,y0,_,_⟩:=HBK.out _ HBX.out;have tok1:True:=trivial
        go_wp2_with (first
         |(have _t:=tok1;clear _t tok1;at_builtin;refine cH (B:=W.heap.size) (v:= .slice none 0 0) (xs:=[]) (news:=(R.take i).flatMap bU) (n:=0) (m:=i) (ad:=⟨g,0,none⟩) eJ Tryz.underlying22 rfl (by decide) (by decide) rfl (.tmp 48) (.tmp 54) rfl rfl ⟨rfl,Or.inl ⟨rfl,rfl⟩⟩ HBX.out.size rfl HL1.out (HN1.out _ (HBK.out _ HBX.out).2.2.2) HE1.out (by omega) ?_;intro y1 w6 ho6 hg6 hat6;rw [Nat.zero_add,List.nil_append] at ho6;obtain ⟨b1,d1,rfl⟩:=bN ho6;have HO6:=aA ho6;have HB6:Hid (Below W.heap.size W w6):=HBX.out.grown hg6 HBX.out.size (fun k hk=>by cases hk);clear ho6 hg6 hat6;obtain ⟨⟨l0,l1,l2,l3,l4,l5,l6⟩,z0,_,_⟩:=HBK.out _ HB6.out;have HO7:Hid ((w6.alloc (.cells #[.string P.nm,.int .i64 P.a,.int .i64 P.b,.int .i64 P.c,.slice a1 n1 c1,.slice a2 n2 c2,.slice a3 n3 c3] 34)).ownsRow W.heap.size 34 7 (.slice b1 (i) d1) (i) ((R.take i).flatMap bU)):=bG HO6.out (aD _ _);have HB7:Hid (Below W.heap.size W (w6.alloc (.cells #[.string P.nm,.int .i64 P.a,.int .i64 P.b,.int .i64 P.c,.slice a1 n1 c1,.slice a2 n2 c2,.slice a3 n3 c3] 34))):=aB HB6.out (aD _ _);have HNW:Hid (∀ j u,([.string P.nm,.int .i64 P.a,.int .i64 P.b,.int .i64 P.c,.slice a1 n1 c1,.slice a2 n2 c2,.slice a3 n3 c3]:List Value)[j]? =some u→(w6.alloc (.cells #[.string P.nm,.int .i64 P.a,.int .i64 P.b,.int .i64 P.c,.slice a1 n1 c1,.slice a2 n2 c2,.slice a3 n3 c3] 34)).cell? ((⟨w6.heap.size,0,none⟩:Addr).add j)=some u):=World.news_of_block (cs:= #[.string P.nm,.int .i64 P.a,.int .i64 P.b,.int .i64 P.c,.slice a1 n1 c1,.slice a2 n2 c2,.slice a3 n3 c3]) (t:=34) (fr:=(0,0)) (by show (w6.heap.push _)[_]? =_;rw [Array.getElem?_push,if_pos rfl]);have tok2:True:=trivial)
         |(have _t:=tok2;clear _t tok2;at_builtin;refine cH (B:=W.heap.size) (wx:=w6.alloc (.cells #[.string P.nm,.int .i64 P.a,.int .i64 P.b,.int .i64 P.c,.slice a1 n1 c1,.slice a2 n2 c2,.slice a3 n3 c3] 34)) (v:= .slice b1 (i) d1) (ad:=⟨w6.heap.size,0,none⟩) (n:=i) (m:=1) (news:=[.string P.nm,.int .i64 P.a,.int .i64 P.b,.int .i64 P.c,.slice a1 n1 c1,.slice a2 n2 c2,.slice a3 n3 c3]) eJ Tryz.underlying22 rfl (by decide) (by decide) rfl (.tmp 56) (.tmp 58) rfl rfl HO7.out HB7.out.size rfl rfl HNW.out (by simp [Value.oneCell']) (by omega) ?_;intro y2 w8 ho8 hg8 hat8;obtain ⟨b2,d2,rfl⟩:=bN ho8;have HO8:=aA ho8;have HB8:Hid (Below W.heap.size W w8):=HB7.out.grown hg8 HB7.out.size (fun k hk=>(World.ownsRow.lt HO7.out k hk).1);obtain ⟨_,z8,_,_⟩:=HBK.out _ HB8.out;clear ho8 hg8 hat8;have tok3:True:=trivial)
         |(have _t:=tok3;clear _t tok3;at_builtin;refine cH (B:=W.heap.size) (v:= .slice b2 (i+1) d2) (news:=(R.drop i).flatMap bU) (n:=i+1) (m:=R.length - i) (ad:=⟨g,i*7,none⟩) eJ Tryz.underlying22 rfl (by decide) (by decide) rfl (.tmp 60) (.tmp 66) rfl rfl HO8.out HB8.out.size rfl HL3.out (HN3.out _ (HBK.out _ HB8.out).2.2.2) HE3.out (by omega) ?_;intro y3 w9 ho9 hg9 hat9;obtain ⟨b3,d3,rfl⟩:=bN ho9;have HO9:=aA ho9;have HB9:Hid (Below W.heap.size W w9):=HB8.out.grown hg9 HB8.out.size (fun k hk=>(World.ownsRow.lt HO8.out k hk).1);clear ho9 hg9 hat9;obtain ⟨_,z9,fz9,_⟩:=HBK.out _ HB9.out))
        go_ret;exact ⟨rfl,HFIN.out _ _ _ _ (bZ HO9.out hwW) (by omega) HXS.out (HBK.out _ HB9.out).2.2.2⟩
      · have hip2:i<pos:=by omega
        rw [HQ1.out hip2] at HAH;clear HQ1 HQ2
        go_wp2_with fail
        refine bA HK (by kernel_rfl) (by kernel_rfl) (by first|exact HO.out|exact HK.out.drew HO.out) ?_;intro C HIN HOUT;clear HO
        repeat
         (with_reducible refine wpQuiet_step (fun K hK=> ?_)
          go_simp
          first
           |(refine hK _ ?_;clear hK K)
           |(apply Exists.intro;refine ⟨fun w1 hC=> ?_,hK _ ?_⟩;(focus ((first|(go_at_call 46;with_reducible exact aU HIN HOUT HK HAH.out w1 hC)|(exact rfl)|(obtain ⟨hb1,⟨t0,_⟩,⟨t1,_⟩,⟨t2,_⟩,⟨t3,_⟩,⟨t4,_⟩,⟨t5,_⟩,⟨t6,_⟩,⟨t7,_⟩,⟨t8,_⟩,⟨t9,_⟩,⟨t10,_⟩,⟨t11,_⟩,⟨t12,_⟩,⟨t13,_⟩,⟨t14,_⟩⟩:=HOUT.out w1 hC;clear hC;go_simp;first|done|exact rfl));done));clear hK K))
        refine wpQuiet_nil ?_;intro wz hC;have HO:=aA (HOUT.out _ hC);clear hC HIN HOUT C;obtain ⟨hb1,⟨t0,_⟩,⟨t1,_⟩,⟨t2,_⟩,⟨t3,_⟩,⟨t4,_⟩,⟨t5,_⟩,⟨t6,_⟩,⟨t7,_⟩,⟨t8,_⟩,⟨t9,_⟩,⟨t10,_⟩,⟨t11,_⟩,⟨t12,_⟩,⟨t13,_⟩,⟨t14,_⟩⟩:=HO.out
        go_wp2_with fail
        exact ⟨⟨i+1,by omega,by go_num,hb1⟩,by simp [intOf];omega⟩
    · have hki:¬ ((i:Int)<(R.length:Int)):=by omega
      have hip:i=pos:=by omega
      subst hip;obtain ⟨_,y9,_,_⟩:=HBK.out _ HB.out;have HK:Hid (KeepP fun w1=>Below W.heap.size W w1∧Sc.aF w1 E 0 (.slice (some ⟨g,0,none⟩) R.length cap)):=KeepP.and (aG W) (aP _ _ _);have HO:Hid (Below W.heap.size W wr∧Sc.aF wr E 0 (.slice (some ⟨g,0,none⟩) R.length cap)):=⟨HB.out,y9,Nat.lt_of_lt_of_le hEW HB.out.size⟩
      have HN4P:Hid (∀ (W2:World) (ad:Addr) j u,((R.drop i).flatMap bU)[j]? =some u→W2.cell? (ad.add j)=some u):=fun W2 ad j u hj=>by
       rw [List.drop_of_length_le (by omega)] at hj;cases hj
      have hd0:decide ((i:Int)<(R.length:Int))=false:=decide_eq_false hki;have hd1:decide (i<R.length)=false:=decide_eq_false hlt;clear y9
      go_wp2_with fail
      refine bA HK (by kernel_rfl) (by kernel_rfl) (by first|exact HO.out|exact HK.out.drew HO.out) ?_;intro C HIN HOUT;clear HO
      repeat
       (with_reducible refine wpQuiet_step (fun K hK=> ?_)
        go_simp
        first
         |(refine hK _ ?_;clear hK K)
         |(apply Exists.intro;refine ⟨fun w1 hC=> ?_,hK _ ?_⟩;(focus ((first|(exact rfl)|(obtain ⟨hb1,t0,_⟩:=HOUT.out w1 hC;clear hC;go_simp;first|done|exact rfl));done));clear hK K))
      refine wpQuiet_nil ?_;intro wz hC;have HO:=aA (HOUT.out _ hC);clear hC HIN HOUT C;obtain ⟨hb1,t0,_⟩:=HO.out;have HBX:=aA hb1;clear hb1 t0 HK HO hki hlt hd0 hd1
      by_cases hci:cap=i
      · subst hci
        have HXZ:Hid ((R.take cap).flatMap bU++[.string P.nm,.int .i64 P.a,.int .i64 P.b,.int .i64 P.c,.slice a1 n1 c1,.slice a2 n2 c2,.slice a3 n3 c3]++[]=(kH R ⟨P,.slice a1 n1 c1,.slice a2 n2 c2,.slice a3 n3 c3⟩).flatMap bU):=by
         have e:=HXS.out;rw [List.drop_of_length_le (show R.length≤cap from hcap)] at e;exact e
        obtain ⟨_,y0,_,_⟩:=HBK.out _ HBX.out;have tok1:True:=trivial
        go_wp2_with (first
         |(have _t:=tok1;clear _t tok1;at_builtin;refine cH (B:=W.heap.size) (v:= .slice none 0 0) (xs:=[]) (news:=(R.take cap).flatMap bU) (n:=0) (m:=cap) (ad:=⟨g,0,none⟩) eJ Tryz.underlying22 rfl (by decide) (by decide) rfl (.tmp 48) (.tmp 54) rfl rfl ⟨rfl,Or.inl ⟨rfl,rfl⟩⟩ HBX.out.size rfl HL1.out (HN1.out _ (HBK.out _ HBX.out).2.2.2) HE1.out (by omega) ?_;intro y1 w6 ho6 hg6 hat6;rw [Nat.zero_add,List.nil_append] at ho6;obtain ⟨b1,d1,rfl⟩:=bN ho6;have HO6:=aA ho6;have HB6:Hid (Below W.heap.size W w6):=HBX.out.grown hg6 HBX.out.size (fun k hk=>by cases hk);clear ho6 hg6 hat6;obtain ⟨⟨l0,l1,l2,l3,l4,l5,l6⟩,z0,_,_⟩:=HBK.out _ HB6.out;have HO7:Hid ((w6.alloc (.cells #[.string P.nm,.int .i64 P.a,.int .i64 P.b,.int .i64 P.c,.slice a1 n1 c1,.slice a2 n2 c2,.slice a3 n3 c3] 34)).ownsRow W.heap.size 34 7 (.slice b1 (cap) d1) (cap) ((R.take cap).flatMap bU)):=bG HO6.out (aD _ _);have HB7:Hid (Below W.heap.size W (w6.alloc (.cells #[.string P.nm,.int .i64 P.a,.int .i64 P.b,.int .i64 P.c,.slice a1 n1 c1,.slice a2 n2 c2,.slice a3 n3 c3] 34))):=aB HB6.out (aD _ _);have HNW:Hid (∀ j u,([.string P.nm,.int .i64 P.a,.int .i64 P.b,.int .i64 P.c,.slice a1 n1 c1,.slice a2 n2 c2,.slice a3 n3 c3]:List Value)[j]? =some u→(w6.alloc (.cells #[.string P.nm,.int .i64 P.a,.int .i64 P.b,.int .i64 P.c,.slice a1 n1 c1,.slice a2 n2 c2,.slice a3 n3 c3] 34)).cell? ((⟨w6.heap.size,0,none⟩:Addr).add j)=some u):=World.news_of_block (cs:= #[.string P.nm,.int .i64 P.a,.int .i64 P.b,.int .i64 P.c,.slice a1 n1 c1,.slice a2 n2 c2,.slice a3 n3 c3]) (t:=34) (fr:=(0,0)) (by show (w6.heap.push _)[_]? =_;rw [Array.getElem?_push,if_pos rfl]);have tok2:True:=trivial)
         |(have _t:=tok2;clear _t tok2;at_builtin;refine cH (B:=W.heap.size) (wx:=w6.alloc (.cells #[.string P.nm,.int .i64 P.a,.int .i64 P.b,.int .i64 P.c,.slice a1 n1 c1,.slice a2 n2 c2,.slice a3 n3 c3] 34)) (v:= .slice b1 (cap) d1) (ad:=⟨w6.heap.size,0,none⟩) (n:=cap) (m:=1) (news:=[.string P.nm,.int .i64 P.a,.int .i64 P.b,.int .i64 P.c,.slice a1 n1 c1,.slice a2 n2 c2,.slice a3 n3 c3]) eJ Tryz.underlying22 rfl (by decide) (by decide) rfl (.tmp 56) (.tmp 58) rfl rfl HO7.out HB7.out.size rfl rfl HNW.out (by simp [Value.oneCell']) (by omega) ?_;intro y2 w8 ho8 hg8 hat8;obtain ⟨b2,d2,rfl⟩:=bN ho8;have HO8:=aA ho8;have HB8:Hid (Below W.heap.size W w8):=HB7.out.grown hg8 HB7.out.size (fun k hk=>(World.ownsRow.lt HO7.out k hk).1);obtain ⟨_,z8,_,_⟩:=HBK.out _ HB8.out;clear ho8 hg8 hat8;have tok3:True:=trivial)
         |(have _t:=tok3;clear _t tok3;at_builtin;refine cH (B:=W.heap.size) (v:= .slice b2 (cap+1) d2) (news:=[]) (n:=cap+1) (m:=0) (ad:=⟨g,0,none⟩) eJ Tryz.underlying22 rfl (by decide) (by decide) rfl (.tmp 60) (.tmp 66) rfl rfl HO8.out HB8.out.size rfl rfl (fun j u hj=>by cases hj) (fun u hu=>by cases hu) (by omega) ?_;intro y3 w9 ho9 hg9 hat9;obtain ⟨b3,d3,rfl⟩:=bN ho9;have HO9:=aA ho9;have HB9:Hid (Below W.heap.size W w9):=HB8.out.grown hg9 HB8.out.size (fun k hk=>(World.ownsRow.lt HO8.out k hk).1);clear ho9 hg9 hat9;obtain ⟨_,z9,fz9,_⟩:=HBK.out _ HB9.out))
        go_ret;exact ⟨rfl,HFIN.out _ _ _ _ (bZ HO9.out hwW) (by omega) HXZ.out (HBK.out _ HB9.out).2.2.2⟩
      · obtain ⟨_,y0,_,_⟩:=HBK.out _ HBX.out
        have tok1:True:=trivial
        go_wp2_with (first
         |(have _t:=tok1;clear _t tok1;at_builtin;refine cH (B:=W.heap.size) (v:= .slice none 0 0) (xs:=[]) (news:=(R.take i).flatMap bU) (n:=0) (m:=i) (ad:=⟨g,0,none⟩) eJ Tryz.underlying22 rfl (by decide) (by decide) rfl (.tmp 48) (.tmp 54) rfl rfl ⟨rfl,Or.inl ⟨rfl,rfl⟩⟩ HBX.out.size rfl HL1.out (HN1.out _ (HBK.out _ HBX.out).2.2.2) HE1.out (by omega) ?_;intro y1 w6 ho6 hg6 hat6;rw [Nat.zero_add,List.nil_append] at ho6;obtain ⟨b1,d1,rfl⟩:=bN ho6;have HO6:=aA ho6;have HB6:Hid (Below W.heap.size W w6):=HBX.out.grown hg6 HBX.out.size (fun k hk=>by cases hk);clear ho6 hg6 hat6;obtain ⟨⟨l0,l1,l2,l3,l4,l5,l6⟩,z0,_,_⟩:=HBK.out _ HB6.out;have HO7:Hid ((w6.alloc (.cells #[.string P.nm,.int .i64 P.a,.int .i64 P.b,.int .i64 P.c,.slice a1 n1 c1,.slice a2 n2 c2,.slice a3 n3 c3] 34)).ownsRow W.heap.size 34 7 (.slice b1 (i) d1) (i) ((R.take i).flatMap bU)):=bG HO6.out (aD _ _);have HB7:Hid (Below W.heap.size W (w6.alloc (.cells #[.string P.nm,.int .i64 P.a,.int .i64 P.b,.int .i64 P.c,.slice a1 n1 c1,.slice a2 n2 c2,.slice a3 n3 c3] 34))):=aB HB6.out (aD _ _);have HNW:Hid (∀ j u,([.string P.nm,.int .i64 P.a,.int .i64 P.b,.int .i64 P.c,.slice a1 n1 c1,.slice a2 n2 c2,.slice a3 n3 c3]:List Value)[j]? =some u→(w6.alloc (.cells #[.string P.nm,.int .i64 P.a,.int .i64 P.b,.int .i64 P.c,.slice a1 n1 c1,.slice a2 n2 c2,.slice a3 n3 c3] 34)).cell? ((⟨w6.heap.size,0,none⟩:Addr).add j)=some u):=World.news_of_block (cs:= #[.string P.nm,.int .i64 P.a,.int .i64 P.b,.int .i64 P.c,.slice a1 n1 c1,.slice a2 n2 c2,.slice a3 n3 c3]) (t:=34) (fr:=(0,0)) (by show (w6.heap.push _)[_]? =_;rw [Array.getElem?_push,if_pos rfl]);have tok2:True:=trivial)
         |(have _t:=tok2;clear _t tok2;at_builtin;refine cH (B:=W.heap.size) (wx:=w6.alloc (.cells #[.string P.nm,.int .i64 P.a,.int .i64 P.b,.int .i64 P.c,.slice a1 n1 c1,.slice a2 n2 c2,.slice a3 n3 c3] 34)) (v:= .slice b1 (i) d1) (ad:=⟨w6.heap.size,0,none⟩) (n:=i) (m:=1) (news:=[.string P.nm,.int .i64 P.a,.int .i64 P.b,.int .i64 P.c,.slice a1 n1 c1,.slice a2 n2 c2,.slice a3 n3 c3]) eJ Tryz.underlying22 rfl (by decide) (by decide) rfl (.tmp 56) (.tmp 58) rfl rfl HO7.out HB7.out.size rfl rfl HNW.out (by simp [Value.oneCell']) (by omega) ?_;intro y2 w8 ho8 hg8 hat8;obtain ⟨b2,d2,rfl⟩:=bN ho8;have HO8:=aA ho8;have HB8:Hid (Below W.heap.size W w8):=HB7.out.grown hg8 HB7.out.size (fun k hk=>(World.ownsRow.lt HO7.out k hk).1);obtain ⟨_,z8,_,_⟩:=HBK.out _ HB8.out;clear ho8 hg8 hat8;have tok3:True:=trivial)
         |(have _t:=tok3;clear _t tok3;at_builtin;refine cH (B:=W.heap.size) (v:= .slice b2 (i+1) d2) (news:=(R.drop i).flatMap bU) (n:=i+1) (m:=R.length - i) (ad:=⟨g,i*7,none⟩) eJ Tryz.underlying22 rfl (by decide) (by decide) rfl (.tmp 60) (.tmp 66) rfl rfl HO8.out HB8.out.size rfl HL3.out (HN4P.out _ _) HE3.out (by omega) ?_;intro y3 w9 ho9 hg9 hat9;obtain ⟨b3,d3,rfl⟩:=bN ho9;have HO9:=aA ho9;have HB9:Hid (Below W.heap.size W w9):=HB8.out.grown hg9 HB8.out.size (fun k hk=>(World.ownsRow.lt HO8.out k hk).1);clear ho9 hg9 hat9;obtain ⟨_,z9,fz9,_⟩:=HBK.out _ HB9.out))
        go_ret;exact ⟨rfl,HFIN.out _ _ _ _ (bZ HO9.out hwW) (by omega) HXS.out (HBK.out _ HB9.out).2.2.2⟩
theorem uN:∀ (a b:List UInt8),Op.bytesLess a b=false→a≠b→Op.bytesLess b a=true
 |[],[],_,h=>absurd rfl h
 |[],_::_,h,_=>by cases h
 |_::_,[],_,_=>rfl
 |x::a,y::b,h,hn=>by
  have h':(decide (x<y)||(x==y&&Op.bytesLess a b))=false:=h;show (decide (y<x)||(y==x&&Op.bytesLess b a))=true;rw [Bool.or_eq_false_iff,decide_eq_false_iff_not] at h';obtain ⟨h1,h2⟩:=h';rw [Bool.or_eq_true,decide_eq_true_eq]
  by_cases e:x=y
  · subst e
    right
    rw [beq_self_eq_true,Bool.true_and] at h2 ⊢;exact uN a b h2 (fun q=>hn (by rw [q]))
  · left
    rcases UInt8.lt_or_lt_of_ne e with q|q
    · exact absurd q h1
    · exact q
theorem qJ:∀ (a b:List UInt8),Op.bytesLess a b=bytesBefore a b
 |[],[]=>rfl
 |[],_::_=>rfl
 |_::_,[]=>rfl
 |x::a,y::b=>by
  show (decide (x<y)||(x==y&&Op.bytesLess a b))=(decide (x<y)||(x==y&&bytesBefore a b));rw [qJ a b]
theorem jH (s t:ByteArray):ltS s t=bytesBefore s.data.toList t.data.toList:=by
 unfold ltS;rw [qJ,ByteArray.toList_eq,ByteArray.toList_eq]
theorem lI {s t:ByteArray} (h:ltS s t=false) (hn:s≠t):ltS t s=true:=uN _ _ h (fun e=>hn (bO e))
theorem zJ (s:ByteArray):ltS s s=false:=xA _
theorem lJ {s t u:ByteArray} (h:ltS s t=true) (h':ltS t u=true):ltS s u=true:=nW h h'
def zK (so:List Pn):Prop:=so.Pairwise fun x y=>ltS x.nm y.nm=true
theorem uO {ts so od:List Pn} (h1:ts.Perm od) (h2:ts.Pairwise fun x y=>ltP y x=false) (hn:(od.map Pn.nm).Nodup) (h3:so.Perm od) (h4:zK so):ts=so:=by
 have hne:ts.Pairwise fun x y=>x.nm≠y.nm:=by
  have e:(ts.map Pn.nm).Nodup:=(h1.map Pn.nm).nodup_iff.2 hn;rw [List.nodup_iff_pairwise_ne,List.pairwise_map] at e;exact e
 have h5:ts.Pairwise fun x y=>ltS x.nm y.nm=true:=(h2.and hne).imp fun {x y} q=>by
  refine lI ?_ (fun e=>q.2 e.symm);rw [jH];exact q.1
 refine List.Perm.eq_of_pairwise (le:=fun x y:Pn=>ltS x.nm y.nm=true) (fun a b _ _ g1 g2=> ?_) h5 h4 (h1.trans h3.symm)
 have:=lJ g1 g2
 rw [zJ] at this;cases this
end Go.Proofs.YtpfemjlhklnfoaaGreatDoor
