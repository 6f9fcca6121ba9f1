/- Vers1, Pn0, Gr0: their declarations that are needed, laid in one text, remarks and blanks left out. -/
import Derived.Test.YtpfemjlhklnfoaaGreatDoorRows
import Derived.WalkKit
import Derived.WalkSpells
import Derived.WalkLawsBesides
namespace Go.Proofs.YtpfemjlhklnfoaaGreatDoor
open Go.RowKit
set_option maxRecDepth 100000
def eL (n:Int):Bool:=decide (0≤n)&&decide (n≤999)
def aN (a b c:Int):Bool:=eL a&&eL b&&eL c
theorem aC {a b:Bool} (h:a=b):Ending.returned (.bool a)= .returned (.bool b):=by rw [h]
theorem bE {a b:Int} (h:a=b):Ending.returned (.int .i64 a)= .returned (.int .i64 b):=by rw [h]
set_option maxHeartbeats 400000 in
theorem sZ (n:Int) (w:World):
 Calls Tryz.prog 156 #[.int .i64 n] w fun e w'=>e= .returned (.bool (eL n))∧w'=w:=by
 go_enter Tryz.func156,Tryz.ntmps156
 go_wp2
 all_goals
  go_ret;refine ⟨aC ?_,rfl⟩;rw [Bool.eq_iff_iff];simp [eL];omega
set_option maxHeartbeats 400000 in
theorem EB (n:Int) (w:World):
 Calls Tryz.prog 139 #[.int .i64 n] w fun e w'=>e= .returned (.bool (eL n))∧w'=w:=by
 go_enter Tryz.func139,Tryz.ntmps139
 go_wp2
 all_goals
  go_ret;refine ⟨aC ?_,rfl⟩;rw [Bool.eq_iff_iff];simp [eL];omega
theorem EC {w w':World} {x y z:Value} (hb:Below (w.alloc (.cells #[x,y,z] 31)).heap.size (w.alloc (.cells #[x,y,z] 31)) w'):
 w'.cell? ⟨w.heap.size,0,none⟩=some x∧w'.cell? ⟨w.heap.size,1,none⟩=some y∧w'.cell? ⟨w.heap.size,2,none⟩=some z∧w.heap.size<w'.heap.size∧Below w.heap.size w w':=by
 have hl:w.heap.size<(w.alloc (.cells #[x,y,z] 31)).heap.size:=by simp
 refine ⟨?_,?_,?_,Nat.lt_of_lt_of_le hl hb.size,((Below.refl _ _).alloc (Nat.le_refl _) _).trans (hb.mono (Nat.le_of_lt hl))⟩
 · rw [hb.cell (p:=⟨w.heap.size,0,none⟩) hl];simp
 · rw [hb.cell (p:=⟨w.heap.size,1,none⟩) hl];simp
 · rw [hb.cell (p:=⟨w.heap.size,2,none⟩) hl];simp
theorem aD (w:World) (o:Obj):Below w.heap.size w (w.alloc o):=(Below.refl _ _).alloc (Nat.le_refl _) _
theorem aR (w:World) (o u:Obj):Below w.heap.size w ((w.alloc o).alloc u):=(aD w o).alloc (by simp) u
theorem LT (w:World) (o u v:Obj):Below w.heap.size w (((w.alloc o).alloc u).alloc v):=(aR w o u).alloc (by simp;omega) v
theorem aB {w w1 w':World} (h:Below w.heap.size w w1) (hb:Below w1.heap.size w1 w'):Below w.heap.size w w':=h.trans (hb.mono h.size)
theorem ED {w w':World} {N:Nat} {x y z:Value} (hN:w.heap.size=N) (hb:Below (w.alloc (.cells #[x,y,z] 31)).heap.size (w.alloc (.cells #[x,y,z] 31)) w'):
 w'.cell? ⟨N,0,none⟩=some x∧w'.cell? ⟨N,1,none⟩=some y∧w'.cell? ⟨N,2,none⟩=some z∧w'.frozen? ⟨N,0,none⟩=false∧w'.frozen? ⟨N,1,none⟩=false∧w'.frozen? ⟨N,2,none⟩=false∧N<w'.heap.size:=by
 subst hN;have hl:w.heap.size<(w.alloc (.cells #[x,y,z] 31)).heap.size:=by simp
 obtain ⟨h0,h1,h2,h3,_⟩:=EC hb;refine ⟨h0,h1,h2,?_,?_,?_,h3⟩
 · rw [hb.frozen (p:=⟨w.heap.size,0,none⟩) hl];simp
 · rw [hb.frozen (p:=⟨w.heap.size,1,none⟩) hl];simp
 · rw [hb.frozen (p:=⟨w.heap.size,2,none⟩) hl];simp
theorem NP {w w':World} {N:Nat} {x y z:Value} (hb:Below w.heap.size w w') (hl:N<w.heap.size) (c0:w.cell? ⟨N,0,none⟩=some x) (c1:w.cell? ⟨N,1,none⟩=some y) (c2:w.cell? ⟨N,2,none⟩=some z):
 w'.cell? ⟨N,0,none⟩=some x∧w'.cell? ⟨N,1,none⟩=some y∧w'.cell? ⟨N,2,none⟩=some z∧N<w'.heap.size:=
 ⟨(hb.cell (p:=⟨N,0,none⟩) hl).trans c0,(hb.cell (p:=⟨N,1,none⟩) hl).trans c1,(hb.cell (p:=⟨N,2,none⟩) hl).trans c2,Nat.lt_of_lt_of_le hl hb.size⟩
set_option maxHeartbeats 400000 in
theorem dX (a b c:Int) (w:World):
 Calls Tryz.prog 97 #[.agg #[.int .i64 a,.int .i64 b,.int .i64 c]] w fun e w'=>e= .returned (.bool (aN a b c))∧Below w.heap.size w w':=by
 have hp:=sZ;cases ha:eL a<;>cases hb:eL b<;>cases hc:eL c<;>
 · go_enter Tryz.func97,Tryz.ntmps97
   go_wp2_with (go_at_call 156;refine (hp _ _).mono ?_;rintro e w' ⟨rfl,rfl⟩)
   go_ret;exact ⟨aC (by simp [aN,ha,hb,hc]),aD _ _⟩
set_option maxHeartbeats 400000 in
theorem gN (a b c:Int) (w:World):
 Calls Tryz.prog 86 #[.agg #[.int .i64 a,.int .i64 b,.int .i64 c]] w fun e w'=>e= .returned (.bool (aN a b c))∧Below w.heap.size w w':=by
 have hp:=EB;cases ha:eL a<;>cases hb:eL b<;>cases hc:eL c<;>
 · go_enter Tryz.func86,Tryz.ntmps86
   go_wp2_with (go_at_call 139;refine (hp _ _).mono ?_;rintro e w' ⟨rfl,rfl⟩)
   go_ret;exact ⟨aC (by simp [aN,ha,hb,hc]),aD _ _⟩
def bR (a b c x y z:Int):Int:=if a=x then (if b=y then (if c=z then 0 else if c<z then -1 else 1) else if b<y then -1 else 1) else if a<x then -1 else 1
def iQ (a b c x y z:Int):Bool:=if a=x then (if b=y then decide (c<z) else decide (b<y)) else decide (a<x)
set_option maxHeartbeats 400000 in
theorem EE (a b c x y z:Int) (w:World):
 Calls Tryz.prog 153 #[.agg #[.int .i64 a,.int .i64 b,.int .i64 c],.agg #[.int .i64 x,.int .i64 y,.int .i64 z]] w fun e w'=>e= .returned (.bool (iQ a b c x y z))∧Below w.heap.size w w':=by
 go_enter Tryz.func153,Tryz.ntmps153
 go_wp2
 all_goals
  go_ret;exact ⟨aC (by unfold iQ;simp_all),((Below.refl _ _).alloc (Nat.le_refl _) _).alloc (by simp) _⟩
theorem vX (a b c x y z:Int) (w:World):(binOp .eql 31 (.agg #[.int .i64 a,.int .i64 b,.int .i64 c]) (.agg #[.int .i64 x,.int .i64 y,.int .i64 z])).run Tryz.prog w= .ok (.bool (decide (a=x∧b=y∧c=z))) w:=by
 have u3:=Tryz.underlying3;have a3:=Tryz.isAgg3;have z3:=Tryz.sizeOf3;have hS:Tryz.prog.underlying 31=some (.struct (Tryz.prog.fieldsOf 31)):=by kernel_rfl
 have hp:Tryz.prog.stoodInHeld 31=false:=by kernel_rfl
 rw [run_eql_struct,show (10000:Nat)=9999+1 from rfl,run_equalIn_agg w 9999 31 _ _ hS hp];simp only [Program.fieldsOf,Tryz.underlying31]
 by_cases h1:a=x<;>by_cases h2:b=y<;>by_cases h3:c=z<;>go_simp<;>simp_all
theorem OH (a b c x y z:Int) (w:World):(binOp .neq 31 (.agg #[.int .i64 a,.int .i64 b,.int .i64 c]) (.agg #[.int .i64 x,.int .i64 y,.int .i64 z])).run Tryz.prog w= .ok (.bool (!decide (a=x∧b=y∧c=z))) w:=by
 have u3:=Tryz.underlying3;have a3:=Tryz.isAgg3;have z3:=Tryz.sizeOf3;have hS:Tryz.prog.underlying 31=some (.struct (Tryz.prog.fieldsOf 31)):=by kernel_rfl
 have hp:Tryz.prog.stoodInHeld 31=false:=by kernel_rfl
 rw [run_neq_struct,show (10000:Nat)=9999+1 from rfl,run_equalIn_agg w 9999 31 _ _ hS hp];simp only [Program.fieldsOf,Tryz.underlying31]
 by_cases h1:a=x<;>by_cases h2:b=y<;>by_cases h3:c=z<;>go_simp<;>simp_all
theorem iW (op:BinOp) (x y:Operand) (xs ys:Array Value) (w:World):(eqGuard op 31 x y (.agg xs) (.agg ys)).run Tryz.prog w= .ok () w:=run_eqGuard_agg w op 31 x y xs ys (by kernel_rfl)
set_option maxHeartbeats 800000 in
theorem fF (a b c x y z:Int) (w:World):
 Calls Tryz.prog 95 #[.agg #[.int .i64 a,.int .i64 b,.int .i64 c],.agg #[.int .i64 x,.int .i64 y,.int .i64 z]] w fun e w'=>e= .returned (.int .i64 (bR a b c x y z))∧Below w.heap.size w w':=by
 have he:=vX a b c x y z;have hg:=iW;have hl:=EE a b c x y z
 by_cases h:a=x∧b=y∧c=z
 · have HC:Hid (bR a b c x y z=0):=by unfold Hid bR;obtain ⟨h1,h2,h3⟩:=h;rw [if_pos h1,if_pos h2,if_pos h3]
   rw [decide_eq_true h] at he;clear h
   go_enter Tryz.func95,Tryz.ntmps95
   go_wp2
   go_ret;exact ⟨bE HC.out.symm,aR _ _ _⟩
 · rw [decide_eq_false h] at he
   cases hc:iQ a b c x y z
   · have HC:Hid (bR a b c x y z=1):=by unfold Hid bR;unfold iQ at hc;grind
     rw [hc] at hl;clear h hc
     go_enter Tryz.func95,Tryz.ntmps95
     go_wp2_with (go_at_call 153;refine (hl _).mono ?_;rintro e w' ⟨rfl,hb⟩)
     go_ret;exact ⟨bE HC.out.symm,aB (aR _ _ _) hb⟩
   · have HC:Hid (bR a b c x y z= -1):=by unfold Hid bR;unfold iQ at hc;grind
     rw [hc] at hl;clear h hc
     go_enter Tryz.func95,Tryz.ntmps95
     go_wp2_with (go_at_call 153;refine (hl _).mono ?_;rintro e w' ⟨rfl,hb⟩)
     go_ret;exact ⟨bE HC.out.symm,aB (aR _ _ _) hb⟩
structure Pn where
 nm:ByteArray
 a:Int
 b:Int
 c:Int
def PnIn (w:World) (g o:Nat) (p:Pn):Prop:=(w.cell? ⟨g,o,none⟩=some (.string p.nm)∧w.cell? ⟨g,o+1,none⟩=some (.int .i64 p.a)∧w.cell? ⟨g,o+2,none⟩=some (.int .i64 p.b)∧w.cell? ⟨g,o+3,none⟩=some (.int .i64 p.c))∧g<w.heap.size
def PinsAt (w:World) (v:Value) (L:List Pn):Prop:=∃ ad cap,v= .slice ad L.length cap∧L.length≤cap∧(L=[]∨∃ g o,ad=some ⟨g,o,none⟩∧g<w.heap.size∧∀ i (h:i<L.length),PnIn w g (o+i*4) L[i])
theorem PnIn.below {w w':World} {g o:Nat} {p:Pn} (h:PnIn w g o p) (hb:Below w.heap.size w w'):PnIn w' g o p:=by
 obtain ⟨⟨h0,h1,h2,h3⟩,hg⟩:=h;have q:∀ i,w'.cell? ⟨g,i,none⟩=w.cell? ⟨g,i,none⟩:=fun i=>hb.cell (p:=⟨g,i,none⟩) hg
 exact ⟨⟨by rw [q];exact h0,by rw [q];exact h1,by rw [q];exact h2,by rw [q];exact h3⟩,Nat.lt_of_lt_of_le hg hb.size⟩
theorem PinsAt.below {w w':World} {v:Value} {L:List Pn} (h:PinsAt w v L) (hb:Below w.heap.size w w'):PinsAt w' v L:=by
 obtain ⟨ad,cap,hv,hc,hl⟩:=h;refine ⟨ad,cap,hv,hc,hl.imp id ?_⟩;rintro ⟨g,o,ha,hg,hs⟩;exact ⟨g,o,ha,Nat.lt_of_lt_of_le hg hb.size,fun i hi=>(hs i hi).below hb⟩
theorem PinsAt.sl {w:World} {v:Value} {L:List Pn} (h:PinsAt w v L):∃ ad cap,v= .slice ad L.length cap:=by
 obtain ⟨ad,cap,hv,_⟩:=h;exact ⟨ad,cap,hv⟩
structure Eg where
 lb:ByteArray
 to:Int
structure Nd where
 nm:ByteArray
 a:Int
 b:Int
 c:Int
 cx:List Pn
 ed:List Eg
def EgIn (w:World) (g o:Nat) (e:Eg):Prop:=(w.cell? ⟨g,o,none⟩=some (.string e.lb)∧w.cell? ⟨g,o+1,none⟩=some (.int .i64 e.to))∧g<w.heap.size
def EdgesAt (w:World) (v:Value) (L:List Eg):Prop:=∃ ad cap,v= .slice ad L.length cap∧L.length≤cap∧(L=[]∨∃ g o,ad=some ⟨g,o,none⟩∧g<w.heap.size∧∀ i (h:i<L.length),EgIn w g (o+i*2) L[i])
theorem EgIn.below {w w':World} {g o:Nat} {p:Eg} (h:EgIn w g o p) (hb:Below w.heap.size w w'):EgIn w' g o p:=by
 obtain ⟨⟨h0,h1⟩,hg⟩:=h;have q:∀ i,w'.cell? ⟨g,i,none⟩=w.cell? ⟨g,i,none⟩:=fun i=>hb.cell (p:=⟨g,i,none⟩) hg
 exact ⟨⟨by rw [q];exact h0,by rw [q];exact h1⟩,Nat.lt_of_lt_of_le hg hb.size⟩
theorem EdgesAt.below {w w':World} {v:Value} {L:List Eg} (h:EdgesAt w v L) (hb:Below w.heap.size w w'):EdgesAt w' v L:=by
 obtain ⟨ad,cap,hv,hc,hl⟩:=h;refine ⟨ad,cap,hv,hc,hl.imp id ?_⟩;rintro ⟨g,o,ha,hg,hs⟩;exact ⟨g,o,ha,Nat.lt_of_lt_of_le hg hb.size,fun i hi=>(hs i hi).below hb⟩
theorem EdgesAt.sl {w:World} {v:Value} {L:List Eg} (h:EdgesAt w v L):∃ ad cap,v= .slice ad L.length cap:=by
 obtain ⟨ad,cap,hv,_⟩:=h;exact ⟨ad,cap,hv⟩
def NdIn (w:World) (g o:Nat) (n:Nd) (vc ve:Value):Prop:=(w.cell? ⟨g,o,none⟩=some (.string n.nm)∧w.cell? ⟨g,o+1,none⟩=some (.int .i64 n.a)∧w.cell? ⟨g,o+2,none⟩=some (.int .i64 n.b)∧w.cell? ⟨g,o+3,none⟩=some (.int .i64 n.c)∧w.cell? ⟨g,o+4,none⟩=some vc∧w.cell? ⟨g,o+5,none⟩=some ve)∧(PinsAt w vc n.cx∧EdgesAt w ve n.ed)∧g<w.heap.size
theorem NdIn.below {w w':World} {g o:Nat} {n:Nd} {vc ve:Value} (h:NdIn w g o n vc ve) (hb:Below w.heap.size w w'):NdIn w' g o n vc ve:=by
 obtain ⟨⟨h0,h1,h2,h3,h4,h5⟩,⟨h6,h7⟩,hg⟩:=h;have q:∀ i,w'.cell? ⟨g,i,none⟩=w.cell? ⟨g,i,none⟩:=fun i=>hb.cell (p:=⟨g,i,none⟩) hg
 exact ⟨⟨by rw [q];exact h0,by rw [q];exact h1,by rw [q];exact h2,by rw [q];exact h3,by rw [q];exact h4,by rw [q];exact h5⟩,⟨h6.below hb,h7.below hb⟩,Nat.lt_of_lt_of_le hg hb.size⟩
def NodesAt (w:World) (v:Value) (G:List Nd):Prop:=∃ ad cap,v= .slice ad G.length cap∧G.length≤cap∧(G=[]∨∃ g o,ad=some ⟨g,o,none⟩∧g<w.heap.size∧∀ i (h:i<G.length),∃ vc ve,NdIn w g (o+i*6) G[i] vc ve)
theorem NodesAt.below {w w':World} {v:Value} {L:List Nd} (h:NodesAt w v L) (hb:Below w.heap.size w w'):NodesAt w' v L:=by
 obtain ⟨ad,cap,hv,hc,hl⟩:=h;refine ⟨ad,cap,hv,hc,hl.imp id ?_⟩;rintro ⟨g,o,ha,hg,hs⟩;exact ⟨g,o,ha,Nat.lt_of_lt_of_le hg hb.size,fun i hi=>by obtain ⟨vc,ve,h⟩:=hs i hi;exact ⟨vc,ve,h.below hb⟩⟩
end Go.Proofs.YtpfemjlhklnfoaaGreatDoor
