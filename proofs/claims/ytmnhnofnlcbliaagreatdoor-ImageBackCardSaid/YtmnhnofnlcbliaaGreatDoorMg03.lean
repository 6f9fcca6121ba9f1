/- Vers5, Facts1, Boxes, Sp1, Sp2, Sp3, Pure1: their declarations that are needed, laid in one text, remarks and blanks left out. -/
import Derived.Test.YtmnhnofnlcbliaaGreatDoorShelfA
import Derived.Deep.RegionHeld3
import Derived.Deep.RegionWith
import Derived.Test.YtmnhnofnlcbliaaGreatDoorMg02
namespace Go.Proofs.YtmnhnofnlcbliaaGreatDoor
open Go.RowKit
set_option maxRecDepth 100000
def aL (a b c:Int):ByteArray:=if bB a b c=true then (((⟨(Lib.itoa a).toArray⟩++⟨#[46]⟩)++⟨(Lib.itoa b).toArray⟩)++⟨#[46]⟩)++⟨(Lib.itoa c).toArray⟩ else ByteArray.empty
def Spells (w:World) (n:Int) (S:ByteArray):Prop:=∀ w1,Below w.heap.size w w1→Calls Tryz.prog 170 #[.int .i64 n] w1 fun e w'=>e= .returned (.string S)∧Below w1.heap.size w1 w'
theorem Spells.next {w:World} {n:Int} {S:ByteArray} (h:Spells w n S) {N:Nat} {x y z:Value} (w1:World) (hb:Below w.heap.size w w1) (hl:N<w1.heap.size) (c0:w1.cell? ⟨N,0,none⟩=some x) (c1:w1.cell? ⟨N,1,none⟩=some y) (c2:w1.cell? ⟨N,2,none⟩=some z):
 Calls Tryz.prog 170 #[.int .i64 n] w1 fun e w'=>e= .returned (.string S)∧w'.cell? ⟨N,0,none⟩=some x∧w'.cell? ⟨N,1,none⟩=some y∧w'.cell? ⟨N,2,none⟩=some z∧N<w'.heap.size∧Below w.heap.size w w':=by
 refine (h w1 hb).mono ?_;rintro e w' ⟨rfl,hb1⟩;exact ⟨rfl,(hb1.cell (p:=⟨N,0,none⟩) hl).trans c0,(hb1.cell (p:=⟨N,1,none⟩) hl).trans c1,(hb1.cell (p:=⟨N,2,none⟩) hl).trans c2,Nat.lt_of_lt_of_le hl hb1.size,hb.trans (hb1.mono hb.size)⟩
theorem RH {u:Nat} (h:u<1000):(Lib.decDigits u).length≤3:=by
 rw [Lib.decDigits]
 split
 · simp
 · rw [Lib.decDigits]
   split
   · simp
   · rw [Lib.decDigits_one (by omega)];simp
theorem eI {n:Int} (h0:0≤n) (h1:n≤999):(⟨(Lib.itoa n).toArray⟩:ByteArray).size≤3:=by
 obtain ⟨u,rfl⟩:∃ u:Nat,n=u:=⟨n.toNat,by omega⟩;rw [Lib.itoa_nonneg]
 have:=RH (u:=u) (by omega)
 show (Lib.decDigits u).toArray.size≤3
 simpa using this
theorem cS (x y:ByteArray):(x++y).size=x.size+y.size:=ByteArray.size_append
theorem OL {a b:ByteArray} (h:a=b):Ending.returned (.string a)= .returned (.string b):=by rw [h]
set_option maxHeartbeats 1600000 in
theorem yW (a b c:Int) (w:World) (ha:bB a b c=true→Spells w a ⟨(Lib.itoa a).toArray⟩) (hb:bB a b c=true→Spells w b ⟨(Lib.itoa b).toArray⟩) (hc:bB a b c=true→Spells w c ⟨(Lib.itoa c).toArray⟩):
 Calls Tryz.prog 125 #[.agg #[.int .i64 a,.int .i64 b,.int .i64 c]] w fun e w'=>e= .returned (.string (aL a b c))∧Below w.heap.size w w':=by
 have HM:Hid (∀ w1,Calls Tryz.prog 159 #[.agg #[.int .i64 a,.int .i64 b,.int .i64 c]] w1 fun e w'=>e= .returned (.bool (bB a b c))∧Below w1.heap.size w1 w'):=jP a b c;cases hm:bB a b c
 · have HR:Hid (aL a b c=ByteArray.empty):=by unfold Hid aL;rw [hm];rfl
   rw [hm] at HM;clear ha hb hc
   go_enter Tryz.func125,Tryz.ntmps125
   go_wp2_with (go_at_call 159;refine (HM.out _).mono ?_;rintro e w' ⟨rfl,hb⟩)
   go_returns;exact ⟨OL HR.out.symm,aA (aC _ _) hb⟩
 · have HR:Hid (aL a b c=(((⟨(Lib.itoa a).toArray⟩++⟨#[46]⟩)++⟨(Lib.itoa b).toArray⟩)++⟨#[46]⟩)++⟨(Lib.itoa c).toArray⟩):=by unfold Hid aL;rw [hm];rfl
   have HA:Hid (Spells w a ⟨(Lib.itoa a).toArray⟩):=ha hm;have HB:Hid (Spells w b ⟨(Lib.itoa b).toArray⟩):=hb hm;have HC:Hid (Spells w c ⟨(Lib.itoa c).toArray⟩):=hc hm;obtain ⟨a0,a1,b0,b1,c0,c1⟩:=dR hm;have za:=eI a0 a1;have zb:=eI b0 b1;have zc:=eI c0 c1;rw [hm] at HM;clear ha hb hc a0 a1 b0 b1 c0 c1;generalize (⟨(Lib.itoa a).toArray⟩:ByteArray)=A at*;generalize (⟨(Lib.itoa b).toArray⟩:ByteArray)=B at*;generalize (⟨(Lib.itoa c).toArray⟩:ByteArray)=C at*;have zd:(⟨#[46]⟩:ByteArray).size=1:=rfl;have e1:=fun W:World=>run_string_add_sum (P:=Tryz.prog) (w:=W) A ⟨#[46]⟩ (by omega)
   have e2:=fun W:World=>run_string_add_sum (P:=Tryz.prog) (w:=W) (A++⟨#[46]⟩) B (by rw [cS];omega)
   have e3:=fun W:World=>run_string_add_sum (P:=Tryz.prog) (w:=W) ((A++⟨#[46]⟩)++B) ⟨#[46]⟩ (by rw [cS,cS];omega)
   have e4:=fun W:World=>run_string_add_sum (P:=Tryz.prog) (w:=W) (((A++⟨#[46]⟩)++B)++⟨#[46]⟩) C (by rw [cS,cS,cS];omega)
   clear za zb zc zd
   go_enter Tryz.func125,Tryz.ntmps125
   go_wp2_with (go_at_call 159;refine (HM.out _).mono ?_;rintro e w0 ⟨rfl,hb0⟩;obtain ⟨k0,k1,k2,k3,k4⟩:=Dt hb0)
   have HB0:Hid (Below w.heap.size w w0):=k4;have HK0:Hid (w.heap.size<w0.heap.size∧w0.cell? ⟨w.heap.size,0,none⟩=some (.int .i64 a)∧w0.cell? ⟨w.heap.size,1,none⟩=some (.int .i64 b)∧w0.cell? ⟨w.heap.size,2,none⟩=some (.int .i64 c)):=⟨k3,k0,k1,k2⟩;have t1:True:=trivial;have t2:True:=trivial;have t3:True:=trivial;clear k4 hb0
   go_region_held3 (fun w'=>w'.cell? ⟨w.heap.size,0,none⟩=some (.int .i64 a)∧w'.cell? ⟨w.heap.size,1,none⟩=some (.int .i64 b)∧w'.cell? ⟨w.heap.size,2,none⟩=some (.int .i64 c)) (go_keep)
    (first
      |(go_at_call 170;clear t1;refine (HA.out.next (N:=w.heap.size) (x:= .int .i64 a) (y:= .int .i64 b) (z:= .int .i64 c) _ ?_ ?_ ?_ ?_ ?_).mono ?_;(first|exact HB0.out|exact HB0.out.drew);exact HK0.out.1;exact HK0.out.2.1;exact HK0.out.2.2.1;exact HK0.out.2.2.2;rintro e w1 ⟨rfl,q0,q1,q2,l1,b1⟩;have HB1:Hid (Below w.heap.size w w1):=b1;have HK1:Hid (w.heap.size<w1.heap.size∧w1.cell? ⟨w.heap.size,0,none⟩=some (.int .i64 a)∧w1.cell? ⟨w.heap.size,1,none⟩=some (.int .i64 b)∧w1.cell? ⟨w.heap.size,2,none⟩=some (.int .i64 c)):=⟨l1,q0,q1,q2⟩;clear b1)
      |(go_at_call 170;clear t2;refine (HB.out.next (N:=w.heap.size) (x:= .int .i64 a) (y:= .int .i64 b) (z:= .int .i64 c) _ ?_ ?_ ?_ ?_ ?_).mono ?_;(first|exact HB1.out|exact HB1.out.drew);exact HK1.out.1;exact HK1.out.2.1;exact HK1.out.2.2.1;exact HK1.out.2.2.2;rintro e w2 ⟨rfl,r0,r1,r2,l2,b2⟩;have HB2:Hid (Below w.heap.size w w2):=b2;have HK2:Hid (w.heap.size<w2.heap.size∧w2.cell? ⟨w.heap.size,0,none⟩=some (.int .i64 a)∧w2.cell? ⟨w.heap.size,1,none⟩=some (.int .i64 b)∧w2.cell? ⟨w.heap.size,2,none⟩=some (.int .i64 c)):=⟨l2,r0,r1,r2⟩;clear b2)
      |(go_at_call 170;clear t3;refine (HC.out.next (N:=w.heap.size) (x:= .int .i64 a) (y:= .int .i64 b) (z:= .int .i64 c) _ ?_ ?_ ?_ ?_ ?_).mono ?_;(first|exact HB2.out|exact HB2.out.drew);exact HK2.out.1;exact HK2.out.2.1;exact HK2.out.2.2.1;exact HK2.out.2.2.2;rintro e w3 ⟨rfl,u0,u1,u2,l3,b3⟩;have HB3:Hid (Below w.heap.size w w3):=b3;clear b3))
   all_goals go_wp2
   all_goals
    go_returns;refine ⟨OL (by rw [HR.out]),?_⟩;exact HB3.out
end Go.Proofs.YtmnhnofnlcbliaaGreatDoor
namespace Go.Proofs.YtmnhnofnlcbliaaGreatDoor
set_option maxRecDepth 100000
theorem OM (a b c x y z:Int):iP a b c x y z= -iP x y z a b c:=by unfold iP;grind
theorem pJ {a b c:Int} (h:bB a b c=true):bE a b c=(a*1000+b)*1000+c:=by unfold bE;rw [if_pos h]
theorem iB {a b c:Int} (h:bB a b c=true):0≤bE a b c∧bE a b c<1000000000:=by
 have:=dR h;rw [pJ h];omega
theorem mG {a b c x y z:Int} (h:bB a b c=true) (k:bB x y z=true):iP a b c x y z<0↔bE a b c<bE x y z:=by
 have h1:=dR h;have k1:=dR k;rw [pJ h,pJ k];unfold iP
 split
 · subst_vars
   split
   · subst_vars
     split
     · omega
     · split<;>omega
   · split<;>omega
 · split<;>omega
theorem VG {a b c:Int} (h:bB a b c=true):jX (bE a b c)=true:=by
 have:=iB h;unfold jX;simp;omega
theorem BI {a b c:Int} (h:bB a b c=true):atA (bE a b c)=a∧atB (bE a b c)=b∧atC (bE a b c)=c:=by
 have h1:=dR h;unfold atA atB atC;rw [VG h,pJ h]
 simp
 omega
theorem gQ {n:Int} (h:jX n=true):bB (atA n) (atB n) (atC n)=true∧bE (atA n) (atB n) (atC n)=n:=by
 have h1:0≤n∧n<1000000000:=by unfold jX at h;simpa using h
 have m:bB (atA n) (atB n) (atC n)=true:=by
  unfold bB dP atA atB atC;rw [h]
  simp
  omega
 refine ⟨m,?_⟩;rw [pJ m];unfold atA atB atC;rw [h]
 simp
 omega
theorem VH {a b c k:Int} (h:bB a b c=true):pI a b c k=jX (bE a b c+k):=by unfold pI;rw [h];rfl
theorem VI {a b c k:Int} (h:bB a b c=true):onA a b c k=atA (bE a b c+k)∧onB a b c k=atB (bE a b c+k)∧onC a b c k=atC (bE a b c+k):=by
 unfold onA onB onC;rw [h];exact ⟨rfl,rfl,rfl⟩
theorem VJ {a b c k:Int} (h:pI a b c k=true):bB a b c=true∧bB (onA a b c k) (onB a b c k) (onC a b c k)=true∧bE (onA a b c k) (onB a b c k) (onC a b c k)=bE a b c+k:=by
 have hm:bB a b c=true:=by unfold pI at h;revert h;cases bB a b c<;>simp
 rw [VH hm] at h;obtain ⟨e1,e2,e3⟩:=VI (k:=k) hm;rw [e1,e2,e3];exact ⟨hm,gQ h⟩
theorem Ae {a b c:Int} (h:bB a b c=true):pI a b c (-1)=decide (0<bE a b c):=by
 have:=iB h
 rw [VH h];unfold jX;rw [Bool.eq_iff_iff];simp;omega
theorem ON {a b c:Int} (h:bB a b c=true):pI a b c 1=decide (bE a b c<999999999):=by
 have:=iB h
 rw [VH h];unfold jX;rw [Bool.eq_iff_iff];simp;omega
end Go.Proofs.YtmnhnofnlcbliaaGreatDoor
namespace Go.Proofs.YtmnhnofnlcbliaaGreatDoor
open Go.RowKit
set_option maxRecDepth 100000
structure Bx where
 n:Nat
 x:Value
 y:Value
 z:Value
def BxAt (w1:World) (q:Bx):Prop:=w1.cell? ⟨q.n,0,none⟩=some q.x∧w1.cell? ⟨q.n,1,none⟩=some q.y∧w1.cell? ⟨q.n,2,none⟩=some q.z∧q.n<w1.heap.size
def OKs (w:World) (bs:List Bx) (w1:World):Prop:=Below w.heap.size w w1∧∀ q ∈ bs,BxAt w1 q
theorem BxAt.below {w1 w':World} {q:Bx} (h:BxAt w1 q) (hb:Below w1.heap.size w1 w'):BxAt w' q:=Fm hb h.2.2.2 h.1 h.2.1 h.2.2.1
theorem OKs.below {w:World} {bs:List Bx} {w1 w':World} (h:OKs w bs w1) (hb:Below w1.heap.size w1 w'):OKs w bs w':=⟨aA h.1 hb,fun q hq=>(h.2 q hq).below hb⟩
theorem OKs.nil (w:World):OKs w [] w:=⟨Below.refl _ _,fun q hq=>by cases hq⟩
theorem OKs.box {w:World} {bs:List Bx} {w1:World} (h:OKs w bs w1) {N:Nat} (hN:w1.heap.size=N) (x y z:Value):OKs w (⟨N,x,y,z⟩::bs) (w1.alloc (.cells #[x,y,z] 52)):=by
 subst hN;refine ⟨aA h.1 (aC _ _),fun q hq=> ?_⟩
 rcases List.mem_cons.1 hq with rfl|hq
 · refine ⟨?_,?_,?_,?_⟩
   · simp
   · simp
   · simp
   · show w1.heap.size<(w1.alloc _).heap.size
     simp
 · exact (h.2 q hq).below (aC _ _)
theorem OKs.one {w:World} {q:Bx} {bs:List Bx} {w1:World} (h:OKs w (q::bs) w1):BxAt w1 q:=h.2 q List.mem_cons_self
theorem OKs.two {w:World} {q r:Bx} {bs:List Bx} {w1:World} (h:OKs w (q::r::bs) w1):BxAt w1 r:=h.2 r (by simp)
theorem aB {p:Prop} (h:p):Hid p:=h
def Bx6 (w:World) (N:Nat) (a b c x y z:Int):Prop:=
 w.cell? ⟨N,0,none⟩=some (.int .i64 a)∧w.cell? ⟨N,1,none⟩=some (.int .i64 b)∧w.cell? ⟨N,2,none⟩=some (.int .i64 c)∧w.cell? ⟨N,3,none⟩=some (.int .i64 x)∧w.cell? ⟨N,4,none⟩=some (.int .i64 y)∧w.cell? ⟨N,5,none⟩=some (.int .i64 z)∧N<w.heap.size
theorem Bx6.new {w:World} {N:Nat} (hN:w.heap.size=N) (a b c x y z:Int):Bx6 (w.alloc (.cells #[.int .i64 a,.int .i64 b,.int .i64 c,.int .i64 x,.int .i64 y,.int .i64 z] 210)) N a b c x y z:=by
 subst hN;refine ⟨?_,?_,?_,?_,?_,?_,?_⟩<;>simp
theorem Bx6.below {w w':World} {N:Nat} {a b c x y z:Int} (h:Bx6 w N a b c x y z) (hb:Below w.heap.size w w'):Bx6 w' N a b c x y z:=by
 obtain ⟨h0,h1,h2,h3,h4,h5,h6⟩:=h;have q:∀ i,w'.cell? ⟨N,i,none⟩=w.cell? ⟨N,i,none⟩:=fun i=>hb.cell (p:=⟨N,i,none⟩) h6
 exact ⟨by rw [q];exact h0,by rw [q];exact h1,by rw [q];exact h2,by rw [q];exact h3,by rw [q];exact h4,by rw [q];exact h5,Nat.lt_of_lt_of_le h6 hb.size⟩
def KeepP (K:World→Prop):Prop:=∀ w w',K w→Below w.heap.size w w'→K w'
theorem KeepP.and {K M:World→Prop} (hk:KeepP K) (hm:KeepP M):KeepP fun w=>K w∧M w:=fun _ _ h hb=>⟨hk _ _ h.1 hb,hm _ _ h.2 hb⟩
theorem KeepP.drew {K:World→Prop} (hk:KeepP K) {w:World} (h:K w):K w.drew:=hk _ _ h (Below.refl _ _).drew
theorem aG (w:World):KeepP fun w1=>Below w.heap.size w w1:=fun _ _ h hb=>aA h hb
theorem yX (N:Nat) (a b c x y z:Int):KeepP fun w1=>Bx6 w1 N a b c x y z:=fun _ _ h hb=>h.below hb
theorem rE (q:Bx):KeepP fun w1=>BxAt w1 q:=fun _ _ h hb=>h.below hb
theorem iC {K:World→Prop} (hk:KeepP K) {P:Program} {f:Nat} {args:Array Value} {R:Ending} (h:∀ w1,Calls P f args w1 fun e w'=>e=R∧Below w1.heap.size w1 w') (w1:World) (ok:K w1):
 Calls P f args w1 fun e w'=>e=R∧K w':=by
 refine (h w1).mono ?_;rintro e w' ⟨rfl,hb⟩;exact ⟨rfl,hk _ _ ok hb⟩
theorem uJ {K:World→Prop} (hk:KeepP K) {P:Program} {id:Nat} {Q:Exit→Act→World→Prop} {a:Act} {w:World} {l:List Oper} (hm:P.follows .mixedOrders=true) (hB:Region.lexB .any l.toArray=true) (hC:K w)
 (h:∀ C:World→Prop,(∀ w,K w→C w)→(∀ w,C w→K w)→wpQuiet P l.toArray C (fun a'=>∀ w',C w'→Q .normal a' w') l a):(Code.region id l.toArray true).wp P Q a w:=
 wp_region_quiet (C:=K) hm hB (hk.drew hC) (by simpa using h K (fun _ h=>h) (fun _ h=>h))
theorem cE {K:World→Prop} (hk:Hid (KeepP K)) {P:Program} {id:Nat} {Q:Exit→Act→World→Prop} {a:Act} {w:World} {l:List Oper} (hm:P.follows .mixedOrders=true) (hB:Region.lexB .any l.toArray=true) (hC:K w)
 (h:∀ C:World→Prop,Hid (∀ w,K w→C w)→Hid (∀ w,C w→K w)→wpQuiet P l.toArray C (fun a'=>∀ w',C w'→Q .normal a' w') l a):(Code.region id l.toArray true).wp P Q a w:=uJ hk hm hB hC h
theorem Fn {C K:World→Prop} (hin:∀ w,K w→C w) (hout:∀ w,C w→K w) (hk:KeepP K) {P:Program} {f:Nat} {args:Array Value} {v:Value} (h:∀ w1,Calls P f args w1 fun e w'=>e= .returned v∧Below w1.heap.size w1 w') (w1:World) (hC:C w1):
 Calls P f args w1 fun e w'=>e= .returned v∧C w':=by
 refine (h w1).mono ?_;rintro e w' ⟨rfl,hb⟩;exact ⟨rfl,hin _ (hk _ _ (hout _ hC) hb)⟩
theorem eJ {C K:World→Prop} (hin:Hid (∀ w,K w→C w)) (hout:Hid (∀ w,C w→K w)) (hk:Hid (KeepP K)) {P:Program} {f:Nat} {args:Array Value} {v:Value} (h:∀ w1,Calls P f args w1 fun e w'=>e= .returned v∧Below w1.heap.size w1 w') (w1:World) (hC:C w1):
 Calls P f args w1 fun e w'=>e= .returned v∧C w':=Fn hin hout hk h w1 hC
theorem Dz {C K:World→Prop} (hin:∀ w,K w→C w) (hout:∀ w,C w→K w) (hk:KeepP K) {P:Program} {f:Nat} {args:Array Value} {v:Value} (h:∀ w1,K w1→Calls P f args w1 fun e w'=>e= .returned v∧Below w1.heap.size w1 w') (w1:World) (hC:C w1):
 Calls P f args w1 fun e w'=>e= .returned v∧C w':=by
 refine (h w1 (hout _ hC)).mono ?_;rintro e w' ⟨rfl,hb⟩;exact ⟨rfl,hin _ (hk _ _ (hout _ hC) hb)⟩
theorem bJ {C K:World→Prop} (hin:Hid (∀ w,K w→C w)) (hout:Hid (∀ w,C w→K w)) (hk:Hid (KeepP K)) {P:Program} {f:Nat} {args:Array Value} {v:Value} (h:∀ w1,K w1→Calls P f args w1 fun e w'=>e= .returned v∧Below w1.heap.size w1 w') (w1:World) (hC:C w1):
 Calls P f args w1 fun e w'=>e= .returned v∧C w':=Dz hin hout hk h w1 hC
def iD (a b c x y z:Int):Bool:=bB a b c&&bB x y z&&decide (iP a b c x y z≤0)
def jA (x y z a b c:Int):Bool:=pI x y z 1&&decide (iP (onA x y z 1) (onB x y z 1) (onC x y z 1) a b c<0)
set_option maxHeartbeats 800000 in
theorem DX (a b c x y z:Int) (w:World):
 Calls Tryz.prog 270 #[.agg #[.int .i64 a,.int .i64 b,.int .i64 c,.int .i64 x,.int .i64 y,.int .i64 z]] w fun e w'=>e= .returned (.bool (iD a b c x y z))∧Below w.heap.size w w':=by
 have HL:Hid (∀ w1,Calls Tryz.prog 159 #[.agg #[.int .i64 a,.int .i64 b,.int .i64 c]] w1 fun e w'=>e= .returned (.bool (bB a b c))∧Below w1.heap.size w1 w'):=jP a b c;have HH:Hid (∀ w1,Calls Tryz.prog 159 #[.agg #[.int .i64 x,.int .i64 y,.int .i64 z]] w1 fun e w'=>e= .returned (.bool (bB x y z))∧Below w1.heap.size w1 w'):=jP x y z;have HC:Hid (∀ w1,Calls Tryz.prog 288 #[.agg #[.int .i64 a,.int .i64 b,.int .i64 c],.agg #[.int .i64 x,.int .i64 y,.int .i64 z]] w1 fun e w'=>e= .returned (.int .i64 (iP a b c x y z))∧Below w1.heap.size w1 w'):=mD a b c x y z;have HB:Hid (Bx6 (w.alloc (.cells #[.int .i64 a,.int .i64 b,.int .i64 c,.int .i64 x,.int .i64 y,.int .i64 z] 210)) w.heap.size a b c x y z):=Bx6.new rfl _ _ _ _ _ _;have t1:True:=trivial;cases h1:bB a b c
 · have HR:Hid (iD a b c x y z=false):=by unfold Hid iD;rw [h1];rfl
   rw [h1] at HL
   go_enter Tryz.func270,Tryz.ntmps270
   go_wp2_with (go_at_call 159;refine (HL.out _).mono ?_;rintro e w1 ⟨rfl,hb⟩)
   go_ret;exact ⟨aD HR.out.symm,aA (aC _ _) hb⟩
 · cases h2:bB x y z
   · have HR:Hid (iD a b c x y z=false):=by unfold Hid iD;rw [h1,h2];rfl
     rw [h1] at HL;rw [h2] at HH
     go_enter Tryz.func270,Tryz.ntmps270
     go_wp2_with (first
      |(have _t:=t1;go_at_call 159;refine (HL.out _).mono ?_;rintro e w1 ⟨rfl,hb⟩;obtain ⟨k0,k1,k2,k3,k4,k5,k6⟩:=HB.out.below hb;clear t1)
      |(go_at_call 159;refine (HH.out _).mono ?_;rintro e w2 ⟨rfl,hb2⟩))
     go_ret;exact ⟨aD HR.out.symm,aA (aA (aC _ _) hb) hb2⟩
   · rw [h1] at HL
     rw [h2] at HH;have HR:Hid (iD a b c x y z=decide (iP a b c x y z≤0)):=by unfold Hid iD;rw [h1,h2];rfl
     generalize iP a b c x y z=q at*
     go_enter Tryz.func270,Tryz.ntmps270
     go_wp2_with (first
      |(have _t:=t1;go_at_call 159;refine (HL.out _).mono ?_;rintro e w1 ⟨rfl,hb⟩;have HB1:=aB (HB.out.below hb);obtain ⟨k0,k1,k2,k3,k4,k5,k6⟩:=HB1.out;clear t1)
      |(go_at_call 159;refine (HH.out _).mono ?_;rintro e w2 ⟨rfl,hb2⟩;obtain ⟨j0,j1,j2,j3,j4,j5,j6⟩:=HB1.out.below hb2)
      |(go_at_call 288;refine (HC.out _).mono ?_;rintro e w3 ⟨rfl,hb3⟩))
     go_ret;exact ⟨aD HR.out.symm,aA (aA (aA (aC _ _) hb) hb2) hb3⟩
set_option maxHeartbeats 800000 in
theorem RI (a b c x y z p q r u v t:Int) (w:World):
 Calls Tryz.prog 271 #[.agg #[.int .i64 a,.int .i64 b,.int .i64 c,.int .i64 x,.int .i64 y,.int .i64 z],.agg #[.int .i64 p,.int .i64 q,.int .i64 r,.int .i64 u,.int .i64 v,.int .i64 t]] w fun e w'=>e= .returned (.bool (jA x y z p q r))∧Below w.heap.size w w':=by
 have HN:Hid (∀ w1,Calls Tryz.prog 289 #[.agg #[.int .i64 x,.int .i64 y,.int .i64 z]] w1 fun e w'=>e= .returned (.tuple #[.agg #[.int .i64 (onA x y z 1),.int .i64 (onB x y z 1),.int .i64 (onC x y z 1)],.bool (pI x y z 1)])∧Below w1.heap.size w1 w'):=DW x y z;have HC:Hid (∀ w1,Calls Tryz.prog 288 #[.agg #[.int .i64 (onA x y z 1),.int .i64 (onB x y z 1),.int .i64 (onC x y z 1)],.agg #[.int .i64 p,.int .i64 q,.int .i64 r]] w1 fun e w'=>e= .returned (.int .i64 (iP (onA x y z 1) (onB x y z 1) (onC x y z 1) p q r))∧Below w1.heap.size w1 w'):=mD _ _ _ _ _ _;have HB:Hid (Bx6 ((w.alloc (.cells #[.int .i64 a,.int .i64 b,.int .i64 c,.int .i64 x,.int .i64 y,.int .i64 z] 210)).alloc (.cells #[.int .i64 p,.int .i64 q,.int .i64 r,.int .i64 u,.int .i64 v,.int .i64 t] 210)) (w.heap.size+1) p q r u v t):=Bx6.new (by simp) _ _ _ _ _ _;cases h1:pI x y z 1
 · have HR:Hid (jA x y z p q r=false):=by unfold Hid jA;rw [h1];rfl
   rw [h1] at HN
   go_enter Tryz.func271,Tryz.ntmps271
   go_wp2_with (go_at_call 289;refine (HN.out _).mono ?_;rintro e w1 ⟨rfl,hb⟩)
   go_ret;exact ⟨aD HR.out.symm,aA (aA (aS _ _ _) hb) (aC _ _)⟩
 · have HR:Hid (jA x y z p q r=decide (iP (onA x y z 1) (onB x y z 1) (onC x y z 1) p q r<0)):=by unfold Hid jA;rw [h1];rfl
   rw [h1] at HN;generalize onA x y z 1=nA at*;generalize onB x y z 1=nB at*;generalize onC x y z 1=nC at*;generalize iP nA nB nC p q r=o at*
   go_enter Tryz.func271,Tryz.ntmps271
   go_wp2_with (first
    |(go_at_call 289;refine (HN.out _).mono ?_;rintro e w1 ⟨rfl,hb⟩;obtain ⟨k0,k1,k2,k3,k4,k5,k6⟩:=HB.out.below hb)
    |(go_at_call 288;refine (HC.out _).mono ?_;rintro e w2 ⟨rfl,hb2⟩))
   go_ret;exact ⟨aD HR.out.symm,aA (aA (aA (aS _ _ _) hb) (aC _ _)) hb2⟩
structure Sp where
 a:Int
 b:Int
 c:Int
 x:Int
 y:Int
 z:Int
def SpAt (w:World) (g o:Nat) (s:Sp):Prop:=w.cell? ⟨g,o,none⟩=some (.int .i64 s.a)∧w.cell? ⟨g,o+1,none⟩=some (.int .i64 s.b)∧w.cell? ⟨g,o+1+1,none⟩=some (.int .i64 s.c)∧
 w.cell? ⟨g,o+1+1+1,none⟩=some (.int .i64 s.x)∧w.cell? ⟨g,o+1+1+1+1,none⟩=some (.int .i64 s.y)∧w.cell? ⟨g,o+1+1+1+1+1,none⟩=some (.int .i64 s.z)
def SpansAt (w:World) (v:Value) (L:List Sp):Prop:=∃ ad cap,v= .slice ad L.length cap∧(L=[]∨∃ g o,ad=some ⟨g,o,none⟩∧g<w.heap.size∧∀ i (h:i<L.length),SpAt w g (o+i*6) L[i])
def iK (L:List Sp) (i:Nat):Bool:=match L[i]? with
 |none=>true
 |some s=>iD s.a s.b s.c s.x s.y s.z&&(match i with
  |0=>true
  |j+1=>match L[j]? with
   |none=>true
   |some p=>jA p.x p.y p.z s.a s.b s.c)
def lE (L:List Sp):Bool:=decide (L.length≤64)&&(List.range L.length).all (iK L)
theorem SpAt.below {w w':World} {g o B:Nat} {s:Sp} (h:SpAt w g o s) (hb:Below B w w') (hg:g<B):SpAt w' g o s:=by
 obtain ⟨h0,h1,h2,h3,h4,h5⟩:=h;have q:∀ i,w'.cell? ⟨g,i,none⟩=w.cell? ⟨g,i,none⟩:=fun i=>hb.cell (p:=⟨g,i,none⟩) hg
 exact ⟨by rw [q];exact h0,by rw [q];exact h1,by rw [q];exact h2,by rw [q];exact h3,by rw [q];exact h4,by rw [q];exact h5⟩
def oC (w:World) (g o:Nat) (s:Sp):Prop:=SpAt w g o s∧g<w.heap.size
theorem rF (g o:Nat) (s:Sp):KeepP fun w1=>oC w1 g o s:=fun _ _ h hb=>⟨h.1.below hb h.2,Nat.lt_of_lt_of_le h.2 hb.size⟩
theorem SpansAt.below {w w':World} {v:Value} {L:List Sp} (h:SpansAt w v L) (hb:Below w.heap.size w w'):SpansAt w' v L:=by
 obtain ⟨ad,cap,hv,hl⟩:=h;refine ⟨ad,cap,hv,hl.imp id ?_⟩;rintro ⟨g,o,ha,hg,hs⟩;exact ⟨g,o,ha,Nat.lt_of_lt_of_le hg hb.size,fun i hi=>(hs i hi).below hb hg⟩
theorem SpAt.first {w:World} {g o:Nat} {s:Sp} (h:SpAt w g (o+0*6) s):w.cell? ⟨g,o,none⟩=some (.int .i64 s.a)∧w.cell? ⟨g,o+1,none⟩=some (.int .i64 s.b)∧w.cell? ⟨g,o+2,none⟩=some (.int .i64 s.c)∧
 w.cell? ⟨g,o+3,none⟩=some (.int .i64 s.x)∧w.cell? ⟨g,o+4,none⟩=some (.int .i64 s.y)∧w.cell? ⟨g,o+5,none⟩=some (.int .i64 s.z):=by
 simp only [Nat.zero_mul,Nat.add_zero] at h;exact h
theorem KI {n:Int} (h0:0≤n) (h1:n≤1000000000000):IntKind.i64.wrap n=n:=by
 go_arith
theorem KJ {L:List Sp} (ht:lE L=(List.range L.length).all (iK L)) {k:Nat} (hk:k<L.length) (h:iK L k=false):lE L=false:=by
 rw [ht,Bool.eq_false_iff];intro ha;rw [List.all_eq_true] at ha
 have:=ha k (List.mem_range.2 hk)
 rw [h] at this;cases this
theorem Af {L:List Sp} (ht:lE L=(List.range L.length).all (iK L)) (h:∀ j,j<L.length→iK L j=true):lE L=true:=by
 rw [ht,List.all_eq_true];exact fun k hk=>h k (List.mem_range.1 hk)
set_option maxHeartbeats 3200000 in
theorem RJ (L:List Sp) (g o cap:Nat) (w:World) (hlen:L.length≤64) (hg:g<w.heap.size) (hl:∀ i (h:i<L.length),SpAt w g (o+i*6) L[i]):
 Calls Tryz.prog 241 #[.slice (some ⟨g,o,none⟩) L.length cap] w fun e w'=>e= .returned (.bool (lE L))∧Below w.heap.size w w':=by
 have HL:Hid (∀ w1,Below w.heap.size w w1→∀ i (h:i<L.length),SpAt w1 g (o+i*6) L[i]):=fun w1 hb i hi=>(hl i hi).below hb hg
 clear hl;have HT:Hid (lE L=(List.range L.length).all (iK L)):=by unfold Hid lE;simp [hlen]
 have h64:decide ((64:Int)<(L.length:Int))=false:=decide_eq_false (by omega)
 go_enter Tryz.func241,Tryz.ntmps241
 go_wp2_with fail
 go_loopw [10] (fun i wr=>∃ k:Nat,k≤L.length∧i= .int .i64 k∧Below w.heap.size w wr∧∀ j,j<k→iK L j=true) (fun i _=>L.length - (intOf i).toNat)
 case atStart=>exact ⟨0,Nat.zero_le _,rfl,Below.refl _ _,fun j hj=>by omega⟩
 case round=>
  obtain ⟨k,hk,rfl,hb,hok⟩:=hrel
  by_cases hlt:k<L.length
  · have hs:=HL.out wr hb k hlt
    have HOK:=aB hok;have HB:=aB hb;have HS:Hid (L[k]? =some L[k]):=List.getElem?_eq_getElem hlt;generalize L[k]=s at*;obtain ⟨a,b,c,x,y,z⟩:=s;have HM:Hid (∀ w1,Calls Tryz.prog 270 #[.agg #[.int .i64 a,.int .i64 b,.int .i64 c,.int .i64 x,.int .i64 y,.int .i64 z]] w1 fun e w'=>e= .returned (.bool (iD a b c x y z))∧Below w1.heap.size w1 w'):=DX a b c x y z;clear hok;cases k with
    |zero=>
     have HO:Hid (Below w.heap.size w (wr.alloc (.cells #[.int .i64 a,.int .i64 b,.int .i64 c,.int .i64 x,.int .i64 y,.int .i64 z] 210))∧Bx6 (wr.alloc (.cells #[.int .i64 a,.int .i64 b,.int .i64 c,.int .i64 x,.int .i64 y,.int .i64 z] 210)) wr.heap.size a b c x y z):=⟨aA hb (aC _ _),Bx6.new rfl _ _ _ _ _ _⟩;have HK:Hid (KeepP fun w1=>Below w.heap.size w w1∧Bx6 w1 wr.heap.size a b c x y z):=(aG w).and (yX _ _ _ _ _ _ _);obtain ⟨c0,c1,c2,c3,c4,c5⟩:=hs.first
     simp only at c0 c1 c2 c3 c4 c5
     clear hs hb;cases hm:iD a b c x y z
     · have HF:Hid (lE L=false):=KJ HT.out hlt (by unfold iK;rw [HS.out];simp [hm])
       rw [hm] at HM
       go_wp2_with fail
       refine cE HK (by kernel_rfl) (by kernel_rfl) (by first|exact HO.out|exact HK.out.drew HO.out) ?_;intro C HIN HOUT;clear HO
       repeat
        (with_reducible refine wpQuiet_step (fun K hK=> ?_)
         go_simp
         first
          |(refine hK _ ?_;clear hK K)
          |(apply Exists.intro;refine ⟨fun w1 hC=> ?_,hK _ ?_⟩;(focus ((first|(go_at_call 270;with_reducible exact eJ HIN HOUT HK HM.out w1 hC)|(exact rfl)|(obtain ⟨hb1,k0,k1,k2,k3,k4,k5,k6⟩:=HOUT.out w1 hC;clear hC;go_simp;first|done|exact rfl));done));clear hK K))
       refine wpQuiet_nil ?_;intro wn hC;have HO:=aB (HOUT.out _ hC);clear hC HIN HOUT C;obtain ⟨hb1,k0,k1,k2,k3,k4,k5,k6⟩:=HO.out
       go_wp2
       go_ret;exact ⟨aD HF.out.symm,HO.out.1⟩
     · have HF:Hid (iK L 0=true):=by unfold Hid iK;rw [HS.out];simp [hm]
       rw [hm] at HM
       go_wp2_with fail
       refine cE HK (by kernel_rfl) (by kernel_rfl) (by first|exact HO.out|exact HK.out.drew HO.out) ?_;intro C HIN HOUT;clear HO
       repeat
        (with_reducible refine wpQuiet_step (fun K hK=> ?_)
         go_simp
         first
          |(refine hK _ ?_;clear hK K)
          |(apply Exists.intro;refine ⟨fun w1 hC=> ?_,hK _ ?_⟩;(focus ((first|(go_at_call 270;with_reducible exact eJ HIN HOUT HK HM.out w1 hC)|(exact rfl)|(obtain ⟨hb1,k0,k1,k2,k3,k4,k5,k6⟩:=HOUT.out w1 hC;clear hC;go_simp;first|done|exact rfl));done));clear hK K))
       refine wpQuiet_nil ?_;intro wn hC;have HO:=aB (HOUT.out _ hC);clear hC HIN HOUT C;obtain ⟨hb1,k0,k1,k2,k3,k4,k5,k6⟩:=HO.out
       go_wp2
       exact ⟨⟨1,by omega,rfl,HO.out.1,fun j hj=>by rw [show j=0 by omega];exact HF.out⟩,by simp [intOf];omega⟩
    |succ j=>
     have hp:=HL.out wr hb j (by omega);have HP:Hid (L[j]? =some (L[j]'(by omega))):=List.getElem?_eq_getElem (by omega);generalize L[j]'(by omega)=p at*;obtain ⟨p,q,r,u,v,t⟩:=p;have HO:Hid (Below w.heap.size w (wr.alloc (.cells #[.int .i64 a,.int .i64 b,.int .i64 c,.int .i64 x,.int .i64 y,.int .i64 z] 210))∧Bx6 (wr.alloc (.cells #[.int .i64 a,.int .i64 b,.int .i64 c,.int .i64 x,.int .i64 y,.int .i64 z] 210)) wr.heap.size a b c x y z∧oC (wr.alloc (.cells #[.int .i64 a,.int .i64 b,.int .i64 c,.int .i64 x,.int .i64 y,.int .i64 z] 210)) g (o+j*6) ⟨p,q,r,u,v,t⟩):=⟨aA hb (aC _ _),Bx6.new rfl _ _ _ _ _ _,rF _ _ _ _ _ ⟨hp,Nat.lt_of_lt_of_le hg hb.size⟩ (aC _ _)⟩;have HK:Hid (KeepP fun w1=>Below w.heap.size w w1∧Bx6 w1 wr.heap.size a b c x y z∧oC w1 g (o+j*6) ⟨p,q,r,u,v,t⟩):=(aG w).and ((yX _ _ _ _ _ _ _).and (rF _ _ _))
     have HA:Hid (∀ w1,Calls Tryz.prog 271 #[.agg #[.int .i64 p,.int .i64 q,.int .i64 r,.int .i64 u,.int .i64 v,.int .i64 t],.agg #[.int .i64 a,.int .i64 b,.int .i64 c,.int .i64 x,.int .i64 y,.int .i64 z]] w1 fun e w'=>e= .returned (.bool (jA u v t a b c))∧Below w1.heap.size w1 w'):=RI p q r u v t a b c x y z;obtain ⟨c0,c1,c2,c3,c4,c5⟩:=hs
     simp only at c0 c1 c2 c3 c4 c5
     have hj2:(j:Int)<(L.length:Int):=by omega
     have hwj:IntKind.i64.wrap (j:Int)=(j:Int):=KI (by omega) (by omega);clear hb hp;cases hm:iD a b c x y z
     · have HF:Hid (lE L=false):=KJ HT.out hlt (by unfold iK;rw [HS.out];simp [hm])
       rw [hm] at HM
       go_wp2_with fail
       refine cE HK (by kernel_rfl) (by kernel_rfl) (by first|exact HO.out|exact HK.out.drew HO.out) ?_;intro C HIN HOUT;clear HO
       repeat
        (with_reducible refine wpQuiet_step (fun K hK=> ?_)
         go_simp
         first
          |(refine hK _ ?_;clear hK K)
          |(apply Exists.intro;refine ⟨fun w1 hC=> ?_,hK _ ?_⟩;(focus ((first|(go_at_call 270;with_reducible exact eJ HIN HOUT HK HM.out w1 hC)|(exact rfl)|(obtain ⟨hb1,⟨k0,k1,k2,k3,k4,k5,k6⟩,⟨p0,p1,p2,p3,p4,p5⟩,p6⟩:=HOUT.out w1 hC;clear hC;go_simp;first|done|exact rfl));done));clear hK K))
       refine wpQuiet_nil ?_;intro wn hC;have HO:=aB (HOUT.out _ hC);clear hC HIN HOUT C;obtain ⟨hb1,⟨k0,k1,k2,k3,k4,k5,k6⟩,⟨p0,p1,p2,p3,p4,p5⟩,p6⟩:=HO.out
       go_wp2
       go_ret;exact ⟨aD HF.out.symm,HO.out.1⟩
     · rw [hm] at HM
       cases ha:jA u v t a b c
       · have HF:Hid (lE L=false):=KJ HT.out hlt (by unfold iK;rw [HS.out];simp only;rw [HP.out];simp [ha])
         rw [ha] at HA
         go_wp2_with fail
         refine cE HK (by kernel_rfl) (by kernel_rfl) (by first|exact HO.out|exact HK.out.drew HO.out) ?_;intro C HIN HOUT;clear HO
         repeat
          (with_reducible refine wpQuiet_step (fun K hK=> ?_)
           go_simp
           first
            |(refine hK _ ?_;clear hK K)
            |(apply Exists.intro;refine ⟨fun w1 hC=> ?_,hK _ ?_⟩;(focus ((first|(go_at_call 270;with_reducible exact eJ HIN HOUT HK HM.out w1 hC)|(go_at_call 271;with_reducible exact eJ HIN HOUT HK HA.out w1 hC)|(exact rfl)|(obtain ⟨hb1,⟨k0,k1,k2,k3,k4,k5,k6⟩,⟨p0,p1,p2,p3,p4,p5⟩,p6⟩:=HOUT.out w1 hC;clear hC;go_simp;first|done|exact rfl));done));clear hK K))
         refine wpQuiet_nil ?_;intro wn hC;have HO:=aB (HOUT.out _ hC);clear hC HIN HOUT C;obtain ⟨hb1,⟨k0,k1,k2,k3,k4,k5,k6⟩,⟨p0,p1,p2,p3,p4,p5⟩,p6⟩:=HO.out
         go_wp2
         go_ret;exact ⟨aD HF.out.symm,HO.out.1⟩
       · have HF:Hid (iK L (j+1)=true):=by unfold Hid iK;rw [HS.out];simp only;rw [HP.out];simp [ha,hm]
         rw [ha] at HA
         go_wp2_with fail
         refine cE HK (by kernel_rfl) (by kernel_rfl) (by first|exact HO.out|exact HK.out.drew HO.out) ?_;intro C HIN HOUT;clear HO
         repeat
          (with_reducible refine wpQuiet_step (fun K hK=> ?_)
           go_simp
           first
            |(refine hK _ ?_;clear hK K)
            |(apply Exists.intro;refine ⟨fun w1 hC=> ?_,hK _ ?_⟩;(focus ((first|(go_at_call 270;with_reducible exact eJ HIN HOUT HK HM.out w1 hC)|(go_at_call 271;with_reducible exact eJ HIN HOUT HK HA.out w1 hC)|(exact rfl)|(obtain ⟨hb1,⟨k0,k1,k2,k3,k4,k5,k6⟩,⟨p0,p1,p2,p3,p4,p5⟩,p6⟩:=HOUT.out w1 hC;clear hC;go_simp;first|done|exact rfl));done));clear hK K))
         refine wpQuiet_nil ?_;intro wn hC;have HO:=aB (HOUT.out _ hC);clear hC HIN HOUT C;obtain ⟨hb1,⟨k0,k1,k2,k3,k4,k5,k6⟩,⟨p0,p1,p2,p3,p4,p5⟩,p6⟩:=HO.out
         go_wp2
         refine ⟨⟨j+1+1,by omega,by go_num,HO.out.1,fun i hi=> ?_⟩,by simp [intOf];omega⟩
         rcases Nat.lt_or_ge i (j+1) with h|h
         · exact HOK.out i h
         · rw [show i=j+1 by omega];exact HF.out
  · have hke:k=L.length:=by omega
    subst hke;have HF:Hid (lE L=true):=Af HT.out hok;have HB:=aB hb;clear hok hb
    go_wp2
    go_ret;exact ⟨aD HF.out.symm,HB.out⟩
theorem DY (ad:Option Addr) (cap:Nat) (w:World):
 Calls Tryz.prog 241 #[.slice ad 0 cap] w fun e w'=>e= .returned (.bool true)∧Below w.heap.size w w':=by
 go_enter Tryz.func241,Tryz.ntmps241
 go_wp2_with fail
 go_loop [10] (fun i=>i= .int .i64 0) (fun _=>0)
 case atStart=>rfl
 case round=>
  subst hrel
  go_wp2
  go_ret;exact ⟨rfl,Below.refl _ _⟩
theorem RK (ad:Option Addr) (n cap:Nat) (w:World) (h:64<n):
 Calls Tryz.prog 241 #[.slice ad n cap] w fun e w'=>e= .returned (.bool false)∧Below w.heap.size w w':=by
 have h1:(64:Int)<(n:Int):=by omega
 go_enter Tryz.func241,Tryz.ntmps241
 go_wp2
 go_ret;exact ⟨rfl,Below.refl _ _⟩
theorem DZ {w:World} {v:Value} {L:List Sp} (h:SpansAt w v L):
 Calls Tryz.prog 241 #[v] w fun e w'=>e= .returned (.bool (lE L))∧Below w.heap.size w w':=by
 obtain ⟨ad,cap,rfl,hl⟩:=h
 by_cases h64:L.length≤64
 · rcases hl with rfl|⟨g,o,rfl,hg,hs⟩
   · exact DY ad cap w
   · exact RJ L g o cap w h64 hg hs
 · have:lE L=false:=by unfold lE;rw [decide_eq_false h64];rfl
   rw [this];exact RK ad _ cap w (by omega)
theorem RL (v:Value) (L:List Sp):KeepP fun w1=>SpansAt w1 v L:=fun _ _ h hb=>h.below hb
end Go.Proofs.YtmnhnofnlcbliaaGreatDoor
namespace Go.Proofs.YtmnhnofnlcbliaaGreatDoor
abbrev Rg:=List (Int×Int)
def InR:Rg→Int→Prop
 |[],_=>False
 |(g,h)::B,n=>(g≤n∧n≤h)∨InR B n
def RiseR (k M:Int):Rg→Prop
 |[]=>True
 |(g,h)::B=>k≤g∧g≤h∧h≤M∧RiseR (h+2) M B
theorem RiseR.weak {M j k:Int}:∀ {B:Rg},RiseR k M B→j≤k→RiseR j M B
 |[],_,_=>trivial
 |(_,_)::_,h,hj=>⟨Int.le_trans hj h.1,h.2⟩
theorem RiseR.bounds {M:Int} {n:Int}:∀ {B:Rg} {k:Int},RiseR k M B→InR B n→k≤n∧n≤M
 |[],_,_,hi=>hi.elim
 |(g,h)::B,k,hr,hi=>by
  obtain ⟨h1,h2,h3,h4⟩:=hr
  rcases hi with ⟨i1,i2⟩|hi
  · omega
  · have:=RiseR.bounds h4 hi;omega
theorem InR.append {n:Int}:∀ {A B:Rg},InR (A++B) n↔InR A n∨InR B n
 |[],B=>by simp [InR]
 |(g,h)::A,B=>by simp only [List.cons_append,InR];rw [InR.append (A:=A),or_assoc]
theorem RiseR.append {m M:Int}:∀ {X Y:Rg} {k:Int},RiseR k m X→RiseR (m+2) M Y→m≤M→k≤m+2→RiseR k M (X++Y)
 |[],Y,k,_,hy,_,hk=>hy.weak hk
 |(g,h)::X,Y,k,hx,hy,hm,hk=>by
  obtain ⟨h1,h2,h3,h4⟩:=hx;exact ⟨h1,h2,by omega,RiseR.append h4 hy hm (by omega)⟩
def iQ (lo hi:Int):Rg→Rg
 |[]=>[(lo,hi)]
 |(g,h)::B=>if hi<g then [(lo,hi)] else (if lo<g then [(lo,g - 1)] else [])++(if hi≤h then [] else iQ (h+1) hi B)
def cT (lo:Int) (B:Rg):Rg:=B.dropWhile fun p=>decide (p.2<lo)
def bR:Rg→Rg→Rg
 |[],_=>[]
 |(lo,hi)::A,B=>iQ lo hi (cT lo B)++bR A (cT lo B)
theorem OO {M n:Int}:∀ {B:Rg} {lo hi k:Int},RiseR k M B→(∀ p ∈ B,lo≤p.2)→lo≤hi→(InR (iQ lo hi B) n↔(lo≤n∧n≤hi)∧¬ InR B n)
 |[],lo,hi,k,_,_,hl=>by simp [iQ,InR]
 |(g,h)::B,lo,hi,k,hr,hp,hl=>by
  obtain ⟨h1,h2,h3,h4⟩:=hr;have hB:∀ x,InR B x→h+2≤x:=fun x hx=>(h4.bounds hx).1
  have hlh:lo≤h:=hp _ List.mem_cons_self;unfold iQ
  by_cases hg:hi<g
  · rw [if_pos hg]
    simp only [InR,or_false]
    constructor
    · intro hn
      refine ⟨hn,?_⟩;rintro (hx|hx)
      · omega
      · have:=hB n hx;omega
    · exact fun hn=>hn.1
  · rw [if_neg hg,InR.append]
    have ih:¬ hi≤h→(InR (iQ (h+1) hi B) n↔(h+1≤n∧n≤hi)∧¬ InR B n):=fun hh=>
     OO (k:=h+2) h4 (fun p hq=>by
      have:∀ {C:Rg} {j:Int},RiseR j M C→p ∈ C→j≤p.2:=by
       intro C
       induction C with
       |nil=>intro j _ hq;cases hq
       |cons q C ihc=>
        intro j hr hq;obtain ⟨a,b⟩:=q;obtain ⟨r1,r2,r3,r4⟩:=hr
        rcases List.mem_cons.1 hq with rfl|hq
        · show j≤b;omega
        · have:=ihc r4 hq;omega
      have:=this h4 hq;omega) (by omega)
    have hin:InR (if lo<g then [(lo,g - 1)] else []) n↔lo≤n∧n<g:=by
     split
     · simp only [InR,or_false];omega
     · simp only [InR,false_iff];omega
    rw [hin]
    by_cases hh:hi≤h
    · rw [if_pos hh]
      simp only [InR,or_false]
      constructor
      · intro hn
        refine ⟨by omega,?_⟩;rintro (hx|hx)
        · omega
        · have:=hB n hx;omega
      · rintro ⟨hn,hx⟩
        have:¬ (g≤n∧n≤h):=fun hy=>hx (Or.inl hy)
        omega
    · rw [if_neg hh,ih hh]
      simp only [InR]
      constructor
      · rintro (hn|⟨hn,hx⟩)
        · refine ⟨by omega,?_⟩
          rintro (hx|hx)
          · omega
          · have:=hB n hx;omega
        · refine ⟨by omega,?_⟩
          rintro (hy|hy)
          · omega
          · exact hx hy
      · rintro ⟨hn,hx⟩
        have h5:¬ (g≤n∧n≤h):=fun hy=>hx (Or.inl hy)
        have h6:¬ InR B n:=fun hy=>hx (Or.inr hy)
        by_cases hb:n<g
        · exact Or.inl (by omega)
        · exact Or.inr ⟨by omega,h6⟩
theorem RiseR.mem {M:Int} {p:Int×Int}:∀ {C:Rg} {j:Int},RiseR j M C→p ∈ C→j≤p.1∧p.1≤p.2∧p.2≤M
 |[],_,_,hq=>by cases hq
 |(a,b)::C,j,hr,hq=>by
  obtain ⟨r1,r2,r3,r4⟩:=hr
  rcases List.mem_cons.1 hq with rfl|hq
  · exact ⟨r1,r2,r3⟩
  · have:=RiseR.mem r4 hq;omega
theorem yY {M:Int}:∀ {B:Rg} {lo hi k:Int},RiseR k M B→(∀ p ∈ B,lo≤p.2)→lo≤hi→RiseR lo hi (iQ lo hi B)
 |[],lo,hi,k,_,_,hl=>⟨Int.le_refl _,hl,Int.le_refl _,trivial⟩
 |(g,h)::B,lo,hi,k,hr,hp,hl=>by
  obtain ⟨h1,h2,h3,h4⟩:=hr;have hlh:lo≤h:=hp _ List.mem_cons_self;unfold iQ
  by_cases hg:hi<g
  · rw [if_pos hg];exact ⟨Int.le_refl _,hl,Int.le_refl _,trivial⟩
  · rw [if_neg hg]
    have hrest:RiseR (h+1) hi (if hi≤h then [] else iQ (h+1) hi B):=by
     split
     · trivial
     · exact yY (k:=h+2) h4 (fun p hq=>by have:=h4.mem hq;omega) (by omega)
    by_cases hlg:lo<g
    · rw [if_pos hlg]
      exact ⟨Int.le_refl _,by omega,by omega,hrest.weak (by omega)⟩
    · rw [if_neg hlg]
      exact hrest.weak (by omega)
theorem OP {n lo:Int} (hn:lo≤n):∀ {B:Rg},InR (cT lo B) n↔InR B n
 |[]=>Iff.rfl
 |(g,h)::B=>by
  unfold cT;rw [List.dropWhile_cons]
  by_cases hh:h<lo
  · rw [if_pos (by simpa using hh)]
    show InR (cT lo B) n↔_;rw [OP hn];simp only [InR]
    constructor
    · exact Or.inr
    · rintro (hx|hx)
      · omega
      · exact hx
  · rw [if_neg (by simpa using hh)]
theorem kM {lo M:Int}:∀ {B:Rg} {k:Int},RiseR k M B→RiseR k M (cT lo B)
 |[],_,_=>trivial
 |(g,h)::B,k,hr=>by
  unfold cT;rw [List.dropWhile_cons];obtain ⟨h1,h2,h3,h4⟩:=hr
  by_cases hh:h<lo
  · rw [if_pos (by simpa using hh)]
    exact (kM h4).weak (by omega)
  · rw [if_neg (by simpa using hh)];exact ⟨h1,h2,h3,h4⟩
theorem BJ {lo M:Int}:∀ {B:Rg} {k:Int},RiseR k M B→∀ p ∈ cT lo B,lo≤p.2
 |[],_,_,p,hp=>by simp [cT] at hp
 |(g,h)::B,k,hr,p,hp=>by
  unfold cT at hp;rw [List.dropWhile_cons] at hp;obtain ⟨h1,h2,h3,h4⟩:=hr
  by_cases hh:h<lo
  · rw [if_pos (by simpa using hh)] at hp
    exact BJ h4 p hp
  · rw [if_neg (by simpa using hh)] at hp
    rcases List.mem_cons.1 hp with rfl|hp
    · show lo≤h;omega
    · have:=h4.mem hp;omega
theorem yZ {M N:Int}:∀ {A B:Rg} {k j:Int},RiseR k M A→RiseR j N B→RiseR k M (bR A B)
 |[],_,_,_,_,_=>trivial
 |(lo,hi)::A,B,k,j,ha,hb=>by
  obtain ⟨h1,h2,h3,h4⟩:=ha;unfold bR;exact RiseR.weak (RiseR.append (yY (kM hb) (BJ hb) h2) (yZ h4 (kM hb)) h3 (by omega)) h1
theorem OQ {M N n:Int}:∀ {A B:Rg} {k j:Int},RiseR k M A→RiseR j N B→(InR (bR A B) n↔InR A n∧¬ InR B n)
 |[],_,_,_,_,_=>by simp [bR,InR]
 |(lo,hi)::A,B,k,j,ha,hb=>by
  obtain ⟨h1,h2,h3,h4⟩:=ha;unfold bR;rw [InR.append,OO (kM hb) (BJ hb) h2,OQ h4 (kM hb)];simp only [InR]
  by_cases hn:lo≤n
  · rw [OP hn]
    constructor
    · rintro (⟨x,y⟩|⟨x,y⟩)
      · exact ⟨Or.inl x,y⟩
      · exact ⟨Or.inr x,y⟩
    · rintro ⟨x|x,y⟩
      · exact Or.inl ⟨x,y⟩
      · exact Or.inr ⟨x,y⟩
  · constructor
    · rintro (⟨x,y⟩|⟨x,y⟩)
      · omega
      · have:=h4.bounds x;omega
    · rintro ⟨x|x,y⟩
      · omega
      · have:=h4.bounds x;omega
theorem EA {M N:Int}:∀ {A B:Rg} {k j:Int},RiseR k M A→RiseR j N B→(∀ n,InR A n↔InR B n)→A=B
 |[],[],_,_,_,_,_=>rfl
 |[],(g,h)::B,_,_,_,hb,he=>by
  have:=(he g).2 (Or.inl ⟨Int.le_refl _,hb.2.1⟩)
  exact this.elim
 |(g,h)::A,[],_,_,ha,_,he=>by
  have:=(he g).1 (Or.inl ⟨Int.le_refl _,ha.2.1⟩)
  exact this.elim
 |(g,h)::A,(g',h')::B,k,j,ha,hb,he=>by
  obtain ⟨a1,a2,a3,a4⟩:=ha;obtain ⟨b1,b2,b3,b4⟩:=hb;have hA:∀ x,InR A x→h+2≤x:=fun x hx=>(a4.bounds hx).1
  have hB:∀ x,InR B x→h'+2≤x:=fun x hx=>(b4.bounds hx).1
  have e1:g=g':=by
   have x1:=(he g).1 (Or.inl ⟨Int.le_refl _,a2⟩);have x2:=(he g').2 (Or.inl ⟨Int.le_refl _,b2⟩)
   rcases x1 with x1|x1<;>rcases x2 with x2|x2
   · omega
   · have:=hA _ x2;omega
   · have:=hB _ x1;omega
   · have:=hA _ x2;have:=hB _ x1;omega
  subst e1
  have e2:h=h':=by
   rcases Int.lt_trichotomy h h' with hh|hh|hh
   · have x:=(he (h+1)).2 (Or.inl ⟨by omega,by omega⟩)
     rcases x with x|x
     · omega
     · have:=hA _ x;omega
   · exact hh
   · have x:=(he (h'+1)).1 (Or.inl ⟨by omega,by omega⟩)
     rcases x with x|x
     · omega
     · have:=hB _ x;omega
  subst e2
  have e3:A=B:=EA a4 b4 fun n=>by
   constructor
   · intro hn
     rcases (he n).1 (Or.inr hn) with x|x
     · have:=hA _ hn;omega
     · exact x
   · intro hn
     rcases (he n).2 (Or.inr hn) with x|x
     · have:=hB _ hn;omega
     · exact x
  rw [e3]
theorem Df {g h hi:Int} {B:Rg} (hh:hi≤h):(((g,h)::B).takeWhile fun p=>decide (p.2<hi))=[]:=by
 rw [List.takeWhile_cons];simp [Int.not_lt.2 hh]
theorem VK {g h hi:Int} {B:Rg} (hh:h<hi):(((g,h)::B).takeWhile fun p=>decide (p.2<hi))=(g,h)::B.takeWhile fun p=>decide (p.2<hi):=by
 rw [List.takeWhile_cons];simp [hh]
theorem Fo {g h lo:Int} {B:Rg} (hh:lo≤h):cT lo ((g,h)::B)=(g,h)::B:=by
 unfold cT;rw [List.dropWhile_cons];simp [Int.not_lt.2 hh]
theorem VL {g h lo:Int} {B:Rg} (hh:h<lo):cT lo ((g,h)::B)=cT lo B:=by
 unfold cT;rw [List.dropWhile_cons];simp [hh]
theorem EB {lo:Int} {B:Rg}:(cT lo B).length≤B.length:=(List.dropWhile_sublist _).length_le
theorem uK:∀ {B:Rg} {lo hi:Int},(iQ lo hi B).length≤1+(B.takeWhile fun p=>decide (p.2<hi)).length
 |[],lo,hi=>by simp [iQ]
 |(g,h)::B,lo,hi=>by
  unfold iQ
  by_cases hg:hi<g
  · rw [if_pos hg];simp
  · rw [if_neg hg,List.length_append]
    have hone:(if lo<g then [(lo,g - 1)] else ([]:Rg)).length≤1:=by split<;>simp
    by_cases hh:hi≤h
    · rw [if_pos hh,Df hh]
      simp only [List.length_nil];omega
    · rw [if_neg hh,VK (by omega)]
      have:=uK (B:=B) (lo:=h+1) (hi:=hi)
      simp only [List.length_cons];omega
theorem drop_take {lo hi:Int} (h:hi≤lo):∀ {B:Rg},(cT lo B).length+(B.takeWhile fun p=>decide (p.2<hi)).length≤B.length
 |[]=>by simp [cT]
 |(a,b)::B=>by
  by_cases hb:b<hi
  · rw [VL (by omega),VK hb]
    have:=drop_take h (B:=B)
    simp only [List.length_cons];omega
  · rw [Df (by omega)]
    have:=EB (lo:=lo) (B:=(a,b)::B)
    simpa using this
theorem zA {M:Int}:∀ {A B:Rg} {lo hi k:Int},RiseR k M ((lo,hi)::A)→(bR ((lo,hi)::A) B).length≤A.length+1+(cT lo B).length
 |[],B,lo,hi,k,_=>by
  unfold bR;rw [List.length_append];have h1:=uK (B:=cT lo B) (lo:=lo) (hi:=hi);have h2:=(List.takeWhile_sublist (l:=cT lo B) fun p=>decide (p.2<hi)).length_le;simp only [bR,List.length_nil];omega
 |(lo2,hi2)::A,B,lo,hi,k,hr=>by
  obtain ⟨h1,h2,h3,h4⟩:=hr;have ih:=zA (A:=A) (B:=cT lo B) (lo:=lo2) (hi:=hi2) h4;have hl:hi≤lo2:=by have:=h4.1;omega
  have h5:=drop_take hl (B:=cT lo B);have h6:=uK (B:=cT lo B) (lo:=lo) (hi:=hi);rw [bR,List.length_append];simp only [List.length_cons];omega
theorem VM {M:Int} {A B:Rg} {k:Int} (h:RiseR k M A):(bR A B).length≤A.length+B.length:=by
 cases A with
 |nil=>simp [bR]
 |cons p A=>
  obtain ⟨lo,hi⟩:=p;have h1:=zA (B:=B) h;have h2:=EB (lo:=lo) (B:=B);simp only [List.length_cons];omega
def cF:Rg:=[(0,999999999)]
def fX (A B:Rg):Rg:=bR A (bR A B)
def fY (A B:Rg):Rg:=bR cF (bR (bR cF A) B)
def RangeR (A:Rg):Prop:=RiseR 0 999999999 A
theorem cD:RangeR cF:=⟨by decide,by decide,by decide,trivial⟩
theorem BK {n:Int}:InR cF n↔0≤n∧n≤999999999:=by simp [cF,InR]
theorem RangeR.cut {A B:Rg} (ha:RangeR A) (hb:RangeR B):RangeR (bR A B):=yZ ha hb
theorem RangeR.meet {A B:Rg} (ha:RangeR A) (hb:RangeR B):RangeR (fX A B):=ha.cut (ha.cut hb)
theorem RangeR.join {A B:Rg} (ha:RangeR A) (hb:RangeR B):RangeR (fY A B):=cD.cut ((cD.cut ha).cut hb)
theorem RangeR.in {A:Rg} (ha:RangeR A) {n:Int} (h:InR A n):0≤n∧n≤999999999:=RiseR.bounds ha h
theorem uL {A B:Rg} (ha:RangeR A) (hb:RangeR B) {n:Int}:InR (bR A B) n↔InR A n∧¬ InR B n:=OQ ha hb
theorem lF {A B:Rg} (ha:RangeR A) (hb:RangeR B) {n:Int}:InR (fX A B) n↔InR A n∧InR B n:=by
 unfold fX;rw [uL ha (ha.cut hb),uL ha hb]
 constructor
 · rintro ⟨x,y⟩
   exact ⟨x,Classical.byContradiction fun z=>y ⟨x,z⟩⟩
 · rintro ⟨x,y⟩
   exact ⟨x,fun z=>z.2 y⟩
theorem lG {A B:Rg} (ha:RangeR A) (hb:RangeR B) {n:Int}:InR (fY A B) n↔InR A n∨InR B n:=by
 unfold fY;rw [uL cD ((cD.cut ha).cut hb),uL (cD.cut ha) hb,uL cD ha,BK]
 constructor
 · rintro ⟨x,y⟩
   refine Classical.byContradiction fun z=>y ⟨⟨x,fun q=>z (Or.inl q)⟩,fun q=>z (Or.inr q)⟩
 · rintro (x|x)
   · exact ⟨ha.in x,fun z=>z.1.2 x⟩
   · exact ⟨hb.in x,fun z=>z.2 x⟩
theorem fN {A B:Rg} (ha:RangeR A) (hb:RangeR B) (h:∀ n,InR A n↔InR B n):A=B:=EA ha hb h
end Go.Proofs.YtmnhnofnlcbliaaGreatDoor
