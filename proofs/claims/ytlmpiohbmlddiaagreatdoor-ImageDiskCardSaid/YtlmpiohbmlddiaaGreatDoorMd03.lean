/- Vers5, Facts1, Sp1, Sp2, Sp3, Pure1, Cut1, Fo1, Fo2, Pure2, Fo3, Tx1, Row1, Tab1, Facts2, Next3, Parse1: their declarations that are needed, laid in one text, remarks and blanks left out. -/
import Derived.Test.YtlmpiohbmlddiaaGreatDoorShelfA
import Derived.Deep.RegionHeld3
import Derived.Deep.RegionWith
import Derived.Test.YtlmpiohbmlddiaaGreatDoorTie
import Derived.Test.YtlmpiohbmlddiaaGreatDoorCards
import Derived.ProofKit
import Derived.OpenShut
import Derived.ChangeOld
import Derived.LaidMore
import Derived.Lay
import Derived.SevenTiedAt
import Derived.Stop.Joined
import Derived.Shelf.Vars
import Derived.Deep.Slices
import Derived.Test.YtlmpiohbmlddiaaGreatDoorShelfB
import Derived.Lib.LaidTab
import Derived.Lib.AppendIntMem
import Derived.Stop.LaidErr
import Derived.Shelf.Strconv.AtoiAll
import Derived.Shelf.Strings.Cut
import Derived.Shelf.Strings.Split
import Derived.Shelf.Strings.IndexAnyAll
import Derived.Laws.IdiomStrings
import Derived.Test.YtlmpiohbmlddiaaGreatDoorMd02
namespace Go.Proofs.YtlmpiohbmlddiaaGreatDoor
open Go.RowKit
set_option maxRecDepth 100000
def aZ (a b c:Int):ByteArray:=if bC a b c=true then (((⟨(Lib.itoa a).toArray⟩++⟨#[46]⟩)++⟨(Lib.itoa b).toArray⟩)++⟨#[46]⟩)++⟨(Lib.itoa c).toArray⟩ else ByteArray.empty
def Spells (w:World) (n:Int) (S:ByteArray):Prop:=∀ w1,Below w.heap.size w w1→Calls Tryz.prog 170 #[.int .i64 n] w1 fun e w'=>e= .returned (.string S)∧Below w1.heap.size w1 w'
theorem Spells.next {w:World} {n:Int} {S:ByteArray} (h:Spells w n S) {N:Nat} {x y z:Value} (w1:World) (hb:Below w.heap.size w w1) (hl:N<w1.heap.size) (c0:w1.cell? ⟨N,0,none⟩=some x) (c1:w1.cell? ⟨N,1,none⟩=some y) (c2:w1.cell? ⟨N,2,none⟩=some z):
 Calls Tryz.prog 170 #[.int .i64 n] w1 fun e w'=>e= .returned (.string S)∧w'.cell? ⟨N,0,none⟩=some x∧w'.cell? ⟨N,1,none⟩=some y∧w'.cell? ⟨N,2,none⟩=some z∧N<w'.heap.size∧Below w.heap.size w w':=by
 refine (h w1 hb).mono ?_;rintro e w' ⟨rfl,hb1⟩;exact ⟨rfl,(hb1.cell (p:=⟨N,0,none⟩) hl).trans c0,(hb1.cell (p:=⟨N,1,none⟩) hl).trans c1,(hb1.cell (p:=⟨N,2,none⟩) hl).trans c2,Nat.lt_of_lt_of_le hl hb1.size,hb.trans (hb1.mono hb.size)⟩
theorem EG {u:Nat} (h:u<1000):(Lib.decDigits u).length≤3:=by
 rw [Lib.decDigits]
 split
 · simp
 · rw [Lib.decDigits]
   split
   · simp
   · rw [Lib.decDigits_one (by omega)];simp
theorem dK {n:Int} (h0:0≤n) (h1:n≤999):(⟨(Lib.itoa n).toArray⟩:ByteArray).size≤3:=by
 obtain ⟨u,rfl⟩:∃ u:Nat,n=u:=⟨n.toNat,by omega⟩;rw [Lib.itoa_nonneg]
 have:=EG (u:=u) (by omega)
 show (Lib.decDigits u).toArray.size≤3
 simpa using this
theorem bW (x y:ByteArray):(x++y).size=x.size+y.size:=ByteArray.size_append
theorem CL {a b:ByteArray} (h:a=b):Ending.returned (.string a)= .returned (.string b):=by rw [h]
set_option maxHeartbeats 1600000 in
theorem rJ (a b c:Int) (w:World) (ha:bC a b c=true→Spells w a ⟨(Lib.itoa a).toArray⟩) (hb:bC a b c=true→Spells w b ⟨(Lib.itoa b).toArray⟩) (hc:bC a b c=true→Spells w c ⟨(Lib.itoa c).toArray⟩):
 Calls Tryz.prog 125 #[.agg #[.int .i64 a,.int .i64 b,.int .i64 c]] w fun e w'=>e= .returned (.string (aZ a b c))∧Below w.heap.size w w':=by
 have HM:Hid (∀ w1,Calls Tryz.prog 159 #[.agg #[.int .i64 a,.int .i64 b,.int .i64 c]] w1 fun e w'=>e= .returned (.bool (bC a b c))∧Below w1.heap.size w1 w'):=gL a b c;cases hm:bC a b c
 · have HR:Hid (aZ a b c=ByteArray.empty):=by unfold Hid aZ;rw [hm];rfl
   rw [hm] at HM;clear ha hb hc
   go_enter Tryz.func125,Tryz.ntmps125
   go_wp2_with (go_at_call 159;refine (HM.out _).mono ?_;rintro e w' ⟨rfl,hb⟩)
   go_returns;exact ⟨CL HR.out.symm,aA (aD _ _) hb⟩
 · have HR:Hid (aZ a b c=(((⟨(Lib.itoa a).toArray⟩++⟨#[46]⟩)++⟨(Lib.itoa b).toArray⟩)++⟨#[46]⟩)++⟨(Lib.itoa c).toArray⟩):=by unfold Hid aZ;rw [hm];rfl
   have HA:Hid (Spells w a ⟨(Lib.itoa a).toArray⟩):=ha hm;have HB:Hid (Spells w b ⟨(Lib.itoa b).toArray⟩):=hb hm;have HC:Hid (Spells w c ⟨(Lib.itoa c).toArray⟩):=hc hm;obtain ⟨a0,a1,b0,b1,c0,c1⟩:=dI hm;have za:=dK a0 a1;have zb:=dK b0 b1;have zc:=dK c0 c1;rw [hm] at HM;clear ha hb hc a0 a1 b0 b1 c0 c1;generalize (⟨(Lib.itoa a).toArray⟩:ByteArray)=A at*;generalize (⟨(Lib.itoa b).toArray⟩:ByteArray)=B at*;generalize (⟨(Lib.itoa c).toArray⟩:ByteArray)=C at*;have zd:(⟨#[46]⟩:ByteArray).size=1:=rfl;have e1:=fun W:World=>run_string_add_sum (P:=Tryz.prog) (w:=W) A ⟨#[46]⟩ (by omega)
   have e2:=fun W:World=>run_string_add_sum (P:=Tryz.prog) (w:=W) (A++⟨#[46]⟩) B (by rw [bW];omega)
   have e3:=fun W:World=>run_string_add_sum (P:=Tryz.prog) (w:=W) ((A++⟨#[46]⟩)++B) ⟨#[46]⟩ (by rw [bW,bW];omega)
   have e4:=fun W:World=>run_string_add_sum (P:=Tryz.prog) (w:=W) (((A++⟨#[46]⟩)++B)++⟨#[46]⟩) C (by rw [bW,bW,bW];omega)
   clear za zb zc zd
   go_enter Tryz.func125,Tryz.ntmps125
   go_wp2_with (go_at_call 159;refine (HM.out _).mono ?_;rintro e w0 ⟨rfl,hb0⟩;obtain ⟨k0,k1,k2,k3,k4⟩:=QI hb0)
   have HB0:Hid (Below w.heap.size w w0):=k4;have HK0:Hid (w.heap.size<w0.heap.size∧w0.cell? ⟨w.heap.size,0,none⟩=some (.int .i64 a)∧w0.cell? ⟨w.heap.size,1,none⟩=some (.int .i64 b)∧w0.cell? ⟨w.heap.size,2,none⟩=some (.int .i64 c)):=⟨k3,k0,k1,k2⟩;have t1:True:=trivial;have t2:True:=trivial;have t3:True:=trivial;clear k4 hb0
   go_region_held3 (fun w'=>w'.cell? ⟨w.heap.size,0,none⟩=some (.int .i64 a)∧w'.cell? ⟨w.heap.size,1,none⟩=some (.int .i64 b)∧w'.cell? ⟨w.heap.size,2,none⟩=some (.int .i64 c)) (go_keep)
    (first
      |(go_at_call 170;clear t1;refine (HA.out.next (N:=w.heap.size) (x:= .int .i64 a) (y:= .int .i64 b) (z:= .int .i64 c) _ ?_ ?_ ?_ ?_ ?_).mono ?_;(first|exact HB0.out|exact HB0.out.drew);exact HK0.out.1;exact HK0.out.2.1;exact HK0.out.2.2.1;exact HK0.out.2.2.2;rintro e w1 ⟨rfl,q0,q1,q2,l1,b1⟩;have HB1:Hid (Below w.heap.size w w1):=b1;have HK1:Hid (w.heap.size<w1.heap.size∧w1.cell? ⟨w.heap.size,0,none⟩=some (.int .i64 a)∧w1.cell? ⟨w.heap.size,1,none⟩=some (.int .i64 b)∧w1.cell? ⟨w.heap.size,2,none⟩=some (.int .i64 c)):=⟨l1,q0,q1,q2⟩;clear b1)
      |(go_at_call 170;clear t2;refine (HB.out.next (N:=w.heap.size) (x:= .int .i64 a) (y:= .int .i64 b) (z:= .int .i64 c) _ ?_ ?_ ?_ ?_ ?_).mono ?_;(first|exact HB1.out|exact HB1.out.drew);exact HK1.out.1;exact HK1.out.2.1;exact HK1.out.2.2.1;exact HK1.out.2.2.2;rintro e w2 ⟨rfl,r0,r1,r2,l2,b2⟩;have HB2:Hid (Below w.heap.size w w2):=b2;have HK2:Hid (w.heap.size<w2.heap.size∧w2.cell? ⟨w.heap.size,0,none⟩=some (.int .i64 a)∧w2.cell? ⟨w.heap.size,1,none⟩=some (.int .i64 b)∧w2.cell? ⟨w.heap.size,2,none⟩=some (.int .i64 c)):=⟨l2,r0,r1,r2⟩;clear b2)
      |(go_at_call 170;clear t3;refine (HC.out.next (N:=w.heap.size) (x:= .int .i64 a) (y:= .int .i64 b) (z:= .int .i64 c) _ ?_ ?_ ?_ ?_ ?_).mono ?_;(first|exact HB2.out|exact HB2.out.drew);exact HK2.out.1;exact HK2.out.2.1;exact HK2.out.2.2.1;exact HK2.out.2.2.2;rintro e w3 ⟨rfl,u0,u1,u2,l3,b3⟩;have HB3:Hid (Below w.heap.size w w3):=b3;clear b3))
   all_goals go_wp2
   all_goals
    go_returns;refine ⟨CL (by rw [HR.out]),?_⟩;exact HB3.out
end Go.Proofs.YtlmpiohbmlddiaaGreatDoor
namespace Go.Proofs.YtlmpiohbmlddiaaGreatDoor
set_option maxRecDepth 100000
theorem NJ (a b c x y z:Int):fN a b c x y z= -fN x y z a b c:=by unfold fN;grind
theorem kF {a b c:Int} (h:bC a b c=true):aW a b c=(a*1000+b)*1000+c:=by unfold aW;rw [if_pos h]
theorem fX {a b c:Int} (h:bC a b c=true):0≤aW a b c∧aW a b c<1000000000:=by
 have:=dI h;rw [kF h];omega
theorem nU {a b c x y z:Int} (h:bC a b c=true) (k:bC x y z=true):fN a b c x y z<0↔aW a b c<aW x y z:=by
 have h1:=dI h;have k1:=dI k;rw [kF h,kF k];unfold fN
 split
 · subst_vars
   split
   · subst_vars
     split
     · omega
     · split<;>omega
   · split<;>omega
 · split<;>omega
theorem IR {a b c:Int} (h:bC a b c=true):fW (aW a b c)=true:=by
 have:=fX h;unfold fW;simp;omega
theorem CM {a b c:Int} (h:bC a b c=true):atA (aW a b c)=a∧atB (aW a b c)=b∧atC (aW a b c)=c:=by
 have h1:=dI h;unfold atA atB atC;rw [IR h,kF h]
 simp
 omega
theorem nV {n:Int} (h:fW n=true):bC (atA n) (atB n) (atC n)=true∧aW (atA n) (atB n) (atC n)=n:=by
 have h1:0≤n∧n<1000000000:=by unfold fW at h;simpa using h
 have m:bC (atA n) (atB n) (atC n)=true:=by
  unfold bC bL atA atB atC;rw [h]
  simp
  omega
 refine ⟨m,?_⟩;rw [kF m];unfold atA atB atC;rw [h]
 simp
 omega
theorem PV {a b c k:Int} (h:bC a b c=true):nT a b c k=fW (aW a b c+k):=by unfold nT;rw [h];rfl
theorem SH {a b c k:Int} (h:bC a b c=true):onA a b c k=atA (aW a b c+k)∧onB a b c k=atB (aW a b c+k)∧onC a b c k=atC (aW a b c+k):=by
 unfold onA onB onC;rw [h];exact ⟨rfl,rfl,rfl⟩
theorem IU {a b c k:Int} (h:nT a b c k=true):bC a b c=true∧bC (onA a b c k) (onB a b c k) (onC a b c k)=true∧aW (onA a b c k) (onB a b c k) (onC a b c k)=aW a b c+k:=by
 have hm:bC a b c=true:=by unfold nT at h;revert h;cases bC a b c<;>simp
 rw [PV hm] at h;obtain ⟨e1,e2,e3⟩:=SH (k:=k) hm;rw [e1,e2,e3];exact ⟨hm,nV h⟩
theorem NK {a b c:Int} (h:bC a b c=true):nT a b c 1=decide (aW a b c<999999999):=by
 have:=fX h
 rw [PV h];unfold fW;rw [Bool.eq_iff_iff];simp;omega
end Go.Proofs.YtlmpiohbmlddiaaGreatDoor
namespace Go.Proofs.YtlmpiohbmlddiaaGreatDoor
open Go.RowKit
set_option maxRecDepth 100000
theorem aB {p:Prop} (h:p):Hid p:=h
def Bx6 (w:World) (N:Nat) (a b c x y z:Int):Prop:=
 w.cell? ⟨N,0,none⟩=some (.int .i64 a)∧w.cell? ⟨N,1,none⟩=some (.int .i64 b)∧w.cell? ⟨N,2,none⟩=some (.int .i64 c)∧w.cell? ⟨N,3,none⟩=some (.int .i64 x)∧w.cell? ⟨N,4,none⟩=some (.int .i64 y)∧w.cell? ⟨N,5,none⟩=some (.int .i64 z)∧N<w.heap.size
theorem Bx6.new {w:World} {N:Nat} (hN:w.heap.size=N) (a b c x y z:Int):Bx6 (w.alloc (.cells #[.int .i64 a,.int .i64 b,.int .i64 c,.int .i64 x,.int .i64 y,.int .i64 z] 210)) N a b c x y z:=by
 subst hN;refine ⟨?_,?_,?_,?_,?_,?_,?_⟩<;>simp
theorem Bx6.below {w w':World} {N:Nat} {a b c x y z:Int} (h:Bx6 w N a b c x y z) (hb:Below w.heap.size w w'):Bx6 w' N a b c x y z:=by
 obtain ⟨h0,h1,h2,h3,h4,h5,h6⟩:=h;have q:∀ i,w'.cell? ⟨N,i,none⟩=w.cell? ⟨N,i,none⟩:=fun i=>hb.cell (p:=⟨N,i,none⟩) h6
 exact ⟨by rw [q];exact h0,by rw [q];exact h1,by rw [q];exact h2,by rw [q];exact h3,by rw [q];exact h4,by rw [q];exact h5,Nat.lt_of_lt_of_le h6 hb.size⟩
def KeepP (K:World→Prop):Prop:=∀ w w',K w→Below w.heap.size w w'→K w'
theorem KeepP.and {K M:World→Prop} (hk:KeepP K) (hm:KeepP M):KeepP fun w=>K w∧M w:=fun _ _ h hb=>⟨hk _ _ h.1 hb,hm _ _ h.2 hb⟩
theorem KeepP.drew {K:World→Prop} (hk:KeepP K) {w:World} (h:K w):K w.drew:=hk _ _ h (Below.refl _ _).drew
theorem aO (w:World):KeepP fun w1=>Below w.heap.size w w1:=fun _ _ h hb=>aA h hb
theorem IV (N:Nat) (a b c x y z:Int):KeepP fun w1=>Bx6 w1 N a b c x y z:=fun _ _ h hb=>h.below hb
theorem nW {K:World→Prop} (hk:KeepP K) {P:Program} {id:Nat} {Q:Exit→Act→World→Prop} {a:Act} {w:World} {l:List Oper} (hm:P.follows .mixedOrders=true) (hB:Region.lexB .any l.toArray=true) (hC:K w)
 (h:∀ C:World→Prop,(∀ w,K w→C w)→(∀ w,C w→K w)→wpQuiet P l.toArray C (fun a'=>∀ w',C w'→Q .normal a' w') l a):(Code.region id l.toArray true).wp P Q a w:=
 wp_region_quiet (C:=K) hm hB (hk.drew hC) (by simpa using h K (fun _ h=>h) (fun _ h=>h))
theorem cI {K:World→Prop} (hk:Hid (KeepP K)) {P:Program} {id:Nat} {Q:Exit→Act→World→Prop} {a:Act} {w:World} {l:List Oper} (hm:P.follows .mixedOrders=true) (hB:Region.lexB .any l.toArray=true) (hC:K w)
 (h:∀ C:World→Prop,Hid (∀ w,K w→C w)→Hid (∀ w,C w→K w)→wpQuiet P l.toArray C (fun a'=>∀ w',C w'→Q .normal a' w') l a):(Code.region id l.toArray true).wp P Q a w:=nW hk hm hB hC h
theorem SI {C K:World→Prop} (hin:∀ w,K w→C w) (hout:∀ w,C w→K w) (hk:KeepP K) {P:Program} {f:Nat} {args:Array Value} {v:Value} (h:∀ w1,Calls P f args w1 fun e w'=>e= .returned v∧Below w1.heap.size w1 w') (w1:World) (hC:C w1):
 Calls P f args w1 fun e w'=>e= .returned v∧C w':=by
 refine (h w1).mono ?_;rintro e w' ⟨rfl,hb⟩;exact ⟨rfl,hin _ (hk _ _ (hout _ hC) hb)⟩
theorem dT {C K:World→Prop} (hin:Hid (∀ w,K w→C w)) (hout:Hid (∀ w,C w→K w)) (hk:Hid (KeepP K)) {P:Program} {f:Nat} {args:Array Value} {v:Value} (h:∀ w1,Calls P f args w1 fun e w'=>e= .returned v∧Below w1.heap.size w1 w') (w1:World) (hC:C w1):
 Calls P f args w1 fun e w'=>e= .returned v∧C w':=SI hin hout hk h w1 hC
theorem QO {C K:World→Prop} (hin:∀ w,K w→C w) (hout:∀ w,C w→K w) (hk:KeepP K) {P:Program} {f:Nat} {args:Array Value} {v:Value} (h:∀ w1,K w1→Calls P f args w1 fun e w'=>e= .returned v∧Below w1.heap.size w1 w') (w1:World) (hC:C w1):
 Calls P f args w1 fun e w'=>e= .returned v∧C w':=by
 refine (h w1 (hout _ hC)).mono ?_;rintro e w' ⟨rfl,hb⟩;exact ⟨rfl,hin _ (hk _ _ (hout _ hC) hb)⟩
theorem bA {C K:World→Prop} (hin:Hid (∀ w,K w→C w)) (hout:Hid (∀ w,C w→K w)) (hk:Hid (KeepP K)) {P:Program} {f:Nat} {args:Array Value} {v:Value} (h:∀ w1,K w1→Calls P f args w1 fun e w'=>e= .returned v∧Below w1.heap.size w1 w') (w1:World) (hC:C w1):
 Calls P f args w1 fun e w'=>e= .returned v∧C w':=QO hin hout hk h w1 hC
def eA (a b c x y z:Int):Bool:=bC a b c&&bC x y z&&decide (fN a b c x y z≤0)
def eW (x y z a b c:Int):Bool:=nT x y z 1&&decide (fN (onA x y z 1) (onB x y z 1) (onC x y z 1) a b c<0)
set_option maxHeartbeats 800000 in
theorem uS (a b c x y z:Int) (w:World):
 Calls Tryz.prog 270 #[.agg #[.int .i64 a,.int .i64 b,.int .i64 c,.int .i64 x,.int .i64 y,.int .i64 z]] w fun e w'=>e= .returned (.bool (eA a b c x y z))∧Below w.heap.size w w':=by
 have HL:Hid (∀ w1,Calls Tryz.prog 159 #[.agg #[.int .i64 a,.int .i64 b,.int .i64 c]] w1 fun e w'=>e= .returned (.bool (bC a b c))∧Below w1.heap.size w1 w'):=gL a b c;have HH:Hid (∀ w1,Calls Tryz.prog 159 #[.agg #[.int .i64 x,.int .i64 y,.int .i64 z]] w1 fun e w'=>e= .returned (.bool (bC x y z))∧Below w1.heap.size w1 w'):=gL x y z;have HC:Hid (∀ w1,Calls Tryz.prog 288 #[.agg #[.int .i64 a,.int .i64 b,.int .i64 c],.agg #[.int .i64 x,.int .i64 y,.int .i64 z]] w1 fun e w'=>e= .returned (.int .i64 (fN a b c x y z))∧Below w1.heap.size w1 w'):=mD a b c x y z;have HB:Hid (Bx6 (w.alloc (.cells #[.int .i64 a,.int .i64 b,.int .i64 c,.int .i64 x,.int .i64 y,.int .i64 z] 210)) w.heap.size a b c x y z):=Bx6.new rfl _ _ _ _ _ _;have t1:True:=trivial;cases h1:bC a b c
 · have HR:Hid (eA a b c x y z=false):=by unfold Hid eA;rw [h1];rfl
   rw [h1] at HL
   go_enter Tryz.func270,Tryz.ntmps270
   go_wp2_with (go_at_call 159;refine (HL.out _).mono ?_;rintro e w1 ⟨rfl,hb⟩)
   go_ret;exact ⟨aC HR.out.symm,aA (aD _ _) hb⟩
 · cases h2:bC x y z
   · have HR:Hid (eA a b c x y z=false):=by unfold Hid eA;rw [h1,h2];rfl
     rw [h1] at HL;rw [h2] at HH
     go_enter Tryz.func270,Tryz.ntmps270
     go_wp2_with (first
      |(have _t:=t1;go_at_call 159;refine (HL.out _).mono ?_;rintro e w1 ⟨rfl,hb⟩;obtain ⟨k0,k1,k2,k3,k4,k5,k6⟩:=HB.out.below hb;clear t1)
      |(go_at_call 159;refine (HH.out _).mono ?_;rintro e w2 ⟨rfl,hb2⟩))
     go_ret;exact ⟨aC HR.out.symm,aA (aA (aD _ _) hb) hb2⟩
   · rw [h1] at HL
     rw [h2] at HH;have HR:Hid (eA a b c x y z=decide (fN a b c x y z≤0)):=by unfold Hid eA;rw [h1,h2];rfl
     generalize fN a b c x y z=q at*
     go_enter Tryz.func270,Tryz.ntmps270
     go_wp2_with (first
      |(have _t:=t1;go_at_call 159;refine (HL.out _).mono ?_;rintro e w1 ⟨rfl,hb⟩;have HB1:=aB (HB.out.below hb);obtain ⟨k0,k1,k2,k3,k4,k5,k6⟩:=HB1.out;clear t1)
      |(go_at_call 159;refine (HH.out _).mono ?_;rintro e w2 ⟨rfl,hb2⟩;obtain ⟨j0,j1,j2,j3,j4,j5,j6⟩:=HB1.out.below hb2)
      |(go_at_call 288;refine (HC.out _).mono ?_;rintro e w3 ⟨rfl,hb3⟩))
     go_ret;exact ⟨aC HR.out.symm,aA (aA (aA (aD _ _) hb) hb2) hb3⟩
set_option maxHeartbeats 800000 in
theorem EH (a b c x y z p q r u v t:Int) (w:World):
 Calls Tryz.prog 271 #[.agg #[.int .i64 a,.int .i64 b,.int .i64 c,.int .i64 x,.int .i64 y,.int .i64 z],.agg #[.int .i64 p,.int .i64 q,.int .i64 r,.int .i64 u,.int .i64 v,.int .i64 t]] w fun e w'=>e= .returned (.bool (eW x y z p q r))∧Below w.heap.size w w':=by
 have HN:Hid (∀ w1,Calls Tryz.prog 289 #[.agg #[.int .i64 x,.int .i64 y,.int .i64 z]] w1 fun e w'=>e= .returned (.tuple #[.agg #[.int .i64 (onA x y z 1),.int .i64 (onB x y z 1),.int .i64 (onC x y z 1)],.bool (nT x y z 1)])∧Below w1.heap.size w1 w'):=IQ x y z;have HC:Hid (∀ w1,Calls Tryz.prog 288 #[.agg #[.int .i64 (onA x y z 1),.int .i64 (onB x y z 1),.int .i64 (onC x y z 1)],.agg #[.int .i64 p,.int .i64 q,.int .i64 r]] w1 fun e w'=>e= .returned (.int .i64 (fN (onA x y z 1) (onB x y z 1) (onC x y z 1) p q r))∧Below w1.heap.size w1 w'):=mD _ _ _ _ _ _;have HB:Hid (Bx6 ((w.alloc (.cells #[.int .i64 a,.int .i64 b,.int .i64 c,.int .i64 x,.int .i64 y,.int .i64 z] 210)).alloc (.cells #[.int .i64 p,.int .i64 q,.int .i64 r,.int .i64 u,.int .i64 v,.int .i64 t] 210)) (w.heap.size+1) p q r u v t):=Bx6.new (by simp) _ _ _ _ _ _;cases h1:nT x y z 1
 · have HR:Hid (eW x y z p q r=false):=by unfold Hid eW;rw [h1];rfl
   rw [h1] at HN
   go_enter Tryz.func271,Tryz.ntmps271
   go_wp2_with (go_at_call 289;refine (HN.out _).mono ?_;rintro e w1 ⟨rfl,hb⟩)
   go_ret;exact ⟨aC HR.out.symm,aA (aA (aV _ _ _) hb) (aD _ _)⟩
 · have HR:Hid (eW x y z p q r=decide (fN (onA x y z 1) (onB x y z 1) (onC x y z 1) p q r<0)):=by unfold Hid eW;rw [h1];rfl
   rw [h1] at HN;generalize onA x y z 1=nA at*;generalize onB x y z 1=nB at*;generalize onC x y z 1=nC at*;generalize fN nA nB nC p q r=o at*
   go_enter Tryz.func271,Tryz.ntmps271
   go_wp2_with (first
    |(go_at_call 289;refine (HN.out _).mono ?_;rintro e w1 ⟨rfl,hb⟩;obtain ⟨k0,k1,k2,k3,k4,k5,k6⟩:=HB.out.below hb)
    |(go_at_call 288;refine (HC.out _).mono ?_;rintro e w2 ⟨rfl,hb2⟩))
   go_ret;exact ⟨aC HR.out.symm,aA (aA (aA (aV _ _ _) hb) (aD _ _)) hb2⟩
structure Sp where
 a:Int
 b:Int
 c:Int
 x:Int
 y:Int
 z:Int
def SpAt (w:World) (g o:Nat) (s:Sp):Prop:=w.cell? ⟨g,o,none⟩=some (.int .i64 s.a)∧w.cell? ⟨g,o+1,none⟩=some (.int .i64 s.b)∧w.cell? ⟨g,o+1+1,none⟩=some (.int .i64 s.c)∧
 w.cell? ⟨g,o+1+1+1,none⟩=some (.int .i64 s.x)∧w.cell? ⟨g,o+1+1+1+1,none⟩=some (.int .i64 s.y)∧w.cell? ⟨g,o+1+1+1+1+1,none⟩=some (.int .i64 s.z)
def SpansAt (w:World) (v:Value) (L:List Sp):Prop:=∃ ad cap,v= .slice ad L.length cap∧(L=[]∨∃ g o,ad=some ⟨g,o,none⟩∧g<w.heap.size∧∀ i (h:i<L.length),SpAt w g (o+i*6) L[i])
def eJ (L:List Sp) (i:Nat):Bool:=match L[i]? with
 |none=>true
 |some s=>eA s.a s.b s.c s.x s.y s.z&&(match i with
  |0=>true
  |j+1=>match L[j]? with
   |none=>true
   |some p=>eW p.x p.y p.z s.a s.b s.c)
def gN (L:List Sp):Bool:=decide (L.length≤64)&&(List.range L.length).all (eJ L)
theorem SpAt.below {w w':World} {g o B:Nat} {s:Sp} (h:SpAt w g o s) (hb:Below B w w') (hg:g<B):SpAt w' g o s:=by
 obtain ⟨h0,h1,h2,h3,h4,h5⟩:=h;have q:∀ i,w'.cell? ⟨g,i,none⟩=w.cell? ⟨g,i,none⟩:=fun i=>hb.cell (p:=⟨g,i,none⟩) hg
 exact ⟨by rw [q];exact h0,by rw [q];exact h1,by rw [q];exact h2,by rw [q];exact h3,by rw [q];exact h4,by rw [q];exact h5⟩
def sV (w:World) (g o:Nat) (s:Sp):Prop:=SpAt w g o s∧g<w.heap.size
theorem sW (g o:Nat) (s:Sp):KeepP fun w1=>sV w1 g o s:=fun _ _ h hb=>⟨h.1.below hb h.2,Nat.lt_of_lt_of_le h.2 hb.size⟩
theorem SpansAt.below {w w':World} {v:Value} {L:List Sp} (h:SpansAt w v L) (hb:Below w.heap.size w w'):SpansAt w' v L:=by
 obtain ⟨ad,cap,hv,hl⟩:=h;refine ⟨ad,cap,hv,hl.imp id ?_⟩;rintro ⟨g,o,ha,hg,hs⟩;exact ⟨g,o,ha,Nat.lt_of_lt_of_le hg hb.size,fun i hi=>(hs i hi).below hb hg⟩
theorem SpAt.first {w:World} {g o:Nat} {s:Sp} (h:SpAt w g (o+0*6) s):w.cell? ⟨g,o,none⟩=some (.int .i64 s.a)∧w.cell? ⟨g,o+1,none⟩=some (.int .i64 s.b)∧w.cell? ⟨g,o+2,none⟩=some (.int .i64 s.c)∧
 w.cell? ⟨g,o+3,none⟩=some (.int .i64 s.x)∧w.cell? ⟨g,o+4,none⟩=some (.int .i64 s.y)∧w.cell? ⟨g,o+5,none⟩=some (.int .i64 s.z):=by
 simp only [Nat.zero_mul,Nat.add_zero] at h;exact h
theorem zD {n:Int} (h0:0≤n) (h1:n≤1000000000000):IntKind.i64.wrap n=n:=by
 go_arith
theorem zF {L:List Sp} (ht:gN L=(List.range L.length).all (eJ L)) {k:Nat} (hk:k<L.length) (h:eJ L k=false):gN L=false:=by
 rw [ht,Bool.eq_false_iff];intro ha;rw [List.all_eq_true] at ha
 have:=ha k (List.mem_range.2 hk)
 rw [h] at this;cases this
theorem NL {L:List Sp} (ht:gN L=(List.range L.length).all (eJ L)) (h:∀ j,j<L.length→eJ L j=true):gN L=true:=by
 rw [ht,List.all_eq_true];exact fun k hk=>h k (List.mem_range.1 hk)
set_option maxHeartbeats 3200000 in
theorem EI (L:List Sp) (g o cap:Nat) (w:World) (hlen:L.length≤64) (hg:g<w.heap.size) (hl:∀ i (h:i<L.length),SpAt w g (o+i*6) L[i]):
 Calls Tryz.prog 241 #[.slice (some ⟨g,o,none⟩) L.length cap] w fun e w'=>e= .returned (.bool (gN L))∧Below w.heap.size w w':=by
 have HL:Hid (∀ w1,Below w.heap.size w w1→∀ i (h:i<L.length),SpAt w1 g (o+i*6) L[i]):=fun w1 hb i hi=>(hl i hi).below hb hg
 clear hl;have HT:Hid (gN L=(List.range L.length).all (eJ L)):=by unfold Hid gN;simp [hlen]
 have h64:decide ((64:Int)<(L.length:Int))=false:=decide_eq_false (by omega)
 go_enter Tryz.func241,Tryz.ntmps241
 go_wp2_with fail
 go_loopw [10] (fun i wr=>∃ k:Nat,k≤L.length∧i= .int .i64 k∧Below w.heap.size w wr∧∀ j,j<k→eJ L j=true) (fun i _=>L.length - (intOf i).toNat)
 case atStart=>exact ⟨0,Nat.zero_le _,rfl,Below.refl _ _,fun j hj=>by omega⟩
 case round=>
  obtain ⟨k,hk,rfl,hb,hok⟩:=hrel
  by_cases hlt:k<L.length
  · have hs:=HL.out wr hb k hlt
    have HOK:=aB hok;have HB:=aB hb;have HS:Hid (L[k]? =some L[k]):=List.getElem?_eq_getElem hlt;generalize L[k]=s at*;obtain ⟨a,b,c,x,y,z⟩:=s;have HM:Hid (∀ w1,Calls Tryz.prog 270 #[.agg #[.int .i64 a,.int .i64 b,.int .i64 c,.int .i64 x,.int .i64 y,.int .i64 z]] w1 fun e w'=>e= .returned (.bool (eA a b c x y z))∧Below w1.heap.size w1 w'):=uS a b c x y z;clear hok;cases k with
    |zero=>
     have HO:Hid (Below w.heap.size w (wr.alloc (.cells #[.int .i64 a,.int .i64 b,.int .i64 c,.int .i64 x,.int .i64 y,.int .i64 z] 210))∧Bx6 (wr.alloc (.cells #[.int .i64 a,.int .i64 b,.int .i64 c,.int .i64 x,.int .i64 y,.int .i64 z] 210)) wr.heap.size a b c x y z):=⟨aA hb (aD _ _),Bx6.new rfl _ _ _ _ _ _⟩;have HK:Hid (KeepP fun w1=>Below w.heap.size w w1∧Bx6 w1 wr.heap.size a b c x y z):=(aO w).and (IV _ _ _ _ _ _ _);obtain ⟨c0,c1,c2,c3,c4,c5⟩:=hs.first
     simp only at c0 c1 c2 c3 c4 c5
     clear hs hb;cases hm:eA a b c x y z
     · have HF:Hid (gN L=false):=zF HT.out hlt (by unfold eJ;rw [HS.out];simp [hm])
       rw [hm] at HM
       go_wp2_with fail
       refine cI HK (by kernel_rfl) (by kernel_rfl) (by first|exact HO.out|exact HK.out.drew HO.out) ?_;intro C HIN HOUT;clear HO
       repeat
        (with_reducible refine wpQuiet_step (fun K hK=> ?_)
         go_simp
         first
          |(refine hK _ ?_;clear hK K)
          |(apply Exists.intro;refine ⟨fun w1 hC=> ?_,hK _ ?_⟩;(focus ((first|(go_at_call 270;with_reducible exact dT HIN HOUT HK HM.out w1 hC)|(exact rfl)|(obtain ⟨hb1,k0,k1,k2,k3,k4,k5,k6⟩:=HOUT.out w1 hC;clear hC;go_simp;first|done|exact rfl));done));clear hK K))
       refine wpQuiet_nil ?_;intro wn hC;have HO:=aB (HOUT.out _ hC);clear hC HIN HOUT C;obtain ⟨hb1,k0,k1,k2,k3,k4,k5,k6⟩:=HO.out
       go_wp2
       go_ret;exact ⟨aC HF.out.symm,HO.out.1⟩
     · have HF:Hid (eJ L 0=true):=by unfold Hid eJ;rw [HS.out];simp [hm]
       rw [hm] at HM
       go_wp2_with fail
       refine cI HK (by kernel_rfl) (by kernel_rfl) (by first|exact HO.out|exact HK.out.drew HO.out) ?_;intro C HIN HOUT;clear HO
       repeat
        (with_reducible refine wpQuiet_step (fun K hK=> ?_)
         go_simp
         first
          |(refine hK _ ?_;clear hK K)
          |(apply Exists.intro;refine ⟨fun w1 hC=> ?_,hK _ ?_⟩;(focus ((first|(go_at_call 270;with_reducible exact dT HIN HOUT HK HM.out w1 hC)|(exact rfl)|(obtain ⟨hb1,k0,k1,k2,k3,k4,k5,k6⟩:=HOUT.out w1 hC;clear hC;go_simp;first|done|exact rfl));done));clear hK K))
       refine wpQuiet_nil ?_;intro wn hC;have HO:=aB (HOUT.out _ hC);clear hC HIN HOUT C;obtain ⟨hb1,k0,k1,k2,k3,k4,k5,k6⟩:=HO.out
       go_wp2
       exact ⟨⟨1,by omega,rfl,HO.out.1,fun j hj=>by rw [show j=0 by omega];exact HF.out⟩,by simp [intOf];omega⟩
    |succ j=>
     have hp:=HL.out wr hb j (by omega);have HP:Hid (L[j]? =some (L[j]'(by omega))):=List.getElem?_eq_getElem (by omega);generalize L[j]'(by omega)=p at*;obtain ⟨p,q,r,u,v,t⟩:=p;have HO:Hid (Below w.heap.size w (wr.alloc (.cells #[.int .i64 a,.int .i64 b,.int .i64 c,.int .i64 x,.int .i64 y,.int .i64 z] 210))∧Bx6 (wr.alloc (.cells #[.int .i64 a,.int .i64 b,.int .i64 c,.int .i64 x,.int .i64 y,.int .i64 z] 210)) wr.heap.size a b c x y z∧sV (wr.alloc (.cells #[.int .i64 a,.int .i64 b,.int .i64 c,.int .i64 x,.int .i64 y,.int .i64 z] 210)) g (o+j*6) ⟨p,q,r,u,v,t⟩):=⟨aA hb (aD _ _),Bx6.new rfl _ _ _ _ _ _,sW _ _ _ _ _ ⟨hp,Nat.lt_of_lt_of_le hg hb.size⟩ (aD _ _)⟩;have HK:Hid (KeepP fun w1=>Below w.heap.size w w1∧Bx6 w1 wr.heap.size a b c x y z∧sV w1 g (o+j*6) ⟨p,q,r,u,v,t⟩):=(aO w).and ((IV _ _ _ _ _ _ _).and (sW _ _ _))
     have HA:Hid (∀ w1,Calls Tryz.prog 271 #[.agg #[.int .i64 p,.int .i64 q,.int .i64 r,.int .i64 u,.int .i64 v,.int .i64 t],.agg #[.int .i64 a,.int .i64 b,.int .i64 c,.int .i64 x,.int .i64 y,.int .i64 z]] w1 fun e w'=>e= .returned (.bool (eW u v t a b c))∧Below w1.heap.size w1 w'):=EH p q r u v t a b c x y z;obtain ⟨c0,c1,c2,c3,c4,c5⟩:=hs
     simp only at c0 c1 c2 c3 c4 c5
     have hj2:(j:Int)<(L.length:Int):=by omega
     have hwj:IntKind.i64.wrap (j:Int)=(j:Int):=zD (by omega) (by omega);clear hb hp;cases hm:eA a b c x y z
     · have HF:Hid (gN L=false):=zF HT.out hlt (by unfold eJ;rw [HS.out];simp [hm])
       rw [hm] at HM
       go_wp2_with fail
       refine cI HK (by kernel_rfl) (by kernel_rfl) (by first|exact HO.out|exact HK.out.drew HO.out) ?_;intro C HIN HOUT;clear HO
       repeat
        (with_reducible refine wpQuiet_step (fun K hK=> ?_)
         go_simp
         first
          |(refine hK _ ?_;clear hK K)
          |(apply Exists.intro;refine ⟨fun w1 hC=> ?_,hK _ ?_⟩;(focus ((first|(go_at_call 270;with_reducible exact dT HIN HOUT HK HM.out w1 hC)|(exact rfl)|(obtain ⟨hb1,⟨k0,k1,k2,k3,k4,k5,k6⟩,⟨p0,p1,p2,p3,p4,p5⟩,p6⟩:=HOUT.out w1 hC;clear hC;go_simp;first|done|exact rfl));done));clear hK K))
       refine wpQuiet_nil ?_;intro wn hC;have HO:=aB (HOUT.out _ hC);clear hC HIN HOUT C;obtain ⟨hb1,⟨k0,k1,k2,k3,k4,k5,k6⟩,⟨p0,p1,p2,p3,p4,p5⟩,p6⟩:=HO.out
       go_wp2
       go_ret;exact ⟨aC HF.out.symm,HO.out.1⟩
     · rw [hm] at HM
       cases ha:eW u v t a b c
       · have HF:Hid (gN L=false):=zF HT.out hlt (by unfold eJ;rw [HS.out];simp only;rw [HP.out];simp [ha])
         rw [ha] at HA
         go_wp2_with fail
         refine cI HK (by kernel_rfl) (by kernel_rfl) (by first|exact HO.out|exact HK.out.drew HO.out) ?_;intro C HIN HOUT;clear HO
         repeat
          (with_reducible refine wpQuiet_step (fun K hK=> ?_)
           go_simp
           first
            |(refine hK _ ?_;clear hK K)
            |(apply Exists.intro;refine ⟨fun w1 hC=> ?_,hK _ ?_⟩;(focus ((first|(go_at_call 270;with_reducible exact dT HIN HOUT HK HM.out w1 hC)|(go_at_call 271;with_reducible exact dT HIN HOUT HK HA.out w1 hC)|(exact rfl)|(obtain ⟨hb1,⟨k0,k1,k2,k3,k4,k5,k6⟩,⟨p0,p1,p2,p3,p4,p5⟩,p6⟩:=HOUT.out w1 hC;clear hC;go_simp;first|done|exact rfl));done));clear hK K))
         refine wpQuiet_nil ?_;intro wn hC;have HO:=aB (HOUT.out _ hC);clear hC HIN HOUT C;obtain ⟨hb1,⟨k0,k1,k2,k3,k4,k5,k6⟩,⟨p0,p1,p2,p3,p4,p5⟩,p6⟩:=HO.out
         go_wp2
         go_ret;exact ⟨aC HF.out.symm,HO.out.1⟩
       · have HF:Hid (eJ L (j+1)=true):=by unfold Hid eJ;rw [HS.out];simp only;rw [HP.out];simp [ha,hm]
         rw [ha] at HA
         go_wp2_with fail
         refine cI HK (by kernel_rfl) (by kernel_rfl) (by first|exact HO.out|exact HK.out.drew HO.out) ?_;intro C HIN HOUT;clear HO
         repeat
          (with_reducible refine wpQuiet_step (fun K hK=> ?_)
           go_simp
           first
            |(refine hK _ ?_;clear hK K)
            |(apply Exists.intro;refine ⟨fun w1 hC=> ?_,hK _ ?_⟩;(focus ((first|(go_at_call 270;with_reducible exact dT HIN HOUT HK HM.out w1 hC)|(go_at_call 271;with_reducible exact dT HIN HOUT HK HA.out w1 hC)|(exact rfl)|(obtain ⟨hb1,⟨k0,k1,k2,k3,k4,k5,k6⟩,⟨p0,p1,p2,p3,p4,p5⟩,p6⟩:=HOUT.out w1 hC;clear hC;go_simp;first|done|exact rfl));done));clear hK K))
         refine wpQuiet_nil ?_;intro wn hC;have HO:=aB (HOUT.out _ hC);clear hC HIN HOUT C;obtain ⟨hb1,⟨k0,k1,k2,k3,k4,k5,k6⟩,⟨p0,p1,p2,p3,p4,p5⟩,p6⟩:=HO.out
         go_wp2
         refine ⟨⟨j+1+1,by omega,by go_num,HO.out.1,fun i hi=> ?_⟩,by simp [intOf];omega⟩
         rcases Nat.lt_or_ge i (j+1) with h|h
         · exact HOK.out i h
         · rw [show i=j+1 by omega];exact HF.out
  · have hke:k=L.length:=by omega
    subst hke;have HF:Hid (gN L=true):=NL HT.out hok;have HB:=aB hb;clear hok hb
    go_wp2
    go_ret;exact ⟨aC HF.out.symm,HB.out⟩
theorem uT (ad:Option Addr) (cap:Nat) (w:World):
 Calls Tryz.prog 241 #[.slice ad 0 cap] w fun e w'=>e= .returned (.bool true)∧Below w.heap.size w w':=by
 go_enter Tryz.func241,Tryz.ntmps241
 go_wp2_with fail
 go_loop [10] (fun i=>i= .int .i64 0) (fun _=>0)
 case atStart=>rfl
 case round=>
  subst hrel
  go_wp2
  go_ret;exact ⟨rfl,Below.refl _ _⟩
theorem EJ (ad:Option Addr) (n cap:Nat) (w:World) (h:64<n):
 Calls Tryz.prog 241 #[.slice ad n cap] w fun e w'=>e= .returned (.bool false)∧Below w.heap.size w w':=by
 have h1:(64:Int)<(n:Int):=by omega
 go_enter Tryz.func241,Tryz.ntmps241
 go_wp2
 go_ret;exact ⟨rfl,Below.refl _ _⟩
theorem uU {w:World} {v:Value} {L:List Sp} (h:SpansAt w v L):
 Calls Tryz.prog 241 #[v] w fun e w'=>e= .returned (.bool (gN L))∧Below w.heap.size w w':=by
 obtain ⟨ad,cap,rfl,hl⟩:=h
 by_cases h64:L.length≤64
 · rcases hl with rfl|⟨g,o,rfl,hg,hs⟩
   · exact uT ad cap w
   · exact EI L g o cap w h64 hg hs
 · have:gN L=false:=by unfold gN;rw [decide_eq_false h64];rfl
   rw [this];exact EJ ad _ cap w (by omega)
theorem EK (v:Value) (L:List Sp):KeepP fun w1=>SpansAt w1 v L:=fun _ _ h hb=>h.below hb
end Go.Proofs.YtlmpiohbmlddiaaGreatDoor
namespace Go.Proofs.YtlmpiohbmlddiaaGreatDoor
abbrev Rg:=List (Int×Int)
def RiseR (k M:Int):Rg→Prop
 |[]=>True
 |(g,h)::B=>k≤g∧g≤h∧h≤M∧RiseR (h+2) M B
theorem RiseR.weak {M j k:Int}:∀ {B:Rg},RiseR k M B→j≤k→RiseR j M B
 |[],_,_=>trivial
 |(_,_)::_,h,hj=>⟨Int.le_trans hj h.1,h.2⟩
def SJ (lo hi:Int):Rg→Rg
 |[]=>[(lo,hi)]
 |(g,h)::B=>if hi<g then [(lo,hi)] else (if lo<g then [(lo,g - 1)] else [])++(if hi≤h then [] else SJ (h+1) hi B)
def PW (lo:Int) (B:Rg):Rg:=B.dropWhile fun p=>decide (p.2<lo)
def uV:Rg→Rg→Rg
 |[],_=>[]
 |(lo,hi)::A,B=>SJ lo hi (PW lo B)++uV A (PW lo B)
theorem RiseR.mem {M:Int} {p:Int×Int}:∀ {C:Rg} {j:Int},RiseR j M C→p ∈ C→j≤p.1∧p.1≤p.2∧p.2≤M
 |[],_,_,hq=>by cases hq
 |(a,b)::C,j,hr,hq=>by
  obtain ⟨r1,r2,r3,r4⟩:=hr
  rcases List.mem_cons.1 hq with rfl|hq
  · exact ⟨r1,r2,r3⟩
  · have:=RiseR.mem r4 hq;omega
def zG:Rg:=[(0,999999999)]
def SK (A B:Rg):Rg:=uV A (uV A B)
def SL (A B:Rg):Rg:=uV zG (uV (uV zG A) B)
def RangeR (A:Rg):Prop:=RiseR 0 999999999 A
end Go.Proofs.YtlmpiohbmlddiaaGreatDoor
namespace Go.Proofs.YtlmpiohbmlddiaaGreatDoor
open Go.RowKit
set_option maxRecDepth 100000
def spR (p:Int×Int):Sp:=⟨atA p.1,atB p.1,atC p.1,atA p.2,atB p.2,atC p.2⟩
def okR (n:Int):Prop:=0≤n∧n≤999999999
def EL (p:Int×Int):Prop:=okR p.1∧okR p.2∧p.1≤p.2
theorem okR.has {n:Int} (h:okR n):fW n=true:=by unfold fW;simp;unfold okR at h;omega
def SpansR (w:World) (v:Value) (L:Rg):Prop:=∃ ad cap,v= .slice ad L.length cap∧L.length≤cap∧(L=[]∨∃ g o,ad=some ⟨g,o,none⟩∧g<w.heap.size∧∀ i (h:i<L.length),SpAt w g (o+i*6) (spR L[i]))
def dJ (L:List Sp):List Value:=L.flatMap fun s=>[.int .i64 s.a,.int .i64 s.b,.int .i64 s.c,.int .i64 s.x,.int .i64 s.y,.int .i64 s.z]
def OwnS (w:World) (B:Nat) (v:Value) (L:List Sp):Prop:=w.ownsRow B 210 6 v L.length (dJ L)
theorem OwnS.lt {w:World} {B:Nat} {v:Value} {L:List Sp} (h:OwnS w B v L) {g:Nat} (hg:v.ownBlock=some g):g<w.heap.size∧B≤g:=by
 rcases h.2 with ⟨rfl,_⟩|⟨g',cap,cur,rfl,hB,hgg,_⟩
 · cases hg
 · cases hg
   exact ⟨by rw [Array.getElem?_eq_some_iff] at hgg;exact hgg.1,hB⟩
theorem OwnS.of_block {w w':World} {B:Nat} {v:Value} {L:List Sp} (h:OwnS w B v L) (hk:∀ g,v.ownBlock=some g→w'.heap[g]? =w.heap[g]?):OwnS w' B v L:=by
 refine ⟨h.1,?_⟩
 rcases h.2 with hn|⟨g,cap,cur,rfl,hB,hgg,r⟩
 · exact Or.inl hn
 · exact Or.inr ⟨g,cap,cur,rfl,hB,(hk g rfl).trans hgg,r⟩
theorem OwnS.below {w w':World} {B:Nat} {v:Value} {L:List Sp} (h:OwnS w B v L) (hb:Below w.heap.size w w'):OwnS w' B v L:=h.of_block fun g hg=>hb.block g (h.lt hg).1
theorem RangeR.ok {B:Rg} (h:RangeR B):∀ p ∈ B,EL p:=fun p hp=>by
 have:=RiseR.mem h hp
 unfold EL okR;omega
theorem nX:∀ (L:List Sp) (i:Nat) (h:i<L.length),(dJ L)[i*6]? =some (.int .i64 L[i].a)∧(dJ L)[i*6+1]? =some (.int .i64 L[i].b)∧(dJ L)[i*6+1+1]? =some (.int .i64 L[i].c)∧
 (dJ L)[i*6+1+1+1]? =some (.int .i64 L[i].x)∧(dJ L)[i*6+1+1+1+1]? =some (.int .i64 L[i].y)∧(dJ L)[i*6+1+1+1+1+1]? =some (.int .i64 L[i].z)
 |[],i,h=>by simp at h
 |s::L,0,_=>by simp [dJ]
 |s::L,i+1,h=>by
  have ih:=nX L i (by simpa using h);have e:(i+1)*6=i*6+6:=by omega
  have q:∀ j,(dJ (s::L))[i*6+6+j]? =(dJ L)[i*6+j]? :=fun j=>by
   have:i*6+6+j=(i*6+j)+6:=by omega
   rw [this];simp [dJ]
  have q0:=q 0;have q1:=q 1;have q2:=q 2;have q3:=q 3;have q4:=q 4;have q5:=q 5;simp only [Nat.add_zero] at q0;rw [e];simp only [List.getElem_cons_succ];exact ⟨q0.trans ih.1,q1.trans ih.2.1,q2.trans ih.2.2.1,q3.trans ih.2.2.2.1,q4.trans ih.2.2.2.2.1,q5.trans ih.2.2.2.2.2⟩
theorem OwnS.base {w:World} {B C:Nat} {v:Value} {L:List Sp} (h:OwnS w B v L) (hc:C≤B):OwnS w C v L:=by
 refine ⟨h.1,?_⟩
 rcases h.2 with hn|⟨g,cap,cur,hv,hB,r⟩
 · exact Or.inl hn
 · exact Or.inr ⟨g,cap,cur,hv,Nat.le_trans hc hB,r⟩
theorem OwnS.sp {w:World} {B:Nat} {v:Value} {L:List Sp} (h:OwnS w B v L):∃ ad cap,v= .slice ad L.length cap∧L.length≤cap∧(L=[]∨∃ g o,ad=some ⟨g,o,none⟩∧g<w.heap.size∧∀ i (h:i<L.length),SpAt w g (o+i*6) L[i]):=by
 rcases h.2 with ⟨rfl,hn⟩|⟨g,cap,cur,rfl,hB,hgg,hc,hm,hs,hx⟩
 · have:L=[]:=List.eq_nil_of_length_eq_zero hn
   subst this;exact ⟨none,0,rfl,Nat.le_refl _,Or.inl rfl⟩
 · refine ⟨_,_,rfl,hc,Or.inr ⟨g,0,rfl,?_,fun i hi=> ?_⟩⟩
   · rw [Array.getElem?_eq_some_iff] at hgg;exact hgg.1
   · have q:∀ j v,(dJ L)[j]? =some v→w.cell? ⟨g,0+j,none⟩=some v:=fun j v hj=>by
      rw [←hx,List.getElem?_take] at hj
      split at hj
      · rw [Nat.zero_add]
        simp [World.cell?,hgg]
        simpa using hj
      · cases hj
     obtain ⟨s0,s1,s2,s3,s4,s5⟩:=nX L i hi;exact ⟨q _ _ s0,q _ _ s1,q _ _ s2,q _ _ s3,q _ _ s4,q _ _ s5⟩
def FL (w:World):Prop:=(w.cell? ⟨1,0,none⟩=some (.int .i64 0)∧w.cell? ⟨1,1,none⟩=some (.int .i64 0)∧w.cell? ⟨1,2,none⟩=some (.int .i64 0))∧
 (w.cell? ⟨2,0,none⟩=some (.int .i64 999)∧w.cell? ⟨2,1,none⟩=some (.int .i64 999)∧w.cell? ⟨2,2,none⟩=some (.int .i64 999))∧1<w.heap.size∧2<w.heap.size
theorem FL.below {w w':World} (h:FL w) (hb:Below w.heap.size w w'):FL w':=by
 obtain ⟨⟨h0,h1,h2⟩,⟨h3,h4,h5⟩,h6,h7⟩:=h;have q:∀ i,w'.cell? ⟨1,i,none⟩=w.cell? ⟨1,i,none⟩:=fun i=>hb.cell (p:=⟨1,i,none⟩) h6
 have r:∀ i,w'.cell? ⟨2,i,none⟩=w.cell? ⟨2,i,none⟩:=fun i=>hb.cell (p:=⟨2,i,none⟩) h7
 exact ⟨⟨by rw [q];exact h0,by rw [q];exact h1,by rw [q];exact h2⟩,⟨by rw [r];exact h3,by rw [r];exact h4,by rw [r];exact h5⟩,Nat.lt_of_lt_of_le h6 hb.size,Nat.lt_of_lt_of_le h7 hb.size⟩
def SM (n:Nat):Int:=if n≤64 then 0 else 26
end Go.Proofs.YtlmpiohbmlddiaaGreatDoor
namespace Go.Proofs.YtlmpiohbmlddiaaGreatDoor
open Go.RowKit
def rk (s:Sp):Int×Int:=(aW s.a s.b s.c,aW s.x s.y s.z)
theorem dW {a b c x y z:Int}:eA a b c x y z=true↔bC a b c=true∧bC x y z=true∧fN a b c x y z≤0:=by
 unfold eA;simp [and_assoc]
theorem CN {a b c x y z:Int} (h:bC a b c=true) (k:bC x y z=true):fN a b c x y z≤0↔aW a b c≤aW x y z:=by
 have h1:=nU k h;rw [NJ] at h1;omega
theorem IW {s:Sp} (h:eA s.a s.b s.c s.x s.y s.z=true):spR (rk s)=s∧EL (rk s):=by
 obtain ⟨h1,h2,h3⟩:=dW.1 h;rw [CN h1 h2] at h3;obtain ⟨a,b,c,x,y,z⟩:=s;obtain ⟨e1,e2,e3⟩:=CM h1;obtain ⟨f1,f2,f3⟩:=CM h2;have l1:=fX h1;have l2:=fX h2;refine ⟨?_,?_,?_,?_⟩
 · simp only [spR,rk]
   simp only at e1 e2 e3 f1 f2 f3
   rw [e1,e2,e3,f1,f2,f3]
 · unfold okR rk;simp only at*;omega
 · unfold okR rk;simp only at*;omega
 · exact h3
theorem lJ {p:Int×Int} (h:EL p):rk (spR p)=p∧eA (spR p).a (spR p).b (spR p).c (spR p).x (spR p).y (spR p).z=true:=by
 obtain ⟨h1,h2,h3⟩:=h;obtain ⟨m1,e1⟩:=nV h1.has;obtain ⟨m2,e2⟩:=nV h2.has;refine ⟨?_,?_⟩
 · unfold rk spR;simp only;rw [e1,e2]
 · rw [dW]
   refine ⟨m1,m2,?_⟩;unfold spR
   simp only
   rw [CN m1 m2,e1,e2];exact h3
theorem uW {x y z a b c:Int} (h:bC x y z=true) (k:bC a b c=true):eW x y z a b c=true↔aW x y z+2≤aW a b c:=by
 unfold eW;have l1:=fX h;have l2:=fX k;rw [Bool.and_eq_true,decide_eq_true_eq]
 constructor
 · rintro ⟨h1,h2⟩
   obtain ⟨_,m,e⟩:=IU h1;rw [nU m k,e] at h2;omega
 · intro h1
   have h2:nT x y z 1=true:=by rw [NK h];simp;omega
   obtain ⟨_,m,e⟩:=IU h2;refine ⟨h2,?_⟩;rw [nU m k,e];omega
theorem lK {s:Sp} {L:List Sp}:eJ (s::L) 0=eA s.a s.b s.c s.x s.y s.z:=by simp [eJ]
theorem nY {s t:Sp} {L:List Sp}:eJ (s::t::L) 1=(eA t.a t.b t.c t.x t.y t.z&&eW s.x s.y s.z t.a t.b t.c):=by simp [eJ]
theorem rK {s:Sp} {L:List Sp} {i:Nat}:eJ (s::L) (i+1+1)=eJ L (i+1):=by simp [eJ]
theorem NM {s:Sp} {L:List Sp} (h:∀ i,i<(s::L).length→eJ (s::L) i=true):∀ i,i<L.length→eJ L i=true:=by
 intro i hi;cases i with
 |succ i=>rw [←rK (s:=s)];exact h _ (by simpa using hi)
 |zero=>
  cases L with
  |nil=>simp at hi
  |cons t L=>
   have:=h 1 (by simp)
   rw [nY,Bool.and_eq_true] at this;rw [lK];exact this.1
theorem CO:∀ {L:List Sp},(∀ i,i<L.length→eJ L i=true)→(L.map rk).map spR=L∧RangeR (L.map rk)
 |[],_=>⟨rfl,trivial⟩
 |s::L,h=>by
  obtain ⟨e,hr⟩:=CO (NM h);have h0:=h 0 (by simp);rw [lK] at h0;obtain ⟨es,o1,o2,o3⟩:=IW h0;refine ⟨by rw [List.map_cons,List.map_cons,e,es],o1.1,o3,o2.2,?_⟩;cases L with
  |nil=>trivial
  |cons t L=>
   have h1:=h 1 (by simp);rw [nY,Bool.and_eq_true] at h1;have ha:=(uW (dW.1 h0).2.1 (dW.1 h1.1).1).1 h1.2;exact ⟨ha,hr.2⟩
theorem CP:∀ {A:Rg},RangeR A→∀ i,i<(A.map spR).length→eJ (A.map spR) i=true
 |[],_,i,hi=>by simp at hi
 |p::A,h,i,hi=>by
  obtain ⟨g,e⟩:=p;obtain ⟨h1,h2,h3,h4⟩:=h;have ho:EL (g,e):=⟨⟨h1,by show g≤999999999;omega⟩,⟨by show 0≤e;omega,h3⟩,h2⟩;have ih:=CP (A:=A) (h4.weak (by omega));cases i with
  |zero=>rw [List.map_cons,lK];exact (lJ ho).2
  |succ i=>
   cases i with
   |succ i=>rw [List.map_cons,rK];exact ih _ (by simpa using hi)
   |zero=>
    cases A with
    |nil=>simp at hi
    |cons q A=>
     obtain ⟨g',e'⟩:=q;obtain ⟨k1,k2,k3,_⟩:=h4;have hq:EL (g',e'):=⟨⟨by show 0≤g';omega,by show g'≤999999999;omega⟩,⟨by show 0≤e';omega,k3⟩,k2⟩;rw [List.map_cons,List.map_cons,nY,Bool.and_eq_true];refine ⟨(lJ hq).2,?_⟩;rw [uW (dW.1 (lJ ho).2).2.1 (dW.1 (lJ hq).2).1];have r1:=congrArg Prod.snd (lJ ho).1;have r2:=congrArg Prod.fst (lJ hq).1;simp only [rk] at r1 r2;rw [r1,r2];exact k1
theorem sX {L:List Sp}:gN L=true↔∃ A:Rg,L=A.map spR∧RangeR A∧A.length≤64:=by
 unfold gN;rw [Bool.and_eq_true,decide_eq_true_eq,List.all_eq_true]
 constructor
 · rintro ⟨h1,h2⟩
   obtain ⟨e,hr⟩:=CO fun i hi=>h2 i (List.mem_range.2 hi)
   exact ⟨L.map rk,e.symm,hr,by simpa using h1⟩
 · rintro ⟨A,rfl,hr,hl⟩
   exact ⟨by simpa using hl,fun i hi=>CP hr i (List.mem_range.1 hi)⟩
theorem QP {A:Rg} (h:RangeR A) (hl:A.length≤64):gN (A.map spR)=true:=sX.2 ⟨A,rfl,h,hl⟩
theorem SpansR.at {w:World} {v:Value} {A:Rg} (h:SpansR w v A):SpansAt w v (A.map spR):=by
 obtain ⟨ad,cap,hv,hc,hl⟩:=h;refine ⟨ad,cap,by rw [List.length_map];exact hv,?_⟩
 rcases hl with rfl|⟨g,o,ha,hg,hs⟩
 · exact Or.inl rfl
 · right
   refine ⟨g,o,ha,hg,fun i hi=> ?_⟩;rw [List.getElem_map];exact hs i (by simpa using hi)
def SpansC (w:World) (v:Value) (L:List Sp):Prop:=SpansAt w v L∧∃ ad n cap,v= .slice ad n cap∧n≤cap
theorem SpansC.rg {w:World} {v:Value} {A:Rg} (h:SpansC w v (A.map spR)):SpansR w v A:=by
 obtain ⟨⟨ad,cap,rfl,hl⟩,ad',n',cap',hv,hc⟩:=h;cases hv;rw [List.length_map] at hc ⊢;refine ⟨_,_,rfl,hc,?_⟩
 rcases hl with hl|⟨g,o,ha,hg,hs⟩
 · left;simpa using hl
 · right
   refine ⟨g,o,ha,hg,fun i hi=> ?_⟩
   have:=hs i (by simpa using hi)
   rw [List.getElem_map] at this;exact this
end Go.Proofs.YtlmpiohbmlddiaaGreatDoor
namespace Go.Proofs.YtlmpiohbmlddiaaGreatDoor
open Go.RowKit
set_option maxRecDepth 100000
def TN (A:Rg):Rg:=if A.length≤64 then A else []
def IX (n:Int):Int:=n / 1000*1000+999
def QQ (n:Int):Int:=n / 1000000*1000000+999999
def QR (n:Int):Int:=if atA n≠0 then QQ n else if atB n≠0 then IX n else n
def SN (s:List UInt8) (n:Int):Option Rg:=
 if s=[]∨s=[61] then some [(n,n)] else if s=[60] then some (uV zG [(n,999999999)]) else if s=[60,61] then some [(0,n)] else if s=[62] then some (uV zG [(0,n)]) else
 if s=[62,61] then some [(n,999999999)] else if s=[94] then some [(n,QR n)] else if s=[126] then some [(n,IX n)] else none
end Go.Proofs.YtlmpiohbmlddiaaGreatDoor
namespace Go.Proofs.YtlmpiohbmlddiaaGreatDoor
open Go.ChangeShapes Go.WideShapes Go.ChangeAt Go.RowKit
set_option maxRecDepth 100000
theorem own:ownKnob Tryz.prog.godebug=none:=by kernel_rfl
theorem NN:laidOutB Tryz.prog=true:=by kernel_rfl
theorem uX:Tryz.prog.cellsOf 3=1:=by kernel_rfl
theorem kG:Tryz.prog.cellsOf 52=3:=by kernel_rfl
theorem uY {cs:List Value} {o:Nat} {v:Value} (h:(cs.drop o).take 1=[v]):cs[o]? =some v:=by
 have h0:((cs.drop o).take 1)[0]? =some v:=by rw [h];rfl
 simpa using h0
theorem aT {fs:Array Field} {i ty off:Nat} (h:(fs[i]?).map (fun f=>(f.type,f.offset))=some (ty,off)):∃ f,fs[i]? =some f∧f.type=ty∧f.offset=off:=by
 cases hf:fs[i]? with
 |none=>rw [hf] at h;cases h
 |some f=>
  rw [hf] at h;simp only [Option.map_some,Option.some.injEq,Prod.mk.injEq] at h;exact ⟨f,rfl,h.1,h.2⟩
theorem SO {α:Type} {l:List α} (h:l.length=3):∃ a b c,l=[a,b,c]:=by
 match l,h with
 |[a,b,c],_=>exact ⟨a,b,c,rfl⟩
theorem EM {H:Type} {enc:TypeId×Value→H} {a:Assume} {C:Checked} {os:Os} {f:FuncId} {fn:Func} {s:ChangeSpec} {conds:List PathCond} {apart fresh handsOn again:Bool} {l:List (String×DataW Unit)}
 (own:ownKnob C.prog.godebug=none) (started:os.Started) (noInit:C.prog.inits.idxOf? f=none) (hfn:C.prog.funcs[f]? =some fn)
 (witness:∃ (w:World) (tape:Tape) (i:Input),w.os=os∧(w.forCall tape i).Shaped C.prog∧i.vars=[]∧Input.okWide C.prog (w.forCall tape i) .any w.heap.size f i∧
   ((s.pre enc C.prog fn conds apart (w.forCall tape i).memory i.args∧laidMetH C.prog l (w.forCall tape i).memory)∧sizedMet enc C.prog fn (OpenSpec.ofChange s) apart (w.forCall tape i).memory i.args)∧a.holds C.prog (lone (Frame.enter C.prog f i.args .normal) [] (w.forCall tape i)))
 (contract:∀ (W:World) (base:Nat) (args:Array Value) (ds gs:List (DataW H)) (before:List MemPlace),
   (∀ (j:Nat) t v,fn.params[j]? =some t→args[j]? =some v→Value.okWide C.prog W .any base t v)→
   DataW.Whole enc C.prog fn.params.toList s.vars apart W args.toList ds gs before→
   (DataW.weightsEach C.prog (fn.params.toList++s.plain.varTypes C.prog) (ds++gs)).all (· ≤reachBytes)=true→W.ShapedOpen C.prog→laidMetH C.prog l W→
   Calls C.prog f args W fun e W'=>∃ v,e= .returned v∧s.post enc C.prog fn apart fresh handsOn again W args v W'):
 ReturnsInHanded a C os f .any (fun w args=>(s.pre enc C.prog fn conds apart w args∧laidMetH C.prog l w)∧sizedMet enc C.prog fn (OpenSpec.ofChange s) apart w args) (s.post enc C.prog fn apart fresh handsOn again):=by
 refine returnsInHanded_of_calls own started noInit witness ?_;intro w tape i _ hsh _ hok hpre _;obtain ⟨_,_,_,fn',hfn',_,_,_,_,hval⟩:=hok;have e:fn'=fn:=Option.some.inj (hfn'.symm.trans hfn);subst e;obtain ⟨⟨⟨ds,gs,before,hw,_⟩,hX⟩,hz⟩:=hpre;have hw':=DataW.Whole.of_heap (w':=w.forCall tape i) (by rfl) hw;have hX':=laidMetH.of_heap (w':=w.forCall tape i) (by rfl) hX;refine (contract (w.forCall tape i) w.heap.size i.args ds gs before hval hw' (hz.weights hw) hsh hX').mono fun e W' ⟨v,he,hp⟩=> ?_
 subst he;exact ChangeSpec.post_blind hp
theorem QS {W:World} {r:List (String×DataW Unit)} (h:laidMet Tryz.prog (("math/bits.deBruijn32tab",Rows.laid_math_bits_deBruijn32tab)::("math/bits.deBruijn64tab",Rows.laid_math_bits_deBruijn64tab)::("internal/strconv.uint64pow10",Rows.laid_internal_strconv_uint64pow10)::r) W):
 Lib.TabIs Tryz.prog W "internal/strconv.uint64pow10" .u64 Lib.pow10Tab:=by
 have h2:laidMet Tryz.prog (("internal/strconv.uint64pow10",Lib.tabData .u64 Lib.pow10Tab)::r) W:=(laidMet.tail (laidMet.tail h));exact Lib.tabIs_of_head (g:=3) (t:=311) (e:=244) (n:=20) (by kernel_rfl) (by kernel_rfl) (by kernel_rfl) Tryz.underlying244 (by kernel_rfl) (by kernel_rfl) h2
theorem eX {W:World} (h:Lib.TabIs Tryz.prog W "internal/strconv.uint64pow10" .u64 Lib.pow10Tab) (w:World) (hw:Below W.heap.size W w) (n:Int) (h0:0≤n) (h1:n≤999):Spells w n ⟨(Lib.itoa n).toArray⟩:=by
 intro w1 hb;have ht:=Lib.tabBelow_of_tabIs h w1 (aA hw hb);refine (Tryz.strconv_Itoa n (by omega) (by omega) w1 ht).mono ?_;rintro e w' ⟨rfl,k,os,rfl⟩;exact ⟨rfl,Lib.below_grow _ _ (Nat.le_refl _) k os⟩
end Go.Proofs.YtlmpiohbmlddiaaGreatDoor
namespace Go.Proofs.YtlmpiohbmlddiaaGreatDoor
set_option maxRecDepth 100000
theorem fY {k:Nat} (h:k<10):(UInt8.ofNat (48+k)).toNat=48+k:=by
 rw [UInt8.toNat_ofNat'];omega
theorem zH (u:Nat):∀ d ∈ Lib.decDigits u,48≤d.toNat∧d.toNat≤57:=by
 induction u using Nat.strongRecOn with
 |_ u ih=>
  rw [Lib.decDigits]
  split
  · rename_i h
    intro d hd
    have:=fY h
    rw [List.mem_singleton] at hd;subst hd;omega
  · rename_i h
    intro d hd
    rcases List.mem_append.1 hd with h1|h1
    · exact ih (u / 10) (by omega) d h1
    · have:=fY (k:=u % 10) (by omega)
      rw [List.mem_singleton] at h1;subst h1;omega
theorem QT (u:Nat):Lib.decDigits u≠[]:=by
 rw [Lib.decDigits];split<;>simp
theorem CQ {n:Int} (h:0≤n):Lib.itoa n=Lib.decDigits n.toNat:=by
 obtain ⟨u,rfl⟩:∃ u:Nat,n=u:=⟨n.toNat,by omega⟩;rw [Lib.itoa_nonneg];rfl
theorem rL {a b c:Int} (h:bC a b c=true):(aZ a b c).data.toList=Lib.itoa a++46::(Lib.itoa b++46::Lib.itoa c):=by
 unfold aZ;rw [if_pos h];simp [ByteArray.data_append]
end Go.Proofs.YtlmpiohbmlddiaaGreatDoor
namespace Go.Proofs.YtlmpiohbmlddiaaGreatDoor
open Go.RowKit
set_option maxRecDepth 100000
theorem kH {W:World} (h:Lib.TabIs Tryz.prog W "internal/strconv.uint64pow10" .u64 Lib.pow10Tab) (a b c:Int) (w1:World) (hb:Below W.heap.size W w1):
 Calls Tryz.prog 125 #[.agg #[.int .i64 a,.int .i64 b,.int .i64 c]] w1 fun e w'=>e= .returned (.string (aZ a b c))∧Below w1.heap.size w1 w':=by
 refine rJ a b c w1 (fun m=> ?_) (fun m=> ?_) (fun m=> ?_)<;>(obtain ⟨a0,a1,b0,b1,c0,c1⟩:=dI m)
 · exact eX h w1 hb a a0 a1
 · exact eX h w1 hb b b0 b1
 · exact eX h w1 hb c c0 c1
structure Env (W:World):Prop where
 max:∃ m,W.cell? ⟨0,0,none⟩=some (.int .i64 m)
 tab:Lib.TabIs Tryz.prog W "internal/strconv.uint64pow10" .u64 Lib.pow10Tab
 syn:∃ tp p,W.cell? ⟨8,0,none⟩=some (.iface tp p)
 rng:∃ tp p,W.cell? ⟨9,0,none⟩=some (.iface tp p)
theorem bZ {W:World} {a:Addr} {v:Value} (h:W.cell? a=some v):a.block<W.heap.size:=by
 rcases Nat.lt_or_ge a.block W.heap.size with h'|h'
 · exact h'
 · simp [World.cell?,Array.getElem?_eq_none h'] at h
theorem Env.below {W w:World} (h:Env W) (hb:Below W.heap.size W w):Env w:=by
 obtain ⟨m,hm⟩:=h.max;obtain ⟨tp,p,hs⟩:=h.syn;obtain ⟨tq,q,hq⟩:=h.rng;exact { max:=⟨m,(hb.cell (p:=⟨0,0,none⟩) (bZ hm)).trans hm⟩,tab:=Lib.tabBelow_of_tabIs h.tab w hb,syn:=⟨tp,p,(hb.cell (p:=⟨8,0,none⟩) (bZ hs)).trans hs⟩,rng:=⟨tq,q,(hb.cell (p:=⟨9,0,none⟩) (bZ hq)).trans hq⟩ }
def QU (l:List UInt8):Int:=match Lib.atoiAll l with
 | .ok v=>v
 |_=> -1
end Go.Proofs.YtlmpiohbmlddiaaGreatDoor
