/- Vers3, Vers4, Vers5, Facts1, Sp1, Sp2, Sp3, Pure1, Cut1, Cut2, Fo1: their declarations that are needed, laid in one text, remarks and blanks left out. -/
import Derived.Test.YtpfemjlhklnfoaaGreatDoorShelfA
import Derived.Deep.RegionHeld3
import Derived.Deep.QuietTactic
import Derived.BigQuiet
import Derived.Deep.RegionWith
import Derived.Maps.AppendAt
import Derived.Deep.AppendLies
import Derived.Handy
import Derived.Test.YtpfemjlhklnfoaaGreatDoorMg01
namespace Go.Proofs.YtpfemjlhklnfoaaGreatDoor
open Go.RowKit
set_option maxRecDepth 100000
def aK (a b c:Int):Int:=if aQ a b c=true then (a*1000+b)*1000+c else 0
def dC (n:Int):Bool:=decide (0≤n)&&decide (n<1000000000)
def atA (n:Int):Int:=if dC n=true then n / 1000000 else 0
def atB (n:Int):Int:=if dC n=true then n / 1000 % 1000 else 0
def atC (n:Int):Int:=if dC n=true then n % 1000 else 0
theorem lO {a b:Int} {x y:Bool} (h:a=b) (k:x=y):Ending.returned (.tuple #[.int .i64 a,.bool x])= .returned (.tuple #[.int .i64 b,.bool y]):=by rw [h,k]
theorem eH {a b c a' b' c':Int} {x y:Bool} (h1:a=a') (h2:b=b') (h3:c=c') (k:x=y):Ending.returned (.tuple #[.agg #[.int .i64 a,.int .i64 b,.int .i64 c],.bool x])= .returned (.tuple #[.agg #[.int .i64 a',.int .i64 b',.int .i64 c'],.bool y]):=by rw [h1,h2,h3,k]
theorem cO {a b c:Int} (h:aQ a b c=true):0≤a∧a≤999∧0≤b∧b≤999∧0≤c∧c≤999:=by
 simp [aQ,eQ] at h;omega
set_option maxHeartbeats 800000 in
theorem tV (a b c:Int) (w:World):
 Calls Tryz.prog 247 #[.agg #[.int .i64 a,.int .i64 b,.int .i64 c]] w fun e w'=>e= .returned (.tuple #[.int .i64 (aK a b c),.bool (aQ a b c)])∧Below w.heap.size w w':=by
 have HM:Hid (∀ w1,Calls Tryz.prog 97 #[.agg #[.int .i64 a,.int .i64 b,.int .i64 c]] w1 fun e w'=>e= .returned (.bool (aQ a b c))∧Below w1.heap.size w1 w'):=eG a b c;cases hm:aQ a b c
 · have HR:Hid (aK a b c=0):=by unfold Hid aK;rw [hm];rfl
   rw [hm] at HM
   go_enter Tryz.func247,Tryz.ntmps247
   go_wp2_with (go_at_call 97;refine (HM.out _).mono ?_;rintro e w' ⟨rfl,hb⟩)
   go_returns;exact ⟨lO HR.out.symm rfl,aB (aD _ _) hb⟩
 · have HR:Hid (aK a b c=(a*1000+b)*1000+c):=by unfold Hid aK;rw [hm];rfl
   obtain ⟨a0,a1,b0,b1,c0,c1⟩:=cO hm;rw [hm] at HM
   go_enter Tryz.func247,Tryz.ntmps247
   go_wp2_with (go_at_call 97;refine (HM.out _).mono ?_;rintro e w' ⟨rfl,hb⟩;obtain ⟨k0,k1,k2,k3,k4⟩:=yT hb)
   go_returns;exact ⟨lO (by rw [HR.out];try go_arith) rfl,aB (aD _ _) hb⟩
set_option maxHeartbeats 800000 in
theorem yU (n:Int) (w:World):
 Calls Tryz.prog 248 #[.int .i64 n] w fun e w'=>e= .returned (.tuple #[.agg #[.int .i64 (atA n),.int .i64 (atB n),.int .i64 (atC n)],.bool (dC n)])∧Below w.heap.size w w':=by
 cases hh:dC n
 · have HR:Hid (atA n=0∧atB n=0∧atC n=0):=by unfold Hid atA atB atC;rw [hh];exact ⟨rfl,rfl,rfl⟩
   simp [dC] at hh
   by_cases h0:n<0
   · go_enter Tryz.func248,Tryz.ntmps248
     go_wp2
     go_returns;exact ⟨eH HR.out.1.symm HR.out.2.1.symm HR.out.2.2.symm rfl,by go_grown⟩
   · go_enter Tryz.func248,Tryz.ntmps248
     go_wp2
     go_returns;exact ⟨eH HR.out.1.symm HR.out.2.1.symm HR.out.2.2.symm rfl,by go_grown⟩
 · have HR:Hid (atA n=n / 1000000∧atB n=n / 1000 % 1000∧atC n=n % 1000):=by unfold Hid atA atB atC;rw [hh];exact ⟨rfl,rfl,rfl⟩
   simp [dC] at hh;obtain ⟨h0,h1⟩:=hh
   go_enter Tryz.func248,Tryz.ntmps248
   go_wp2
   go_returns;refine ⟨eH ?_ ?_ ?_ rfl,by go_grown⟩
   · have:=HR.out.1;omega
   · have:=HR.out.2.1;omega
   · have:=HR.out.2.2;omega
theorem yV {w:World} {N:Nat} {x y z:Value} (j0:w.cell? ⟨N,0,none⟩=some x) (j1:w.cell? ⟨N,1,none⟩=some y) (j2:w.cell? ⟨N,2,none⟩=some z):
 (∀ u,(w.setCell ⟨N,0,none⟩ u).cell? ⟨N,0,none⟩=some u)∧(∀ u v,((w.setCell ⟨N,0,none⟩ u).setCell ⟨N,1,none⟩ v).cell? ⟨N,1,none⟩=some v)∧(∀ u v t,(((w.setCell ⟨N,0,none⟩ u).setCell ⟨N,1,none⟩ v).setCell ⟨N,2,none⟩ t).cell? ⟨N,2,none⟩=some t):=by
 have k1:∀ u,(w.setCell ⟨N,0,none⟩ u).cell? ⟨N,1,none⟩=some y:=fun u=>(World.cell?_setCell_other _ _ _ _ (by simp)).trans j1
 have k2:∀ u v,((w.setCell ⟨N,0,none⟩ u).setCell ⟨N,1,none⟩ v).cell? ⟨N,2,none⟩=some z:=fun u v=>(World.cell?_setCell_other _ _ _ _ (by simp)).trans ((World.cell?_setCell_other _ _ _ _ (by simp)).trans j2)
 exact ⟨fun u=>World.cell?_setCell_same _ _ _ j0,fun u v=>World.cell?_setCell_same _ _ _ (k1 u),fun u v t=>World.cell?_setCell_same _ _ _ (k2 u v)⟩
theorem eT {w w':World} {N B:Nat} {x y z:Value} (hN:B≤N) (h:Below B w w'):Below B w (((w'.setCell ⟨N,0,none⟩ x).setCell ⟨N,1,none⟩ y).setCell ⟨N,2,none⟩ z):=
 ((h.setCell hN _).setCell hN _).setCell hN _
set_option maxHeartbeats 800000 in
theorem oE (a b c k:Int) (w:World) (hk:k=1∨k= -1):
 Calls Tryz.prog 238 #[.agg #[.int .i64 a,.int .i64 b,.int .i64 c],.int .i64 k] w fun e w'=>e= .returned (.tuple #[.agg #[.int .i64 (if aQ a b c then atA (aK a b c+k) else 0),.int .i64 (if aQ a b c then atB (aK a b c+k) else 0),.int .i64 (if aQ a b c then atC (aK a b c+k) else 0)],.bool (aQ a b c&&dC (aK a b c+k))])∧Below w.heap.size w w':=by
 have HM:Hid (∀ w1,Calls Tryz.prog 247 #[.agg #[.int .i64 a,.int .i64 b,.int .i64 c]] w1 fun e w'=>e= .returned (.tuple #[.int .i64 (aK a b c),.bool (aQ a b c)])∧Below w1.heap.size w1 w'):=tV a b c;have HA:Hid (∀ w1,Calls Tryz.prog 248 #[.int .i64 (aK a b c+k)] w1 fun e w'=>e= .returned (.tuple #[.agg #[.int .i64 (atA (aK a b c+k)),.int .i64 (atB (aK a b c+k)),.int .i64 (atC (aK a b c+k))],.bool (dC (aK a b c+k))])∧Below w1.heap.size w1 w'):=yU _;cases hm:aQ a b c
 · rw [hm] at HM
   go_enter Tryz.func238,Tryz.ntmps238
   go_wp2_with (go_at_call 247;refine (HM.out _).mono ?_;rintro e w' ⟨rfl,hb⟩;obtain ⟨k0,k1,k2,k3,k4,k5,k6⟩:=tS (N:=w.heap.size+1) (by simp) hb)
   obtain ⟨s0,s1,s2⟩:=yV ‹World.cell? w' ⟨w.heap.size+1,0,none⟩=_› ‹World.cell? w' ⟨w.heap.size+1,1,none⟩=_› ‹World.cell? w' ⟨w.heap.size+1,2,none⟩=_›
   try simp only [Exit.inBlock,Exit.then]
   refine bodyPost_ret (by simp [results,Tryz.results238,s0,s1,s2,go_sem];try rfl) rfl ?_;exact ⟨eH rfl rfl rfl rfl,eT (by omega) (aB (aM _ _ _) hb)⟩
 · obtain ⟨a0,a1,b0,b1,c0,c1⟩:=cO hm
   have hr:aK a b c=(a*1000+b)*1000+c:=by unfold aK;rw [hm];rfl
   have hr0:0≤aK a b c:=by rw [hr];omega
   have hr1:aK a b c<1000000000:=by rw [hr];omega
   rw [hm] at HM;clear hr;generalize aK a b c=r at*
   go_enter Tryz.func238,Tryz.ntmps238
   go_wp2_with (first
    |(go_at_call 247;refine (HM.out _).mono ?_;rintro e w1 ⟨rfl,hb⟩;obtain ⟨k0,k1,k2,k3,k4,k5,k6⟩:=tS (N:=w.heap.size+1) (by simp) hb)
    |(go_at_call 248;refine (HA.out _).mono ?_;rintro e w2 ⟨rfl,hb2⟩;have j0:=(hb2.cell (p:=⟨w.heap.size+1,0,none⟩) k6).trans k0;have j1:=(hb2.cell (p:=⟨w.heap.size+1,1,none⟩) k6).trans k1;have j2:=(hb2.cell (p:=⟨w.heap.size+1,2,none⟩) k6).trans k2;have j3:=(hb2.frozen (p:=⟨w.heap.size+1,0,none⟩) k6).trans k3;have j4:=(hb2.frozen (p:=⟨w.heap.size+1,1,none⟩) k6).trans k4;have j5:=(hb2.frozen (p:=⟨w.heap.size+1,2,none⟩) k6).trans k5))
   obtain ⟨s0,s1,s2⟩:=yV ‹World.cell? w2 ⟨w.heap.size+1,0,none⟩=_› ‹World.cell? w2 ⟨w.heap.size+1,1,none⟩=_› ‹World.cell? w2 ⟨w.heap.size+1,2,none⟩=_›
   try simp only [Exit.inBlock,Exit.then]
   refine bodyPost_ret (by simp [results,Tryz.results238,s0,s1,s2,go_sem];try rfl) rfl ?_;exact ⟨eH rfl rfl rfl rfl,eT (by omega) (aB (aB (aM _ _ _) hb) hb2)⟩
def onA (a b c k:Int):Int:=if aQ a b c then atA (aK a b c+k) else 0
def onB (a b c k:Int):Int:=if aQ a b c then atB (aK a b c+k) else 0
def onC (a b c k:Int):Int:=if aQ a b c then atC (aK a b c+k) else 0
def iA (a b c k:Int):Bool:=aQ a b c&&dC (aK a b c+k)
set_option maxHeartbeats 800000 in
theorem tW (a b c:Int) (w:World):
 Calls Tryz.prog 209 #[.agg #[.int .i64 a,.int .i64 b,.int .i64 c]] w fun e w'=>e= .returned (.tuple #[.agg #[.int .i64 (onA a b c 1),.int .i64 (onB a b c 1),.int .i64 (onC a b c 1)],.bool (iA a b c 1)])∧Below w.heap.size w w':=by
 have HM:Hid (∀ w1,Calls Tryz.prog 238 #[.agg #[.int .i64 a,.int .i64 b,.int .i64 c],.int .i64 1] w1 fun e w'=>e= .returned (.tuple #[.agg #[.int .i64 (onA a b c 1),.int .i64 (onB a b c 1),.int .i64 (onC a b c 1)],.bool (iA a b c 1)])∧Below w1.heap.size w1 w'):=fun w1=>oE a b c 1 w1 (by omega)
 go_enter Tryz.func209,Tryz.ntmps209
 go_wp2_with (go_at_call 238;refine (HM.out _).mono ?_;rintro e w' ⟨rfl,hb⟩;obtain ⟨k0,k1,k2,k3,k4,k5,k6⟩:=tS (N:=w.heap.size+1) (by simp) hb)
 obtain ⟨s0,s1,s2⟩:=yV k0 k1 k2
 try simp only [Exit.inBlock,Exit.then]
 refine bodyPost_ret (by simp [results,Tryz.results209,s0,s1,s2,go_sem];try rfl) rfl ?_;exact ⟨eH rfl rfl rfl rfl,eT (by omega) (aB (aM _ _ _) hb)⟩
def aZ (a b c:Int):ByteArray:=if aQ a b c=true then (((⟨(Lib.itoa a).toArray⟩++⟨#[46]⟩)++⟨(Lib.itoa b).toArray⟩)++⟨#[46]⟩)++⟨(Lib.itoa c).toArray⟩ else ByteArray.empty
def Spells (w:World) (n:Int) (S:ByteArray):Prop:=∀ w1,Below w.heap.size w w1→Calls Tryz.prog 200 #[.int .i64 n] w1 fun e w'=>e= .returned (.string S)∧Below w1.heap.size w1 w'
theorem Spells.next {w:World} {n:Int} {S:ByteArray} (h:Spells w n S) {N:Nat} {x y z:Value} (w1:World) (hb:Below w.heap.size w w1) (hl:N<w1.heap.size) (c0:w1.cell? ⟨N,0,none⟩=some x) (c1:w1.cell? ⟨N,1,none⟩=some y) (c2:w1.cell? ⟨N,2,none⟩=some z):
 Calls Tryz.prog 200 #[.int .i64 n] w1 fun e w'=>e= .returned (.string S)∧w'.cell? ⟨N,0,none⟩=some x∧w'.cell? ⟨N,1,none⟩=some y∧w'.cell? ⟨N,2,none⟩=some z∧N<w'.heap.size∧Below w.heap.size w w':=by
 refine (h w1 hb).mono ?_;rintro e w' ⟨rfl,hb1⟩;exact ⟨rfl,(hb1.cell (p:=⟨N,0,none⟩) hl).trans c0,(hb1.cell (p:=⟨N,1,none⟩) hl).trans c1,(hb1.cell (p:=⟨N,2,none⟩) hl).trans c2,Nat.lt_of_lt_of_le hl hb1.size,hb.trans (hb1.mono hb.size)⟩
theorem rF {u:Nat} (h:u<1000):(Lib.decDigits u).length≤3:=by
 rw [Lib.decDigits]
 split
 · simp
 · rw [Lib.decDigits]
   split
   · simp
   · rw [Lib.decDigits_one (by omega)];simp
theorem cB {n:Int} (h0:0≤n) (h1:n≤999):(⟨(Lib.itoa n).toArray⟩:ByteArray).size≤3:=by
 obtain ⟨u,rfl⟩:∃ u:Nat,n=u:=⟨n.toNat,by omega⟩;rw [Lib.itoa_nonneg]
 have:=rF (u:=u) (by omega)
 show (Lib.decDigits u).toArray.size≤3
 simpa using this
theorem bA (x y:ByteArray):(x++y).size=x.size+y.size:=ByteArray.size_append
theorem qD {a b:ByteArray} (h:a=b):Ending.returned (.string a)= .returned (.string b):=by rw [h]
set_option maxHeartbeats 1600000 in
theorem rG (a b c:Int) (w:World) (ha:aQ a b c=true→Spells w a ⟨(Lib.itoa a).toArray⟩) (hb:aQ a b c=true→Spells w b ⟨(Lib.itoa b).toArray⟩) (hc:aQ a b c=true→Spells w c ⟨(Lib.itoa c).toArray⟩):
 Calls Tryz.prog 132 #[.agg #[.int .i64 a,.int .i64 b,.int .i64 c]] w fun e w'=>e= .returned (.string (aZ a b c))∧Below w.heap.size w w':=by
 have HM:Hid (∀ w1,Calls Tryz.prog 97 #[.agg #[.int .i64 a,.int .i64 b,.int .i64 c]] w1 fun e w'=>e= .returned (.bool (aQ a b c))∧Below w1.heap.size w1 w'):=eG a b c;cases hm:aQ a b c
 · have HR:Hid (aZ a b c=ByteArray.empty):=by unfold Hid aZ;rw [hm];rfl
   rw [hm] at HM;clear ha hb hc
   go_enter Tryz.func132,Tryz.ntmps132
   go_wp2_with (go_at_call 97;refine (HM.out _).mono ?_;rintro e w' ⟨rfl,hb⟩)
   go_returns;exact ⟨qD HR.out.symm,aB (aD _ _) hb⟩
 · have HR:Hid (aZ a b c=(((⟨(Lib.itoa a).toArray⟩++⟨#[46]⟩)++⟨(Lib.itoa b).toArray⟩)++⟨#[46]⟩)++⟨(Lib.itoa c).toArray⟩):=by unfold Hid aZ;rw [hm];rfl
   have HA:Hid (Spells w a ⟨(Lib.itoa a).toArray⟩):=ha hm;have HB:Hid (Spells w b ⟨(Lib.itoa b).toArray⟩):=hb hm;have HC:Hid (Spells w c ⟨(Lib.itoa c).toArray⟩):=hc hm;obtain ⟨a0,a1,b0,b1,c0,c1⟩:=cO hm;have za:=cB a0 a1;have zb:=cB b0 b1;have zc:=cB c0 c1;rw [hm] at HM;clear ha hb hc a0 a1 b0 b1 c0 c1;generalize (⟨(Lib.itoa a).toArray⟩:ByteArray)=A at*;generalize (⟨(Lib.itoa b).toArray⟩:ByteArray)=B at*;generalize (⟨(Lib.itoa c).toArray⟩:ByteArray)=C at*;have zd:(⟨#[46]⟩:ByteArray).size=1:=rfl;have e1:=fun W:World=>run_string_add_sum (P:=Tryz.prog) (w:=W) A ⟨#[46]⟩ (by omega)
   have e2:=fun W:World=>run_string_add_sum (P:=Tryz.prog) (w:=W) (A++⟨#[46]⟩) B (by rw [bA];omega)
   have e3:=fun W:World=>run_string_add_sum (P:=Tryz.prog) (w:=W) ((A++⟨#[46]⟩)++B) ⟨#[46]⟩ (by rw [bA,bA];omega)
   have e4:=fun W:World=>run_string_add_sum (P:=Tryz.prog) (w:=W) (((A++⟨#[46]⟩)++B)++⟨#[46]⟩) C (by rw [bA,bA,bA];omega)
   clear za zb zc zd
   go_enter Tryz.func132,Tryz.ntmps132
   go_wp2_with (go_at_call 97;refine (HM.out _).mono ?_;rintro e w0 ⟨rfl,hb0⟩;obtain ⟨k0,k1,k2,k3,k4⟩:=yT hb0)
   have HB0:Hid (Below w.heap.size w w0):=k4;have HK0:Hid (w.heap.size<w0.heap.size∧w0.cell? ⟨w.heap.size,0,none⟩=some (.int .i64 a)∧w0.cell? ⟨w.heap.size,1,none⟩=some (.int .i64 b)∧w0.cell? ⟨w.heap.size,2,none⟩=some (.int .i64 c)):=⟨k3,k0,k1,k2⟩;have t1:True:=trivial;have t2:True:=trivial;have t3:True:=trivial;clear k4 hb0
   go_region_held3 (fun w'=>w'.cell? ⟨w.heap.size,0,none⟩=some (.int .i64 a)∧w'.cell? ⟨w.heap.size,1,none⟩=some (.int .i64 b)∧w'.cell? ⟨w.heap.size,2,none⟩=some (.int .i64 c)) (go_keep)
    (first
      |(go_at_call 200;clear t1;refine (HA.out.next (N:=w.heap.size) (x:= .int .i64 a) (y:= .int .i64 b) (z:= .int .i64 c) _ ?_ ?_ ?_ ?_ ?_).mono ?_;(first|exact HB0.out|exact HB0.out.drew);exact HK0.out.1;exact HK0.out.2.1;exact HK0.out.2.2.1;exact HK0.out.2.2.2;rintro e w1 ⟨rfl,q0,q1,q2,l1,b1⟩;have HB1:Hid (Below w.heap.size w w1):=b1;have HK1:Hid (w.heap.size<w1.heap.size∧w1.cell? ⟨w.heap.size,0,none⟩=some (.int .i64 a)∧w1.cell? ⟨w.heap.size,1,none⟩=some (.int .i64 b)∧w1.cell? ⟨w.heap.size,2,none⟩=some (.int .i64 c)):=⟨l1,q0,q1,q2⟩;clear b1)
      |(go_at_call 200;clear t2;refine (HB.out.next (N:=w.heap.size) (x:= .int .i64 a) (y:= .int .i64 b) (z:= .int .i64 c) _ ?_ ?_ ?_ ?_ ?_).mono ?_;(first|exact HB1.out|exact HB1.out.drew);exact HK1.out.1;exact HK1.out.2.1;exact HK1.out.2.2.1;exact HK1.out.2.2.2;rintro e w2 ⟨rfl,r0,r1,r2,l2,b2⟩;have HB2:Hid (Below w.heap.size w w2):=b2;have HK2:Hid (w.heap.size<w2.heap.size∧w2.cell? ⟨w.heap.size,0,none⟩=some (.int .i64 a)∧w2.cell? ⟨w.heap.size,1,none⟩=some (.int .i64 b)∧w2.cell? ⟨w.heap.size,2,none⟩=some (.int .i64 c)):=⟨l2,r0,r1,r2⟩;clear b2)
      |(go_at_call 200;clear t3;refine (HC.out.next (N:=w.heap.size) (x:= .int .i64 a) (y:= .int .i64 b) (z:= .int .i64 c) _ ?_ ?_ ?_ ?_ ?_).mono ?_;(first|exact HB2.out|exact HB2.out.drew);exact HK2.out.1;exact HK2.out.2.1;exact HK2.out.2.2.1;exact HK2.out.2.2.2;rintro e w3 ⟨rfl,u0,u1,u2,l3,b3⟩;have HB3:Hid (Below w.heap.size w w3):=b3;clear b3))
   all_goals go_wp2
   all_goals
    go_returns;refine ⟨qD (by rw [HR.out]),?_⟩;exact HB3.out
end Go.Proofs.YtpfemjlhklnfoaaGreatDoor
namespace Go.Proofs.YtpfemjlhklnfoaaGreatDoor
set_option maxRecDepth 100000
theorem wJ (a b c x y z:Int):bQ a b c x y z= -bQ x y z a b c:=by unfold bQ;grind
theorem fE {a b c:Int} (h:aQ a b c=true):aK a b c=(a*1000+b)*1000+c:=by unfold aK;rw [if_pos h]
theorem dD {a b c:Int} (h:aQ a b c=true):0≤aK a b c∧aK a b c<1000000000:=by
 have:=cO h;rw [fE h];omega
theorem iB {a b c x y z:Int} (h:aQ a b c=true) (k:aQ x y z=true):bQ a b c x y z<0↔aK a b c<aK x y z:=by
 have h1:=cO h;have k1:=cO k;rw [fE h,fE k];unfold bQ
 split
 · subst_vars
   split
   · subst_vars
     split
     · omega
     · split<;>omega
   · split<;>omega
 · split<;>omega
theorem tX {a b c:Int} (h:aQ a b c=true):dC (aK a b c)=true:=by
 have:=dD h;unfold dC;simp;omega
theorem qE {a b c:Int} (h:aQ a b c=true):atA (aK a b c)=a∧atB (aK a b c)=b∧atC (aK a b c)=c:=by
 have h1:=cO h;unfold atA atB atC;rw [tX h,fE h]
 simp
 omega
theorem iC {n:Int} (h:dC n=true):aQ (atA n) (atB n) (atC n)=true∧aK (atA n) (atB n) (atC n)=n:=by
 have h1:0≤n∧n<1000000000:=by unfold dC at h;simpa using h
 have m:aQ (atA n) (atB n) (atC n)=true:=by
  unfold aQ eQ atA atB atC;rw [h]
  simp
  omega
 refine ⟨m,?_⟩;rw [fE m];unfold atA atB atC;rw [h]
 simp
 omega
theorem yO {a b c k:Int} (h:aQ a b c=true):iA a b c k=dC (aK a b c+k):=by unfold iA;rw [h];rfl
theorem zS {a b c k:Int} (h:aQ a b c=true):onA a b c k=atA (aK a b c+k)∧onB a b c k=atB (aK a b c+k)∧onC a b c k=atC (aK a b c+k):=by
 unfold onA onB onC;rw [h];exact ⟨rfl,rfl,rfl⟩
theorem tY {a b c k:Int} (h:iA a b c k=true):aQ a b c=true∧aQ (onA a b c k) (onB a b c k) (onC a b c k)=true∧aK (onA a b c k) (onB a b c k) (onC a b c k)=aK a b c+k:=by
 have hm:aQ a b c=true:=by unfold iA at h;revert h;cases aQ a b c<;>simp
 rw [yO hm] at h;obtain ⟨e1,e2,e3⟩:=zS (k:=k) hm;rw [e1,e2,e3];exact ⟨hm,iC h⟩
theorem wK {a b c:Int} (h:aQ a b c=true):iA a b c 1=decide (aK a b c<999999999):=by
 have:=dD h
 rw [yO h];unfold dC;rw [Bool.eq_iff_iff];simp;omega
end Go.Proofs.YtpfemjlhklnfoaaGreatDoor
namespace Go.Proofs.YtpfemjlhklnfoaaGreatDoor
open Go.RowKit
set_option maxRecDepth 100000
theorem aA {p:Prop} (h:p):Hid p:=h
def Bx6 (w:World) (N:Nat) (a b c x y z:Int):Prop:=
 w.cell? ⟨N,0,none⟩=some (.int .i64 a)∧w.cell? ⟨N,1,none⟩=some (.int .i64 b)∧w.cell? ⟨N,2,none⟩=some (.int .i64 c)∧w.cell? ⟨N,3,none⟩=some (.int .i64 x)∧w.cell? ⟨N,4,none⟩=some (.int .i64 y)∧w.cell? ⟨N,5,none⟩=some (.int .i64 z)∧N<w.heap.size
theorem Bx6.new {w:World} {N:Nat} (hN:w.heap.size=N) (a b c x y z:Int):Bx6 (w.alloc (.cells #[.int .i64 a,.int .i64 b,.int .i64 c,.int .i64 x,.int .i64 y,.int .i64 z] 91)) N a b c x y z:=by
 subst hN;refine ⟨?_,?_,?_,?_,?_,?_,?_⟩<;>simp
theorem Bx6.below {w w':World} {N:Nat} {a b c x y z:Int} (h:Bx6 w N a b c x y z) (hb:Below w.heap.size w w'):Bx6 w' N a b c x y z:=by
 obtain ⟨h0,h1,h2,h3,h4,h5,h6⟩:=h;have q:∀ i,w'.cell? ⟨N,i,none⟩=w.cell? ⟨N,i,none⟩:=fun i=>hb.cell (p:=⟨N,i,none⟩) h6
 exact ⟨by rw [q];exact h0,by rw [q];exact h1,by rw [q];exact h2,by rw [q];exact h3,by rw [q];exact h4,by rw [q];exact h5,Nat.lt_of_lt_of_le h6 hb.size⟩
def KeepP (K:World→Prop):Prop:=∀ w w',K w→Below w.heap.size w w'→K w'
theorem KeepP.and {K M:World→Prop} (hk:KeepP K) (hm:KeepP M):KeepP fun w=>K w∧M w:=fun _ _ h hb=>⟨hk _ _ h.1 hb,hm _ _ h.2 hb⟩
theorem KeepP.drew {K:World→Prop} (hk:KeepP K) {w:World} (h:K w):K w.drew:=hk _ _ h (Below.refl _ _).drew
theorem aL (w:World):KeepP fun w1=>Below w.heap.size w w1:=fun _ _ h hb=>aB h hb
theorem tZ (N:Nat) (a b c x y z:Int):KeepP fun w1=>Bx6 w1 N a b c x y z:=fun _ _ h hb=>h.below hb
theorem iD {K:World→Prop} (hk:KeepP K) {P:Program} {id:Nat} {Q:Exit→Act→World→Prop} {a:Act} {w:World} {l:List Oper} (hm:P.follows .mixedOrders=true) (hB:Region.lexB .any l.toArray=true) (hC:K w)
 (h:∀ C:World→Prop,(∀ w,K w→C w)→(∀ w,C w→K w)→wpQuiet P l.toArray C (fun a'=>∀ w',C w'→Q .normal a' w') l a):(Code.region id l.toArray true).wp P Q a w:=
 wp_region_quiet (C:=K) hm hB (hk.drew hC) (by simpa using h K (fun _ h=>h) (fun _ h=>h))
theorem aX {K:World→Prop} (hk:Hid (KeepP K)) {P:Program} {id:Nat} {Q:Exit→Act→World→Prop} {a:Act} {w:World} {l:List Oper} (hm:P.follows .mixedOrders=true) (hB:Region.lexB .any l.toArray=true) (hC:K w)
 (h:∀ C:World→Prop,Hid (∀ w,K w→C w)→Hid (∀ w,C w→K w)→wpQuiet P l.toArray C (fun a'=>∀ w',C w'→Q .normal a' w') l a):(Code.region id l.toArray true).wp P Q a w:=iD hk hm hB hC h
theorem zV {C K:World→Prop} (hin:∀ w,K w→C w) (hout:∀ w,C w→K w) (hk:KeepP K) {P:Program} {f:Nat} {args:Array Value} {v:Value} (h:∀ w1,Calls P f args w1 fun e w'=>e= .returned v∧Below w1.heap.size w1 w') (w1:World) (hC:C w1):
 Calls P f args w1 fun e w'=>e= .returned v∧C w':=by
 refine (h w1).mono ?_;rintro e w' ⟨rfl,hb⟩;exact ⟨rfl,hin _ (hk _ _ (hout _ hC) hb)⟩
theorem bL {C K:World→Prop} (hin:Hid (∀ w,K w→C w)) (hout:Hid (∀ w,C w→K w)) (hk:Hid (KeepP K)) {P:Program} {f:Nat} {args:Array Value} {v:Value} (h:∀ w1,Calls P f args w1 fun e w'=>e= .returned v∧Below w1.heap.size w1 w') (w1:World) (hC:C w1):
 Calls P f args w1 fun e w'=>e= .returned v∧C w':=zV hin hout hk h w1 hC
theorem yW {C K:World→Prop} (hin:∀ w,K w→C w) (hout:∀ w,C w→K w) (hk:KeepP K) {P:Program} {f:Nat} {args:Array Value} {v:Value} (h:∀ w1,K w1→Calls P f args w1 fun e w'=>e= .returned v∧Below w1.heap.size w1 w') (w1:World) (hC:C w1):
 Calls P f args w1 fun e w'=>e= .returned v∧C w':=by
 refine (h w1 (hout _ hC)).mono ?_;rintro e w' ⟨rfl,hb⟩;exact ⟨rfl,hin _ (hk _ _ (hout _ hC) hb)⟩
theorem cT {C K:World→Prop} (hin:Hid (∀ w,K w→C w)) (hout:Hid (∀ w,C w→K w)) (hk:Hid (KeepP K)) {P:Program} {f:Nat} {args:Array Value} {v:Value} (h:∀ w1,K w1→Calls P f args w1 fun e w'=>e= .returned v∧Below w1.heap.size w1 w') (w1:World) (hC:C w1):
 Calls P f args w1 fun e w'=>e= .returned v∧C w':=yW hin hout hk h w1 hC
def cJ (a b c x y z:Int):Bool:=aQ a b c&&aQ x y z&&decide (bQ a b c x y z≤0)
def cR (x y z a b c:Int):Bool:=iA x y z 1&&decide (bQ (onA x y z 1) (onB x y z 1) (onC x y z 1) a b c<0)
set_option maxHeartbeats 800000 in
theorem lP (a b c x y z:Int) (w:World):
 Calls Tryz.prog 154 #[.agg #[.int .i64 a,.int .i64 b,.int .i64 c,.int .i64 x,.int .i64 y,.int .i64 z]] w fun e w'=>e= .returned (.bool (cJ a b c x y z))∧Below w.heap.size w w':=by
 have HL:Hid (∀ w1,Calls Tryz.prog 97 #[.agg #[.int .i64 a,.int .i64 b,.int .i64 c]] w1 fun e w'=>e= .returned (.bool (aQ a b c))∧Below w1.heap.size w1 w'):=eG a b c;have HH:Hid (∀ w1,Calls Tryz.prog 97 #[.agg #[.int .i64 x,.int .i64 y,.int .i64 z]] w1 fun e w'=>e= .returned (.bool (aQ x y z))∧Below w1.heap.size w1 w'):=eG x y z;have HC:Hid (∀ w1,Calls Tryz.prog 95 #[.agg #[.int .i64 a,.int .i64 b,.int .i64 c],.agg #[.int .i64 x,.int .i64 y,.int .i64 z]] w1 fun e w'=>e= .returned (.int .i64 (bQ a b c x y z))∧Below w1.heap.size w1 w'):=gP a b c x y z;have HB:Hid (Bx6 (w.alloc (.cells #[.int .i64 a,.int .i64 b,.int .i64 c,.int .i64 x,.int .i64 y,.int .i64 z] 91)) w.heap.size a b c x y z):=Bx6.new rfl _ _ _ _ _ _;have t1:True:=trivial;cases h1:aQ a b c
 · have HR:Hid (cJ a b c x y z=false):=by unfold Hid cJ;rw [h1];rfl
   rw [h1] at HL
   go_enter Tryz.func154,Tryz.ntmps154
   go_wp2_with (go_at_call 97;refine (HL.out _).mono ?_;rintro e w1 ⟨rfl,hb⟩)
   go_ret;exact ⟨aC HR.out.symm,aB (aD _ _) hb⟩
 · cases h2:aQ x y z
   · have HR:Hid (cJ a b c x y z=false):=by unfold Hid cJ;rw [h1,h2];rfl
     rw [h1] at HL;rw [h2] at HH
     go_enter Tryz.func154,Tryz.ntmps154
     go_wp2_with (first
      |(have _t:=t1;go_at_call 97;refine (HL.out _).mono ?_;rintro e w1 ⟨rfl,hb⟩;obtain ⟨k0,k1,k2,k3,k4,k5,k6⟩:=HB.out.below hb;clear t1)
      |(go_at_call 97;refine (HH.out _).mono ?_;rintro e w2 ⟨rfl,hb2⟩))
     go_ret;exact ⟨aC HR.out.symm,aB (aB (aD _ _) hb) hb2⟩
   · rw [h1] at HL
     rw [h2] at HH;have HR:Hid (cJ a b c x y z=decide (bQ a b c x y z≤0)):=by unfold Hid cJ;rw [h1,h2];rfl
     generalize bQ a b c x y z=q at*
     go_enter Tryz.func154,Tryz.ntmps154
     go_wp2_with (first
      |(have _t:=t1;go_at_call 97;refine (HL.out _).mono ?_;rintro e w1 ⟨rfl,hb⟩;have HB1:=aA (HB.out.below hb);obtain ⟨k0,k1,k2,k3,k4,k5,k6⟩:=HB1.out;clear t1)
      |(go_at_call 97;refine (HH.out _).mono ?_;rintro e w2 ⟨rfl,hb2⟩;obtain ⟨j0,j1,j2,j3,j4,j5,j6⟩:=HB1.out.below hb2)
      |(go_at_call 95;refine (HC.out _).mono ?_;rintro e w3 ⟨rfl,hb3⟩))
     go_ret;exact ⟨aC HR.out.symm,aB (aB (aB (aD _ _) hb) hb2) hb3⟩
set_option maxHeartbeats 800000 in
theorem rH (a b c x y z p q r u v t:Int) (w:World):
 Calls Tryz.prog 155 #[.agg #[.int .i64 a,.int .i64 b,.int .i64 c,.int .i64 x,.int .i64 y,.int .i64 z],.agg #[.int .i64 p,.int .i64 q,.int .i64 r,.int .i64 u,.int .i64 v,.int .i64 t]] w fun e w'=>e= .returned (.bool (cR x y z p q r))∧Below w.heap.size w w':=by
 have HN:Hid (∀ w1,Calls Tryz.prog 209 #[.agg #[.int .i64 x,.int .i64 y,.int .i64 z]] w1 fun e w'=>e= .returned (.tuple #[.agg #[.int .i64 (onA x y z 1),.int .i64 (onB x y z 1),.int .i64 (onC x y z 1)],.bool (iA x y z 1)])∧Below w1.heap.size w1 w'):=tW x y z;have HC:Hid (∀ w1,Calls Tryz.prog 95 #[.agg #[.int .i64 (onA x y z 1),.int .i64 (onB x y z 1),.int .i64 (onC x y z 1)],.agg #[.int .i64 p,.int .i64 q,.int .i64 r]] w1 fun e w'=>e= .returned (.int .i64 (bQ (onA x y z 1) (onB x y z 1) (onC x y z 1) p q r))∧Below w1.heap.size w1 w'):=gP _ _ _ _ _ _;have HB:Hid (Bx6 ((w.alloc (.cells #[.int .i64 a,.int .i64 b,.int .i64 c,.int .i64 x,.int .i64 y,.int .i64 z] 91)).alloc (.cells #[.int .i64 p,.int .i64 q,.int .i64 r,.int .i64 u,.int .i64 v,.int .i64 t] 91)) (w.heap.size+1) p q r u v t):=Bx6.new (by simp) _ _ _ _ _ _;cases h1:iA x y z 1
 · have HR:Hid (cR x y z p q r=false):=by unfold Hid cR;rw [h1];rfl
   rw [h1] at HN
   go_enter Tryz.func155,Tryz.ntmps155
   go_wp2_with (go_at_call 209;refine (HN.out _).mono ?_;rintro e w1 ⟨rfl,hb⟩)
   go_ret;exact ⟨aC HR.out.symm,aB (aB (aM _ _ _) hb) (aD _ _)⟩
 · have HR:Hid (cR x y z p q r=decide (bQ (onA x y z 1) (onB x y z 1) (onC x y z 1) p q r<0)):=by unfold Hid cR;rw [h1];rfl
   rw [h1] at HN;generalize onA x y z 1=nA at*;generalize onB x y z 1=nB at*;generalize onC x y z 1=nC at*;generalize bQ nA nB nC p q r=o at*
   go_enter Tryz.func155,Tryz.ntmps155
   go_wp2_with (first
    |(go_at_call 209;refine (HN.out _).mono ?_;rintro e w1 ⟨rfl,hb⟩;obtain ⟨k0,k1,k2,k3,k4,k5,k6⟩:=HB.out.below hb)
    |(go_at_call 95;refine (HC.out _).mono ?_;rintro e w2 ⟨rfl,hb2⟩))
   go_ret;exact ⟨aC HR.out.symm,aB (aB (aB (aM _ _ _) hb) (aD _ _)) hb2⟩
structure Sp where
 a:Int
 b:Int
 c:Int
 x:Int
 y:Int
 z:Int
def SpAt (w:World) (g o:Nat) (s:Sp):Prop:=w.cell? ⟨g,o,none⟩=some (.int .i64 s.a)∧w.cell? ⟨g,o+1,none⟩=some (.int .i64 s.b)∧w.cell? ⟨g,o+1+1,none⟩=some (.int .i64 s.c)∧
 w.cell? ⟨g,o+1+1+1,none⟩=some (.int .i64 s.x)∧w.cell? ⟨g,o+1+1+1+1,none⟩=some (.int .i64 s.y)∧w.cell? ⟨g,o+1+1+1+1+1,none⟩=some (.int .i64 s.z)
def SpansAt (w:World) (v:Value) (L:List Sp):Prop:=∃ ad cap,v= .slice ad L.length cap∧(L=[]∨∃ g o,ad=some ⟨g,o,none⟩∧g<w.heap.size∧∀ i (h:i<L.length),SpAt w g (o+i*6) L[i])
def cM (L:List Sp) (i:Nat):Bool:=match L[i]? with
 |none=>true
 |some s=>cJ s.a s.b s.c s.x s.y s.z&&(match i with
  |0=>true
  |j+1=>match L[j]? with
   |none=>true
   |some p=>cR p.x p.y p.z s.a s.b s.c)
def dK (L:List Sp):Bool:=decide (L.length≤64)&&(List.range L.length).all (cM L)
theorem SpAt.below {w w':World} {g o B:Nat} {s:Sp} (h:SpAt w g o s) (hb:Below B w w') (hg:g<B):SpAt w' g o s:=by
 obtain ⟨h0,h1,h2,h3,h4,h5⟩:=h;have q:∀ i,w'.cell? ⟨g,i,none⟩=w.cell? ⟨g,i,none⟩:=fun i=>hb.cell (p:=⟨g,i,none⟩) hg
 exact ⟨by rw [q];exact h0,by rw [q];exact h1,by rw [q];exact h2,by rw [q];exact h3,by rw [q];exact h4,by rw [q];exact h5⟩
def yX (w:World) (g o:Nat) (s:Sp):Prop:=SpAt w g o s∧g<w.heap.size
theorem uA (g o:Nat) (s:Sp):KeepP fun w1=>yX w1 g o s:=fun _ _ h hb=>⟨h.1.below hb h.2,Nat.lt_of_lt_of_le h.2 hb.size⟩
theorem SpansAt.below {w w':World} {v:Value} {L:List Sp} (h:SpansAt w v L) (hb:Below w.heap.size w w'):SpansAt w' v L:=by
 obtain ⟨ad,cap,hv,hl⟩:=h;refine ⟨ad,cap,hv,hl.imp id ?_⟩;rintro ⟨g,o,ha,hg,hs⟩;exact ⟨g,o,ha,Nat.lt_of_lt_of_le hg hb.size,fun i hi=>(hs i hi).below hb hg⟩
theorem SpAt.first {w:World} {g o:Nat} {s:Sp} (h:SpAt w g (o+0*6) s):w.cell? ⟨g,o,none⟩=some (.int .i64 s.a)∧w.cell? ⟨g,o+1,none⟩=some (.int .i64 s.b)∧w.cell? ⟨g,o+2,none⟩=some (.int .i64 s.c)∧
 w.cell? ⟨g,o+3,none⟩=some (.int .i64 s.x)∧w.cell? ⟨g,o+4,none⟩=some (.int .i64 s.y)∧w.cell? ⟨g,o+5,none⟩=some (.int .i64 s.z):=by
 simp only [Nat.zero_mul,Nat.add_zero] at h;exact h
theorem oF {n:Int} (h0:0≤n) (h1:n≤1000000000000):IntKind.i64.wrap n=n:=by
 go_arith
theorem oG {L:List Sp} (ht:dK L=(List.range L.length).all (cM L)) {k:Nat} (hk:k<L.length) (h:cM L k=false):dK L=false:=by
 rw [ht,Bool.eq_false_iff];intro ha;rw [List.all_eq_true] at ha
 have:=ha k (List.mem_range.2 hk)
 rw [h] at this;cases this
theorem wL {L:List Sp} (ht:dK L=(List.range L.length).all (cM L)) (h:∀ j,j<L.length→cM L j=true):dK L=true:=by
 rw [ht,List.all_eq_true];exact fun k hk=>h k (List.mem_range.1 hk)
set_option maxHeartbeats 3200000 in
theorem rI (L:List Sp) (g o cap:Nat) (w:World) (hlen:L.length≤64) (hg:g<w.heap.size) (hl:∀ i (h:i<L.length),SpAt w g (o+i*6) L[i]):
 Calls Tryz.prog 96 #[.slice (some ⟨g,o,none⟩) L.length cap] w fun e w'=>e= .returned (.bool (dK L))∧Below w.heap.size w w':=by
 have HL:Hid (∀ w1,Below w.heap.size w w1→∀ i (h:i<L.length),SpAt w1 g (o+i*6) L[i]):=fun w1 hb i hi=>(hl i hi).below hb hg
 clear hl;have HT:Hid (dK L=(List.range L.length).all (cM L)):=by unfold Hid dK;simp [hlen]
 have h64:decide ((64:Int)<(L.length:Int))=false:=decide_eq_false (by omega)
 go_enter Tryz.func96,Tryz.ntmps96
 go_wp2_with fail
 go_loopw [10] (fun i wr=>∃ k:Nat,k≤L.length∧i= .int .i64 k∧Below w.heap.size w wr∧∀ j,j<k→cM L j=true) (fun i _=>L.length - (intOf i).toNat)
 case atStart=>exact ⟨0,Nat.zero_le _,rfl,Below.refl _ _,fun j hj=>by omega⟩
 case round=>
  obtain ⟨k,hk,rfl,hb,hok⟩:=hrel
  by_cases hlt:k<L.length
  · have hs:=HL.out wr hb k hlt
    have HOK:=aA hok;have HB:=aA hb;have HS:Hid (L[k]? =some L[k]):=List.getElem?_eq_getElem hlt;generalize L[k]=s at*;obtain ⟨a,b,c,x,y,z⟩:=s;have HM:Hid (∀ w1,Calls Tryz.prog 154 #[.agg #[.int .i64 a,.int .i64 b,.int .i64 c,.int .i64 x,.int .i64 y,.int .i64 z]] w1 fun e w'=>e= .returned (.bool (cJ a b c x y z))∧Below w1.heap.size w1 w'):=lP a b c x y z;clear hok;cases k with
    |zero=>
     have HO:Hid (Below w.heap.size w (wr.alloc (.cells #[.int .i64 a,.int .i64 b,.int .i64 c,.int .i64 x,.int .i64 y,.int .i64 z] 91))∧Bx6 (wr.alloc (.cells #[.int .i64 a,.int .i64 b,.int .i64 c,.int .i64 x,.int .i64 y,.int .i64 z] 91)) wr.heap.size a b c x y z):=⟨aB hb (aD _ _),Bx6.new rfl _ _ _ _ _ _⟩;have HK:Hid (KeepP fun w1=>Below w.heap.size w w1∧Bx6 w1 wr.heap.size a b c x y z):=(aL w).and (tZ _ _ _ _ _ _ _);obtain ⟨c0,c1,c2,c3,c4,c5⟩:=hs.first
     simp only at c0 c1 c2 c3 c4 c5
     clear hs hb;cases hm:cJ a b c x y z
     · have HF:Hid (dK L=false):=oG HT.out hlt (by unfold cM;rw [HS.out];simp [hm])
       rw [hm] at HM
       go_wp2_with fail
       refine aX HK (by kernel_rfl) (by kernel_rfl) (by first|exact HO.out|exact HK.out.drew HO.out) ?_;intro C HIN HOUT;clear HO
       repeat
        (with_reducible refine wpQuiet_step (fun K hK=> ?_)
         go_simp
         first
          |(refine hK _ ?_;clear hK K)
          |(apply Exists.intro;refine ⟨fun w1 hC=> ?_,hK _ ?_⟩;(focus ((first|(go_at_call 154;with_reducible exact bL HIN HOUT HK HM.out w1 hC)|(exact rfl)|(obtain ⟨hb1,k0,k1,k2,k3,k4,k5,k6⟩:=HOUT.out w1 hC;clear hC;go_simp;first|done|exact rfl));done));clear hK K))
       refine wpQuiet_nil ?_;intro wn hC;have HO:=aA (HOUT.out _ hC);clear hC HIN HOUT C;obtain ⟨hb1,k0,k1,k2,k3,k4,k5,k6⟩:=HO.out
       go_wp2
       go_ret;exact ⟨aC HF.out.symm,HO.out.1⟩
     · have HF:Hid (cM L 0=true):=by unfold Hid cM;rw [HS.out];simp [hm]
       rw [hm] at HM
       go_wp2_with fail
       refine aX HK (by kernel_rfl) (by kernel_rfl) (by first|exact HO.out|exact HK.out.drew HO.out) ?_;intro C HIN HOUT;clear HO
       repeat
        (with_reducible refine wpQuiet_step (fun K hK=> ?_)
         go_simp
         first
          |(refine hK _ ?_;clear hK K)
          |(apply Exists.intro;refine ⟨fun w1 hC=> ?_,hK _ ?_⟩;(focus ((first|(go_at_call 154;with_reducible exact bL HIN HOUT HK HM.out w1 hC)|(exact rfl)|(obtain ⟨hb1,k0,k1,k2,k3,k4,k5,k6⟩:=HOUT.out w1 hC;clear hC;go_simp;first|done|exact rfl));done));clear hK K))
       refine wpQuiet_nil ?_;intro wn hC;have HO:=aA (HOUT.out _ hC);clear hC HIN HOUT C;obtain ⟨hb1,k0,k1,k2,k3,k4,k5,k6⟩:=HO.out
       go_wp2
       exact ⟨⟨1,by omega,rfl,HO.out.1,fun j hj=>by rw [show j=0 by omega];exact HF.out⟩,by simp [intOf];omega⟩
    |succ j=>
     have hp:=HL.out wr hb j (by omega);have HP:Hid (L[j]? =some (L[j]'(by omega))):=List.getElem?_eq_getElem (by omega);generalize L[j]'(by omega)=p at*;obtain ⟨p,q,r,u,v,t⟩:=p;have HO:Hid (Below w.heap.size w (wr.alloc (.cells #[.int .i64 a,.int .i64 b,.int .i64 c,.int .i64 x,.int .i64 y,.int .i64 z] 91))∧Bx6 (wr.alloc (.cells #[.int .i64 a,.int .i64 b,.int .i64 c,.int .i64 x,.int .i64 y,.int .i64 z] 91)) wr.heap.size a b c x y z∧yX (wr.alloc (.cells #[.int .i64 a,.int .i64 b,.int .i64 c,.int .i64 x,.int .i64 y,.int .i64 z] 91)) g (o+j*6) ⟨p,q,r,u,v,t⟩):=⟨aB hb (aD _ _),Bx6.new rfl _ _ _ _ _ _,uA _ _ _ _ _ ⟨hp,Nat.lt_of_lt_of_le hg hb.size⟩ (aD _ _)⟩;have HK:Hid (KeepP fun w1=>Below w.heap.size w w1∧Bx6 w1 wr.heap.size a b c x y z∧yX w1 g (o+j*6) ⟨p,q,r,u,v,t⟩):=(aL w).and ((tZ _ _ _ _ _ _ _).and (uA _ _ _))
     have HA:Hid (∀ w1,Calls Tryz.prog 155 #[.agg #[.int .i64 p,.int .i64 q,.int .i64 r,.int .i64 u,.int .i64 v,.int .i64 t],.agg #[.int .i64 a,.int .i64 b,.int .i64 c,.int .i64 x,.int .i64 y,.int .i64 z]] w1 fun e w'=>e= .returned (.bool (cR u v t a b c))∧Below w1.heap.size w1 w'):=rH p q r u v t a b c x y z;obtain ⟨c0,c1,c2,c3,c4,c5⟩:=hs
     simp only at c0 c1 c2 c3 c4 c5
     have hj2:(j:Int)<(L.length:Int):=by omega
     have hwj:IntKind.i64.wrap (j:Int)=(j:Int):=oF (by omega) (by omega);clear hb hp;cases hm:cJ a b c x y z
     · have HF:Hid (dK L=false):=oG HT.out hlt (by unfold cM;rw [HS.out];simp [hm])
       rw [hm] at HM
       go_wp2_with fail
       refine aX HK (by kernel_rfl) (by kernel_rfl) (by first|exact HO.out|exact HK.out.drew HO.out) ?_;intro C HIN HOUT;clear HO
       repeat
        (with_reducible refine wpQuiet_step (fun K hK=> ?_)
         go_simp
         first
          |(refine hK _ ?_;clear hK K)
          |(apply Exists.intro;refine ⟨fun w1 hC=> ?_,hK _ ?_⟩;(focus ((first|(go_at_call 154;with_reducible exact bL HIN HOUT HK HM.out w1 hC)|(exact rfl)|(obtain ⟨hb1,⟨k0,k1,k2,k3,k4,k5,k6⟩,⟨p0,p1,p2,p3,p4,p5⟩,p6⟩:=HOUT.out w1 hC;clear hC;go_simp;first|done|exact rfl));done));clear hK K))
       refine wpQuiet_nil ?_;intro wn hC;have HO:=aA (HOUT.out _ hC);clear hC HIN HOUT C;obtain ⟨hb1,⟨k0,k1,k2,k3,k4,k5,k6⟩,⟨p0,p1,p2,p3,p4,p5⟩,p6⟩:=HO.out
       go_wp2
       go_ret;exact ⟨aC HF.out.symm,HO.out.1⟩
     · rw [hm] at HM
       cases ha:cR u v t a b c
       · have HF:Hid (dK L=false):=oG HT.out hlt (by unfold cM;rw [HS.out];simp only;rw [HP.out];simp [ha])
         rw [ha] at HA
         go_wp2_with fail
         refine aX HK (by kernel_rfl) (by kernel_rfl) (by first|exact HO.out|exact HK.out.drew HO.out) ?_;intro C HIN HOUT;clear HO
         repeat
          (with_reducible refine wpQuiet_step (fun K hK=> ?_)
           go_simp
           first
            |(refine hK _ ?_;clear hK K)
            |(apply Exists.intro;refine ⟨fun w1 hC=> ?_,hK _ ?_⟩;(focus ((first|(go_at_call 154;with_reducible exact bL HIN HOUT HK HM.out w1 hC)|(go_at_call 155;with_reducible exact bL HIN HOUT HK HA.out w1 hC)|(exact rfl)|(obtain ⟨hb1,⟨k0,k1,k2,k3,k4,k5,k6⟩,⟨p0,p1,p2,p3,p4,p5⟩,p6⟩:=HOUT.out w1 hC;clear hC;go_simp;first|done|exact rfl));done));clear hK K))
         refine wpQuiet_nil ?_;intro wn hC;have HO:=aA (HOUT.out _ hC);clear hC HIN HOUT C;obtain ⟨hb1,⟨k0,k1,k2,k3,k4,k5,k6⟩,⟨p0,p1,p2,p3,p4,p5⟩,p6⟩:=HO.out
         go_wp2
         go_ret;exact ⟨aC HF.out.symm,HO.out.1⟩
       · have HF:Hid (cM L (j+1)=true):=by unfold Hid cM;rw [HS.out];simp only;rw [HP.out];simp [ha,hm]
         rw [ha] at HA
         go_wp2_with fail
         refine aX HK (by kernel_rfl) (by kernel_rfl) (by first|exact HO.out|exact HK.out.drew HO.out) ?_;intro C HIN HOUT;clear HO
         repeat
          (with_reducible refine wpQuiet_step (fun K hK=> ?_)
           go_simp
           first
            |(refine hK _ ?_;clear hK K)
            |(apply Exists.intro;refine ⟨fun w1 hC=> ?_,hK _ ?_⟩;(focus ((first|(go_at_call 154;with_reducible exact bL HIN HOUT HK HM.out w1 hC)|(go_at_call 155;with_reducible exact bL HIN HOUT HK HA.out w1 hC)|(exact rfl)|(obtain ⟨hb1,⟨k0,k1,k2,k3,k4,k5,k6⟩,⟨p0,p1,p2,p3,p4,p5⟩,p6⟩:=HOUT.out w1 hC;clear hC;go_simp;first|done|exact rfl));done));clear hK K))
         refine wpQuiet_nil ?_;intro wn hC;have HO:=aA (HOUT.out _ hC);clear hC HIN HOUT C;obtain ⟨hb1,⟨k0,k1,k2,k3,k4,k5,k6⟩,⟨p0,p1,p2,p3,p4,p5⟩,p6⟩:=HO.out
         go_wp2
         refine ⟨⟨j+1+1,by omega,by go_num,HO.out.1,fun i hi=> ?_⟩,by simp [intOf];omega⟩
         rcases Nat.lt_or_ge i (j+1) with h|h
         · exact HOK.out i h
         · rw [show i=j+1 by omega];exact HF.out
  · have hke:k=L.length:=by omega
    subst hke;have HF:Hid (dK L=true):=wL HT.out hok;have HB:=aA hb;clear hok hb
    go_wp2
    go_ret;exact ⟨aC HF.out.symm,HB.out⟩
theorem lQ (ad:Option Addr) (cap:Nat) (w:World):
 Calls Tryz.prog 96 #[.slice ad 0 cap] w fun e w'=>e= .returned (.bool true)∧Below w.heap.size w w':=by
 go_enter Tryz.func96,Tryz.ntmps96
 go_wp2_with fail
 go_loop [10] (fun i=>i= .int .i64 0) (fun _=>0)
 case atStart=>rfl
 case round=>
  subst hrel
  go_wp2
  go_ret;exact ⟨rfl,Below.refl _ _⟩
theorem rJ (ad:Option Addr) (n cap:Nat) (w:World) (h:64<n):
 Calls Tryz.prog 96 #[.slice ad n cap] w fun e w'=>e= .returned (.bool false)∧Below w.heap.size w w':=by
 have h1:(64:Int)<(n:Int):=by omega
 go_enter Tryz.func96,Tryz.ntmps96
 go_wp2
 go_ret;exact ⟨rfl,Below.refl _ _⟩
theorem lR {w:World} {v:Value} {L:List Sp} (h:SpansAt w v L):
 Calls Tryz.prog 96 #[v] w fun e w'=>e= .returned (.bool (dK L))∧Below w.heap.size w w':=by
 obtain ⟨ad,cap,rfl,hl⟩:=h
 by_cases h64:L.length≤64
 · rcases hl with rfl|⟨g,o,rfl,hg,hs⟩
   · exact lQ ad cap w
   · exact rI L g o cap w h64 hg hs
 · have:dK L=false:=by unfold dK;rw [decide_eq_false h64];rfl
   rw [this];exact rJ ad _ cap w (by omega)
theorem rK (v:Value) (L:List Sp):KeepP fun w1=>SpansAt w1 v L:=fun _ _ h hb=>h.below hb
end Go.Proofs.YtpfemjlhklnfoaaGreatDoor
namespace Go.Proofs.YtpfemjlhklnfoaaGreatDoor
abbrev Rg:=List (Int×Int)
def RiseR (k M:Int):Rg→Prop
 |[]=>True
 |(g,h)::B=>k≤g∧g≤h∧h≤M∧RiseR (h+2) M B
theorem RiseR.weak {M j k:Int}:∀ {B:Rg},RiseR k M B→j≤k→RiseR j M B
 |[],_,_=>trivial
 |(_,_)::_,h,hj=>⟨Int.le_trans hj h.1,h.2⟩
theorem RiseR.mem {M:Int} {p:Int×Int}:∀ {C:Rg} {j:Int},RiseR j M C→p ∈ C→j≤p.1∧p.1≤p.2∧p.2≤M
 |[],_,_,hq=>by cases hq
 |(a,b)::C,j,hr,hq=>by
  obtain ⟨r1,r2,r3,r4⟩:=hr
  rcases List.mem_cons.1 hq with rfl|hq
  · exact ⟨r1,r2,r3⟩
  · have:=RiseR.mem r4 hq;omega
def RangeR (A:Rg):Prop:=RiseR 0 999999999 A
end Go.Proofs.YtpfemjlhklnfoaaGreatDoor
namespace Go.Proofs.YtpfemjlhklnfoaaGreatDoor
open Go.RowKit
set_option maxRecDepth 100000
def spR (p:Int×Int):Sp:=⟨atA p.1,atB p.1,atC p.1,atA p.2,atB p.2,atC p.2⟩
def okR (n:Int):Prop:=0≤n∧n≤999999999
def rL (p:Int×Int):Prop:=okR p.1∧okR p.2∧p.1≤p.2
theorem okR.has {n:Int} (h:okR n):dC n=true:=by unfold dC;simp;unfold okR at h;omega
def SpansR (w:World) (v:Value) (L:Rg):Prop:=∃ ad cap,v= .slice ad L.length cap∧L.length≤cap∧(L=[]∨∃ g o,ad=some ⟨g,o,none⟩∧g<w.heap.size∧∀ i (h:i<L.length),SpAt w g (o+i*6) (spR L[i]))
def aU (L:List Sp):List Value:=L.flatMap fun s=>[.int .i64 s.a,.int .i64 s.b,.int .i64 s.c,.int .i64 s.x,.int .i64 s.y,.int .i64 s.z]
theorem dS (L:List Sp):(aU L).length=L.length*6:=by
 induction L with
 |nil=>rfl
 |cons r L ih=>unfold aU at*;simp only [List.flatMap_cons,List.length_append,List.length_cons,List.length_nil,ih];omega
def OwnS (w:World) (B:Nat) (v:Value) (L:List Sp):Prop:=w.ownsRow B 91 6 v L.length (aU L)
theorem OwnS.nil (w:World) (B:Nat):OwnS w B (.slice none 0 0) []:=⟨rfl,Or.inl ⟨rfl,rfl⟩⟩
theorem OwnS.lt {w:World} {B:Nat} {v:Value} {L:List Sp} (h:OwnS w B v L) {g:Nat} (hg:v.ownBlock=some g):g<w.heap.size∧B≤g:=by
 rcases h.2 with ⟨rfl,_⟩|⟨g',cap,cur,rfl,hB,hgg,_⟩
 · cases hg
 · cases hg
   exact ⟨by rw [Array.getElem?_eq_some_iff] at hgg;exact hgg.1,hB⟩
theorem OwnS.of_block {w w':World} {B:Nat} {v:Value} {L:List Sp} (h:OwnS w B v L) (hk:∀ g,v.ownBlock=some g→w'.heap[g]? =w.heap[g]?):OwnS w' B v L:=by
 refine ⟨h.1,?_⟩
 rcases h.2 with hn|⟨g,cap,cur,rfl,hB,hgg,r⟩
 · exact Or.inl hn
 · exact Or.inr ⟨g,cap,cur,rfl,hB,(hk g rfl).trans hgg,r⟩
theorem OwnS.below {w w':World} {B:Nat} {v:Value} {L:List Sp} (h:OwnS w B v L) (hb:Below w.heap.size w w'):OwnS w' B v L:=h.of_block fun g hg=>hb.block g (h.lt hg).1
theorem uB:(Tryz.prog.info? 91).map (fun i=>(i.zero,i.size,i.bytes))=some (some (.agg #[.int .i64 0,.int .i64 0,.int .i64 0,.int .i64 0,.int .i64 0,.int .i64 0]),6,48):=by kernel_rfl
theorem RangeR.ok {B:Rg} (h:RangeR B):∀ p ∈ B,rL p:=fun p hp=>by
 have:=RiseR.mem h hp
 unfold rL okR;omega
theorem eU:∀ (L:List Sp) (i:Nat) (h:i<L.length),(aU L)[i*6]? =some (.int .i64 L[i].a)∧(aU L)[i*6+1]? =some (.int .i64 L[i].b)∧(aU L)[i*6+1+1]? =some (.int .i64 L[i].c)∧
 (aU L)[i*6+1+1+1]? =some (.int .i64 L[i].x)∧(aU L)[i*6+1+1+1+1]? =some (.int .i64 L[i].y)∧(aU L)[i*6+1+1+1+1+1]? =some (.int .i64 L[i].z)
 |[],i,h=>by simp at h
 |s::L,0,_=>by simp [aU]
 |s::L,i+1,h=>by
  have ih:=eU L i (by simpa using h);have e:(i+1)*6=i*6+6:=by omega
  have q:∀ j,(aU (s::L))[i*6+6+j]? =(aU L)[i*6+j]? :=fun j=>by
   have:i*6+6+j=(i*6+j)+6:=by omega
   rw [this];simp [aU]
  have q0:=q 0;have q1:=q 1;have q2:=q 2;have q3:=q 3;have q4:=q 4;have q5:=q 5;simp only [Nat.add_zero] at q0;rw [e];simp only [List.getElem_cons_succ];exact ⟨q0.trans ih.1,q1.trans ih.2.1,q2.trans ih.2.2.1,q3.trans ih.2.2.2.1,q4.trans ih.2.2.2.2.1,q5.trans ih.2.2.2.2.2⟩
theorem OwnS.base {w:World} {B C:Nat} {v:Value} {L:List Sp} (h:OwnS w B v L) (hc:C≤B):OwnS w C v L:=by
 refine ⟨h.1,?_⟩
 rcases h.2 with hn|⟨g,cap,cur,hv,hB,r⟩
 · exact Or.inl hn
 · exact Or.inr ⟨g,cap,cur,hv,Nat.le_trans hc hB,r⟩
theorem OwnS.sp {w:World} {B:Nat} {v:Value} {L:List Sp} (h:OwnS w B v L):∃ ad cap,v= .slice ad L.length cap∧L.length≤cap∧(L=[]∨∃ g o,ad=some ⟨g,o,none⟩∧g<w.heap.size∧∀ i (h:i<L.length),SpAt w g (o+i*6) L[i]):=by
 rcases h.2 with ⟨rfl,hn⟩|⟨g,cap,cur,rfl,hB,hgg,hc,hm,hs,hx⟩
 · have:L=[]:=List.eq_nil_of_length_eq_zero hn
   subst this;exact ⟨none,0,rfl,Nat.le_refl _,Or.inl rfl⟩
 · refine ⟨_,_,rfl,hc,Or.inr ⟨g,0,rfl,?_,fun i hi=> ?_⟩⟩
   · rw [Array.getElem?_eq_some_iff] at hgg;exact hgg.1
   · have q:∀ j v,(aU L)[j]? =some v→w.cell? ⟨g,0+j,none⟩=some v:=fun j v hj=>by
      rw [←hx,List.getElem?_take] at hj
      split at hj
      · rw [Nat.zero_add]
        simp [World.cell?,hgg]
        simpa using hj
      · cases hj
     obtain ⟨s0,s1,s2,s3,s4,s5⟩:=eU L i hi;exact ⟨q _ _ s0,q _ _ s1,q _ _ s2,q _ _ s3,q _ _ s4,q _ _ s5⟩
def FL (w:World):Prop:=(w.cell? ⟨1,0,none⟩=some (.int .i64 0)∧w.cell? ⟨1,1,none⟩=some (.int .i64 0)∧w.cell? ⟨1,2,none⟩=some (.int .i64 0))∧
 (w.cell? ⟨2,0,none⟩=some (.int .i64 999)∧w.cell? ⟨2,1,none⟩=some (.int .i64 999)∧w.cell? ⟨2,2,none⟩=some (.int .i64 999))∧1<w.heap.size∧2<w.heap.size
theorem FL.below {w w':World} (h:FL w) (hb:Below w.heap.size w w'):FL w':=by
 obtain ⟨⟨h0,h1,h2⟩,⟨h3,h4,h5⟩,h6,h7⟩:=h;have q:∀ i,w'.cell? ⟨1,i,none⟩=w.cell? ⟨1,i,none⟩:=fun i=>hb.cell (p:=⟨1,i,none⟩) h6
 have r:∀ i,w'.cell? ⟨2,i,none⟩=w.cell? ⟨2,i,none⟩:=fun i=>hb.cell (p:=⟨2,i,none⟩) h7
 exact ⟨⟨by rw [q];exact h0,by rw [q];exact h1,by rw [q];exact h2⟩,⟨by rw [r];exact h3,by rw [r];exact h4,by rw [r];exact h5⟩,Nat.lt_of_lt_of_le h6 hb.size,Nat.lt_of_lt_of_le h7 hb.size⟩
end Go.Proofs.YtpfemjlhklnfoaaGreatDoor
