/- Vers2, Vers3, Vers4, Vers5, Facts1, Boxes, Sp1, Sp2: their declarations that are needed, laid in one text, remarks and blanks left out. -/
import Derived.Handy
import Derived.Deep.QuietTactic
import Derived.BigQuiet
import Derived.Test.YtpfemjlhklnfoaaGreatDoorShelfA
import Derived.Deep.RegionHeld3
import Derived.Deep.RegionWith
import Derived.Test.YtpfemjlhklnfoaaGreatDoorMh01
namespace Go.Proofs.YtpfemjlhklnfoaaGreatDoor
open Go.RowKit
set_option maxRecDepth 100000
theorem tA {B:Nat} {a w:World} (h:Below B a w) (n:Nat):Below B a (w.drewN n):=⟨h.os,h.tape,h.output,h.size,h.block⟩
set_option maxHeartbeats 1600000 in
theorem rG (a b c x y z:Int) (w:World):
 Calls Tryz.prog 91 #[.agg #[.int .i64 a,.int .i64 b,.int .i64 c],.agg #[.int .i64 x,.int .i64 y,.int .i64 z]] w fun e w'=>e= .returned (.int .i64 (bR a b c x y z))∧Below w.heap.size w w':=by
 go_enter Tryz.func91,Tryz.ntmps91
 go_wp2
 refine wp_loop_rounds 4 ?_
 repeat any_goals (first|(rw [rounds_succ];go_wp2_with fail)|(go_quiet (fail);go_wp2_with fail))
 all_goals
  go_ret;refine ⟨bE (by unfold bR;grind),?_⟩
  repeat' (with_reducible refine tA ?_ _)
  go_grown
def aH (a b c:Int):Int:=if aN a b c=true then (a*1000+b)*1000+c else 0
def fN (n:Int):Bool:=decide (0≤n)&&decide (n<1000000000)
def atA (n:Int):Int:=if fN n=true then n / 1000000 else 0
def atB (n:Int):Int:=if fN n=true then n / 1000 % 1000 else 0
def atC (n:Int):Int:=if fN n=true then n % 1000 else 0
theorem jP {a b:Int} {x y:Bool} (h:a=b) (k:x=y):Ending.returned (.tuple #[.int .i64 a,.bool x])= .returned (.tuple #[.int .i64 b,.bool y]):=by rw [h,k]
theorem iB {a b c a' b' c':Int} {x y:Bool} (h1:a=a') (h2:b=b') (h3:c=c') (k:x=y):Ending.returned (.tuple #[.agg #[.int .i64 a,.int .i64 b,.int .i64 c],.bool x])= .returned (.tuple #[.agg #[.int .i64 a',.int .i64 b',.int .i64 c'],.bool y]):=by rw [h1,h2,h3,k]
theorem dH {a b c:Int} (h:aN a b c=true):0≤a∧a≤999∧0≤b∧b≤999∧0≤c∧c≤999:=by
 simp [aN,eL] at h;omega
set_option maxHeartbeats 800000 in
theorem EF (a b c:Int) (w:World):
 Calls Tryz.prog 247 #[.agg #[.int .i64 a,.int .i64 b,.int .i64 c]] w fun e w'=>e= .returned (.tuple #[.int .i64 (aH a b c),.bool (aN a b c)])∧Below w.heap.size w w':=by
 have HM:Hid (∀ w1,Calls Tryz.prog 97 #[.agg #[.int .i64 a,.int .i64 b,.int .i64 c]] w1 fun e w'=>e= .returned (.bool (aN a b c))∧Below w1.heap.size w1 w'):=dX a b c;cases hm:aN a b c
 · have HR:Hid (aH a b c=0):=by unfold Hid aH;rw [hm];rfl
   rw [hm] at HM
   go_enter Tryz.func247,Tryz.ntmps247
   go_wp2_with (go_at_call 97;refine (HM.out _).mono ?_;rintro e w' ⟨rfl,hb⟩)
   go_returns;exact ⟨jP HR.out.symm rfl,aB (aD _ _) hb⟩
 · have HR:Hid (aH a b c=(a*1000+b)*1000+c):=by unfold Hid aH;rw [hm];rfl
   obtain ⟨a0,a1,b0,b1,c0,c1⟩:=dH hm;rw [hm] at HM
   go_enter Tryz.func247,Tryz.ntmps247
   go_wp2_with (go_at_call 97;refine (HM.out _).mono ?_;rintro e w' ⟨rfl,hb⟩;obtain ⟨k0,k1,k2,k3,k4⟩:=EC hb)
   go_returns;exact ⟨jP (by rw [HR.out];try go_arith) rfl,aB (aD _ _) hb⟩
set_option maxHeartbeats 800000 in
theorem AK (a b c:Int) (w:World):
 Calls Tryz.prog 157 #[.agg #[.int .i64 a,.int .i64 b,.int .i64 c]] w fun e w'=>e= .returned (.tuple #[.int .i64 (aH a b c),.bool (aN a b c)])∧Below w.heap.size w w':=by
 have HM:Hid (∀ w1,Calls Tryz.prog 86 #[.agg #[.int .i64 a,.int .i64 b,.int .i64 c]] w1 fun e w'=>e= .returned (.bool (aN a b c))∧Below w1.heap.size w1 w'):=gN a b c;cases hm:aN a b c
 · have HR:Hid (aH a b c=0):=by unfold Hid aH;rw [hm];rfl
   rw [hm] at HM
   go_enter Tryz.func157,Tryz.ntmps157
   go_wp2_with (go_at_call 86;refine (HM.out _).mono ?_;rintro e w' ⟨rfl,hb⟩)
   go_returns;exact ⟨jP HR.out.symm rfl,aB (aD _ _) hb⟩
 · have HR:Hid (aH a b c=(a*1000+b)*1000+c):=by unfold Hid aH;rw [hm];rfl
   obtain ⟨a0,a1,b0,b1,c0,c1⟩:=dH hm;rw [hm] at HM
   go_enter Tryz.func157,Tryz.ntmps157
   go_wp2_with (go_at_call 86;refine (HM.out _).mono ?_;rintro e w' ⟨rfl,hb⟩;obtain ⟨k0,k1,k2,k3,k4⟩:=EC hb)
   go_returns;exact ⟨jP (by rw [HR.out];try go_arith) rfl,aB (aD _ _) hb⟩
set_option maxHeartbeats 800000 in
theorem MB (n:Int) (w:World):
 Calls Tryz.prog 248 #[.int .i64 n] w fun e w'=>e= .returned (.tuple #[.agg #[.int .i64 (atA n),.int .i64 (atB n),.int .i64 (atC n)],.bool (fN n)])∧Below w.heap.size w w':=by
 cases hh:fN n
 · have HR:Hid (atA n=0∧atB n=0∧atC n=0):=by unfold Hid atA atB atC;rw [hh];exact ⟨rfl,rfl,rfl⟩
   simp [fN] at hh
   by_cases h0:n<0
   · go_enter Tryz.func248,Tryz.ntmps248
     go_wp2
     go_returns;exact ⟨iB HR.out.1.symm HR.out.2.1.symm HR.out.2.2.symm rfl,by go_grown⟩
   · go_enter Tryz.func248,Tryz.ntmps248
     go_wp2
     go_returns;exact ⟨iB HR.out.1.symm HR.out.2.1.symm HR.out.2.2.symm rfl,by go_grown⟩
 · have HR:Hid (atA n=n / 1000000∧atB n=n / 1000 % 1000∧atC n=n % 1000):=by unfold Hid atA atB atC;rw [hh];exact ⟨rfl,rfl,rfl⟩
   simp [fN] at hh;obtain ⟨h0,h1⟩:=hh
   go_enter Tryz.func248,Tryz.ntmps248
   go_wp2
   go_returns;refine ⟨iB ?_ ?_ ?_ rfl,by go_grown⟩
   · have:=HR.out.1;omega
   · have:=HR.out.2.1;omega
   · have:=HR.out.2.2;omega
theorem MC {w:World} {N:Nat} {x y z:Value} (j0:w.cell? ⟨N,0,none⟩=some x) (j1:w.cell? ⟨N,1,none⟩=some y) (j2:w.cell? ⟨N,2,none⟩=some z):
 (∀ u,(w.setCell ⟨N,0,none⟩ u).cell? ⟨N,0,none⟩=some u)∧(∀ u v,((w.setCell ⟨N,0,none⟩ u).setCell ⟨N,1,none⟩ v).cell? ⟨N,1,none⟩=some v)∧(∀ u v t,(((w.setCell ⟨N,0,none⟩ u).setCell ⟨N,1,none⟩ v).setCell ⟨N,2,none⟩ t).cell? ⟨N,2,none⟩=some t):=by
 have k1:∀ u,(w.setCell ⟨N,0,none⟩ u).cell? ⟨N,1,none⟩=some y:=fun u=>(World.cell?_setCell_other _ _ _ _ (by simp)).trans j1
 have k2:∀ u v,((w.setCell ⟨N,0,none⟩ u).setCell ⟨N,1,none⟩ v).cell? ⟨N,2,none⟩=some z:=fun u v=>(World.cell?_setCell_other _ _ _ _ (by simp)).trans ((World.cell?_setCell_other _ _ _ _ (by simp)).trans j2)
 exact ⟨fun u=>World.cell?_setCell_same _ _ _ j0,fun u v=>World.cell?_setCell_same _ _ _ (k1 u),fun u v t=>World.cell?_setCell_same _ _ _ (k2 u v)⟩
theorem iX {w w':World} {N B:Nat} {x y z:Value} (hN:B≤N) (h:Below B w w'):Below B w (((w'.setCell ⟨N,0,none⟩ x).setCell ⟨N,1,none⟩ y).setCell ⟨N,2,none⟩ z):=
 ((h.setCell hN _).setCell hN _).setCell hN _
set_option maxHeartbeats 800000 in
theorem vY (a b c k:Int) (w:World) (hk:k=1∨k= -1):
 Calls Tryz.prog 238 #[.agg #[.int .i64 a,.int .i64 b,.int .i64 c],.int .i64 k] w fun e w'=>e= .returned (.tuple #[.agg #[.int .i64 (if aN a b c then atA (aH a b c+k) else 0),.int .i64 (if aN a b c then atB (aH a b c+k) else 0),.int .i64 (if aN a b c then atC (aH a b c+k) else 0)],.bool (aN a b c&&fN (aH a b c+k))])∧Below w.heap.size w w':=by
 have HM:Hid (∀ w1,Calls Tryz.prog 247 #[.agg #[.int .i64 a,.int .i64 b,.int .i64 c]] w1 fun e w'=>e= .returned (.tuple #[.int .i64 (aH a b c),.bool (aN a b c)])∧Below w1.heap.size w1 w'):=EF a b c;have HA:Hid (∀ w1,Calls Tryz.prog 248 #[.int .i64 (aH a b c+k)] w1 fun e w'=>e= .returned (.tuple #[.agg #[.int .i64 (atA (aH a b c+k)),.int .i64 (atB (aH a b c+k)),.int .i64 (atC (aH a b c+k))],.bool (fN (aH a b c+k))])∧Below w1.heap.size w1 w'):=MB _;cases hm:aN a b c
 · rw [hm] at HM
   go_enter Tryz.func238,Tryz.ntmps238
   go_wp2_with (go_at_call 247;refine (HM.out _).mono ?_;rintro e w' ⟨rfl,hb⟩;obtain ⟨k0,k1,k2,k3,k4,k5,k6⟩:=ED (N:=w.heap.size+1) (by simp) hb)
   obtain ⟨s0,s1,s2⟩:=MC ‹World.cell? w' ⟨w.heap.size+1,0,none⟩=_› ‹World.cell? w' ⟨w.heap.size+1,1,none⟩=_› ‹World.cell? w' ⟨w.heap.size+1,2,none⟩=_›
   try simp only [Exit.inBlock,Exit.then]
   refine bodyPost_ret (by simp [results,Tryz.results238,s0,s1,s2,go_sem];try rfl) rfl ?_;exact ⟨iB rfl rfl rfl rfl,iX (by omega) (aB (aR _ _ _) hb)⟩
 · obtain ⟨a0,a1,b0,b1,c0,c1⟩:=dH hm
   have hr:aH a b c=(a*1000+b)*1000+c:=by unfold aH;rw [hm];rfl
   have hr0:0≤aH a b c:=by rw [hr];omega
   have hr1:aH a b c<1000000000:=by rw [hr];omega
   rw [hm] at HM;clear hr;generalize aH a b c=r at*
   go_enter Tryz.func238,Tryz.ntmps238
   go_wp2_with (first
    |(go_at_call 247;refine (HM.out _).mono ?_;rintro e w1 ⟨rfl,hb⟩;obtain ⟨k0,k1,k2,k3,k4,k5,k6⟩:=ED (N:=w.heap.size+1) (by simp) hb)
    |(go_at_call 248;refine (HA.out _).mono ?_;rintro e w2 ⟨rfl,hb2⟩;have j0:=(hb2.cell (p:=⟨w.heap.size+1,0,none⟩) k6).trans k0;have j1:=(hb2.cell (p:=⟨w.heap.size+1,1,none⟩) k6).trans k1;have j2:=(hb2.cell (p:=⟨w.heap.size+1,2,none⟩) k6).trans k2;have j3:=(hb2.frozen (p:=⟨w.heap.size+1,0,none⟩) k6).trans k3;have j4:=(hb2.frozen (p:=⟨w.heap.size+1,1,none⟩) k6).trans k4;have j5:=(hb2.frozen (p:=⟨w.heap.size+1,2,none⟩) k6).trans k5))
   obtain ⟨s0,s1,s2⟩:=MC ‹World.cell? w2 ⟨w.heap.size+1,0,none⟩=_› ‹World.cell? w2 ⟨w.heap.size+1,1,none⟩=_› ‹World.cell? w2 ⟨w.heap.size+1,2,none⟩=_›
   try simp only [Exit.inBlock,Exit.then]
   refine bodyPost_ret (by simp [results,Tryz.results238,s0,s1,s2,go_sem];try rfl) rfl ?_;exact ⟨iB rfl rfl rfl rfl,iX (by omega) (aB (aB (aR _ _ _) hb) hb2)⟩
def onA (a b c k:Int):Int:=if aN a b c then atA (aH a b c+k) else 0
def onB (a b c k:Int):Int:=if aN a b c then atB (aH a b c+k) else 0
def onC (a b c k:Int):Int:=if aN a b c then atC (aH a b c+k) else 0
def mQ (a b c k:Int):Bool:=aN a b c&&fN (aH a b c+k)
set_option maxHeartbeats 800000 in
theorem EG (a b c:Int) (w:World):
 Calls Tryz.prog 209 #[.agg #[.int .i64 a,.int .i64 b,.int .i64 c]] w fun e w'=>e= .returned (.tuple #[.agg #[.int .i64 (onA a b c 1),.int .i64 (onB a b c 1),.int .i64 (onC a b c 1)],.bool (mQ a b c 1)])∧Below w.heap.size w w':=by
 have HM:Hid (∀ w1,Calls Tryz.prog 238 #[.agg #[.int .i64 a,.int .i64 b,.int .i64 c],.int .i64 1] w1 fun e w'=>e= .returned (.tuple #[.agg #[.int .i64 (onA a b c 1),.int .i64 (onB a b c 1),.int .i64 (onC a b c 1)],.bool (mQ a b c 1)])∧Below w1.heap.size w1 w'):=fun w1=>vY a b c 1 w1 (by omega)
 go_enter Tryz.func209,Tryz.ntmps209
 go_wp2_with (go_at_call 238;refine (HM.out _).mono ?_;rintro e w' ⟨rfl,hb⟩;obtain ⟨k0,k1,k2,k3,k4,k5,k6⟩:=ED (N:=w.heap.size+1) (by simp) hb)
 obtain ⟨s0,s1,s2⟩:=MC k0 k1 k2
 try simp only [Exit.inBlock,Exit.then]
 refine bodyPost_ret (by simp [results,Tryz.results209,s0,s1,s2,go_sem];try rfl) rfl ?_;exact ⟨iB rfl rfl rfl rfl,iX (by omega) (aB (aR _ _ _) hb)⟩
def aT (a b c:Int):ByteArray:=if aN a b c=true then (((⟨(Lib.itoa a).toArray⟩++⟨#[46]⟩)++⟨(Lib.itoa b).toArray⟩)++⟨#[46]⟩)++⟨(Lib.itoa c).toArray⟩ else ByteArray.empty
def Spells (w:World) (n:Int) (S:ByteArray):Prop:=∀ w1,Below w.heap.size w w1→Calls Tryz.prog 200 #[.int .i64 n] w1 fun e w'=>e= .returned (.string S)∧Below w1.heap.size w1 w'
theorem Spells.next {w:World} {n:Int} {S:ByteArray} (h:Spells w n S) {N:Nat} {x y z:Value} (w1:World) (hb:Below w.heap.size w w1) (hl:N<w1.heap.size) (c0:w1.cell? ⟨N,0,none⟩=some x) (c1:w1.cell? ⟨N,1,none⟩=some y) (c2:w1.cell? ⟨N,2,none⟩=some z):
 Calls Tryz.prog 200 #[.int .i64 n] w1 fun e w'=>e= .returned (.string S)∧w'.cell? ⟨N,0,none⟩=some x∧w'.cell? ⟨N,1,none⟩=some y∧w'.cell? ⟨N,2,none⟩=some z∧N<w'.heap.size∧Below w.heap.size w w':=by
 refine (h w1 hb).mono ?_;rintro e w' ⟨rfl,hb1⟩;exact ⟨rfl,(hb1.cell (p:=⟨N,0,none⟩) hl).trans c0,(hb1.cell (p:=⟨N,1,none⟩) hl).trans c1,(hb1.cell (p:=⟨N,2,none⟩) hl).trans c2,Nat.lt_of_lt_of_le hl hb1.size,hb.trans (hb1.mono hb.size)⟩
theorem AL {u:Nat} (h:u<1000):(Lib.decDigits u).length≤3:=by
 rw [Lib.decDigits]
 split
 · simp
 · rw [Lib.decDigits]
   split
   · simp
   · rw [Lib.decDigits_one (by omega)];simp
theorem cC {n:Int} (h0:0≤n) (h1:n≤999):(⟨(Lib.itoa n).toArray⟩:ByteArray).size≤3:=by
 obtain ⟨u,rfl⟩:∃ u:Nat,n=u:=⟨n.toNat,by omega⟩;rw [Lib.itoa_nonneg]
 have:=AL (u:=u) (by omega)
 show (Lib.decDigits u).toArray.size≤3
 simpa using this
theorem bI (x y:ByteArray):(x++y).size=x.size+y.size:=ByteArray.size_append
theorem iC {a b:ByteArray} (h:a=b):Ending.returned (.string a)= .returned (.string b):=by rw [h]
set_option maxHeartbeats 1600000 in
theorem AM (a b c:Int) (w:World) (ha:aN a b c=true→Spells w a ⟨(Lib.itoa a).toArray⟩) (hb:aN a b c=true→Spells w b ⟨(Lib.itoa b).toArray⟩) (hc:aN a b c=true→Spells w c ⟨(Lib.itoa c).toArray⟩):
 Calls Tryz.prog 132 #[.agg #[.int .i64 a,.int .i64 b,.int .i64 c]] w fun e w'=>e= .returned (.string (aT a b c))∧Below w.heap.size w w':=by
 have HM:Hid (∀ w1,Calls Tryz.prog 97 #[.agg #[.int .i64 a,.int .i64 b,.int .i64 c]] w1 fun e w'=>e= .returned (.bool (aN a b c))∧Below w1.heap.size w1 w'):=dX a b c;cases hm:aN a b c
 · have HR:Hid (aT a b c=ByteArray.empty):=by unfold Hid aT;rw [hm];rfl
   rw [hm] at HM;clear ha hb hc
   go_enter Tryz.func132,Tryz.ntmps132
   go_wp2_with (go_at_call 97;refine (HM.out _).mono ?_;rintro e w' ⟨rfl,hb⟩)
   go_returns;exact ⟨iC HR.out.symm,aB (aD _ _) hb⟩
 · have HR:Hid (aT a b c=(((⟨(Lib.itoa a).toArray⟩++⟨#[46]⟩)++⟨(Lib.itoa b).toArray⟩)++⟨#[46]⟩)++⟨(Lib.itoa c).toArray⟩):=by unfold Hid aT;rw [hm];rfl
   have HA:Hid (Spells w a ⟨(Lib.itoa a).toArray⟩):=ha hm;have HB:Hid (Spells w b ⟨(Lib.itoa b).toArray⟩):=hb hm;have HC:Hid (Spells w c ⟨(Lib.itoa c).toArray⟩):=hc hm;obtain ⟨a0,a1,b0,b1,c0,c1⟩:=dH hm;have za:=cC a0 a1;have zb:=cC b0 b1;have zc:=cC c0 c1;rw [hm] at HM;clear ha hb hc a0 a1 b0 b1 c0 c1;generalize (⟨(Lib.itoa a).toArray⟩:ByteArray)=A at*;generalize (⟨(Lib.itoa b).toArray⟩:ByteArray)=B at*;generalize (⟨(Lib.itoa c).toArray⟩:ByteArray)=C at*;have zd:(⟨#[46]⟩:ByteArray).size=1:=rfl;have e1:=fun W:World=>run_string_add_sum (P:=Tryz.prog) (w:=W) A ⟨#[46]⟩ (by omega)
   have e2:=fun W:World=>run_string_add_sum (P:=Tryz.prog) (w:=W) (A++⟨#[46]⟩) B (by rw [bI];omega)
   have e3:=fun W:World=>run_string_add_sum (P:=Tryz.prog) (w:=W) ((A++⟨#[46]⟩)++B) ⟨#[46]⟩ (by rw [bI,bI];omega)
   have e4:=fun W:World=>run_string_add_sum (P:=Tryz.prog) (w:=W) (((A++⟨#[46]⟩)++B)++⟨#[46]⟩) C (by rw [bI,bI,bI];omega)
   clear za zb zc zd
   go_enter Tryz.func132,Tryz.ntmps132
   go_wp2_with (go_at_call 97;refine (HM.out _).mono ?_;rintro e w0 ⟨rfl,hb0⟩;obtain ⟨k0,k1,k2,k3,k4⟩:=EC hb0)
   have HB0:Hid (Below w.heap.size w w0):=k4;have HK0:Hid (w.heap.size<w0.heap.size∧w0.cell? ⟨w.heap.size,0,none⟩=some (.int .i64 a)∧w0.cell? ⟨w.heap.size,1,none⟩=some (.int .i64 b)∧w0.cell? ⟨w.heap.size,2,none⟩=some (.int .i64 c)):=⟨k3,k0,k1,k2⟩;have t1:True:=trivial;have t2:True:=trivial;have t3:True:=trivial;clear k4 hb0
   go_region_held3 (fun w'=>w'.cell? ⟨w.heap.size,0,none⟩=some (.int .i64 a)∧w'.cell? ⟨w.heap.size,1,none⟩=some (.int .i64 b)∧w'.cell? ⟨w.heap.size,2,none⟩=some (.int .i64 c)) (go_keep)
    (first
      |(go_at_call 200;clear t1;refine (HA.out.next (N:=w.heap.size) (x:= .int .i64 a) (y:= .int .i64 b) (z:= .int .i64 c) _ ?_ ?_ ?_ ?_ ?_).mono ?_;(first|exact HB0.out|exact HB0.out.drew);exact HK0.out.1;exact HK0.out.2.1;exact HK0.out.2.2.1;exact HK0.out.2.2.2;rintro e w1 ⟨rfl,q0,q1,q2,l1,b1⟩;have HB1:Hid (Below w.heap.size w w1):=b1;have HK1:Hid (w.heap.size<w1.heap.size∧w1.cell? ⟨w.heap.size,0,none⟩=some (.int .i64 a)∧w1.cell? ⟨w.heap.size,1,none⟩=some (.int .i64 b)∧w1.cell? ⟨w.heap.size,2,none⟩=some (.int .i64 c)):=⟨l1,q0,q1,q2⟩;clear b1)
      |(go_at_call 200;clear t2;refine (HB.out.next (N:=w.heap.size) (x:= .int .i64 a) (y:= .int .i64 b) (z:= .int .i64 c) _ ?_ ?_ ?_ ?_ ?_).mono ?_;(first|exact HB1.out|exact HB1.out.drew);exact HK1.out.1;exact HK1.out.2.1;exact HK1.out.2.2.1;exact HK1.out.2.2.2;rintro e w2 ⟨rfl,r0,r1,r2,l2,b2⟩;have HB2:Hid (Below w.heap.size w w2):=b2;have HK2:Hid (w.heap.size<w2.heap.size∧w2.cell? ⟨w.heap.size,0,none⟩=some (.int .i64 a)∧w2.cell? ⟨w.heap.size,1,none⟩=some (.int .i64 b)∧w2.cell? ⟨w.heap.size,2,none⟩=some (.int .i64 c)):=⟨l2,r0,r1,r2⟩;clear b2)
      |(go_at_call 200;clear t3;refine (HC.out.next (N:=w.heap.size) (x:= .int .i64 a) (y:= .int .i64 b) (z:= .int .i64 c) _ ?_ ?_ ?_ ?_ ?_).mono ?_;(first|exact HB2.out|exact HB2.out.drew);exact HK2.out.1;exact HK2.out.2.1;exact HK2.out.2.2.1;exact HK2.out.2.2.2;rintro e w3 ⟨rfl,u0,u1,u2,l3,b3⟩;have HB3:Hid (Below w.heap.size w w3):=b3;clear b3))
   all_goals go_wp2
   all_goals
    go_returns;refine ⟨iC (by rw [HR.out]),?_⟩;exact HB3.out
end Go.Proofs.YtpfemjlhklnfoaaGreatDoor
namespace Go.Proofs.YtpfemjlhklnfoaaGreatDoor
set_option maxRecDepth 100000
theorem JE (a b c x y z:Int):bR a b c x y z= -bR x y z a b c:=by unfold bR;grind
theorem jQ {a b c:Int} (h:aN a b c=true):aH a b c=(a*1000+b)*1000+c:=by unfold aH;rw [if_pos h]
theorem eO {a b c:Int} (h:aN a b c=true):0≤aH a b c∧aH a b c<1000000000:=by
 have:=dH h;rw [jQ h];omega
theorem mR {a b c x y z:Int} (h:aN a b c=true) (k:aN x y z=true):bR a b c x y z<0↔aH a b c<aH x y z:=by
 have h1:=dH h;have k1:=dH k;rw [jQ h,jQ k];unfold bR
 split
 · subst_vars
   split
   · subst_vars
     split
     · omega
     · split<;>omega
   · split<;>omega
 · split<;>omega
theorem EH {a b c:Int} (h:aN a b c=true):fN (aH a b c)=true:=by
 have:=eO h;unfold fN;simp;omega
theorem yK {a b c:Int} (h:aN a b c=true):atA (aH a b c)=a∧atB (aH a b c)=b∧atC (aH a b c)=c:=by
 have h1:=dH h;unfold atA atB atC;rw [EH h,jQ h]
 simp
 omega
theorem eP {n:Int} (h:fN n=true):aN (atA n) (atB n) (atC n)=true∧aH (atA n) (atB n) (atC n)=n:=by
 have h1:0≤n∧n<1000000000:=by unfold fN at h;simpa using h
 have m:aN (atA n) (atB n) (atC n)=true:=by
  unfold aN eL atA atB atC;rw [h]
  simp
  omega
 refine ⟨m,?_⟩;rw [jQ m];unfold atA atB atC;rw [h]
 simp
 omega
theorem LU {a b c k:Int} (h:aN a b c=true):mQ a b c k=fN (aH a b c+k):=by unfold mQ;rw [h];rfl
theorem NQ {a b c k:Int} (h:aN a b c=true):onA a b c k=atA (aH a b c+k)∧onB a b c k=atB (aH a b c+k)∧onC a b c k=atC (aH a b c+k):=by
 unfold onA onB onC;rw [h];exact ⟨rfl,rfl,rfl⟩
theorem EI {a b c k:Int} (h:mQ a b c k=true):aN a b c=true∧aN (onA a b c k) (onB a b c k) (onC a b c k)=true∧aH (onA a b c k) (onB a b c k) (onC a b c k)=aH a b c+k:=by
 have hm:aN a b c=true:=by unfold mQ at h;revert h;cases aN a b c<;>simp
 rw [LU hm] at h;obtain ⟨e1,e2,e3⟩:=NQ (k:=k) hm;rw [e1,e2,e3];exact ⟨hm,eP h⟩
theorem JF {a b c:Int} (h:aN a b c=true):mQ a b c 1=decide (aH a b c<999999999):=by
 have:=eO h
 rw [LU h];unfold fN;rw [Bool.eq_iff_iff];simp;omega
end Go.Proofs.YtpfemjlhklnfoaaGreatDoor
namespace Go.Proofs.YtpfemjlhklnfoaaGreatDoor
open Go.RowKit
set_option maxRecDepth 100000
structure Bx where
 n:Nat
 x:Value
 y:Value
 z:Value
def BxAt (w1:World) (q:Bx):Prop:=w1.cell? ⟨q.n,0,none⟩=some q.x∧w1.cell? ⟨q.n,1,none⟩=some q.y∧w1.cell? ⟨q.n,2,none⟩=some q.z∧q.n<w1.heap.size
def OKs (w:World) (bs:List Bx) (w1:World):Prop:=Below w.heap.size w w1∧∀ q ∈ bs,BxAt w1 q
theorem BxAt.below {w1 w':World} {q:Bx} (h:BxAt w1 q) (hb:Below w1.heap.size w1 w'):BxAt w' q:=NP hb h.2.2.2 h.1 h.2.1 h.2.2.1
theorem OKs.nil (w:World):OKs w [] w:=⟨Below.refl _ _,fun q hq=>by cases hq⟩
theorem OKs.box {w:World} {bs:List Bx} {w1:World} (h:OKs w bs w1) {N:Nat} (hN:w1.heap.size=N) (x y z:Value):OKs w (⟨N,x,y,z⟩::bs) (w1.alloc (.cells #[x,y,z] 31)):=by
 subst hN;refine ⟨aB h.1 (aD _ _),fun q hq=> ?_⟩
 rcases List.mem_cons.1 hq with rfl|hq
 · refine ⟨?_,?_,?_,?_⟩
   · simp
   · simp
   · simp
   · show w1.heap.size<(w1.alloc _).heap.size
     simp
 · exact (h.2 q hq).below (aD _ _)
theorem OKs.one {w:World} {q:Bx} {bs:List Bx} {w1:World} (h:OKs w (q::bs) w1):BxAt w1 q:=h.2 q List.mem_cons_self
theorem aA {p:Prop} (h:p):Hid p:=h
def Bx6 (w:World) (N:Nat) (a b c x y z:Int):Prop:=
 w.cell? ⟨N,0,none⟩=some (.int .i64 a)∧w.cell? ⟨N,1,none⟩=some (.int .i64 b)∧w.cell? ⟨N,2,none⟩=some (.int .i64 c)∧w.cell? ⟨N,3,none⟩=some (.int .i64 x)∧w.cell? ⟨N,4,none⟩=some (.int .i64 y)∧w.cell? ⟨N,5,none⟩=some (.int .i64 z)∧N<w.heap.size
theorem Bx6.new {w:World} {N:Nat} (hN:w.heap.size=N) (a b c x y z:Int):Bx6 (w.alloc (.cells #[.int .i64 a,.int .i64 b,.int .i64 c,.int .i64 x,.int .i64 y,.int .i64 z] 91)) N a b c x y z:=by
 subst hN;refine ⟨?_,?_,?_,?_,?_,?_,?_⟩<;>simp
theorem Bx6.below {w w':World} {N:Nat} {a b c x y z:Int} (h:Bx6 w N a b c x y z) (hb:Below w.heap.size w w'):Bx6 w' N a b c x y z:=by
 obtain ⟨h0,h1,h2,h3,h4,h5,h6⟩:=h;have q:∀ i,w'.cell? ⟨N,i,none⟩=w.cell? ⟨N,i,none⟩:=fun i=>hb.cell (p:=⟨N,i,none⟩) h6
 exact ⟨by rw [q];exact h0,by rw [q];exact h1,by rw [q];exact h2,by rw [q];exact h3,by rw [q];exact h4,by rw [q];exact h5,Nat.lt_of_lt_of_le h6 hb.size⟩
def KeepP (K:World→Prop):Prop:=∀ w w',K w→Below w.heap.size w w'→K w'
theorem KeepP.and {K M:World→Prop} (hk:KeepP K) (hm:KeepP M):KeepP fun w=>K w∧M w:=fun _ _ h hb=>⟨hk _ _ h.1 hb,hm _ _ h.2 hb⟩
theorem KeepP.drew {K:World→Prop} (hk:KeepP K) {w:World} (h:K w):K w.drew:=hk _ _ h (Below.refl _ _).drew
theorem aG (w:World):KeepP fun w1=>Below w.heap.size w w1:=fun _ _ h hb=>aB h hb
theorem yL (N:Nat) (a b c x y z:Int):KeepP fun w1=>Bx6 w1 N a b c x y z:=fun _ _ h hb=>h.below hb
theorem MD (q:Bx):KeepP fun w1=>BxAt w1 q:=fun _ _ h hb=>h.below hb
theorem tB {K:World→Prop} (hk:KeepP K) {P:Program} {f:Nat} {args:Array Value} {R:Ending} (h:∀ w1,Calls P f args w1 fun e w'=>e=R∧Below w1.heap.size w1 w') (w1:World) (ok:K w1):
 Calls P f args w1 fun e w'=>e=R∧K w':=by
 refine (h w1).mono ?_;rintro e w' ⟨rfl,hb⟩;exact ⟨rfl,hk _ _ ok hb⟩
theorem mS {K:World→Prop} (hk:KeepP K) {P:Program} {id:Nat} {Q:Exit→Act→World→Prop} {a:Act} {w:World} {l:List Oper} (hm:P.follows .mixedOrders=true) (hB:Region.lexB .any l.toArray=true) (hC:K w)
 (h:∀ C:World→Prop,(∀ w,K w→C w)→(∀ w,C w→K w)→wpQuiet P l.toArray C (fun a'=>∀ w',C w'→Q .normal a' w') l a):(Code.region id l.toArray true).wp P Q a w:=
 wp_region_quiet (C:=K) hm hB (hk.drew hC) (by simpa using h K (fun _ h=>h) (fun _ h=>h))
theorem bA {K:World→Prop} (hk:Hid (KeepP K)) {P:Program} {id:Nat} {Q:Exit→Act→World→Prop} {a:Act} {w:World} {l:List Oper} (hm:P.follows .mixedOrders=true) (hB:Region.lexB .any l.toArray=true) (hC:K w)
 (h:∀ C:World→Prop,Hid (∀ w,K w→C w)→Hid (∀ w,C w→K w)→wpQuiet P l.toArray C (fun a'=>∀ w',C w'→Q .normal a' w') l a):(Code.region id l.toArray true).wp P Q a w:=mS hk hm hB hC h
theorem NR {C K:World→Prop} (hin:∀ w,K w→C w) (hout:∀ w,C w→K w) (hk:KeepP K) {P:Program} {f:Nat} {args:Array Value} {v:Value} (h:∀ w1,Calls P f args w1 fun e w'=>e= .returned v∧Below w1.heap.size w1 w') (w1:World) (hC:C w1):
 Calls P f args w1 fun e w'=>e= .returned v∧C w':=by
 refine (h w1).mono ?_;rintro e w' ⟨rfl,hb⟩;exact ⟨rfl,hin _ (hk _ _ (hout _ hC) hb)⟩
theorem aU {C K:World→Prop} (hin:Hid (∀ w,K w→C w)) (hout:Hid (∀ w,C w→K w)) (hk:Hid (KeepP K)) {P:Program} {f:Nat} {args:Array Value} {v:Value} (h:∀ w1,Calls P f args w1 fun e w'=>e= .returned v∧Below w1.heap.size w1 w') (w1:World) (hC:C w1):
 Calls P f args w1 fun e w'=>e= .returned v∧C w':=NR hin hout hk h w1 hC
theorem ME {C K:World→Prop} (hin:∀ w,K w→C w) (hout:∀ w,C w→K w) (hk:KeepP K) {P:Program} {f:Nat} {args:Array Value} {v:Value} (h:∀ w1,K w1→Calls P f args w1 fun e w'=>e= .returned v∧Below w1.heap.size w1 w') (w1:World) (hC:C w1):
 Calls P f args w1 fun e w'=>e= .returned v∧C w':=by
 refine (h w1 (hout _ hC)).mono ?_;rintro e w' ⟨rfl,hb⟩;exact ⟨rfl,hin _ (hk _ _ (hout _ hC) hb)⟩
theorem cI {C K:World→Prop} (hin:Hid (∀ w,K w→C w)) (hout:Hid (∀ w,C w→K w)) (hk:Hid (KeepP K)) {P:Program} {f:Nat} {args:Array Value} {v:Value} (h:∀ w1,K w1→Calls P f args w1 fun e w'=>e= .returned v∧Below w1.heap.size w1 w') (w1:World) (hC:C w1):
 Calls P f args w1 fun e w'=>e= .returned v∧C w':=ME hin hout hk h w1 hC
def eA (a b c x y z:Int):Bool:=aN a b c&&aN x y z&&decide (bR a b c x y z≤0)
def eQ (x y z a b c:Int):Bool:=mQ x y z 1&&decide (bR (onA x y z 1) (onB x y z 1) (onC x y z 1) a b c<0)
set_option maxHeartbeats 800000 in
theorem tC (a b c x y z:Int) (w:World):
 Calls Tryz.prog 154 #[.agg #[.int .i64 a,.int .i64 b,.int .i64 c,.int .i64 x,.int .i64 y,.int .i64 z]] w fun e w'=>e= .returned (.bool (eA a b c x y z))∧Below w.heap.size w w':=by
 have HL:Hid (∀ w1,Calls Tryz.prog 97 #[.agg #[.int .i64 a,.int .i64 b,.int .i64 c]] w1 fun e w'=>e= .returned (.bool (aN a b c))∧Below w1.heap.size w1 w'):=dX a b c;have HH:Hid (∀ w1,Calls Tryz.prog 97 #[.agg #[.int .i64 x,.int .i64 y,.int .i64 z]] w1 fun e w'=>e= .returned (.bool (aN x y z))∧Below w1.heap.size w1 w'):=dX x y z;have HC:Hid (∀ w1,Calls Tryz.prog 95 #[.agg #[.int .i64 a,.int .i64 b,.int .i64 c],.agg #[.int .i64 x,.int .i64 y,.int .i64 z]] w1 fun e w'=>e= .returned (.int .i64 (bR a b c x y z))∧Below w1.heap.size w1 w'):=fF a b c x y z;have HB:Hid (Bx6 (w.alloc (.cells #[.int .i64 a,.int .i64 b,.int .i64 c,.int .i64 x,.int .i64 y,.int .i64 z] 91)) w.heap.size a b c x y z):=Bx6.new rfl _ _ _ _ _ _;have t1:True:=trivial;cases h1:aN a b c
 · have HR:Hid (eA a b c x y z=false):=by unfold Hid eA;rw [h1];rfl
   rw [h1] at HL
   go_enter Tryz.func154,Tryz.ntmps154
   go_wp2_with (go_at_call 97;refine (HL.out _).mono ?_;rintro e w1 ⟨rfl,hb⟩)
   go_ret;exact ⟨aC HR.out.symm,aB (aD _ _) hb⟩
 · cases h2:aN x y z
   · have HR:Hid (eA a b c x y z=false):=by unfold Hid eA;rw [h1,h2];rfl
     rw [h1] at HL;rw [h2] at HH
     go_enter Tryz.func154,Tryz.ntmps154
     go_wp2_with (first
      |(have _t:=t1;go_at_call 97;refine (HL.out _).mono ?_;rintro e w1 ⟨rfl,hb⟩;obtain ⟨k0,k1,k2,k3,k4,k5,k6⟩:=HB.out.below hb;clear t1)
      |(go_at_call 97;refine (HH.out _).mono ?_;rintro e w2 ⟨rfl,hb2⟩))
     go_ret;exact ⟨aC HR.out.symm,aB (aB (aD _ _) hb) hb2⟩
   · rw [h1] at HL
     rw [h2] at HH;have HR:Hid (eA a b c x y z=decide (bR a b c x y z≤0)):=by unfold Hid eA;rw [h1,h2];rfl
     generalize bR a b c x y z=q at*
     go_enter Tryz.func154,Tryz.ntmps154
     go_wp2_with (first
      |(have _t:=t1;go_at_call 97;refine (HL.out _).mono ?_;rintro e w1 ⟨rfl,hb⟩;have HB1:=aA (HB.out.below hb);obtain ⟨k0,k1,k2,k3,k4,k5,k6⟩:=HB1.out;clear t1)
      |(go_at_call 97;refine (HH.out _).mono ?_;rintro e w2 ⟨rfl,hb2⟩;obtain ⟨j0,j1,j2,j3,j4,j5,j6⟩:=HB1.out.below hb2)
      |(go_at_call 95;refine (HC.out _).mono ?_;rintro e w3 ⟨rfl,hb3⟩))
     go_ret;exact ⟨aC HR.out.symm,aB (aB (aB (aD _ _) hb) hb2) hb3⟩
set_option maxHeartbeats 800000 in
theorem AN (a b c x y z p q r u v t:Int) (w:World):
 Calls Tryz.prog 155 #[.agg #[.int .i64 a,.int .i64 b,.int .i64 c,.int .i64 x,.int .i64 y,.int .i64 z],.agg #[.int .i64 p,.int .i64 q,.int .i64 r,.int .i64 u,.int .i64 v,.int .i64 t]] w fun e w'=>e= .returned (.bool (eQ x y z p q r))∧Below w.heap.size w w':=by
 have HN:Hid (∀ w1,Calls Tryz.prog 209 #[.agg #[.int .i64 x,.int .i64 y,.int .i64 z]] w1 fun e w'=>e= .returned (.tuple #[.agg #[.int .i64 (onA x y z 1),.int .i64 (onB x y z 1),.int .i64 (onC x y z 1)],.bool (mQ x y z 1)])∧Below w1.heap.size w1 w'):=EG x y z;have HC:Hid (∀ w1,Calls Tryz.prog 95 #[.agg #[.int .i64 (onA x y z 1),.int .i64 (onB x y z 1),.int .i64 (onC x y z 1)],.agg #[.int .i64 p,.int .i64 q,.int .i64 r]] w1 fun e w'=>e= .returned (.int .i64 (bR (onA x y z 1) (onB x y z 1) (onC x y z 1) p q r))∧Below w1.heap.size w1 w'):=fF _ _ _ _ _ _;have HB:Hid (Bx6 ((w.alloc (.cells #[.int .i64 a,.int .i64 b,.int .i64 c,.int .i64 x,.int .i64 y,.int .i64 z] 91)).alloc (.cells #[.int .i64 p,.int .i64 q,.int .i64 r,.int .i64 u,.int .i64 v,.int .i64 t] 91)) (w.heap.size+1) p q r u v t):=Bx6.new (by simp) _ _ _ _ _ _;cases h1:mQ x y z 1
 · have HR:Hid (eQ x y z p q r=false):=by unfold Hid eQ;rw [h1];rfl
   rw [h1] at HN
   go_enter Tryz.func155,Tryz.ntmps155
   go_wp2_with (go_at_call 209;refine (HN.out _).mono ?_;rintro e w1 ⟨rfl,hb⟩)
   go_ret;exact ⟨aC HR.out.symm,aB (aB (aR _ _ _) hb) (aD _ _)⟩
 · have HR:Hid (eQ x y z p q r=decide (bR (onA x y z 1) (onB x y z 1) (onC x y z 1) p q r<0)):=by unfold Hid eQ;rw [h1];rfl
   rw [h1] at HN;generalize onA x y z 1=nA at*;generalize onB x y z 1=nB at*;generalize onC x y z 1=nC at*;generalize bR nA nB nC p q r=o at*
   go_enter Tryz.func155,Tryz.ntmps155
   go_wp2_with (first
    |(go_at_call 209;refine (HN.out _).mono ?_;rintro e w1 ⟨rfl,hb⟩;obtain ⟨k0,k1,k2,k3,k4,k5,k6⟩:=HB.out.below hb)
    |(go_at_call 95;refine (HC.out _).mono ?_;rintro e w2 ⟨rfl,hb2⟩))
   go_ret;exact ⟨aC HR.out.symm,aB (aB (aB (aR _ _ _) hb) (aD _ _)) hb2⟩
structure Sp where
 a:Int
 b:Int
 c:Int
 x:Int
 y:Int
 z:Int
def SpAt (w:World) (g o:Nat) (s:Sp):Prop:=w.cell? ⟨g,o,none⟩=some (.int .i64 s.a)∧w.cell? ⟨g,o+1,none⟩=some (.int .i64 s.b)∧w.cell? ⟨g,o+1+1,none⟩=some (.int .i64 s.c)∧
 w.cell? ⟨g,o+1+1+1,none⟩=some (.int .i64 s.x)∧w.cell? ⟨g,o+1+1+1+1,none⟩=some (.int .i64 s.y)∧w.cell? ⟨g,o+1+1+1+1+1,none⟩=some (.int .i64 s.z)
def SpansAt (w:World) (v:Value) (L:List Sp):Prop:=∃ ad cap,v= .slice ad L.length cap∧(L=[]∨∃ g o,ad=some ⟨g,o,none⟩∧g<w.heap.size∧∀ i (h:i<L.length),SpAt w g (o+i*6) L[i])
def cS (L:List Sp) (i:Nat):Bool:=match L[i]? with
 |none=>true
 |some s=>eA s.a s.b s.c s.x s.y s.z&&(match i with
  |0=>true
  |j+1=>match L[j]? with
   |none=>true
   |some p=>eQ p.x p.y p.z s.a s.b s.c)
def cJ (L:List Sp):Bool:=decide (L.length≤64)&&(List.range L.length).all (cS L)
theorem SpAt.below {w w':World} {g o B:Nat} {s:Sp} (h:SpAt w g o s) (hb:Below B w w') (hg:g<B):SpAt w' g o s:=by
 obtain ⟨h0,h1,h2,h3,h4,h5⟩:=h;have q:∀ i,w'.cell? ⟨g,i,none⟩=w.cell? ⟨g,i,none⟩:=fun i=>hb.cell (p:=⟨g,i,none⟩) hg
 exact ⟨by rw [q];exact h0,by rw [q];exact h1,by rw [q];exact h2,by rw [q];exact h3,by rw [q];exact h4,by rw [q];exact h5⟩
def kT (w:World) (g o:Nat) (s:Sp):Prop:=SpAt w g o s∧g<w.heap.size
theorem mT (g o:Nat) (s:Sp):KeepP fun w1=>kT w1 g o s:=fun _ _ h hb=>⟨h.1.below hb h.2,Nat.lt_of_lt_of_le h.2 hb.size⟩
theorem SpansAt.below {w w':World} {v:Value} {L:List Sp} (h:SpansAt w v L) (hb:Below w.heap.size w w'):SpansAt w' v L:=by
 obtain ⟨ad,cap,hv,hl⟩:=h;refine ⟨ad,cap,hv,hl.imp id ?_⟩;rintro ⟨g,o,ha,hg,hs⟩;exact ⟨g,o,ha,Nat.lt_of_lt_of_le hg hb.size,fun i hi=>(hs i hi).below hb hg⟩
theorem SpAt.first {w:World} {g o:Nat} {s:Sp} (h:SpAt w g (o+0*6) s):w.cell? ⟨g,o,none⟩=some (.int .i64 s.a)∧w.cell? ⟨g,o+1,none⟩=some (.int .i64 s.b)∧w.cell? ⟨g,o+2,none⟩=some (.int .i64 s.c)∧
 w.cell? ⟨g,o+3,none⟩=some (.int .i64 s.x)∧w.cell? ⟨g,o+4,none⟩=some (.int .i64 s.y)∧w.cell? ⟨g,o+5,none⟩=some (.int .i64 s.z):=by
 simp only [Nat.zero_mul,Nat.add_zero] at h;exact h
theorem iY {n:Int} (h0:0≤n) (h1:n≤1000000000000):IntKind.i64.wrap n=n:=by
 go_arith
theorem mU {L:List Sp} (ht:cJ L=(List.range L.length).all (cS L)) {k:Nat} (hk:k<L.length) (h:cS L k=false):cJ L=false:=by
 rw [ht,Bool.eq_false_iff];intro ha;rw [List.all_eq_true] at ha
 have:=ha k (List.mem_range.2 hk)
 rw [h] at this;cases this
theorem yM {L:List Sp} (ht:cJ L=(List.range L.length).all (cS L)) (h:∀ j,j<L.length→cS L j=true):cJ L=true:=by
 rw [ht,List.all_eq_true];exact fun k hk=>h k (List.mem_range.1 hk)
set_option maxHeartbeats 3200000 in
theorem AO (L:List Sp) (g o cap:Nat) (w:World) (hlen:L.length≤64) (hg:g<w.heap.size) (hl:∀ i (h:i<L.length),SpAt w g (o+i*6) L[i]):
 Calls Tryz.prog 96 #[.slice (some ⟨g,o,none⟩) L.length cap] w fun e w'=>e= .returned (.bool (cJ L))∧Below w.heap.size w w':=by
 have HL:Hid (∀ w1,Below w.heap.size w w1→∀ i (h:i<L.length),SpAt w1 g (o+i*6) L[i]):=fun w1 hb i hi=>(hl i hi).below hb hg
 clear hl;have HT:Hid (cJ L=(List.range L.length).all (cS L)):=by unfold Hid cJ;simp [hlen]
 have h64:decide ((64:Int)<(L.length:Int))=false:=decide_eq_false (by omega)
 go_enter Tryz.func96,Tryz.ntmps96
 go_wp2_with fail
 go_loopw [10] (fun i wr=>∃ k:Nat,k≤L.length∧i= .int .i64 k∧Below w.heap.size w wr∧∀ j,j<k→cS L j=true) (fun i _=>L.length - (intOf i).toNat)
 case atStart=>exact ⟨0,Nat.zero_le _,rfl,Below.refl _ _,fun j hj=>by omega⟩
 case round=>
  obtain ⟨k,hk,rfl,hb,hok⟩:=hrel
  by_cases hlt:k<L.length
  · have hs:=HL.out wr hb k hlt
    have HOK:=aA hok;have HB:=aA hb;have HS:Hid (L[k]? =some L[k]):=List.getElem?_eq_getElem hlt;generalize L[k]=s at*;obtain ⟨a,b,c,x,y,z⟩:=s;have HM:Hid (∀ w1,Calls Tryz.prog 154 #[.agg #[.int .i64 a,.int .i64 b,.int .i64 c,.int .i64 x,.int .i64 y,.int .i64 z]] w1 fun e w'=>e= .returned (.bool (eA a b c x y z))∧Below w1.heap.size w1 w'):=tC a b c x y z;clear hok;cases k with
    |zero=>
     have HO:Hid (Below w.heap.size w (wr.alloc (.cells #[.int .i64 a,.int .i64 b,.int .i64 c,.int .i64 x,.int .i64 y,.int .i64 z] 91))∧Bx6 (wr.alloc (.cells #[.int .i64 a,.int .i64 b,.int .i64 c,.int .i64 x,.int .i64 y,.int .i64 z] 91)) wr.heap.size a b c x y z):=⟨aB hb (aD _ _),Bx6.new rfl _ _ _ _ _ _⟩;have HK:Hid (KeepP fun w1=>Below w.heap.size w w1∧Bx6 w1 wr.heap.size a b c x y z):=(aG w).and (yL _ _ _ _ _ _ _);obtain ⟨c0,c1,c2,c3,c4,c5⟩:=hs.first
     simp only at c0 c1 c2 c3 c4 c5
     clear hs hb;cases hm:eA a b c x y z
     · have HF:Hid (cJ L=false):=mU HT.out hlt (by unfold cS;rw [HS.out];simp [hm])
       rw [hm] at HM
       go_wp2_with fail
       refine bA HK (by kernel_rfl) (by kernel_rfl) (by first|exact HO.out|exact HK.out.drew HO.out) ?_;intro C HIN HOUT;clear HO
       repeat
        (with_reducible refine wpQuiet_step (fun K hK=> ?_)
         go_simp
         first
          |(refine hK _ ?_;clear hK K)
          |(apply Exists.intro;refine ⟨fun w1 hC=> ?_,hK _ ?_⟩;(focus ((first|(go_at_call 154;with_reducible exact aU HIN HOUT HK HM.out w1 hC)|(exact rfl)|(obtain ⟨hb1,k0,k1,k2,k3,k4,k5,k6⟩:=HOUT.out w1 hC;clear hC;go_simp;first|done|exact rfl));done));clear hK K))
       refine wpQuiet_nil ?_;intro wn hC;have HO:=aA (HOUT.out _ hC);clear hC HIN HOUT C;obtain ⟨hb1,k0,k1,k2,k3,k4,k5,k6⟩:=HO.out
       go_wp2
       go_ret;exact ⟨aC HF.out.symm,HO.out.1⟩
     · have HF:Hid (cS L 0=true):=by unfold Hid cS;rw [HS.out];simp [hm]
       rw [hm] at HM
       go_wp2_with fail
       refine bA HK (by kernel_rfl) (by kernel_rfl) (by first|exact HO.out|exact HK.out.drew HO.out) ?_;intro C HIN HOUT;clear HO
       repeat
        (with_reducible refine wpQuiet_step (fun K hK=> ?_)
         go_simp
         first
          |(refine hK _ ?_;clear hK K)
          |(apply Exists.intro;refine ⟨fun w1 hC=> ?_,hK _ ?_⟩;(focus ((first|(go_at_call 154;with_reducible exact aU HIN HOUT HK HM.out w1 hC)|(exact rfl)|(obtain ⟨hb1,k0,k1,k2,k3,k4,k5,k6⟩:=HOUT.out w1 hC;clear hC;go_simp;first|done|exact rfl));done));clear hK K))
       refine wpQuiet_nil ?_;intro wn hC;have HO:=aA (HOUT.out _ hC);clear hC HIN HOUT C;obtain ⟨hb1,k0,k1,k2,k3,k4,k5,k6⟩:=HO.out
       go_wp2
       exact ⟨⟨1,by omega,rfl,HO.out.1,fun j hj=>by rw [show j=0 by omega];exact HF.out⟩,by simp [intOf];omega⟩
    |succ j=>
     have hp:=HL.out wr hb j (by omega);have HP:Hid (L[j]? =some (L[j]'(by omega))):=List.getElem?_eq_getElem (by omega);generalize L[j]'(by omega)=p at*;obtain ⟨p,q,r,u,v,t⟩:=p;have HO:Hid (Below w.heap.size w (wr.alloc (.cells #[.int .i64 a,.int .i64 b,.int .i64 c,.int .i64 x,.int .i64 y,.int .i64 z] 91))∧Bx6 (wr.alloc (.cells #[.int .i64 a,.int .i64 b,.int .i64 c,.int .i64 x,.int .i64 y,.int .i64 z] 91)) wr.heap.size a b c x y z∧kT (wr.alloc (.cells #[.int .i64 a,.int .i64 b,.int .i64 c,.int .i64 x,.int .i64 y,.int .i64 z] 91)) g (o+j*6) ⟨p,q,r,u,v,t⟩):=⟨aB hb (aD _ _),Bx6.new rfl _ _ _ _ _ _,mT _ _ _ _ _ ⟨hp,Nat.lt_of_lt_of_le hg hb.size⟩ (aD _ _)⟩;have HK:Hid (KeepP fun w1=>Below w.heap.size w w1∧Bx6 w1 wr.heap.size a b c x y z∧kT w1 g (o+j*6) ⟨p,q,r,u,v,t⟩):=(aG w).and ((yL _ _ _ _ _ _ _).and (mT _ _ _))
     have HA:Hid (∀ w1,Calls Tryz.prog 155 #[.agg #[.int .i64 p,.int .i64 q,.int .i64 r,.int .i64 u,.int .i64 v,.int .i64 t],.agg #[.int .i64 a,.int .i64 b,.int .i64 c,.int .i64 x,.int .i64 y,.int .i64 z]] w1 fun e w'=>e= .returned (.bool (eQ u v t a b c))∧Below w1.heap.size w1 w'):=AN p q r u v t a b c x y z;obtain ⟨c0,c1,c2,c3,c4,c5⟩:=hs
     simp only at c0 c1 c2 c3 c4 c5
     have hj2:(j:Int)<(L.length:Int):=by omega
     have hwj:IntKind.i64.wrap (j:Int)=(j:Int):=iY (by omega) (by omega);clear hb hp;cases hm:eA a b c x y z
     · have HF:Hid (cJ L=false):=mU HT.out hlt (by unfold cS;rw [HS.out];simp [hm])
       rw [hm] at HM
       go_wp2_with fail
       refine bA HK (by kernel_rfl) (by kernel_rfl) (by first|exact HO.out|exact HK.out.drew HO.out) ?_;intro C HIN HOUT;clear HO
       repeat
        (with_reducible refine wpQuiet_step (fun K hK=> ?_)
         go_simp
         first
          |(refine hK _ ?_;clear hK K)
          |(apply Exists.intro;refine ⟨fun w1 hC=> ?_,hK _ ?_⟩;(focus ((first|(go_at_call 154;with_reducible exact aU HIN HOUT HK HM.out w1 hC)|(exact rfl)|(obtain ⟨hb1,⟨k0,k1,k2,k3,k4,k5,k6⟩,⟨p0,p1,p2,p3,p4,p5⟩,p6⟩:=HOUT.out w1 hC;clear hC;go_simp;first|done|exact rfl));done));clear hK K))
       refine wpQuiet_nil ?_;intro wn hC;have HO:=aA (HOUT.out _ hC);clear hC HIN HOUT C;obtain ⟨hb1,⟨k0,k1,k2,k3,k4,k5,k6⟩,⟨p0,p1,p2,p3,p4,p5⟩,p6⟩:=HO.out
       go_wp2
       go_ret;exact ⟨aC HF.out.symm,HO.out.1⟩
     · rw [hm] at HM
       cases ha:eQ u v t a b c
       · have HF:Hid (cJ L=false):=mU HT.out hlt (by unfold cS;rw [HS.out];simp only;rw [HP.out];simp [ha])
         rw [ha] at HA
         go_wp2_with fail
         refine bA HK (by kernel_rfl) (by kernel_rfl) (by first|exact HO.out|exact HK.out.drew HO.out) ?_;intro C HIN HOUT;clear HO
         repeat
          (with_reducible refine wpQuiet_step (fun K hK=> ?_)
           go_simp
           first
            |(refine hK _ ?_;clear hK K)
            |(apply Exists.intro;refine ⟨fun w1 hC=> ?_,hK _ ?_⟩;(focus ((first|(go_at_call 154;with_reducible exact aU HIN HOUT HK HM.out w1 hC)|(go_at_call 155;with_reducible exact aU HIN HOUT HK HA.out w1 hC)|(exact rfl)|(obtain ⟨hb1,⟨k0,k1,k2,k3,k4,k5,k6⟩,⟨p0,p1,p2,p3,p4,p5⟩,p6⟩:=HOUT.out w1 hC;clear hC;go_simp;first|done|exact rfl));done));clear hK K))
         refine wpQuiet_nil ?_;intro wn hC;have HO:=aA (HOUT.out _ hC);clear hC HIN HOUT C;obtain ⟨hb1,⟨k0,k1,k2,k3,k4,k5,k6⟩,⟨p0,p1,p2,p3,p4,p5⟩,p6⟩:=HO.out
         go_wp2
         go_ret;exact ⟨aC HF.out.symm,HO.out.1⟩
       · have HF:Hid (cS L (j+1)=true):=by unfold Hid cS;rw [HS.out];simp only;rw [HP.out];simp [ha,hm]
         rw [ha] at HA
         go_wp2_with fail
         refine bA HK (by kernel_rfl) (by kernel_rfl) (by first|exact HO.out|exact HK.out.drew HO.out) ?_;intro C HIN HOUT;clear HO
         repeat
          (with_reducible refine wpQuiet_step (fun K hK=> ?_)
           go_simp
           first
            |(refine hK _ ?_;clear hK K)
            |(apply Exists.intro;refine ⟨fun w1 hC=> ?_,hK _ ?_⟩;(focus ((first|(go_at_call 154;with_reducible exact aU HIN HOUT HK HM.out w1 hC)|(go_at_call 155;with_reducible exact aU HIN HOUT HK HA.out w1 hC)|(exact rfl)|(obtain ⟨hb1,⟨k0,k1,k2,k3,k4,k5,k6⟩,⟨p0,p1,p2,p3,p4,p5⟩,p6⟩:=HOUT.out w1 hC;clear hC;go_simp;first|done|exact rfl));done));clear hK K))
         refine wpQuiet_nil ?_;intro wn hC;have HO:=aA (HOUT.out _ hC);clear hC HIN HOUT C;obtain ⟨hb1,⟨k0,k1,k2,k3,k4,k5,k6⟩,⟨p0,p1,p2,p3,p4,p5⟩,p6⟩:=HO.out
         go_wp2
         refine ⟨⟨j+1+1,by omega,by go_num,HO.out.1,fun i hi=> ?_⟩,by simp [intOf];omega⟩
         rcases Nat.lt_or_ge i (j+1) with h|h
         · exact HOK.out i h
         · rw [show i=j+1 by omega];exact HF.out
  · have hke:k=L.length:=by omega
    subst hke;have HF:Hid (cJ L=true):=yM HT.out hok;have HB:=aA hb;clear hok hb
    go_wp2
    go_ret;exact ⟨aC HF.out.symm,HB.out⟩
end Go.Proofs.YtpfemjlhklnfoaaGreatDoor
