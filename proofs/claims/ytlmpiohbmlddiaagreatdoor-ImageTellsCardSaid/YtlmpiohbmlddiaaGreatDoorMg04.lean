/- Ref1, Next3, Parse1, Parse3, Tx2, Tx3, Tx4, Tx5, Pr1, Pr2, Kn1, Pk1: their declarations that are needed, laid in one text, remarks and blanks left out. -/
import Derived.Laws.IdiomStrings
import Derived.Shelf.Strconv.AtoiAll
import Derived.Shelf.Strings.Cut
import Derived.Shelf.Strings.Split
import Derived.Shelf.Strings.IndexAnyAll
import Derived.Test.YtlmpiohbmlddiaaGreatDoorShelfC
import Derived.Lib.SplitLaws
import Derived.Lib.Join
import Derived.Test.YtlmpiohbmlddiaaGreatDoorMg03
namespace Go.Proofs.YtlmpiohbmlddiaaGreatDoor
open Go.RowKit
set_option maxRecDepth 100000
theorem EY (d:Int) (h0:0≤d) (h1:d<10) (W:World) (N:Nat) (hN:W.cell? ⟨N,0,none⟩=some (.int .u8 (48+d))):
 (convert 116 9 (.slice (some ⟨N,0,none⟩) 1 1)).run Tryz.prog W= .ok (.string ⟨#[UInt8.ofNat (48+d.toNat)]⟩) W:=by
 have e:=gD (k:=d.toNat) (by omega)
 exact run_convert_bytes_back (P:=Tryz.prog) W 116 9 5 ⟨N,0,none⟩ 1 [UInt8.ofNat (48+d.toNat)] Tryz.underlying116 Tryz.underlying5 Tryz.underlying9 (fun j hj=>by
  have hj0:j=0:=by simp at hj;exact hj
  subst hj0;rw [show (⟨N,0,none⟩:Addr).add 0=⟨N,0,none⟩ from rfl,hN];simp only [List.getElem_cons_zero];rw [e]
  congr 2
  omega)
theorem GZ (d:Int) (h0:0≤d) (h1:d<10) (W:World):
 (convert 116 9 (.slice (some ⟨W.heap.size,0,none⟩) 1 1)).run Tryz.prog (W.alloc (.cells #[.int .u8 (48+d)] 5))= .ok (.string ⟨#[UInt8.ofNat (48+d.toNat)]⟩) (W.alloc (.cells #[.int .u8 (48+d)] 5)):=
 EY d h0 h1 _ _ (by rw [World.cell?_alloc_new];rfl)
theorem BB {n:Int} (h0:0≤n) (h1:n<10):Lib.itoa n=[UInt8.ofNat (48+n.toNat)]:=by
 rw [lZ h0,Lib.decDigits_one (by omega)]
theorem IA {n:Int} (h0:10≤n):Lib.itoa n=Lib.itoa (n / 10)++[UInt8.ofNat (48+(n % 10).toNat)]:=by
 rw [lZ (by omega),lZ (by omega),Lib.decDigits,dif_neg (by omega)];have e1:n.toNat / 10=(n / 10).toNat:=by omega
 have e2:n.toNat % 10=(n % 10).toNat:=by omega
 rw [e1,e2]
set_option maxHeartbeats 1600000 in
theorem uD (n:Int) (h0:0≤n) (h1:n<10) (w:World):
 Calls Tryz.prog 137 #[.int .i64 n] w fun e w'=>e= .returned (.string ⟨(Lib.itoa n).toArray⟩)∧Below w.heap.size w w':=by
 have hc:=GZ n h0 h1
 go_enter Tryz.func137,Tryz.ntmps137
 go_wp2
 go_returns;exact ⟨iY (by simp [BB h0 h1]),aF _ _⟩
set_option maxHeartbeats 1600000 in
theorem wN (n:Int) (h0:10≤n) (h1:n≤999) (w:World) (A:ByteArray) (hA:A.size≤100) (D:UInt8) (hD:UInt8.ofNat (48+(n % 10).toNat)=D)
 (HN:Hid (∀ w1,Calls Tryz.prog 137 #[.int .i64 (n / 10)] w1 fun e w'=>e= .returned (.string A)∧Below w1.heap.size w1 w')):
 Calls Tryz.prog 137 #[.int .i64 n] w fun e w'=>e= .returned (.string (A++⟨#[D]⟩))∧Below w.heap.size w w':=by
 have HA:Hid (∀ (W:World) (N:Nat),W.cell? ⟨N,0,none⟩=some (.int .u8 (48+n % 10))→(convert 116 9 (.slice (some ⟨N,0,none⟩) 1 1)).run Tryz.prog W= .ok (.string ⟨#[D]⟩) W):=by
  intro W N hN
  have:=EY (n % 10) (by omega) (by omega) W N hN
  rw [hD] at this;exact this
 have hc:∀ W:World,(convert 116 9 (.slice (some ⟨W.heap.size,0,none⟩) 1 1)).run Tryz.prog (W.alloc (.cells #[.int .u8 (48+n % 10)] 5))= .ok (.string ⟨#[D]⟩) (W.alloc (.cells #[.int .u8 (48+n % 10)] 5)):=fun W=>HA.out _ _ (by rw [World.cell?_alloc_new];rfl)
 have hc2:∀ W:World,(convert 116 9 (.slice (some ⟨W.heap.size,0,none⟩) 1 1)).run Tryz.prog (W.alloc (.cells #[.int .u8 (48+n % 10)] 5)).drew= .ok (.string ⟨#[D]⟩) (W.alloc (.cells #[.int .u8 (48+n % 10)] 5)).drew:=fun W=>HA.out _ _ (by rw [World.cell?_drew,World.cell?_alloc_new];rfl)
 have e1:=fun W:World=>run_string_add_sum (P:=Tryz.prog) (w:=W) A ⟨#[D]⟩ (by have:(⟨#[D]⟩:ByteArray).size=1:=rfl;omega)
 have hq:IntKind.i64.wrap (n.tdiv 10)=n / 10:=by rw [Int.tdiv_eq_ediv_of_nonneg (by omega),IntKind.wrap_i64];omega
 have hr:n.tmod 10=n % 10:=Int.tmod_eq_emod_of_nonneg (by omega);have hs:IntKind.i64.wrap (48+n % 10)=48+n % 10:=by rw [IntKind.wrap_i64];omega
 have hu:IntKind.u8.wrap (48+n % 10)=48+n % 10:=by rw [IntKind.wrap_u8];omega
 clear hD
 go_enter Tryz.func137,Tryz.ntmps137
 go_wp2_with fail
 go_region_with (go_at_call 137;refine (HN.out _).mono ?_;rintro e w1 ⟨rfl,hb⟩;have hcc:=hb.cell (p:=⟨w.heap.size,0,none⟩);have hcd:=HA.out w1 w.heap.size;have HB:Hid (Below w.heap.size w w1):=aB (by go_grown) hb;clear hb)
 all_goals go_wp2
 all_goals
  go_returns;have hb:=HB.out;have hbs:=hb.size;exact ⟨rfl,by go_grown⟩
theorem gN (n:Int) (h0:0≤n) (h1:n≤999) (w:World):
 Calls Tryz.prog 137 #[.int .i64 n] w fun e w'=>e= .returned (.string ⟨(Lib.itoa n).toArray⟩)∧Below w.heap.size w w':=by
 obtain ⟨k,hk⟩:∃ k:Nat,n.toNat=k:=⟨_,rfl⟩
 induction k using Nat.strongRecOn generalizing n w with
 |_ k ih=>
  by_cases h:n<10
  · exact uD n h0 h w
  · have:=wN n (by omega) h1 w ⟨(Lib.itoa (n / 10)).toArray⟩ (Nat.le_trans (cN (by omega) (by omega)) (by decide)) _ rfl (fun w1=>ih (n / 10).toNat (by omega) (n / 10) (by omega) (by omega) w1 rfl)
    refine this.mono ?_;rintro e w' ⟨rfl,hb⟩;refine ⟨iY ?_,hb⟩;have e:=IA (n:=n) (by omega);rw [e];simp [ByteArray.ext_iff,ByteArray.data_append]
def SpellsR (w:World) (n:Int) (S:ByteArray):Prop:=∀ w1,Below w.heap.size w w1→Calls Tryz.prog 137 #[.int .i64 n] w1 fun e w'=>e= .returned (.string S)∧Below w1.heap.size w1 w'
theorem SpellsR.next {w:World} {n:Int} {S:ByteArray} (h:SpellsR w n S) {N:Nat} {x y z:Value} (w1:World) (hb:Below w.heap.size w w1) (hl:N<w1.heap.size) (c0:w1.cell? ⟨N,0,none⟩=some x) (c1:w1.cell? ⟨N,1,none⟩=some y) (c2:w1.cell? ⟨N,2,none⟩=some z):
 Calls Tryz.prog 137 #[.int .i64 n] w1 fun e w'=>e= .returned (.string S)∧w'.cell? ⟨N,0,none⟩=some x∧w'.cell? ⟨N,1,none⟩=some y∧w'.cell? ⟨N,2,none⟩=some z∧N<w'.heap.size∧Below w.heap.size w w':=by
 refine (h w1 hb).mono ?_;rintro e w' ⟨rfl,hb1⟩;exact ⟨rfl,(hb1.cell (p:=⟨N,0,none⟩) hl).trans c0,(hb1.cell (p:=⟨N,1,none⟩) hl).trans c1,(hb1.cell (p:=⟨N,2,none⟩) hl).trans c2,Nat.lt_of_lt_of_le hl hb1.size,hb.trans (hb1.mono hb.size)⟩
set_option maxHeartbeats 1600000 in
theorem BC (a b c:Int) (w:World) (ha:aU a b c=true→SpellsR w a ⟨(Lib.itoa a).toArray⟩) (hb:aU a b c=true→SpellsR w b ⟨(Lib.itoa b).toArray⟩) (hc:aU a b c=true→SpellsR w c ⟨(Lib.itoa c).toArray⟩):
 Calls Tryz.prog 136 #[.agg #[.int .i64 a,.int .i64 b,.int .i64 c]] w fun e w'=>e= .returned (.string (aS a b c))∧Below w.heap.size w w':=by
 have HM:Hid (∀ w1,Calls Tryz.prog 133 #[.agg #[.int .i64 a,.int .i64 b,.int .i64 c]] w1 fun e w'=>e= .returned (.bool (aU a b c))∧Below w1.heap.size w1 w'):=fG a b c;cases hm:aU a b c
 · have HR:Hid (aS a b c=ByteArray.empty):=by unfold Hid aS;rw [hm];rfl
   rw [hm] at HM;clear ha hb hc
   go_enter Tryz.func136,Tryz.ntmps136
   go_wp2_with (go_at_call 133;refine (HM.out _).mono ?_;rintro e w' ⟨rfl,hb⟩)
   go_returns;exact ⟨iY HR.out.symm,aB (aF _ _) hb⟩
 · have HR:Hid (aS a b c=(((⟨(Lib.itoa a).toArray⟩++⟨#[46]⟩)++⟨(Lib.itoa b).toArray⟩)++⟨#[46]⟩)++⟨(Lib.itoa c).toArray⟩):=by unfold Hid aS;rw [hm];rfl
   have HA:Hid (SpellsR w a ⟨(Lib.itoa a).toArray⟩):=ha hm;have HB:Hid (SpellsR w b ⟨(Lib.itoa b).toArray⟩):=hb hm;have HC:Hid (SpellsR w c ⟨(Lib.itoa c).toArray⟩):=hc hm;obtain ⟨a0,a1,b0,b1,c0,c1⟩:=dI hm;have za:=cN a0 a1;have zb:=cN b0 b1;have zc:=cN c0 c1;rw [hm] at HM;clear ha hb hc a0 a1 b0 b1 c0 c1;generalize (⟨(Lib.itoa a).toArray⟩:ByteArray)=A at*;generalize (⟨(Lib.itoa b).toArray⟩:ByteArray)=B at*;generalize (⟨(Lib.itoa c).toArray⟩:ByteArray)=C at*;have zd:(⟨#[46]⟩:ByteArray).size=1:=rfl;have e1:=fun W:World=>run_string_add_sum (P:=Tryz.prog) (w:=W) A ⟨#[46]⟩ (by omega)
   have e2:=fun W:World=>run_string_add_sum (P:=Tryz.prog) (w:=W) (A++⟨#[46]⟩) B (by rw [bU];omega)
   have e3:=fun W:World=>run_string_add_sum (P:=Tryz.prog) (w:=W) ((A++⟨#[46]⟩)++B) ⟨#[46]⟩ (by rw [bU,bU];omega)
   have e4:=fun W:World=>run_string_add_sum (P:=Tryz.prog) (w:=W) (((A++⟨#[46]⟩)++B)++⟨#[46]⟩) C (by rw [bU,bU,bU];omega)
   clear za zb zc zd
   go_enter Tryz.func136,Tryz.ntmps136
   go_wp2_with (go_at_call 133;refine (HM.out _).mono ?_;rintro e w0 ⟨rfl,hb0⟩;obtain ⟨k0,k1,k2,k3,k4⟩:=LC hb0)
   have HB0:Hid (Below w.heap.size w w0):=k4;have HK0:Hid (w.heap.size<w0.heap.size∧w0.cell? ⟨w.heap.size,0,none⟩=some (.int .i64 a)∧w0.cell? ⟨w.heap.size,1,none⟩=some (.int .i64 b)∧w0.cell? ⟨w.heap.size,2,none⟩=some (.int .i64 c)):=⟨k3,k0,k1,k2⟩;have t1:True:=trivial;have t2:True:=trivial;have t3:True:=trivial;clear k4 hb0
   go_region_held3 (fun w'=>w'.cell? ⟨w.heap.size,0,none⟩=some (.int .i64 a)∧w'.cell? ⟨w.heap.size,1,none⟩=some (.int .i64 b)∧w'.cell? ⟨w.heap.size,2,none⟩=some (.int .i64 c)) (go_keep)
    (first
      |(go_at_call 137;clear t1;refine (HA.out.next (N:=w.heap.size) (x:= .int .i64 a) (y:= .int .i64 b) (z:= .int .i64 c) _ ?_ ?_ ?_ ?_ ?_).mono ?_;(first|exact HB0.out|exact HB0.out.drew);exact HK0.out.1;exact HK0.out.2.1;exact HK0.out.2.2.1;exact HK0.out.2.2.2;rintro e w1 ⟨rfl,q0,q1,q2,l1,b1⟩;have HB1:Hid (Below w.heap.size w w1):=b1;have HK1:Hid (w.heap.size<w1.heap.size∧w1.cell? ⟨w.heap.size,0,none⟩=some (.int .i64 a)∧w1.cell? ⟨w.heap.size,1,none⟩=some (.int .i64 b)∧w1.cell? ⟨w.heap.size,2,none⟩=some (.int .i64 c)):=⟨l1,q0,q1,q2⟩;clear b1)
      |(go_at_call 137;clear t2;refine (HB.out.next (N:=w.heap.size) (x:= .int .i64 a) (y:= .int .i64 b) (z:= .int .i64 c) _ ?_ ?_ ?_ ?_ ?_).mono ?_;(first|exact HB1.out|exact HB1.out.drew);exact HK1.out.1;exact HK1.out.2.1;exact HK1.out.2.2.1;exact HK1.out.2.2.2;rintro e w2 ⟨rfl,r0,r1,r2,l2,b2⟩;have HB2:Hid (Below w.heap.size w w2):=b2;have HK2:Hid (w.heap.size<w2.heap.size∧w2.cell? ⟨w.heap.size,0,none⟩=some (.int .i64 a)∧w2.cell? ⟨w.heap.size,1,none⟩=some (.int .i64 b)∧w2.cell? ⟨w.heap.size,2,none⟩=some (.int .i64 c)):=⟨l2,r0,r1,r2⟩;clear b2)
      |(go_at_call 137;clear t3;refine (HC.out.next (N:=w.heap.size) (x:= .int .i64 a) (y:= .int .i64 b) (z:= .int .i64 c) _ ?_ ?_ ?_ ?_ ?_).mono ?_;(first|exact HB2.out|exact HB2.out.drew);exact HK2.out.1;exact HK2.out.2.1;exact HK2.out.2.2.1;exact HK2.out.2.2.2;rintro e w3 ⟨rfl,u0,u1,u2,l3,b3⟩;have HB3:Hid (Below w.heap.size w w3):=b3;clear b3))
   all_goals go_wp2
   all_goals
    go_returns;refine ⟨iY (by rw [HR.out]),?_⟩;exact HB3.out
theorem eW (a b c:Int) (w:World):
 Calls Tryz.prog 136 #[.agg #[.int .i64 a,.int .i64 b,.int .i64 c]] w fun e w'=>e= .returned (.string (aS a b c))∧Below w.heap.size w w':=by
 refine BC a b c w (fun m=> ?_) (fun m=> ?_) (fun m=> ?_)<;>(obtain ⟨a0,a1,b0,b1,c0,c1⟩:=dI m)
 · exact fun w1 _=>gN a a0 a1 w1
 · exact fun w1 _=>gN b b0 b1 w1
 · exact fun w1 _=>gN c c0 c1 w1
theorem mA {W:World} (h:Lib.TabIs Tryz.prog W "internal/strconv.uint64pow10" .u64 Lib.pow10Tab) (a b c:Int) (w1:World) (hb:Below W.heap.size W w1):
 Calls Tryz.prog 125 #[.agg #[.int .i64 a,.int .i64 b,.int .i64 c]] w1 fun e w'=>e= .returned (.string (aS a b c))∧Below w1.heap.size w1 w':=by
 refine sR a b c w1 (fun m=> ?_) (fun m=> ?_) (fun m=> ?_)<;>(obtain ⟨a0,a1,b0,b1,c0,c1⟩:=dI m)
 · exact gL h w1 hb a a0 a1
 · exact gL h w1 hb b b0 b1
 · exact gL h w1 hb c c0 c1
structure Env (W:World):Prop where
 max:∃ m,W.cell? ⟨0,0,none⟩=some (.int .i64 m)
 tab:Lib.TabIs Tryz.prog W "internal/strconv.uint64pow10" .u64 Lib.pow10Tab
 syn:∃ tp p,W.cell? ⟨8,0,none⟩=some (.iface tp p)
 rng:∃ tp p,W.cell? ⟨9,0,none⟩=some (.iface tp p)
theorem cS {W:World} {a:Addr} {v:Value} (h:W.cell? a=some v):a.block<W.heap.size:=by
 rcases Nat.lt_or_ge a.block W.heap.size with h'|h'
 · exact h'
 · simp [World.cell?,Array.getElem?_eq_none h'] at h
theorem Env.below {W w:World} (h:Env W) (hb:Below W.heap.size W w):Env w:=by
 obtain ⟨m,hm⟩:=h.max;obtain ⟨tp,p,hs⟩:=h.syn;obtain ⟨tq,q,hq⟩:=h.rng;exact { max:=⟨m,(hb.cell (p:=⟨0,0,none⟩) (cS hm)).trans hm⟩,tab:=Lib.tabBelow_of_tabIs h.tab w hb,syn:=⟨tp,p,(hb.cell (p:=⟨8,0,none⟩) (cS hs)).trans hs⟩,rng:=⟨tq,q,(hb.cell (p:=⟨9,0,none⟩) (cS hq)).trans hq⟩ }
def SK (l:List UInt8):Int:=match Lib.atoiAll l with
 | .ok v=>v
 |_=> -1
def pA (l:List UInt8):Int:=SK (Lib.cut l [46]).1
def pB (l:List UInt8):Int:=SK (Lib.cut (Lib.cut l [46]).2.1 [46]).1
def pC (l:List UInt8):Int:=SK (Lib.cut (Lib.cut l [46]).2.1 [46]).2.1
def okP (s:ByteArray):Bool:=aU (pA s.data.toList) (pB s.data.toList) (pC s.data.toList)&&decide (aS (pA s.data.toList) (pB s.data.toList) (pC s.data.toList)=s)
def BD (s:ByteArray):Int:=if okP s then pA s.data.toList else 0
def BE (s:ByteArray):Int:=if okP s then pB s.data.toList else 0
def BF (s:ByteArray):Int:=if okP s then pC s.data.toList else 0
theorem kZ (l:List UInt8):(⟨l.toArray⟩:ByteArray).size=l.length:=by show l.toArray.size=_;simp
theorem aK (s:ByteArray):s.data.toList.length=s.size:=rfl
theorem bB {s t:ByteArray} (h:s.toList=t.toList):s=t:=by
 rw [ByteArray.toList_eq,ByteArray.toList_eq] at h;cases s;cases t;simp only [ByteArray.mk.injEq];exact Array.toList_inj.1 h
theorem LT {s:ByteArray} (h:okP s=true):aU (BD s) (BE s) (BF s)=true∧s=aS (BD s) (BE s) (BF s):=by
 unfold BD BE BF;rw [h];unfold okP at h;simp only [Bool.and_eq_true,decide_eq_true_eq] at h;exact ⟨h.1,h.2.symm⟩
theorem EZ {s:ByteArray} {l:List UInt8} (h:s.data.toList=l):s=⟨l.toArray⟩:=by
 cases s with
 |mk d=>simp only at h;subst h;simp
def plP (t:ByteArray):Int:=aL (BD t) (BE t) (BF t)
def SL (s:ByteArray):Nat:=(max (Lib.indexAny s.data.toList [48,49,50,51,52,53,54,55,56,57]) 0).toNat
def UF (s:ByteArray):Option Rg:=if s.data.toList=[42] then some AZ else if okP (s.extract (SL s) s.size)=true then UD (s.extract 0 (SL s)).data.toList (plP (s.extract (SL s) s.size)) else none
def uE (s sep:ByteArray):List ByteArray:=Lib.splitB sep 0 (Lib.countB s sep) s
def uF:Rg→Bool→List ByteArray→Option (Rg×Bool)
 |R,f,[]=>some (R,f)
 |R,f,p::ps=>if p.size=0 then uF R f ps else match UF p with
  |none=>none
  |some X=>uF (UA R X) true ps
def SM (ps:List ByteArray):Bool:=match uF AZ false ps with
 |some (_,f)=>f
 |none=>false
def SN (ps:List ByteArray):Rg:=match uF AZ false ps with
 |some (R,_)=>R
 |none=>[]
def UG:Rg→List ByteArray→Option Rg
 |R,[]=>some R
 |R,a::l=>if SM (uE a ⟨#[32]⟩)=true then UG (UB R (SN (uE a ⟨#[32]⟩))) l else none
def VC (s:ByteArray):Option Rg:=UG [] (uE s ⟨#[124,124]⟩)
def UH:Option Rg→Rg
 |none=>[]
 |some R=>VB R
def VD:Option Rg→Int
 |none=>21
 |some R=>UC R.length
def gO (a b c x y z:Int):ByteArray:=
 if a=x∧b=y∧c=z then aS a b c else if (a=0∧b=0∧c=0)∧(x=999∧y=999∧z=999) then ⟨#[42]⟩ else if a=0∧b=0∧c=0 then ⟨#[60,61]⟩++aS x y z else
 if x=999∧y=999∧z=999 then ⟨#[62,61]⟩++aS a b c else ((⟨#[62,61]⟩++aS a b c)++⟨#[32,60,61]⟩)++aS x y z
theorem cX (a b c:Int):(aS a b c).size≤11:=by
 unfold aS
 split
 · rename_i h
   obtain ⟨a0,a1,b0,b1,c0,c1⟩:=dI h;have za:=cN a0 a1;have zb:=cN b0 b1;have zc:=cN c0 c1;have zd:(⟨#[46]⟩:ByteArray).size=1:=rfl;rw [bU,bU,bU,bU];omega
 · decide
set_option maxHeartbeats 3200000 in
theorem sC (a b c x y z:Int) (w:World) (he:Env w) (hf:FL w):
 Calls Tryz.prog 242 #[.agg #[.int .i64 a,.int .i64 b,.int .i64 c,.int .i64 x,.int .i64 y,.int .i64 z]] w fun e w'=>e= .returned (.string (gO a b c x y z))∧Below w.heap.size w w':=by
 have hg:=iX;have HPL:Hid (∀ w1,Below w.heap.size w w1→Calls Tryz.prog 125 #[.agg #[.int .i64 a,.int .i64 b,.int .i64 c]] w1 fun e w'=>e= .returned (.string (aS a b c))∧Below w1.heap.size w1 w'):=fun w1 hb=>mA he.tab a b c w1 hb
 have HPH:Hid (∀ w1,Below w.heap.size w w1→Calls Tryz.prog 125 #[.agg #[.int .i64 x,.int .i64 y,.int .i64 z]] w1 fun e w'=>e= .returned (.string (aS x y z))∧Below w1.heap.size w1 w'):=fun w1 hb=>mA he.tab x y z w1 hb
 have HO:Hid (Below w.heap.size w (w.alloc (.cells #[.int .i64 a,.int .i64 b,.int .i64 c,.int .i64 x,.int .i64 y,.int .i64 z] 210))∧Bx6 (w.alloc (.cells #[.int .i64 a,.int .i64 b,.int .i64 c,.int .i64 x,.int .i64 y,.int .i64 z] 210)) w.heap.size a b c x y z):=⟨aF _ _,Bx6.new rfl _ _ _ _ _ _⟩;have HK:Hid (KeepP fun w1=>Below w.heap.size w w1∧Bx6 w1 w.heap.size a b c x y z):=(aD w).and (LQ _ _ _ _ _ _ _);obtain ⟨⟨g0,g1,g2⟩,⟨l0,l1,l2⟩,_,_⟩:=hf.below (aF w (.cells #[.int .i64 a,.int .i64 b,.int .i64 c,.int .i64 x,.int .i64 y,.int .i64 z] 210));have e1:=LF a b c x y z;have e2:=LF a b c 0 0 0;have e3:=LF x y z 999 999 999;clear hf he
 by_cases h1:a=x∧b=y∧c=z
 · have HT:Hid (gO a b c x y z=aS a b c):=by unfold Hid gO;rw [if_pos h1]
   rw [decide_eq_true h1] at e1;clear h1 e2 e3
   go_enter Tryz.func242,Tryz.ntmps242
   go_wp2_with (go_at_call 125;refine (HPL.out _ HO.out.1).mono ?_;rintro e w1 ⟨rfl,ok1⟩;have HO1:=aA ok1;clear ok1)
   go_ret;exact ⟨by rw [HT.out];rfl,aB HO.out.1 HO1.out⟩
 rw [decide_eq_false h1] at e1
 by_cases h2:a=0∧b=0∧c=0
 · rw [decide_eq_true h2] at e2
   by_cases h3:x=999∧y=999∧z=999
   · rw [decide_eq_true h3] at e3
     have HT:Hid (gO a b c x y z=⟨#[42]⟩):=by unfold Hid gO;rw [if_neg h1,if_pos ⟨h2,h3⟩]
     clear h1 h2 h3
     go_enter Tryz.func242,Tryz.ntmps242
     go_wp2_with fail
     go_ret;exact ⟨by rw [HT.out];rfl,HO.out.1⟩
   · rw [decide_eq_false h3] at e3
     have HT:Hid (gO a b c x y z=⟨#[60,61]⟩++aS x y z):=by unfold Hid gO;rw [if_neg h1,if_neg (fun h=>h3 h.2),if_pos h2]
     clear h1 h2 h3;have zT:=cX x y z;have z2:(⟨#[60,61]⟩:ByteArray).size=2:=rfl;generalize aS x y z=T at*;have s1:=fun W:World=>run_string_add_sum (P:=Tryz.prog) (w:=W) ⟨#[60,61]⟩ T (by omega)
     clear zT z2
     go_enter Tryz.func242,Tryz.ntmps242
     go_wp2_with (go_at_call 125;refine (HPH.out _ HO.out.1).mono ?_;rintro e w1 ⟨rfl,ok1⟩;have HO1:=aA ok1;clear ok1)
     go_ret;exact ⟨by rw [HT.out];rfl,aB HO.out.1 HO1.out⟩
 · rw [decide_eq_false h2] at e2
   by_cases h3:x=999∧y=999∧z=999
   · rw [decide_eq_true h3] at e3
     have HT:Hid (gO a b c x y z=⟨#[62,61]⟩++aS a b c):=by unfold Hid gO;rw [if_neg h1,if_neg (fun h=>h2 h.1),if_neg h2,if_pos h3]
     clear h1 h2 h3;have zT:=cX a b c;have z2:(⟨#[62,61]⟩:ByteArray).size=2:=rfl;generalize aS a b c=T at*;have s1:=fun W:World=>run_string_add_sum (P:=Tryz.prog) (w:=W) ⟨#[62,61]⟩ T (by omega)
     clear zT z2
     go_enter Tryz.func242,Tryz.ntmps242
     go_wp2_with (go_at_call 125;refine (HPL.out _ HO.out.1).mono ?_;rintro e w1 ⟨rfl,ok1⟩;have HO1:=aA ok1;clear ok1)
     go_ret;exact ⟨by rw [HT.out];rfl,aB HO.out.1 HO1.out⟩
   · rw [decide_eq_false h3] at e3
     have HT:Hid (gO a b c x y z=((⟨#[62,61]⟩++aS a b c)++⟨#[32,60,61]⟩)++aS x y z):=by unfold Hid gO;rw [if_neg h1,if_neg (fun h=>h2 h.1),if_neg h2,if_neg h3]
     have HQL:Hid (∀ w1,(Below w.heap.size w w1∧Bx6 w1 w.heap.size a b c x y z)→Calls Tryz.prog 125 #[.agg #[.int .i64 a,.int .i64 b,.int .i64 c]] w1 fun e w'=>e= .returned (.string (aS a b c))∧Below w1.heap.size w1 w'):=fun w1 h=>HPL.out w1 h.1
     have HQH:Hid (∀ w1,(Below w.heap.size w w1∧Bx6 w1 w.heap.size a b c x y z)→Calls Tryz.prog 125 #[.agg #[.int .i64 x,.int .i64 y,.int .i64 z]] w1 fun e w'=>e= .returned (.string (aS x y z))∧Below w1.heap.size w1 w'):=fun w1 h=>HPH.out w1 h.1
     clear h1 h2 h3;have zT:=cX a b c;have zU:=cX x y z;have z2:(⟨#[62,61]⟩:ByteArray).size=2:=rfl;have z3:(⟨#[32,60,61]⟩:ByteArray).size=3:=rfl;generalize aS a b c=T at*;generalize aS x y z=U at*;have s1:=fun W:World=>run_string_add_sum (P:=Tryz.prog) (w:=W) ⟨#[62,61]⟩ T (by omega)
     have s2:=fun W:World=>run_string_add_sum (P:=Tryz.prog) (w:=W) (⟨#[62,61]⟩++T) ⟨#[32,60,61]⟩ (by rw [bU];omega)
     have s3:=fun W:World=>run_string_add_sum (P:=Tryz.prog) (w:=W) ((⟨#[62,61]⟩++T)++⟨#[32,60,61]⟩) U (by rw [bU,bU];omega)
     clear zT zU z2 z3
     go_enter Tryz.func242,Tryz.ntmps242
     go_wp2_with fail
     refine aM HK (by kernel_rfl) (by kernel_rfl) (by first|exact HO.out|exact HK.out.drew HO.out) ?_;intro C HIN HOUT;clear HO
     repeat
      (with_reducible refine wpQuiet_step (fun K hK=> ?_)
       go_simp
       first
        |(refine hK _ ?_;clear hK K)
        |(apply Exists.intro;refine ⟨fun w1 hC=> ?_,hK _ ?_⟩;(focus ((first|(go_at_call 125;with_reducible exact aW HIN HOUT HK HQL.out w1 hC)|(go_at_call 125;with_reducible exact aW HIN HOUT HK HQH.out w1 hC)|(exact rfl)|(obtain ⟨hb1,k0,k1,k2,k3,k4,k5,k6⟩:=HOUT.out w1 hC;clear hC;go_simp;first|done|exact rfl));done));clear hK K))
     refine wpQuiet_nil ?_;intro wn hC;have HO:=aA (HOUT.out _ hC);clear hC HIN HOUT C;obtain ⟨hb1,k0,k1,k2,k3,k4,k5,k6⟩:=HO.out
     go_wp2
     go_ret;exact ⟨by rw [HT.out];rfl,HO.out.1⟩
theorem kB:(Tryz.prog.info? 9).map (fun i=>(i.zero,i.size,i.bytes))=some (some (.string ByteArray.empty),1,16):=by kernel_rfl
def OwnT (w:World) (B:Nat) (v:Value) (ts:List ByteArray):Prop:=w.ownsRow B 9 1 v ts.length (ts.map Value.string)
theorem OwnT.nil (w:World) (B:Nat):OwnT w B (.slice none 0 0) []:=⟨rfl,Or.inl ⟨rfl,rfl⟩⟩
theorem OwnT.lt {w:World} {B:Nat} {v:Value} {L:List ByteArray} (h:OwnT w B v L) {g:Nat} (hg:v.ownBlock=some g):g<w.heap.size∧B≤g:=by
 rcases h.2 with ⟨rfl,_⟩|⟨g',cap,cur,rfl,hB,hgg,_⟩
 · cases hg
 · cases hg
   exact ⟨by rw [Array.getElem?_eq_some_iff] at hgg;exact hgg.1,hB⟩
theorem OwnT.below {w w':World} {B:Nat} {v:Value} {L:List ByteArray} (h:OwnT w B v L) (hb:Below w.heap.size w w'):OwnT w' B v L:=by
 refine ⟨h.1,?_⟩;have hl:=fun g hg=>(h.lt (g:=g) hg).1
 rcases h.2 with hn|⟨g,cap,cur,rfl,hB,hgg,r⟩
 · exact Or.inl hn
 · exact Or.inr ⟨g,cap,cur,rfl,hB,(hb.block g (hl g rfl)).trans hgg,r⟩
theorem QC {w wx:World} {uo:Value} {ts:List ByteArray} {tx:ByteArray} {ops:Array Oper} {rest:List Oper} {o:Oper} {f:Act} {Q:Exit→Act→World→Prop} (hgd:o.guard=none) (s t:Operand)
 (ho:o.op= .call { callee:= .builtin .append,args:= #[s,t],argTypes:= #[50,50] }) (hs:f.eval s=uo)
 (hK:Below w.heap.size w wx∧OwnT wx w.heap.size uo ts) {M:Nat} (hM:wx.heap.size=M) (hx:f.eval t= .slice (some ⟨M,0,none⟩) 1 1) (hlen:ts.length+1≤1000000000000)
 (h:∀ v1 w1,(Below w.heap.size w w1∧OwnT w1 w.heap.size v1 (ts++[tx]))→wpList Tryz.prog ops Q rest (f.put o.dst v1) w1):
 wpList Tryz.prog ops Q (o::rest) f (wx.alloc (.cells #[.string tx] 9)):=by
 subst hM
 obtain ⟨i0,hi,hz0,hz1,hz2⟩:∃ i,Tryz.prog.info? 9=some i∧i.zero=some (.string ByteArray.empty)∧i.size=1∧i.bytes=16:=by
  have:=kB
  cases hq:Tryz.prog.info? 9 with
  |none=>rw [hq] at this;cases this
  |some i=>
   rw [hq] at this;simp only [Option.map_some,Option.some.injEq,Prod.mk.injEq] at this;exact ⟨i,rfl,this.1,this.2.1,this.2.2⟩
 have hob:OwnT (wx.alloc (.cells #[.string tx] 9)) w.heap.size uo ts:=hK.2.below (aF _ _);have hsz:(wx.alloc (.cells #[.string tx] 9)).heap.size=wx.heap.size+1:=by simp
 have hwx:=hK.1.size
 refine wpList_append_own_at _ hgd s t 50 ho w.heap.size 9 i0 _ 1 16 Tryz.underlying50 hi hz0 hz1 hz2 rfl (by decide) uo _ _ hs hob ⟨wx.heap.size,0,none⟩ 1 1 [.string tx] hx rfl
  (World.news_of_block (cs:= #[.string tx]) (t:=9) (fr:=(0,0)) (by show (wx.heap.push _)[wx.heap.size]? =_;rw [Array.getElem?_push,if_pos rfl])) (by simp [Value.oneCell']) (by unfold maxLen;omega) (by omega) (by omega) ?_
 intro v1 w1 hown1 hg1 _ hat;refine h v1 w1 ⟨(aB hK.1 (aF _ _)).grown hg1 (by omega) (fun k hk=>(hK.2.lt hk).2),?_⟩;unfold OwnT;rw [List.map_append,List.map_singleton,List.length_append];exact hown1
def spT (p:Int×Int):ByteArray:=gO (atA p.1) (atB p.1) (atC p.1) (atA p.2) (atB p.2) (atC p.2)
def gP (A:Rg):ByteArray:=match A with
 |[]=>⟨#[60]⟩++aS 0 0 0
 |p::A=>⟨(Lib.join ((p::A).map fun p=>(spT p).data.toList) [32,124,124,32]).toArray⟩
theorem pQ (a b c x y z:Int):(gO a b c x y z).size≤27:=by
 have h1:=cX a b c;have h2:=cX x y z;have z2:(⟨#[62,61]⟩:ByteArray).size=2:=rfl;have z4:(⟨#[60,61]⟩:ByteArray).size=2:=rfl;have z5:(⟨#[42]⟩:ByteArray).size=1:=rfl;have z3:(⟨#[32,60,61]⟩:ByteArray).size=3:=rfl;unfold gO
 repeat' split
 all_goals first|omega|(simp only [bU];omega)
theorem uG (m:Nat):∀ (l:List (List UInt8)),(∀ x ∈ l,x.length≤m)→Lib.lens l≤m*l.length
 |[],_=>by simp [Lib.lens]
 |x::l,h=>by
  have ih:=uG m l fun y hy=>h y (List.mem_cons_of_mem _ hy)
  have hx:=h x List.mem_cons_self
  have:Lib.lens (x::l)=x.length+Lib.lens l:=by simp [Lib.lens]
  rw [this,List.length_cons,Nat.mul_succ];omega
theorem sU {A:Rg} (h:A.length≤64):(Lib.join (A.map fun p=>(spT p).data.toList) [32,124,124,32]).length≤10000:=by
 cases A with
 |nil=>simp [Lib.join_nil]
 |cons p A=>
  rw [List.map_cons,Lib.join_length,←List.map_cons (f:=fun p=>(spT p).data.toList)]
  have:=uG 27 ((p::A).map fun p=>(spT p).data.toList) (by
   intro x hx;obtain ⟨q,_,rfl⟩:=List.mem_map.1 hx;exact pQ _ _ _ _ _ _)
  simp only [List.length_map,List.length_cons,List.length_nil] at*;omega
theorem LV {w:World} {B:Nat} {v:Value} {A:Rg} (h:OwnT w B v (A.map spT)) (hl:A.length≤64) (h0:A≠[]):
 Calls Tryz.prog 172 #[v,.string ⟨#[32,124,124,32]⟩] w fun e w'=>e= .returned (.string (gP A))∧Below w.heap.size w w':=by
 have hlt:=fun g hg=>(h.lt (g:=g) hg).1
 rcases h.2 with ⟨_,hn⟩|⟨g,cap,cur,rfl,hB,hgg,hc,hm,hs,hx⟩
 · rw [List.length_map] at hn
   exact (h0 (List.eq_nil_of_length_eq_zero hn)).elim
 · have hj:=sU hl
   have hmm:(A.map spT).map (·.data.toList)=A.map fun p=>(spT p).data.toList:=by rw [List.map_map];rfl
   refine (Tryz.strings_Join g 0 cap (A.map spT) ⟨#[32,124,124,32]⟩ w ?_ (hlt g rfl) (by rw [List.length_map];omega) hc (by rw [hmm];show (Lib.join _ [32,124,124,32]).length≤_;omega)).mono ?_
   · intro j x hj
     have:(((A.map spT).map Value.string))[j]? =some (.string x):=by rw [List.getElem?_map,hj];rfl
     rw [←hx,List.getElem?_take] at this
     split at this
     · rw [Nat.zero_add]
       simp [World.cell?,hgg]
       simpa using this
     · cases this
   · rintro e w' ⟨rfl,hb⟩
     refine ⟨?_,hb⟩;rw [hmm];cases A with
     |nil=>exact (h0 rfl).elim
     |cons p A=>rfl
set_option maxHeartbeats 3200000 in
theorem wO (A:Rg) (g o cap:Nat) (w:World) (he:Env w) (hf:FL w) (hlen:A.length≤64) (h0:((A.length:Int)==0)=false) (hg:g<w.heap.size) (hl:∀ i (h:i<A.length),SpAt w g (o+i*6) (spR A[i]))
 (HMay:Hid (Calls Tryz.prog 241 #[.slice (some ⟨g,o,none⟩) A.length cap] w fun e w'=>e= .returned (.bool true)∧Below w.heap.size w w')):
 Calls Tryz.prog 199 #[.slice (some ⟨g,o,none⟩) A.length cap] w fun e w'=>e= .returned (.string (gP A))∧Below w.heap.size w w':=by
 have HL:Hid (∀ w1,Below w.heap.size w w1→∀ i (h:i<A.length),SpAt w1 g (o+i*6) (spR A[i])):=fun w1 hb i hi=>(hl i hi).below hb hg
 have HP:Hid (∀ (p:Int×Int) w1,Below w.heap.size w w1→Calls Tryz.prog 242 #[.agg #[.int .i64 (atA p.1),.int .i64 (atB p.1),.int .i64 (atC p.1),.int .i64 (atA p.2),.int .i64 (atB p.2),.int .i64 (atC p.2)]] w1 fun e w'=>e= .returned (.string (spT p))∧Below w1.heap.size w1 w'):=fun p w1 hb=>sC _ _ _ _ _ _ w1 (he.below hb) (hf.below hb)
 have HJ:Hid (∀ w1 v1,OwnT w1 w.heap.size v1 (A.map spT)→Calls Tryz.prog 172 #[v1,.string ⟨#[32,124,124,32]⟩] w1 fun e w'=>e= .returned (.string (gP A))∧Below w1.heap.size w1 w'):=fun w1 v1 h=>LV h hlen (fun e=>by subst e;simp at h0)
 clear hl he hf
 go_enter Tryz.func199,Tryz.ntmps199
 go_wp2_with (go_at_call 241;refine HMay.out.mono ?_;rintro e w1 ⟨rfl,ok1⟩;have HO1:=aA ok1;clear ok1)
 go_loopw [3,17] (fun out i wr=>∃ k:Nat,k≤A.length∧i= .int .i64 k∧Below w.heap.size w wr∧OwnT wr w.heap.size out ((A.take k).map spT)) (fun _ i _=>A.length - (intOf i).toNat)
 case atStart=>exact ⟨0,Nat.zero_le _,rfl,HO1.out,OwnT.nil _ _⟩
 case round=>
  obtain ⟨k,hk,rfl,hb,hown⟩:=hrel;have HB:=aA hb;have HOWN:=aA hown;clear hown
  by_cases hlt:k<A.length
  · have hs:=HL.out wr hb k hlt
    have HD:Hid ((A.take k).map spT++[spT A[k]]=(A.take (k+1)).map spT):=by unfold Hid;rw [List.take_succ_eq_append_getElem hlt,List.map_append];rfl
    generalize A[k]=p at*;obtain ⟨lo,hi⟩:=p;obtain ⟨c0,c1,c2,c3,c4,c5⟩:=hs;simp only [spR] at c0 c1 c2 c3 c4 c5;have HPp:=aA (fun w1 hb=>HP.out (lo,hi) w1 hb);have HLN:Hid (((A.take k).map spT).length+1≤1000000000000):=by unfold Hid;simp;omega
    clear hb
    go_wp2_with (first
     |(go_at_call 242;refine (HPp.out _ (aB HB.out (aF _ _))).mono ?_;rintro e w2 ⟨rfl,ok2⟩;have HO2:Hid (Below w.heap.size w w2∧OwnT w2 w.heap.size u3 ((A.take k).map spT)):=⟨aB (aB HB.out (aF _ _)) ok2,(HOWN.out.below (aF _ _)).below ok2⟩;clear ok2)
     |(at_builtin;refine QC (uo:=u3) (ts:=(A.take k).map spT) rfl (.tmp 21) (.tmp 24) rfl rfl HO2.out rfl rfl HLN.out ?_;intro v3 w3 ok3;have HO3:=aA ok3;clear ok3))
    exact ⟨⟨k+1,by omega,by go_num,HO3.out.1,by rw [←HD.out];exact HO3.out.2⟩,by simp [intOf];omega⟩
  · have hke:k=A.length:=by omega
    subst hke;have HOW2:Hid (OwnT wr w.heap.size u3 (A.map spT)):=by have:=HOWN.out;rw [List.take_length] at this;exact this
    clear hb
    go_wp2_with (go_at_call 172;refine (HJ.out _ _ HOW2.out).mono ?_;rintro e w2 ⟨rfl,ok2⟩;have HO2:=aA ok2;clear ok2)
    go_ret;exact ⟨rfl,aB HB.out HO2.out⟩
theorem pR (ad:Option Addr) (cap:Nat) (w:World) (he:Env w) (hf:FL w):
 Calls Tryz.prog 199 #[.slice ad 0 cap] w fun e w'=>e= .returned (.string (gP []))∧Below w.heap.size w w':=by
 have HMay:=aA (wI ad cap w);have HP:Hid (∀ w1,Below w.heap.size w w1→Calls Tryz.prog 125 #[.agg #[.int .i64 0,.int .i64 0,.int .i64 0]] w1 fun e w'=>e= .returned (.string (aS 0 0 0))∧Below w1.heap.size w1 w'):=fun w1 hb=>mA he.tab 0 0 0 w1 hb
 have HF:=aA hf;have HR:Hid (gP []=⟨#[60]⟩++aS 0 0 0):=rfl;have zT:=cX 0 0 0;have z2:(⟨#[60]⟩:ByteArray).size=1:=rfl;generalize aS 0 0 0=T at*;have s1:=fun W:World=>run_string_add_sum (P:=Tryz.prog) (w:=W) ⟨#[60]⟩ T (by omega)
 clear zT z2 he hf
 go_enter Tryz.func199,Tryz.ntmps199
 go_wp2_with (first
  |(go_at_call 241;refine HMay.out.mono ?_;rintro e w1 ⟨rfl,ok1⟩;obtain ⟨⟨g0,g1,g2⟩,_⟩:=HF.out.below ok1;have HO1:=aA ok1;clear ok1)
  |(go_at_call 125;refine (HP.out _ HO1.out).mono ?_;rintro e w2 ⟨rfl,ok2⟩;have HO2:=aA ok2;clear ok2))
 go_ret;exact ⟨by rw [HR.out];rfl,aB HO1.out HO2.out⟩
theorem IB {A:Rg} (hA:RangeR A) (hl:A.length≤64) {v:Value} {w:World} (h:SpansR w v A) (he:Env w) (hf:FL w):
 Calls Tryz.prog 199 #[v] w fun e w'=>e= .returned (.string (gP A))∧Below w.heap.size w w':=by
 have HM:Hid (Calls Tryz.prog 241 #[v] w fun e w'=>e= .returned (.bool true)∧Below w.heap.size w w'):=by have:=wJ h.at;rw [SF hA hl] at this;exact this
 obtain ⟨ad,cap,rfl,hc,hs⟩:=h
 rcases hs with rfl|⟨g,o,rfl,hg,hs⟩
 · exact pR ad cap w he hf
 · cases A with
   |nil=>exact pR _ cap w he hf
   |cons p A=>exact wO (p::A) g o cap w he hf hl (by simp;omega) hg hs HM
theorem FA (op:BinOp) (x y:Operand) (xs ys:Array Value) (w:World):(eqGuard op 210 x y (.agg xs) (.agg ys)).run Tryz.prog w= .ok () w:=run_eqGuard_agg w op 210 x y xs ys (by kernel_rfl)
noncomputable def eqB {α:Type} (x y:α):Bool:= @decide (x=y) (Classical.propDecidable _)
theorem bC {α:Type} {x y:α} (h:x=y):eqB x y=true:=by unfold eqB;exact @decide_eq_true _ (Classical.propDecidable _) h
theorem bX {α:Type} {x y:α} (h:x≠y):eqB x y=false:=by unfold eqB;exact @decide_eq_false _ (Classical.propDecidable _) h
theorem fY {α:Type} {x y:α}:eqB x y=true↔x=y:=⟨fun h=>by unfold eqB at h;exact @of_decide_eq_true _ (Classical.propDecidable _) h,bC⟩
theorem LW (p q r p' q' r':Int) (w:World):(Op.equalIn 9999 52 (.agg #[.int .i64 p,.int .i64 q,.int .i64 r]) (.agg #[.int .i64 p',.int .i64 q',.int .i64 r'])).run Tryz.prog w= .ok (decide (p=p')&&decide (q=q')&&decide (r=r')) w:=by
 have u3:=Tryz.underlying3;have a3:=Tryz.isAgg3;have z3:=Tryz.sizeOf3;rw [show (9999:Nat)=9998+1 from rfl,run_equalIn_agg w 9998 52 _ _ (by kernel_rfl) (by kernel_rfl)];simp only [Program.fieldsOf,Tryz.underlying52]
 by_cases h1:p=p'
 · by_cases h2:q=q'
   · by_cases h3:r=r'
     · subst h1 h2 h3;go_simp
     · subst h1 h2;simp only [h3,decide_false,Bool.and_false];go_simp
   · subst h1;simp only [h2,decide_false,Bool.and_false,Bool.false_and];go_simp
 · simp only [h1,decide_false,Bool.false_and];go_simp
theorem SO (p q r p' q' r':Int) (w:World):(binOp .eql 52 (.agg #[.int .i64 p,.int .i64 q,.int .i64 r]) (.agg #[.int .i64 p',.int .i64 q',.int .i64 r'])).run Tryz.prog w= .ok (.bool (decide (p=p')&&decide (q=q')&&decide (r=r'))) w:=by
 have u3:=Tryz.underlying3;have a3:=Tryz.isAgg3;have z3:=Tryz.sizeOf3;rw [run_eql_struct,show (10000:Nat)=9999+1 from rfl,run_equalIn_agg w 9999 52 _ _ (by kernel_rfl) (by kernel_rfl)];simp only [Program.fieldsOf,Tryz.underlying52]
 by_cases h1:p=p'
 · by_cases h2:q=q'
   · by_cases h3:r=r'
     · subst h1 h2 h3;go_simp
     · subst h1 h2;simp only [h3,decide_false,Bool.and_false];go_simp
   · subst h1;simp only [h2,decide_false,Bool.and_false,Bool.false_and];go_simp
 · simp only [h1,decide_false,Bool.false_and];go_simp
def eqS (s t:Sp):Bool:=decide (s.a=t.a)&&decide (s.b=t.b)&&decide (s.c=t.c)&&(decide (s.x=t.x)&&decide (s.y=t.y)&&decide (s.z=t.z))
theorem kE {s t:Sp}:eqS s t=true↔s=t:=by
 obtain ⟨a,b,c,x,y,z⟩:=s;obtain ⟨a',b',c',x',y',z'⟩:=t;unfold eqS;simp only [Bool.and_eq_true,decide_eq_true_eq,Sp.mk.injEq];exact ⟨fun ⟨⟨⟨h1,h2⟩,h3⟩,⟨h4,h5⟩,h6⟩=>⟨h1,h2,h3,h4,h5,h6⟩,fun ⟨h1,h2,h3,h4,h5,h6⟩=>⟨⟨⟨h1,h2⟩,h3⟩,⟨h4,h5⟩,h6⟩⟩
theorem LX (a b c x y z a' b' c' x' y' z':Int) (w:World):(binOp .neq 210 (.agg #[.int .i64 a,.int .i64 b,.int .i64 c,.int .i64 x,.int .i64 y,.int .i64 z]) (.agg #[.int .i64 a',.int .i64 b',.int .i64 c',.int .i64 x',.int .i64 y',.int .i64 z'])).run Tryz.prog w= .ok (.bool (!(eqS ⟨a,b,c,x,y,z⟩ ⟨a',b',c',x',y',z'⟩))) w:=by
 have av:=Tryz.isAgg52;have zv:=Tryz.sizeOf52;have h1:=LW a b c a' b' c' w;have h2:=LW x y z x' y' z' w;rw [run_neq_struct,show (10000:Nat)=9999+1 from rfl,run_equalIn_agg w 9999 210 _ _ (by kernel_rfl) (by kernel_rfl)];simp only [Program.fieldsOf,Tryz.underlying210];cases hq:eqS ⟨a,b,c,x,y,z⟩ ⟨a',b',c',x',y',z'⟩
 · have hn:¬ (a=a'∧b=b'∧c=c'∧x=x'∧y=y'∧z=z'):=by
    rintro ⟨rfl,rfl,rfl,rfl,rfl,rfl⟩;rw [kE.2 rfl] at hq;cases hq
   go_simp;intro e1 e2 e3 e4 e5 e6;exact hn ⟨e1,e2,e3,e4,e5,e6⟩
 · obtain ⟨rfl,rfl,rfl,rfl,rfl,rfl⟩:=Sp.mk.injEq .. ▸ kE.1 hq
   go_simp
set_option maxHeartbeats 1600000 in
theorem BG (A B:List Sp) (hAB:A.length=B.length) (hsz:A.length≤9223372036854775807) (ga oa ca gb ob cb:Nat) (w:World) (hga:ga<w.heap.size) (hgb:gb<w.heap.size) (hla:∀ i (h:i<A.length),SpAt w ga (oa+i*6) A[i]) (hlb:∀ i (h:i<B.length),SpAt w gb (ob+i*6) B[i]):
 Calls Tryz.prog 243 #[.slice (some ⟨ga,oa,none⟩) A.length ca,.slice (some ⟨gb,ob,none⟩) B.length cb] w fun e w'=>e= .returned (.bool (eqB A B))∧Below w.heap.size w w':=by
 have HL:Hid (∀ w1,Below w.heap.size w w1→∀ i (h:i<A.length) (h2:i<B.length),fQ w1 ga (oa+i*6) A[i]∧fQ w1 gb (ob+i*6) B[i]):=fun w1 hb i hi hi2=>⟨⟨(hla i hi).below hb hga,Nat.lt_of_lt_of_le hga hb.size⟩,⟨(hlb i hi2).below hb hgb,Nat.lt_of_lt_of_le hgb hb.size⟩⟩
 have HAB:=aA hAB;clear hla hlb;rw [←hAB];clear hAB
 go_enter Tryz.func243,Tryz.ntmps243
 go_wp2_with fail
 go_loopw [13] (fun i wr=>∃ k:Nat,k≤A.length∧i= .int .i64 k∧Below w.heap.size w wr∧∀ j (h:j<k) (h1:j<A.length) (h2:j<B.length),A[j]=B[j]) (fun i _=>A.length - (intOf i).toNat)
 case atStart=>exact ⟨0,Nat.zero_le _,rfl,Below.refl _ _,fun j h=>by omega⟩
 case round=>
  obtain ⟨k,hk,rfl,hb,hall⟩:=hrel;have HALL:=aA hall;have HB:=aA hb;clear hall
  by_cases hlt:k<A.length
  · have hltB:k<B.length:=HAB.out ▸ hlt
    have HO:Hid (Below w.heap.size w wr∧fQ wr ga (oa+k*6) A[k]∧fQ wr gb (ob+k*6) B[k]):=⟨hb,HL.out wr hb k hlt hltB⟩;have HK:Hid (KeepP fun w1=>Below w.heap.size w w1∧fQ w1 ga (oa+k*6) A[k]∧fQ w1 gb (ob+k*6) B[k]):=(aD w).and ((iZ _ _ _).and (iZ _ _ _));have HNE:Hid (eqS A[k] B[k]=false→eqB A B=false):=fun h=>bX fun e=>by subst e;rw [(kE).2 rfl] at h;cases h
    have HST:Hid (eqS A[k] B[k]=true→∀ j (h:j<k+1) (h1:j<A.length) (h2:j<B.length),A[j]=B[j]):=fun h j hj h1 h2=>by
     rcases Nat.lt_or_ge j k with hjk|hjk
     · exact HALL.out j hjk h1 h2
     · obtain rfl:j=k:=by omega
       exact kE.1 h
    generalize A[k]=s at*;generalize B[k]=t at*;obtain ⟨a,b,c,x,y,z⟩:=s;obtain ⟨a',b',c',x',y',z'⟩:=t;have he:=LX a b c x y z a' b' c' x' y' z';have hgd:=FA;cases hq:eqS ⟨a,b,c,x,y,z⟩ ⟨a',b',c',x',y',z'⟩
    · have HR:=aA (HNE.out hq)
      rw [hq] at he;clear hb HNE HST HALL
      go_wp2_with fail
      refine aM HK (by kernel_rfl) (by kernel_rfl) (by first|exact HO.out|exact HK.out.drew HO.out) ?_;intro C HIN HOUT;clear HO
      repeat
       (with_reducible refine wpQuiet_step (fun K hK=> ?_)
        go_simp
        first
         |(refine hK _ ?_;clear hK K)
         |(apply Exists.intro;refine ⟨fun w1 hC=> ?_,hK _ ?_⟩;(focus ((first|(exact rfl)|(obtain ⟨hb1,⟨⟨p0,p1,p2,p3,p4,p5⟩,p6⟩,⟨⟨q0,q1,q2,q3,q4,q5⟩,q6⟩⟩:=HOUT.out w1 hC;clear hC;go_simp;first|done|exact rfl));done));clear hK K))
      refine wpQuiet_nil ?_;intro wn hC;have HO:=aA (HOUT.out _ hC);clear hC HIN HOUT C;obtain ⟨hb1,⟨⟨p0,p1,p2,p3,p4,p5⟩,p6⟩,⟨⟨q0,q1,q2,q3,q4,q5⟩,q6⟩⟩:=HO.out
      go_wp2
      go_ret;exact ⟨aC HR.out.symm,HO.out.1⟩
    · have HR:=aA (HST.out hq)
      rw [hq] at he;clear hb HNE HST HALL
      go_wp2_with fail
      refine aM HK (by kernel_rfl) (by kernel_rfl) (by first|exact HO.out|exact HK.out.drew HO.out) ?_;intro C HIN HOUT;clear HO
      repeat
       (with_reducible refine wpQuiet_step (fun K hK=> ?_)
        go_simp
        first
         |(refine hK _ ?_;clear hK K)
         |(apply Exists.intro;refine ⟨fun w1 hC=> ?_,hK _ ?_⟩;(focus ((first|(exact rfl)|(obtain ⟨hb1,⟨⟨p0,p1,p2,p3,p4,p5⟩,p6⟩,⟨⟨q0,q1,q2,q3,q4,q5⟩,q6⟩⟩:=HOUT.out w1 hC;clear hC;go_simp;first|done|exact rfl));done));clear hK K))
      refine wpQuiet_nil ?_;intro wn hC;have HO:=aA (HOUT.out _ hC);clear hC HIN HOUT C;obtain ⟨hb1,⟨⟨p0,p1,p2,p3,p4,p5⟩,p6⟩,⟨⟨q0,q1,q2,q3,q4,q5⟩,q6⟩⟩:=HO.out
      go_wp2
      exact ⟨⟨k+1,by omega,by go_num,HO.out.1,HR.out⟩,by simp [intOf];omega⟩
  · have hke:k=A.length:=by omega
    subst hke;have HR:Hid (eqB A B=true):=bC (List.ext_getElem HAB.out fun j h1 h2=>HALL.out j h1 h1 h2);clear hb
    go_wp2
    go_ret;exact ⟨aC HR.out.symm,HB.out⟩
theorem sV (ad bd:Option Addr) (ca cb:Nat) (w:World):
 Calls Tryz.prog 243 #[.slice ad 0 ca,.slice bd 0 cb] w fun e w'=>e= .returned (.bool true)∧Below w.heap.size w w':=by
 go_enter Tryz.func243,Tryz.ntmps243
 go_wp2_with fail
 go_loop [13] (fun i=>i= .int .i64 0) (fun _=>0)
 case atStart=>rfl
 case round=>
  subst hrel
  go_wp2
  go_ret;exact ⟨rfl,Below.refl _ _⟩
theorem IC (ad bd:Option Addr) (n m ca cb:Nat) (h:n≠m) (w:World):
 Calls Tryz.prog 243 #[.slice ad n ca,.slice bd m cb] w fun e w'=>e= .returned (.bool false)∧Below w.heap.size w w':=by
 have hn:((n:Int)=(m:Int))=False:=by simp;omega
 go_enter Tryz.func243,Tryz.ntmps243
 go_wp2
 go_ret;exact ⟨rfl,Below.refl _ _⟩
theorem ID {A B:List Sp} {va vb:Value} {w:World} (ha:SpansAt w va A) (hb:SpansAt w vb B) (hsz:A.length≤9223372036854775807):
 Calls Tryz.prog 243 #[va,vb] w fun e w'=>e= .returned (.bool (eqB A B))∧Below w.heap.size w w':=by
 obtain ⟨ad,ca,rfl,hl⟩:=ha;obtain ⟨bd,cb,rfl,hm⟩:=hb
 by_cases hn:A.length=B.length
 · rcases hl with rfl|⟨ga,oa,rfl,hga,hla⟩
   · obtain rfl:B=[]:=List.eq_nil_of_length_eq_zero (by simpa using hn.symm)
     rw [bC rfl];exact sV _ _ _ _ w
   · rcases hm with rfl|⟨gb,ob,rfl,hgb,hlb⟩
     · obtain rfl:A=[]:=List.eq_nil_of_length_eq_zero (by simpa using hn)
       rw [bC rfl];exact sV _ _ _ _ w
     · exact BG A B hn hsz ga oa ca gb ob cb w hga hgb hla hlb
 · rw [bX fun e=>hn (by rw [e])]
   exact IC _ _ _ _ _ _ hn w
end Go.Proofs.YtlmpiohbmlddiaaGreatDoor
