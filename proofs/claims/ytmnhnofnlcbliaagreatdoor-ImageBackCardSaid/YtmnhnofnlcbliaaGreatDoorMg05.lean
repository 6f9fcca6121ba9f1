/- Pure2, Fo3, Tx1, Row1, Tab1, Facts2, Next3, Parse1, Boxes2, Parse2: their declarations that are needed, laid in one text, remarks and blanks left out. -/
import Derived.Test.YtmnhnofnlcbliaaGreatDoorTie
import Derived.Test.YtmnhnofnlcbliaaGreatDoorCards
import Derived.ProofKit
import Derived.OpenShut
import Derived.ChangeOld
import Derived.LaidMore
import Derived.Lay
import Derived.SevenTiedAt
import Derived.Stop.Joined
import Derived.Shelf.Vars
import Derived.Deep.Slices
import Derived.Test.YtmnhnofnlcbliaaGreatDoorShelfB
import Derived.Lib.LaidTab
import Derived.Lib.AppendIntMem
import Derived.Stop.LaidErr
import Derived.Shelf.Strconv.AtoiAll
import Derived.Shelf.Strings.Cut
import Derived.Shelf.Strings.Split
import Derived.Shelf.Strings.IndexAnyAll
import Derived.Laws.IdiomStrings
import Derived.Test.YtmnhnofnlcbliaaGreatDoorMg04
namespace Go.Proofs.YtmnhnofnlcbliaaGreatDoor
open Go.RowKit
def rk (s:Sp):Int×Int:=(bE s.a s.b s.c,bE s.x s.y s.z)
theorem gR {a b c x y z:Int}:iD a b c x y z=true↔bB a b c=true∧bB x y z=true∧iP a b c x y z≤0:=by
 unfold iD;simp [and_assoc]
theorem OS {a b c x y z:Int} (h:bB a b c=true) (k:bB x y z=true):iP a b c x y z≤0↔bE a b c≤bE x y z:=by
 have h1:=mG k h;rw [OM] at h1;omega
theorem VR {s:Sp} (h:iD s.a s.b s.c s.x s.y s.z=true):spR (rk s)=s∧uM (rk s):=by
 obtain ⟨h1,h2,h3⟩:=gR.1 h;rw [OS h1 h2] at h3;obtain ⟨a,b,c,x,y,z⟩:=s;obtain ⟨e1,e2,e3⟩:=BI h1;obtain ⟨f1,f2,f3⟩:=BI h2;have l1:=iB h1;have l2:=iB h2;refine ⟨?_,?_,?_,?_⟩
 · simp only [spR,rk]
   simp only at e1 e2 e3 f1 f2 f3
   rw [e1,e2,e3,f1,f2,f3]
 · unfold okR rk;simp only at*;omega
 · unfold okR rk;simp only at*;omega
 · exact h3
theorem rG {p:Int×Int} (h:uM p):rk (spR p)=p∧iD (spR p).a (spR p).b (spR p).c (spR p).x (spR p).y (spR p).z=true:=by
 obtain ⟨h1,h2,h3⟩:=h;obtain ⟨m1,e1⟩:=gQ h1.has;obtain ⟨m2,e2⟩:=gQ h2.has;refine ⟨?_,?_⟩
 · unfold rk spR;simp only;rw [e1,e2]
 · rw [gR]
   refine ⟨m1,m2,?_⟩;unfold spR
   simp only
   rw [OS m1 m2,e1,e2];exact h3
theorem EF {x y z a b c:Int} (h:bB x y z=true) (k:bB a b c=true):jA x y z a b c=true↔bE x y z+2≤bE a b c:=by
 unfold jA;have l1:=iB h;have l2:=iB k;rw [Bool.and_eq_true,decide_eq_true_eq]
 constructor
 · rintro ⟨h1,h2⟩
   obtain ⟨_,m,e⟩:=VJ h1;rw [mG m k,e] at h2;omega
 · intro h1
   have h2:pI x y z 1=true:=by rw [ON h];simp;omega
   obtain ⟨_,m,e⟩:=VJ h2;refine ⟨h2,?_⟩;rw [mG m k,e];omega
theorem rH {s:Sp} {L:List Sp}:iK (s::L) 0=iD s.a s.b s.c s.x s.y s.z:=by simp [iK]
theorem uR {s t:Sp} {L:List Sp}:iK (s::t::L) 1=(iD t.a t.b t.c t.x t.y t.z&&jA s.x s.y s.z t.a t.b t.c):=by simp [iK]
theorem zC {s:Sp} {L:List Sp} {i:Nat}:iK (s::L) (i+1+1)=iK L (i+1):=by simp [iK]
theorem Aj {s:Sp} {L:List Sp} (h:∀ i,i<(s::L).length→iK (s::L) i=true):∀ i,i<L.length→iK L i=true:=by
 intro i hi;cases i with
 |succ i=>rw [←zC (s:=s)];exact h _ (by simpa using hi)
 |zero=>
  cases L with
  |nil=>simp at hi
  |cons t L=>
   have:=h 1 (by simp)
   rw [uR,Bool.and_eq_true] at this;rw [rH];exact this.1
theorem OT:∀ {L:List Sp},(∀ i,i<L.length→iK L i=true)→(L.map rk).map spR=L∧RangeR (L.map rk)
 |[],_=>⟨rfl,trivial⟩
 |s::L,h=>by
  obtain ⟨e,hr⟩:=OT (Aj h);have h0:=h 0 (by simp);rw [rH] at h0;obtain ⟨es,o1,o2,o3⟩:=VR h0;refine ⟨by rw [List.map_cons,List.map_cons,e,es],o1.1,o3,o2.2,?_⟩;cases L with
  |nil=>trivial
  |cons t L=>
   have h1:=h 1 (by simp);rw [uR,Bool.and_eq_true] at h1;have ha:=(EF (gR.1 h0).2.1 (gR.1 h1.1).1).1 h1.2;exact ⟨ha,hr.2⟩
theorem OU:∀ {A:Rg},RangeR A→∀ i,i<(A.map spR).length→iK (A.map spR) i=true
 |[],_,i,hi=>by simp at hi
 |p::A,h,i,hi=>by
  obtain ⟨g,e⟩:=p;obtain ⟨h1,h2,h3,h4⟩:=h;have ho:uM (g,e):=⟨⟨h1,by show g≤999999999;omega⟩,⟨by show 0≤e;omega,h3⟩,h2⟩;have ih:=OU (A:=A) (h4.weak (by omega));cases i with
  |zero=>rw [List.map_cons,rH];exact (rG ho).2
  |succ i=>
   cases i with
   |succ i=>rw [List.map_cons,zC];exact ih _ (by simpa using hi)
   |zero=>
    cases A with
    |nil=>simp at hi
    |cons q A=>
     obtain ⟨g',e'⟩:=q;obtain ⟨k1,k2,k3,_⟩:=h4;have hq:uM (g',e'):=⟨⟨by show 0≤g';omega,by show g'≤999999999;omega⟩,⟨by show 0≤e';omega,k3⟩,k2⟩;rw [List.map_cons,List.map_cons,uR,Bool.and_eq_true];refine ⟨(rG hq).2,?_⟩;rw [EF (gR.1 (rG ho).2).2.1 (gR.1 (rG hq).2).1];have r1:=congrArg Prod.snd (rG ho).1;have r2:=congrArg Prod.fst (rG hq).1;simp only [rk] at r1 r2;rw [r1,r2];exact k1
theorem tU {L:List Sp}:lE L=true↔∃ A:Rg,L=A.map spR∧RangeR A∧A.length≤64:=by
 unfold lE;rw [Bool.and_eq_true,decide_eq_true_eq,List.all_eq_true]
 constructor
 · rintro ⟨h1,h2⟩
   obtain ⟨e,hr⟩:=OT fun i hi=>h2 i (List.mem_range.2 hi)
   exact ⟨L.map rk,e.symm,hr,by simpa using h1⟩
 · rintro ⟨A,rfl,hr,hl⟩
   exact ⟨by simpa using hl,fun i hi=>OU hr i (List.mem_range.1 hi)⟩
theorem Eb {A:Rg} (h:RangeR A) (hl:A.length≤64):lE (A.map spR)=true:=tU.2 ⟨A,rfl,h,hl⟩
theorem SpansR.at {w:World} {v:Value} {A:Rg} (h:SpansR w v A):SpansAt w v (A.map spR):=by
 obtain ⟨ad,cap,hv,hc,hl⟩:=h;refine ⟨ad,cap,by rw [List.length_map];exact hv,?_⟩
 rcases hl with rfl|⟨g,o,ha,hg,hs⟩
 · exact Or.inl rfl
 · right
   refine ⟨g,o,ha,hg,fun i hi=> ?_⟩;rw [List.getElem_map];exact hs i (by simpa using hi)
def SpansC (w:World) (v:Value) (L:List Sp):Prop:=SpansAt w v L∧∃ ad n cap,v= .slice ad n cap∧n≤cap
theorem SpansC.rg {w:World} {v:Value} {A:Rg} (h:SpansC w v (A.map spR)):SpansR w v A:=by
 obtain ⟨⟨ad,cap,rfl,hl⟩,ad',n',cap',hv,hc⟩:=h;cases hv;rw [List.length_map] at hc ⊢;refine ⟨_,_,rfl,hc,?_⟩
 rcases hl with hl|⟨g,o,ha,hg,hs⟩
 · left;simpa using hl
 · right
   refine ⟨g,o,ha,hg,fun i hi=> ?_⟩
   have:=hs i (by simpa using hi)
   rw [List.getElem_map] at this;exact this
end Go.Proofs.YtmnhnofnlcbliaaGreatDoor
namespace Go.Proofs.YtmnhnofnlcbliaaGreatDoor
open Go.RowKit
set_option maxRecDepth 100000
def KK (A:Rg):Rg:=if A.length≤64 then A else []
theorem Ec {A:Rg} (h:A.length≤64):KK A=A:=by unfold KK;rw [if_pos h]
theorem EG {w:World} {B:Nat} {v:Value} {L:Rg} (h:OwnS w B v (L.map spR)):
 Calls Tryz.prog 280 #[v] w fun e w'=>∃ v',e= .returned (.tuple #[v',.int .i64 (nW L.length)])∧OwnS w' B v' ((KK L).map spR)∧Below w.heap.size w w':=by
 have ho:=h;obtain ⟨ad,cap,hv,hc,hl⟩:=h.spans;subst hv;refine (ED ad L.length cap w).mono ?_;rintro e w' ⟨rfl,hb⟩;refine ⟨_,rfl,?_,hb⟩;unfold zB KK
 by_cases hn:L.length≤64
 · rw [if_pos hn,if_pos hn];exact ho.below hb
 · rw [if_neg hn,if_neg hn];exact OwnS.nil _ _
def fZ (n:Int):Int:=n / 1000*1000+999
def mH (n:Int):Int:=n / 1000000*1000000+999999
def jY (n:Int):Int:=if atA n≠0 then mH n else if atB n≠0 then fZ n else n
theorem OV {n:Int} (h:okR n):atA n=n / 1000000∧atB n=n / 1000 % 1000∧atC n=n % 1000:=by
 unfold atA atB atC;rw [h.has];simp
theorem pL {n:Int} (h:okR n):okR (fZ n)∧n≤fZ n:=by unfold okR fZ at*;omega
theorem EH {n:Int} (h:okR n):okR (mH n)∧n≤mH n:=by unfold okR mH at*;omega
theorem EI {n:Int} (h:okR n):okR (jY n)∧n≤jY n:=by
 unfold jY
 split
 · exact EH h
 · split
   · exact pL h
   · exact ⟨h,Int.le_refl _⟩
theorem EJ {n:Int} (h:okR n):atA (fZ n)=atA n∧atB (fZ n)=atB n∧atC (fZ n)=999:=by
 obtain ⟨a,b,c⟩:=OV h;obtain ⟨a',b',c'⟩:=OV (pL h).1;unfold okR at h;rw [a,b,a',b',c'];unfold fZ;omega
theorem VS {n:Int} (h:okR n):atA (mH n)=atA n∧atB (mH n)=999∧atC (mH n)=999:=by
 obtain ⟨a,b,c⟩:=OV h;obtain ⟨a',b',c'⟩:=OV (EH h).1;unfold okR at h;rw [a,a',b',c'];unfold mH;omega
theorem lY (a b c:Int) (w:World):
 Calls Tryz.prog 316 #[.agg #[.int .i64 a,.int .i64 b,.int .i64 c]] w fun e w'=>e= .returned (.agg #[.int .i64 a,.int .i64 b,.int .i64 999])∧Below w.heap.size w w':=by
 go_enter Tryz.func316,Tryz.ntmps316
 go_wp2
 refine bodyPost_ret (by simp [results,Tryz.results316,go_sem];try rfl) rfl ?_;exact ⟨rfl,aS _ _ _⟩
theorem yA (a b c:Int) (w:World) (h:(a != 0)=true):
 Calls Tryz.prog 315 #[.agg #[.int .i64 a,.int .i64 b,.int .i64 c]] w fun e w'=>e= .returned (.agg #[.int .i64 a,.int .i64 999,.int .i64 999])∧Below w.heap.size w w':=by
 go_enter Tryz.func315,Tryz.ntmps315
 go_wp2
 try simp only [Exit.inBlock,Exit.then]
 refine bodyPost_ret (by simp [results,Tryz.results315,go_sem];try rfl) rfl ?_;exact ⟨rfl,aS _ _ _⟩
theorem yB (b c:Int) (w:World) (h:(b != 0)=true):
 Calls Tryz.prog 315 #[.agg #[.int .i64 0,.int .i64 b,.int .i64 c]] w fun e w'=>e= .returned (.agg #[.int .i64 0,.int .i64 b,.int .i64 999])∧Below w.heap.size w w':=by
 have HM:Hid (∀ w1,Calls Tryz.prog 316 #[.agg #[.int .i64 0,.int .i64 b,.int .i64 c]] w1 fun e w'=>e= .returned (.agg #[.int .i64 0,.int .i64 b,.int .i64 999])∧Below w1.heap.size w1 w'):=lY 0 b c
 go_enter Tryz.func315,Tryz.ntmps315
 go_wp2_with (go_at_call 316;refine (HM.out _).mono ?_;rintro e w1 ⟨rfl,hb⟩;obtain ⟨k0,k1,k2,k3,k4,k5,k6⟩:=DN (N:=w.heap.size+1) (by simp) hb)
 obtain ⟨s0,s1,s2⟩:=DV ‹World.cell? w1 ⟨w.heap.size+1,0,none⟩=_› ‹World.cell? w1 ⟨w.heap.size+1,1,none⟩=_› ‹World.cell? w1 ⟨w.heap.size+1,2,none⟩=_›
 try simp only [Exit.inBlock,Exit.then]
 refine bodyPost_ret (by simp [results,Tryz.results315,s0,s1,s2,go_sem];try rfl) rfl ?_;exact ⟨rfl,eH (by omega) (aA (aS _ _ _) hb)⟩
theorem tH (c:Int) (w:World):
 Calls Tryz.prog 315 #[.agg #[.int .i64 0,.int .i64 0,.int .i64 c]] w fun e w'=>e= .returned (.agg #[.int .i64 0,.int .i64 0,.int .i64 c])∧Below w.heap.size w w':=by
 go_enter Tryz.func315,Tryz.ntmps315
 go_wp2
 try simp only [Exit.inBlock,Exit.then]
 refine bodyPost_ret (by simp [results,Tryz.results315,go_sem];try rfl) rfl ?_;exact ⟨rfl,aS _ _ _⟩
theorem uS {n:Int} (hn:okR n) (w:World):
 Calls Tryz.prog 316 #[.agg #[.int .i64 (atA n),.int .i64 (atB n),.int .i64 (atC n)]] w fun e w'=>e= .returned (.agg #[.int .i64 (atA (fZ n)),.int .i64 (atB (fZ n)),.int .i64 (atC (fZ n))])∧Below w.heap.size w w':=by
 obtain ⟨a,b,c⟩:=EJ hn;rw [a,b,c];exact lY _ _ _ w
theorem BN {n:Int} (hn:okR n) (w:World):
 Calls Tryz.prog 315 #[.agg #[.int .i64 (atA n),.int .i64 (atB n),.int .i64 (atC n)]] w fun e w'=>e= .returned (.agg #[.int .i64 (atA (jY n)),.int .i64 (atB (jY n)),.int .i64 (atC (jY n))])∧Below w.heap.size w w':=by
 unfold jY
 by_cases h1:atA n=0
 · rw [if_neg (by simpa using h1)]
   by_cases h2:atB n=0
   · rw [if_neg (by simpa using h2),h1,h2]
     exact tH _ w
   · rw [if_pos h2]
     obtain ⟨a,b,c⟩:=EJ hn;rw [a,b,c,h1];exact yB _ _ w (by simpa using h2)
 · rw [if_pos h1]
   obtain ⟨a,b,c⟩:=VS hn;rw [a,b,c];exact yA _ _ _ w (by simpa using h1)
def gK (s:List UInt8) (n:Int):Option Rg:=
 if s=[]∨s=[61] then some [(n,n)] else if s=[60] then some (bR cF [(n,999999999)]) else if s=[60,61] then some [(0,n)] else if s=[62] then some (bR cF [(0,n)]) else
 if s=[62,61] then some [(n,999999999)] else if s=[94] then some [(n,jY n)] else if s=[126] then some [(n,fZ n)] else none
theorem jZ {g h:Int} (hg:okR g) (hh:okR h) (h1:g≤h):RangeR [(g,h)]:=⟨hg.1,h1,hh.2,trivial⟩
theorem okL:okR 999999999:=by unfold okR;omega
theorem okF:okR 0:=by unfold okR;omega
theorem Ak {s:List UInt8} {n:Int} (hn:okR n) {R:Rg} (h:gK s n=some R):RangeR R:=by
 unfold gK at h;have h1:=jZ hn okL hn.2;have h2:=jZ okF hn hn.1
 repeat' split at h
 all_goals first|(cases h;done)|(injection h with h;subst h)
 · exact jZ hn hn (Int.le_refl _)
 · exact cD.cut h1
 · exact h2
 · exact cD.cut h2
 · exact h1
 · exact jZ hn (EI hn).1 (EI hn).2
 · exact jZ hn (pL hn).1 (pL hn).2
theorem EK {n:Int} (w:World) (hf:FL w):
 Calls Tryz.prog 305 #[.string ⟨#[]⟩,.agg #[.int .i64 (atA n),.int .i64 (atB n),.int .i64 (atC n)]] w fun e w'=>∃ v,e= .returned (.tuple #[v,.bool true])∧SpansR w' v [(n,n)]∧Below w.heap.size w w':=by
 have HF:=aB (iR n n);obtain ⟨⟨g0,g1,g2⟩,⟨l0,l1,l2⟩,_,_⟩:=hf.below (aC w (.cells #[.int .i64 (atA n),.int .i64 (atB n),.int .i64 (atC n)] 52));clear hf
 go_enter Tryz.func305,Tryz.ntmps305
 go_wp2_with (first
  |(go_at_call 303;refine (HF.out _).mono ?_;rintro e w1 ⟨v1,rfl,ok1⟩;have HO:=aB ok1;clear ok1))
 go_ret2;exact ⟨v1,rfl,HO.out.1,aA (aC _ _) HO.out.2⟩
theorem RN {n:Int} (w:World) (hf:FL w):
 Calls Tryz.prog 305 #[.string ⟨#[61]⟩,.agg #[.int .i64 (atA n),.int .i64 (atB n),.int .i64 (atC n)]] w fun e w'=>∃ v,e= .returned (.tuple #[v,.bool true])∧SpansR w' v [(n,n)]∧Below w.heap.size w w':=by
 have HF:=aB (iR n n);obtain ⟨⟨g0,g1,g2⟩,⟨l0,l1,l2⟩,_,_⟩:=hf.below (aC w (.cells #[.int .i64 (atA n),.int .i64 (atB n),.int .i64 (atC n)] 52));clear hf
 go_enter Tryz.func305,Tryz.ntmps305
 go_wp2_with (first
  |(go_at_call 303;refine (HF.out _).mono ?_;rintro e w1 ⟨v1,rfl,ok1⟩;have HO:=aB ok1;clear ok1))
 go_ret2;exact ⟨v1,rfl,HO.out.1,aA (aC _ _) HO.out.2⟩
theorem RO {n:Int} (w:World) (hf:FL w):
 Calls Tryz.prog 305 #[.string ⟨#[60,61]⟩,.agg #[.int .i64 (atA n),.int .i64 (atB n),.int .i64 (atC n)]] w fun e w'=>∃ v,e= .returned (.tuple #[v,.bool true])∧SpansR w' v [(0,n)]∧Below w.heap.size w w':=by
 have HF:Hid (∀ w1,Calls Tryz.prog 303 #[.agg #[.int .i64 0,.int .i64 0,.int .i64 0],.agg #[.int .i64 (atA n),.int .i64 (atB n),.int .i64 (atC n)]] w1 fun e w'=>∃ v,e= .returned v∧SpansR w' v [(0,n)]∧Below w1.heap.size w1 w'):=iR 0 n;obtain ⟨⟨g0,g1,g2⟩,⟨l0,l1,l2⟩,_,_⟩:=hf.below (aC w (.cells #[.int .i64 (atA n),.int .i64 (atB n),.int .i64 (atC n)] 52));clear hf
 go_enter Tryz.func305,Tryz.ntmps305
 go_wp2_with (first
  |(go_at_call 303;refine (HF.out _).mono ?_;rintro e w1 ⟨v1,rfl,ok1⟩;have HO:=aB ok1;clear ok1))
 go_ret2;exact ⟨v1,rfl,HO.out.1,aA (aC _ _) HO.out.2⟩
theorem RP {n:Int} (w:World) (hf:FL w):
 Calls Tryz.prog 305 #[.string ⟨#[62,61]⟩,.agg #[.int .i64 (atA n),.int .i64 (atB n),.int .i64 (atC n)]] w fun e w'=>∃ v,e= .returned (.tuple #[v,.bool true])∧SpansR w' v [(n,999999999)]∧Below w.heap.size w w':=by
 have HF:Hid (∀ w1,Calls Tryz.prog 303 #[.agg #[.int .i64 (atA n),.int .i64 (atB n),.int .i64 (atC n)],.agg #[.int .i64 999,.int .i64 999,.int .i64 999]] w1 fun e w'=>∃ v,e= .returned v∧SpansR w' v [(n,999999999)]∧Below w1.heap.size w1 w'):=iR n 999999999;obtain ⟨⟨g0,g1,g2⟩,⟨l0,l1,l2⟩,_,_⟩:=hf.below (aC w (.cells #[.int .i64 (atA n),.int .i64 (atB n),.int .i64 (atC n)] 52));clear hf
 go_enter Tryz.func305,Tryz.ntmps305
 go_wp2_with (first
  |(go_at_call 303;refine (HF.out _).mono ?_;rintro e w1 ⟨v1,rfl,ok1⟩;have HO:=aB ok1;clear ok1))
 go_ret2;exact ⟨v1,rfl,HO.out.1,aA (aC _ _) HO.out.2⟩
set_option maxHeartbeats 1600000 in
theorem BO {n:Int} (hn:okR n) (w:World) (hf:FL w):
 Calls Tryz.prog 305 #[.string ⟨#[94]⟩,.agg #[.int .i64 (atA n),.int .i64 (atB n),.int .i64 (atC n)]] w fun e w'=>∃ v,e= .returned (.tuple #[v,.bool true])∧SpansR w' v [(n,jY n)]∧Below w.heap.size w w':=by
 have HF:=aB (iR n (jY n));have HL:=aB (BN hn);have HK:Hid (KeepP fun w1=>Below w.heap.size w w1∧BxAt w1 ⟨w.heap.size,.int .i64 (atA n),.int .i64 (atB n),.int .i64 (atC n)⟩∧FL w1):=(aG w).and ((rE _).and BM);have HO0:Hid (Below w.heap.size w (w.alloc (.cells #[.int .i64 (atA n),.int .i64 (atB n),.int .i64 (atC n)] 52))∧BxAt (w.alloc (.cells #[.int .i64 (atA n),.int .i64 (atB n),.int .i64 (atC n)] 52)) ⟨w.heap.size,.int .i64 (atA n),.int .i64 (atB n),.int .i64 (atC n)⟩∧FL (w.alloc (.cells #[.int .i64 (atA n),.int .i64 (atB n),.int .i64 (atC n)] 52))):=⟨aC _ _,((OKs.nil w).box rfl _ _ _).one,hf.below (aC _ _)⟩;clear hf
 go_enter Tryz.func305,Tryz.ntmps305
 go_wp2_with fail
 obtain ⟨_,⟨b0,b1,b2,b3⟩,⟨g0,g1,g2⟩,⟨l0,l1,l2⟩,_⟩:=HO0.out
 go_region_held3 (fun w'=>w'.cell? ⟨w.heap.size,0,none⟩=some (.int .i64 (atA n))∧w'.cell? ⟨w.heap.size,1,none⟩=some (.int .i64 (atB n))∧w'.cell? ⟨w.heap.size,2,none⟩=some (.int .i64 (atC n))) (go_keep)
  (first
    |(go_at_call 315;refine (HL.out _).mono ?_;rintro e w1 ⟨rfl,hb⟩;have HO1:=aB (HK.out _ _ (HK.out.drew HO0.out) hb);clear hb b0 b1 b2 b3 g0 g1 g2 l0 l1 l2;obtain ⟨_,⟨b0,b1,b2,b3⟩,⟨g0,g1,g2⟩,⟨l0,l1,l2⟩,_⟩:=HO1.out)
    |(go_at_call 303;refine (HF.out _).mono ?_;rintro e w2 ⟨v2,rfl,ok2⟩;have HO2:=aB ok2;have HO3:=aB (HK.out _ _ HO1.out ok2.2);clear ok2 b0 b1 b2 b3 g0 g1 g2 l0 l1 l2;obtain ⟨_,⟨b0,b1,b2,b3⟩,⟨g0,g1,g2⟩,⟨l0,l1,l2⟩,_⟩:=HO3.out))
 all_goals go_wp2
 all_goals go_ret2
 all_goals exact ⟨v2,rfl,HO2.out.1,HO3.out.1⟩
set_option maxHeartbeats 1600000 in
theorem BP {n:Int} (hn:okR n) (w:World) (hf:FL w):
 Calls Tryz.prog 305 #[.string ⟨#[126]⟩,.agg #[.int .i64 (atA n),.int .i64 (atB n),.int .i64 (atC n)]] w fun e w'=>∃ v,e= .returned (.tuple #[v,.bool true])∧SpansR w' v [(n,fZ n)]∧Below w.heap.size w w':=by
 have HF:=aB (iR n (fZ n));have HL:=aB (uS hn);have HK:Hid (KeepP fun w1=>Below w.heap.size w w1∧BxAt w1 ⟨w.heap.size,.int .i64 (atA n),.int .i64 (atB n),.int .i64 (atC n)⟩∧FL w1):=(aG w).and ((rE _).and BM);have HO0:Hid (Below w.heap.size w (w.alloc (.cells #[.int .i64 (atA n),.int .i64 (atB n),.int .i64 (atC n)] 52))∧BxAt (w.alloc (.cells #[.int .i64 (atA n),.int .i64 (atB n),.int .i64 (atC n)] 52)) ⟨w.heap.size,.int .i64 (atA n),.int .i64 (atB n),.int .i64 (atC n)⟩∧FL (w.alloc (.cells #[.int .i64 (atA n),.int .i64 (atB n),.int .i64 (atC n)] 52))):=⟨aC _ _,((OKs.nil w).box rfl _ _ _).one,hf.below (aC _ _)⟩;clear hf
 go_enter Tryz.func305,Tryz.ntmps305
 go_wp2_with fail
 obtain ⟨_,⟨b0,b1,b2,b3⟩,⟨g0,g1,g2⟩,⟨l0,l1,l2⟩,_⟩:=HO0.out
 go_region_held3 (fun w'=>w'.cell? ⟨w.heap.size,0,none⟩=some (.int .i64 (atA n))∧w'.cell? ⟨w.heap.size,1,none⟩=some (.int .i64 (atB n))∧w'.cell? ⟨w.heap.size,2,none⟩=some (.int .i64 (atC n))) (go_keep)
  (first
    |(go_at_call 316;refine (HL.out _).mono ?_;rintro e w1 ⟨rfl,hb⟩;have HO1:=aB (HK.out _ _ (HK.out.drew HO0.out) hb);clear hb b0 b1 b2 b3 g0 g1 g2 l0 l1 l2;obtain ⟨_,⟨b0,b1,b2,b3⟩,⟨g0,g1,g2⟩,⟨l0,l1,l2⟩,_⟩:=HO1.out)
    |(go_at_call 303;refine (HF.out _).mono ?_;rintro e w2 ⟨v2,rfl,ok2⟩;have HO2:=aB ok2;have HO3:=aB (HK.out _ _ HO1.out ok2.2);clear ok2 b0 b1 b2 b3 g0 g1 g2 l0 l1 l2;obtain ⟨_,⟨b0,b1,b2,b3⟩,⟨g0,g1,g2⟩,⟨l0,l1,l2⟩,_⟩:=HO3.out))
 all_goals go_wp2
 all_goals go_ret2
 all_goals exact ⟨v2,rfl,HO2.out.1,HO3.out.1⟩
set_option maxHeartbeats 1600000 in
theorem RR {n:Int} (hn:okR n) (w:World) (hf:FL w):
 Calls Tryz.prog 305 #[.string ⟨#[60]⟩,.agg #[.int .i64 (atA n),.int .i64 (atB n),.int .i64 (atC n)]] w fun e w'=>∃ v,e= .returned (.tuple #[v,.bool true])∧SpansR w' v (bR cF [(n,999999999)])∧Below w.heap.size w w':=by
 have HF:Hid (∀ w1,Calls Tryz.prog 303 #[.agg #[.int .i64 (atA n),.int .i64 (atB n),.int .i64 (atC n)],.agg #[.int .i64 999,.int .i64 999,.int .i64 999]] w1 fun e w'=>∃ v,e= .returned v∧SpansR w' v [(n,999999999)]∧Below w1.heap.size w1 w'):=iR n 999999999;have HAll:Hid (∀ w1,(Below w.heap.size w w1∧BxAt w1 ⟨w.heap.size,.int .i64 (atA n),.int .i64 (atB n),.int .i64 (atC n)⟩∧FL w1)→Calls Tryz.prog 294 #[] w1 fun e w'=>∃ v,e= .returned v∧SpansR w' v cF∧Below w1.heap.size w1 w'):=fun w1 h=>uQ h.2.2
 have HC:Hid (∀ w1 v1 v2,SpansR w1 v1 cF→SpansR w1 v2 [(n,999999999)]→Calls Tryz.prog 297 #[v1,v2] w1 fun e w'=>∃ v,e= .returned v∧OwnS w' w1.heap.size v ((bR cF [(n,999999999)]).map spR)∧Below w1.heap.size w1 w'):=fun w1 v1 v2 h1 h2=>oD cD (jZ hn okL hn.2) h1 h2
 have HK:Hid (KeepP fun w1=>Below w.heap.size w w1∧BxAt w1 ⟨w.heap.size,.int .i64 (atA n),.int .i64 (atB n),.int .i64 (atC n)⟩∧FL w1):=(aG w).and ((rE _).and BM);have HO0:Hid (Below w.heap.size w (w.alloc (.cells #[.int .i64 (atA n),.int .i64 (atB n),.int .i64 (atC n)] 52))∧BxAt (w.alloc (.cells #[.int .i64 (atA n),.int .i64 (atB n),.int .i64 (atC n)] 52)) ⟨w.heap.size,.int .i64 (atA n),.int .i64 (atB n),.int .i64 (atC n)⟩∧FL (w.alloc (.cells #[.int .i64 (atA n),.int .i64 (atB n),.int .i64 (atC n)] 52))):=⟨aC _ _,((OKs.nil w).box rfl _ _ _).one,hf.below (aC _ _)⟩;clear hf
 go_enter Tryz.func305,Tryz.ntmps305
 go_wp2_with fail
 obtain ⟨_,⟨b0,b1,b2,b3⟩,⟨g0,g1,g2⟩,⟨l0,l1,l2⟩,_⟩:=HO0.out
 go_region_held3 (fun w'=>(w'.cell? ⟨w.heap.size,0,none⟩=some (.int .i64 (atA n))∧w'.cell? ⟨w.heap.size,1,none⟩=some (.int .i64 (atB n))∧w'.cell? ⟨w.heap.size,2,none⟩=some (.int .i64 (atC n)))∧w'.cell? ⟨2,0,none⟩=some (.int .i64 999)∧w'.cell? ⟨2,1,none⟩=some (.int .i64 999)∧w'.cell? ⟨2,2,none⟩=some (.int .i64 999)) (go_keep)
  (first
    |(have _h:=HOF;go_at_call 294;refine (HAll.out _ HOF.out.1).mono ?_;rintro e w2 ⟨v1,rfl,ok2⟩;have HOB:Hid ((Below w.heap.size w w2∧BxAt w2 ⟨w.heap.size,.int .i64 (atA n),.int .i64 (atB n),.int .i64 (atC n)⟩∧FL w2)∧SpansR w2 v1 cF∧SpansR w2 v2 [(n,999999999)]):=⟨HK.out _ _ HOF.out.1 ok2.2,ok2.1,HOF.out.2.below ok2.2⟩;clear ok2 b0 b1 b2 b3 g0 g1 g2 l0 l1 l2;obtain ⟨⟨_,⟨b0,b1,b2,b3⟩,⟨g0,g1,g2⟩,⟨l0,l1,l2⟩,_⟩,_⟩:=HOB.out)
    |(have _h:=HOA;go_at_call 303;refine (HF.out _).mono ?_;rintro e w2 ⟨v2,rfl,ok2⟩;have HOB:Hid ((Below w.heap.size w w2∧BxAt w2 ⟨w.heap.size,.int .i64 (atA n),.int .i64 (atB n),.int .i64 (atC n)⟩∧FL w2)∧SpansR w2 v1 cF∧SpansR w2 v2 [(n,999999999)]):=⟨HK.out _ _ HOA.out.1 ok2.2,HOA.out.2.below ok2.2,ok2.1⟩;clear ok2 b0 b1 b2 b3 g0 g1 g2 l0 l1 l2;obtain ⟨⟨_,⟨b0,b1,b2,b3⟩,⟨g0,g1,g2⟩,⟨l0,l1,l2⟩,_⟩,_⟩:=HOB.out)
    |(go_at_call 294;refine (HAll.out _ (HK.out.drew HO0.out)).mono ?_;rintro e w1 ⟨v1,rfl,ok1⟩;have HOA:Hid ((Below w.heap.size w w1∧BxAt w1 ⟨w.heap.size,.int .i64 (atA n),.int .i64 (atB n),.int .i64 (atC n)⟩∧FL w1)∧SpansR w1 v1 cF):=⟨HK.out _ _ (HK.out.drew HO0.out) ok1.2,ok1.1⟩;clear ok1 b0 b1 b2 b3 g0 g1 g2 l0 l1 l2;obtain ⟨⟨_,⟨b0,b1,b2,b3⟩,⟨g0,g1,g2⟩,⟨l0,l1,l2⟩,_⟩,_⟩:=HOA.out)
    |(go_at_call 303;refine (HF.out _).mono ?_;rintro e w1 ⟨v2,rfl,ok1⟩;have HOF:Hid ((Below w.heap.size w w1∧BxAt w1 ⟨w.heap.size,.int .i64 (atA n),.int .i64 (atB n),.int .i64 (atC n)⟩∧FL w1)∧SpansR w1 v2 [(n,999999999)]):=⟨HK.out _ _ (HK.out.drew HO0.out) ok1.2,ok1.1⟩;clear ok1 b0 b1 b2 b3 g0 g1 g2 l0 l1 l2;obtain ⟨⟨_,⟨b0,b1,b2,b3⟩,⟨g0,g1,g2⟩,⟨l0,l1,l2⟩,_⟩,_⟩:=HOF.out)
    |(go_at_call 297;refine (HC.out _ _ _ HOB.out.2.1 HOB.out.2.2).mono ?_;rintro e w3 ⟨v3,rfl,ok3⟩;have HO3:=aB ok3;have HO4:=aB (HK.out _ _ HOB.out.1 ok3.2);clear ok3 b0 b1 b2 b3 g0 g1 g2 l0 l1 l2;obtain ⟨_,⟨b0,b1,b2,b3⟩,⟨g0,g1,g2⟩,⟨l0,l1,l2⟩,_⟩:=HO4.out))
 all_goals go_wp2
 all_goals go_ret2
 all_goals exact ⟨v3,rfl,HO3.out.1.spans,HO4.out.1⟩
set_option maxHeartbeats 1600000 in
theorem RT {n:Int} (hn:okR n) (w:World) (hf:FL w):
 Calls Tryz.prog 305 #[.string ⟨#[62]⟩,.agg #[.int .i64 (atA n),.int .i64 (atB n),.int .i64 (atC n)]] w fun e w'=>∃ v,e= .returned (.tuple #[v,.bool true])∧SpansR w' v (bR cF [(0,n)])∧Below w.heap.size w w':=by
 have HF:Hid (∀ w1,Calls Tryz.prog 303 #[.agg #[.int .i64 0,.int .i64 0,.int .i64 0],.agg #[.int .i64 (atA n),.int .i64 (atB n),.int .i64 (atC n)]] w1 fun e w'=>∃ v,e= .returned v∧SpansR w' v [(0,n)]∧Below w1.heap.size w1 w'):=iR 0 n;have HAll:Hid (∀ w1,(Below w.heap.size w w1∧BxAt w1 ⟨w.heap.size,.int .i64 (atA n),.int .i64 (atB n),.int .i64 (atC n)⟩∧FL w1)→Calls Tryz.prog 294 #[] w1 fun e w'=>∃ v,e= .returned v∧SpansR w' v cF∧Below w1.heap.size w1 w'):=fun w1 h=>uQ h.2.2
 have HC:Hid (∀ w1 v1 v2,SpansR w1 v1 cF→SpansR w1 v2 [(0,n)]→Calls Tryz.prog 297 #[v1,v2] w1 fun e w'=>∃ v,e= .returned v∧OwnS w' w1.heap.size v ((bR cF [(0,n)]).map spR)∧Below w1.heap.size w1 w'):=fun w1 v1 v2 h1 h2=>oD cD (jZ okF hn hn.1) h1 h2
 have HK:Hid (KeepP fun w1=>Below w.heap.size w w1∧BxAt w1 ⟨w.heap.size,.int .i64 (atA n),.int .i64 (atB n),.int .i64 (atC n)⟩∧FL w1):=(aG w).and ((rE _).and BM);have HO0:Hid (Below w.heap.size w (w.alloc (.cells #[.int .i64 (atA n),.int .i64 (atB n),.int .i64 (atC n)] 52))∧BxAt (w.alloc (.cells #[.int .i64 (atA n),.int .i64 (atB n),.int .i64 (atC n)] 52)) ⟨w.heap.size,.int .i64 (atA n),.int .i64 (atB n),.int .i64 (atC n)⟩∧FL (w.alloc (.cells #[.int .i64 (atA n),.int .i64 (atB n),.int .i64 (atC n)] 52))):=⟨aC _ _,((OKs.nil w).box rfl _ _ _).one,hf.below (aC _ _)⟩;clear hf
 go_enter Tryz.func305,Tryz.ntmps305
 go_wp2_with fail
 obtain ⟨_,⟨b0,b1,b2,b3⟩,⟨g0,g1,g2⟩,⟨l0,l1,l2⟩,_⟩:=HO0.out
 go_region_held3 (fun w'=>(w'.cell? ⟨w.heap.size,0,none⟩=some (.int .i64 (atA n))∧w'.cell? ⟨w.heap.size,1,none⟩=some (.int .i64 (atB n))∧w'.cell? ⟨w.heap.size,2,none⟩=some (.int .i64 (atC n)))∧w'.cell? ⟨1,0,none⟩=some (.int .i64 0)∧w'.cell? ⟨1,1,none⟩=some (.int .i64 0)∧w'.cell? ⟨1,2,none⟩=some (.int .i64 0)) (go_keep)
  (first
    |(have _h:=HOF;go_at_call 294;refine (HAll.out _ HOF.out.1).mono ?_;rintro e w2 ⟨v1,rfl,ok2⟩;have HOB:Hid ((Below w.heap.size w w2∧BxAt w2 ⟨w.heap.size,.int .i64 (atA n),.int .i64 (atB n),.int .i64 (atC n)⟩∧FL w2)∧SpansR w2 v1 cF∧SpansR w2 v2 [(0,n)]):=⟨HK.out _ _ HOF.out.1 ok2.2,ok2.1,HOF.out.2.below ok2.2⟩;clear ok2 b0 b1 b2 b3 g0 g1 g2 l0 l1 l2;obtain ⟨⟨_,⟨b0,b1,b2,b3⟩,⟨g0,g1,g2⟩,⟨l0,l1,l2⟩,_⟩,_⟩:=HOB.out)
    |(have _h:=HOA;go_at_call 303;refine (HF.out _).mono ?_;rintro e w2 ⟨v2,rfl,ok2⟩;have HOB:Hid ((Below w.heap.size w w2∧BxAt w2 ⟨w.heap.size,.int .i64 (atA n),.int .i64 (atB n),.int .i64 (atC n)⟩∧FL w2)∧SpansR w2 v1 cF∧SpansR w2 v2 [(0,n)]):=⟨HK.out _ _ HOA.out.1 ok2.2,HOA.out.2.below ok2.2,ok2.1⟩;clear ok2 b0 b1 b2 b3 g0 g1 g2 l0 l1 l2;obtain ⟨⟨_,⟨b0,b1,b2,b3⟩,⟨g0,g1,g2⟩,⟨l0,l1,l2⟩,_⟩,_⟩:=HOB.out)
    |(go_at_call 294;refine (HAll.out _ (HK.out.drew HO0.out)).mono ?_;rintro e w1 ⟨v1,rfl,ok1⟩;have HOA:Hid ((Below w.heap.size w w1∧BxAt w1 ⟨w.heap.size,.int .i64 (atA n),.int .i64 (atB n),.int .i64 (atC n)⟩∧FL w1)∧SpansR w1 v1 cF):=⟨HK.out _ _ (HK.out.drew HO0.out) ok1.2,ok1.1⟩;clear ok1 b0 b1 b2 b3 g0 g1 g2 l0 l1 l2;obtain ⟨⟨_,⟨b0,b1,b2,b3⟩,⟨g0,g1,g2⟩,⟨l0,l1,l2⟩,_⟩,_⟩:=HOA.out)
    |(go_at_call 303;refine (HF.out _).mono ?_;rintro e w1 ⟨v2,rfl,ok1⟩;have HOF:Hid ((Below w.heap.size w w1∧BxAt w1 ⟨w.heap.size,.int .i64 (atA n),.int .i64 (atB n),.int .i64 (atC n)⟩∧FL w1)∧SpansR w1 v2 [(0,n)]):=⟨HK.out _ _ (HK.out.drew HO0.out) ok1.2,ok1.1⟩;clear ok1 b0 b1 b2 b3 g0 g1 g2 l0 l1 l2;obtain ⟨⟨_,⟨b0,b1,b2,b3⟩,⟨g0,g1,g2⟩,⟨l0,l1,l2⟩,_⟩,_⟩:=HOF.out)
    |(go_at_call 297;refine (HC.out _ _ _ HOB.out.2.1 HOB.out.2.2).mono ?_;rintro e w3 ⟨v3,rfl,ok3⟩;have HO3:=aB ok3;have HO4:=aB (HK.out _ _ HOB.out.1 ok3.2);clear ok3 b0 b1 b2 b3 g0 g1 g2 l0 l1 l2;obtain ⟨_,⟨b0,b1,b2,b3⟩,⟨g0,g1,g2⟩,⟨l0,l1,l2⟩,_⟩:=HO4.out))
 all_goals go_wp2
 all_goals go_ret2
 all_goals exact ⟨v3,rfl,HO3.out.1.spans,HO4.out.1⟩
end Go.Proofs.YtmnhnofnlcbliaaGreatDoor
namespace Go.Proofs.YtmnhnofnlcbliaaGreatDoor
open Go.ChangeShapes Go.WideShapes Go.ChangeAt Go.RowKit
set_option maxRecDepth 100000
theorem own:ownKnob Tryz.prog.godebug=none:=by kernel_rfl
theorem Al:laidOutB Tryz.prog=true:=by kernel_rfl
theorem EL:Tryz.prog.cellsOf 3=1:=by kernel_rfl
theorem pM:Tryz.prog.cellsOf 52=3:=by kernel_rfl
theorem EM {cs:List Value} {o:Nat} {v:Value} (h:(cs.drop o).take 1=[v]):cs[o]? =some v:=by
 have h0:((cs.drop o).take 1)[0]? =some v:=by rw [h];rfl
 simpa using h0
theorem bG {fs:Array Field} {i ty off:Nat} (h:(fs[i]?).map (fun f=>(f.type,f.offset))=some (ty,off)):∃ f,fs[i]? =some f∧f.type=ty∧f.offset=off:=by
 cases hf:fs[i]? with
 |none=>rw [hf] at h;cases h
 |some f=>
  rw [hf] at h;simp only [Option.map_some,Option.some.injEq,Prod.mk.injEq] at h;exact ⟨f,rfl,h.1,h.2⟩
theorem Fp {α:Type} {l:List α} (h:l.length=3):∃ a b c,l=[a,b,c]:=by
 match l,h with
 |[a,b,c],_=>exact ⟨a,b,c,rfl⟩
theorem RU {H:Type} {enc:TypeId×Value→H} {a:Assume} {C:Checked} {os:Os} {f:FuncId} {fn:Func} {s:ChangeSpec} {conds:List PathCond} {apart fresh handsOn again:Bool} {l:List (String×DataW Unit)}
 (own:ownKnob C.prog.godebug=none) (started:os.Started) (noInit:C.prog.inits.idxOf? f=none) (hfn:C.prog.funcs[f]? =some fn)
 (witness:∃ (w:World) (tape:Tape) (i:Input),w.os=os∧(w.forCall tape i).Shaped C.prog∧i.vars=[]∧Input.okWide C.prog (w.forCall tape i) .any w.heap.size f i∧
   ((s.pre enc C.prog fn conds apart (w.forCall tape i).memory i.args∧laidMetH C.prog l (w.forCall tape i).memory)∧sizedMet enc C.prog fn (OpenSpec.ofChange s) apart (w.forCall tape i).memory i.args)∧a.holds C.prog (lone (Frame.enter C.prog f i.args .normal) [] (w.forCall tape i)))
 (contract:∀ (W:World) (base:Nat) (args:Array Value) (ds gs:List (DataW H)) (before:List MemPlace),
   (∀ (j:Nat) t v,fn.params[j]? =some t→args[j]? =some v→Value.okWide C.prog W .any base t v)→
   DataW.Whole enc C.prog fn.params.toList s.vars apart W args.toList ds gs before→
   (DataW.weightsEach C.prog (fn.params.toList++s.plain.varTypes C.prog) (ds++gs)).all (· ≤reachBytes)=true→W.ShapedOpen C.prog→laidMetH C.prog l W→
   Calls C.prog f args W fun e W'=>∃ v,e= .returned v∧s.post enc C.prog fn apart fresh handsOn again W args v W'):
 ReturnsInHanded a C os f .any (fun w args=>(s.pre enc C.prog fn conds apart w args∧laidMetH C.prog l w)∧sizedMet enc C.prog fn (OpenSpec.ofChange s) apart w args) (s.post enc C.prog fn apart fresh handsOn again):=by
 refine returnsInHanded_of_calls own started noInit witness ?_;intro w tape i _ hsh _ hok hpre _;obtain ⟨_,_,_,fn',hfn',_,_,_,_,hval⟩:=hok;have e:fn'=fn:=Option.some.inj (hfn'.symm.trans hfn);subst e;obtain ⟨⟨⟨ds,gs,before,hw,_⟩,hX⟩,hz⟩:=hpre;have hw':=DataW.Whole.of_heap (w':=w.forCall tape i) (by rfl) hw;have hX':=laidMetH.of_heap (w':=w.forCall tape i) (by rfl) hX;refine (contract (w.forCall tape i) w.heap.size i.args ds gs before hval hw' (hz.weights hw) hsh hX').mono fun e W' ⟨v,he,hp⟩=> ?_
 subst he;exact ChangeSpec.post_blind hp
theorem Ed {W:World} {r:List (String×DataW Unit)} (h:laidMet Tryz.prog (("math/bits.deBruijn32tab",Rows.laid_math_bits_deBruijn32tab)::("math/bits.deBruijn64tab",Rows.laid_math_bits_deBruijn64tab)::("internal/strconv.uint64pow10",Rows.laid_internal_strconv_uint64pow10)::r) W):
 Lib.TabIs Tryz.prog W "internal/strconv.uint64pow10" .u64 Lib.pow10Tab:=by
 have h2:laidMet Tryz.prog (("internal/strconv.uint64pow10",Lib.tabData .u64 Lib.pow10Tab)::r) W:=(laidMet.tail (laidMet.tail h));exact Lib.tabIs_of_head (g:=3) (t:=311) (e:=244) (n:=20) (by kernel_rfl) (by kernel_rfl) (by kernel_rfl) Tryz.underlying244 (by kernel_rfl) (by kernel_rfl) h2
theorem jB {W:World} (h:Lib.TabIs Tryz.prog W "internal/strconv.uint64pow10" .u64 Lib.pow10Tab) (w:World) (hw:Below W.heap.size W w) (n:Int) (h0:0≤n) (h1:n≤999):Spells w n ⟨(Lib.itoa n).toArray⟩:=by
 intro w1 hb;have ht:=Lib.tabBelow_of_tabIs h w1 (aA hw hb);refine (Tryz.strconv_Itoa n (by omega) (by omega) w1 ht).mono ?_;rintro e w' ⟨rfl,k,os,rfl⟩;exact ⟨rfl,Lib.below_grow _ _ (Nat.le_refl _) k os⟩
end Go.Proofs.YtmnhnofnlcbliaaGreatDoor
namespace Go.Proofs.YtmnhnofnlcbliaaGreatDoor
set_option maxRecDepth 100000
def zD (l:List UInt8):Nat:=l.foldl (fun n d=>n*10+(d.toNat - 48)) 0
theorem uT (l:List UInt8) (d:UInt8):zD (l++[d])=zD l*10+(d.toNat - 48):=by simp [zD]
theorem dF {k:Nat} (h:k<10):(UInt8.ofNat (48+k)).toNat=48+k:=by
 rw [UInt8.toNat_ofNat'];omega
theorem pN (u:Nat):zD (Lib.decDigits u)=u:=by
 induction u using Nat.strongRecOn with
 |_ u ih=>
  rw [Lib.decDigits]
  split
  · rename_i h
    have:=dF h
    simp [zD];omega
  · rename_i h
    rw [uT,ih (u / 10) (by omega)]
    have:=dF (k:=u % 10) (by omega)
    omega
theorem dH (u:Nat):∀ d ∈ Lib.decDigits u,48≤d.toNat∧d.toNat≤57:=by
 induction u using Nat.strongRecOn with
 |_ u ih=>
  rw [Lib.decDigits]
  split
  · rename_i h
    intro d hd
    have:=dF h
    rw [List.mem_singleton] at hd;subst hd;omega
  · rename_i h
    intro d hd
    rcases List.mem_append.1 hd with h1|h1
    · exact ih (u / 10) (by omega) d h1
    · have:=dF (k:=u % 10) (by omega)
      rw [List.mem_singleton] at h1;subst h1;omega
theorem oE (u:Nat):Lib.decDigits u≠[]:=by
 rw [Lib.decDigits];split<;>simp
theorem gC {n:Int} (h:0≤n):Lib.itoa n=Lib.decDigits n.toNat:=by
 obtain ⟨u,rfl⟩:∃ u:Nat,n=u:=⟨n.toNat,by omega⟩;rw [Lib.itoa_nonneg];rfl
theorem VT {n:Int} (h:0≤n):(46:UInt8) ∉ Lib.itoa n:=by
 rw [gC h];intro hd
 have:=(dH _ _ hd).1
 revert this;decide
theorem iW {a b c:Int} (h:bB a b c=true):(aL a b c).data.toList=Lib.itoa a++46::(Lib.itoa b++46::Lib.itoa c):=by
 unfold aL;rw [if_pos h];simp [ByteArray.data_append]
end Go.Proofs.YtmnhnofnlcbliaaGreatDoor
namespace Go.Proofs.YtmnhnofnlcbliaaGreatDoor
open Go.RowKit
set_option maxRecDepth 100000
theorem mI {W:World} (h:Lib.TabIs Tryz.prog W "internal/strconv.uint64pow10" .u64 Lib.pow10Tab) (a b c:Int) (w1:World) (hb:Below W.heap.size W w1):
 Calls Tryz.prog 125 #[.agg #[.int .i64 a,.int .i64 b,.int .i64 c]] w1 fun e w'=>e= .returned (.string (aL a b c))∧Below w1.heap.size w1 w':=by
 refine yW a b c w1 (fun m=> ?_) (fun m=> ?_) (fun m=> ?_)<;>(obtain ⟨a0,a1,b0,b1,c0,c1⟩:=dR m)
 · exact jB h w1 hb a a0 a1
 · exact jB h w1 hb b b0 b1
 · exact jB h w1 hb c c0 c1
structure Env (W:World):Prop where
 max:∃ m,W.cell? ⟨0,0,none⟩=some (.int .i64 m)
 tab:Lib.TabIs Tryz.prog W "internal/strconv.uint64pow10" .u64 Lib.pow10Tab
 syn:∃ tp p,W.cell? ⟨8,0,none⟩=some (.iface tp p)
 rng:∃ tp p,W.cell? ⟨9,0,none⟩=some (.iface tp p)
theorem bY {W:World} {a:Addr} {v:Value} (h:W.cell? a=some v):a.block<W.heap.size:=by
 rcases Nat.lt_or_ge a.block W.heap.size with h'|h'
 · exact h'
 · simp [World.cell?,Array.getElem?_eq_none h'] at h
theorem Env.below {W w:World} (h:Env W) (hb:Below W.heap.size W w):Env w:=by
 obtain ⟨m,hm⟩:=h.max;obtain ⟨tp,p,hs⟩:=h.syn;obtain ⟨tq,q,hq⟩:=h.rng;exact { max:=⟨m,(hb.cell (p:=⟨0,0,none⟩) (bY hm)).trans hm⟩,tab:=Lib.tabBelow_of_tabIs h.tab w hb,syn:=⟨tp,p,(hb.cell (p:=⟨8,0,none⟩) (bY hs)).trans hs⟩,rng:=⟨tq,q,(hb.cell (p:=⟨9,0,none⟩) (bY hq)).trans hq⟩ }
def tI (l:List UInt8):Int:=match Lib.atoiAll l with
 | .ok v=>v
 |_=> -1
theorem fO {w w':World} {t:TypeId} (h:w'=w∨∃ b,w'=Lib.bytesWorld w t b):Below w.heap.size w w':=by
 rcases h with rfl|⟨b,rfl⟩
 · exact Below.refl _ _
 · exact Lib.bytesWorld_below _ _ _
set_option maxHeartbeats 800000 in
theorem oF (s:ByteArray) (hs:s.size≤281474976710656) (w:World) (he:Env w):
 Calls Tryz.prog 282 #[.string s] w fun e w'=>e= .returned (.int .i64 (tI s.data.toList))∧Below w.heap.size w w':=by
 obtain ⟨tp,p,hsy⟩:=he.syn;obtain ⟨tq,q,hrg⟩:=he.rng;cases h:Lib.atoiAll s.data.toList with
 |ok v=>
  have HV:Hid (tI s.data.toList=v):=by unfold Hid tI;rw [h]
  have hc:=Tryz.strconv_Atoi_ok s (by omega) v h w;clear h hsy hrg he
  go_enter Tryz.func282,Tryz.ntmps282
  go_wp2_with (go_at_call 298;refine hc.mono ?_;rintro e w1 ⟨rfl,hb⟩;have HB:Hid (Below w.heap.size w w1):=fO hb;clear hb)
  go_returns;exact ⟨cV HV.out.symm,HB.out⟩
 |«syntax»=>
  have HV:Hid (tI s.data.toList= -1):=by unfold Hid tI;rw [h]
  have hc:=Tryz.strconv_Atoi_syntax s hs h _ w hsy (Or.inr ⟨tp,p,rfl⟩);clear h hsy hrg he
  go_enter Tryz.func282,Tryz.ntmps282
  go_wp2_with (go_at_call 298;refine hc.mono ?_;rintro e w1 ⟨N,rfl,_,_,hb⟩;have HB:Hid (Below w.heap.size w w1):=hb;clear hb)
  go_returns;exact ⟨cV HV.out.symm,HB.out⟩
 |range=>
  have HV:Hid (tI s.data.toList= -1):=by unfold Hid tI;rw [h]
  have hc:=Tryz.strconv_Atoi_range s hs h _ w hrg (Or.inr ⟨tq,q,rfl⟩);clear h hsy hrg he
  go_enter Tryz.func282,Tryz.ntmps282
  go_wp2_with (go_at_call 298;refine hc.mono ?_;rintro e w1 ⟨N,rfl,_,_,hb⟩;have HB:Hid (Below w.heap.size w w1):=hb;clear hb)
  go_returns;exact ⟨cV HV.out.symm,HB.out⟩
def OKr (w:World) (N:Nat) (bs:List Bx) (w1:World):Prop:=OKs w bs w1∧w1.frozen? ⟨N,0,none⟩=false∧w1.frozen? ⟨N,1,none⟩=false∧w1.frozen? ⟨N,2,none⟩=false∧N<w1.heap.size
theorem OKr.below {w:World} {N:Nat} {bs:List Bx} {w1 w':World} (h:OKr w N bs w1) (hb:Below w1.heap.size w1 w'):OKr w N bs w':=
 ⟨h.1.below hb,(hb.frozen (p:=⟨N,0,none⟩) h.2.2.2.2).trans h.2.1,(hb.frozen (p:=⟨N,1,none⟩) h.2.2.2.2).trans h.2.2.1,(hb.frozen (p:=⟨N,2,none⟩) h.2.2.2.2).trans h.2.2.2.1,Nat.lt_of_lt_of_le h.2.2.2.2 hb.size⟩
theorem OKr.box {w:World} {N:Nat} {bs:List Bx} {w1:World} (h:OKr w N bs w1) {M:Nat} (hM:w1.heap.size=M) (x y z:Value):OKr w N (⟨M,x,y,z⟩::bs) (w1.alloc (.cells #[x,y,z] 52)):=by
 have:=h.below (aC w1 (.cells #[x,y,z] 52))
 exact ⟨h.1.box hM x y z,this.2⟩
theorem OKr.start {w:World} {bs:List Bx} {w1:World} (h:OKs w bs w1) {M:Nat} (hM:w1.heap.size=M) (x y z:Value):OKr w M (⟨M,x,y,z⟩::bs) (w1.alloc (.cells #[x,y,z] 52)):=by
 refine ⟨h.box hM x y z,?_⟩;subst hM;refine ⟨?_,?_,?_,?_⟩
 · simp
 · simp
 · simp
 · show w1.heap.size<(w1.alloc _).heap.size
   simp
theorem fP {P:Program} {f:Nat} {args:Array Value} {R:Ending} {w:World} (h:∀ w1,Below w.heap.size w w1→Calls P f args w1 fun e w'=>e=R∧Below w1.heap.size w1 w') {N:Nat} {bs:List Bx} (w1:World) (ok:OKr w N bs w1):
 Calls P f args w1 fun e w'=>e=R∧OKr w N bs w':=by
 refine (h w1 ok.1.1).mono ?_;rintro e w' ⟨rfl,hb⟩;exact ⟨rfl,ok.below hb⟩
set_option maxHeartbeats 4000000 in
theorem VU (s A R B C:ByteArray) (b1 b2:Bool) (x y z:Int) (w:World)
 (HC:Hid (∀ w1,Below w.heap.size w w1→Calls Tryz.prog 154 #[.string s,.string ⟨#[46]⟩] w1 fun e w'=>e= .returned (.tuple #[.string A,.string R,.bool b1])∧Below w1.heap.size w1 w'))
 (HD:Hid (∀ w1,Below w.heap.size w w1→Calls Tryz.prog 154 #[.string R,.string ⟨#[46]⟩] w1 fun e w'=>e= .returned (.tuple #[.string B,.string C,.bool b2])∧Below w1.heap.size w1 w'))
 (HX:Hid (∀ w1,Below w.heap.size w w1→Calls Tryz.prog 282 #[.string A] w1 fun e w'=>e= .returned (.int .i64 x)∧Below w1.heap.size w1 w'))
 (HY:Hid (∀ w1,Below w.heap.size w w1→Calls Tryz.prog 282 #[.string B] w1 fun e w'=>e= .returned (.int .i64 y)∧Below w1.heap.size w1 w'))
 (HZ:Hid (∀ w1,Below w.heap.size w w1→Calls Tryz.prog 282 #[.string C] w1 fun e w'=>e= .returned (.int .i64 z)∧Below w1.heap.size w1 w'))
 (HM:Hid (∀ w1,Below w.heap.size w w1→Calls Tryz.prog 159 #[.agg #[.int .i64 x,.int .i64 y,.int .i64 z]] w1 fun e w'=>e= .returned (.bool true)∧Below w1.heap.size w1 w'))
 (HP:Hid (∀ w1,Below w.heap.size w w1→Calls Tryz.prog 125 #[.agg #[.int .i64 x,.int .i64 y,.int .i64 z]] w1 fun e w'=>e= .returned (.string s)∧Below w1.heap.size w1 w')):
 Calls Tryz.prog 256 #[.string s] w fun e w'=>e= .returned (.tuple #[.agg #[.int .i64 x,.int .i64 y,.int .i64 z],.bool true])∧Below w.heap.size w w':=by
 have t1:True:=trivial;have t2:True:=trivial;have t3:True:=trivial;have t4:True:=trivial;have t5:True:=trivial;have HO:Hid (OKr w w.heap.size [⟨w.heap.size,.int .i64 0,.int .i64 0,.int .i64 0⟩] (w.alloc (.cells #[.int .i64 0,.int .i64 0,.int .i64 0] 52))):=OKr.start (OKs.nil w) rfl _ _ _
 go_enter Tryz.func256,Tryz.ntmps256
 go_wp2_with (first
  |(go_at_call 154;clear t1;refine (fP HC.out (N:=w.heap.size) (bs:=[⟨w.heap.size,.int .i64 0,.int .i64 0,.int .i64 0⟩]) _ ?_).mono ?_;exact HO.out;clear HO;rintro e w1 ⟨rfl,ok⟩;have HO:Hid (OKr w w.heap.size [⟨w.heap.size,.int .i64 0,.int .i64 0,.int .i64 0⟩] w1):=ok;clear ok;obtain ⟨_,f0,f1,f2,f3⟩:=HO.out;obtain ⟨x0,y0,z0,s0⟩:=HO.out.1.one)
  |(go_at_call 154;clear t2;refine (fP HD.out (N:=w.heap.size) (bs:=[⟨w.heap.size,.int .i64 0,.int .i64 0,.int .i64 0⟩]) _ ?_).mono ?_;exact HO.out;clear HO;rintro e w2 ⟨rfl,ok⟩;have HO:Hid (OKr w w.heap.size [⟨w.heap.size,.int .i64 0,.int .i64 0,.int .i64 0⟩] w2):=ok;clear ok;obtain ⟨_,f0,f1,f2,f3⟩:=HO.out;obtain ⟨x0,y0,z0,s0⟩:=HO.out.1.one)
  |(go_at_call 282;clear t3;refine (fP HX.out (N:=w.heap.size) (bs:=[⟨w.heap.size,.int .i64 0,.int .i64 0,.int .i64 0⟩]) _ ?_).mono ?_;exact HO.out;clear HO;rintro e w3 ⟨rfl,ok⟩;have HO:Hid (OKr w w.heap.size [⟨w.heap.size,.int .i64 0,.int .i64 0,.int .i64 0⟩] w3):=ok;clear ok;obtain ⟨_,f0,f1,f2,f3⟩:=HO.out;obtain ⟨x0,y0,z0,s0⟩:=HO.out.1.one)
  |(go_at_call 282;clear t4;refine (fP HY.out (N:=w.heap.size) (bs:=[⟨w.heap.size,.int .i64 0,.int .i64 0,.int .i64 0⟩]) _ ?_).mono ?_;exact HO.out;clear HO;rintro e w4 ⟨rfl,ok⟩;have HO:Hid (OKr w w.heap.size [⟨w.heap.size,.int .i64 0,.int .i64 0,.int .i64 0⟩] w4):=ok;clear ok;obtain ⟨_,f0,f1,f2,f3⟩:=HO.out;obtain ⟨x0,y0,z0,s0⟩:=HO.out.1.one)
  |(go_at_call 282;clear t5;refine (fP HZ.out (N:=w.heap.size) (bs:=[⟨w.heap.size,.int .i64 0,.int .i64 0,.int .i64 0⟩]) _ ?_).mono ?_;exact HO.out;clear HO;rintro e w5 ⟨rfl,ok⟩;have HO:Hid (OKr w w.heap.size [⟨w.heap.size,.int .i64 0,.int .i64 0,.int .i64 0⟩] w5):=ok;clear ok;obtain ⟨_,f0,f1,f2,f3⟩:=HO.out;obtain ⟨x0,y0,z0,s0⟩:=HO.out.1.one)
  |(go_at_call 159;refine (fP HM.out (N:=w.heap.size) (bs:=[⟨w5.heap.size,.int .i64 x,.int .i64 y,.int .i64 z⟩,⟨w.heap.size,.int .i64 0,.int .i64 0,.int .i64 0⟩]) _ ?_).mono ?_;exact HO.out.box rfl _ _ _;clear HO;rintro e w6 ⟨rfl,ok⟩;have HO:Hid (OKr w w.heap.size [⟨w5.heap.size,.int .i64 x,.int .i64 y,.int .i64 z⟩,⟨w.heap.size,.int .i64 0,.int .i64 0,.int .i64 0⟩] w6):=ok;clear ok;obtain ⟨_,f0,f1,f2,f3⟩:=HO.out;obtain ⟨x0,y0,z0,s0⟩:=HO.out.1.one;obtain ⟨x1,y1,z1,s1⟩:=HO.out.1.two)
  |(go_at_call 125;refine (fP HP.out (N:=w.heap.size) (bs:=[⟨w5.heap.size,.int .i64 x,.int .i64 y,.int .i64 z⟩,⟨w.heap.size,.int .i64 0,.int .i64 0,.int .i64 0⟩]) _ ?_).mono ?_;exact HO.out;clear HO;rintro e w7 ⟨rfl,ok⟩;have HO:Hid (OKr w w.heap.size [⟨w5.heap.size,.int .i64 x,.int .i64 y,.int .i64 z⟩,⟨w.heap.size,.int .i64 0,.int .i64 0,.int .i64 0⟩] w7):=ok;clear ok;obtain ⟨_,f0,f1,f2,f3⟩:=HO.out;obtain ⟨x0,y0,z0,s0⟩:=HO.out.1.one;obtain ⟨x1,y1,z1,s1⟩:=HO.out.1.two))
 obtain ⟨u0,u1,u2⟩:=DV x1 y1 z1
 try simp only [Exit.inBlock,Exit.then]
 refine bodyPost_ret (by simp [results,Tryz.results256,u0,u1,u2,go_sem];try rfl) rfl ?_;exact ⟨hI rfl rfl rfl rfl,eH (Nat.le_refl _) HO.out.1.1⟩
set_option maxHeartbeats 4000000 in
theorem VV (s A R B C:ByteArray) (b1 b2:Bool) (x y z:Int) (w:World)
 (HC:Hid (∀ w1,Below w.heap.size w w1→Calls Tryz.prog 154 #[.string s,.string ⟨#[46]⟩] w1 fun e w'=>e= .returned (.tuple #[.string A,.string R,.bool b1])∧Below w1.heap.size w1 w'))
 (HD:Hid (∀ w1,Below w.heap.size w w1→Calls Tryz.prog 154 #[.string R,.string ⟨#[46]⟩] w1 fun e w'=>e= .returned (.tuple #[.string B,.string C,.bool b2])∧Below w1.heap.size w1 w'))
 (HX:Hid (∀ w1,Below w.heap.size w w1→Calls Tryz.prog 282 #[.string A] w1 fun e w'=>e= .returned (.int .i64 x)∧Below w1.heap.size w1 w'))
 (HY:Hid (∀ w1,Below w.heap.size w w1→Calls Tryz.prog 282 #[.string B] w1 fun e w'=>e= .returned (.int .i64 y)∧Below w1.heap.size w1 w'))
 (HZ:Hid (∀ w1,Below w.heap.size w w1→Calls Tryz.prog 282 #[.string C] w1 fun e w'=>e= .returned (.int .i64 z)∧Below w1.heap.size w1 w'))
 (HM:Hid (∀ w1,Below w.heap.size w w1→Calls Tryz.prog 159 #[.agg #[.int .i64 x,.int .i64 y,.int .i64 z]] w1 fun e w'=>e= .returned (.bool false)∧Below w1.heap.size w1 w')):
 Calls Tryz.prog 256 #[.string s] w fun e w'=>e= .returned (.tuple #[.agg #[.int .i64 0,.int .i64 0,.int .i64 0],.bool false])∧Below w.heap.size w w':=by
 have t1:True:=trivial;have t2:True:=trivial;have t3:True:=trivial;have t4:True:=trivial;have t5:True:=trivial;have HO:Hid (OKr w w.heap.size [⟨w.heap.size,.int .i64 0,.int .i64 0,.int .i64 0⟩] (w.alloc (.cells #[.int .i64 0,.int .i64 0,.int .i64 0] 52))):=OKr.start (OKs.nil w) rfl _ _ _
 go_enter Tryz.func256,Tryz.ntmps256
 go_wp2_with (first
  |(go_at_call 154;clear t1;refine (fP HC.out (N:=w.heap.size) (bs:=[⟨w.heap.size,.int .i64 0,.int .i64 0,.int .i64 0⟩]) _ ?_).mono ?_;exact HO.out;clear HO;rintro e w1 ⟨rfl,ok⟩;have HO:Hid (OKr w w.heap.size [⟨w.heap.size,.int .i64 0,.int .i64 0,.int .i64 0⟩] w1):=ok;clear ok;obtain ⟨_,f0,f1,f2,f3⟩:=HO.out;obtain ⟨x0,y0,z0,s0⟩:=HO.out.1.one)
  |(go_at_call 154;clear t2;refine (fP HD.out (N:=w.heap.size) (bs:=[⟨w.heap.size,.int .i64 0,.int .i64 0,.int .i64 0⟩]) _ ?_).mono ?_;exact HO.out;clear HO;rintro e w2 ⟨rfl,ok⟩;have HO:Hid (OKr w w.heap.size [⟨w.heap.size,.int .i64 0,.int .i64 0,.int .i64 0⟩] w2):=ok;clear ok;obtain ⟨_,f0,f1,f2,f3⟩:=HO.out;obtain ⟨x0,y0,z0,s0⟩:=HO.out.1.one)
  |(go_at_call 282;clear t3;refine (fP HX.out (N:=w.heap.size) (bs:=[⟨w.heap.size,.int .i64 0,.int .i64 0,.int .i64 0⟩]) _ ?_).mono ?_;exact HO.out;clear HO;rintro e w3 ⟨rfl,ok⟩;have HO:Hid (OKr w w.heap.size [⟨w.heap.size,.int .i64 0,.int .i64 0,.int .i64 0⟩] w3):=ok;clear ok;obtain ⟨_,f0,f1,f2,f3⟩:=HO.out;obtain ⟨x0,y0,z0,s0⟩:=HO.out.1.one)
  |(go_at_call 282;clear t4;refine (fP HY.out (N:=w.heap.size) (bs:=[⟨w.heap.size,.int .i64 0,.int .i64 0,.int .i64 0⟩]) _ ?_).mono ?_;exact HO.out;clear HO;rintro e w4 ⟨rfl,ok⟩;have HO:Hid (OKr w w.heap.size [⟨w.heap.size,.int .i64 0,.int .i64 0,.int .i64 0⟩] w4):=ok;clear ok;obtain ⟨_,f0,f1,f2,f3⟩:=HO.out;obtain ⟨x0,y0,z0,s0⟩:=HO.out.1.one)
  |(go_at_call 282;clear t5;refine (fP HZ.out (N:=w.heap.size) (bs:=[⟨w.heap.size,.int .i64 0,.int .i64 0,.int .i64 0⟩]) _ ?_).mono ?_;exact HO.out;clear HO;rintro e w5 ⟨rfl,ok⟩;have HO:Hid (OKr w w.heap.size [⟨w.heap.size,.int .i64 0,.int .i64 0,.int .i64 0⟩] w5):=ok;clear ok;obtain ⟨_,f0,f1,f2,f3⟩:=HO.out;obtain ⟨x0,y0,z0,s0⟩:=HO.out.1.one)
  |(go_at_call 159;refine (fP HM.out (N:=w.heap.size) (bs:=[⟨w5.heap.size,.int .i64 x,.int .i64 y,.int .i64 z⟩,⟨w.heap.size,.int .i64 0,.int .i64 0,.int .i64 0⟩]) _ ?_).mono ?_;exact HO.out.box rfl _ _ _;clear HO;rintro e w6 ⟨rfl,ok⟩;have HO:Hid (OKr w w.heap.size [⟨w5.heap.size,.int .i64 x,.int .i64 y,.int .i64 z⟩,⟨w.heap.size,.int .i64 0,.int .i64 0,.int .i64 0⟩] w6):=ok;clear ok;obtain ⟨_,f0,f1,f2,f3⟩:=HO.out;obtain ⟨x0,y0,z0,s0⟩:=HO.out.1.one;obtain ⟨x1,y1,z1,s1⟩:=HO.out.1.two))
 obtain ⟨u0,u1,u2⟩:=DV x1 y1 z1
 try simp only [Exit.inBlock,Exit.then]
 refine bodyPost_ret (by simp [results,Tryz.results256,u0,u1,u2,go_sem];try rfl) rfl ?_;exact ⟨hI rfl rfl rfl rfl,eH (Nat.le_refl _) HO.out.1.1⟩
set_option maxHeartbeats 4000000 in
theorem EN (s A R B C T:ByteArray) (b1 b2:Bool) (x y z:Int) (w:World) (hT:T.toList≠s.toList)
 (HC:Hid (∀ w1,Below w.heap.size w w1→Calls Tryz.prog 154 #[.string s,.string ⟨#[46]⟩] w1 fun e w'=>e= .returned (.tuple #[.string A,.string R,.bool b1])∧Below w1.heap.size w1 w'))
 (HD:Hid (∀ w1,Below w.heap.size w w1→Calls Tryz.prog 154 #[.string R,.string ⟨#[46]⟩] w1 fun e w'=>e= .returned (.tuple #[.string B,.string C,.bool b2])∧Below w1.heap.size w1 w'))
 (HX:Hid (∀ w1,Below w.heap.size w w1→Calls Tryz.prog 282 #[.string A] w1 fun e w'=>e= .returned (.int .i64 x)∧Below w1.heap.size w1 w'))
 (HY:Hid (∀ w1,Below w.heap.size w w1→Calls Tryz.prog 282 #[.string B] w1 fun e w'=>e= .returned (.int .i64 y)∧Below w1.heap.size w1 w'))
 (HZ:Hid (∀ w1,Below w.heap.size w w1→Calls Tryz.prog 282 #[.string C] w1 fun e w'=>e= .returned (.int .i64 z)∧Below w1.heap.size w1 w'))
 (HM:Hid (∀ w1,Below w.heap.size w w1→Calls Tryz.prog 159 #[.agg #[.int .i64 x,.int .i64 y,.int .i64 z]] w1 fun e w'=>e= .returned (.bool true)∧Below w1.heap.size w1 w'))
 (HP:Hid (∀ w1,Below w.heap.size w w1→Calls Tryz.prog 125 #[.agg #[.int .i64 x,.int .i64 y,.int .i64 z]] w1 fun e w'=>e= .returned (.string T)∧Below w1.heap.size w1 w')):
 Calls Tryz.prog 256 #[.string s] w fun e w'=>e= .returned (.tuple #[.agg #[.int .i64 0,.int .i64 0,.int .i64 0],.bool false])∧Below w.heap.size w w':=by
 have t1:True:=trivial;have t2:True:=trivial;have t3:True:=trivial;have t4:True:=trivial;have t5:True:=trivial;have hs1:=beq_eq_false_iff_ne.2 hT;clear hT;have HO:Hid (OKr w w.heap.size [⟨w.heap.size,.int .i64 0,.int .i64 0,.int .i64 0⟩] (w.alloc (.cells #[.int .i64 0,.int .i64 0,.int .i64 0] 52))):=OKr.start (OKs.nil w) rfl _ _ _
 go_enter Tryz.func256,Tryz.ntmps256
 go_wp2_with (first
  |(go_at_call 154;clear t1;refine (fP HC.out (N:=w.heap.size) (bs:=[⟨w.heap.size,.int .i64 0,.int .i64 0,.int .i64 0⟩]) _ ?_).mono ?_;exact HO.out;clear HO;rintro e w1 ⟨rfl,ok⟩;have HO:Hid (OKr w w.heap.size [⟨w.heap.size,.int .i64 0,.int .i64 0,.int .i64 0⟩] w1):=ok;clear ok;obtain ⟨_,f0,f1,f2,f3⟩:=HO.out;obtain ⟨x0,y0,z0,s0⟩:=HO.out.1.one)
  |(go_at_call 154;clear t2;refine (fP HD.out (N:=w.heap.size) (bs:=[⟨w.heap.size,.int .i64 0,.int .i64 0,.int .i64 0⟩]) _ ?_).mono ?_;exact HO.out;clear HO;rintro e w2 ⟨rfl,ok⟩;have HO:Hid (OKr w w.heap.size [⟨w.heap.size,.int .i64 0,.int .i64 0,.int .i64 0⟩] w2):=ok;clear ok;obtain ⟨_,f0,f1,f2,f3⟩:=HO.out;obtain ⟨x0,y0,z0,s0⟩:=HO.out.1.one)
  |(go_at_call 282;clear t3;refine (fP HX.out (N:=w.heap.size) (bs:=[⟨w.heap.size,.int .i64 0,.int .i64 0,.int .i64 0⟩]) _ ?_).mono ?_;exact HO.out;clear HO;rintro e w3 ⟨rfl,ok⟩;have HO:Hid (OKr w w.heap.size [⟨w.heap.size,.int .i64 0,.int .i64 0,.int .i64 0⟩] w3):=ok;clear ok;obtain ⟨_,f0,f1,f2,f3⟩:=HO.out;obtain ⟨x0,y0,z0,s0⟩:=HO.out.1.one)
  |(go_at_call 282;clear t4;refine (fP HY.out (N:=w.heap.size) (bs:=[⟨w.heap.size,.int .i64 0,.int .i64 0,.int .i64 0⟩]) _ ?_).mono ?_;exact HO.out;clear HO;rintro e w4 ⟨rfl,ok⟩;have HO:Hid (OKr w w.heap.size [⟨w.heap.size,.int .i64 0,.int .i64 0,.int .i64 0⟩] w4):=ok;clear ok;obtain ⟨_,f0,f1,f2,f3⟩:=HO.out;obtain ⟨x0,y0,z0,s0⟩:=HO.out.1.one)
  |(go_at_call 282;clear t5;refine (fP HZ.out (N:=w.heap.size) (bs:=[⟨w.heap.size,.int .i64 0,.int .i64 0,.int .i64 0⟩]) _ ?_).mono ?_;exact HO.out;clear HO;rintro e w5 ⟨rfl,ok⟩;have HO:Hid (OKr w w.heap.size [⟨w.heap.size,.int .i64 0,.int .i64 0,.int .i64 0⟩] w5):=ok;clear ok;obtain ⟨_,f0,f1,f2,f3⟩:=HO.out;obtain ⟨x0,y0,z0,s0⟩:=HO.out.1.one)
  |(go_at_call 159;refine (fP HM.out (N:=w.heap.size) (bs:=[⟨w5.heap.size,.int .i64 x,.int .i64 y,.int .i64 z⟩,⟨w.heap.size,.int .i64 0,.int .i64 0,.int .i64 0⟩]) _ ?_).mono ?_;exact HO.out.box rfl _ _ _;clear HO;rintro e w6 ⟨rfl,ok⟩;have HO:Hid (OKr w w.heap.size [⟨w5.heap.size,.int .i64 x,.int .i64 y,.int .i64 z⟩,⟨w.heap.size,.int .i64 0,.int .i64 0,.int .i64 0⟩] w6):=ok;clear ok;obtain ⟨_,f0,f1,f2,f3⟩:=HO.out;obtain ⟨x0,y0,z0,s0⟩:=HO.out.1.one;obtain ⟨x1,y1,z1,s1⟩:=HO.out.1.two)
  |(go_at_call 125;refine (fP HP.out (N:=w.heap.size) (bs:=[⟨w5.heap.size,.int .i64 x,.int .i64 y,.int .i64 z⟩,⟨w.heap.size,.int .i64 0,.int .i64 0,.int .i64 0⟩]) _ ?_).mono ?_;exact HO.out;clear HO;rintro e w7 ⟨rfl,ok⟩;have HO:Hid (OKr w w.heap.size [⟨w5.heap.size,.int .i64 x,.int .i64 y,.int .i64 z⟩,⟨w.heap.size,.int .i64 0,.int .i64 0,.int .i64 0⟩] w7):=ok;clear ok;obtain ⟨_,f0,f1,f2,f3⟩:=HO.out;obtain ⟨x0,y0,z0,s0⟩:=HO.out.1.one;obtain ⟨x1,y1,z1,s1⟩:=HO.out.1.two))
 obtain ⟨u0,u1,u2⟩:=DV x1 y1 z1
 try simp only [Exit.inBlock,Exit.then]
 refine bodyPost_ret (by simp [results,Tryz.results256,u0,u1,u2,go_sem];try rfl) rfl ?_;exact ⟨hI rfl rfl rfl rfl,eH (Nat.le_refl _) HO.out.1.1⟩
end Go.Proofs.YtmnhnofnlcbliaaGreatDoor
