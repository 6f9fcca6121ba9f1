/- Pure2, Row1, Tab1, Next3, Parse1, Parse3, Pr1, Pr2, RowS, ScPl1, ScBa1, Pn1, Pk1, Gs0, RwGg: their declarations that are needed, laid in one text, remarks and blanks left out. -/
import Derived.Test.YtpfemjlhklnfoaaGreatDoorTie
import Derived.Test.YtpfemjlhklnfoaaGreatDoorCards
import Derived.ProofKit
import Derived.OpenShut
import Derived.ChangeOld
import Derived.LaidMore
import Derived.Lay
import Derived.SevenTiedAt
import Derived.Stop.Joined
import Derived.Shelf.Vars
import Derived.Deep.Slices
import Derived.Test.YtpfemjlhklnfoaaGreatDoorShelfB
import Derived.Lib.LaidTab
import Derived.Lib.AppendIntMem
import Derived.Stop.LaidErr
import Derived.Shelf.Strconv.AtoiAll
import Derived.Shelf.Strings.Cut
import Derived.Shelf.Strings.Split
import Derived.Shelf.Strings.IndexAnyAll
import Derived.Test.YtpfemjlhklnfoaaGreatDoorShelfC
import Derived.Lib.Join
import Derived.Test.YtpfemjlhklnfoaaGreatDoorProg
import Derived.Laws.OwnMore
import Derived.Laws.AppendOwn
import Derived.OwnWalk
import Derived.WalkMore
import Derived.Scope
import Derived.Deep.LoopGhost
import Derived.Laws.IdiomStrings
import Derived.Lib.SplitLaws
import Derived.Test.YtpfemjlhklnfoaaGreatDoorMg02
namespace Go.Proofs.YtpfemjlhklnfoaaGreatDoor
open Go.RowKit
def rk (s:Sp):Int×Int:=(aK s.a s.b s.c,aK s.x s.y s.z)
theorem cC {a b c x y z:Int}:cJ a b c x y z=true↔aQ a b c=true∧aQ x y z=true∧bQ a b c x y z≤0:=by
 unfold cJ;simp [and_assoc]
theorem qF {a b c x y z:Int} (h:aQ a b c=true) (k:aQ x y z=true):bQ a b c x y z≤0↔aK a b c≤aK x y z:=by
 have h1:=iB k h;rw [wJ] at h1;omega
theorem uC {s:Sp} (h:cJ s.a s.b s.c s.x s.y s.z=true):spR (rk s)=s∧rL (rk s):=by
 obtain ⟨h1,h2,h3⟩:=cC.1 h;rw [qF h1 h2] at h3;obtain ⟨a,b,c,x,y,z⟩:=s;obtain ⟨e1,e2,e3⟩:=qE h1;obtain ⟨f1,f2,f3⟩:=qE h2;have l1:=dD h1;have l2:=dD h2;refine ⟨?_,?_,?_,?_⟩
 · simp only [spR,rk]
   simp only at e1 e2 e3 f1 f2 f3
   rw [e1,e2,e3,f1,f2,f3]
 · unfold okR rk;simp only at*;omega
 · unfold okR rk;simp only at*;omega
 · exact h3
theorem gA {p:Int×Int} (h:rL p):rk (spR p)=p∧cJ (spR p).a (spR p).b (spR p).c (spR p).x (spR p).y (spR p).z=true:=by
 obtain ⟨h1,h2,h3⟩:=h;obtain ⟨m1,e1⟩:=iC h1.has;obtain ⟨m2,e2⟩:=iC h2.has;refine ⟨?_,?_⟩
 · unfold rk spR;simp only;rw [e1,e2]
 · rw [cC]
   refine ⟨m1,m2,?_⟩;unfold spR
   simp only
   rw [qF m1 m2,e1,e2];exact h3
theorem lS {x y z a b c:Int} (h:aQ x y z=true) (k:aQ a b c=true):cR x y z a b c=true↔aK x y z+2≤aK a b c:=by
 unfold cR;have l1:=dD h;have l2:=dD k;rw [Bool.and_eq_true,decide_eq_true_eq]
 constructor
 · rintro ⟨h1,h2⟩
   obtain ⟨_,m,e⟩:=tY h1;rw [iB m k,e] at h2;omega
 · intro h1
   have h2:iA x y z 1=true:=by rw [wK h];simp;omega
   obtain ⟨_,m,e⟩:=tY h2;refine ⟨h2,?_⟩;rw [iB m k,e];omega
theorem gB {s:Sp} {L:List Sp}:cM (s::L) 0=cJ s.a s.b s.c s.x s.y s.z:=by simp [cM]
theorem iE {s t:Sp} {L:List Sp}:cM (s::t::L) 1=(cJ t.a t.b t.c t.x t.y t.z&&cR s.x s.y s.z t.a t.b t.c):=by simp [cM]
theorem jR {s:Sp} {L:List Sp} {i:Nat}:cM (s::L) (i+1+1)=cM L (i+1):=by simp [cM]
theorem wM {s:Sp} {L:List Sp} (h:∀ i,i<(s::L).length→cM (s::L) i=true):∀ i,i<L.length→cM L i=true:=by
 intro i hi;cases i with
 |succ i=>rw [←jR (s:=s)];exact h _ (by simpa using hi)
 |zero=>
  cases L with
  |nil=>simp at hi
  |cons t L=>
   have:=h 1 (by simp)
   rw [iE,Bool.and_eq_true] at this;rw [gB];exact this.1
theorem qG:∀ {L:List Sp},(∀ i,i<L.length→cM L i=true)→(L.map rk).map spR=L∧RangeR (L.map rk)
 |[],_=>⟨rfl,trivial⟩
 |s::L,h=>by
  obtain ⟨e,hr⟩:=qG (wM h);have h0:=h 0 (by simp);rw [gB] at h0;obtain ⟨es,o1,o2,o3⟩:=uC h0;refine ⟨by rw [List.map_cons,List.map_cons,e,es],o1.1,o3,o2.2,?_⟩;cases L with
  |nil=>trivial
  |cons t L=>
   have h1:=h 1 (by simp);rw [iE,Bool.and_eq_true] at h1;have ha:=(lS (cC.1 h0).2.1 (cC.1 h1.1).1).1 h1.2;exact ⟨ha,hr.2⟩
theorem qH:∀ {A:Rg},RangeR A→∀ i,i<(A.map spR).length→cM (A.map spR) i=true
 |[],_,i,hi=>by simp at hi
 |p::A,h,i,hi=>by
  obtain ⟨g,e⟩:=p;obtain ⟨h1,h2,h3,h4⟩:=h;have ho:rL (g,e):=⟨⟨h1,by show g≤999999999;omega⟩,⟨by show 0≤e;omega,h3⟩,h2⟩;have ih:=qH (A:=A) (h4.weak (by omega));cases i with
  |zero=>rw [List.map_cons,gB];exact (gA ho).2
  |succ i=>
   cases i with
   |succ i=>rw [List.map_cons,jR];exact ih _ (by simpa using hi)
   |zero=>
    cases A with
    |nil=>simp at hi
    |cons q A=>
     obtain ⟨g',e'⟩:=q;obtain ⟨k1,k2,k3,_⟩:=h4;have hq:rL (g',e'):=⟨⟨by show 0≤g';omega,by show g'≤999999999;omega⟩,⟨by show 0≤e';omega,k3⟩,k2⟩;rw [List.map_cons,List.map_cons,iE,Bool.and_eq_true];refine ⟨(gA hq).2,?_⟩;rw [lS (cC.1 (gA ho).2).2.1 (cC.1 (gA hq).2).1];have r1:=congrArg Prod.snd (gA ho).1;have r2:=congrArg Prod.fst (gA hq).1;simp only [rk] at r1 r2;rw [r1,r2];exact k1
theorem kN {L:List Sp}:dK L=true↔∃ A:Rg,L=A.map spR∧RangeR A∧A.length≤64:=by
 unfold dK;rw [Bool.and_eq_true,decide_eq_true_eq,List.all_eq_true]
 constructor
 · rintro ⟨h1,h2⟩
   obtain ⟨e,hr⟩:=qG fun i hi=>h2 i (List.mem_range.2 hi)
   exact ⟨L.map rk,e.symm,hr,by simpa using h1⟩
 · rintro ⟨A,rfl,hr,hl⟩
   exact ⟨by simpa using hl,fun i hi=>qH hr i (List.mem_range.1 hi)⟩
theorem yY {A:Rg} (h:RangeR A) (hl:A.length≤64):dK (A.map spR)=true:=kN.2 ⟨A,rfl,h,hl⟩
theorem SpansR.at {w:World} {v:Value} {A:Rg} (h:SpansR w v A):SpansAt w v (A.map spR):=by
 obtain ⟨ad,cap,hv,hc,hl⟩:=h;refine ⟨ad,cap,by rw [List.length_map];exact hv,?_⟩
 rcases hl with rfl|⟨g,o,ha,hg,hs⟩
 · exact Or.inl rfl
 · right
   refine ⟨g,o,ha,hg,fun i hi=> ?_⟩;rw [List.getElem_map];exact hs i (by simpa using hi)
def SpansC (w:World) (v:Value) (L:List Sp):Prop:=SpansAt w v L∧∃ ad n cap,v= .slice ad n cap∧n≤cap
theorem SpansC.rg {w:World} {v:Value} {A:Rg} (h:SpansC w v (A.map spR)):SpansR w v A:=by
 obtain ⟨⟨ad,cap,rfl,hl⟩,ad',n',cap',hv,hc⟩:=h;cases hv;rw [List.length_map] at hc ⊢;refine ⟨_,_,rfl,hc,?_⟩
 rcases hl with hl|⟨g,o,ha,hg,hs⟩
 · left;simpa using hl
 · right
   refine ⟨g,o,ha,hg,fun i hi=> ?_⟩
   have:=hs i (by simpa using hi)
   rw [List.getElem_map] at this;exact this
theorem SpansC.below {w w':World} {v:Value} {L:List Sp} (h:SpansC w v L) (hb:Below w.heap.size w w'):SpansC w' v L:=⟨h.1.below hb,h.2⟩
end Go.Proofs.YtpfemjlhklnfoaaGreatDoor
namespace Go.Proofs.YtpfemjlhklnfoaaGreatDoor
open Go.ChangeShapes Go.WideShapes Go.ChangeAt Go.RowKit
set_option maxRecDepth 100000
theorem own:ownKnob Tryz.prog.godebug=none:=by kernel_rfl
theorem qI:laidOutB Tryz.prog=true:=by kernel_rfl
theorem lT:Tryz.prog.cellsOf 3=1:=by kernel_rfl
theorem iF:Tryz.prog.cellsOf 31=3:=by kernel_rfl
theorem lU {cs:List Value} {o:Nat} {v:Value} (h:(cs.drop o).take 1=[v]):cs[o]? =some v:=by
 have h0:((cs.drop o).take 1)[0]? =some v:=by rw [h];rfl
 simpa using h0
theorem bB {fs:Array Field} {i ty off:Nat} (h:(fs[i]?).map (fun f=>(f.type,f.offset))=some (ty,off)):∃ f,fs[i]? =some f∧f.type=ty∧f.offset=off:=by
 cases hf:fs[i]? with
 |none=>rw [hf] at h;cases h
 |some f=>
  rw [hf] at h;simp only [Option.map_some,Option.some.injEq,Prod.mk.injEq] at h;exact ⟨f,rfl,h.1,h.2⟩
theorem yP {α:Type} {l:List α} (h:l.length=3):∃ a b c,l=[a,b,c]:=by
 match l,h with
 |[a,b,c],_=>exact ⟨a,b,c,rfl⟩
theorem yZ {W:World} {r:List (String×DataW Unit)} (h:laidMet Tryz.prog (("math/bits.deBruijn32tab",Rows.laid_math_bits_deBruijn32tab)::("math/bits.deBruijn64tab",Rows.laid_math_bits_deBruijn64tab)::("internal/strconv.uint64pow10",Rows.laid_internal_strconv_uint64pow10)::r) W):
 Lib.TabIs Tryz.prog W "internal/strconv.uint64pow10" .u64 Lib.pow10Tab:=by
 have h2:laidMet Tryz.prog (("internal/strconv.uint64pow10",Lib.tabData .u64 Lib.pow10Tab)::r) W:=(laidMet.tail (laidMet.tail h));exact Lib.tabIs_of_head (g:=3) (t:=292) (e:=199) (n:=20) (by kernel_rfl) (by kernel_rfl) (by kernel_rfl) Tryz.underlying199 (by kernel_rfl) (by kernel_rfl) h2
theorem eV {W:World} (h:Lib.TabIs Tryz.prog W "internal/strconv.uint64pow10" .u64 Lib.pow10Tab) (w:World) (hw:Below W.heap.size W w) (n:Int) (h0:0≤n) (h1:n≤999):Spells w n ⟨(Lib.itoa n).toArray⟩:=by
 intro w1 hb;have ht:=Lib.tabBelow_of_tabIs h w1 (aB hw hb);refine (Tryz.strconv_Itoa n (by omega) (by omega) w1 ht).mono ?_;rintro e w' ⟨rfl,k,os,rfl⟩;exact ⟨rfl,Lib.below_grow _ _ (Nat.le_refl _) k os⟩
end Go.Proofs.YtpfemjlhklnfoaaGreatDoor
namespace Go.Proofs.YtpfemjlhklnfoaaGreatDoor
open Go.RowKit
set_option maxRecDepth 100000
theorem iG {W:World} (h:Lib.TabIs Tryz.prog W "internal/strconv.uint64pow10" .u64 Lib.pow10Tab) (a b c:Int) (w1:World) (hb:Below W.heap.size W w1):
 Calls Tryz.prog 132 #[.agg #[.int .i64 a,.int .i64 b,.int .i64 c]] w1 fun e w'=>e= .returned (.string (aZ a b c))∧Below w1.heap.size w1 w':=by
 refine rG a b c w1 (fun m=> ?_) (fun m=> ?_) (fun m=> ?_)<;>(obtain ⟨a0,a1,b0,b1,c0,c1⟩:=cO m)
 · exact eV h w1 hb a a0 a1
 · exact eV h w1 hb b b0 b1
 · exact eV h w1 hb c c0 c1
structure Env (W:World):Prop where
 tab:Lib.TabIs Tryz.prog W "internal/strconv.uint64pow10" .u64 Lib.pow10Tab
theorem cU {W:World} {a:Addr} {v:Value} (h:W.cell? a=some v):a.block<W.heap.size:=by
 rcases Nat.lt_or_ge a.block W.heap.size with h'|h'
 · exact h'
 · simp [World.cell?,Array.getElem?_eq_none h'] at h
theorem Env.below {W w:World} (h:Env W) (hb:Below W.heap.size W w):Env w:={ tab:=Lib.tabBelow_of_tabIs h.tab w hb }
theorem oH (l:List UInt8):(⟨l.toArray⟩:ByteArray).size=l.length:=by show l.toArray.size=_;simp
theorem aV (s:ByteArray):s.data.toList.length=s.size:=rfl
theorem bM {s t:ByteArray} (h:s.toList=t.toList):s=t:=by
 rw [ByteArray.toList_eq,ByteArray.toList_eq] at h;cases s;cases t;simp only [ByteArray.mk.injEq];exact Array.toList_inj.1 h
def cV (a b c x y z:Int):ByteArray:=
 if a=x∧b=y∧c=z then aZ a b c else if (a=0∧b=0∧c=0)∧(x=999∧y=999∧z=999) then ⟨#[42]⟩ else if a=0∧b=0∧c=0 then ⟨#[60,61]⟩++aZ x y z else
 if x=999∧y=999∧z=999 then ⟨#[62,61]⟩++aZ a b c else ((⟨#[62,61]⟩++aZ a b c)++⟨#[32,60,61]⟩)++aZ x y z
theorem bX (a b c:Int):(aZ a b c).size≤11:=by
 unfold aZ
 split
 · rename_i h
   obtain ⟨a0,a1,b0,b1,c0,c1⟩:=cO h;have za:=cB a0 a1;have zb:=cB b0 b1;have zc:=cB c0 c1;have zd:(⟨#[46]⟩:ByteArray).size=1:=rfl;rw [bA,bA,bA,bA];omega
 · decide
set_option maxHeartbeats 3200000 in
theorem jL (a b c x y z:Int) (w:World) (he:Env w) (hf:FL w):
 Calls Tryz.prog 235 #[.agg #[.int .i64 a,.int .i64 b,.int .i64 c,.int .i64 x,.int .i64 y,.int .i64 z]] w fun e w'=>e= .returned (.string (cV a b c x y z))∧Below w.heap.size w w':=by
 have hg:=hR;have HPL:Hid (∀ w1,Below w.heap.size w w1→Calls Tryz.prog 132 #[.agg #[.int .i64 a,.int .i64 b,.int .i64 c]] w1 fun e w'=>e= .returned (.string (aZ a b c))∧Below w1.heap.size w1 w'):=fun w1 hb=>iG he.tab a b c w1 hb
 have HPH:Hid (∀ w1,Below w.heap.size w w1→Calls Tryz.prog 132 #[.agg #[.int .i64 x,.int .i64 y,.int .i64 z]] w1 fun e w'=>e= .returned (.string (aZ x y z))∧Below w1.heap.size w1 w'):=fun w1 hb=>iG he.tab x y z w1 hb
 have HO:Hid (Below w.heap.size w (w.alloc (.cells #[.int .i64 a,.int .i64 b,.int .i64 c,.int .i64 x,.int .i64 y,.int .i64 z] 91))∧Bx6 (w.alloc (.cells #[.int .i64 a,.int .i64 b,.int .i64 c,.int .i64 x,.int .i64 y,.int .i64 z] 91)) w.heap.size a b c x y z):=⟨aD _ _,Bx6.new rfl _ _ _ _ _ _⟩;have HK:Hid (KeepP fun w1=>Below w.heap.size w w1∧Bx6 w1 w.heap.size a b c x y z):=(aL w).and (tZ _ _ _ _ _ _ _);obtain ⟨⟨g0,g1,g2⟩,⟨l0,l1,l2⟩,_,_⟩:=hf.below (aD w (.cells #[.int .i64 a,.int .i64 b,.int .i64 c,.int .i64 x,.int .i64 y,.int .i64 z] 91));have e1:=tU a b c x y z;have e2:=tU a b c 0 0 0;have e3:=tU x y z 999 999 999;clear hf he
 by_cases h1:a=x∧b=y∧c=z
 · have HT:Hid (cV a b c x y z=aZ a b c):=by unfold Hid cV;rw [if_pos h1]
   rw [decide_eq_true h1] at e1;clear h1 e2 e3
   go_enter Tryz.func235,Tryz.ntmps235
   go_wp2_with (go_at_call 132;refine (HPL.out _ HO.out.1).mono ?_;rintro e w1 ⟨rfl,ok1⟩;have HO1:=aA ok1;clear ok1)
   go_ret;exact ⟨by rw [HT.out];rfl,aB HO.out.1 HO1.out⟩
 rw [decide_eq_false h1] at e1
 by_cases h2:a=0∧b=0∧c=0
 · rw [decide_eq_true h2] at e2
   by_cases h3:x=999∧y=999∧z=999
   · rw [decide_eq_true h3] at e3
     have HT:Hid (cV a b c x y z=⟨#[42]⟩):=by unfold Hid cV;rw [if_neg h1,if_pos ⟨h2,h3⟩]
     clear h1 h2 h3
     go_enter Tryz.func235,Tryz.ntmps235
     go_wp2_with fail
     go_ret;exact ⟨by rw [HT.out];rfl,HO.out.1⟩
   · rw [decide_eq_false h3] at e3
     have HT:Hid (cV a b c x y z=⟨#[60,61]⟩++aZ x y z):=by unfold Hid cV;rw [if_neg h1,if_neg (fun h=>h3 h.2),if_pos h2]
     clear h1 h2 h3;have zT:=bX x y z;have z2:(⟨#[60,61]⟩:ByteArray).size=2:=rfl;generalize aZ x y z=T at*;have s1:=fun W:World=>run_string_add_sum (P:=Tryz.prog) (w:=W) ⟨#[60,61]⟩ T (by omega)
     clear zT z2
     go_enter Tryz.func235,Tryz.ntmps235
     go_wp2_with (go_at_call 132;refine (HPH.out _ HO.out.1).mono ?_;rintro e w1 ⟨rfl,ok1⟩;have HO1:=aA ok1;clear ok1)
     go_ret;exact ⟨by rw [HT.out];rfl,aB HO.out.1 HO1.out⟩
 · rw [decide_eq_false h2] at e2
   by_cases h3:x=999∧y=999∧z=999
   · rw [decide_eq_true h3] at e3
     have HT:Hid (cV a b c x y z=⟨#[62,61]⟩++aZ a b c):=by unfold Hid cV;rw [if_neg h1,if_neg (fun h=>h2 h.1),if_neg h2,if_pos h3]
     clear h1 h2 h3;have zT:=bX a b c;have z2:(⟨#[62,61]⟩:ByteArray).size=2:=rfl;generalize aZ a b c=T at*;have s1:=fun W:World=>run_string_add_sum (P:=Tryz.prog) (w:=W) ⟨#[62,61]⟩ T (by omega)
     clear zT z2
     go_enter Tryz.func235,Tryz.ntmps235
     go_wp2_with (go_at_call 132;refine (HPL.out _ HO.out.1).mono ?_;rintro e w1 ⟨rfl,ok1⟩;have HO1:=aA ok1;clear ok1)
     go_ret;exact ⟨by rw [HT.out];rfl,aB HO.out.1 HO1.out⟩
   · rw [decide_eq_false h3] at e3
     have HT:Hid (cV a b c x y z=((⟨#[62,61]⟩++aZ a b c)++⟨#[32,60,61]⟩)++aZ x y z):=by unfold Hid cV;rw [if_neg h1,if_neg (fun h=>h2 h.1),if_neg h2,if_neg h3]
     have HQL:Hid (∀ w1,(Below w.heap.size w w1∧Bx6 w1 w.heap.size a b c x y z)→Calls Tryz.prog 132 #[.agg #[.int .i64 a,.int .i64 b,.int .i64 c]] w1 fun e w'=>e= .returned (.string (aZ a b c))∧Below w1.heap.size w1 w'):=fun w1 h=>HPL.out w1 h.1
     have HQH:Hid (∀ w1,(Below w.heap.size w w1∧Bx6 w1 w.heap.size a b c x y z)→Calls Tryz.prog 132 #[.agg #[.int .i64 x,.int .i64 y,.int .i64 z]] w1 fun e w'=>e= .returned (.string (aZ x y z))∧Below w1.heap.size w1 w'):=fun w1 h=>HPH.out w1 h.1
     clear h1 h2 h3;have zT:=bX a b c;have zU:=bX x y z;have z2:(⟨#[62,61]⟩:ByteArray).size=2:=rfl;have z3:(⟨#[32,60,61]⟩:ByteArray).size=3:=rfl;generalize aZ a b c=T at*;generalize aZ x y z=U at*;have s1:=fun W:World=>run_string_add_sum (P:=Tryz.prog) (w:=W) ⟨#[62,61]⟩ T (by omega)
     have s2:=fun W:World=>run_string_add_sum (P:=Tryz.prog) (w:=W) (⟨#[62,61]⟩++T) ⟨#[32,60,61]⟩ (by rw [bA];omega)
     have s3:=fun W:World=>run_string_add_sum (P:=Tryz.prog) (w:=W) ((⟨#[62,61]⟩++T)++⟨#[32,60,61]⟩) U (by rw [bA,bA];omega)
     clear zT zU z2 z3
     go_enter Tryz.func235,Tryz.ntmps235
     go_wp2_with fail
     refine aX HK (by kernel_rfl) (by kernel_rfl) (by first|exact HO.out|exact HK.out.drew HO.out) ?_;intro C HIN HOUT;clear HO
     repeat
      (with_reducible refine wpQuiet_step (fun K hK=> ?_)
       go_simp
       first
        |(refine hK _ ?_;clear hK K)
        |(apply Exists.intro;refine ⟨fun w1 hC=> ?_,hK _ ?_⟩;(focus ((first|(go_at_call 132;with_reducible exact cT HIN HOUT HK HQL.out w1 hC)|(go_at_call 132;with_reducible exact cT HIN HOUT HK HQH.out w1 hC)|(exact rfl)|(obtain ⟨hb1,k0,k1,k2,k3,k4,k5,k6⟩:=HOUT.out w1 hC;clear hC;go_simp;first|done|exact rfl));done));clear hK K))
     refine wpQuiet_nil ?_;intro wn hC;have HO:=aA (HOUT.out _ hC);clear hC HIN HOUT C;obtain ⟨hb1,k0,k1,k2,k3,k4,k5,k6⟩:=HO.out
     go_wp2
     go_ret;exact ⟨by rw [HT.out];rfl,HO.out.1⟩
theorem wN:(Tryz.prog.info? 9).map (fun i=>(i.zero,i.size,i.bytes))=some (some (.string ByteArray.empty),1,16):=by kernel_rfl
def OwnT (w:World) (B:Nat) (v:Value) (ts:List ByteArray):Prop:=w.ownsRow B 9 1 v ts.length (ts.map Value.string)
theorem OwnT.nil (w:World) (B:Nat):OwnT w B (.slice none 0 0) []:=⟨rfl,Or.inl ⟨rfl,rfl⟩⟩
theorem OwnT.lt {w:World} {B:Nat} {v:Value} {L:List ByteArray} (h:OwnT w B v L) {g:Nat} (hg:v.ownBlock=some g):g<w.heap.size∧B≤g:=by
 rcases h.2 with ⟨rfl,_⟩|⟨g',cap,cur,rfl,hB,hgg,_⟩
 · cases hg
 · cases hg
   exact ⟨by rw [Array.getElem?_eq_some_iff] at hgg;exact hgg.1,hB⟩
theorem OwnT.below {w w':World} {B:Nat} {v:Value} {L:List ByteArray} (h:OwnT w B v L) (hb:Below w.heap.size w w'):OwnT w' B v L:=by
 refine ⟨h.1,?_⟩;have hl:=fun g hg=>(h.lt (g:=g) hg).1
 rcases h.2 with hn|⟨g,cap,cur,rfl,hB,hgg,r⟩
 · exact Or.inl hn
 · exact Or.inr ⟨g,cap,cur,rfl,hB,(hb.block g (hl g rfl)).trans hgg,r⟩
theorem wO {w wx:World} {uo:Value} {ts:List ByteArray} {tx:ByteArray} {ops:Array Oper} {rest:List Oper} {o:Oper} {f:Act} {Q:Exit→Act→World→Prop} (hgd:o.guard=none) (s t:Operand)
 (ho:o.op= .call { callee:= .builtin .append,args:= #[s,t],argTypes:= #[179,179] }) (hs:f.eval s=uo)
 (hK:Below w.heap.size w wx∧OwnT wx w.heap.size uo ts) {M:Nat} (hM:wx.heap.size=M) (hx:f.eval t= .slice (some ⟨M,0,none⟩) 1 1) (hlen:ts.length+1≤1000000000000)
 (h:∀ v1 w1,(Below w.heap.size w w1∧OwnT w1 w.heap.size v1 (ts++[tx]))→wpList Tryz.prog ops Q rest (f.put o.dst v1) w1):
 wpList Tryz.prog ops Q (o::rest) f (wx.alloc (.cells #[.string tx] 9)):=by
 subst hM
 obtain ⟨i0,hi,hz0,hz1,hz2⟩:∃ i,Tryz.prog.info? 9=some i∧i.zero=some (.string ByteArray.empty)∧i.size=1∧i.bytes=16:=by
  have:=wN
  cases hq:Tryz.prog.info? 9 with
  |none=>rw [hq] at this;cases this
  |some i=>
   rw [hq] at this;simp only [Option.map_some,Option.some.injEq,Prod.mk.injEq] at this;exact ⟨i,rfl,this.1,this.2.1,this.2.2⟩
 have hob:OwnT (wx.alloc (.cells #[.string tx] 9)) w.heap.size uo ts:=hK.2.below (aD _ _);have hsz:(wx.alloc (.cells #[.string tx] 9)).heap.size=wx.heap.size+1:=by simp
 have hwx:=hK.1.size
 refine wpList_append_own_at _ hgd s t 179 ho w.heap.size 9 i0 _ 1 16 Tryz.underlying179 hi hz0 hz1 hz2 rfl (by decide) uo _ _ hs hob ⟨wx.heap.size,0,none⟩ 1 1 [.string tx] hx rfl
  (World.news_of_block (cs:= #[.string tx]) (t:=9) (fr:=(0,0)) (by show (wx.heap.push _)[wx.heap.size]? =_;rw [Array.getElem?_push,if_pos rfl])) (by simp [Value.oneCell']) (by unfold maxLen;omega) (by omega) (by omega) ?_
 intro v1 w1 hown1 hg1 _ hat;refine h v1 w1 ⟨(aB hK.1 (aD _ _)).grown hg1 (by omega) (fun k hk=>(hK.2.lt hk).2),?_⟩;unfold OwnT;rw [List.map_append,List.map_singleton,List.length_append];exact hown1
def spT (p:Int×Int):ByteArray:=cV (atA p.1) (atB p.1) (atC p.1) (atA p.2) (atB p.2) (atC p.2)
def dT (A:Rg):ByteArray:=match A with
 |[]=>⟨#[60]⟩++aZ 0 0 0
 |p::A=>⟨(Lib.join ((p::A).map fun p=>(spT p).data.toList) [32,124,124,32]).toArray⟩
theorem iH (a b c x y z:Int):(cV a b c x y z).size≤27:=by
 have h1:=bX a b c;have h2:=bX x y z;have z2:(⟨#[62,61]⟩:ByteArray).size=2:=rfl;have z4:(⟨#[60,61]⟩:ByteArray).size=2:=rfl;have z5:(⟨#[42]⟩:ByteArray).size=1:=rfl;have z3:(⟨#[32,60,61]⟩:ByteArray).size=3:=rfl;unfold cV
 repeat' split
 all_goals first|omega|(simp only [bA];omega)
theorem kO (m:Nat):∀ (l:List (List UInt8)),(∀ x ∈ l,x.length≤m)→Lib.lens l≤m*l.length
 |[],_=>by simp [Lib.lens]
 |x::l,h=>by
  have ih:=kO m l fun y hy=>h y (List.mem_cons_of_mem _ hy)
  have hx:=h x List.mem_cons_self
  have:Lib.lens (x::l)=x.length+Lib.lens l:=by simp [Lib.lens]
  rw [this,List.length_cons,Nat.mul_succ];omega
theorem rM {A:Rg} (h:A.length≤64):(Lib.join (A.map fun p=>(spT p).data.toList) [32,124,124,32]).length≤10000:=by
 cases A with
 |nil=>simp [Lib.join_nil]
 |cons p A=>
  rw [List.map_cons,Lib.join_length,←List.map_cons (f:=fun p=>(spT p).data.toList)]
  have:=kO 27 ((p::A).map fun p=>(spT p).data.toList) (by
   intro x hx;obtain ⟨q,_,rfl⟩:=List.mem_map.1 hx;exact iH _ _ _ _ _ _)
  simp only [List.length_map,List.length_cons,List.length_nil] at*;omega
theorem uD {w:World} {B:Nat} {v:Value} {A:Rg} (h:OwnT w B v (A.map spT)) (hl:A.length≤64) (h0:A≠[]):
 Calls Tryz.prog 236 #[v,.string ⟨#[32,124,124,32]⟩] w fun e w'=>e= .returned (.string (dT A))∧Below w.heap.size w w':=by
 have hlt:=fun g hg=>(h.lt (g:=g) hg).1
 rcases h.2 with ⟨_,hn⟩|⟨g,cap,cur,rfl,hB,hgg,hc,hm,hs,hx⟩
 · rw [List.length_map] at hn
   exact (h0 (List.eq_nil_of_length_eq_zero hn)).elim
 · have hj:=rM hl
   have hmm:(A.map spT).map (·.data.toList)=A.map fun p=>(spT p).data.toList:=by rw [List.map_map];rfl
   refine (Tryz.strings_Join g 0 cap (A.map spT) ⟨#[32,124,124,32]⟩ w ?_ (hlt g rfl) (by rw [List.length_map];omega) hc (by rw [hmm];show (Lib.join _ [32,124,124,32]).length≤_;omega)).mono ?_
   · intro j x hj
     have:(((A.map spT).map Value.string))[j]? =some (.string x):=by rw [List.getElem?_map,hj];rfl
     rw [←hx,List.getElem?_take] at this
     split at this
     · rw [Nat.zero_add]
       simp [World.cell?,hgg]
       simpa using this
     · cases this
   · rintro e w' ⟨rfl,hb⟩
     refine ⟨?_,hb⟩;rw [hmm];cases A with
     |nil=>exact (h0 rfl).elim
     |cons p A=>rfl
set_option maxHeartbeats 3200000 in
theorem lV (A:Rg) (g o cap:Nat) (w:World) (he:Env w) (hf:FL w) (hlen:A.length≤64) (h0:((A.length:Int)==0)=false) (hg:g<w.heap.size) (hl:∀ i (h:i<A.length),SpAt w g (o+i*6) (spR A[i]))
 (HMay:Hid (Calls Tryz.prog 96 #[.slice (some ⟨g,o,none⟩) A.length cap] w fun e w'=>e= .returned (.bool true)∧Below w.heap.size w w')):
 Calls Tryz.prog 201 #[.slice (some ⟨g,o,none⟩) A.length cap] w fun e w'=>e= .returned (.string (dT A))∧Below w.heap.size w w':=by
 have HL:Hid (∀ w1,Below w.heap.size w w1→∀ i (h:i<A.length),SpAt w1 g (o+i*6) (spR A[i])):=fun w1 hb i hi=>(hl i hi).below hb hg
 have HP:Hid (∀ (p:Int×Int) w1,Below w.heap.size w w1→Calls Tryz.prog 235 #[.agg #[.int .i64 (atA p.1),.int .i64 (atB p.1),.int .i64 (atC p.1),.int .i64 (atA p.2),.int .i64 (atB p.2),.int .i64 (atC p.2)]] w1 fun e w'=>e= .returned (.string (spT p))∧Below w1.heap.size w1 w'):=fun p w1 hb=>jL _ _ _ _ _ _ w1 (he.below hb) (hf.below hb)
 have HJ:Hid (∀ w1 v1,OwnT w1 w.heap.size v1 (A.map spT)→Calls Tryz.prog 236 #[v1,.string ⟨#[32,124,124,32]⟩] w1 fun e w'=>e= .returned (.string (dT A))∧Below w1.heap.size w1 w'):=fun w1 v1 h=>uD h hlen (fun e=>by subst e;simp at h0)
 clear hl he hf
 go_enter Tryz.func201,Tryz.ntmps201
 go_wp2_with (go_at_call 96;refine HMay.out.mono ?_;rintro e w1 ⟨rfl,ok1⟩;have HO1:=aA ok1;clear ok1)
 go_loopw [3,17] (fun out i wr=>∃ k:Nat,k≤A.length∧i= .int .i64 k∧Below w.heap.size w wr∧OwnT wr w.heap.size out ((A.take k).map spT)) (fun _ i _=>A.length - (intOf i).toNat)
 case atStart=>exact ⟨0,Nat.zero_le _,rfl,HO1.out,OwnT.nil _ _⟩
 case round=>
  obtain ⟨k,hk,rfl,hb,hown⟩:=hrel;have HB:=aA hb;have HOWN:=aA hown;clear hown
  by_cases hlt:k<A.length
  · have hs:=HL.out wr hb k hlt
    have HD:Hid ((A.take k).map spT++[spT A[k]]=(A.take (k+1)).map spT):=by unfold Hid;rw [List.take_succ_eq_append_getElem hlt,List.map_append];rfl
    generalize A[k]=p at*;obtain ⟨lo,hi⟩:=p;obtain ⟨c0,c1,c2,c3,c4,c5⟩:=hs;simp only [spR] at c0 c1 c2 c3 c4 c5;have HPp:=aA (fun w1 hb=>HP.out (lo,hi) w1 hb);have HLN:Hid (((A.take k).map spT).length+1≤1000000000000):=by unfold Hid;simp;omega
    clear hb
    go_wp2_with (first
     |(go_at_call 235;refine (HPp.out _ (aB HB.out (aD _ _))).mono ?_;rintro e w2 ⟨rfl,ok2⟩;have HO2:Hid (Below w.heap.size w w2∧OwnT w2 w.heap.size u3 ((A.take k).map spT)):=⟨aB (aB HB.out (aD _ _)) ok2,(HOWN.out.below (aD _ _)).below ok2⟩;clear ok2)
     |(at_builtin;refine wO (uo:=u3) (ts:=(A.take k).map spT) rfl (.tmp 21) (.tmp 24) rfl rfl HO2.out rfl rfl HLN.out ?_;intro v3 w3 ok3;have HO3:=aA ok3;clear ok3))
    exact ⟨⟨k+1,by omega,by go_num,HO3.out.1,by rw [←HD.out];exact HO3.out.2⟩,by simp [intOf];omega⟩
  · have hke:k=A.length:=by omega
    subst hke;have HOW2:Hid (OwnT wr w.heap.size u3 (A.map spT)):=by have:=HOWN.out;rw [List.take_length] at this;exact this
    clear hb
    go_wp2_with (go_at_call 236;refine (HJ.out _ _ HOW2.out).mono ?_;rintro e w2 ⟨rfl,ok2⟩;have HO2:=aA ok2;clear ok2)
    go_ret;exact ⟨rfl,aB HB.out HO2.out⟩
theorem iI (ad:Option Addr) (cap:Nat) (w:World) (he:Env w) (hf:FL w):
 Calls Tryz.prog 201 #[.slice ad 0 cap] w fun e w'=>e= .returned (.string (dT []))∧Below w.heap.size w w':=by
 have HMay:=aA (lQ ad cap w);have HP:Hid (∀ w1,Below w.heap.size w w1→Calls Tryz.prog 132 #[.agg #[.int .i64 0,.int .i64 0,.int .i64 0]] w1 fun e w'=>e= .returned (.string (aZ 0 0 0))∧Below w1.heap.size w1 w'):=fun w1 hb=>iG he.tab 0 0 0 w1 hb
 have HF:=aA hf;have HR:Hid (dT []=⟨#[60]⟩++aZ 0 0 0):=rfl;have zT:=bX 0 0 0;have z2:(⟨#[60]⟩:ByteArray).size=1:=rfl;generalize aZ 0 0 0=T at*;have s1:=fun W:World=>run_string_add_sum (P:=Tryz.prog) (w:=W) ⟨#[60]⟩ T (by omega)
 clear zT z2 he hf
 go_enter Tryz.func201,Tryz.ntmps201
 go_wp2_with (first
  |(go_at_call 96;refine HMay.out.mono ?_;rintro e w1 ⟨rfl,ok1⟩;obtain ⟨⟨g0,g1,g2⟩,_⟩:=HF.out.below ok1;have HO1:=aA ok1;clear ok1)
  |(go_at_call 132;refine (HP.out _ HO1.out).mono ?_;rintro e w2 ⟨rfl,ok2⟩;have HO2:=aA ok2;clear ok2))
 go_ret;exact ⟨by rw [HR.out];rfl,aB HO1.out HO2.out⟩
theorem rN {A:Rg} (hA:RangeR A) (hl:A.length≤64) {v:Value} {w:World} (h:SpansR w v A) (he:Env w) (hf:FL w):
 Calls Tryz.prog 201 #[v] w fun e w'=>e= .returned (.string (dT A))∧Below w.heap.size w w':=by
 have HM:Hid (Calls Tryz.prog 96 #[v] w fun e w'=>e= .returned (.bool true)∧Below w.heap.size w w'):=by have:=lR h.at;rw [yY hA hl] at this;exact this
 obtain ⟨ad,cap,rfl,hc,hs⟩:=h
 rcases hs with rfl|⟨g,o,rfl,hg,hs⟩
 · exact iI ad cap w he hf
 · cases A with
   |nil=>exact iI _ cap w he hf
   |cons p A=>exact lV (p::A) g o cap w he hf hl (by simp;omega) hg hs HM
end Go.Proofs.YtpfemjlhklnfoaaGreatDoor
namespace Go.Proofs.YtpfemjlhklnfoaaGreatDoor
open Go.ChangeShapes Go.WideShapes Go.ChangeAt Go.RowKit
set_option maxRecDepth 100000
theorem fF {H:Type} {enc:TypeId×Value→H} {W:World} {base:Nat} {spare:Nat→Bool} {held:Bool} {n:Nat} {cs:List Value} {x:DataW H×List MemPlace} (h:DataW.trod enc Tryz.prog W base spare held n 31 cs=some x):
 ∃ a b c,cs[0]? =some (.int .i64 a)∧cs[1]? =some (.int .i64 b)∧cs[2]? =some (.int .i64 c)∧x.1= .agg [.lit (.int .i64 a),.lit (.int .i64 b),.lit (.int .i64 c)]:=by
 have hs:Tryz.prog.underlying 31=some (.struct (Tryz.prog.fieldsOf 31)):=by kernel_rfl
 obtain ⟨xs,n',_,hx,_,hxl,hf⟩:=DataW.trod_struct hs h;have hfz:(Tryz.prog.fieldsOf 31).size=3:=by kernel_rfl
 have ints:∀ i off,((Tryz.prog.fieldsOf 31)[i]?).map (fun f=>(f.type,f.offset))=some (3,off)→i<3→∃ k,cs[off]? =some (.int .i64 k)∧xs[i]? =some (.lit (.int .i64 k),[]):=by
  intro i off hfd hi;obtain ⟨f,h1,h2,h3⟩:=bB hfd;have hr:=hf i f h1;rw [h2,h3,lT,List.getElem?_eq_getElem (by omega:i<xs.length)] at hr;obtain ⟨k,e1,e2,wk⟩:=DataW.trod_int Tryz.underlying3 hr;exact ⟨k,lU e1,by rw [List.getElem?_eq_getElem (by omega:i<xs.length),e2]⟩
 obtain ⟨a,a0,x0⟩:=ints 0 0 (by kernel_rfl) (by decide);obtain ⟨b,a1,x1⟩:=ints 1 1 (by kernel_rfl) (by decide);obtain ⟨c,a2,x2⟩:=ints 2 2 (by kernel_rfl) (by decide);refine ⟨a,b,c,a0,a1,a2,?_⟩;rw [hx];obtain ⟨y0,y1,y2,rfl⟩:=yP (l:=xs) (by omega)
 simp at x0 x1 x2
 subst x0 x1 x2;rfl
theorem lW {W:World} {nm:String} {a b c:Int} {r:List (String×DataW Unit)} {g:Nat} (hg:Tryz.prog.globalNamed nm=some g) (hty:(Tryz.prog.globals[g]?).map (·.type)=some 31)
 (h:laidMet Tryz.prog ((nm,.agg [.lit (.int .i64 a),.lit (.int .i64 b),.lit (.int .i64 c)])::r) W):
 W.cell? ⟨g,0,none⟩=some (.int .i64 a)∧W.cell? ⟨g,1,none⟩=some (.int .i64 b)∧W.cell? ⟨g,2,none⟩=some (.int .i64 c):=by
 obtain ⟨ps,⟨g',t',cs,fuel,p,q,hg',ht',hvar,hd,_,_⟩,_⟩:=h;obtain rfl:=Option.some.inj (hg.symm.trans hg');obtain rfl:=Option.some.inj (hty.symm.trans ht');obtain ⟨x,y,z,e0,e1,e2,hx⟩:=fF hd
 simp at hx
 obtain ⟨rfl,rfl,rfl⟩:=hx;have c0:=World.var?_cell hg hvar 0;have c1:=World.var?_cell hg hvar 1;have c2:=World.var?_cell hg hvar 2;exact ⟨by rw [c0];simpa using e0,by rw [c1];simpa using e1,by rw [c2];simpa using e2⟩
abbrev zW:List (String×DataW Unit):=[("math/bits.deBruijn32tab",Rows.laid_math_bits_deBruijn32tab),("math/bits.deBruijn64tab",Rows.laid_math_bits_deBruijn64tab),("internal/strconv.uint64pow10",Rows.laid_internal_strconv_uint64pow10),("halyard/span.first",Rows.laid_halyard_span_first),("halyard/span.last",Rows.laid_halyard_span_last)]
theorem qJ {W:World} (h:laidMet Tryz.prog zW W):Env W∧FL W:=by
 have hT:=yZ h;have h5:=laidMet.tail (laidMet.tail (laidMet.tail h));have h6:=laidMet.tail h5;have f1:=lW (g:=1) (by kernel_rfl) (by kernel_rfl) h5;have f2:=lW (g:=2) (by kernel_rfl) (by kernel_rfl) h6;exact ⟨{ tab:=hT },f1,f2,cU f1.1,cU f2.1⟩
end Go.Proofs.YtpfemjlhklnfoaaGreatDoor
namespace Go.Proofs.YtpfemjlhklnfoaaGreatDoor.Sc
set_option maxRecDepth 100000
abbrev Bs:=List UInt8
end Go.Proofs.YtpfemjlhklnfoaaGreatDoor.Sc
namespace Go.Proofs.YtpfemjlhklnfoaaGreatDoor.Sc
open Go.RowKit
set_option maxRecDepth 100000
theorem aA {p:Prop} (h:p):Hid p:=h
theorem aC {a b:Bool} (h:a=b):Ending.returned (.bool a)= .returned (.bool b):=by rw [h]
theorem aT {a b:Int} (h:a=b):Ending.returned (.int .i64 a)= .returned (.int .i64 b):=by rw [h]
theorem aB {w w1 w':World} (h:Below w.heap.size w w1) (hb:Below w1.heap.size w1 w'):Below w.heap.size w w':=h.trans (hb.mono h.size)
theorem bM {s t:ByteArray} (h:s.toList=t.toList):s=t:=by
 rw [ByteArray.toList_eq,ByteArray.toList_eq] at h;cases s;cases t;simp only [ByteArray.mk.injEq];exact Array.toList_inj.1 h
theorem aV (s:ByteArray):s.data.toList.length=s.size:=rfl
theorem bN {e:TypeId} {z:Value} {n b:Nat} (h:(Tryz.prog.info? e).map (fun i=>(i.zero,i.size,i.bytes))=some (some z,n,b)):∃ i,Tryz.prog.info? e=some i∧i.zero=some z∧i.size=n∧i.bytes=b:=by
 cases hi:Tryz.prog.info? e with
 |none=>rw [hi] at h;cases h
 |some i=>
  rw [hi] at h;simp only [Option.map_some,Option.some.injEq,Prod.mk.injEq] at h;exact ⟨i,rfl,h.1,h.2.1,h.2.2⟩
section
variable {J:Nat→Act→World→Prop} {Q:Exit→Act→World→Prop} {a:Act} {w:World}
end
def KeepP (K:World→Prop):Prop:=∀ w w',K w→Below w.heap.size w w'→K w'
theorem KeepP.and {K M:World→Prop} (hk:KeepP K) (hm:KeepP M):KeepP fun w=>K w∧M w:=fun _ _ h hb=>⟨hk _ _ h.1 hb,hm _ _ h.2 hb⟩
theorem aL (w:World):KeepP fun w1=>Below w.heap.size w w1:=fun _ _ h hb=>aB h hb
def aH (w:World) (g i:Nat) (v:Value):Prop:=w.cell? ⟨g,i,none⟩=some v∧g<w.heap.size
end Go.Proofs.YtpfemjlhklnfoaaGreatDoor.Sc
namespace Go.Proofs.YtpfemjlhklnfoaaGreatDoor
open Go.RowKit
set_option maxRecDepth 100000
theorem uE (p q r p' q' r':Int) (w:World):(Op.equalIn 9999 31 (.agg #[.int .i64 p,.int .i64 q,.int .i64 r]) (.agg #[.int .i64 p',.int .i64 q',.int .i64 r'])).run Tryz.prog w= .ok (decide (p=p')&&decide (q=q')&&decide (r=r')) w:=by
 have u3:=Tryz.underlying3;have a3:=Tryz.isAgg3;have z3:=Tryz.sizeOf3;rw [show (9999:Nat)=9998+1 from rfl,run_equalIn_agg w 9998 31 _ _ (by kernel_rfl) (by kernel_rfl)];simp only [Program.fieldsOf,Tryz.underlying31]
 by_cases h1:p=p'
 · by_cases h2:q=q'
   · by_cases h3:r=r'
     · subst h1 h2 h3;go_simp
     · subst h1 h2;simp only [h3,decide_false,Bool.and_false];go_simp
   · subst h1;simp only [h2,decide_false,Bool.and_false,Bool.false_and];go_simp
 · simp only [h1,decide_false,Bool.false_and];go_simp
def bD (p q:Pn):Bool:=decide (p.nm.toList=q.nm.toList)&&(decide (p.a=q.a)&&decide (p.b=q.b)&&decide (p.c=q.c))
theorem bI {p q:Pn}:bD p q=true↔p=q:=by
 obtain ⟨s,a,b,c⟩:=p;obtain ⟨s',a',b',c'⟩:=q;unfold bD;simp only [Bool.and_eq_true,decide_eq_true_eq,Pn.mk.injEq];exact ⟨fun ⟨h1,⟨h2,h3⟩,h4⟩=>⟨Sc.bM h1,h2,h3,h4⟩,fun ⟨h1,h2,h3,h4⟩=>⟨by rw [h1],⟨h2,h3⟩,h4⟩⟩
theorem eI (op:BinOp) (x y:Operand) (xs ys:Array Value) (w:World):(eqGuard op 80 x y (.agg xs) (.agg ys)).run Tryz.prog w= .ok () w:=run_eqGuard_agg w op 80 x y xs ys (by kernel_rfl)
theorem qK (p q:Pn) (w:World):(binOp .neq 80 (.agg #[.string p.nm,.int .i64 p.a,.int .i64 p.b,.int .i64 p.c]) (.agg #[.string q.nm,.int .i64 q.a,.int .i64 q.b,.int .i64 q.c])).run Tryz.prog w= .ok (.bool (!(bD p q))) w:=by
 obtain ⟨s,a,b,c⟩:=p;obtain ⟨s',a',b',c'⟩:=q;have av:=Tryz.isAgg31;have zv:=Tryz.sizeOf31;have u9:=Tryz.underlying9;have a9:=Tryz.isAgg9;have z9:=Tryz.sizeOf9;have h1:=uE a b c a' b' c' w;rw [run_neq_struct,show (10000:Nat)=9999+1 from rfl,run_equalIn_agg w 9999 80 _ _ (by kernel_rfl) (by kernel_rfl)];simp only [Program.fieldsOf,Tryz.underlying80];unfold bD
 simp only
 by_cases hs:s.toList=s'.toList
 · obtain rfl:=Sc.bM hs
   by_cases hv:a=a'∧b=b'∧c=c'
   · obtain ⟨rfl,rfl,rfl⟩:=hv
     go_simp
   · have hx:(decide (a=a')&&decide (b=b')&&decide (c=c'))=false:=by
      rw [Bool.eq_false_iff];intro e;simp only [Bool.and_eq_true,decide_eq_true_eq] at e;exact hv ⟨e.1.1,e.1.2,e.2⟩
     rw [hx];go_simp;intro e1 e2 e3;exact hv ⟨e1,e2,e3⟩
 · generalize (decide (a=a')&&decide (b=b')&&decide (c=c'))=xv at*
   simp only [hs,decide_false,Bool.false_and];go_simp
theorem uF (p q:Pn) (w:World):(binOp .eql 80 (.agg #[.string p.nm,.int .i64 p.a,.int .i64 p.b,.int .i64 p.c]) (.agg #[.string q.nm,.int .i64 q.a,.int .i64 q.b,.int .i64 q.c])).run Tryz.prog w= .ok (.bool (bD p q)) w:=by
 obtain ⟨s,a,b,c⟩:=p;obtain ⟨s',a',b',c'⟩:=q;have av:=Tryz.isAgg31;have zv:=Tryz.sizeOf31;have u9:=Tryz.underlying9;have a9:=Tryz.isAgg9;have z9:=Tryz.sizeOf9;have h1:=uE a b c a' b' c' w;rw [run_eql_struct,show (10000:Nat)=9999+1 from rfl,run_equalIn_agg w 9999 80 _ _ (by kernel_rfl) (by kernel_rfl)];simp only [Program.fieldsOf,Tryz.underlying80];unfold bD
 simp only
 by_cases hs:s.toList=s'.toList
 · obtain rfl:=Sc.bM hs
   by_cases hv:a=a'∧b=b'∧c=c'
   · obtain ⟨rfl,rfl,rfl⟩:=hv
     go_simp
   · have hx:(decide (a=a')&&decide (b=b')&&decide (c=c'))=false:=by
      rw [Bool.eq_false_iff];intro e;simp only [Bool.and_eq_true,decide_eq_true_eq] at e;exact hv ⟨e.1.1,e.1.2,e.2⟩
     rw [hx];go_simp;intro e1 e2 e3;exact hv ⟨e1,e2,e3⟩
 · generalize (decide (a=a')&&decide (b=b')&&decide (c=c'))=xv at*
   simp only [hs,decide_false,Bool.false_and];go_simp
noncomputable def eqB {α:Type} (x y:α):Bool:= @decide (x=y) (Classical.propDecidable _)
theorem aN {α:Type} {x y:α} (h:x=y):eqB x y=true:=by unfold eqB;exact @decide_eq_true _ (Classical.propDecidable _) h
theorem cD {α:Type} {x y:α} (h:x≠y):eqB x y=false:=by unfold eqB;exact @decide_eq_false _ (Classical.propDecidable _) h
theorem kP {α:Type} {x y:α}:eqB x y=true↔x=y:=⟨fun h=>by unfold eqB at h;exact @of_decide_eq_true _ (Classical.propDecidable _) h,aN⟩
theorem AH (p q r p' q' r':Int) (w:World):(binOp .eql 31 (.agg #[.int .i64 p,.int .i64 q,.int .i64 r]) (.agg #[.int .i64 p',.int .i64 q',.int .i64 r'])).run Tryz.prog w= .ok (.bool (decide (p=p')&&decide (q=q')&&decide (r=r'))) w:=by
 have u3:=Tryz.underlying3;have a3:=Tryz.isAgg3;have z3:=Tryz.sizeOf3;rw [run_eql_struct,show (10000:Nat)=9999+1 from rfl,run_equalIn_agg w 9999 31 _ _ (by kernel_rfl) (by kernel_rfl)];simp only [Program.fieldsOf,Tryz.underlying31]
 by_cases h1:p=p'
 · by_cases h2:q=q'
   · by_cases h3:r=r'
     · subst h1 h2 h3;go_simp
     · subst h1 h2;simp only [h3,decide_false,Bool.and_false];go_simp
   · subst h1;simp only [h2,decide_false,Bool.and_false,Bool.false_and];go_simp
 · simp only [h1,decide_false,Bool.false_and];go_simp
def BxEg (w:World) (N:Nat) (p:Eg):Prop:=(w.cell? ⟨N,0,none⟩=some (.string p.lb)∧w.cell? ⟨N,1,none⟩=some (.int .i64 p.to))∧N<w.heap.size
theorem uG (N:Nat) (p:Eg):KeepP fun w1=>BxEg w1 N p:=fun w w' h hb=>by
 obtain ⟨⟨h0,h1⟩,hg⟩:=h;have q:∀ i,w'.cell? ⟨N,i,none⟩=w.cell? ⟨N,i,none⟩:=fun i=>hb.cell (p:=⟨N,i,none⟩) hg
 exact ⟨⟨by rw [q];exact h0,by rw [q];exact h1⟩,Nat.lt_of_lt_of_le hg hb.size⟩
theorem BxEg.new {w:World} {N:Nat} (hN:w.heap.size=N) (p:Eg):BxEg (w.alloc (.cells #[.string p.lb,.int .i64 p.to] 77)) N p:=by
 subst hN;refine ⟨⟨?_,?_⟩,?_⟩<;>simp
def BxNd (w:World) (N:Nat) (n:Nd) (vc ve:Value):Prop:=(w.cell? ⟨N,0,none⟩=some (.string n.nm)∧w.cell? ⟨N,1,none⟩=some (.int .i64 n.a)∧w.cell? ⟨N,2,none⟩=some (.int .i64 n.b)∧w.cell? ⟨N,3,none⟩=some (.int .i64 n.c)∧w.cell? ⟨N,4,none⟩=some vc∧w.cell? ⟨N,5,none⟩=some ve)∧N<w.heap.size
theorem aJ (N:Nat) (n:Nd) (vc ve:Value):KeepP fun w1=>BxNd w1 N n vc ve:=fun w w' h hb=>by
 obtain ⟨⟨h0,h1,h2,h3,h4,h5⟩,hg⟩:=h;have q:∀ i,w'.cell? ⟨N,i,none⟩=w.cell? ⟨N,i,none⟩:=fun i=>hb.cell (p:=⟨N,i,none⟩) hg
 exact ⟨⟨by rw [q];exact h0,by rw [q];exact h1,by rw [q];exact h2,by rw [q];exact h3,by rw [q];exact h4,by rw [q];exact h5⟩,Nat.lt_of_lt_of_le hg hb.size⟩
theorem BxNd.new {w:World} {N:Nat} (hN:w.heap.size=N) (n:Nd) (vc ve:Value):BxNd (w.alloc (.cells #[.string n.nm,.int .i64 n.a,.int .i64 n.b,.int .i64 n.c,vc,ve] 67)) N n vc ve:=by
 subst hN;refine ⟨⟨?_,?_,?_,?_,?_,?_⟩,?_⟩<;>simp
def BxG (w:World) (N:Nat) (v:Value):Prop:=w.cell? ⟨N,0,none⟩=some v∧N<w.heap.size
theorem aW (N:Nat) (v:Value):KeepP fun w1=>BxG w1 N v:=fun _ _ h hb=>⟨(hb.cell (p:=⟨N,0,none⟩) h.2).trans h.1,Nat.lt_of_lt_of_le h.2 hb.size⟩
theorem BxG.new {w:World} {N:Nat} (hN:w.heap.size=N) (v:Value):BxG (w.alloc (.cells #[v] 55)) N v:=by
 subst hN;exact ⟨by simp,by simp⟩
end Go.Proofs.YtpfemjlhklnfoaaGreatDoor
namespace Go.Proofs.YtpfemjlhklnfoaaGreatDoor.Rg
open Go.ChangeShapes Go.WideShapes Go.ChangeAt Go.RowKit
set_option maxRecDepth 100000
theorem fF {H:Type} {enc:TypeId×Value→H} {W:World} {base:Nat} {spare:Nat→Bool} {held:Bool} {n:Nat} {cs:List Value} {x:DataW H×List MemPlace} (h:DataW.trod enc Tryz.prog W base spare held n 31 cs=some x):
 ∃ a b c,cs[0]? =some (.int .i64 a)∧cs[1]? =some (.int .i64 b)∧cs[2]? =some (.int .i64 c)∧x.1= .agg [.lit (.int .i64 a),.lit (.int .i64 b),.lit (.int .i64 c)]:=by
 have hs:Tryz.prog.underlying 31=some (.struct (Tryz.prog.fieldsOf 31)):=by kernel_rfl
 obtain ⟨xs,n',_,hx,_,hxl,hf⟩:=DataW.trod_struct hs h;have hfz:(Tryz.prog.fieldsOf 31).size=3:=by kernel_rfl
 have ints:∀ i off,((Tryz.prog.fieldsOf 31)[i]?).map (fun f=>(f.type,f.offset))=some (3,off)→i<3→∃ k,cs[off]? =some (.int .i64 k)∧xs[i]? =some (.lit (.int .i64 k),[]):=by
  intro i off hfd hi;obtain ⟨f,h1,h2,h3⟩:=bB hfd;have hr:=hf i f h1;rw [h2,h3,lT,List.getElem?_eq_getElem (by omega:i<xs.length)] at hr;obtain ⟨k,e1,e2,wk⟩:=DataW.trod_int Tryz.underlying3 hr;exact ⟨k,lU e1,by rw [List.getElem?_eq_getElem (by omega:i<xs.length),e2]⟩
 obtain ⟨a,a0,x0⟩:=ints 0 0 (by kernel_rfl) (by decide);obtain ⟨b,a1,x1⟩:=ints 1 1 (by kernel_rfl) (by decide);obtain ⟨c,a2,x2⟩:=ints 2 2 (by kernel_rfl) (by decide);refine ⟨a,b,c,a0,a1,a2,?_⟩;rw [hx];obtain ⟨y0,y1,y2,rfl⟩:=yP (l:=xs) (by omega)
 simp at x0 x1 x2
 subst x0 x1 x2;rfl
theorem fG {α:Type} {P:Nat→α→Prop}:∀ {n:Nat},(∀ i,i<n→∃ s,P i s)→∃ L:List α,L.length=n∧∀ i (h:i<L.length),P i L[i]
 |0,_=>⟨[],rfl,fun i h=>by simp at h⟩
 |n+1,h=>by
  obtain ⟨L,hl,hP⟩:=fG (n:=n) fun i hi=>h i (by omega)
  obtain ⟨s,hs⟩:=h n (by omega);refine ⟨L++[s],by simp [hl],fun i hi=> ?_⟩
  by_cases hin:i<L.length
  · rw [List.getElem_append_left hin];exact hP i hin
  · have:i=n:=by simp at hi;omega
    subst this
    simpa [hl] using hs
theorem eS {cs:List Value} {o:Nat} {v:Value} (h:(cs.drop o).take 1=[v]):cs[o]? =some v:=by
 have h0:((cs.drop o).take 1)[0]? =some v:=by rw [h];rfl
 simpa using h0
theorem eJ:Tryz.prog.cellsOf 9=1:=by kernel_rfl
theorem uH:Tryz.prog.cellsOf 80=4:=by kernel_rfl
theorem rO:Tryz.prog.cellsOf 77=2:=by kernel_rfl
theorem jS:Tryz.prog.cellsOf 67=6:=by kernel_rfl
theorem jT:Tryz.prog.cellsOf 40=1:=by kernel_rfl
theorem iJ:Tryz.prog.cellsOf 65=1:=by kernel_rfl
theorem oI:Tryz.prog.cellsOf 53=1:=by kernel_rfl
theorem oJ:Tryz.prog.cellsOf 55=1:=by kernel_rfl
theorem rP:Tryz.prog.cellsOf 3=1:=by kernel_rfl
theorem uI {H:Type} {enc:TypeId×Value→H} {W:World} {base:Nat} {held:Bool} {n:Nat} {g o:Nat} {cs:List Value} {x:DataW H×List MemPlace} (hc:W.cells? base ⟨g,o,none⟩ 4=some cs) (h:DataW.trod enc Tryz.prog W base (fun _=>true) held n 80 cs=some x):∃ d:Pn,PnIn W g o d∧d.nm.size≤9223372036854775807:=by
 have hs:Tryz.prog.underlying 80=some (.struct (Tryz.prog.fieldsOf 80)):=by kernel_rfl
 obtain ⟨xs,n',_,_,_,hxl,hf⟩:=DataW.trod_struct hs h;have hsz:(Tryz.prog.fieldsOf 80).size=2:=by kernel_rfl
 obtain ⟨_,hcl,hq⟩:=World.cells?_some hc;obtain ⟨f0,i0,t0,o0⟩:=bB (fs:=Tryz.prog.fieldsOf 80) (i:=0) (ty:=9) (off:=0) (by kernel_rfl);obtain ⟨f1,i1,t1,o1⟩:=bB (fs:=Tryz.prog.fieldsOf 80) (i:=1) (ty:=31) (off:=1) (by kernel_rfl);have r0:=hf 0 f0 i0;have r1:=hf 1 f1 i1;rw [t0,o0,eJ,List.getElem?_eq_getElem (by omega:0<xs.length)] at r0;rw [t1,o1,iF,List.getElem?_eq_getElem (by omega:1<xs.length)] at r1;obtain ⟨s,e0,_,hs0⟩:=DataW.trod_string Tryz.underlying9 r0;obtain ⟨a,b,c,ea,eb,ec,_⟩:=fF r1;have ka:((cs.drop 1).take 3)[0]? =some (.int .i64 a):=ea;have kb:((cs.drop 1).take 3)[1]? =some (.int .i64 b):=eb;have kc:((cs.drop 1).take 3)[2]? =some (.int .i64 c):=ec;have q0:=hq 0 (by decide);have q1:=hq 1 (by decide);have q2:=hq 2 (by decide);have q3:=hq 3 (by decide);have ad:∀ i,(⟨g,o,none⟩:Addr).add i=⟨g,o+i,none⟩:=fun i=>by unfold Addr.add;split<;>simp_all
 simp at ka kb kc
 rw [ad,eS e0] at q0;rw [ad,ka] at q1;rw [ad,kb] at q2;rw [ad,kc] at q3;exact ⟨⟨s,a,b,c⟩,⟨⟨q0,q1,q2,q3⟩,cU q0⟩,by unfold maxLen at hs0;exact hs0⟩
theorem rQ {H:Type} {enc:TypeId×Value→H} {W:World} {base:Nat} {held:Bool} {n:Nat} {g o:Nat} {cs:List Value} {x:DataW H×List MemPlace} (hc:W.cells? base ⟨g,o,none⟩ 2=some cs) (h:DataW.trod enc Tryz.prog W base (fun _=>true) held n 77 cs=some x):∃ d:Eg,EgIn W g o d∧d.lb.size≤9223372036854775807:=by
 have hs:Tryz.prog.underlying 77=some (.struct (Tryz.prog.fieldsOf 77)):=by kernel_rfl
 obtain ⟨xs,n',_,_,_,hxl,hf⟩:=DataW.trod_struct hs h;have hsz:(Tryz.prog.fieldsOf 77).size=2:=by kernel_rfl
 obtain ⟨_,hcl,hq⟩:=World.cells?_some hc;obtain ⟨f0,i0,t0,o0⟩:=bB (fs:=Tryz.prog.fieldsOf 77) (i:=0) (ty:=9) (off:=0) (by kernel_rfl);obtain ⟨f1,i1,t1,o1⟩:=bB (fs:=Tryz.prog.fieldsOf 77) (i:=1) (ty:=3) (off:=1) (by kernel_rfl);have r0:=hf 0 f0 i0;have r1:=hf 1 f1 i1;rw [t0,o0,eJ,List.getElem?_eq_getElem (by omega:0<xs.length)] at r0;rw [t1,o1,rP,List.getElem?_eq_getElem (by omega:1<xs.length)] at r1;obtain ⟨s,e0,_,hs0⟩:=DataW.trod_string Tryz.underlying9 r0;obtain ⟨k,e1,_,_⟩:=DataW.trod_int Tryz.underlying3 r1;have q0:=hq 0 (by decide);have q1:=hq 1 (by decide);have ad:∀ i,(⟨g,o,none⟩:Addr).add i=⟨g,o+i,none⟩:=fun i=>by unfold Addr.add;split<;>simp_all
 rw [ad,eS e0] at q0;rw [ad,eS e1] at q1;exact ⟨⟨s,k⟩,⟨⟨q0,q1⟩,cU q0⟩,by unfold maxLen at hs0;exact hs0⟩
theorem qL {H:Type} {enc:TypeId×Value→H} {W:World} {base fuel:Nat} {held:Bool} {cs:List Value} {x:DataW H×List MemPlace} (h:DataW.trod enc Tryz.prog W base (fun _=>true) held fuel 40 cs=some x):
 ∃ v L,cs=[v]∧PinsAt W v L∧L.length≤9223372036854775807∧∀ d ∈ L,d.nm.size≤9223372036854775807:=by
 rcases Go.Deep.open_slice Tryz.underlying40 h with ⟨rfl,_⟩|⟨ad,len,cap,m,n,D,Pl,rfl,_,hl,hcm,hm,hx,hel⟩
 · exact ⟨_,[],rfl,⟨none,0,rfl,Nat.le_refl _,Or.inl rfl⟩,by simp,(fun d hd=>by cases hd)⟩
 · have hz:len≤9223372036854775807:=by unfold maxLen at hcm;omega
   rcases Nat.eq_zero_or_pos len with h0|h0
   · subst h0
     exact ⟨_,[],rfl,⟨_,_,rfl,Nat.zero_le _,Or.inl rfl⟩,by simp,(fun d hd=>by cases hd)⟩
   · have hmm:len≤m:=by rw [hm];simp;exact hl
     rw [uH] at hel;obtain ⟨g,off,spot⟩:=ad;obtain ⟨cs0,hc0,_⟩:=hel 0 (by omega);obtain ⟨_,hln,hq⟩:=World.cells?_some hc0;have hcell:=hq 0 (by decide);rw [List.getElem?_eq_getElem (by omega:0<cs0.length)] at hcell;have hspot:spot=none:=by simpa [Addr.add] using World.cell?_spot hcell
     subst hspot;have ad2:∀ o i,(⟨g,o,none⟩:Addr).add i=⟨g,o+i,none⟩:=fun o i=>by unfold Addr.add;split<;>simp_all
     obtain ⟨L,hL,hP⟩:=fG (P:=fun i (d:Pn)=>PnIn W g (off+i*4) d∧d.nm.size≤9223372036854775807) (n:=len) fun i hi=>by
      obtain ⟨cs,hc,ht⟩:=hel i (by omega);rw [ad2] at hc;exact uI hc ht
     subst hL;refine ⟨_,L,rfl,⟨_,_,rfl,hl,Or.inr ⟨g,off,rfl,?_,fun i hi=>(hP i hi).1⟩⟩,hz,?_⟩
     · have:=cU hcell
       rw [ad2,ad2] at this;exact this
     · intro d hd
       obtain ⟨i,hi,rfl⟩:=List.getElem_of_mem hd;exact (hP i hi).2
theorem lX {H:Type} {enc:TypeId×Value→H} {W:World} {base fuel:Nat} {held:Bool} {cs:List Value} {x:DataW H×List MemPlace} (h:DataW.trod enc Tryz.prog W base (fun _=>true) held fuel 65 cs=some x):
 ∃ v L,cs=[v]∧EdgesAt W v L∧L.length≤9223372036854775807∧∀ d ∈ L,d.lb.size≤9223372036854775807:=by
 rcases Go.Deep.open_slice Tryz.underlying65 h with ⟨rfl,_⟩|⟨ad,len,cap,m,n,D,Pl,rfl,_,hl,hcm,hm,hx,hel⟩
 · exact ⟨_,[],rfl,⟨none,0,rfl,Nat.le_refl _,Or.inl rfl⟩,by simp,(fun d hd=>by cases hd)⟩
 · have hz:len≤9223372036854775807:=by unfold maxLen at hcm;omega
   rcases Nat.eq_zero_or_pos len with h0|h0
   · subst h0
     exact ⟨_,[],rfl,⟨_,_,rfl,Nat.zero_le _,Or.inl rfl⟩,by simp,(fun d hd=>by cases hd)⟩
   · have hmm:len≤m:=by rw [hm];simp;exact hl
     rw [rO] at hel;obtain ⟨g,off,spot⟩:=ad;obtain ⟨cs0,hc0,_⟩:=hel 0 (by omega);obtain ⟨_,hln,hq⟩:=World.cells?_some hc0;have hcell:=hq 0 (by decide);rw [List.getElem?_eq_getElem (by omega:0<cs0.length)] at hcell;have hspot:spot=none:=by simpa [Addr.add] using World.cell?_spot hcell
     subst hspot;have ad2:∀ o i,(⟨g,o,none⟩:Addr).add i=⟨g,o+i,none⟩:=fun o i=>by unfold Addr.add;split<;>simp_all
     obtain ⟨L,hL,hP⟩:=fG (P:=fun i (d:Eg)=>EgIn W g (off+i*2) d∧d.lb.size≤9223372036854775807) (n:=len) fun i hi=>by
      obtain ⟨cs,hc,ht⟩:=hel i (by omega);rw [ad2] at hc;exact rQ hc ht
     subst hL;refine ⟨_,L,rfl,⟨_,_,rfl,hl,Or.inr ⟨g,off,rfl,?_,fun i hi=>(hP i hi).1⟩⟩,hz,?_⟩
     · have:=cU hcell
       rw [ad2,ad2] at this;exact this
     · intro d hd
       obtain ⟨i,hi,rfl⟩:=List.getElem_of_mem hd;exact (hP i hi).2
def NdZ (n:Nd):Prop:=n.nm.size≤9223372036854775807∧(n.cx.length≤9223372036854775807∧∀ d ∈ n.cx,d.nm.size≤9223372036854775807)∧n.ed.length≤9223372036854775807∧∀ d ∈ n.ed,d.lb.size≤9223372036854775807
end Go.Proofs.YtpfemjlhklnfoaaGreatDoor.Rg
