/- Pure2, Fo3, Tx1, Row1, Tab1, Facts2, Next3, Parse1, Parse3, Tx2, Tx3, Tx4, Tx5, Pr1, Pr2, Kn1, Pk1: their declarations that are needed, laid in one text, remarks and blanks left out. -/
import Derived.Test.YtlmpiohbmlddiaaGreatDoorTie
import Derived.Test.YtlmpiohbmlddiaaGreatDoorCards
import Derived.ProofKit
import Derived.OpenShut
import Derived.ChangeOld
import Derived.LaidMore
import Derived.Lay
import Derived.SevenTiedAt
import Derived.Stop.Joined
import Derived.Shelf.Vars
import Derived.Deep.Slices
import Derived.Test.YtlmpiohbmlddiaaGreatDoorShelfB
import Derived.Lib.LaidTab
import Derived.Lib.AppendIntMem
import Derived.Stop.LaidErr
import Derived.Shelf.Strconv.AtoiAll
import Derived.Shelf.Strings.Cut
import Derived.Shelf.Strings.Split
import Derived.Shelf.Strings.IndexAnyAll
import Derived.Test.YtlmpiohbmlddiaaGreatDoorShelfC
import Derived.Lib.SplitLaws
import Derived.Lib.Join
import Derived.Laws.IdiomStrings
import Derived.Test.YtlmpiohbmlddiaaGreatDoorMo03
namespace Go.Proofs.YtlmpiohbmlddiaaGreatDoor
open Go.RowKit
def rk (s:Sp):Int×Int:=(bB s.a s.b s.c,bB s.x s.y s.z)
theorem eN {a b c x y z:Int}:eZ a b c x y z=true↔aZ a b c=true∧aZ x y z=true∧gH a b c x y z≤0:=by
 unfold eZ;simp [and_assoc]
theorem EM {a b c x y z:Int} (h:aZ a b c=true) (k:aZ x y z=true):gH a b c x y z≤0↔bB a b c≤bB x y z:=by
 have h1:=pK k h;rw [PH] at h1;omega
theorem LB {s:Sp} (h:eZ s.a s.b s.c s.x s.y s.z=true):spR (rk s)=s∧GP (rk s):=by
 obtain ⟨h1,h2,h3⟩:=eN.1 h;rw [EM h1 h2] at h3;obtain ⟨a,b,c,x,y,z⟩:=s;obtain ⟨e1,e2,e3⟩:=uV h1;obtain ⟨f1,f2,f3⟩:=uV h2;have l1:=fT h1;have l2:=fT h2;refine ⟨?_,?_,?_,?_⟩
 · simp only [spR,rk]
   simp only at e1 e2 e3 f1 f2 f3
   rw [e1,e2,e3,f1,f2,f3]
 · unfold okR rk;simp only at*;omega
 · unfold okR rk;simp only at*;omega
 · exact h3
theorem mS {p:Int×Int} (h:GP p):rk (spR p)=p∧eZ (spR p).a (spR p).b (spR p).c (spR p).x (spR p).y (spR p).z=true:=by
 obtain ⟨h1,h2,h3⟩:=h;obtain ⟨m1,e1⟩:=iN h1.has;obtain ⟨m2,e2⟩:=iN h2.has;refine ⟨?_,?_⟩
 · unfold rk spR;simp only;rw [e1,e2]
 · rw [eN]
   refine ⟨m1,m2,?_⟩;unfold spR
   simp only
   rw [EM m1 m2,e1,e2];exact h3
theorem wX {x y z a b c:Int} (h:aZ x y z=true) (k:aZ a b c=true):fU x y z a b c=true↔bB x y z+2≤bB a b c:=by
 unfold fU;have l1:=fT h;have l2:=fT k;rw [Bool.and_eq_true,decide_eq_true_eq]
 constructor
 · rintro ⟨h1,h2⟩
   obtain ⟨_,m,e⟩:=KY h1;rw [pK m k,e] at h2;omega
 · intro h1
   have h2:pJ x y z 1=true:=by rw [PI h];simp;omega
   obtain ⟨_,m,e⟩:=KY h2;refine ⟨h2,?_⟩;rw [pK m k,e];omega
theorem mT {s:Sp} {L:List Sp}:fF (s::L) 0=eZ s.a s.b s.c s.x s.y s.z:=by simp [fF]
theorem pN {s t:Sp} {L:List Sp}:fF (s::t::L) 1=(eZ t.a t.b t.c t.x t.y t.z&&fU s.x s.y s.z t.a t.b t.c):=by simp [fF]
theorem tE {s:Sp} {L:List Sp} {i:Nat}:fF (s::L) (i+1+1)=fF L (i+1):=by simp [fF]
theorem PK {s:Sp} {L:List Sp} (h:∀ i,i<(s::L).length→fF (s::L) i=true):∀ i,i<L.length→fF L i=true:=by
 intro i hi;cases i with
 |succ i=>rw [←tE (s:=s)];exact h _ (by simpa using hi)
 |zero=>
  cases L with
  |nil=>simp at hi
  |cons t L=>
   have:=h 1 (by simp)
   rw [pN,Bool.and_eq_true] at this;rw [mT];exact this.1
theorem EN:∀ {L:List Sp},(∀ i,i<L.length→fF L i=true)→(L.map rk).map spR=L∧RangeR (L.map rk)
 |[],_=>⟨rfl,trivial⟩
 |s::L,h=>by
  obtain ⟨e,hr⟩:=EN (PK h);have h0:=h 0 (by simp);rw [mT] at h0;obtain ⟨es,o1,o2,o3⟩:=LB h0;refine ⟨by rw [List.map_cons,List.map_cons,e,es],o1.1,o3,o2.2,?_⟩;cases L with
  |nil=>trivial
  |cons t L=>
   have h1:=h 1 (by simp);rw [pN,Bool.and_eq_true] at h1;have ha:=(wX (eN.1 h0).2.1 (eN.1 h1.1).1).1 h1.2;exact ⟨ha,hr.2⟩
theorem EO:∀ {A:Rg},RangeR A→∀ i,i<(A.map spR).length→fF (A.map spR) i=true
 |[],_,i,hi=>by simp at hi
 |p::A,h,i,hi=>by
  obtain ⟨g,e⟩:=p;obtain ⟨h1,h2,h3,h4⟩:=h;have ho:GP (g,e):=⟨⟨h1,by show g≤999999999;omega⟩,⟨by show 0≤e;omega,h3⟩,h2⟩;have ih:=EO (A:=A) (h4.weak (by omega));cases i with
  |zero=>rw [List.map_cons,mT];exact (mS ho).2
  |succ i=>
   cases i with
   |succ i=>rw [List.map_cons,tE];exact ih _ (by simpa using hi)
   |zero=>
    cases A with
    |nil=>simp at hi
    |cons q A=>
     obtain ⟨g',e'⟩:=q;obtain ⟨k1,k2,k3,_⟩:=h4;have hq:GP (g',e'):=⟨⟨by show 0≤g';omega,by show g'≤999999999;omega⟩,⟨by show 0≤e';omega,k3⟩,k2⟩;rw [List.map_cons,List.map_cons,pN,Bool.and_eq_true];refine ⟨(mS hq).2,?_⟩;rw [wX (eN.1 (mS ho).2).2.1 (eN.1 (mS hq).2).1];have r1:=congrArg Prod.snd (mS ho).1;have r2:=congrArg Prod.fst (mS hq).1;simp only [rk] at r1 r2;rw [r1,r2];exact k1
theorem oT {L:List Sp}:iO L=true↔∃ A:Rg,L=A.map spR∧RangeR A∧A.length≤64:=by
 unfold iO;rw [Bool.and_eq_true,decide_eq_true_eq,List.all_eq_true]
 constructor
 · rintro ⟨h1,h2⟩
   obtain ⟨e,hr⟩:=EN fun i hi=>h2 i (List.mem_range.2 hi)
   exact ⟨L.map rk,e.symm,hr,by simpa using h1⟩
 · rintro ⟨A,rfl,hr,hl⟩
   exact ⟨by simpa using hl,fun i hi=>EO hr i (List.mem_range.1 hi)⟩
theorem RZ {A:Rg} (h:RangeR A) (hl:A.length≤64):iO (A.map spR)=true:=oT.2 ⟨A,rfl,h,hl⟩
theorem SpansR.at {w:World} {v:Value} {A:Rg} (h:SpansR w v A):SpansAt w v (A.map spR):=by
 obtain ⟨ad,cap,hv,hc,hl⟩:=h;refine ⟨ad,cap,by rw [List.length_map];exact hv,?_⟩
 rcases hl with rfl|⟨g,o,ha,hg,hs⟩
 · exact Or.inl rfl
 · right
   refine ⟨g,o,ha,hg,fun i hi=> ?_⟩;rw [List.getElem_map];exact hs i (by simpa using hi)
def SpansC (w:World) (v:Value) (L:List Sp):Prop:=SpansAt w v L∧∃ ad n cap,v= .slice ad n cap∧n≤cap
theorem SpansC.rg {w:World} {v:Value} {A:Rg} (h:SpansC w v (A.map spR)):SpansR w v A:=by
 obtain ⟨⟨ad,cap,rfl,hl⟩,ad',n',cap',hv,hc⟩:=h;cases hv;rw [List.length_map] at hc ⊢;refine ⟨_,_,rfl,hc,?_⟩
 rcases hl with hl|⟨g,o,ha,hg,hs⟩
 · left;simpa using hl
 · right
   refine ⟨g,o,ha,hg,fun i hi=> ?_⟩
   have:=hs i (by simpa using hi)
   rw [List.getElem_map] at this;exact this
end Go.Proofs.YtlmpiohbmlddiaaGreatDoor
namespace Go.Proofs.YtlmpiohbmlddiaaGreatDoor
open Go.RowKit
set_option maxRecDepth 100000
def PL (A:Rg):Rg:=if A.length≤64 then A else []
theorem SA {A:Rg} (h:A.length≤64):PL A=A:=by unfold PL;rw [if_pos h]
def pO (n:Int):Int:=n / 1000*1000+999
def uZ (n:Int):Int:=n / 1000000*1000000+999999
def vA (n:Int):Int:=if atA n≠0 then uZ n else if atB n≠0 then pO n else n
theorem pP {n:Int} (h:okR n):okR (pO n)∧n≤pO n:=by unfold okR pO at*;omega
theorem LC {n:Int} (h:okR n):okR (uZ n)∧n≤uZ n:=by unfold okR uZ at*;omega
theorem wY {n:Int} (h:okR n):okR (vA n)∧n≤vA n:=by
 unfold vA
 split
 · exact LC h
 · split
   · exact pP h
   · exact ⟨h,Int.le_refl _⟩
def tF (s:List UInt8) (n:Int):Option Rg:=
 if s=[]∨s=[61] then some [(n,n)] else if s=[60] then some (jN gR [(n,999999999)]) else if s=[60,61] then some [(0,n)] else if s=[62] then some (jN gR [(0,n)]) else
 if s=[62,61] then some [(n,999999999)] else if s=[94] then some [(n,vA n)] else if s=[126] then some [(n,pO n)] else none
theorem jO {g h:Int} (hg:okR g) (hh:okR h) (h1:g≤h):RangeR [(g,h)]:=⟨hg.1,h1,hh.2,trivial⟩
theorem okL:okR 999999999:=by unfold okR;omega
theorem okF:okR 0:=by unfold okR;omega
theorem PM {s:List UInt8} {n:Int} (hn:okR n) {R:Rg} (h:tF s n=some R):RangeR R:=by
 unfold tF at h;have h1:=jO hn okL hn.2;have h2:=jO okF hn hn.1
 repeat' split at h
 all_goals first|(cases h;done)|(injection h with h;subst h)
 · exact jO hn hn (Int.le_refl _)
 · exact cT.cut h1
 · exact h2
 · exact cT.cut h2
 · exact h1
 · exact jO hn (wY hn).1 (wY hn).2
 · exact jO hn (pP hn).1 (pP hn).2
end Go.Proofs.YtlmpiohbmlddiaaGreatDoor
namespace Go.Proofs.YtlmpiohbmlddiaaGreatDoor
open Go.ChangeShapes Go.WideShapes Go.ChangeAt Go.RowKit
set_option maxRecDepth 100000
theorem own:ownKnob Tryz.prog.godebug=none:=by kernel_rfl
theorem EP:laidOutB Tryz.prog=true:=by kernel_rfl
theorem wZ:Tryz.prog.cellsOf 3=1:=by kernel_rfl
theorem lN:Tryz.prog.cellsOf 52=3:=by kernel_rfl
theorem xA {cs:List Value} {o:Nat} {v:Value} (h:(cs.drop o).take 1=[v]):cs[o]? =some v:=by
 have h0:((cs.drop o).take 1)[0]? =some v:=by rw [h];rfl
 simpa using h0
theorem bC {fs:Array Field} {i ty off:Nat} (h:(fs[i]?).map (fun f=>(f.type,f.offset))=some (ty,off)):∃ f,fs[i]? =some f∧f.type=ty∧f.offset=off:=by
 cases hf:fs[i]? with
 |none=>rw [hf] at h;cases h
 |some f=>
  rw [hf] at h;simp only [Option.map_some,Option.some.injEq,Prod.mk.injEq] at h;exact ⟨f,rfl,h.1,h.2⟩
theorem TL {α:Type} {l:List α} (h:l.length=3):∃ a b c,l=[a,b,c]:=by
 match l,h with
 |[a,b,c],_=>exact ⟨a,b,c,rfl⟩
theorem GQ {H:Type} {enc:TypeId×Value→H} {a:Assume} {C:Checked} {os:Os} {f:FuncId} {fn:Func} {s:ChangeSpec} {conds:List PathCond} {apart fresh handsOn again:Bool} {l:List (String×DataW Unit)}
 (own:ownKnob C.prog.godebug=none) (started:os.Started) (noInit:C.prog.inits.idxOf? f=none) (hfn:C.prog.funcs[f]? =some fn)
 (witness:∃ (w:World) (tape:Tape) (i:Input),w.os=os∧(w.forCall tape i).Shaped C.prog∧i.vars=[]∧Input.okWide C.prog (w.forCall tape i) .any w.heap.size f i∧
   ((s.pre enc C.prog fn conds apart (w.forCall tape i).memory i.args∧laidMetH C.prog l (w.forCall tape i).memory)∧sizedMet enc C.prog fn (OpenSpec.ofChange s) apart (w.forCall tape i).memory i.args)∧a.holds C.prog (lone (Frame.enter C.prog f i.args .normal) [] (w.forCall tape i)))
 (contract:∀ (W:World) (base:Nat) (args:Array Value) (ds gs:List (DataW H)) (before:List MemPlace),
   (∀ (j:Nat) t v,fn.params[j]? =some t→args[j]? =some v→Value.okWide C.prog W .any base t v)→
   DataW.Whole enc C.prog fn.params.toList s.vars apart W args.toList ds gs before→
   (DataW.weightsEach C.prog (fn.params.toList++s.plain.varTypes C.prog) (ds++gs)).all (· ≤reachBytes)=true→W.ShapedOpen C.prog→laidMetH C.prog l W→
   Calls C.prog f args W fun e W'=>∃ v,e= .returned v∧s.post enc C.prog fn apart fresh handsOn again W args v W'):
 ReturnsInHanded a C os f .any (fun w args=>(s.pre enc C.prog fn conds apart w args∧laidMetH C.prog l w)∧sizedMet enc C.prog fn (OpenSpec.ofChange s) apart w args) (s.post enc C.prog fn apart fresh handsOn again):=by
 refine returnsInHanded_of_calls own started noInit witness ?_;intro w tape i _ hsh _ hok hpre _;obtain ⟨_,_,_,fn',hfn',_,_,_,_,hval⟩:=hok;have e:fn'=fn:=Option.some.inj (hfn'.symm.trans hfn);subst e;obtain ⟨⟨⟨ds,gs,before,hw,_⟩,hX⟩,hz⟩:=hpre;have hw':=DataW.Whole.of_heap (w':=w.forCall tape i) (by rfl) hw;have hX':=laidMetH.of_heap (w':=w.forCall tape i) (by rfl) hX;refine (contract (w.forCall tape i) w.heap.size i.args ds gs before hval hw' (hz.weights hw) hsh hX').mono fun e W' ⟨v,he,hp⟩=> ?_
 subst he;exact ChangeSpec.post_blind hp
theorem SC {W:World} {r:List (String×DataW Unit)} (h:laidMet Tryz.prog (("math/bits.deBruijn32tab",Rows.laid_math_bits_deBruijn32tab)::("math/bits.deBruijn64tab",Rows.laid_math_bits_deBruijn64tab)::("internal/strconv.uint64pow10",Rows.laid_internal_strconv_uint64pow10)::r) W):
 Lib.TabIs Tryz.prog W "internal/strconv.uint64pow10" .u64 Lib.pow10Tab:=by
 have h2:laidMet Tryz.prog (("internal/strconv.uint64pow10",Lib.tabData .u64 Lib.pow10Tab)::r) W:=(laidMet.tail (laidMet.tail h));exact Lib.tabIs_of_head (g:=3) (t:=311) (e:=244) (n:=20) (by kernel_rfl) (by kernel_rfl) (by kernel_rfl) Tryz.underlying244 (by kernel_rfl) (by kernel_rfl) h2
theorem fV {W:World} (h:Lib.TabIs Tryz.prog W "internal/strconv.uint64pow10" .u64 Lib.pow10Tab) (w:World) (hw:Below W.heap.size W w) (n:Int) (h0:0≤n) (h1:n≤999):Spells w n ⟨(Lib.itoa n).toArray⟩:=by
 intro w1 hb;have ht:=Lib.tabBelow_of_tabIs h w1 (aA hw hb);refine (Tryz.strconv_Itoa n (by omega) (by omega) w1 ht).mono ?_;rintro e w' ⟨rfl,k,os,rfl⟩;exact ⟨rfl,Lib.below_grow _ _ (Nat.le_refl _) k os⟩
end Go.Proofs.YtlmpiohbmlddiaaGreatDoor
namespace Go.Proofs.YtlmpiohbmlddiaaGreatDoor
set_option maxRecDepth 100000
def tG (l:List UInt8):Nat:=l.foldl (fun n d=>n*10+(d.toNat - 48)) 0
theorem pQ (l:List UInt8) (d:UInt8):tG (l++[d])=tG l*10+(d.toNat - 48):=by simp [tG]
theorem cG {k:Nat} (h:k<10):(UInt8.ofNat (48+k)).toNat=48+k:=by
 rw [UInt8.toNat_ofNat'];omega
theorem oU (u:Nat):tG (Lib.decDigits u)=u:=by
 induction u using Nat.strongRecOn with
 |_ u ih=>
  rw [Lib.decDigits]
  split
  · rename_i h
    have:=cG h
    simp [tG];omega
  · rename_i h
    rw [pQ,ih (u / 10) (by omega)]
    have:=cG (k:=u % 10) (by omega)
    omega
theorem cU (u:Nat):∀ d ∈ Lib.decDigits u,48≤d.toNat∧d.toNat≤57:=by
 induction u using Nat.strongRecOn with
 |_ u ih=>
  rw [Lib.decDigits]
  split
  · rename_i h
    intro d hd
    have:=cG h
    rw [List.mem_singleton] at hd;subst hd;omega
  · rename_i h
    intro d hd
    rcases List.mem_append.1 hd with h1|h1
    · exact ih (u / 10) (by omega) d h1
    · have:=cG (k:=u % 10) (by omega)
      rw [List.mem_singleton] at h1;subst h1;omega
theorem mU (u:Nat):Lib.decDigits u≠[]:=by
 rw [Lib.decDigits];split<;>simp
theorem fM {n:Int} (h:0≤n):Lib.itoa n=Lib.decDigits n.toNat:=by
 obtain ⟨u,rfl⟩:∃ u:Nat,n=u:=⟨n.toNat,by omega⟩;rw [Lib.itoa_nonneg];rfl
theorem LD {n:Int} (h:0≤n):(46:UInt8) ∉ Lib.itoa n:=by
 rw [fM h];intro hd
 have:=(cU _ _ hd).1
 revert this;decide
theorem fR {a b c:Int} (h:aZ a b c=true):(aI a b c).data.toList=Lib.itoa a++46::(Lib.itoa b++46::Lib.itoa c):=by
 unfold aI;rw [if_pos h];simp [ByteArray.data_append]
end Go.Proofs.YtlmpiohbmlddiaaGreatDoor
namespace Go.Proofs.YtlmpiohbmlddiaaGreatDoor
open Go.RowKit
set_option maxRecDepth 100000
theorem lO {W:World} (h:Lib.TabIs Tryz.prog W "internal/strconv.uint64pow10" .u64 Lib.pow10Tab) (a b c:Int) (w1:World) (hb:Below W.heap.size W w1):
 Calls Tryz.prog 125 #[.agg #[.int .i64 a,.int .i64 b,.int .i64 c]] w1 fun e w'=>e= .returned (.string (aI a b c))∧Below w1.heap.size w1 w':=by
 refine tB a b c w1 (fun m=> ?_) (fun m=> ?_) (fun m=> ?_)<;>(obtain ⟨a0,a1,b0,b1,c0,c1⟩:=cS m)
 · exact fV h w1 hb a a0 a1
 · exact fV h w1 hb b b0 b1
 · exact fV h w1 hb c c0 c1
structure Env (W:World):Prop where
 max:∃ m,W.cell? ⟨0,0,none⟩=some (.int .i64 m)
 tab:Lib.TabIs Tryz.prog W "internal/strconv.uint64pow10" .u64 Lib.pow10Tab
 syn:∃ tp p,W.cell? ⟨8,0,none⟩=some (.iface tp p)
 rng:∃ tp p,W.cell? ⟨9,0,none⟩=some (.iface tp p)
theorem cE {W:World} {a:Addr} {v:Value} (h:W.cell? a=some v):a.block<W.heap.size:=by
 rcases Nat.lt_or_ge a.block W.heap.size with h'|h'
 · exact h'
 · simp [World.cell?,Array.getElem?_eq_none h'] at h
theorem Env.below {W w:World} (h:Env W) (hb:Below W.heap.size W w):Env w:=by
 obtain ⟨m,hm⟩:=h.max;obtain ⟨tp,p,hs⟩:=h.syn;obtain ⟨tq,q,hq⟩:=h.rng;exact { max:=⟨m,(hb.cell (p:=⟨0,0,none⟩) (cE hm)).trans hm⟩,tab:=Lib.tabBelow_of_tabIs h.tab w hb,syn:=⟨tp,p,(hb.cell (p:=⟨8,0,none⟩) (cE hs)).trans hs⟩,rng:=⟨tq,q,(hb.cell (p:=⟨9,0,none⟩) (cE hq)).trans hq⟩ }
def LE (l:List UInt8):Int:=match Lib.atoiAll l with
 | .ok v=>v
 |_=> -1
def pA (l:List UInt8):Int:=LE (Lib.cut l [46]).1
def pB (l:List UInt8):Int:=LE (Lib.cut (Lib.cut l [46]).2.1 [46]).1
def pC (l:List UInt8):Int:=LE (Lib.cut (Lib.cut l [46]).2.1 [46]).2.1
def okP (s:ByteArray):Bool:=aZ (pA s.data.toList) (pB s.data.toList) (pC s.data.toList)&&decide (aI (pA s.data.toList) (pB s.data.toList) (pC s.data.toList)=s)
def oJ (s:ByteArray):Int:=if okP s then pA s.data.toList else 0
def oK (s:ByteArray):Int:=if okP s then pB s.data.toList else 0
def oL (s:ByteArray):Int:=if okP s then pC s.data.toList else 0
theorem fW (l:List UInt8):(⟨l.toArray⟩:ByteArray).size=l.length:=by show l.toArray.size=_;simp
theorem aJ (s:ByteArray):s.data.toList.length=s.size:=rfl
theorem aQ {s t:ByteArray} (h:s.toList=t.toList):s=t:=by
 rw [ByteArray.toList_eq,ByteArray.toList_eq] at h;cases s;cases t;simp only [ByteArray.mk.injEq];exact Array.toList_inj.1 h
theorem pR {s:ByteArray} (h:okP s=true):aZ (oJ s) (oK s) (oL s)=true∧s=aI (oJ s) (oK s) (oL s):=by
 unfold oJ oK oL;rw [h];unfold okP at h;simp only [Bool.and_eq_true,decide_eq_true_eq] at h;exact ⟨h.1,h.2.symm⟩
theorem EQ (l r:List UInt8) (h:(46:UInt8) ∉ l):Lib.cut (l++46::r) [46]=(l,r,true):=by
 have hi:Lib.index (l++46::r) [46]=l.length:=by
  refine Lib.index_first (by simp) (by simp [Lib.occAt]) ?_;intro j hj;unfold Lib.occAt;rw [List.drop_append_of_le_length (by omega)];have hd:l.drop j=l[j]::l.drop (j+1):=List.drop_eq_getElem_cons hj;rw [hd];simp only [List.cons_append,List.isPrefixOf,Bool.and_true];rw [beq_eq_false_iff_ne];intro e;exact h (by rw [e];exact List.getElem_mem hj)
 unfold Lib.cut;rw [hi,if_pos (by omega)]
 simp
theorem lP (l:List UInt8) (h:∀ d ∈ l,48≤d.toNat∧d.toNat≤57) (acc:Nat):Lib.decFrom acc l=some (l.foldl (fun n d=>n*10+(d.toNat - 48)) acc):=by
 induction l generalizing acc with
 |nil=>rfl
 |cons d l ih=>
  have hd:=h d (List.mem_cons_self);unfold Lib.decFrom
  have:Lib.digitVal d=some (d.toNat - 48):=by
   unfold Lib.digitVal;simp;omega
  rw [this];simp only [List.foldl_cons];exact ih (fun x hx=>h x (List.mem_cons_of_mem _ hx)) _
theorem pS {n:Int} (h0:0≤n) (h1:n≤999):LE (Lib.itoa n)=n:=by
 have e:=fM h0;have hl:(Lib.itoa n).length≤3:=by have:=dJ h0 h1;rw [fW] at this;exact this
 have hd:=cU n.toNat;have hv:=oU n.toNat
 have ha:Lib.atoi (Lib.itoa n)=some n:=by
  rw [e];cases hc:Lib.decDigits n.toNat with
  |nil=>exact absurd hc (mU _)
  |cons b r=>
   rw [hc] at hd hv;have hb:=hd b (List.mem_cons_self);have n45:(b==45)=false:=by rw [beq_eq_false_iff_ne];rintro rfl;revert hb;decide
   have n43:(b==43)=false:=by rw [beq_eq_false_iff_ne];rintro rfl;revert hb;decide
   unfold Lib.atoi;simp only [n45,n43,Bool.false_eq_true,if_false];unfold Lib.decNat;simp only [List.isEmpty_cons,Bool.false_eq_true,if_false];rw [lP _ hd];unfold tG at hv;rw [hv]
   simp
   omega
 unfold LE;rw [Lib.atoiAll_short _ (by omega),ha];rfl
theorem BH {a b c:Int} (h:aZ a b c=true):pA (aI a b c).data.toList=a∧pB (aI a b c).data.toList=b∧pC (aI a b c).data.toList=c:=by
 obtain ⟨a0,a1,b0,b1,c0,c1⟩:=cS h;unfold pA pB pC;rw [fR h,EQ _ _ (LD a0)]
 simp only
 rw [EQ _ _ (LD b0)];exact ⟨pS a0 a1,pS b0 b1,pS c0 c1⟩
theorem mV {a b c:Int} (h:aZ a b c=true):okP (aI a b c)=true∧oJ (aI a b c)=a∧oK (aI a b c)=b∧oL (aI a b c)=c:=by
 obtain ⟨e1,e2,e3⟩:=BH h
 have ho:okP (aI a b c)=true:=by
  unfold okP;rw [e1,e2,e3,h]
  simp
 unfold oJ oK oL;rw [ho];exact ⟨rfl,e1,e2,e3⟩
theorem fN {s:ByteArray} {l:List UInt8} (h:s.data.toList=l):s=⟨l.toArray⟩:=by
 cases s with
 |mk d=>simp only at h;subst h;simp
def plP (t:ByteArray):Int:=bB (oJ t) (oK t) (oL t)
theorem SD {t:ByteArray} (h:okP t=true):okR (plP t)∧atA (plP t)=oJ t∧atB (plP t)=oK t∧atC (plP t)=oL t:=by
 have m:=(pR h).1;have l:=fT m;exact ⟨by unfold okR plP;omega,uV m⟩
def BI (s:ByteArray):Nat:=(max (Lib.indexAny s.data.toList [48,49,50,51,52,53,54,55,56,57]) 0).toNat
def jP (s:ByteArray):Option Rg:=if s.data.toList=[42] then some gR else if okP (s.extract (BI s) s.size)=true then tF (s.extract 0 (BI s)).data.toList (plP (s.extract (BI s) s.size)) else none
theorem oV {s:ByteArray} {R:Rg} (h:jP s=some R):RangeR R:=by
 unfold jP at h
 split at h
 · injection h with h;subst h;exact cT
 · split at h
   · rename_i ho
     exact PM (SD ho).1 h
   · cases h
def bA (s sep:ByteArray):List ByteArray:=Lib.splitB sep 0 (Lib.countB s sep) s
def bS:Rg→Bool→List ByteArray→Option (Rg×Bool)
 |R,f,[]=>some (R,f)
 |R,f,p::ps=>if p.size=0 then bS R f ps else match jP p with
  |none=>none
  |some X=>bS (gI R X) true ps
def mW (ps:List ByteArray):Bool:=match bS gR false ps with
 |some (_,f)=>f
 |none=>false
def kW (ps:List ByteArray):Rg:=match bS gR false ps with
 |some (R,_)=>R
 |none=>[]
theorem kA:∀ {ps:List ByteArray} {R R':Rg} {f f':Bool},RangeR R→bS R f ps=some (R',f')→RangeR R'
 |[],_,_,_,_,h,e=>by simp only [bS,Option.some.injEq,Prod.mk.injEq] at e;rw [←e.1];exact h
 |p::ps,R,_,f,_,h,e=>by
  unfold bS at e
  split at e
  · exact kA h e
  · split at e
    · cases e
    · rename_i X hX
      exact kA (h.meet (oV hX)) e
theorem mX (ps:List ByteArray):RangeR (kW ps):=by
 unfold kW
 split
 · rename_i h;exact kA cT h
 · trivial
def hZ:Rg→List ByteArray→Option Rg
 |R,[]=>some R
 |R,a::l=>if mW (bA a ⟨#[32]⟩)=true then hZ (gJ R (kW (bA a ⟨#[32]⟩))) l else none
def fX (s:ByteArray):Option Rg:=hZ [] (bA s ⟨#[124,124]⟩)
theorem oW:∀ {l:List ByteArray} {R R':Rg},RangeR R→hZ R l=some R'→RangeR R'
 |[],_,_,h,e=>by simp only [hZ,Option.some.injEq] at e;rw [←e];exact h
 |a::l,R,_,h,e=>by
  unfold hZ at e
  split at e
  · exact oW (h.join (mX _)) e
  · cases e
theorem PN {s:ByteArray} {R:Rg} (h:fX s=some R):RangeR R:=oW (R:=[]) trivial h
def LF:Option Rg→Rg
 |none=>[]
 |some R=>PL R
def SE:Option Rg→Int
 |none=>21
 |some R=>LA R.length
def fK (a b c x y z:Int):ByteArray:=
 if a=x∧b=y∧c=z then aI a b c else if (a=0∧b=0∧c=0)∧(x=999∧y=999∧z=999) then ⟨#[42]⟩ else if a=0∧b=0∧c=0 then ⟨#[60,61]⟩++aI x y z else
 if x=999∧y=999∧z=999 then ⟨#[62,61]⟩++aI a b c else ((⟨#[62,61]⟩++aI a b c)++⟨#[32,60,61]⟩)++aI x y z
theorem dP (a b c:Int):(aI a b c).size≤11:=by
 unfold aI
 split
 · rename_i h
   obtain ⟨a0,a1,b0,b1,c0,c1⟩:=cS h;have za:=dJ a0 a1;have zb:=dJ b0 b1;have zc:=dJ c0 c1;have zd:(⟨#[46]⟩:ByteArray).size=1:=rfl;rw [bZ,bZ,bZ,bZ];omega
 · decide
set_option maxHeartbeats 3200000 in
theorem sI (a b c x y z:Int) (w:World) (he:Env w) (hf:FL w):
 Calls Tryz.prog 242 #[.agg #[.int .i64 a,.int .i64 b,.int .i64 c,.int .i64 x,.int .i64 y,.int .i64 z]] w fun e w'=>e= .returned (.string (fK a b c x y z))∧Below w.heap.size w w':=by
 have hg:=kS;have HPL:Hid (∀ w1,Below w.heap.size w w1→Calls Tryz.prog 125 #[.agg #[.int .i64 a,.int .i64 b,.int .i64 c]] w1 fun e w'=>e= .returned (.string (aI a b c))∧Below w1.heap.size w1 w'):=fun w1 hb=>lO he.tab a b c w1 hb
 have HPH:Hid (∀ w1,Below w.heap.size w w1→Calls Tryz.prog 125 #[.agg #[.int .i64 x,.int .i64 y,.int .i64 z]] w1 fun e w'=>e= .returned (.string (aI x y z))∧Below w1.heap.size w1 w'):=fun w1 hb=>lO he.tab x y z w1 hb
 have HO:Hid (Below w.heap.size w (w.alloc (.cells #[.int .i64 a,.int .i64 b,.int .i64 c,.int .i64 x,.int .i64 y,.int .i64 z] 210))∧Bx6 (w.alloc (.cells #[.int .i64 a,.int .i64 b,.int .i64 c,.int .i64 x,.int .i64 y,.int .i64 z] 210)) w.heap.size a b c x y z):=⟨aD _ _,Bx6.new rfl _ _ _ _ _ _⟩;have HK:Hid (KeepP fun w1=>Below w.heap.size w w1∧Bx6 w1 w.heap.size a b c x y z):=(aH w).and (KZ _ _ _ _ _ _ _);obtain ⟨⟨g0,g1,g2⟩,⟨l0,l1,l2⟩,_,_⟩:=hf.below (aD w (.cells #[.int .i64 a,.int .i64 b,.int .i64 c,.int .i64 x,.int .i64 y,.int .i64 z] 210));have e1:=PE a b c x y z;have e2:=PE a b c 0 0 0;have e3:=PE x y z 999 999 999;clear hf he
 by_cases h1:a=x∧b=y∧c=z
 · have HT:Hid (fK a b c x y z=aI a b c):=by unfold Hid fK;rw [if_pos h1]
   rw [decide_eq_true h1] at e1;clear h1 e2 e3
   go_enter Tryz.func242,Tryz.ntmps242
   go_wp2_with (go_at_call 125;refine (HPL.out _ HO.out.1).mono ?_;rintro e w1 ⟨rfl,ok1⟩;have HO1:=aB ok1;clear ok1)
   go_ret;exact ⟨by rw [HT.out];rfl,aA HO.out.1 HO1.out⟩
 rw [decide_eq_false h1] at e1
 by_cases h2:a=0∧b=0∧c=0
 · rw [decide_eq_true h2] at e2
   by_cases h3:x=999∧y=999∧z=999
   · rw [decide_eq_true h3] at e3
     have HT:Hid (fK a b c x y z=⟨#[42]⟩):=by unfold Hid fK;rw [if_neg h1,if_pos ⟨h2,h3⟩]
     clear h1 h2 h3
     go_enter Tryz.func242,Tryz.ntmps242
     go_wp2_with fail
     go_ret;exact ⟨by rw [HT.out];rfl,HO.out.1⟩
   · rw [decide_eq_false h3] at e3
     have HT:Hid (fK a b c x y z=⟨#[60,61]⟩++aI x y z):=by unfold Hid fK;rw [if_neg h1,if_neg (fun h=>h3 h.2),if_pos h2]
     clear h1 h2 h3;have zT:=dP x y z;have z2:(⟨#[60,61]⟩:ByteArray).size=2:=rfl;generalize aI x y z=T at*;have s1:=fun W:World=>run_string_add_sum (P:=Tryz.prog) (w:=W) ⟨#[60,61]⟩ T (by omega)
     clear zT z2
     go_enter Tryz.func242,Tryz.ntmps242
     go_wp2_with (go_at_call 125;refine (HPH.out _ HO.out.1).mono ?_;rintro e w1 ⟨rfl,ok1⟩;have HO1:=aB ok1;clear ok1)
     go_ret;exact ⟨by rw [HT.out];rfl,aA HO.out.1 HO1.out⟩
 · rw [decide_eq_false h2] at e2
   by_cases h3:x=999∧y=999∧z=999
   · rw [decide_eq_true h3] at e3
     have HT:Hid (fK a b c x y z=⟨#[62,61]⟩++aI a b c):=by unfold Hid fK;rw [if_neg h1,if_neg (fun h=>h2 h.1),if_neg h2,if_pos h3]
     clear h1 h2 h3;have zT:=dP a b c;have z2:(⟨#[62,61]⟩:ByteArray).size=2:=rfl;generalize aI a b c=T at*;have s1:=fun W:World=>run_string_add_sum (P:=Tryz.prog) (w:=W) ⟨#[62,61]⟩ T (by omega)
     clear zT z2
     go_enter Tryz.func242,Tryz.ntmps242
     go_wp2_with (go_at_call 125;refine (HPL.out _ HO.out.1).mono ?_;rintro e w1 ⟨rfl,ok1⟩;have HO1:=aB ok1;clear ok1)
     go_ret;exact ⟨by rw [HT.out];rfl,aA HO.out.1 HO1.out⟩
   · rw [decide_eq_false h3] at e3
     have HT:Hid (fK a b c x y z=((⟨#[62,61]⟩++aI a b c)++⟨#[32,60,61]⟩)++aI x y z):=by unfold Hid fK;rw [if_neg h1,if_neg (fun h=>h2 h.1),if_neg h2,if_neg h3]
     have HQL:Hid (∀ w1,(Below w.heap.size w w1∧Bx6 w1 w.heap.size a b c x y z)→Calls Tryz.prog 125 #[.agg #[.int .i64 a,.int .i64 b,.int .i64 c]] w1 fun e w'=>e= .returned (.string (aI a b c))∧Below w1.heap.size w1 w'):=fun w1 h=>HPL.out w1 h.1
     have HQH:Hid (∀ w1,(Below w.heap.size w w1∧Bx6 w1 w.heap.size a b c x y z)→Calls Tryz.prog 125 #[.agg #[.int .i64 x,.int .i64 y,.int .i64 z]] w1 fun e w'=>e= .returned (.string (aI x y z))∧Below w1.heap.size w1 w'):=fun w1 h=>HPH.out w1 h.1
     clear h1 h2 h3;have zT:=dP a b c;have zU:=dP x y z;have z2:(⟨#[62,61]⟩:ByteArray).size=2:=rfl;have z3:(⟨#[32,60,61]⟩:ByteArray).size=3:=rfl;generalize aI a b c=T at*;generalize aI x y z=U at*;have s1:=fun W:World=>run_string_add_sum (P:=Tryz.prog) (w:=W) ⟨#[62,61]⟩ T (by omega)
     have s2:=fun W:World=>run_string_add_sum (P:=Tryz.prog) (w:=W) (⟨#[62,61]⟩++T) ⟨#[32,60,61]⟩ (by rw [bZ];omega)
     have s3:=fun W:World=>run_string_add_sum (P:=Tryz.prog) (w:=W) ((⟨#[62,61]⟩++T)++⟨#[32,60,61]⟩) U (by rw [bZ,bZ];omega)
     clear zT zU z2 z3
     go_enter Tryz.func242,Tryz.ntmps242
     go_wp2_with fail
     refine bP HK (by kernel_rfl) (by kernel_rfl) (by first|exact HO.out|exact HK.out.drew HO.out) ?_;intro C HIN HOUT;clear HO
     repeat
      (with_reducible refine wpQuiet_step (fun K hK=> ?_)
       go_simp
       first
        |(refine hK _ ?_;clear hK K)
        |(apply Exists.intro;refine ⟨fun w1 hC=> ?_,hK _ ?_⟩;(focus ((first|(go_at_call 125;with_reducible exact bE HIN HOUT HK HQL.out w1 hC)|(go_at_call 125;with_reducible exact bE HIN HOUT HK HQH.out w1 hC)|(exact rfl)|(obtain ⟨hb1,k0,k1,k2,k3,k4,k5,k6⟩:=HOUT.out w1 hC;clear hC;go_simp;first|done|exact rfl));done));clear hK K))
     refine wpQuiet_nil ?_;intro wn hC;have HO:=aB (HOUT.out _ hC);clear hC HIN HOUT C;obtain ⟨hb1,k0,k1,k2,k3,k4,k5,k6⟩:=HO.out
     go_wp2
     go_ret;exact ⟨by rw [HT.out];rfl,HO.out.1⟩
theorem lK:(Tryz.prog.info? 9).map (fun i=>(i.zero,i.size,i.bytes))=some (some (.string ByteArray.empty),1,16):=by kernel_rfl
def OwnT (w:World) (B:Nat) (v:Value) (ts:List ByteArray):Prop:=w.ownsRow B 9 1 v ts.length (ts.map Value.string)
theorem OwnT.nil (w:World) (B:Nat):OwnT w B (.slice none 0 0) []:=⟨rfl,Or.inl ⟨rfl,rfl⟩⟩
theorem OwnT.lt {w:World} {B:Nat} {v:Value} {L:List ByteArray} (h:OwnT w B v L) {g:Nat} (hg:v.ownBlock=some g):g<w.heap.size∧B≤g:=by
 rcases h.2 with ⟨rfl,_⟩|⟨g',cap,cur,rfl,hB,hgg,_⟩
 · cases hg
 · cases hg
   exact ⟨by rw [Array.getElem?_eq_some_iff] at hgg;exact hgg.1,hB⟩
theorem OwnT.below {w w':World} {B:Nat} {v:Value} {L:List ByteArray} (h:OwnT w B v L) (hb:Below w.heap.size w w'):OwnT w' B v L:=by
 refine ⟨h.1,?_⟩;have hl:=fun g hg=>(h.lt (g:=g) hg).1
 rcases h.2 with hn|⟨g,cap,cur,rfl,hB,hgg,r⟩
 · exact Or.inl hn
 · exact Or.inr ⟨g,cap,cur,rfl,hB,(hb.block g (hl g rfl)).trans hgg,r⟩
theorem PO {w wx:World} {uo:Value} {ts:List ByteArray} {tx:ByteArray} {ops:Array Oper} {rest:List Oper} {o:Oper} {f:Act} {Q:Exit→Act→World→Prop} (hgd:o.guard=none) (s t:Operand)
 (ho:o.op= .call { callee:= .builtin .append,args:= #[s,t],argTypes:= #[50,50] }) (hs:f.eval s=uo)
 (hK:Below w.heap.size w wx∧OwnT wx w.heap.size uo ts) {M:Nat} (hM:wx.heap.size=M) (hx:f.eval t= .slice (some ⟨M,0,none⟩) 1 1) (hlen:ts.length+1≤1000000000000)
 (h:∀ v1 w1,(Below w.heap.size w w1∧OwnT w1 w.heap.size v1 (ts++[tx]))→wpList Tryz.prog ops Q rest (f.put o.dst v1) w1):
 wpList Tryz.prog ops Q (o::rest) f (wx.alloc (.cells #[.string tx] 9)):=by
 subst hM
 obtain ⟨i0,hi,hz0,hz1,hz2⟩:∃ i,Tryz.prog.info? 9=some i∧i.zero=some (.string ByteArray.empty)∧i.size=1∧i.bytes=16:=by
  have:=lK
  cases hq:Tryz.prog.info? 9 with
  |none=>rw [hq] at this;cases this
  |some i=>
   rw [hq] at this;simp only [Option.map_some,Option.some.injEq,Prod.mk.injEq] at this;exact ⟨i,rfl,this.1,this.2.1,this.2.2⟩
 have hob:OwnT (wx.alloc (.cells #[.string tx] 9)) w.heap.size uo ts:=hK.2.below (aD _ _);have hsz:(wx.alloc (.cells #[.string tx] 9)).heap.size=wx.heap.size+1:=by simp
 have hwx:=hK.1.size
 refine wpList_append_own_at _ hgd s t 50 ho w.heap.size 9 i0 _ 1 16 Tryz.underlying50 hi hz0 hz1 hz2 rfl (by decide) uo _ _ hs hob ⟨wx.heap.size,0,none⟩ 1 1 [.string tx] hx rfl
  (World.news_of_block (cs:= #[.string tx]) (t:=9) (fr:=(0,0)) (by show (wx.heap.push _)[wx.heap.size]? =_;rw [Array.getElem?_push,if_pos rfl])) (by simp [Value.oneCell']) (by unfold maxLen;omega) (by omega) (by omega) ?_
 intro v1 w1 hown1 hg1 _ hat;refine h v1 w1 ⟨(aA hK.1 (aD _ _)).grown hg1 (by omega) (fun k hk=>(hK.2.lt hk).2),?_⟩;unfold OwnT;rw [List.map_append,List.map_singleton,List.length_append];exact hown1
def spT (p:Int×Int):ByteArray:=fK (atA p.1) (atB p.1) (atC p.1) (atA p.2) (atB p.2) (atC p.2)
def cK (A:Rg):ByteArray:=match A with
 |[]=>⟨#[60]⟩++aI 0 0 0
 |p::A=>⟨(Lib.join ((p::A).map fun p=>(spT p).data.toList) [32,124,124,32]).toArray⟩
theorem pT (a b c x y z:Int):(fK a b c x y z).size≤27:=by
 have h1:=dP a b c;have h2:=dP x y z;have z2:(⟨#[62,61]⟩:ByteArray).size=2:=rfl;have z4:(⟨#[60,61]⟩:ByteArray).size=2:=rfl;have z5:(⟨#[42]⟩:ByteArray).size=1:=rfl;have z3:(⟨#[32,60,61]⟩:ByteArray).size=3:=rfl;unfold fK
 repeat' split
 all_goals first|omega|(simp only [bZ];omega)
theorem vB (m:Nat):∀ (l:List (List UInt8)),(∀ x ∈ l,x.length≤m)→Lib.lens l≤m*l.length
 |[],_=>by simp [Lib.lens]
 |x::l,h=>by
  have ih:=vB m l fun y hy=>h y (List.mem_cons_of_mem _ hy)
  have hx:=h x List.mem_cons_self
  have:Lib.lens (x::l)=x.length+Lib.lens l:=by simp [Lib.lens]
  rw [this,List.length_cons,Nat.mul_succ];omega
theorem GR {A:Rg} (h:A.length≤64):(Lib.join (A.map fun p=>(spT p).data.toList) [32,124,124,32]).length≤10000:=by
 cases A with
 |nil=>simp [Lib.join_nil]
 |cons p A=>
  rw [List.map_cons,Lib.join_length,←List.map_cons (f:=fun p=>(spT p).data.toList)]
  have:=vB 27 ((p::A).map fun p=>(spT p).data.toList) (by
   intro x hx;obtain ⟨q,_,rfl⟩:=List.mem_map.1 hx;exact pT _ _ _ _ _ _)
  simp only [List.length_map,List.length_cons,List.length_nil] at*;omega
theorem LG {w:World} {B:Nat} {v:Value} {A:Rg} (h:OwnT w B v (A.map spT)) (hl:A.length≤64) (h0:A≠[]):
 Calls Tryz.prog 172 #[v,.string ⟨#[32,124,124,32]⟩] w fun e w'=>e= .returned (.string (cK A))∧Below w.heap.size w w':=by
 have hlt:=fun g hg=>(h.lt (g:=g) hg).1
 rcases h.2 with ⟨_,hn⟩|⟨g,cap,cur,rfl,hB,hgg,hc,hm,hs,hx⟩
 · rw [List.length_map] at hn
   exact (h0 (List.eq_nil_of_length_eq_zero hn)).elim
 · have hj:=GR hl
   have hmm:(A.map spT).map (·.data.toList)=A.map fun p=>(spT p).data.toList:=by rw [List.map_map];rfl
   refine (Tryz.strings_Join g 0 cap (A.map spT) ⟨#[32,124,124,32]⟩ w ?_ (hlt g rfl) (by rw [List.length_map];omega) hc (by rw [hmm];show (Lib.join _ [32,124,124,32]).length≤_;omega)).mono ?_
   · intro j x hj
     have:(((A.map spT).map Value.string))[j]? =some (.string x):=by rw [List.getElem?_map,hj];rfl
     rw [←hx,List.getElem?_take] at this
     split at this
     · rw [Nat.zero_add]
       simp [World.cell?,hgg]
       simpa using this
     · cases this
   · rintro e w' ⟨rfl,hb⟩
     refine ⟨?_,hb⟩;rw [hmm];cases A with
     |nil=>exact (h0 rfl).elim
     |cons p A=>rfl
set_option maxHeartbeats 3200000 in
theorem xB (A:Rg) (g o cap:Nat) (w:World) (he:Env w) (hf:FL w) (hlen:A.length≤64) (h0:((A.length:Int)==0)=false) (hg:g<w.heap.size) (hl:∀ i (h:i<A.length),SpAt w g (o+i*6) (spR A[i]))
 (HMay:Hid (Calls Tryz.prog 241 #[.slice (some ⟨g,o,none⟩) A.length cap] w fun e w'=>e= .returned (.bool true)∧Below w.heap.size w w')):
 Calls Tryz.prog 199 #[.slice (some ⟨g,o,none⟩) A.length cap] w fun e w'=>e= .returned (.string (cK A))∧Below w.heap.size w w':=by
 have HL:Hid (∀ w1,Below w.heap.size w w1→∀ i (h:i<A.length),SpAt w1 g (o+i*6) (spR A[i])):=fun w1 hb i hi=>(hl i hi).below hb hg
 have HP:Hid (∀ (p:Int×Int) w1,Below w.heap.size w w1→Calls Tryz.prog 242 #[.agg #[.int .i64 (atA p.1),.int .i64 (atB p.1),.int .i64 (atC p.1),.int .i64 (atA p.2),.int .i64 (atB p.2),.int .i64 (atC p.2)]] w1 fun e w'=>e= .returned (.string (spT p))∧Below w1.heap.size w1 w'):=fun p w1 hb=>sI _ _ _ _ _ _ w1 (he.below hb) (hf.below hb)
 have HJ:Hid (∀ w1 v1,OwnT w1 w.heap.size v1 (A.map spT)→Calls Tryz.prog 172 #[v1,.string ⟨#[32,124,124,32]⟩] w1 fun e w'=>e= .returned (.string (cK A))∧Below w1.heap.size w1 w'):=fun w1 v1 h=>LG h hlen (fun e=>by subst e;simp at h0)
 clear hl he hf
 go_enter Tryz.func199,Tryz.ntmps199
 go_wp2_with (go_at_call 241;refine HMay.out.mono ?_;rintro e w1 ⟨rfl,ok1⟩;have HO1:=aB ok1;clear ok1)
 go_loopw [3,17] (fun out i wr=>∃ k:Nat,k≤A.length∧i= .int .i64 k∧Below w.heap.size w wr∧OwnT wr w.heap.size out ((A.take k).map spT)) (fun _ i _=>A.length - (intOf i).toNat)
 case atStart=>exact ⟨0,Nat.zero_le _,rfl,HO1.out,OwnT.nil _ _⟩
 case round=>
  obtain ⟨k,hk,rfl,hb,hown⟩:=hrel;have HB:=aB hb;have HOWN:=aB hown;clear hown
  by_cases hlt:k<A.length
  · have hs:=HL.out wr hb k hlt
    have HD:Hid ((A.take k).map spT++[spT A[k]]=(A.take (k+1)).map spT):=by unfold Hid;rw [List.take_succ_eq_append_getElem hlt,List.map_append];rfl
    generalize A[k]=p at*;obtain ⟨lo,hi⟩:=p;obtain ⟨c0,c1,c2,c3,c4,c5⟩:=hs;simp only [spR] at c0 c1 c2 c3 c4 c5;have HPp:=aB (fun w1 hb=>HP.out (lo,hi) w1 hb);have HLN:Hid (((A.take k).map spT).length+1≤1000000000000):=by unfold Hid;simp;omega
    clear hb
    go_wp2_with (first
     |(go_at_call 242;refine (HPp.out _ (aA HB.out (aD _ _))).mono ?_;rintro e w2 ⟨rfl,ok2⟩;have HO2:Hid (Below w.heap.size w w2∧OwnT w2 w.heap.size u3 ((A.take k).map spT)):=⟨aA (aA HB.out (aD _ _)) ok2,(HOWN.out.below (aD _ _)).below ok2⟩;clear ok2)
     |(at_builtin;refine PO (uo:=u3) (ts:=(A.take k).map spT) rfl (.tmp 21) (.tmp 24) rfl rfl HO2.out rfl rfl HLN.out ?_;intro v3 w3 ok3;have HO3:=aB ok3;clear ok3))
    exact ⟨⟨k+1,by omega,by go_num,HO3.out.1,by rw [←HD.out];exact HO3.out.2⟩,by simp [intOf];omega⟩
  · have hke:k=A.length:=by omega
    subst hke;have HOW2:Hid (OwnT wr w.heap.size u3 (A.map spT)):=by have:=HOWN.out;rw [List.take_length] at this;exact this
    clear hb
    go_wp2_with (go_at_call 172;refine (HJ.out _ _ HOW2.out).mono ?_;rintro e w2 ⟨rfl,ok2⟩;have HO2:=aB ok2;clear ok2)
    go_ret;exact ⟨rfl,aA HB.out HO2.out⟩
theorem pU (ad:Option Addr) (cap:Nat) (w:World) (he:Env w) (hf:FL w):
 Calls Tryz.prog 199 #[.slice ad 0 cap] w fun e w'=>e= .returned (.string (cK []))∧Below w.heap.size w w':=by
 have HMay:=aB (wU ad cap w);have HP:Hid (∀ w1,Below w.heap.size w w1→Calls Tryz.prog 125 #[.agg #[.int .i64 0,.int .i64 0,.int .i64 0]] w1 fun e w'=>e= .returned (.string (aI 0 0 0))∧Below w1.heap.size w1 w'):=fun w1 hb=>lO he.tab 0 0 0 w1 hb
 have HF:=aB hf;have HR:Hid (cK []=⟨#[60]⟩++aI 0 0 0):=rfl;have zT:=dP 0 0 0;have z2:(⟨#[60]⟩:ByteArray).size=1:=rfl;generalize aI 0 0 0=T at*;have s1:=fun W:World=>run_string_add_sum (P:=Tryz.prog) (w:=W) ⟨#[60]⟩ T (by omega)
 clear zT z2 he hf
 go_enter Tryz.func199,Tryz.ntmps199
 go_wp2_with (first
  |(go_at_call 241;refine HMay.out.mono ?_;rintro e w1 ⟨rfl,ok1⟩;obtain ⟨⟨g0,g1,g2⟩,_⟩:=HF.out.below ok1;have HO1:=aB ok1;clear ok1)
  |(go_at_call 125;refine (HP.out _ HO1.out).mono ?_;rintro e w2 ⟨rfl,ok2⟩;have HO2:=aB ok2;clear ok2))
 go_ret;exact ⟨by rw [HR.out];rfl,aA HO1.out HO2.out⟩
theorem GS {A:Rg} (hA:RangeR A) (hl:A.length≤64) {v:Value} {w:World} (h:SpansR w v A) (he:Env w) (hf:FL w):
 Calls Tryz.prog 199 #[v] w fun e w'=>e= .returned (.string (cK A))∧Below w.heap.size w w':=by
 have HM:Hid (Calls Tryz.prog 241 #[v] w fun e w'=>e= .returned (.bool true)∧Below w.heap.size w w'):=by have:=wV h.at;rw [RZ hA hl] at this;exact this
 obtain ⟨ad,cap,rfl,hc,hs⟩:=h
 rcases hs with rfl|⟨g,o,rfl,hg,hs⟩
 · exact pU ad cap w he hf
 · cases A with
   |nil=>exact pU _ cap w he hf
   |cons p A=>exact xB (p::A) g o cap w he hf hl (by simp;omega) hg hs HM
theorem ER (op:BinOp) (x y:Operand) (xs ys:Array Value) (w:World):(eqGuard op 210 x y (.agg xs) (.agg ys)).run Tryz.prog w= .ok () w:=run_eqGuard_agg w op 210 x y xs ys (by kernel_rfl)
noncomputable def eqB {α:Type} (x y:α):Bool:= @decide (x=y) (Classical.propDecidable _)
theorem aO {α:Type} {x y:α} (h:x=y):eqB x y=true:=by unfold eqB;exact @decide_eq_true _ (Classical.propDecidable _) h
theorem bJ {α:Type} {x y:α} (h:x≠y):eqB x y=false:=by unfold eqB;exact @decide_eq_false _ (Classical.propDecidable _) h
theorem cH {α:Type} {x y:α}:eqB x y=true↔x=y:=⟨fun h=>by unfold eqB at h;exact @of_decide_eq_true _ (Classical.propDecidable _) h,aO⟩
theorem LH (p q r p' q' r':Int) (w:World):(Op.equalIn 9999 52 (.agg #[.int .i64 p,.int .i64 q,.int .i64 r]) (.agg #[.int .i64 p',.int .i64 q',.int .i64 r'])).run Tryz.prog w= .ok (decide (p=p')&&decide (q=q')&&decide (r=r')) w:=by
 have u3:=Tryz.underlying3;have a3:=Tryz.isAgg3;have z3:=Tryz.sizeOf3;rw [show (9999:Nat)=9998+1 from rfl,run_equalIn_agg w 9998 52 _ _ (by kernel_rfl) (by kernel_rfl)];simp only [Program.fieldsOf,Tryz.underlying52]
 by_cases h1:p=p'
 · by_cases h2:q=q'
   · by_cases h3:r=r'
     · subst h1 h2 h3;go_simp
     · subst h1 h2;simp only [h3,decide_false,Bool.and_false];go_simp
   · subst h1;simp only [h2,decide_false,Bool.and_false,Bool.false_and];go_simp
 · simp only [h1,decide_false,Bool.false_and];go_simp
theorem SF (p q r p' q' r':Int) (w:World):(binOp .eql 52 (.agg #[.int .i64 p,.int .i64 q,.int .i64 r]) (.agg #[.int .i64 p',.int .i64 q',.int .i64 r'])).run Tryz.prog w= .ok (.bool (decide (p=p')&&decide (q=q')&&decide (r=r'))) w:=by
 have u3:=Tryz.underlying3;have a3:=Tryz.isAgg3;have z3:=Tryz.sizeOf3;rw [run_eql_struct,show (10000:Nat)=9999+1 from rfl,run_equalIn_agg w 9999 52 _ _ (by kernel_rfl) (by kernel_rfl)];simp only [Program.fieldsOf,Tryz.underlying52]
 by_cases h1:p=p'
 · by_cases h2:q=q'
   · by_cases h3:r=r'
     · subst h1 h2 h3;go_simp
     · subst h1 h2;simp only [h3,decide_false,Bool.and_false];go_simp
   · subst h1;simp only [h2,decide_false,Bool.and_false,Bool.false_and];go_simp
 · simp only [h1,decide_false,Bool.false_and];go_simp
def eqS (s t:Sp):Bool:=decide (s.a=t.a)&&decide (s.b=t.b)&&decide (s.c=t.c)&&(decide (s.x=t.x)&&decide (s.y=t.y)&&decide (s.z=t.z))
theorem kB {s t:Sp}:eqS s t=true↔s=t:=by
 obtain ⟨a,b,c,x,y,z⟩:=s;obtain ⟨a',b',c',x',y',z'⟩:=t;unfold eqS;simp only [Bool.and_eq_true,decide_eq_true_eq,Sp.mk.injEq];exact ⟨fun ⟨⟨⟨h1,h2⟩,h3⟩,⟨h4,h5⟩,h6⟩=>⟨h1,h2,h3,h4,h5,h6⟩,fun ⟨h1,h2,h3,h4,h5,h6⟩=>⟨⟨⟨h1,h2⟩,h3⟩,⟨h4,h5⟩,h6⟩⟩
theorem LI (a b c x y z a' b' c' x' y' z':Int) (w:World):(binOp .neq 210 (.agg #[.int .i64 a,.int .i64 b,.int .i64 c,.int .i64 x,.int .i64 y,.int .i64 z]) (.agg #[.int .i64 a',.int .i64 b',.int .i64 c',.int .i64 x',.int .i64 y',.int .i64 z'])).run Tryz.prog w= .ok (.bool (!(eqS ⟨a,b,c,x,y,z⟩ ⟨a',b',c',x',y',z'⟩))) w:=by
 have av:=Tryz.isAgg52;have zv:=Tryz.sizeOf52;have h1:=LH a b c a' b' c' w;have h2:=LH x y z x' y' z' w;rw [run_neq_struct,show (10000:Nat)=9999+1 from rfl,run_equalIn_agg w 9999 210 _ _ (by kernel_rfl) (by kernel_rfl)];simp only [Program.fieldsOf,Tryz.underlying210];cases hq:eqS ⟨a,b,c,x,y,z⟩ ⟨a',b',c',x',y',z'⟩
 · have hn:¬ (a=a'∧b=b'∧c=c'∧x=x'∧y=y'∧z=z'):=by
    rintro ⟨rfl,rfl,rfl,rfl,rfl,rfl⟩;rw [kB.2 rfl] at hq;cases hq
   go_simp;intro e1 e2 e3 e4 e5 e6;exact hn ⟨e1,e2,e3,e4,e5,e6⟩
 · obtain ⟨rfl,rfl,rfl,rfl,rfl,rfl⟩:=Sp.mk.injEq .. ▸ kB.1 hq
   go_simp
set_option maxHeartbeats 1600000 in
theorem BJ (A B:List Sp) (hAB:A.length=B.length) (hsz:A.length≤9223372036854775807) (ga oa ca gb ob cb:Nat) (w:World) (hga:ga<w.heap.size) (hgb:gb<w.heap.size) (hla:∀ i (h:i<A.length),SpAt w ga (oa+i*6) A[i]) (hlb:∀ i (h:i<B.length),SpAt w gb (ob+i*6) B[i]):
 Calls Tryz.prog 243 #[.slice (some ⟨ga,oa,none⟩) A.length ca,.slice (some ⟨gb,ob,none⟩) B.length cb] w fun e w'=>e= .returned (.bool (eqB A B))∧Below w.heap.size w w':=by
 have HL:Hid (∀ w1,Below w.heap.size w w1→∀ i (h:i<A.length) (h2:i<B.length),kV w1 ga (oa+i*6) A[i]∧kV w1 gb (ob+i*6) B[i]):=fun w1 hb i hi hi2=>⟨⟨(hla i hi).below hb hga,Nat.lt_of_lt_of_le hga hb.size⟩,⟨(hlb i hi2).below hb hgb,Nat.lt_of_lt_of_le hgb hb.size⟩⟩
 have HAB:=aB hAB;clear hla hlb;rw [←hAB];clear hAB
 go_enter Tryz.func243,Tryz.ntmps243
 go_wp2_with fail
 go_loopw [13] (fun i wr=>∃ k:Nat,k≤A.length∧i= .int .i64 k∧Below w.heap.size w wr∧∀ j (h:j<k) (h1:j<A.length) (h2:j<B.length),A[j]=B[j]) (fun i _=>A.length - (intOf i).toNat)
 case atStart=>exact ⟨0,Nat.zero_le _,rfl,Below.refl _ _,fun j h=>by omega⟩
 case round=>
  obtain ⟨k,hk,rfl,hb,hall⟩:=hrel;have HALL:=aB hall;have HB:=aB hb;clear hall
  by_cases hlt:k<A.length
  · have hltB:k<B.length:=HAB.out ▸ hlt
    have HO:Hid (Below w.heap.size w wr∧kV wr ga (oa+k*6) A[k]∧kV wr gb (ob+k*6) B[k]):=⟨hb,HL.out wr hb k hlt hltB⟩;have HK:Hid (KeepP fun w1=>Below w.heap.size w w1∧kV w1 ga (oa+k*6) A[k]∧kV w1 gb (ob+k*6) B[k]):=(aH w).and ((mR _ _ _).and (mR _ _ _));have HNE:Hid (eqS A[k] B[k]=false→eqB A B=false):=fun h=>bJ fun e=>by subst e;rw [(kB).2 rfl] at h;cases h
    have HST:Hid (eqS A[k] B[k]=true→∀ j (h:j<k+1) (h1:j<A.length) (h2:j<B.length),A[j]=B[j]):=fun h j hj h1 h2=>by
     rcases Nat.lt_or_ge j k with hjk|hjk
     · exact HALL.out j hjk h1 h2
     · obtain rfl:j=k:=by omega
       exact kB.1 h
    generalize A[k]=s at*;generalize B[k]=t at*;obtain ⟨a,b,c,x,y,z⟩:=s;obtain ⟨a',b',c',x',y',z'⟩:=t;have he:=LI a b c x y z a' b' c' x' y' z';have hgd:=ER;cases hq:eqS ⟨a,b,c,x,y,z⟩ ⟨a',b',c',x',y',z'⟩
    · have HR:=aB (HNE.out hq)
      rw [hq] at he;clear hb HNE HST HALL
      go_wp2_with fail
      refine bP HK (by kernel_rfl) (by kernel_rfl) (by first|exact HO.out|exact HK.out.drew HO.out) ?_;intro C HIN HOUT;clear HO
      repeat
       (with_reducible refine wpQuiet_step (fun K hK=> ?_)
        go_simp
        first
         |(refine hK _ ?_;clear hK K)
         |(apply Exists.intro;refine ⟨fun w1 hC=> ?_,hK _ ?_⟩;(focus ((first|(exact rfl)|(obtain ⟨hb1,⟨⟨p0,p1,p2,p3,p4,p5⟩,p6⟩,⟨⟨q0,q1,q2,q3,q4,q5⟩,q6⟩⟩:=HOUT.out w1 hC;clear hC;go_simp;first|done|exact rfl));done));clear hK K))
      refine wpQuiet_nil ?_;intro wn hC;have HO:=aB (HOUT.out _ hC);clear hC HIN HOUT C;obtain ⟨hb1,⟨⟨p0,p1,p2,p3,p4,p5⟩,p6⟩,⟨⟨q0,q1,q2,q3,q4,q5⟩,q6⟩⟩:=HO.out
      go_wp2
      go_ret;exact ⟨aC HR.out.symm,HO.out.1⟩
    · have HR:=aB (HST.out hq)
      rw [hq] at he;clear hb HNE HST HALL
      go_wp2_with fail
      refine bP HK (by kernel_rfl) (by kernel_rfl) (by first|exact HO.out|exact HK.out.drew HO.out) ?_;intro C HIN HOUT;clear HO
      repeat
       (with_reducible refine wpQuiet_step (fun K hK=> ?_)
        go_simp
        first
         |(refine hK _ ?_;clear hK K)
         |(apply Exists.intro;refine ⟨fun w1 hC=> ?_,hK _ ?_⟩;(focus ((first|(exact rfl)|(obtain ⟨hb1,⟨⟨p0,p1,p2,p3,p4,p5⟩,p6⟩,⟨⟨q0,q1,q2,q3,q4,q5⟩,q6⟩⟩:=HOUT.out w1 hC;clear hC;go_simp;first|done|exact rfl));done));clear hK K))
      refine wpQuiet_nil ?_;intro wn hC;have HO:=aB (HOUT.out _ hC);clear hC HIN HOUT C;obtain ⟨hb1,⟨⟨p0,p1,p2,p3,p4,p5⟩,p6⟩,⟨⟨q0,q1,q2,q3,q4,q5⟩,q6⟩⟩:=HO.out
      go_wp2
      exact ⟨⟨k+1,by omega,by go_num,HO.out.1,HR.out⟩,by simp [intOf];omega⟩
  · have hke:k=A.length:=by omega
    subst hke;have HR:Hid (eqB A B=true):=aO (List.ext_getElem HAB.out fun j h1 h2=>HALL.out j h1 h1 h2);clear hb
    go_wp2
    go_ret;exact ⟨aC HR.out.symm,HB.out⟩
theorem tH (ad bd:Option Addr) (ca cb:Nat) (w:World):
 Calls Tryz.prog 243 #[.slice ad 0 ca,.slice bd 0 cb] w fun e w'=>e= .returned (.bool true)∧Below w.heap.size w w':=by
 go_enter Tryz.func243,Tryz.ntmps243
 go_wp2_with fail
 go_loop [13] (fun i=>i= .int .i64 0) (fun _=>0)
 case atStart=>rfl
 case round=>
  subst hrel
  go_wp2
  go_ret;exact ⟨rfl,Below.refl _ _⟩
theorem GT (ad bd:Option Addr) (n m ca cb:Nat) (h:n≠m) (w:World):
 Calls Tryz.prog 243 #[.slice ad n ca,.slice bd m cb] w fun e w'=>e= .returned (.bool false)∧Below w.heap.size w w':=by
 have hn:((n:Int)=(m:Int))=False:=by simp;omega
 go_enter Tryz.func243,Tryz.ntmps243
 go_wp2
 go_ret;exact ⟨rfl,Below.refl _ _⟩
theorem GU {A B:List Sp} {va vb:Value} {w:World} (ha:SpansAt w va A) (hb:SpansAt w vb B) (hsz:A.length≤9223372036854775807):
 Calls Tryz.prog 243 #[va,vb] w fun e w'=>e= .returned (.bool (eqB A B))∧Below w.heap.size w w':=by
 obtain ⟨ad,ca,rfl,hl⟩:=ha;obtain ⟨bd,cb,rfl,hm⟩:=hb
 by_cases hn:A.length=B.length
 · rcases hl with rfl|⟨ga,oa,rfl,hga,hla⟩
   · obtain rfl:B=[]:=List.eq_nil_of_length_eq_zero (by simpa using hn.symm)
     rw [aO rfl];exact tH _ _ _ _ w
   · rcases hm with rfl|⟨gb,ob,rfl,hgb,hlb⟩
     · obtain rfl:A=[]:=List.eq_nil_of_length_eq_zero (by simpa using hn)
       rw [aO rfl];exact tH _ _ _ _ w
     · exact BJ A B hn hsz ga oa ca gb ob cb w hga hgb hla hlb
 · rw [bJ fun e=>hn (by rw [e])]
   exact GT _ _ _ _ _ _ hn w
end Go.Proofs.YtlmpiohbmlddiaaGreatDoor
