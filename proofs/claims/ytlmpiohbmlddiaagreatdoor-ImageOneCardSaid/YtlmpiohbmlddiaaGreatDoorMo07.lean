/- ScBd1, Pure3, Tx6, Texts1, Wr1, Pk6, Pk7: their declarations that are needed, laid in one text, remarks and blanks left out. -/
import Derived.Shelf.Strings.Builder1
import Derived.Lib.IndexMore
import Derived.Lib.CountLaws
import Derived.Test.YtlmpiohbmlddiaaGreatDoorScC
import Derived.Laws.RangeAny
import Derived.Lib.OthersKept
import Derived.Test.YtlmpiohbmlddiaaGreatDoorMo06
namespace Go.Proofs.YtlmpiohbmlddiaaGreatDoor.Sc
open Go.RowKit
set_option maxRecDepth 100000
theorem RN:(Tryz.prog.info? 118).map (·.size)=some 2:=by kernel_rfl
theorem TM:liesAt Tryz.prog Tryz.prog.depth 118 (2 / Tryz.prog.cellsOf 118) 0 118 1=true:=by kernel_rfl
theorem EU:(Tryz.prog.info? 5).map (fun i=>(i.zero,i.size,i.bytes))=some (some (.int .u8 0),1,1):=by kernel_rfl
set_option maxHeartbeats 1600000 in
theorem qD (b:Nat) (w:World) (h0:w.cell? ⟨b,0,none⟩=some (.pointer (some ⟨b,0,none⟩))):
 Calls Tryz.prog 106 #[.pointer (some ⟨b,0,none⟩)] w fun e w'=>e= .returned (.tuple #[])∧w'=w:=by
 obtain ⟨j,hj,_⟩:=Option.map_eq_some_iff.1 RN
 go_enter Tryz.func106,Tryz.ntmps106
 go_wp2
 rw [Lib.run_neq_ptr_same w _ Tryz.underlying115 hj]
 go_wp2
 go_end0
 exact ⟨rfl,rfl⟩
set_option maxHeartbeats 1600000 in
theorem nV (b:Nat) (w:World) (h0:w.cell? ⟨b,0,none⟩=some (.pointer none)) (hsh:w.shape? b=some (118,2)) (hfz:w.frozen? ⟨b,0,none⟩=false):
 Calls Tryz.prog 106 #[.pointer (some ⟨b,0,none⟩)] w fun e w'=>e= .returned (.tuple #[])∧w'=w.setCell ⟨b,0,none⟩ (.pointer (some ⟨b,0,none⟩)):=by
 obtain ⟨j,hj,hjs⟩:=Option.map_eq_some_iff.1 RN
 go_enter Tryz.func106,Tryz.ntmps106
 go_wp2
 rw [Lib.run_to_unsafe w ⟨b,0,none⟩ Tryz.underlying115 Tryz.underlying204 hj (by rw [hjs];decide) hsh (Nat.zero_lt_succ 1)];simp only [Result.andThen];rw [Oper.upon_value]
 go_wp2
 rw [run_callFunc_extern Tryz.func152 (by kernel_rfl) (by kernel_rfl) (by kernel_rfl) (e:=Extern.AbiNoEscape.same) (by kernel_rfl),Lib.run_noEscape];simp only [Result.andThen];rw [Oper.upon_value]
 go_wp2
 rw [Lib.run_from_unsafe w ⟨b,0,none⟩ Tryz.underlying204 Tryz.underlying115 hj hsh TM];simp only [Result.andThen];rw [Oper.upon_value]
 go_wp2
 go_end0
 exact ⟨rfl,rfl⟩
def Bld (B b:Nat) (l:Bs) (w:World):Prop:=Lib.IsBuilder 118 5 B b (Lib.byteCells l) w
theorem tI {B b:Nat} {l:Bs} {w:World} (h:Bld B b l w):
 Calls Tryz.prog 106 #[.pointer (some ⟨b,0,none⟩)] w fun e w'=>e= .returned (.tuple #[])∧Lib.BuilderAt 118 5 B b (.pointer (some ⟨b,0,none⟩)) (Lib.byteCells l) w'∧Below B w w':=by
 rcases h with h|h
 · refine (nV b w h.cell0 h.shape h.frozen0).mono ?_
   rintro e w' ⟨rfl,rfl⟩;exact ⟨rfl,h.used _,(Below.refl B w).setCell (p:=⟨b,0,none⟩) h.1 _⟩
 · refine (qD b w h.cell0).mono ?_
   rintro e w' ⟨rfl,rfl⟩;exact ⟨rfl,h,Below.refl B _⟩
set_option maxHeartbeats 1600000 in
theorem PV {B b:Nat} {l:Bs} {w:World} (c:UInt8) (h:Bld B b l w) (hl:l.length+1≤140737488355328) (hB:B≤w.heap.size):
 Calls Tryz.prog 173 #[.pointer (some ⟨b,0,none⟩),.int .u8 (c.toNat:Int)] w fun e w'=>e= .returned .nilIface∧Bld B b (l++[c]) w'∧Below B w w':=by
 obtain ⟨i0,hi,hz0,hz1,hz2⟩:=bX EU;have HC:=aB (tI h);have hlc:(Lib.byteCells l).length=l.length:=Lib.byteCells_length l
 go_enter Tryz.func173,Tryz.ntmps173
 go_wp2_with (go_at_call 106;refine HC.out.mono ?_)
 rintro e w1 ⟨rfl,h1,hb1⟩;obtain ⟨hBb,v,hbk,hown,hne⟩:=h1;have c0:w1.cell? ⟨b,0,none⟩=some (.pointer (some ⟨b,0,none⟩)):=by rw [Lib.cell_of_heap hbk];rfl
 have c1:w1.cell? ⟨b,1,none⟩=some v:=by rw [Lib.cell_of_heap hbk];rfl
 have hs1:=hb1.size
 go_wp2_with (at_builtin;refine wpList_append_own _ rfl _ _ 116 rfl B 5 i0 (.int .u8 0) 1 1 Tryz.underlying116 hi hz0 hz1 hz2 rfl (by decide) _ _ _ rfl (hown.alloc _) ⟨w1.heap.size,0,none⟩ 1 1 [.int .u8 (c.toNat:Int)] rfl rfl (cell_one_new _ _ _) (by intro u hu;rw [List.mem_singleton.1 hu];rfl) (by unfold maxLen;omega) (by omega) (by simp;omega) ?_)
 intro v' w2 hown' hgrow _;have hlt:b<w1.heap.size:=(Array.getElem?_eq_some_iff.1 hbk).1
 have hb2:w2.heap[b]? =some (.cells #[.pointer (some ⟨b,0,none⟩),v] 118 (0,0)):=by
  rw [hgrow.block b (by simp;omega) (fun e=>hne e.symm),Lib.alloc_old w1 _ b hlt];exact hbk
 have d0:w2.cell? ⟨b,0,none⟩=some (.pointer (some ⟨b,0,none⟩)):=by rw [Lib.cell_of_heap hb2];rfl
 have d1:w2.cell? ⟨b,1,none⟩=some v:=by rw [Lib.cell_of_heap hb2];rfl
 have f1:w2.frozen? ⟨b,1,none⟩=false:=Lib.frozen_of_heap hb2 1
 obtain ⟨ao,n',cap,rfl⟩:∃ ao n' cap,v'= .slice ao n' cap:=by
  rcases hown'.2 with ⟨hv,_⟩|⟨g,cap,cur,hv,_⟩
  · exact ⟨_,_,_,hv⟩
  · exact ⟨_,_,_,hv⟩
 go_wp2
 go_ret;refine ⟨rfl,Or.inr ?_,?_⟩
 · refine Lib.BuilderAt.put (T:=118) (e:=5) hBb hb2 ?_ (by decide)
   rw [Lib.byteCells_append,List.length_append,hlc];exact hown'
 · exact ((hb1.alloc (by omega) _).grown hgrow (by simp;omega) (fun k hk=>(hown.lt k hk).1)).setCell (p:=⟨b,1,none⟩) hBb _
set_option maxHeartbeats 1600000 in
theorem PW {B b:Nat} {l:Bs} {w:World} (s:ByteArray) (h:Bld B b l w) (hl:l.length+s.size≤140737488355328) (hB:B≤w.heap.size):
 Calls Tryz.prog 54 #[.pointer (some ⟨b,0,none⟩),.string s] w fun e w'=>e= .returned (.tuple #[.int .i64 s.size,.nilIface])∧Bld B b (l++s.data.toList) w'∧Below B w w':=by
 obtain ⟨i0,hi,hz0,hz1,hz2⟩:=bX EU;have HC:=aB (tI h);have hlc:(Lib.byteCells l).length=l.length:=Lib.byteCells_length l
 go_enter Tryz.func54,Tryz.ntmps54
 go_wp2_with (go_at_call 106;refine HC.out.mono ?_)
 rintro e w1 ⟨rfl,h1,hb1⟩;obtain ⟨hBb,v,hbk,hown,hne⟩:=h1;have c0:w1.cell? ⟨b,0,none⟩=some (.pointer (some ⟨b,0,none⟩)):=by rw [Lib.cell_of_heap hbk];rfl
 have c1:w1.cell? ⟨b,1,none⟩=some v:=by rw [Lib.cell_of_heap hbk];rfl
 have hs1:=hb1.size
 go_wp2_with (at_builtin;refine Lib.wpList_append_own_string _ rfl _ _ 116 9 rfl B 5 i0 Tryz.underlying116 Tryz.underlying9 hi hz0 hz1 hz2 _ _ _ rfl hown s rfl (by unfold maxLen;omega) (by omega) (by omega) ?_)
 intro v' w2 hown' hgrow _;have hlt:b<w1.heap.size:=(Array.getElem?_eq_some_iff.1 hbk).1
 have hb2:w2.heap[b]? =some (.cells #[.pointer (some ⟨b,0,none⟩),v] 118 (0,0)):=by
  rw [hgrow.block b hlt (fun e=>hne e.symm)];exact hbk
 have d0:w2.cell? ⟨b,0,none⟩=some (.pointer (some ⟨b,0,none⟩)):=by rw [Lib.cell_of_heap hb2];rfl
 have d1:w2.cell? ⟨b,1,none⟩=some v:=by rw [Lib.cell_of_heap hb2];rfl
 have f1:w2.frozen? ⟨b,1,none⟩=false:=Lib.frozen_of_heap hb2 1
 obtain ⟨ao,n',cap,rfl⟩:∃ ao n' cap,v'= .slice ao n' cap:=by
  rcases hown'.2 with ⟨hv,_⟩|⟨g,cap,cur,hv,_⟩
  · exact ⟨_,_,_,hv⟩
  · exact ⟨_,_,_,hv⟩
 go_wp2
 go_ret2;refine ⟨rfl,Or.inr ?_,?_⟩
 · refine Lib.BuilderAt.put (T:=118) (e:=5) hBb hb2 ?_ (by decide)
   rw [Lib.byteCells_append,List.length_append,←Lib.strCells_eq,hlc]
   simpa [Lib.strCells_length] using hown'
 · exact (hb1.grown hgrow (by omega) (fun k hk=>(hown.lt k hk).1)).setCell (p:=⟨b,1,none⟩) hBb _
end Go.Proofs.YtlmpiohbmlddiaaGreatDoor.Sc
namespace Go.Proofs.YtlmpiohbmlddiaaGreatDoor
open Go.RowKit
set_option maxRecDepth 100000
theorem eP (s t:ByteArray):Lib.indexB s t=Lib.index s.data.toList t.data.toList:=rfl
theorem dU (s:ByteArray):(⟨s.data.toList.toArray⟩:ByteArray)=s:=(fN rfl).symm
theorem MA {l:List UInt8} {c:UInt8} {tl:List UInt8} {j:Nat} (h:∀ x,l[j]? =some x→x≠c):Lib.occAt l (c::tl) j=false:=by
 unfold Lib.occAt;cases hd:l.drop j with
 |nil=>rfl
 |cons x r=>
  have hx:l[j]? =some x:=by
   have:=congrArg (fun q=>q[0]?) hd
   simpa using this
  have:=h x hx
  simp only [List.isPrefixOf_cons_cons,Bool.and_eq_false_imp,beq_iff_eq];intro e;exact (this e.symm).elim
theorem iT {s sep:ByteArray} {c:UInt8} {tl:List UInt8} (hsep:sep.data.toList=c::tl) (h:∀ x ∈ s.data.toList,x≠c):bA s sep=[s]:=by
 have hi:Lib.indexB s sep= -1:=by
  rw [eP,hsep];exact Lib.index_none fun j _=>MA fun x hx=>h x (List.mem_of_getElem? hx)
 unfold bA;exact Lib.splitB_miss _ _ _ _ hi
theorem nW {s sep:ByteArray} {c:UInt8} {tl l r:List UInt8} (hsep:sep.data.toList=c::tl) (hs:s.data.toList=l++(sep.data.toList++r)) (h:∀ x ∈ l,x≠c):bA s sep=⟨l.toArray⟩::bA ⟨r.toArray⟩ sep:=by
 have h1:1≤sep.size:=by rw [←aJ,hsep];simp
 have hi:Lib.indexB s sep=(l.length:Int):=by
  rw [eP,hs];refine Lib.index_first (by simp) ?_ ?_
  · unfold Lib.occAt
    rw [List.drop_left];exact List.isPrefixOf_iff_prefix.2 (List.prefix_append _ _)
  · intro j hj
    rw [hsep];refine MA fun x hx=> ?_
    rw [List.getElem?_append_left hj] at hx;exact h x (List.mem_of_getElem? hx)
 have hr:s.extract (l.length+sep.size) s.size=⟨r.toArray⟩:=by
  refine fN ?_;rw [Lib.extract_to_end,hs,←aJ sep,List.drop_append,List.drop_of_length_le (by simp),List.nil_append,Nat.add_sub_cancel_left,List.drop_left]
 have hl:s.extract 0 (l.length+0)=⟨l.toArray⟩:=by
  refine fN ?_;rw [Lib.extract_from_zero,hs,Nat.add_zero,List.take_left]
 unfold bA;rw [Lib.countB_hit s sep l.length h1 hi,Nat.add_comm 1,Lib.splitB_hit _ _ _ _ _ hi,hr,hl]
theorem xQ {X:Rg} (hX:RangeR X):gI gR X=X:=dY (cT.meet hX) hX fun n=>by
 rw [iP cT hX,uY];exact ⟨fun h=>h.2,fun h=>⟨hX.in h,h⟩⟩
theorem nD {X:Rg} (hX:RangeR X):gJ [] X=X:=dY (RangeR.join (A:=[]) trivial hX) hX fun n=>by
 rw [iQ (A:=[]) trivial hX];exact ⟨fun h=>h.elim (fun x=>x.elim) id,Or.inr⟩
theorem BQ {a b c:Int} (h:aZ a b c=true):∃ d r,(aI a b c).data.toList=d::r∧48≤d.toNat∧d.toNat≤57:=by
 rw [fR h];obtain ⟨a0,a1,_⟩:=cS h;rw [fM a0];have hd:=cU a.toNat;cases hq:Lib.decDigits a.toNat with
 |nil=>exact (mU _ hq).elim
 |cons d r=>exact ⟨d,_,rfl,hd d (by rw [hq];exact List.mem_cons_self)⟩
theorem kZ {a b c:Int} (h:aZ a b c=true):∀ x ∈ (aI a b c).data.toList,x.toNat=46∨(48≤x.toNat∧x.toNat≤57):=by
 rw [fR h];obtain ⟨a0,a1,b0,b1,c0,c1⟩:=cS h;rw [fM a0,fM b0,fM c0];intro x hx;simp only [List.mem_append,List.mem_cons] at hx
 rcases hx with hx|rfl|hx|rfl|hx
 · exact Or.inr (cU _ x hx)
 · exact Or.inl rfl
 · exact Or.inr (cU _ x hx)
 · exact Or.inl rfl
 · exact Or.inr (cU _ x hx)
theorem nE {a b c:Int} (h:aZ a b c=true):2≤(aI a b c).data.toList.length:=by
 rw [fR h];simp;omega
theorem MB {d:UInt8} (h:48≤d.toNat∧d.toNat≤57):([48,49,50,51,52,53,54,55,56,57]:List UInt8).contains d=true:=by
 have:d.toNat=48∨d.toNat=49∨d.toNat=50∨d.toNat=51∨d.toNat=52∨d.toNat=53∨d.toNat=54∨d.toNat=55∨d.toNat=56∨d.toNat=57:=by omega
 have e:∀ k:Nat,d.toNat=k→d=UInt8.ofNat k:=fun k hk=>by rw [←hk];simp
 rcases this with h|h|h|h|h|h|h|h|h|h<;>(rw [e _ h];decide)
theorem IG {d:UInt8} (h:¬ (48≤d.toNat∧d.toNat≤57)):([48,49,50,51,52,53,54,55,56,57]:List UInt8).contains d=false:=by
 rw [Bool.eq_false_iff];intro hc;simp only [List.contains_iff_mem,List.mem_cons,List.not_mem_nil,or_false] at hc;apply h
 rcases hc with rfl|rfl|rfl|rfl|rfl|rfl|rfl|rfl|rfl|rfl<;>decide
theorem bD (x y:ByteArray):(x++y).data.toList=x.data.toList++y.data.toList:=by
 show (x++y).data.toList=_;rw [ByteArray.data_append,Array.toList_append]
def qE (s:ByteArray):Prop:=∀ x ∈ s.data.toList,x.toNat<48∧x.toNat≠32∨57<x.toNat∧x.toNat<124∨x.toNat=126
theorem IH {sg:ByteArray} (hs:qE sg) {a b c:Int} (h:aZ a b c=true):jP (sg++aI a b c)=tF sg.data.toList (bB a b c):=by
 obtain ⟨d,r,hd,h1,h2⟩:=BQ h;have hl:=nE h
 have hk:BI (sg++aI a b c)=sg.size:=by
  unfold BI;rw [bD,Lib.indexAny_hit (i:=sg.data.toList.length) (x:=d) ?_ ?_ (MB ⟨h1,h2⟩)]
  · rw [aJ];omega
  · intro j x hj hx
    rw [List.getElem?_append_left hj] at hx
    have:=hs x (List.mem_of_getElem? hx)
    exact IG (by omega)
  · rw [List.getElem?_append_right (Nat.le_refl _),hd];simp
 have e1:(sg++aI a b c).extract sg.size (sg++aI a b c).size=aI a b c:=by
  have:((sg++aI a b c).extract sg.size (sg++aI a b c).size).data.toList=(aI a b c).data.toList:=by
   rw [Lib.extract_to_end,bD,←aJ sg,List.drop_left]
  rw [fN this,dU]
 have e2:((sg++aI a b c).extract 0 sg.size).data.toList=sg.data.toList:=by
  rw [Lib.extract_from_zero,bD,←aJ sg,List.take_left]
 unfold jP;rw [if_neg,hk,e1,e2,if_pos (mV h).1]
 · unfold plP
   rw [(mV h).2.1,(mV h).2.2.1,(mV h).2.2.2]
 · rw [bD]
   intro e
   have:=congrArg List.length e
   rw [List.length_append,List.length_singleton] at this;omega
theorem xR {s:ByteArray} (h:∀ x ∈ s.data.toList,x.toNat≠32∧x.toNat≠124) (h0:s.size≠0) {X:Rg} (hX:jP s=some X):fX s=some X:=by
 have p1:bA s ⟨#[124,124]⟩=[s]:=iT (c:=124) (tl:=[124]) rfl fun x hx e=>(h x hx).2 (by rw [e];rfl)
 have p2:bA s ⟨#[32]⟩=[s]:=iT (c:=32) (tl:=[]) rfl fun x hx e=>(h x hx).1 (by rw [e];rfl)
 have hw:bS gR false [s]=some (X,true):=by
  rw [bS,if_neg h0,hX];simp only [bS];rw [xQ (oV hX)]
 unfold fX;rw [p1];unfold hZ;rw [p2];have b:mW [s]=true:=by unfold mW;rw [hw]
 have l:kW [s]=X:=by unfold kW;rw [hw]
 rw [if_pos b,l,nD (oV hX)];rfl
theorem BR {sg:ByteArray} (hs:qE sg) {a b c:Int} (h:aZ a b c=true):∀ x ∈ (sg++aI a b c).data.toList,x.toNat≠32∧x.toNat≠124∧x.toNat<128:=by
 intro x hx;rw [bD,List.mem_append] at hx
 rcases hx with hx|hx
 · have:=hs x hx;omega
 · have:=kZ h x hx;omega
def sM (s:ByteArray):Option Rg:=if s.size≤4096 then fX s else none
theorem lT (s sep:ByteArray) (h1:1≤sep.size):bA s sep=[s]∨∃ l r:List UInt8,s.data.toList=l++(sep.data.toList++r)∧bA s sep=⟨l.toArray⟩::bA ⟨r.toArray⟩ sep∧r.length<s.size:=by
 rcases Lib.indexB_cases s sep with hi|⟨i,hi,hr⟩
 · left;unfold bA;exact Lib.splitB_miss _ _ _ _ hi
 · right
   have ho:Lib.occAt s.data.toList sep.data.toList i=true:=by
    rcases Lib.index_spec s.data.toList sep.data.toList with ⟨h2,_⟩|⟨j,h2,_,h3,_⟩
    · rw [eP,h2] at hi;omega
    · rw [eP,h2] at hi
      have:j=i:=by omega
      subst this;exact h3
   unfold Lib.occAt at ho;obtain ⟨r,hr2⟩:=List.isPrefixOf_iff_prefix.1 ho;have e0:s.data.toList=s.data.toList.take i++(sep.data.toList++r):=by rw [hr2,List.take_append_drop]
   have hle:i≤s.data.toList.length:=by rw [aJ];omega
   have e1:s.extract 0 (i+0)=⟨(s.data.toList.take i).toArray⟩:=fN (by rw [Lib.extract_from_zero,Nat.add_zero])
   have e2:s.extract (i+sep.size) s.size=⟨r.toArray⟩:=by
    refine fN ?_;rw [Lib.extract_to_end,←List.drop_drop,←hr2,←aJ sep,List.drop_left]
   refine ⟨s.data.toList.take i,r,e0,?_,?_⟩
   · unfold bA
     rw [Lib.countB_hit s sep i h1 hi,Nat.add_comm 1,Lib.splitB_hit _ _ _ _ _ hi,e1,e2]
   · have:=congrArg List.length e0
     rw [List.length_append,List.length_append,aJ,aJ,List.length_take] at this;omega
theorem dV {sep:ByteArray} {c:UInt8} {tl:List UInt8} (hsep:sep.data.toList=c::tl) (t:ByteArray):∀ (n:Nat) (s:ByteArray),s.size≤n→(∀ p ∈ bA s sep,∀ x ∈ p.data.toList,x≠c)→bA ((s++sep)++t) sep=bA s sep++bA t sep
 |n,s,hn,h=>by
  have h1:1≤sep.size:=by rw [←aJ,hsep];simp
  rcases lT s sep h1 with e|⟨l,r,e0,e1,hlt⟩
  · rw [e] at h ⊢
    have:=nW (s:=(s++sep)++t) (l:=s.data.toList) (r:=t.data.toList) hsep (by rw [bD,bD,List.append_assoc]) (h s List.mem_cons_self)
    rw [this,dU,dU];rfl
  · rw [e1] at h ⊢
    have hl:∀ x ∈ l,x≠c:=fun x hx=>h ⟨l.toArray⟩ List.mem_cons_self x (by simpa using hx)
    have:=nW (s:=(s++sep)++t) (l:=l) (r:=r++(sep.data.toList++t.data.toList)) hsep (by rw [bD,bD,e0];simp [List.append_assoc]) hl
    rw [this,List.cons_append]
    have er:(⟨(r++(sep.data.toList++t.data.toList)).toArray⟩:ByteArray)=((⟨r.toArray⟩:ByteArray)++sep)++t:=by
     refine (fN ?_).symm;rw [bD,bD];simp [List.append_assoc]
    rw [er];cases n with
    |zero=>omega
    |succ n=>
     have hs:(⟨r.toArray⟩:ByteArray).size≤n:=by rw [fW];omega
     rw [dV hsep t n ⟨r.toArray⟩ hs fun p hp=>h p (List.mem_cons_of_mem _ hp)]
theorem fO (c:UInt8):∀ (n:Nat) (s:ByteArray),s.size≤n→∀ p ∈ bA s ⟨#[c]⟩,∀ x ∈ p.data.toList,x≠c
 |n,s,hn=>by
  have h1:1≤(⟨#[c]⟩:ByteArray).size:=Nat.le_refl _
  rcases Lib.indexB_cases s ⟨#[c]⟩ with hi|⟨i,hi,hr⟩
  · have e:bA s ⟨#[c]⟩=[s]:=by unfold bA;exact Lib.splitB_miss _ _ _ _ hi
    rw [e];intro p hp x hx hc;rw [List.mem_singleton] at hp;subst hp;subst hc;obtain ⟨j,hj⟩:=List.getElem?_of_mem hx
    rcases Lib.index_spec p.data.toList [x] with ⟨_,h3⟩|⟨j',h2,_⟩
    · have hlt:j<p.data.toList.length:=(List.getElem?_eq_some_iff.1 hj).1
      have:=h3 j (by omega)
      unfold Lib.occAt at this;rw [List.drop_eq_getElem_cons hlt] at this;rw [List.getElem?_eq_getElem hlt,Option.some.injEq] at hj;rw [hj] at this
      simp at this
    · rw [eP] at hi
      change Lib.index p.data.toList [x]= -1 at hi
      omega
  · have hno:∀ x ∈ s.data.toList.take i,x≠c:=by
     intro x hx hc;subst hc;obtain ⟨j,hj⟩:=List.getElem?_of_mem hx
     have hji:j<i∧s.data.toList[j]? =some x:=by
      rw [List.getElem?_take] at hj
      split at hj
      · exact ⟨by assumption,hj⟩
      · cases hj
     rcases Lib.index_spec s.data.toList [x] with ⟨h2,_⟩|⟨j',h2,_,_,h3⟩
     · rw [eP] at hi
       change Lib.index s.data.toList [x]=_ at hi
       omega
     · rw [eP] at hi
       change Lib.index s.data.toList [x]=_ at hi
       have:j'=i:=by omega
       subst this;have h4:=h3 j hji.1;unfold Lib.occAt at h4;have hlt:j<s.data.toList.length:=(List.getElem?_eq_some_iff.1 hji.2).1;rw [List.drop_eq_getElem_cons hlt] at h4;have h5:=hji.2;rw [List.getElem?_eq_getElem hlt,Option.some.injEq] at h5;rw [h5] at h4
       simp at h4
    have e1:s.extract 0 (i+0)=⟨(s.data.toList.take i).toArray⟩:=fN (by rw [Lib.extract_from_zero,Nat.add_zero])
    have e:bA s ⟨#[c]⟩=⟨(s.data.toList.take i).toArray⟩::bA (s.extract (i+1) s.size) ⟨#[c]⟩:=by
     unfold bA;rw [Lib.countB_hit s ⟨#[c]⟩ i h1 hi,Nat.add_comm 1,Lib.splitB_hit _ _ _ _ _ hi,e1];rfl
    rw [e];intro p hp
    rcases List.mem_cons.1 hp with rfl|hp
    · intro x hx;exact hno x (by simpa using hx)
    · cases n with
      |zero=>have:(⟨#[c]⟩:ByteArray).size=1:=rfl;omega
      |succ n=>
       have hz:(s.extract (i+1) s.size).size≤n:=by
        rw [ByteArray.size_extract]
        have:(⟨#[c]⟩:ByteArray).size=1:=rfl
        omega
       exact fO c n _ hz p hp
theorem BS {A B C:Rg} (hA:RangeR A) (hB:RangeR B) (hC:RangeR C):gJ (gJ A B) C=gJ A (gJ B C):=dY ((hA.join hB).join hC) (hA.join (hB.join hC)) fun n=>by
 rw [iQ (hA.join hB) hC,iQ hA hB,iQ hA (hB.join hC),iQ hB hC,or_assoc]
theorem nF:∀ {l:List ByteArray} {R:Rg},RangeR R→hZ R l=(hZ [] l).map (gJ R)
 |[],R,hR=>by
  have:gJ R []=R:=dY (hR.join (B:=[]) trivial) hR fun n=>by rw [iQ hR (B:=[]) trivial];exact ⟨fun h=>h.elim id (fun x=>x.elim),Or.inl⟩
  simp [hZ,this]
 |a::l,R,hR=>by
  unfold hZ
  split
  · have hX:=mX (bA a ⟨#[32]⟩)
    rw [nF (hR.join hX),nD hX,nF hX,Option.map_map];cases hq:hZ [] l with
    |none=>rfl
    |some Y=>
     have hY:=oW (R:=[]) trivial hq;simp only [Option.map_some,Function.comp_apply,Option.some.injEq];exact BS hR hX hY
  · rfl
theorem tJ {a:ByteArray} {l:List ByteArray} {R:Rg}:hZ R (a::l)=if mW (bA a ⟨#[32]⟩)=true then hZ (gJ R (kW (bA a ⟨#[32]⟩))) l else none:=rfl
theorem nX:∀ {l m:List ByteArray} {R:Rg},hZ R (l++m)=(hZ R l).bind fun Q=>hZ Q m
 |[],m,R=>rfl
 |a::l,m,R=>by
  rw [List.cons_append,tJ,tJ]
  split
  · exact nX
  · rfl
theorem MC {s:ByteArray} {X:Rg} (h:jP s=some X):∀ x ∈ s.data.toList,x.toNat≠124:=by
 unfold jP at h
 split at h
 · rename_i e
   intro x hx;rw [e] at hx
   simp at hx
   subst hx;decide
 · split at h
   · rename_i ho
     obtain ⟨m,e⟩:=pR ho;have hb:=kZ m;rw [←e,Lib.extract_to_end] at hb;intro x hx;rw [←List.take_append_drop (BI s) s.data.toList,List.mem_append] at hx
     rcases hx with hx|hx
     · rw [Lib.extract_from_zero] at h
       generalize List.take (BI s) s.data.toList=sg at*;intro e124;have no:∀ l:List UInt8,(∀ y ∈ l,y.toNat≠124)→¬ sg=l:=fun l hl e=>by subst e;exact hl x hx e124
       unfold tF at h;rw [if_neg (by rintro (e|e);exact no [] (by simp) e;exact no [61] (by decide) e),if_neg (no [60] (by decide)),if_neg (no [60,61] (by decide)),if_neg (no [62] (by decide)),if_neg (no [62,61] (by decide)),if_neg (no [94] (by decide)),if_neg (no [126] (by decide))] at h;cases h
     · have:=hb x hx;omega
   · cases h
theorem nG:∀ {ps:List ByteArray} {R:Rg} {f:Bool},(bS R f ps).isSome=true→∀ p ∈ ps,∀ x ∈ p.data.toList,x.toNat≠124
 |[],_,_,_,p,hp=>by cases hp
 |q::ps,R,f,h,p,hp=>by
  unfold bS at h
  split at h
  · rename_i h0
    rcases List.mem_cons.1 hp with rfl|hp
    · intro x hx
      rw [←aJ] at h0;rw [List.eq_nil_of_length_eq_zero h0] at hx;cases hx
    · exact nG h p hp
  · split at h
    · cases h
    · rename_i X hX
      rcases List.mem_cons.1 hp with rfl|hp
      · exact MC hX
      · exact nG h p hp
theorem lU (sep:ByteArray) (h1:1≤sep.size):∀ (n:Nat) (s:ByteArray),s.size≤n→∀ x ∈ s.data.toList,x ∈ sep.data.toList∨∃ p ∈ bA s sep,x ∈ p.data.toList
 |n,s,hn,x,hx=>by
  rcases lT s sep h1 with e|⟨l,r,e0,e1,hlt⟩
  · rw [e];exact Or.inr ⟨s,List.mem_cons_self,hx⟩
  · rw [e0] at hx
    rw [e1];simp only [List.mem_append] at hx
    rcases hx with hx|hx|hx
    · exact Or.inr ⟨_,List.mem_cons_self,by simpa using hx⟩
    · exact Or.inl hx
    · cases n with
      |zero=>omega
      |succ n=>
       rcases lU sep h1 n ⟨r.toArray⟩ (by rw [fW];omega) x (by simpa using hx) with h|⟨p,hp,hpx⟩
       · exact Or.inl h
       · exact Or.inr ⟨p,List.mem_cons_of_mem _ hp,hpx⟩
theorem EV:∀ {l:List ByteArray} {R:Rg},(hZ R l).isSome=true→∀ p ∈ l,∀ x ∈ p.data.toList,x≠124
 |[],_,_,p,hp=>by cases hp
 |a::l,R,h,p,hp=>by
  unfold hZ at h
  split at h
  · rename_i hb
    rcases List.mem_cons.1 hp with rfl|hp
    · intro x hx e
      have hs:(bS gR false (bA p ⟨#[32]⟩)).isSome=true:=by
       unfold mW at hb
       split at hb
       · rename_i e2;rw [e2];rfl
       · cases hb
      rcases lU ⟨#[32]⟩ (by decide) p.size p (Nat.le_refl _) x hx with h2|⟨q,hq,hxq⟩
      · simp at h2;rw [h2] at e;exact absurd e (by decide)
      · exact nG hs q hq x hxq (by rw [e];rfl)
    · exact EV h p hp
  · cases h
theorem xS {s t:ByteArray} {A B:Rg} (ha:fX s=some A) (hb:fX t=some B):fX ((s++⟨#[124,124]⟩)++t)=some (gJ A B):=by
 unfold fX at*;rw [dV (c:=124) (tl:=[124]) rfl t s.size s (Nat.le_refl _) (EV (by rw [ha];rfl)),nX,ha,Option.bind_some,nF (oW (R:=[]) trivial ha),hb];rfl
theorem II {R:Rg} (hR:RangeR R):gI R gR=R:=dY (hR.meet cT) hR fun n=>by
 rw [iP hR cT,uY];exact ⟨fun h=>h.1,fun h=>⟨h,hR.in h⟩⟩
theorem MD {A B C:Rg} (hA:RangeR A) (hB:RangeR B) (hC:RangeR C):gI (gI A B) C=gI A (gI B C):=dY ((hA.meet hB).meet hC) (hA.meet (hB.meet hC)) fun n=>by
 rw [iP hA (hB.meet hC),iP hB hC,iP (hA.meet hB) hC,iP hA hB];exact ⟨fun h=>⟨h.1.1,h.1.2,h.2⟩,fun h=>⟨⟨h.1,h.2.1⟩,h.2.2⟩⟩
theorem gN:∀ {ps:List ByteArray} {R:Rg} {f:Bool},RangeR R→bS R f ps=(bS gR false ps).map fun q=>(gI R q.1,f||q.2)
 |[],R,f,hR=>by simp [bS,II hR]
 |p::ps,R,f,hR=>by
  unfold bS
  split
  · exact gN hR
  · split
    · rfl
    · rename_i X hX
      have hXr:=oV hX;rw [gN (hR.meet hXr),xQ hXr,gN hXr,Option.map_map];cases hq:bS gR false ps with
      |none=>rfl
      |some Y=>
       obtain ⟨Y,g⟩:=Y;have hY:=kA cT hq;simp only [Option.map_some,Function.comp_apply,Option.some.injEq,Prod.mk.injEq,Bool.true_or,Bool.or_true,and_true];exact MD hR hXr hY
theorem gO {p:ByteArray} {ps:List ByteArray} {R:Rg} {f:Bool}:bS R f (p::ps)=if p.size=0 then bS R f ps else match jP p with
 |none=>none
 |some X=>bS (gI R X) true ps:=rfl
theorem eX:∀ {ps qs:List ByteArray} {R:Rg} {f:Bool},bS R f (ps++qs)=(bS R f ps).bind fun q=>bS q.1 q.2 qs
 |[],qs,R,f=>rfl
 |p::ps,qs,R,f=>by
  rw [List.cons_append,gO,gO]
  split
  · exact eX
  · cases jP p with
    |none=>rfl
    |some X=>exact eX
theorem eQ {s:ByteArray} (h:∀ x ∈ s.data.toList,x≠124) {A:Rg}:fX s=some A↔bS gR false (bA s ⟨#[32]⟩)=some (A,true):=by
 have p1:bA s ⟨#[124,124]⟩=[s]:=iT (c:=124) (tl:=[124]) rfl h;unfold fX;rw [p1];unfold hZ;have hj:=nD (mX (bA s ⟨#[32]⟩));rw [hj];unfold mW kW;cases hq:bS gR false (bA s ⟨#[32]⟩) with
 |none=>simp
 |some q=>
  obtain ⟨X,f⟩:=q;cases f<;>simp [hZ]
theorem IJ {s t:ByteArray} {A B:Rg} (hs:∀ x ∈ s.data.toList,x≠124) (ht:∀ x ∈ t.data.toList,x≠124) (ha:fX s=some A) (hb:fX t=some B):fX ((s++⟨#[32]⟩)++t)=some (gI A B):=by
 have hst:∀ x ∈ ((s++⟨#[32]⟩)++t).data.toList,x≠124:=by
  intro x hx;rw [bD,bD] at hx;simp only [List.mem_append] at hx
  rcases hx with (hx|hx)|hx
  · exact hs x hx
  · simp at hx;rw [hx];decide
  · exact ht x hx
 have ea:=(eQ hs).1 ha;have eb:=(eQ ht).1 hb;rw [eQ hst,dV (c:=32) (tl:=[]) rfl t s.size s (Nat.le_refl _) (fO 32 s.size s (Nat.le_refl _)),eX,ea,Option.bind_some,gN (PN ha),eb];rfl
theorem iA {s t:ByteArray} (h:s.data.toList=t.data.toList):s=t:=(fN h).trans (dU t)
theorem tK (s:ByteArray):(⟨#[]⟩:ByteArray)++s=s:=iA (by rw [bD];rfl)
theorem IK (s:ByteArray):s++(⟨#[]⟩:ByteArray)=s:=iA (by rw [bD];exact List.append_nil _)
theorem lV (c:UInt8):bA ⟨#[]⟩ ⟨#[c]⟩=[⟨#[]⟩]:=iT (c:=c) (tl:=[]) rfl (fun x hx=>by cases hx)
theorem xT {s:ByteArray} (hs:∀ x ∈ s.data.toList,x≠124) {A:Rg} (ha:fX s=some A):fX (⟨#[32]⟩++s)=some A∧∀ x ∈ (⟨#[32]⟩++s).data.toList,x≠124:=by
 have hb:∀ x ∈ (⟨#[32]⟩++s).data.toList,x≠124:=by
  intro x hx;rw [bD] at hx
  rcases List.mem_append.1 hx with hx|hx
  · simp at hx;rw [hx];decide
  · exact hs x hx
 refine ⟨?_,hb⟩;have e:(⟨#[32]⟩:ByteArray)++s=((⟨#[]⟩:ByteArray)++⟨#[32]⟩)++s:=by rw [tK]
 have hp:=dV (sep:=⟨#[32]⟩) (c:=32) (tl:=[]) rfl s 0 ⟨#[]⟩ (Nat.le_refl _) (fO 32 0 ⟨#[]⟩ (Nat.le_refl _));rw [eQ hb,e,hp,lV,List.singleton_append,gO,if_pos (show (⟨#[]⟩:ByteArray).size=0 from rfl)];exact (eQ hs).1 ha
theorem tL {s:ByteArray} (hs:∀ x ∈ s.data.toList,x≠124) {A:Rg} (ha:fX s=some A):fX (s++⟨#[32]⟩)=some A∧∀ x ∈ (s++⟨#[32]⟩).data.toList,x≠124:=by
 have hb:∀ x ∈ (s++⟨#[32]⟩).data.toList,x≠124:=by
  intro x hx;rw [bD] at hx
  rcases List.mem_append.1 hx with hx|hx
  · exact hs x hx
  · simp at hx;rw [hx];decide
 refine ⟨?_,hb⟩;have e:s++(⟨#[32]⟩:ByteArray)=(s++⟨#[32]⟩)++⟨#[]⟩:=by rw [IK]
 have hp:=dV (sep:=⟨#[32]⟩) (c:=32) (tl:=[]) rfl ⟨#[]⟩ s.size s (Nat.le_refl _) (fO 32 s.size s (Nat.le_refl _));rw [eQ hb,e,hp,lV,eX,(eQ hs).1 ha];simp only [Option.bind_some];rw [gO,if_pos (show (⟨#[]⟩:ByteArray).size=0 from rfl)];rfl
theorem iB {sg:ByteArray} (hs:qE sg) {a b c:Int} (h:aZ a b c=true) {X:Rg} (hX:tF sg.data.toList (bB a b c)=some X):fX (sg++aI a b c)=some X∧∀ x ∈ (sg++aI a b c).data.toList,x≠124:=by
 have hp:=BR hs h;have hl:=nE h;refine ⟨xR (fun x hx=>⟨(hp x hx).1,(hp x hx).2.1⟩) ?_ ((IH hs h).trans hX),fun x hx e=>(hp x hx).2.1 (by rw [e];rfl)⟩;rw [bZ];rw [aJ] at hl;omega
theorem ME:fX ⟨#[42]⟩=some gR∧∀ x ∈ (⟨#[42]⟩:ByteArray).data.toList,x≠124:=by
 refine ⟨xR ?_ (by decide) ?_,?_⟩
 · intro x hx;simp at hx;rw [hx];decide
 · unfold jP;rw [if_pos rfl]
 · intro x hx;simp at hx;rw [hx];decide
theorem EW:qE ⟨#[60,61]⟩:=by intro x hx;simp at hx;rcases hx with rfl|rfl<;>decide
theorem EX:qE ⟨#[62,61]⟩:=by intro x hx;simp at hx;rcases hx with rfl|rfl<;>decide
theorem PX:qE ⟨#[]⟩:=by intro x hx;simp at hx
theorem qF:bB 0 0 0=0:=by decide+kernel
theorem xU:bB 999 999 999=999999999:=by decide+kernel
theorem EY {lo hi:Int} (h1:okR lo) (h2:okR hi) (h:lo≤hi):fX (spT (lo,hi))=some [(lo,hi)]∧∀ x ∈ (spT (lo,hi)).data.toList,x≠124:=by
 obtain ⟨m1,e1⟩:=iN h1.has;obtain ⟨m2,e2⟩:=iN h2.has;unfold spT fK
 simp only
 split
 · rename_i hq
   have hlh:lo=hi:=by rw [←e1,←e2,hq.1,hq.2.1,hq.2.2]
   have:=iB PX m1 (X:=[(lo,lo)]) (by rw [e1];rfl)
   rw [tK] at this;rw [←hlh];exact this
 · split
   · rename_i _ hq
     have hl:lo=0:=by rw [←e1,hq.1.1,hq.1.2.1,hq.1.2.2];exact qF
     have hh:hi=999999999:=by rw [←e2,hq.2.1,hq.2.2.1,hq.2.2.2];exact xU
     rw [hl,hh];exact ME
   · split
     · rename_i _ _ hq
       have hl:lo=0:=by rw [←e1,hq.1,hq.2.1,hq.2.2];exact qF
       have:=iB EW m2 (X:=[(0,hi)]) (by rw [e2];rfl)
       rw [hl];exact this
     · split
       · rename_i _ _ _ hq
         have hh:hi=999999999:=by rw [←e2,hq.1,hq.2.1,hq.2.2];exact xU
         have:=iB EX m1 (X:=[(lo,999999999)]) (by rw [e1];rfl)
         rw [hh];exact this
       · obtain ⟨a1,b1⟩:=iB EX m1 (X:=[(lo,999999999)]) (by rw [e1];rfl)
         obtain ⟨a2,b2⟩:=iB EW m2 (X:=[(0,hi)]) (by rw [e2];rfl);have r1:=jO h1 okL h1.2;have r2:=jO okF h2 h2.1
         have hm:gI [(lo,999999999)] [(0,hi)]=[(lo,hi)]:=dY (r1.meet r2) (jO h1 h2 h) fun n=>by
          rw [iP r1 r2];simp only [InR,or_false]
          have:=h1.1
          have:=h2.2
          omega
         have e:((⟨#[62,61]⟩++aI (atA lo) (atB lo) (atC lo))++⟨#[32,60,61]⟩)++aI (atA hi) (atB hi) (atC hi)=((⟨#[62,61]⟩++aI (atA lo) (atB lo) (atC lo))++⟨#[32]⟩)++(⟨#[60,61]⟩++aI (atA hi) (atB hi) (atC hi)):=iA (by simp only [bD];simp);rw [e];refine ⟨by rw [IJ b1 b2 a1 a2,hm],?_⟩;intro x hx;rw [bD,bD] at hx;simp only [List.mem_append] at hx
         rcases hx with (hx|hx)|hx
         · exact b1 x hx
         · simp at hx;rw [hx];decide
         · exact b2 x hx
theorem tM {k M:Int} {p:Int×Int} {A:Rg} (h:RiseR k M (p::A)):k≤p.1∧p.1≤p.2∧p.2≤M∧RiseR (p.2+2) M A:=h
theorem IL {k j M:Int} (hj:j≤k):∀ {A:Rg},RiseR k M A→RiseR j M A
 |[],_=>trivial
 |(_,_)::_,h=>⟨by have:=h.1;omega,h.2.1,h.2.2.1,h.2.2.2⟩
theorem tN:∀ {A:Rg},RangeR A→A≠[]→fX (cK A)=some A∧fX (⟨#[32]⟩++cK A)=some A
 |[],_,h=>absurd rfl h
 |[(lo,hi)],hA,_=>by
  obtain ⟨q1,q2,q3,_⟩:=tM hA;obtain ⟨a,b⟩:=EY (lo:=lo) (hi:=hi) ⟨q1,by simp at q2 q3;omega⟩ ⟨by simp at q1 q2;omega,q3⟩ q2
  have e:cK [(lo,hi)]=spT (lo,hi):=by
   unfold cK;simp only [List.map_cons,List.map_nil];rw [Lib.join_one,dU]
  rw [e];exact ⟨a,(xT b a).1⟩
 |(lo,hi)::q::r,hA,_=>by
  obtain ⟨q1,q2,q3,q4⟩:=tM hA;have hB:RangeR (q::r):=IL (by simp at q1 q2;omega) q4;have hP:RangeR [(lo,hi)]:=⟨q1,q2,q3,trivial⟩;obtain ⟨a,b⟩:=EY (lo:=lo) (hi:=hi) ⟨q1,by simp at q2 q3;omega⟩ ⟨by simp at q1 q2;omega,q3⟩ q2;obtain ⟨_,i2⟩:=tN hB (by simp)
  have hj:gJ [(lo,hi)] (q::r)=(lo,hi)::q::r:=dY (hP.join hB) hA fun n=>by
   rw [iQ hP hB];simp only [InR,or_false]
  have e:cK ((lo,hi)::q::r)=((spT (lo,hi)++⟨#[32]⟩)++⟨#[124,124]⟩)++(⟨#[32]⟩++cK (q::r)):=by
   refine iA ?_;simp only [bD];unfold cK;simp only [List.map_cons];rw [Lib.join_cons]
   have:Lib.joinTail [32,124,124,32] ((spT q).data.toList::r.map fun p=>(spT p).data.toList)=[32,124,124,32]++Lib.join ((spT q).data.toList::r.map fun p=>(spT p).data.toList) [32,124,124,32]:=by
    rw [Lib.join_cons];simp [Lib.joinTail]
   rw [this]
   simp
  obtain ⟨c1,d1⟩:=tL b a;obtain ⟨c2,d2⟩:=xT b a;obtain ⟨c3,d3⟩:=tL d2 c2;refine ⟨by rw [e,xS c1 i2,hj],?_⟩
  have e2:⟨#[32]⟩++cK ((lo,hi)::q::r)=(((⟨#[32]⟩++spT (lo,hi))++⟨#[32]⟩)++⟨#[124,124]⟩)++(⟨#[32]⟩++cK (q::r)):=by
   rw [e];refine iA ?_;simp only [bD]
   simp
  rw [e2,xS c3 i2,hj]
theorem PY:qE ⟨#[60]⟩:=by intro x hx;simp at hx;rw [hx];decide
theorem BT {A:Rg} (hA:RangeR A):fX (cK A)=some A:=by
 cases A with
 |cons p A=>exact (tN hA (by simp)).1
 |nil=>
  have:=(iB PY (a:=0) (b:=0) (c:=0) (by decide+kernel) (X:=jN gR [(0,999999999)]) (by rw [qF];rfl)).1
  have e:jN gR [(0,999999999)]=[]:=by decide+kernel
  rw [e] at this;exact this
theorem qG {A:Rg} (hl:A.length≤64):(cK A).size≤4096:=by
 cases A with
 |nil=>have:=dP 0 0 0;have z:(⟨#[60]⟩:ByteArray).size=1:=rfl;show (⟨#[60]⟩++aI 0 0 0).size≤4096;rw [bZ];omega
 |cons p A=>
  show (⟨(Lib.join ((p::A).map fun p=>(spT p).data.toList) [32,124,124,32]).toArray⟩:ByteArray).size≤4096;rw [fW,List.map_cons,Lib.join_length,←List.map_cons (f:=fun p=>(spT p).data.toList)]
  have:=vB 27 ((p::A).map fun p=>(spT p).data.toList) (by
   intro x hx;obtain ⟨q,_,rfl⟩:=List.mem_map.1 hx;exact pT _ _ _ _ _ _)
  simp only [List.length_map,List.length_cons,List.length_nil] at*;omega
theorem tO {A:Rg} (hA:RangeR A) (hl:A.length≤64):sM (cK A)=some A:=by
 unfold sM;rw [if_pos (qG hl)];exact BT hA
def FarB (b:Nat) (w w':World):Prop:=∀ N cs t fr,w.heap[N]? =some (.cells cs t fr)→t≠5→N≠b→w'.heap[N]? =some (.cells cs t fr)
theorem FarB.refl (b:Nat) (w:World):FarB b w w:=fun _ _ _ _ h _ _=>h
theorem FarB.trans {b:Nat} {w w1 w2:World} (h:FarB b w w1) (h2:FarB b w1 w2):FarB b w w2:=fun N cs t fr hh ht hn=>h2 N cs t fr (h N cs t fr hh ht hn) ht hn
theorem FarB.set {b:Nat} {w w1:World} (h:FarB b w w1) (i:Nat) (u:Value):FarB b w (w1.setCell ⟨b,i,none⟩ u):=fun N cs t fr hh ht hn=>(Below.heap_setCell _ _ _ _ hn).trans (h N cs t fr hh ht hn)
theorem FarB.below {b:Nat} {w w':World} (h:Below w.heap.size w w'):FarB b w w':=fun N _ _ _ hh _ _=>(h.block N (Array.getElem?_eq_some_iff.1 hh).1).trans hh
theorem tP {B b:Nat} {l:Sc.Bs} {w:World} (h:Sc.Bld B b l w):
 Calls Tryz.prog 106 #[.pointer (some ⟨b,0,none⟩)] w fun e w'=>e= .returned (.tuple #[])∧Lib.BuilderAt 118 5 B b (.pointer (some ⟨b,0,none⟩)) (Lib.byteCells l) w'∧Below B w w'∧FarB b w w':=by
 rcases h with h|h
 · refine (Sc.nV b w h.cell0 h.shape h.frozen0).mono ?_
   rintro e w' ⟨rfl,rfl⟩;exact ⟨rfl,h.used _,(Below.refl B w).setCell (p:=⟨b,0,none⟩) h.1 _,(FarB.refl b w).set _ _⟩
 · refine (Sc.qD b w h.cell0).mono ?_
   rintro e w' ⟨rfl,rfl⟩;exact ⟨rfl,h,Below.refl B _,FarB.refl b _⟩
set_option maxHeartbeats 1600000 in
theorem xV {B b:Nat} {l:Sc.Bs} {w:World} (s:ByteArray) (h:Sc.Bld B b l w) (hl:l.length+s.size≤140737488355328) (hB:B≤w.heap.size):
 Calls Tryz.prog 54 #[.pointer (some ⟨b,0,none⟩),.string s] w fun e w'=>e= .returned (.tuple #[.int .i64 s.size,.nilIface])∧Sc.Bld B b (l++s.data.toList) w'∧Below B w w'∧FarB b w w':=by
 obtain ⟨i0,hi,hz0,hz1,hz2⟩:=Sc.bX Sc.EU;have HC:=aB (tP h);have hlc:(Lib.byteCells l).length=l.length:=Lib.byteCells_length l
 go_enter Tryz.func54,Tryz.ntmps54
 go_wp2_with (go_at_call 106;refine HC.out.mono ?_)
 rintro e w1 ⟨rfl,h1,hb1,hf1⟩;obtain ⟨hBb,v,hbk,hown,hne⟩:=h1;have c0:w1.cell? ⟨b,0,none⟩=some (.pointer (some ⟨b,0,none⟩)):=by rw [Lib.cell_of_heap hbk];rfl
 have c1:w1.cell? ⟨b,1,none⟩=some v:=by rw [Lib.cell_of_heap hbk];rfl
 have hs1:=hb1.size
 go_wp2_with (at_builtin;refine Lib.wpList_append_own_string _ rfl _ _ 116 9 rfl B 5 i0 Tryz.underlying116 Tryz.underlying9 hi hz0 hz1 hz2 _ _ _ rfl hown s rfl (by unfold maxLen;omega) (by omega) (by omega) ?_)
 intro v' w2 hown' hgrow _;have hlt:b<w1.heap.size:=(Array.getElem?_eq_some_iff.1 hbk).1
 have hb2:w2.heap[b]? =some (.cells #[.pointer (some ⟨b,0,none⟩),v] 118 (0,0)):=by
  rw [hgrow.block b hlt (fun e=>hne e.symm)];exact hbk
 have HFA:Hid (FarB b w w2):=fun N cs t fr hh ht hn=>by
  have hN:=hf1 N cs t fr hh ht hn;refine (hgrow.block N (Array.getElem?_eq_some_iff.1 hN).1 (fun e=> ?_)).trans hN
  rcases hown.2 with ⟨hv,_⟩|⟨g,cap,cur,hv,_,hg,_⟩
  · rw [hv] at e;cases e
  · rw [hv] at e
    obtain rfl:N=g:=Option.some.inj e;rw [hN] at hg;injection hg with hg
    injection hg with _ hg _
    exact ht hg
 have d0:w2.cell? ⟨b,0,none⟩=some (.pointer (some ⟨b,0,none⟩)):=by rw [Lib.cell_of_heap hb2];rfl
 have d1:w2.cell? ⟨b,1,none⟩=some v:=by rw [Lib.cell_of_heap hb2];rfl
 have f1:w2.frozen? ⟨b,1,none⟩=false:=Lib.frozen_of_heap hb2 1
 obtain ⟨ao,n',cap,rfl⟩:∃ ao n' cap,v'= .slice ao n' cap:=by
  rcases hown'.2 with ⟨hv,_⟩|⟨g,cap,cur,hv,_⟩
  · exact ⟨_,_,_,hv⟩
  · exact ⟨_,_,_,hv⟩
 clear hf1
 go_wp2
 go_ret2;refine ⟨rfl,Or.inr ?_,?_,HFA.out.set _ _⟩
 · refine Lib.BuilderAt.put (T:=118) (e:=5) hBb hb2 ?_ (by decide)
   rw [Lib.byteCells_append,List.length_append,←Lib.strCells_eq,hlc]
   simpa [Lib.strCells_length] using hown'
 · exact (hb1.grown hgrow (by omega) (fun k hk=>(hown.lt k hk).1)).setCell (p:=⟨b,1,none⟩) hBb _
def fB (x n r:ByteArray):Sc.Bs:=x.data.toList++([32]++(n.data.toList++([32]++(r.data.toList++[10]))))
theorem EZ {B b:Nat} {l:Sc.Bs} {w:World} (h:Sc.Bld B b l w):Calls Tryz.prog 158 #[.pointer (some ⟨b,0,none⟩)] w fun e w'=>e= .returned (.int .i64 l.length)∧w'=w:=by
 obtain ⟨v,c1,hv⟩:∃ v,w.cell? ⟨b,1,none⟩=some v∧∃ ad cap,v= .slice ad l.length cap:=by
  rcases h with ⟨_,v,hbk,hown,_⟩|⟨_,v,hbk,hown,_⟩<;>
  · refine ⟨v,by rw [Lib.cell_of_heap hbk];rfl,?_⟩
    rcases hown.2 with ⟨hv,hn⟩|⟨g,cap,cur,hv,_⟩
    · rw [Lib.byteCells_length] at hn
      exact ⟨none,0,by rw [hv,hn]⟩
    · rw [Lib.byteCells_length] at hv
      exact ⟨_,_,hv⟩
 obtain ⟨ad,cap,rfl⟩:=hv
 go_enter Tryz.func158,Tryz.ntmps158
 go_wp2
 go_ret;exact ⟨rfl,rfl⟩
def plS (s:Sp):Int×Int:=(bB s.a s.b s.c,bB s.x s.y s.z)
theorem MF {A:Rg} (hA:RangeR A):(A.map spR).map plS=A:=by
 rw [List.map_map]
 conv=>rhs;rw [←List.map_id A]
 refine List.map_congr_left fun p hp=> ?_
 obtain ⟨h1,h2,_⟩:=hA.ok p hp;show (bB (atA p.1) (atB p.1) (atC p.1),bB (atA p.2) (atB p.2) (atC p.2))=p;have e1:=(iN (n:=p.1) (by unfold hI;obtain ⟨a,b⟩:=h1;simp;omega)).2;have e2:=(iN (n:=p.2) (by unfold hI;obtain ⟨a,b⟩:=h2;simp;omega)).2;rw [e1,e2]
def prS (L:List Sp):ByteArray:=cK (L.map plS)
theorem IM {L:List Sp} {u:Value} {w:World} (h:bT L=true) (hu:SpansC w u L) (he:Env w) (hf:FL w):
 Calls Tryz.prog 199 #[u] w fun e w'=>e= .returned (.string (prS L))∧Below w.heap.size w w':=by
 unfold bT at h;rw [Bool.and_eq_true] at h;obtain ⟨A,rfl,hA,hl⟩:=oT.1 h.2;unfold prS;rw [MF hA];exact GS hA hl hu.rg he hf
theorem xW {L:List Sp} (h:bT L=true):(prS L).size≤4096:=by
 unfold bT at h;rw [Bool.and_eq_true] at h;obtain ⟨A,rfl,hA,hl⟩:=oT.1 h.2;unfold prS;rw [MF hA];exact qG hl
def bI (x:ByteArray) (L:List Dp):Sc.Bs:=L.flatMap fun d=>fB x d.nm (prS d.rg)
theorem BU {x:ByteArray} {L:List Dp} {k:Nat} (h:k<L.length):bI x (L.take (k+1))=bI x (L.take k)++fB x L[k].nm (prS L[k].rg):=by
 unfold bI;rw [List.take_succ_eq_append_getElem h,List.flatMap_append]
 simp
theorem qH:∀ {L:List Dp} {q:Option ByteArray},dA q L=true→∀ d ∈ L,d.nm.size≤16∧bT d.rg=true
 |[],_,_,d,hd=>by cases hd
 |e::M,q,hq,d,hd=>by
  rw [dA,Bool.and_eq_true,Bool.and_eq_true] at hq
  rcases List.mem_cons.1 hd with rfl|hd
  · have:=hq.1.1
    unfold cV at this;rw [Bool.and_eq_true] at this
    have:=this.1
    unfold Sc.aK at this;rw [Bool.and_eq_true,decide_eq_true_eq,aJ] at this;exact ⟨this.2,hq.1.2⟩
  · exact qH hq.2 d hd
theorem xX {x n r:ByteArray} (hx:x.size≤16) (hn:n.size≤16) (hr:r.size≤4096):(fB x n r).length≤5000:=by
 unfold fB;simp only [List.length_append,aJ,List.length_cons,List.length_nil];omega
theorem fZ {x:ByteArray} (hx:x.size≤16) {L:List Dp} (h:bO L=true) (k:Nat):(bI x (L.take k)).length≤80000:=by
 unfold bO at h;rw [Bool.and_eq_true,decide_eq_true_eq] at h
 have:∀ M:List Dp,(∀ d ∈ M,d.nm.size≤16∧bT d.rg=true)→(bI x M).length≤5000*M.length:=by
  intro M
  induction M with
  |nil=>intro _;simp [bI]
  |cons d M ih=>
   intro hM;have h1:=ih fun e he=>hM e (List.mem_cons_of_mem _ he)
   have h2:=xX (x:=x) hx (hM d List.mem_cons_self).1 (xW (hM d List.mem_cons_self).2)
   have:bI x (d::M)=fB x d.nm (prS d.rg)++bI x M:=by unfold bI;simp
   rw [this,List.length_append,List.length_cons];omega
 have h2:=this (L.take k) fun d hd=>qH h.2 d (List.mem_of_mem_take hd)
 have h3:(L.take k).length≤16:=by rw [List.length_take];omega
 omega
def TW (w1:World) (l:Sc.Bs) (w':World):Prop:=Sc.Bld w1.heap.size w1.heap.size l w'∧Below w1.heap.size w1 w'
theorem IP {B b:Nat} {l:Sc.Bs} {w w':World} (h:Sc.Bld B b l w) (hb:Below w.heap.size w w'):Sc.Bld B b l w':=by
 have step:∀ p,Lib.BuilderAt 118 5 B b p (Lib.byteCells l) w→Lib.BuilderAt 118 5 B b p (Lib.byteCells l) w':=by
  rintro p ⟨hB,v,hbk,hown,hne⟩;refine ⟨hB,v,(hb.block b (Array.getElem?_eq_some_iff.1 hbk).1).trans hbk,⟨hown.1,hown.2.imp id ?_⟩,hne⟩;rintro ⟨g,cap,cur,rfl,h1,hg,h2⟩;exact ⟨g,cap,cur,rfl,h1,(hb.block g (Array.getElem?_eq_some_iff.1 hg).1).trans hg,h2⟩
 exact h.imp (step _) (step _)
theorem gA (w1:World) (l:Sc.Bs):KeepP (TW w1 l):=fun _ _ h hb=>⟨IP h.1 hb,aA h.2 hb⟩
theorem TW.new (w1:World):TW w1 [] (w1.alloc (.cells #[.pointer none,.slice none 0 0] 118)):=⟨Lib.fresh_isBuilder _ _ w1,aD _ _⟩
theorem TW.far {w1:World} {l:Sc.Bs} {w':World} (h:TW w1 l w'):w1.heap.size<w'.heap.size:=by
 rcases h.1 with h|h<;>exact h.lt
theorem TW.put {w1 wz:World} {l:Sc.Bs} (h:TW w1 l wz) (s:ByteArray) (hl:l.length≤1000000000) (hs:s.size≤1000000):
 Calls Tryz.prog 54 #[.pointer (some ⟨w1.heap.size,0,none⟩),.string s] wz fun e w'=>e= .returned (.tuple #[.int .i64 s.size,.nilIface])∧TW w1 (l++s.data.toList) w'∧FarB w1.heap.size wz w':=by
 refine (xV s h.1 (by omega) h.2.size).mono ?_;rintro e w' ⟨rfl,g1,g2,g3⟩;exact ⟨rfl,⟨g1,h.2.trans g2⟩,g3⟩
end Go.Proofs.YtlmpiohbmlddiaaGreatDoor
