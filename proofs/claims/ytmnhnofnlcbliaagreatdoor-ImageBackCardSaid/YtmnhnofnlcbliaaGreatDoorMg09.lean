/- ScBd1, Pure3, Ix1, Ix2, Tx6, Texts1: their declarations that are needed, laid in one text, remarks and blanks left out. -/
import Derived.Shelf.Strings.Builder1
import Derived.Lib.IndexMore
import Derived.Lib.CountLaws
import Derived.Test.YtmnhnofnlcbliaaGreatDoorShelfD
import Derived.Laws.RangeAny
import Derived.Lib.OthersKept
import Derived.Test.YtmnhnofnlcbliaaGreatDoorMg06
namespace Go.Proofs.YtmnhnofnlcbliaaGreatDoor.Sc
open Go.RowKit
set_option maxRecDepth 100000
theorem Dh:(Tryz.prog.info? 118).map (·.size)=some 2:=by kernel_rfl
theorem Fq:liesAt Tryz.prog Tryz.prog.depth 118 (2 / Tryz.prog.cellsOf 118) 0 118 1=true:=by kernel_rfl
theorem PD:(Tryz.prog.info? 5).map (fun i=>(i.zero,i.size,i.bytes))=some (some (.int .u8 0),1,1):=by kernel_rfl
set_option maxHeartbeats 1600000 in
theorem vG (b:Nat) (w:World) (h0:w.cell? ⟨b,0,none⟩=some (.pointer (some ⟨b,0,none⟩))):
 Calls Tryz.prog 106 #[.pointer (some ⟨b,0,none⟩)] w fun e w'=>e= .returned (.tuple #[])∧w'=w:=by
 obtain ⟨j,hj,_⟩:=Option.map_eq_some_iff.1 Dh
 go_enter Tryz.func106,Tryz.ntmps106
 go_wp2
 rw [Lib.run_neq_ptr_same w _ Tryz.underlying115 hj]
 go_wp2
 go_end0
 exact ⟨rfl,rfl⟩
set_option maxHeartbeats 1600000 in
theorem sO (b:Nat) (w:World) (h0:w.cell? ⟨b,0,none⟩=some (.pointer none)) (hsh:w.shape? b=some (118,2)) (hfz:w.frozen? ⟨b,0,none⟩=false):
 Calls Tryz.prog 106 #[.pointer (some ⟨b,0,none⟩)] w fun e w'=>e= .returned (.tuple #[])∧w'=w.setCell ⟨b,0,none⟩ (.pointer (some ⟨b,0,none⟩)):=by
 obtain ⟨j,hj,hjs⟩:=Option.map_eq_some_iff.1 Dh
 go_enter Tryz.func106,Tryz.ntmps106
 go_wp2
 rw [Lib.run_to_unsafe w ⟨b,0,none⟩ Tryz.underlying115 Tryz.underlying204 hj (by rw [hjs];decide) hsh (Nat.zero_lt_succ 1)];simp only [Result.andThen];rw [Oper.upon_value]
 go_wp2
 rw [run_callFunc_extern Tryz.func152 (by kernel_rfl) (by kernel_rfl) (by kernel_rfl) (e:=Extern.AbiNoEscape.same) (by kernel_rfl),Lib.run_noEscape];simp only [Result.andThen];rw [Oper.upon_value]
 go_wp2
 rw [Lib.run_from_unsafe w ⟨b,0,none⟩ Tryz.underlying204 Tryz.underlying115 hj hsh Fq];simp only [Result.andThen];rw [Oper.upon_value]
 go_wp2
 go_end0
 exact ⟨rfl,rfl⟩
def Bld (B b:Nat) (l:Bs) (w:World):Prop:=Lib.IsBuilder 118 5 B b (Lib.byteCells l) w
theorem zH {B b:Nat} {l:Bs} {w:World} (h:Bld B b l w):
 Calls Tryz.prog 106 #[.pointer (some ⟨b,0,none⟩)] w fun e w'=>e= .returned (.tuple #[])∧Lib.BuilderAt 118 5 B b (.pointer (some ⟨b,0,none⟩)) (Lib.byteCells l) w'∧Below B w w':=by
 rcases h with h|h
 · refine (sO b w h.cell0 h.shape h.frozen0).mono ?_
   rintro e w' ⟨rfl,rfl⟩;exact ⟨rfl,h.used _,(Below.refl B w).setCell (p:=⟨b,0,none⟩) h.1 _⟩
 · refine (vG b w h.cell0).mono ?_
   rintro e w' ⟨rfl,rfl⟩;exact ⟨rfl,h,Below.refl B _⟩
set_option maxHeartbeats 1600000 in
theorem At {B b:Nat} {l:Bs} {w:World} (c:UInt8) (h:Bld B b l w) (hl:l.length+1≤140737488355328) (hB:B≤w.heap.size):
 Calls Tryz.prog 173 #[.pointer (some ⟨b,0,none⟩),.int .u8 (c.toNat:Int)] w fun e w'=>e= .returned .nilIface∧Bld B b (l++[c]) w'∧Below B w w':=by
 obtain ⟨i0,hi,hz0,hz1,hz2⟩:=bK PD;have HC:=aB (zH h);have hlc:(Lib.byteCells l).length=l.length:=Lib.byteCells_length l
 go_enter Tryz.func173,Tryz.ntmps173
 go_wp2_with (go_at_call 106;refine HC.out.mono ?_)
 rintro e w1 ⟨rfl,h1,hb1⟩;obtain ⟨hBb,v,hbk,hown,hne⟩:=h1;have c0:w1.cell? ⟨b,0,none⟩=some (.pointer (some ⟨b,0,none⟩)):=by rw [Lib.cell_of_heap hbk];rfl
 have c1:w1.cell? ⟨b,1,none⟩=some v:=by rw [Lib.cell_of_heap hbk];rfl
 have hs1:=hb1.size
 go_wp2_with (at_builtin;refine wpList_append_own _ rfl _ _ 116 rfl B 5 i0 (.int .u8 0) 1 1 Tryz.underlying116 hi hz0 hz1 hz2 rfl (by decide) _ _ _ rfl (hown.alloc _) ⟨w1.heap.size,0,none⟩ 1 1 [.int .u8 (c.toNat:Int)] rfl rfl (cell_one_new _ _ _) (by intro u hu;rw [List.mem_singleton.1 hu];rfl) (by unfold maxLen;omega) (by omega) (by simp;omega) ?_)
 intro v' w2 hown' hgrow _;have hlt:b<w1.heap.size:=(Array.getElem?_eq_some_iff.1 hbk).1
 have hb2:w2.heap[b]? =some (.cells #[.pointer (some ⟨b,0,none⟩),v] 118 (0,0)):=by
  rw [hgrow.block b (by simp;omega) (fun e=>hne e.symm),Lib.alloc_old w1 _ b hlt];exact hbk
 have d0:w2.cell? ⟨b,0,none⟩=some (.pointer (some ⟨b,0,none⟩)):=by rw [Lib.cell_of_heap hb2];rfl
 have d1:w2.cell? ⟨b,1,none⟩=some v:=by rw [Lib.cell_of_heap hb2];rfl
 have f1:w2.frozen? ⟨b,1,none⟩=false:=Lib.frozen_of_heap hb2 1
 obtain ⟨ao,n',cap,rfl⟩:∃ ao n' cap,v'= .slice ao n' cap:=by
  rcases hown'.2 with ⟨hv,_⟩|⟨g,cap,cur,hv,_⟩
  · exact ⟨_,_,_,hv⟩
  · exact ⟨_,_,_,hv⟩
 go_wp2
 go_ret;refine ⟨rfl,Or.inr ?_,?_⟩
 · refine Lib.BuilderAt.put (T:=118) (e:=5) hBb hb2 ?_ (by decide)
   rw [Lib.byteCells_append,List.length_append,hlc];exact hown'
 · exact ((hb1.alloc (by omega) _).grown hgrow (by simp;omega) (fun k hk=>(hown.lt k hk).1)).setCell (p:=⟨b,1,none⟩) hBb _
set_option maxHeartbeats 1600000 in
theorem Au {B b:Nat} {l:Bs} {w:World} (s:ByteArray) (h:Bld B b l w) (hl:l.length+s.size≤140737488355328) (hB:B≤w.heap.size):
 Calls Tryz.prog 54 #[.pointer (some ⟨b,0,none⟩),.string s] w fun e w'=>e= .returned (.tuple #[.int .i64 s.size,.nilIface])∧Bld B b (l++s.data.toList) w'∧Below B w w':=by
 obtain ⟨i0,hi,hz0,hz1,hz2⟩:=bK PD;have HC:=aB (zH h);have hlc:(Lib.byteCells l).length=l.length:=Lib.byteCells_length l
 go_enter Tryz.func54,Tryz.ntmps54
 go_wp2_with (go_at_call 106;refine HC.out.mono ?_)
 rintro e w1 ⟨rfl,h1,hb1⟩;obtain ⟨hBb,v,hbk,hown,hne⟩:=h1;have c0:w1.cell? ⟨b,0,none⟩=some (.pointer (some ⟨b,0,none⟩)):=by rw [Lib.cell_of_heap hbk];rfl
 have c1:w1.cell? ⟨b,1,none⟩=some v:=by rw [Lib.cell_of_heap hbk];rfl
 have hs1:=hb1.size
 go_wp2_with (at_builtin;refine Lib.wpList_append_own_string _ rfl _ _ 116 9 rfl B 5 i0 Tryz.underlying116 Tryz.underlying9 hi hz0 hz1 hz2 _ _ _ rfl hown s rfl (by unfold maxLen;omega) (by omega) (by omega) ?_)
 intro v' w2 hown' hgrow _;have hlt:b<w1.heap.size:=(Array.getElem?_eq_some_iff.1 hbk).1
 have hb2:w2.heap[b]? =some (.cells #[.pointer (some ⟨b,0,none⟩),v] 118 (0,0)):=by
  rw [hgrow.block b hlt (fun e=>hne e.symm)];exact hbk
 have d0:w2.cell? ⟨b,0,none⟩=some (.pointer (some ⟨b,0,none⟩)):=by rw [Lib.cell_of_heap hb2];rfl
 have d1:w2.cell? ⟨b,1,none⟩=some v:=by rw [Lib.cell_of_heap hb2];rfl
 have f1:w2.frozen? ⟨b,1,none⟩=false:=Lib.frozen_of_heap hb2 1
 obtain ⟨ao,n',cap,rfl⟩:∃ ao n' cap,v'= .slice ao n' cap:=by
  rcases hown'.2 with ⟨hv,_⟩|⟨g,cap,cur,hv,_⟩
  · exact ⟨_,_,_,hv⟩
  · exact ⟨_,_,_,hv⟩
 go_wp2
 go_ret2;refine ⟨rfl,Or.inr ?_,?_⟩
 · refine Lib.BuilderAt.put (T:=118) (e:=5) hBb hb2 ?_ (by decide)
   rw [Lib.byteCells_append,List.length_append,←Lib.strCells_eq,hlc]
   simpa [Lib.strCells_length] using hown'
 · exact (hb1.grown hgrow (by omega) (fun k hk=>(hown.lt k hk).1)).setCell (p:=⟨b,1,none⟩) hBb _
end Go.Proofs.YtmnhnofnlcbliaaGreatDoor.Sc
namespace Go.Proofs.YtmnhnofnlcbliaaGreatDoor
open Go.RowKit
set_option maxRecDepth 100000
theorem gS (s t:ByteArray):Lib.indexB s t=Lib.index s.data.toList t.data.toList:=rfl
theorem fE (s:ByteArray):(⟨s.data.toList.toArray⟩:ByteArray)=s:=(dC rfl).symm
theorem WR {l:List UInt8} {c:UInt8} {tl:List UInt8} {j:Nat} (h:∀ x,l[j]? =some x→x≠c):Lib.occAt l (c::tl) j=false:=by
 unfold Lib.occAt;cases hd:l.drop j with
 |nil=>rfl
 |cons x r=>
  have hx:l[j]? =some x:=by
   have:=congrArg (fun q=>q[0]?) hd
   simpa using this
  have:=h x hx
  simp only [List.isPrefixOf_cons_cons,Bool.and_eq_false_imp,beq_iff_eq];intro e;exact (this e.symm).elim
theorem lK {s sep:ByteArray} {c:UInt8} {tl:List UInt8} (hsep:sep.data.toList=c::tl) (h:∀ x ∈ s.data.toList,x≠c):aP s sep=[s]:=by
 have hi:Lib.indexB s sep= -1:=by
  rw [gS,hsep];exact Lib.index_none fun j _=>WR fun x hx=>h x (List.mem_of_getElem? hx)
 unfold aP;exact Lib.splitB_miss _ _ _ _ hi
theorem sP {s sep:ByteArray} {c:UInt8} {tl l r:List UInt8} (hsep:sep.data.toList=c::tl) (hs:s.data.toList=l++(sep.data.toList++r)) (h:∀ x ∈ l,x≠c):aP s sep=⟨l.toArray⟩::aP ⟨r.toArray⟩ sep:=by
 have h1:1≤sep.size:=by rw [←aI,hsep];simp
 have hi:Lib.indexB s sep=(l.length:Int):=by
  rw [gS,hs];refine Lib.index_first (by simp) ?_ ?_
  · unfold Lib.occAt
    rw [List.drop_left];exact List.isPrefixOf_iff_prefix.2 (List.prefix_append _ _)
  · intro j hj
    rw [hsep];refine WR fun x hx=> ?_
    rw [List.getElem?_append_left hj] at hx;exact h x (List.mem_of_getElem? hx)
 have hr:s.extract (l.length+sep.size) s.size=⟨r.toArray⟩:=by
  refine dC ?_;rw [Lib.extract_to_end,hs,←aI sep,List.drop_append,List.drop_of_length_le (by simp),List.nil_append,Nat.add_sub_cancel_left,List.drop_left]
 have hl:s.extract 0 (l.length+0)=⟨l.toArray⟩:=by
  refine dC ?_;rw [Lib.extract_from_zero,hs,Nat.add_zero,List.take_left]
 unfold aP;rw [Lib.countB_hit s sep l.length h1 hi,Nat.add_comm 1,Lib.splitB_hit _ _ _ _ _ hi,hr,hl]
theorem FH {X:Rg} (hX:RangeR X):fX cF X=X:=fN (cD.meet hX) hX fun n=>by
 rw [lF cD hX,BK];exact ⟨fun h=>h.2,fun h=>⟨hX.in h,h⟩⟩
theorem rL {X:Rg} (hX:RangeR X):fY [] X=X:=fN (RangeR.join (A:=[]) trivial hX) hX fun n=>by
 rw [lG (A:=[]) trivial hX];exact ⟨fun h=>h.elim (fun x=>x.elim) id,Or.inr⟩
theorem LC {a b c:Int} (h:bB a b c=true):∃ d r,(aL a b c).data.toList=d::r∧48≤d.toNat∧d.toNat≤57:=by
 rw [iW h];obtain ⟨a0,a1,_⟩:=dR h;rw [gC a0];have hd:=dH a.toNat;cases hq:Lib.decDigits a.toNat with
 |nil=>exact (oE _ hq).elim
 |cons d r=>exact ⟨d,_,rfl,hd d (by rw [hq];exact List.mem_cons_self)⟩
theorem lL {a b c:Int} (h:bB a b c=true):∀ x ∈ (aL a b c).data.toList,x.toNat=46∨(48≤x.toNat∧x.toNat≤57):=by
 rw [iW h];obtain ⟨a0,a1,b0,b1,c0,c1⟩:=dR h;rw [gC a0,gC b0,gC c0];intro x hx;simp only [List.mem_append,List.mem_cons] at hx
 rcases hx with hx|rfl|hx|rfl|hx
 · exact Or.inr (dH _ x hx)
 · exact Or.inl rfl
 · exact Or.inr (dH _ x hx)
 · exact Or.inl rfl
 · exact Or.inr (dH _ x hx)
theorem rM {a b c:Int} (h:bB a b c=true):2≤(aL a b c).data.toList.length:=by
 rw [iW h];simp;omega
theorem WS {d:UInt8} (h:48≤d.toNat∧d.toNat≤57):([48,49,50,51,52,53,54,55,56,57]:List UInt8).contains d=true:=by
 have:d.toNat=48∨d.toNat=49∨d.toNat=50∨d.toNat=51∨d.toNat=52∨d.toNat=53∨d.toNat=54∨d.toNat=55∨d.toNat=56∨d.toNat=57:=by omega
 have e:∀ k:Nat,d.toNat=k→d=UInt8.ofNat k:=fun k hk=>by rw [←hk];simp
 rcases this with h|h|h|h|h|h|h|h|h|h<;>(rw [e _ h];decide)
theorem SL {d:UInt8} (h:¬ (48≤d.toNat∧d.toNat≤57)):([48,49,50,51,52,53,54,55,56,57]:List UInt8).contains d=false:=by
 rw [Bool.eq_false_iff];intro hc;simp only [List.contains_iff_mem,List.mem_cons,List.not_mem_nil,or_false] at hc;apply h
 rcases hc with rfl|rfl|rfl|rfl|rfl|rfl|rfl|rfl|rfl|rfl<;>decide
theorem bH (x y:ByteArray):(x++y).data.toList=x.data.toList++y.data.toList:=by
 show (x++y).data.toList=_;rw [ByteArray.data_append,Array.toList_append]
def vH (s:ByteArray):Prop:=∀ x ∈ s.data.toList,x.toNat<48∧x.toNat≠32∨57<x.toNat∧x.toNat<124∨x.toNat=126
theorem SM {sg:ByteArray} (hs:vH sg) {a b c:Int} (h:bB a b c=true):fD (sg++aL a b c)=gK sg.data.toList (bE a b c):=by
 obtain ⟨d,r,hd,h1,h2⟩:=LC h;have hl:=rM h
 have hk:tJ (sg++aL a b c)=sg.size:=by
  unfold tJ;rw [bH,Lib.indexAny_hit (i:=sg.data.toList.length) (x:=d) ?_ ?_ (WS ⟨h1,h2⟩)]
  · rw [aI];omega
  · intro j x hj hx
    rw [List.getElem?_append_left hj] at hx
    have:=hs x (List.mem_of_getElem? hx)
    exact SL (by omega)
  · rw [List.getElem?_append_right (Nat.le_refl _),hd];simp
 have e1:(sg++aL a b c).extract sg.size (sg++aL a b c).size=aL a b c:=by
  have:((sg++aL a b c).extract sg.size (sg++aL a b c).size).data.toList=(aL a b c).data.toList:=by
   rw [Lib.extract_to_end,bH,←aI sg,List.drop_left]
  rw [dC this,fE]
 have e2:((sg++aL a b c).extract 0 sg.size).data.toList=sg.data.toList:=by
  rw [Lib.extract_from_zero,bH,←aI sg,List.take_left]
 unfold fD;rw [if_neg,hk,e1,e2,if_pos (rI h).1]
 · unfold plP
   rw [(rI h).2.1,(rI h).2.2.1,(rI h).2.2.2]
 · rw [bH]
   intro e
   have:=congrArg List.length e
   rw [List.length_append,List.length_singleton] at this;omega
theorem FI {s:ByteArray} (h:∀ x ∈ s.data.toList,x.toNat≠32∧x.toNat≠124) (h0:s.size≠0) {X:Rg} (hX:fD s=some X):jC s=some X:=by
 have p1:aP s ⟨#[124,124]⟩=[s]:=lK (c:=124) (tl:=[124]) rfl fun x hx e=>(h x hx).2 (by rw [e];rfl)
 have p2:aP s ⟨#[32]⟩=[s]:=lK (c:=32) (tl:=[]) rfl fun x hx e=>(h x hx).1 (by rw [e];rfl)
 have hw:bO cF false [s]=some (X,true):=by
  rw [bO,if_neg h0,hX];simp only [bO];rw [FH (pQ hX)]
 unfold jC;rw [p1];unfold fT;rw [p2];have b:gD [s]=true:=by unfold gD;rw [hw]
 have l:eZ [s]=X:=by unfold eZ;rw [hw]
 rw [if_pos b,l,rL (pQ hX)];rfl
theorem LF {sg:ByteArray} (hs:vH sg) {a b c:Int} (h:bB a b c=true):∀ x ∈ (sg++aL a b c).data.toList,x.toNat≠32∧x.toNat≠124∧x.toNat<128:=by
 intro x hx;rw [bH,List.mem_append] at hx
 rcases hx with hx|hx
 · have:=hs x hx;omega
 · have:=lL h x hx;omega
theorem tW:∀ (l:List UInt8) (c:UInt8),(∀ x ∈ l,x.toNat<128)→128≤c.toNat→Lib.indexByte l c= -1
 |[],_,_,_=>rfl
 |b::l,c,h,hc=>by
  have hb:=h b List.mem_cons_self;have ih:=tW l c (fun x hx=>h x (List.mem_cons_of_mem _ hx)) hc;unfold Lib.indexByte
  have:¬ b=c:=fun e=>by subst e;omega
  simp [this,ih]
set_option maxHeartbeats 1600000 in
theorem FJ (r:Int) (b0 c:UInt8) (w:World) (h0:0≤r) (h1:¬ r<128) (hr:(r==65533)=false) (hv:Lib.validRune r=true) (he:Utf8.encode r=⟨#[b0,c]⟩) (hc:128≤c.toNat):
 Calls Tryz.prog 311 #[.string ⟨#[48,49,50,51,52,53,54,55,56,57]⟩,.int .i32 r] w fun e w'=>e= .returned (.int .i64 (-1))∧Below w.heap.size w w':=by
 have HV:Hid (∀ w1,Calls Tryz.prog 323 #[.int .i32 r] w1 fun e w'=>e= .returned (.bool true)∧w'=w1):=fun w1=>by have:=Tryz.utf8_ValidRune r w1;rw [hv] at this;exact this
 have HB:Hid (∀ w1,Calls Tryz.prog 322 #[.string ((⟨#[48,49,50,51,52,53,54,55,56,57]⟩:ByteArray).extract 2 10),.int .u8 (c.toNat:Int)] w1 fun e w'=>e= .returned (.int .i64 (-1))∧Below w1.heap.size w1 w'):=fun w1=>by
  refine (Tryz.strings_IndexByte ((⟨#[48,49,50,51,52,53,54,55,56,57]⟩:ByteArray).extract 2 10) (c.toNat:Int) w1).mono ?_;rintro e w' ⟨rfl,hw⟩;have hcc:((c.toNat:Int)).toNat.toUInt8=c:=by simp
  rw [hcc,tW _ c (by decide) hc];exact ⟨rfl,by rw [hw];exact Below.refl _ _⟩
 have hne:((49:Int) != (c.toNat:Int))=true:=by simp;omega
 have gA:∀ h,(⟨#[48,49,50,51,52,53,54,55,56,57]⟩:ByteArray)[1]'h=49:=fun _=>rfl
 have gB:∀ h,(⟨#[b0,c]⟩:ByteArray)[1]'h=c:=fun _=>rfl
 have hwr:IntKind.i64.wrap 2=2:=by decide
 clear hc hv
 go_enter Tryz.func311,Tryz.ntmps311
 go_wp2_with (go_at_call 323;refine (HV.out _).mono ?_;rintro e w1 ⟨rfl,hw⟩;subst hw)
 go_step3
 go_wp2_with fail
 refine wp_loop_rounds 1 ?_;rw [rounds_succ]
 go_wp2_with fail
 go_step3
 go_wp2_with fail
 have HO:Hid (Below w1.heap.size w1 w1):=Below.refl _ _;have HK:Hid (KeepP fun w2=>Below w1.heap.size w1 w2):=aG w1;refine cE HK (by kernel_rfl) (by kernel_rfl) (by first|exact HO.out|exact HK.out.drew HO.out) ?_;intro C HIN HOUT;clear HO
 repeat
  (with_reducible refine wpQuiet_step (fun K hK=> ?_)
   go_simp
   first
    |(refine hK _ ?_;clear hK K)
    |(apply Exists.intro;refine ⟨fun w1 hC=> ?_,hK _ ?_⟩;(focus ((first|(exact rfl)|(obtain hb1:=HOUT.out w1 hC;clear hC;go_simp;first|done|exact rfl));done));clear hK K))
 refine wpQuiet_nil ?_;intro wn hC;have HO:=aB (HOUT.out _ hC);clear hC HIN HOUT C;obtain hb1:=HO.out
 go_wp2_with fail
 clear hb1;refine cE HK (by kernel_rfl) (by kernel_rfl) (by first|exact HO.out|exact HK.out.drew HO.out) ?_;intro C HIN HOUT;clear HO
 repeat
  (with_reducible refine wpQuiet_step (fun K hK=> ?_)
   go_simp
   first
    |(refine hK _ ?_;clear hK K)
    |(apply Exists.intro;refine ⟨fun w1 hC=> ?_,hK _ ?_⟩;(focus ((first|(go_at_call 322;with_reducible exact eJ HIN HOUT HK HB.out w1 hC)|(exact rfl)|(obtain hb1:=HOUT.out w1 hC;clear hC;go_simp;first|done|exact rfl));done));clear hK K))
 refine wpQuiet_nil ?_;intro wm hC;have HO:=aB (HOUT.out _ hC);clear hC HIN HOUT C;obtain hb1:=HO.out
 go_wp2
 rw [Exit.noGoto_ret]
 go_wp2
 rw [Exit.noGoto_ret];go_ret;exact ⟨rfl,HO.out⟩
set_option maxHeartbeats 1600000 in
theorem FK (r:Int) (b0 b1 c:UInt8) (w:World) (h0:0≤r) (h1:¬ r<128) (hr:(r==65533)=false) (hv:Lib.validRune r=true) (he:Utf8.encode r=⟨#[b0,b1,c]⟩) (hc:128≤c.toNat):
 Calls Tryz.prog 311 #[.string ⟨#[48,49,50,51,52,53,54,55,56,57]⟩,.int .i32 r] w fun e w'=>e= .returned (.int .i64 (-1))∧Below w.heap.size w w':=by
 have HV:Hid (∀ w1,Calls Tryz.prog 323 #[.int .i32 r] w1 fun e w'=>e= .returned (.bool true)∧w'=w1):=fun w1=>by have:=Tryz.utf8_ValidRune r w1;rw [hv] at this;exact this
 have HB:Hid (∀ w1,Calls Tryz.prog 322 #[.string ((⟨#[48,49,50,51,52,53,54,55,56,57]⟩:ByteArray).extract 3 10),.int .u8 (c.toNat:Int)] w1 fun e w'=>e= .returned (.int .i64 (-1))∧Below w1.heap.size w1 w'):=fun w1=>by
  refine (Tryz.strings_IndexByte ((⟨#[48,49,50,51,52,53,54,55,56,57]⟩:ByteArray).extract 3 10) (c.toNat:Int) w1).mono ?_;rintro e w' ⟨rfl,hw⟩;have hcc:((c.toNat:Int)).toNat.toUInt8=c:=by simp
  rw [hcc,tW _ c (by decide) hc];exact ⟨rfl,by rw [hw];exact Below.refl _ _⟩
 have hne:((50:Int) != (c.toNat:Int))=true:=by simp;omega
 have gA:∀ h,(⟨#[48,49,50,51,52,53,54,55,56,57]⟩:ByteArray)[2]'h=50:=fun _=>rfl
 have gB:∀ h,(⟨#[b0,b1,c]⟩:ByteArray)[2]'h=c:=fun _=>rfl
 have hwr:IntKind.i64.wrap 3=3:=by decide
 clear hc hv
 go_enter Tryz.func311,Tryz.ntmps311
 go_wp2_with (go_at_call 323;refine (HV.out _).mono ?_;rintro e w1 ⟨rfl,hw⟩;subst hw)
 go_step3
 go_wp2_with fail
 refine wp_loop_rounds 1 ?_;rw [rounds_succ]
 go_wp2_with fail
 go_step3
 go_wp2_with fail
 have HO:Hid (Below w1.heap.size w1 w1):=Below.refl _ _;have HK:Hid (KeepP fun w2=>Below w1.heap.size w1 w2):=aG w1;refine cE HK (by kernel_rfl) (by kernel_rfl) (by first|exact HO.out|exact HK.out.drew HO.out) ?_;intro C HIN HOUT;clear HO
 repeat
  (with_reducible refine wpQuiet_step (fun K hK=> ?_)
   go_simp
   first
    |(refine hK _ ?_;clear hK K)
    |(apply Exists.intro;refine ⟨fun w1 hC=> ?_,hK _ ?_⟩;(focus ((first|(exact rfl)|(obtain hb1:=HOUT.out w1 hC;clear hC;go_simp;first|done|exact rfl));done));clear hK K))
 refine wpQuiet_nil ?_;intro wn hC;have HO:=aB (HOUT.out _ hC);clear hC HIN HOUT C;obtain hb1:=HO.out
 go_wp2_with fail
 clear hb1;refine cE HK (by kernel_rfl) (by kernel_rfl) (by first|exact HO.out|exact HK.out.drew HO.out) ?_;intro C HIN HOUT;clear HO
 repeat
  (with_reducible refine wpQuiet_step (fun K hK=> ?_)
   go_simp
   first
    |(refine hK _ ?_;clear hK K)
    |(apply Exists.intro;refine ⟨fun w1 hC=> ?_,hK _ ?_⟩;(focus ((first|(go_at_call 322;with_reducible exact eJ HIN HOUT HK HB.out w1 hC)|(exact rfl)|(obtain hb1:=HOUT.out w1 hC;clear hC;go_simp;first|done|exact rfl));done));clear hK K))
 refine wpQuiet_nil ?_;intro wm hC;have HO:=aB (HOUT.out _ hC);clear hC HIN HOUT C;obtain hb1:=HO.out
 go_wp2
 rw [Exit.noGoto_ret]
 go_wp2
 rw [Exit.noGoto_ret];go_ret;exact ⟨rfl,HO.out⟩
set_option maxHeartbeats 1600000 in
theorem FM (r:Int) (b0 b1 b2 c:UInt8) (w:World) (h0:0≤r) (h1:¬ r<128) (hr:(r==65533)=false) (hv:Lib.validRune r=true) (he:Utf8.encode r=⟨#[b0,b1,b2,c]⟩) (hc:128≤c.toNat):
 Calls Tryz.prog 311 #[.string ⟨#[48,49,50,51,52,53,54,55,56,57]⟩,.int .i32 r] w fun e w'=>e= .returned (.int .i64 (-1))∧Below w.heap.size w w':=by
 have HV:Hid (∀ w1,Calls Tryz.prog 323 #[.int .i32 r] w1 fun e w'=>e= .returned (.bool true)∧w'=w1):=fun w1=>by have:=Tryz.utf8_ValidRune r w1;rw [hv] at this;exact this
 have HB:Hid (∀ w1,Calls Tryz.prog 322 #[.string ((⟨#[48,49,50,51,52,53,54,55,56,57]⟩:ByteArray).extract 4 10),.int .u8 (c.toNat:Int)] w1 fun e w'=>e= .returned (.int .i64 (-1))∧Below w1.heap.size w1 w'):=fun w1=>by
  refine (Tryz.strings_IndexByte ((⟨#[48,49,50,51,52,53,54,55,56,57]⟩:ByteArray).extract 4 10) (c.toNat:Int) w1).mono ?_;rintro e w' ⟨rfl,hw⟩;have hcc:((c.toNat:Int)).toNat.toUInt8=c:=by simp
  rw [hcc,tW _ c (by decide) hc];exact ⟨rfl,by rw [hw];exact Below.refl _ _⟩
 have hne:((51:Int) != (c.toNat:Int))=true:=by simp;omega
 have gA:∀ h,(⟨#[48,49,50,51,52,53,54,55,56,57]⟩:ByteArray)[3]'h=51:=fun _=>rfl
 have gB:∀ h,(⟨#[b0,b1,b2,c]⟩:ByteArray)[3]'h=c:=fun _=>rfl
 have hwr:IntKind.i64.wrap 4=4:=by decide
 clear hc hv
 go_enter Tryz.func311,Tryz.ntmps311
 go_wp2_with (go_at_call 323;refine (HV.out _).mono ?_;rintro e w1 ⟨rfl,hw⟩;subst hw)
 go_step3
 go_wp2_with fail
 refine wp_loop_rounds 1 ?_;rw [rounds_succ]
 go_wp2_with fail
 go_step3
 go_wp2_with fail
 have HO:Hid (Below w1.heap.size w1 w1):=Below.refl _ _;have HK:Hid (KeepP fun w2=>Below w1.heap.size w1 w2):=aG w1;refine cE HK (by kernel_rfl) (by kernel_rfl) (by first|exact HO.out|exact HK.out.drew HO.out) ?_;intro C HIN HOUT;clear HO
 repeat
  (with_reducible refine wpQuiet_step (fun K hK=> ?_)
   go_simp
   first
    |(refine hK _ ?_;clear hK K)
    |(apply Exists.intro;refine ⟨fun w1 hC=> ?_,hK _ ?_⟩;(focus ((first|(exact rfl)|(obtain hb1:=HOUT.out w1 hC;clear hC;go_simp;first|done|exact rfl));done));clear hK K))
 refine wpQuiet_nil ?_;intro wn hC;have HO:=aB (HOUT.out _ hC);clear hC HIN HOUT C;obtain hb1:=HO.out
 go_wp2_with fail
 clear hb1;refine cE HK (by kernel_rfl) (by kernel_rfl) (by first|exact HO.out|exact HK.out.drew HO.out) ?_;intro C HIN HOUT;clear HO
 repeat
  (with_reducible refine wpQuiet_step (fun K hK=> ?_)
   go_simp
   first
    |(refine hK _ ?_;clear hK K)
    |(apply Exists.intro;refine ⟨fun w1 hC=> ?_,hK _ ?_⟩;(focus ((first|(go_at_call 322;with_reducible exact eJ HIN HOUT HK HB.out w1 hC)|(exact rfl)|(obtain hb1:=HOUT.out w1 hC;clear hC;go_simp;first|done|exact rfl));done));clear hK K))
 refine wpQuiet_nil ?_;intro wm hC;have HO:=aB (HOUT.out _ hC);clear hC HIN HOUT C;obtain hb1:=HO.out
 go_wp2
 rw [Exit.noGoto_ret]
 go_wp2
 rw [Exit.noGoto_ret];go_ret;exact ⟨rfl,HO.out⟩
theorem vI (w:World) (s:ByteArray) (p:Nat):Below w.heap.size w (w.iter s p):=aC _ _
def D10:ByteArray:=⟨#[48,49,50,51,52,53,54,55,56,57]⟩
theorem Av (i:Nat) (h:i<D10.size):(D10[i]'h).toNat<128:=by
 have:∀ i,(h:i<D10.size)→(D10[i]'h).toNat<128:=by decide
 exact this i h
set_option maxHeartbeats 1600000 in
theorem yF (w:World) (s:ByteArray) (hs:∀ i (h:i<s.size),(s[i]'h).toNat<128):
 Calls Tryz.prog 311 #[.string s,.int .i32 65533] w fun e w'=>e= .returned (.int .i64 (-1))∧Below w.heap.size w w':=by
 have HS:=aB hs;clear hs
 go_enter Tryz.func311,Tryz.ntmps311
 go_wp2_with fail
 go_loopg [5,6] s.size (fun g _ _ wx=>∃ i:Nat,i+g=s.size∧wx=w.iter s i)
 case atStart=>exact ⟨0,by omega,rfl⟩
 case round=>
  obtain ⟨i,hig,rfl⟩:=hrel;cases gk with
  |zero=>
   obtain rfl:i=s.size:=by omega
   have hnx:=run_next_end (P:=Tryz.prog) w s s.size
   go_wp2
   go_ret;exact ⟨rfl,vI w s _⟩
  |succ g=>
   have hi:i<s.size:=by omega
   have hx128:=HS.out i hi;have hnx:=fun ty=>run_next_ascii (P:=Tryz.prog) w s i ty hi hx128
   have hne:(((s[i]'hi).toNat:Int)==65533)=false:=by simp;omega
   generalize (s[i]'hi).toNat=x at*
   go_wp2
   go_roundg g
   case measure=>omega
   case rel=>exact ⟨i+1,by omega,rfl⟩
set_option maxHeartbeats 1600000 in
theorem yG (r:Int) (s:ByteArray) (w:World) (h0:0≤r) (h1:¬ r<128) (hr:(r==65533)=false) (hv:Lib.validRune r=false):
 Calls Tryz.prog 311 #[.string s,.int .i32 r] w fun e w'=>e= .returned (.int .i64 (-1))∧Below w.heap.size w w':=by
 have HV:Hid (∀ w1,Calls Tryz.prog 323 #[.int .i32 r] w1 fun e w'=>e= .returned (.bool false)∧w'=w1):=fun w1=>by have:=Tryz.utf8_ValidRune r w1;rw [hv] at this;exact this
 clear hv
 go_enter Tryz.func311,Tryz.ntmps311
 go_wp2_with (go_at_call 323;refine (HV.out _).mono ?_;rintro e w1 ⟨rfl,hw⟩;subst hw)
 go_ret;exact ⟨rfl,Below.refl _ _⟩
theorem LG (r:Int):Utf8.valid r=Lib.validRune r:=by
 unfold Utf8.valid Lib.validRune;rw [Bool.eq_iff_iff]
 simp
 omega
theorem rN (n:Nat):128≤(UInt8.ofNat (0x80+n % 64)).toNat:=by
 rw [UInt8.toNat_ofNat'];omega
theorem CA (n:Nat) (hn:128≤n) (w:World):
 Calls Tryz.prog 311 #[.string ⟨#[48,49,50,51,52,53,54,55,56,57]⟩,.int .i32 (n:Int)] w fun e w'=>e= .returned (.int .i64 (-1))∧Below w.heap.size w w':=by
 by_cases hr:n=65533
 · subst hr
   exact yF w _ Av
 · have hr2:((n:Int)==65533)=false:=by simp;omega
   have h1:¬ (n:Int)<128:=by omega
   cases hv:Lib.validRune (n:Int)
   · exact yG n _ w (by omega) h1 hr2 hv
   · have hv2:Utf8.valid (n:Int)=true:=by rw [LG];exact hv
     have hlt:n≤0x10FFFF:=by unfold Lib.validRune at hv;simp at hv;omega
     by_cases c1:n<0x800
     · exact FJ n (UInt8.ofNat (0xC0+n / 64)) (UInt8.ofNat (0x80+n % 64)) w (by omega) h1 hr2 hv (by unfold Utf8.encode;rw [hv2];simp only [if_true,Int.toNat_natCast];rw [if_neg (by omega),if_pos c1]) (rN n)
     · by_cases c2:n<0x10000
       · exact FK n (UInt8.ofNat (0xE0+n / 4096)) (UInt8.ofNat (0x80+n / 64 % 64)) (UInt8.ofNat (0x80+n % 64)) w (by omega) h1 hr2 hv (by unfold Utf8.encode;rw [hv2];simp only [if_true,Int.toNat_natCast];rw [if_neg (by omega),if_neg c1,if_pos c2]) (rN n)
       · exact FM n (UInt8.ofNat (0xF0+n / 262144)) (UInt8.ofNat (0x80+n / 4096 % 64)) (UInt8.ofNat (0x80+n / 64 % 64)) (UInt8.ofNat (0x80+n % 64)) w (by omega) h1 hr2 hv (by unfold Utf8.encode;rw [hv2];simp only [if_true,Int.toNat_natCast];rw [if_neg (by omega),if_neg c1,if_neg c2]) (rN n)
theorem yH (n:Nat) (w:World):
 Calls Tryz.prog 311 #[.string ⟨#[48,49,50,51,52,53,54,55,56,57]⟩,.int .i32 (n:Int)] w fun e w'=>∃ q:Int,e= .returned (.int .i64 q)∧ -1≤q∧Below w.heap.size w w':=by
 by_cases h:n<128
 · refine (Tryz.strings_IndexRune_ascii _ (n:Int) w (by omega) (by omega)).mono ?_
   rintro e w' ⟨rfl,rfl⟩;exact ⟨_,rfl,Lib.indexByte_ge _ _,Below.refl _ _⟩
 · refine (CA n (by omega) w).mono ?_
   rintro e w' ⟨rfl,hb⟩;exact ⟨-1,rfl,by omega,hb⟩
theorem LH (s:ByteArray) (pos:Nat) (h:pos<s.size):1≤(Utf8.decode s pos).2:=by
 by_cases ha:(s[pos]'h).toNat<128
 · rw [decode_ascii s pos h ha];exact Nat.le_refl _
 · exact (decode_high s pos h (by omega)).2
set_option maxHeartbeats 3200000 in
theorem CB (s:ByteArray) (h8:s.size≤8) (w:World):
 Calls Tryz.prog 304 #[.string s,.string ⟨#[48,49,50,51,52,53,54,55,56,57]⟩] w fun e w'=>∃ q:Int,e= .returned (.int .i64 q)∧(-1≤q∧q<s.size∨q= -1)∧Below w.heap.size w w':=by
 have HR:Hid (∀ n w1,Calls Tryz.prog 311 #[.string ⟨#[48,49,50,51,52,53,54,55,56,57]⟩,.int .i32 ((n:Nat):Int)] w1 fun e w'=>∃ q:Int,e= .returned (.int .i64 q)∧ -1≤q∧Below w1.heap.size w1 w'):=yH;have HU:Hid (∀ w1,Calls Tryz.prog 312 #[.int .i64 (s.size:Int)] w1 fun e w'=>e= .returned (.bool false)∧w'=w1):=fun w1=>by have:=Tryz.strings_shouldUseASCIISet (s.size:Int) w1;rw [decide_eq_false (by omega)] at this;exact this
 go_enter Tryz.func304,Tryz.ntmps304
 go_wp2_with (go_at_call 312;refine (HU.out _).mono ?_;rintro e w1 ⟨rfl,hw⟩;subst hw)
 go_loopg [9,10] s.size (fun g _ _ wx=>∃ i:Nat,s.size≤i+g∧wx.heap[w1.heap.size]? =some (.stringIter s i)∧Below w1.heap.size w1 wx)
 case atStart=>exact ⟨0,by omega,by rw [World.iter_heap],vI _ _ _⟩
 case round=>
  obtain ⟨i,hig,hit,hb⟩:=hrel;have HB:=aB hb;have HIT:=aB hit;clear hb
  by_cases hi:i<s.size
  · obtain ⟨g,rfl⟩:∃ g,gk=g+1:=⟨gk - 1,by omega⟩
    have hnx:=fun ty=>Lib.run_next_any_at (P:=Tryz.prog) wr w1.heap.size s i ty hit hi
    have hd:=LH s i hi;have HIT2:=aB (Lib.iterAt_heap wr w1.heap.size s i (i+(Utf8.decode s i).2) hit);have HB2:=aB (Lib.below_iterAt HB.out (k:=w1.heap.size) (Nat.le_refl _) s (i+(Utf8.decode s i).2));clear hit;generalize (Utf8.decode s i).2=d at*;generalize (Utf8.decode s i).1=n at*;have HRn:=aB (HR.out n)
    go_wp2_with (go_at_call 311;refine (HRn.out _).mono ?_;rintro e w2 ⟨q,rfl,hq,ok⟩;have HO:=aB ok;clear ok)
    · go_ret
      exact ⟨i,rfl,Or.inl ⟨by omega,by omega⟩,aA HB2.out HO.out⟩
    · have HSZ:Hid (w1.heap.size<(wr.iterAt w1.heap.size s (i+d)).heap.size):=(Array.getElem?_eq_some_iff.1 HIT2.out).1
      go_roundg g
      case measure=>omega
      case rel=>exact ⟨i+d,by omega,(HO.out.block _ HSZ.out).trans HIT2.out,aA HB2.out HO.out⟩
  · have hnx:=fun ty=>Lib.run_next_end_at (P:=Tryz.prog) wr w1.heap.size s i ty hit hi
    clear hit
    go_wp2
    go_ret;exact ⟨-1,rfl,Or.inr rfl,HB.out⟩
def FN (s:ByteArray):Prop:=∃ x ∈ s.data.toList,128≤x.toNat
theorem WT (s:ByteArray):KQ s∨(s.size≤8∧FN s):=by
 by_cases h8:8<s.size
 · exact Or.inl (Or.inl h8)
 · by_cases h:∀ x ∈ s.data.toList,x.toNat<128
   · exact Or.inl (Or.inr fun j b hj=>h b (List.mem_of_getElem? hj))
   · right
     refine ⟨by omega,?_⟩;unfold FN;simp only [Classical.not_forall] at h;obtain ⟨x,hx,h2⟩:=h;exact ⟨x,hx,by omega⟩
theorem vJ {s:List UInt8} {n:Int} (h:∃ x ∈ s,128≤x.toNat):gK s n=none:=by
 obtain ⟨x,hx,h1⟩:=h;have no:∀ l:List UInt8,(∀ y ∈ l,y.toNat<128)→¬ s=l:=fun l hl e=>by subst e;have:=hl x hx;omega
 unfold gK;rw [if_neg (by rintro (e|e);exact no [] (by simp) e;exact no [61] (by decide) e),if_neg (no [60] (by decide)),if_neg (no [60,61] (by decide)),if_neg (no [62] (by decide)),if_neg (no [62,61] (by decide)),if_neg (no [94] (by decide)),if_neg (no [126] (by decide))]
theorem zI {s:ByteArray} (h:FN s) {k:Nat} (ho:okP (s.extract k s.size)=true):∃ x ∈ (s.extract 0 k).data.toList,128≤x.toNat:=by
 obtain ⟨x,hx,h1⟩:=h;obtain ⟨m,e⟩:=pO ho;have hb:=lL m;rw [←e,Lib.extract_to_end] at hb;rw [Lib.extract_from_zero];rw [←List.take_append_drop k s.data.toList,List.mem_append] at hx
 rcases hx with hx|hx
 · exact ⟨x,hx,h1⟩
 · have:=hb x hx;omega
theorem SN {s:ByteArray} (h:FN s):fD s=none:=by
 unfold fD;rw [if_neg]
 · split
   · rename_i ho
     exact vJ (zI h ho)
   · rfl
 · intro e
   obtain ⟨x,hx,h1⟩:=h;rw [e] at hx
   simp at hx
   subst hx;exact absurd h1 (by decide)
set_option maxHeartbeats 1600000 in
theorem WU (s:ByteArray) (h8:s.size≤8) (hh:FN s) (w:World) (he:Env w) (hf:FL w):
 Calls Tryz.prog 295 #[.string s] w fun e w'=>∃ v,e= .returned (.tuple #[v,.bool false])∧SpansR w' v []∧Below w.heap.size w w':=by
 have h42:(s.toList==[42])=false:=kA fun e=>by
  obtain ⟨x,hx,h1⟩:=hh;rw [e] at hx
  simp at hx
  subst hx;exact absurd h1 (by decide)
 have HI:=aB (CB s h8 w);have HP:Hid (∀ k w1,Below w.heap.size w w1→Calls Tryz.prog 256 #[.string (s.extract k s.size)] w1 fun e w'=>e= .returned (.tuple #[.agg #[.int .i64 (eS (s.extract k s.size)),.int .i64 (eT (s.extract k s.size)),.int .i64 (eU (s.extract k s.size))],.bool (okP (s.extract k s.size))])∧Below w1.heap.size w1 w'):=fun k w1 hb=>iX (s.extract k s.size) (by simp;omega) w1 (he.below hb)
 have HHH:=aB hh;have HFL:=aB hf;clear he hf hh
 go_enter Tryz.func295,Tryz.ntmps295
 go_wp2_with (go_at_call 304;refine HI.out.mono ?_;rintro e w1 ⟨q,rfl,hq,ok1⟩;have HO1:=aB ok1;clear ok1;obtain ⟨k,hqk,hk⟩:∃ k:Nat,max q 0=(k:Int)∧k≤s.size:=⟨(max q 0).toNat,by omega,by omega⟩;clear hq)
 by_cases ho:okP (s.extract k s.size)=true
 · obtain ⟨hn,e1,e2,e3⟩:=KP ho
   have HPk:Hid (∀ w1,Below w.heap.size w w1→Calls Tryz.prog 256 #[.string (s.extract k s.size)] w1 fun e w'=>e= .returned (.tuple #[.agg #[.int .i64 (atA (plP (s.extract k s.size))),.int .i64 (atB (plP (s.extract k s.size))),.int .i64 (atC (plP (s.extract k s.size)))],.bool true])∧Below w1.heap.size w1 w'):=fun w1 hb=>by
    have:=HP.out k w1 hb;rw [ho,←e1,←e2,←e3] at this;exact this
   have HS:Hid (∀ w1,FL w1→Calls Tryz.prog 305 #[.string (s.extract 0 k),.agg #[.int .i64 (atA (plP (s.extract k s.size))),.int .i64 (atB (plP (s.extract k s.size))),.int .i64 (atC (plP (s.extract k s.size)))]] w1 fun e w'=>∃ v,e= .returned (.tuple #[v,.bool false])∧SpansR w' v []∧Below w1.heap.size w1 w'):=fun w1 h=>by
    have:=uV (s.extract 0 k) hn w1 h
    rw [vJ (zI HHH.out ho)] at this;exact this
   clear ho e1 e2 e3 hn HP;generalize plP (s.extract k s.size)=n at*
   go_wp2_with (go_at_call 256;refine (HPk.out _ HO1.out).mono ?_;rintro e w2 ⟨rfl,ok2⟩;have HO2:=aB (aA HO1.out ok2);clear ok2)
   have HB:Hid (Below w.heap.size w (w2.alloc (.cells #[.int .i64 (atA n),.int .i64 (atB n),.int .i64 (atC n)] 52))∧BxAt (w2.alloc (.cells #[.int .i64 (atA n),.int .i64 (atB n),.int .i64 (atC n)] 52)) ⟨w2.heap.size,.int .i64 (atA n),.int .i64 (atB n),.int .i64 (atC n)⟩):=⟨aA HO2.out (aC _ _),((OKs.nil w2).box rfl _ _ _).one⟩;obtain ⟨_,b0,b1,b2,b3⟩:=HB.out;have HK:Hid (KeepP fun w1=>Below w.heap.size w w1∧BxAt w1 ⟨w2.heap.size,.int .i64 (atA n),.int .i64 (atB n),.int .i64 (atC n)⟩):=(aG w).and (rE _)
   go_region_held3 (fun w'=>w'.cell? ⟨w2.heap.size,0,none⟩=some (.int .i64 (atA n))∧w'.cell? ⟨w2.heap.size,1,none⟩=some (.int .i64 (atB n))∧w'.cell? ⟨w2.heap.size,2,none⟩=some (.int .i64 (atC n))) (go_keep)
    (first
      |(go_at_call 305;refine (HS.out _ (HFL.out.below (HK.out.drew HB.out).1)).mono ?_;rintro e w3 ⟨v3,rfl,ok3⟩;have HO3:=aB ok3;have HO4:=aB (HK.out _ _ (HK.out.drew HB.out) ok3.2);clear ok3 b0 b1 b2 b3;obtain ⟨_,b0,b1,b2,b3⟩:=HO4.out))
   all_goals go_wp2
   all_goals go_ret2
   all_goals exact ⟨v3,rfl,HO3.out.1,HO4.out.1⟩
 · have HPk:Hid (∀ w1,Below w.heap.size w w1→Calls Tryz.prog 256 #[.string (s.extract k s.size)] w1 fun e w'=>e= .returned (.tuple #[.agg #[.int .i64 (eS (s.extract k s.size)),.int .i64 (eT (s.extract k s.size)),.int .i64 (eU (s.extract k s.size))],.bool false])∧Below w1.heap.size w1 w'):=fun w1 hb=>by
    have:=HP.out k w1 hb;rw [show okP (s.extract k s.size)=false by simpa using ho] at this;exact this
   clear ho HP
   go_wp2_with (go_at_call 256;refine (HPk.out _ HO1.out).mono ?_;rintro e w2 ⟨rfl,ok2⟩;have HO2:=aB (aA HO1.out ok2);clear ok2)
   go_ret2;exact ⟨_,rfl,⟨none,0,rfl,Nat.le_refl _,Or.inl rfl⟩,aA HO2.out (aC _ _)⟩
theorem WV (s:ByteArray) (hs:s.size≤4294967200) (w:World) (he:Env w) (hf:FL w):
 Calls Tryz.prog 295 #[.string s] w fun e w'=>∃ v,e= .returned (.tuple #[v,.bool (fD s).isSome])∧SpansR w' v ((fD s).getD [])∧Below w.heap.size w w':=by
 rcases WT s with hp|⟨h8,hh⟩
 · exact VY s hs hp w he hf
 · rw [SN hh]
   exact WU s h8 hh w he hf
theorem LI (s:ByteArray) (hs:s.size≤4096) (w:World) (he:Env w) (hf:FL w):
 Calls Tryz.prog 278 #[.string s] w fun e w'=>∃ v,e= .returned (.tuple #[v,.bool (gD (aP s ⟨#[32]⟩))])∧SpansR w' v (eZ (aP s ⟨#[32]⟩))∧Below w.heap.size w w':=by
 have hl:=oG s ⟨#[32]⟩ (by decide);have hc:=Lib.countB_le ⟨#[32]⟩ (by decide) s.size s (Nat.le_refl _);refine KS s _ (by omega) w hf (fun w1 hb=>EP he s ⟨#[32]⟩ (by omega) (by decide) w1 hb) ?_;intro p hm h0 w1 hb
 have:=mJ _ _ _ p hm
 exact WV p (by omega) w1 (he.below hb) (hf.below hb)
def iL (s:ByteArray):Option Rg:=if s.size≤4096 then jC s else none
theorem LJ (s:ByteArray) (w:World) (he:Env w) (hf:FL w):
 Calls Tryz.prog 252 #[.string s] w fun e w'=>∃ v,e= .returned (.tuple #[v,.int .i64 (EQ (iL s))])∧OwnS w' w.heap.size v ((nS (iL s)).map spR)∧Below w.heap.size w w':=by
 unfold iL
 by_cases hs:s.size≤4096
 · rw [if_pos hs]
   have hl:=oG s ⟨#[124,124]⟩ (by decide);have hc:=Lib.countB_le ⟨#[124,124]⟩ (by decide) s.size s (Nat.le_refl _);refine ER s _ (by omega) (by omega) w hf (EP he s ⟨#[124,124]⟩ (by omega) (by decide) w (Below.refl _ _)) ?_;intro a hm w1 hb
   have:=mJ _ _ _ a hm
   exact LI a (by omega) w1 (he.below hb) (hf.below hb)
 · rw [if_neg hs]
   refine (ES s (by omega) w).mono ?_;rintro e w' ⟨rfl,hb⟩;exact ⟨_,rfl,OwnS.nil _ _,hb⟩
theorem pX (s sep:ByteArray) (h1:1≤sep.size):aP s sep=[s]∨∃ l r:List UInt8,s.data.toList=l++(sep.data.toList++r)∧aP s sep=⟨l.toArray⟩::aP ⟨r.toArray⟩ sep∧r.length<s.size:=by
 rcases Lib.indexB_cases s sep with hi|⟨i,hi,hr⟩
 · left;unfold aP;exact Lib.splitB_miss _ _ _ _ hi
 · right
   have ho:Lib.occAt s.data.toList sep.data.toList i=true:=by
    rcases Lib.index_spec s.data.toList sep.data.toList with ⟨h2,_⟩|⟨j,h2,_,h3,_⟩
    · rw [gS,h2] at hi;omega
    · rw [gS,h2] at hi
      have:j=i:=by omega
      subst this;exact h3
   unfold Lib.occAt at ho;obtain ⟨r,hr2⟩:=List.isPrefixOf_iff_prefix.1 ho;have e0:s.data.toList=s.data.toList.take i++(sep.data.toList++r):=by rw [hr2,List.take_append_drop]
   have hle:i≤s.data.toList.length:=by rw [aI];omega
   have e1:s.extract 0 (i+0)=⟨(s.data.toList.take i).toArray⟩:=dC (by rw [Lib.extract_from_zero,Nat.add_zero])
   have e2:s.extract (i+sep.size) s.size=⟨r.toArray⟩:=by
    refine dC ?_;rw [Lib.extract_to_end,←List.drop_drop,←hr2,←aI sep,List.drop_left]
   refine ⟨s.data.toList.take i,r,e0,?_,?_⟩
   · unfold aP
     rw [Lib.countB_hit s sep i h1 hi,Nat.add_comm 1,Lib.splitB_hit _ _ _ _ _ hi,e1,e2]
   · have:=congrArg List.length e0
     rw [List.length_append,List.length_append,aI,aI,List.length_take] at this;omega
theorem fF {sep:ByteArray} {c:UInt8} {tl:List UInt8} (hsep:sep.data.toList=c::tl) (t:ByteArray):∀ (n:Nat) (s:ByteArray),s.size≤n→(∀ p ∈ aP s sep,∀ x ∈ p.data.toList,x≠c)→aP ((s++sep)++t) sep=aP s sep++aP t sep
 |n,s,hn,h=>by
  have h1:1≤sep.size:=by rw [←aI,hsep];simp
  rcases pX s sep h1 with e|⟨l,r,e0,e1,hlt⟩
  · rw [e] at h ⊢
    have:=sP (s:=(s++sep)++t) (l:=s.data.toList) (r:=t.data.toList) hsep (by rw [bH,bH,List.append_assoc]) (h s List.mem_cons_self)
    rw [this,fE,fE];rfl
  · rw [e1] at h ⊢
    have hl:∀ x ∈ l,x≠c:=fun x hx=>h ⟨l.toArray⟩ List.mem_cons_self x (by simpa using hx)
    have:=sP (s:=(s++sep)++t) (l:=l) (r:=r++(sep.data.toList++t.data.toList)) hsep (by rw [bH,bH,e0];simp [List.append_assoc]) hl
    rw [this,List.cons_append]
    have er:(⟨(r++(sep.data.toList++t.data.toList)).toArray⟩:ByteArray)=((⟨r.toArray⟩:ByteArray)++sep)++t:=by
     refine (dC ?_).symm;rw [bH,bH];simp [List.append_assoc]
    rw [er];cases n with
    |zero=>omega
    |succ n=>
     have hs:(⟨r.toArray⟩:ByteArray).size≤n:=by rw [dT];omega
     rw [fF hsep t n ⟨r.toArray⟩ hs fun p hp=>h p (List.mem_cons_of_mem _ hp)]
theorem iS (c:UInt8):∀ (n:Nat) (s:ByteArray),s.size≤n→∀ p ∈ aP s ⟨#[c]⟩,∀ x ∈ p.data.toList,x≠c
 |n,s,hn=>by
  have h1:1≤(⟨#[c]⟩:ByteArray).size:=Nat.le_refl _
  rcases Lib.indexB_cases s ⟨#[c]⟩ with hi|⟨i,hi,hr⟩
  · have e:aP s ⟨#[c]⟩=[s]:=by unfold aP;exact Lib.splitB_miss _ _ _ _ hi
    rw [e];intro p hp x hx hc;rw [List.mem_singleton] at hp;subst hp;subst hc;obtain ⟨j,hj⟩:=List.getElem?_of_mem hx
    rcases Lib.index_spec p.data.toList [x] with ⟨_,h3⟩|⟨j',h2,_⟩
    · have hlt:j<p.data.toList.length:=(List.getElem?_eq_some_iff.1 hj).1
      have:=h3 j (by omega)
      unfold Lib.occAt at this;rw [List.drop_eq_getElem_cons hlt] at this;rw [List.getElem?_eq_getElem hlt,Option.some.injEq] at hj;rw [hj] at this
      simp at this
    · rw [gS] at hi
      change Lib.index p.data.toList [x]= -1 at hi
      omega
  · have hno:∀ x ∈ s.data.toList.take i,x≠c:=by
     intro x hx hc;subst hc;obtain ⟨j,hj⟩:=List.getElem?_of_mem hx
     have hji:j<i∧s.data.toList[j]? =some x:=by
      rw [List.getElem?_take] at hj
      split at hj
      · exact ⟨by assumption,hj⟩
      · cases hj
     rcases Lib.index_spec s.data.toList [x] with ⟨h2,_⟩|⟨j',h2,_,_,h3⟩
     · rw [gS] at hi
       change Lib.index s.data.toList [x]=_ at hi
       omega
     · rw [gS] at hi
       change Lib.index s.data.toList [x]=_ at hi
       have:j'=i:=by omega
       subst this;have h4:=h3 j hji.1;unfold Lib.occAt at h4;have hlt:j<s.data.toList.length:=(List.getElem?_eq_some_iff.1 hji.2).1;rw [List.drop_eq_getElem_cons hlt] at h4;have h5:=hji.2;rw [List.getElem?_eq_getElem hlt,Option.some.injEq] at h5;rw [h5] at h4
       simp at h4
    have e1:s.extract 0 (i+0)=⟨(s.data.toList.take i).toArray⟩:=dC (by rw [Lib.extract_from_zero,Nat.add_zero])
    have e:aP s ⟨#[c]⟩=⟨(s.data.toList.take i).toArray⟩::aP (s.extract (i+1) s.size) ⟨#[c]⟩:=by
     unfold aP;rw [Lib.countB_hit s ⟨#[c]⟩ i h1 hi,Nat.add_comm 1,Lib.splitB_hit _ _ _ _ _ hi,e1];rfl
    rw [e];intro p hp
    rcases List.mem_cons.1 hp with rfl|hp
    · intro x hx;exact hno x (by simpa using hx)
    · cases n with
      |zero=>have:(⟨#[c]⟩:ByteArray).size=1:=rfl;omega
      |succ n=>
       have hz:(s.extract (i+1) s.size).size≤n:=by
        rw [ByteArray.size_extract]
        have:(⟨#[c]⟩:ByteArray).size=1:=rfl
        omega
       exact iS c n _ hz p hp
theorem LK {A B C:Rg} (hA:RangeR A) (hB:RangeR B) (hC:RangeR C):fY (fY A B) C=fY A (fY B C):=fN ((hA.join hB).join hC) (hA.join (hB.join hC)) fun n=>by
 rw [lG (hA.join hB) hC,lG hA hB,lG hA (hB.join hC),lG hB hC,or_assoc]
theorem rO:∀ {l:List ByteArray} {R:Rg},RangeR R→fT R l=(fT [] l).map (fY R)
 |[],R,hR=>by
  have:fY R []=R:=fN (hR.join (B:=[]) trivial) hR fun n=>by rw [lG hR (B:=[]) trivial];exact ⟨fun h=>h.elim id (fun x=>x.elim),Or.inl⟩
  simp [fT,this]
 |a::l,R,hR=>by
  unfold fT
  split
  · have hX:=nD (aP a ⟨#[32]⟩)
    rw [rO (hR.join hX),rL hX,rO hX,Option.map_map];cases hq:fT [] l with
    |none=>rfl
    |some Y=>
     have hY:=tV (R:=[]) trivial hq;simp only [Option.map_some,Function.comp_apply,Option.some.injEq];exact LK hR hX hY
  · rfl
theorem zJ {a:ByteArray} {l:List ByteArray} {R:Rg}:fT R (a::l)=if gD (aP a ⟨#[32]⟩)=true then fT (fY R (eZ (aP a ⟨#[32]⟩))) l else none:=rfl
theorem sQ:∀ {l m:List ByteArray} {R:Rg},fT R (l++m)=(fT R l).bind fun Q=>fT Q m
 |[],m,R=>rfl
 |a::l,m,R=>by
  rw [List.cons_append,zJ,zJ]
  split
  · exact sQ
  · rfl
theorem WW {s:ByteArray} {X:Rg} (h:fD s=some X):∀ x ∈ s.data.toList,x.toNat≠124:=by
 unfold fD at h
 split at h
 · rename_i e
   intro x hx;rw [e] at hx
   simp at hx
   subst hx;decide
 · split at h
   · rename_i ho
     obtain ⟨m,e⟩:=pO ho;have hb:=lL m;rw [←e,Lib.extract_to_end] at hb;intro x hx;rw [←List.take_append_drop (tJ s) s.data.toList,List.mem_append] at hx
     rcases hx with hx|hx
     · rw [Lib.extract_from_zero] at h
       generalize List.take (tJ s) s.data.toList=sg at*;intro e124;have no:∀ l:List UInt8,(∀ y ∈ l,y.toNat≠124)→¬ sg=l:=fun l hl e=>by subst e;exact hl x hx e124
       unfold gK at h;rw [if_neg (by rintro (e|e);exact no [] (by simp) e;exact no [61] (by decide) e),if_neg (no [60] (by decide)),if_neg (no [60,61] (by decide)),if_neg (no [62] (by decide)),if_neg (no [62,61] (by decide)),if_neg (no [94] (by decide)),if_neg (no [126] (by decide))] at h;cases h
     · have:=hb x hx;omega
   · cases h
theorem rP:∀ {ps:List ByteArray} {R:Rg} {f:Bool},(bO R f ps).isSome=true→∀ p ∈ ps,∀ x ∈ p.data.toList,x.toNat≠124
 |[],_,_,_,p,hp=>by cases hp
 |q::ps,R,f,h,p,hp=>by
  unfold bO at h
  split at h
  · rename_i h0
    rcases List.mem_cons.1 hp with rfl|hp
    · intro x hx
      rw [←aI] at h0;rw [List.eq_nil_of_length_eq_zero h0] at hx;cases hx
    · exact rP h p hp
  · split at h
    · cases h
    · rename_i X hX
      rcases List.mem_cons.1 hp with rfl|hp
      · exact WW hX
      · exact rP h p hp
theorem pY (sep:ByteArray) (h1:1≤sep.size):∀ (n:Nat) (s:ByteArray),s.size≤n→∀ x ∈ s.data.toList,x ∈ sep.data.toList∨∃ p ∈ aP s sep,x ∈ p.data.toList
 |n,s,hn,x,hx=>by
  rcases pX s sep h1 with e|⟨l,r,e0,e1,hlt⟩
  · rw [e];exact Or.inr ⟨s,List.mem_cons_self,hx⟩
  · rw [e0] at hx
    rw [e1];simp only [List.mem_append] at hx
    rcases hx with hx|hx|hx
    · exact Or.inr ⟨_,List.mem_cons_self,by simpa using hx⟩
    · exact Or.inl hx
    · cases n with
      |zero=>omega
      |succ n=>
       rcases pY sep h1 n ⟨r.toArray⟩ (by rw [dT];omega) x (by simpa using hx) with h|⟨p,hp,hpx⟩
       · exact Or.inl h
       · exact Or.inr ⟨p,List.mem_cons_of_mem _ hp,hpx⟩
theorem PF:∀ {l:List ByteArray} {R:Rg},(fT R l).isSome=true→∀ p ∈ l,∀ x ∈ p.data.toList,x≠124
 |[],_,_,p,hp=>by cases hp
 |a::l,R,h,p,hp=>by
  unfold fT at h
  split at h
  · rename_i hb
    rcases List.mem_cons.1 hp with rfl|hp
    · intro x hx e
      have hs:(bO cF false (aP p ⟨#[32]⟩)).isSome=true:=by
       unfold gD at hb
       split at hb
       · rename_i e2;rw [e2];rfl
       · cases hb
      rcases pY ⟨#[32]⟩ (by decide) p.size p (Nat.le_refl _) x hx with h2|⟨q,hq,hxq⟩
      · simp at h2;rw [h2] at e;exact absurd e (by decide)
      · exact rP hs q hq x hxq (by rw [e];rfl)
    · exact PF h p hp
  · cases h
theorem FO {s t:ByteArray} {A B:Rg} (ha:jC s=some A) (hb:jC t=some B):jC ((s++⟨#[124,124]⟩)++t)=some (fY A B):=by
 unfold jC at*;rw [fF (c:=124) (tl:=[124]) rfl t s.size s (Nat.le_refl _) (PF (by rw [ha];rfl)),sQ,ha,Option.bind_some,rO (tV (R:=[]) trivial ha),hb];rfl
theorem SO {R:Rg} (hR:RangeR R):fX R cF=R:=fN (hR.meet cD) hR fun n=>by
 rw [lF hR cD,BK];exact ⟨fun h=>h.1,fun h=>⟨h,hR.in h⟩⟩
theorem WX {A B C:Rg} (hA:RangeR A) (hB:RangeR B) (hC:RangeR C):fX (fX A B) C=fX A (fX B C):=fN ((hA.meet hB).meet hC) (hA.meet (hB.meet hC)) fun n=>by
 rw [lF hA (hB.meet hC),lF hB hC,lF (hA.meet hB) hC,lF hA hB];exact ⟨fun h=>⟨h.1.1,h.1.2,h.2⟩,fun h=>⟨⟨h.1,h.2.1⟩,h.2.2⟩⟩
theorem jR:∀ {ps:List ByteArray} {R:Rg} {f:Bool},RangeR R→bO R f ps=(bO cF false ps).map fun q=>(fX R q.1,f||q.2)
 |[],R,f,hR=>by simp [bO,SO hR]
 |p::ps,R,f,hR=>by
  unfold bO
  split
  · exact jR hR
  · split
    · rfl
    · rename_i X hX
      have hXr:=pQ hX;rw [jR (hR.meet hXr),FH hXr,jR hXr,Option.map_map];cases hq:bO cF false ps with
      |none=>rfl
      |some Y=>
       obtain ⟨Y,g⟩:=Y;have hY:=mZ cD hq;simp only [Option.map_some,Function.comp_apply,Option.some.injEq,Prod.mk.injEq,Bool.true_or,Bool.or_true,and_true];exact WX hR hXr hY
theorem jS {p:ByteArray} {ps:List ByteArray} {R:Rg} {f:Bool}:bO R f (p::ps)=if p.size=0 then bO R f ps else match fD p with
 |none=>none
 |some X=>bO (fX R X) true ps:=rfl
theorem hZ:∀ {ps qs:List ByteArray} {R:Rg} {f:Bool},bO R f (ps++qs)=(bO R f ps).bind fun q=>bO q.1 q.2 qs
 |[],qs,R,f=>rfl
 |p::ps,qs,R,f=>by
  rw [List.cons_append,jS,jS]
  split
  · exact hZ
  · cases fD p with
    |none=>rfl
    |some X=>exact hZ
theorem gU {s:ByteArray} (h:∀ x ∈ s.data.toList,x≠124) {A:Rg}:jC s=some A↔bO cF false (aP s ⟨#[32]⟩)=some (A,true):=by
 have p1:aP s ⟨#[124,124]⟩=[s]:=lK (c:=124) (tl:=[124]) rfl h;unfold jC;rw [p1];unfold fT;have hj:=rL (nD (aP s ⟨#[32]⟩));rw [hj];unfold gD eZ;cases hq:bO cF false (aP s ⟨#[32]⟩) with
 |none=>simp
 |some q=>
  obtain ⟨X,f⟩:=q;cases f<;>simp [fT]
theorem SP {s t:ByteArray} {A B:Rg} (hs:∀ x ∈ s.data.toList,x≠124) (ht:∀ x ∈ t.data.toList,x≠124) (ha:jC s=some A) (hb:jC t=some B):jC ((s++⟨#[32]⟩)++t)=some (fX A B):=by
 have hst:∀ x ∈ ((s++⟨#[32]⟩)++t).data.toList,x≠124:=by
  intro x hx;rw [bH,bH] at hx;simp only [List.mem_append] at hx
  rcases hx with (hx|hx)|hx
  · exact hs x hx
  · simp at hx;rw [hx];decide
  · exact ht x hx
 have ea:=(gU hs).1 ha;have eb:=(gU ht).1 hb;rw [gU hst,fF (c:=32) (tl:=[]) rfl t s.size s (Nat.le_refl _) (iS 32 s.size s (Nat.le_refl _)),hZ,ea,Option.bind_some,jR (Ao ha),eb];rfl
end Go.Proofs.YtmnhnofnlcbliaaGreatDoor
