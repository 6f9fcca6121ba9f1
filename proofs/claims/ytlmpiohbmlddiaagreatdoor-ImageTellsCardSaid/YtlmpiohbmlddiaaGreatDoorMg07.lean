/- Pk4, ScBd1, Pure3, Tx6, Wr1, Pk6, Pk7, Tw5: their declarations that are needed, laid in one text, remarks and blanks left out. -/
import Derived.Maps.Own
import Derived.Maps.Views
import Derived.Shelf.Strings.Builder1
import Derived.Lib.IndexMore
import Derived.Lib.CountLaws
import Derived.Test.YtlmpiohbmlddiaaGreatDoorScC
import Derived.Laws.RangeAny
import Derived.Lib.OthersKept
import Derived.Test.YtlmpiohbmlddiaaGreatDoorMg06
namespace Go.Proofs.YtlmpiohbmlddiaaGreatDoor
open Go.RowKit Go.Maps Go.WideMaps Go.WideElems
set_option maxRecDepth 100000
def oS (s:ByteArray):Lit:= .string s.data.toList
theorem MG {s t:ByteArray} (h:oS s=oS t):s=t:=by
 unfold oS at h;injection h with h
 exact bB (by rw [ByteArray.toList_eq,ByteArray.toList_eq,h])
theorem BK (s:ByteArray):WideAt.IsKeyLit (oS s):=by unfold oS WideAt.IsKeyLit;trivial
theorem pY:Keyed Tryz.prog 9:=string_keyed Tryz.underlying9
theorem SR {s:ByteArray} (hs:s.size≤maxLen):keyOf Tryz.prog 9 (.string s)=some (oS s):=keyOf_string_mk Tryz.underlying9 hs
theorem uT (w:World):(zeroValue 3).run Tryz.prog w= .ok (.int .i64 0) w:=by kernel_rfl
def CntD (D:DataW Unit) (done:List ByteArray):Prop:=IsMap D∧∀ s:ByteArray,(s ∈ done→D.atKey (oS s) (.lit (.int .i64 0))= .lit (.int .i64 1))∧(s ∉ done→D.atKey (oS s) (.lit (.int .i64 0))= .lit (.int .i64 0))
theorem CntD.nil:CntD (.map []) []:=⟨⟨[],rfl⟩,fun _=>⟨fun h=>(by cases h),fun _=>rfl⟩⟩
theorem IL {D:DataW Unit} (h:IsMap D) (k:Lit) (d:DataW Unit):IsMap (D.put k d):=by
 obtain ⟨es,rfl⟩:=h;exact ⟨_,rfl⟩
theorem CntD.put {D:DataW Unit} {done:List ByteArray} (h:CntD D done) {s:ByteArray}:CntD (D.put (oS s) (.lit (.int .i64 1))) (done++[s]):=by
 refine ⟨IL h.1 _ _,fun t=> ?_⟩
 by_cases e:t=s
 · subst e
   rw [atKey_put_same h.1 (BK t)];exact ⟨fun _=>rfl,fun hn=>absurd (by simp) hn⟩
 · rw [atKey_put_other fun k=>e (MG k)]
   exact ⟨fun hm=>(h.2 t).1 (by simpa [e] using hm),fun hn=>(h.2 t).2 (by simpa [e] using hn)⟩
def uU (w:World) (g o:Nat) (Ls:List (List Dp)):Prop:=g<w.heap.size∧∀ k (h:k<Ls.length),∃ u,w.cell? ⟨g,o+k,none⟩=some u∧DepsAt w u Ls[k]
def fR (Ls:List (List Dp)):List ByteArray:=Ls.flatten.map Dp.nm
noncomputable def fJ (Ls:List (List Dp)):Bool:= @decide ((fR Ls).Nodup) (Classical.propDecidable _)
theorem QG {Ls:List (List Dp)} {done rest:List ByteArray} {s:ByteArray} (h:fR Ls=done++s::rest) (hs:s ∈ done):fJ Ls=false:=by
 unfold fJ;refine @decide_eq_false _ (Classical.propDecidable _) fun hn=> ?_
 rw [h,List.nodup_append] at hn;exact hn.2.2 s hs s List.mem_cons_self rfl
theorem MH {Ls:List (List Dp)} (h:(fR Ls).Nodup):fJ Ls=true:=by unfold fJ;exact @decide_eq_true _ (Classical.propDecidable _) h
theorem BL {l:List ByteArray} {s:ByteArray} (h:l.Nodup) (hs:s ∉ l):(l++[s]).Nodup:=by
 rw [List.nodup_append];refine ⟨h,by simp,?_⟩;intro a ha b hb e;rw [List.mem_singleton] at hb;subst hb e;exact hs ha
def jP (L:List Dp):Prop:=L.length≤16∧∀ d ∈ L,d.nm.size≤16
theorem bK {L:List Dp} (h:aO L=true):jP L:=by
 unfold aO at h;rw [Bool.and_eq_true,decide_eq_true_eq] at h;refine ⟨h.1,?_⟩
 have:∀ (M:List Dp) (q:Option ByteArray),cK q M=true→∀ d ∈ M,d.nm.size≤16:=by
  intro M
  induction M with
  |nil=>intro q _ d hd;cases hd
  |cons e M ih=>
   intro q hq d hd;rw [cK,Bool.and_eq_true,Bool.and_eq_true] at hq
   rcases List.mem_cons.1 hd with rfl|hd
   · have:=hq.1.1
     unfold cF at this;rw [Bool.and_eq_true] at this
     have:=this.1
     unfold Sc.aH at this;rw [Bool.and_eq_true,decide_eq_true_eq,aK] at this;exact this.2
   · exact ih _ hq.2 d hd
 exact this L none h.2
def KO (w:World) (M n:Nat) (D:DataW Unit) (w1:World):Prop:=Below w.heap.size w w1∧w1.ownsMap Tryz.prog 9 (plainElem Tryz.prog 3) M n D
theorem KO.alloc {w:World} {M n:Nat} {D:DataW Unit} {w1:World} (h:KO w M n D w1) (o:Obj):KO w M n D (w1.alloc o):=⟨aB h.1 (aF _ _),h.2.alloc o⟩
def VF (w:World) (Ls:List (List Dp)) (L T:List Dp) (K:Nat) (j:Value) (wq:World):Prop:=∃ (m n:Nat) (D:DataW Unit) (done:List ByteArray),m≤L.length∧j= .int .i64 m∧n≤16*K+m∧KO w w.heap.size n D wq∧CntD D done∧done.Nodup∧fR Ls=done++(L.drop m++T).map Dp.nm
set_option maxHeartbeats 6400000 in
theorem xB {Ls:List (List Dp)} {g o cap:Nat} {w:World} (h:uU w g o Ls) (hs:∀ L ∈ Ls,jP L) (hln:Ls.length≤16):
 Calls Tryz.prog 198 #[.slice (some ⟨g,o,none⟩) Ls.length cap] w fun e w'=>e= .returned (.bool (fJ Ls))∧Below w.heap.size w w':=by
 have HP:Hid (∀ k (h:k<Ls.length),∃ u,∀ w1,Below w.heap.size w w1→w1.cell? ⟨g,o+k,none⟩=some u∧DepsAt w1 u Ls[k]):=fun k hk=>(h.2 k hk).imp fun u hu w1 hb=>⟨(hb.cell (p:=⟨g,o+k,none⟩) h.1).trans hu.1,hu.2.below hb⟩
 have HS:=aA hs;clear h hs;have hmm:= @run_makeMap Tryz.prog;have HM0:Hid (KO w w.heap.size 0 (.map []) (w.alloc (.map #[] 0))):=⟨aF _ _,World.ownsMap_made (H:=Unit) w Tryz.prog 9 (plainElem Tryz.prog 3)⟩
 go_enter Tryz.func198,Tryz.ntmps198
 go_wp2_with fail
 go_loopw [11] (fun i wr=>∃ (k n:Nat) (D:DataW Unit) (done:List ByteArray),k≤Ls.length∧i= .int .i64 k∧n≤16*k∧KO w w.heap.size n D wr∧CntD D done∧done.Nodup∧fR Ls=done++(Ls.drop k).flatten.map Dp.nm) (fun i _=>Ls.length - (intOf i).toNat)
 case atStart=>exact ⟨0,0,.map [],[],Nat.zero_le _,rfl,Nat.le_refl _,HM0.out,CntD.nil,List.nodup_nil,rfl⟩
 case round=>
  obtain ⟨k,n,D,done,hk,rfl,hn,hko,hcn,hnd,hnm⟩:=hrel
  by_cases hkl:k<Ls.length
  · obtain ⟨u,HU⟩:=HP.out k hkl
    obtain ⟨cu,hdu⟩:=HU wr hko.1;obtain ⟨AA,CC,rfl,hzc⟩:=hdu.len;have HU:=aA HU;clear hdu;have HSL:=aA (HS.out _ (List.getElem_mem hkl));have HKO0:=aA hko;have HCN0:=aA hcn;have HND0:=aA hnd
    have HNM0:Hid (fR Ls=done++(Ls[k]++(Ls.drop (k+1)).flatten).map Dp.nm):=by
     unfold Hid;rw [hnm,List.drop_eq_getElem_cons hkl,List.flatten_cons]
    have l1:=HSL.out.1;clear hko hcn hnd hnm;generalize Ls[k]=L at*;generalize hT:(Ls.drop (k+1)).flatten=T at*;have HT:=aA hT;clear hT
    go_wp2_with fail
    go_loopw [17] (fun j wq=>VF w Ls L T k j wq) (fun j _=>L.length - (intOf j).toNat)
    case atStart=>exact ⟨0,n,D,done,Nat.zero_le _,rfl,by omega,HKO0.out,HCN0.out,HND0.out,HNM0.out⟩
    case round=>
     clear HKO0 HCN0 HND0 HNM0 cu;obtain ⟨m,n,D,done,hm,rfl,hn,hko,hcn,hnd,hnm⟩:=hrel
     by_cases hlt:m<L.length
     · obtain ⟨ad,cap,e,_,hcs⟩:=(HU.out wr hko.1).2
       cases e
       obtain ⟨g,o,rfl,hg,hcs⟩:∃ g o,AA=some ⟨g,o,none⟩∧g<wr.heap.size∧∀ i (h:i<L.length),∃ u,DpIn wr g (o+i*2) L[i] u:=by
        rcases hcs with h|h
        · rw [h] at hlt;simp at hlt
        · exact h
       obtain ⟨u,p0,p1,⟨⟨hu,_⟩,_⟩,p3⟩:=hcs m hlt;obtain ⟨au,cu,rfl⟩:=hu.sl;have hnz:L[m].nm.size≤16:=HSL.out.2 _ (List.getElem_mem hlt)
       have HNM1:Hid (fR Ls=done++L[m].nm::(L.drop (m+1)++T).map Dp.nm):=by
        unfold Hid;rw [hnm,List.drop_eq_getElem_cons hlt];rfl
       clear hcs hu hnm;generalize L[m].rg.length=lu at*;generalize L[m].nm=s at*;have hkey:keyOf Tryz.prog 9 (.string s)=some (oS s):=SR (by unfold maxLen;omega);have HKA:Hid (KO w w.heap.size n D (wr.alloc (.cells #[.string s,.slice au lu cu] 170))):=hko.alloc _;obtain ⟨c,hrun,hat,_⟩:=HKA.out.2.lookup_int pY Tryz.underlying271 Tryz.underlying3 (uT _) hkey;have hBX:Hid (BxD (wr.alloc (.cells #[.string s,.slice au lu cu] 170)) wr.heap.size s (.slice au lu cu)):=BxD.new rfl _ _;have hMw:w.heap.size<wr.heap.size:=hko.2.lt;have hBw:=hko.1.size
       by_cases hin:s ∈ done
       · rw [(hcn.2 s).1 hin] at hat
         obtain rfl:c=1:=by injection hat with h1;injection h1 with _ h2;exact h2.symm
         have HR:=aA (QG HNM1.out hin);have HMP:=aA hcn.1;clear hko hcn hnd HNM1
         go_wp2_with (at_mapUpdate;refine wpList_mapUpdate_own _ rfl _ _ _ 271 rfl 9 3 pY Tryz.underlying271 _ w.heap.size n D rfl HKA.out.2 (by unfold maxLen;omega) _ _ _ rfl rfl hkey _ [] (plainElem_int (H:=Unit) Tryz.underlying3 (show (Lit.int .i64 2).wf=true by decide)) ?_;intro w5 hown5 hg5;obtain ⟨c5,hrun5,hat5,_⟩:=hown5.lookup_int pY Tryz.underlying271 Tryz.underlying3 (uT _) hkey;rw [atKey_put_same HMP.out (BK s)] at hat5;obtain rfl:c5=2:=(by injection hat5 with h1;injection h1 with _ h2;exact h2.symm);have b0:w5.cell? ⟨wr.heap.size,0,none⟩=some (.string s):=(hg5.cell_far ⟨wr.heap.size,0,none⟩ (by simp) (by simp;omega)).trans hBX.out.1;have HB5:Hid (Below w.heap.size w w5):=HKA.out.1.grown hg5 HKA.out.1.size (fun j hj=>by cases hj;omega);clear hat5)
         go_ret;exact ⟨aC HR.out.symm,HB5.out⟩
       · rw [(hcn.2 s).2 hin] at hat
         obtain rfl:c=0:=by injection hat with h1;injection h1 with _ h2;exact h2.symm
         have HCN2:Hid (CntD (D.put (oS s) (.lit (.int .i64 1))) (done++[s])):=hcn.put;have HND2:=aA (BL hnd hin);have HNM2:Hid (fR Ls=(done++[s])++(L.drop (m+1)++T).map Dp.nm):=by unfold Hid;rw [HNM1.out];simp
         have HMP:=aA hcn.1;clear hko hcn hnd HNM1
         go_wp2_with (at_mapUpdate;refine wpList_mapUpdate_own _ rfl _ _ _ 271 rfl 9 3 pY Tryz.underlying271 _ w.heap.size n D rfl HKA.out.2 (by unfold maxLen;omega) _ _ _ rfl rfl hkey _ [] (plainElem_int (H:=Unit) Tryz.underlying3 (show (Lit.int .i64 1).wf=true by decide)) ?_;intro w5 hown5 hg5;obtain ⟨c5,hrun5,hat5,_⟩:=hown5.lookup_int pY Tryz.underlying271 Tryz.underlying3 (uT _) hkey;rw [atKey_put_same HMP.out (BK s)] at hat5;obtain rfl:c5=1:=(by injection hat5 with h1;injection h1 with _ h2;exact h2.symm);have b0:w5.cell? ⟨wr.heap.size,0,none⟩=some (.string s):=(hg5.cell_far ⟨wr.heap.size,0,none⟩ (by simp) (by simp;omega)).trans hBX.out.1;have HB5:Hid (KO w w.heap.size (n+1) (D.put (oS s) (.lit (.int .i64 1))) w5):=⟨HKA.out.1.grown hg5 HKA.out.1.size (fun j hj=>by cases hj;omega),hown5⟩;clear hat5)
         exact ⟨⟨m+1,n+1,_,_,by omega,by go_num,by omega,HB5.out,HCN2.out,HND2.out,HNM2.out⟩,by simp [intOf];omega⟩
     · have HNM2:Hid (fR Ls=done++T.map Dp.nm):=by unfold Hid;rw [hnm,List.drop_of_length_le (by omega)];rfl
       have HKO:=aA hko;have HCN:=aA hcn;have HND:=aA hnd;clear hko hcn hnd hnm
       go_wp2
       exact ⟨⟨k+1,n,D,done,by omega,by go_num,by omega,HKO.out,HCN.out,HND.out,by rw [HT.out];exact HNM2.out⟩,by simp [intOf];omega⟩
  · have HND:Hid (fJ Ls=true):=MH (by rw [hnm,List.drop_of_length_le (by omega)];simpa using hnd)
    have HKO:=aA hko;clear hko hcn hnd hnm
    go_wp2
    go_ret;exact ⟨aC HND.out.symm,HKO.out.1⟩
end Go.Proofs.YtlmpiohbmlddiaaGreatDoor
namespace Go.Proofs.YtlmpiohbmlddiaaGreatDoor.Sc
open Go.RowKit
set_option maxRecDepth 100000
theorem RR:(Tryz.prog.info? 118).map (·.size)=some 2:=by kernel_rfl
theorem UI:liesAt Tryz.prog Tryz.prog.depth 118 (2 / Tryz.prog.cellsOf 118) 0 118 1=true:=by kernel_rfl
theorem FC:(Tryz.prog.info? 5).map (fun i=>(i.zero,i.size,i.bytes))=some (some (.int .u8 0),1,1):=by kernel_rfl
set_option maxHeartbeats 1600000 in
theorem pZ (b:Nat) (w:World) (h0:w.cell? ⟨b,0,none⟩=some (.pointer (some ⟨b,0,none⟩))):
 Calls Tryz.prog 106 #[.pointer (some ⟨b,0,none⟩)] w fun e w'=>e= .returned (.tuple #[])∧w'=w:=by
 obtain ⟨j,hj,_⟩:=Option.map_eq_some_iff.1 RR
 go_enter Tryz.func106,Tryz.ntmps106
 go_wp2
 rw [Lib.run_neq_ptr_same w _ Tryz.underlying115 hj]
 go_wp2
 go_end0
 exact ⟨rfl,rfl⟩
set_option maxHeartbeats 1600000 in
theorem oE (b:Nat) (w:World) (h0:w.cell? ⟨b,0,none⟩=some (.pointer none)) (hsh:w.shape? b=some (118,2)) (hfz:w.frozen? ⟨b,0,none⟩=false):
 Calls Tryz.prog 106 #[.pointer (some ⟨b,0,none⟩)] w fun e w'=>e= .returned (.tuple #[])∧w'=w.setCell ⟨b,0,none⟩ (.pointer (some ⟨b,0,none⟩)):=by
 obtain ⟨j,hj,hjs⟩:=Option.map_eq_some_iff.1 RR
 go_enter Tryz.func106,Tryz.ntmps106
 go_wp2
 rw [Lib.run_to_unsafe w ⟨b,0,none⟩ Tryz.underlying115 Tryz.underlying204 hj (by rw [hjs];decide) hsh (Nat.zero_lt_succ 1)];simp only [Result.andThen];rw [Oper.upon_value]
 go_wp2
 rw [run_callFunc_extern Tryz.func152 (by kernel_rfl) (by kernel_rfl) (by kernel_rfl) (e:=Extern.AbiNoEscape.same) (by kernel_rfl),Lib.run_noEscape];simp only [Result.andThen];rw [Oper.upon_value]
 go_wp2
 rw [Lib.run_from_unsafe w ⟨b,0,none⟩ Tryz.underlying204 Tryz.underlying115 hj hsh UI];simp only [Result.andThen];rw [Oper.upon_value]
 go_wp2
 go_end0
 exact ⟨rfl,rfl⟩
def Bld (B b:Nat) (l:Bs) (w:World):Prop:=Lib.IsBuilder 118 5 B b (Lib.byteCells l) w
theorem sZ {B b:Nat} {l:Bs} {w:World} (h:Bld B b l w):
 Calls Tryz.prog 106 #[.pointer (some ⟨b,0,none⟩)] w fun e w'=>e= .returned (.tuple #[])∧Lib.BuilderAt 118 5 B b (.pointer (some ⟨b,0,none⟩)) (Lib.byteCells l) w'∧Below B w w':=by
 rcases h with h|h
 · refine (oE b w h.cell0 h.shape h.frozen0).mono ?_
   rintro e w' ⟨rfl,rfl⟩;exact ⟨rfl,h.used _,(Below.refl B w).setCell (p:=⟨b,0,none⟩) h.1 _⟩
 · refine (pZ b w h.cell0).mono ?_
   rintro e w' ⟨rfl,rfl⟩;exact ⟨rfl,h,Below.refl B _⟩
set_option maxHeartbeats 1600000 in
theorem QH {B b:Nat} {l:Bs} {w:World} (c:UInt8) (h:Bld B b l w) (hl:l.length+1≤140737488355328) (hB:B≤w.heap.size):
 Calls Tryz.prog 173 #[.pointer (some ⟨b,0,none⟩),.int .u8 (c.toNat:Int)] w fun e w'=>e= .returned .nilIface∧Bld B b (l++[c]) w'∧Below B w w':=by
 obtain ⟨i0,hi,hz0,hz1,hz2⟩:=bW FC;have HC:=aA (sZ h);have hlc:(Lib.byteCells l).length=l.length:=Lib.byteCells_length l
 go_enter Tryz.func173,Tryz.ntmps173
 go_wp2_with (go_at_call 106;refine HC.out.mono ?_)
 rintro e w1 ⟨rfl,h1,hb1⟩;obtain ⟨hBb,v,hbk,hown,hne⟩:=h1;have c0:w1.cell? ⟨b,0,none⟩=some (.pointer (some ⟨b,0,none⟩)):=by rw [Lib.cell_of_heap hbk];rfl
 have c1:w1.cell? ⟨b,1,none⟩=some v:=by rw [Lib.cell_of_heap hbk];rfl
 have hs1:=hb1.size
 go_wp2_with (at_builtin;refine wpList_append_own _ rfl _ _ 116 rfl B 5 i0 (.int .u8 0) 1 1 Tryz.underlying116 hi hz0 hz1 hz2 rfl (by decide) _ _ _ rfl (hown.alloc _) ⟨w1.heap.size,0,none⟩ 1 1 [.int .u8 (c.toNat:Int)] rfl rfl (cell_one_new _ _ _) (by intro u hu;rw [List.mem_singleton.1 hu];rfl) (by unfold maxLen;omega) (by omega) (by simp;omega) ?_)
 intro v' w2 hown' hgrow _;have hlt:b<w1.heap.size:=(Array.getElem?_eq_some_iff.1 hbk).1
 have hb2:w2.heap[b]? =some (.cells #[.pointer (some ⟨b,0,none⟩),v] 118 (0,0)):=by
  rw [hgrow.block b (by simp;omega) (fun e=>hne e.symm),Lib.alloc_old w1 _ b hlt];exact hbk
 have d0:w2.cell? ⟨b,0,none⟩=some (.pointer (some ⟨b,0,none⟩)):=by rw [Lib.cell_of_heap hb2];rfl
 have d1:w2.cell? ⟨b,1,none⟩=some v:=by rw [Lib.cell_of_heap hb2];rfl
 have f1:w2.frozen? ⟨b,1,none⟩=false:=Lib.frozen_of_heap hb2 1
 obtain ⟨ao,n',cap,rfl⟩:∃ ao n' cap,v'= .slice ao n' cap:=by
  rcases hown'.2 with ⟨hv,_⟩|⟨g,cap,cur,hv,_⟩
  · exact ⟨_,_,_,hv⟩
  · exact ⟨_,_,_,hv⟩
 go_wp2
 go_ret;refine ⟨rfl,Or.inr ?_,?_⟩
 · refine Lib.BuilderAt.put (T:=118) (e:=5) hBb hb2 ?_ (by decide)
   rw [Lib.byteCells_append,List.length_append,hlc];exact hown'
 · exact ((hb1.alloc (by omega) _).grown hgrow (by simp;omega) (fun k hk=>(hown.lt k hk).1)).setCell (p:=⟨b,1,none⟩) hBb _
set_option maxHeartbeats 1600000 in
theorem QI {B b:Nat} {l:Bs} {w:World} (s:ByteArray) (h:Bld B b l w) (hl:l.length+s.size≤140737488355328) (hB:B≤w.heap.size):
 Calls Tryz.prog 54 #[.pointer (some ⟨b,0,none⟩),.string s] w fun e w'=>e= .returned (.tuple #[.int .i64 s.size,.nilIface])∧Bld B b (l++s.data.toList) w'∧Below B w w':=by
 obtain ⟨i0,hi,hz0,hz1,hz2⟩:=bW FC;have HC:=aA (sZ h);have hlc:(Lib.byteCells l).length=l.length:=Lib.byteCells_length l
 go_enter Tryz.func54,Tryz.ntmps54
 go_wp2_with (go_at_call 106;refine HC.out.mono ?_)
 rintro e w1 ⟨rfl,h1,hb1⟩;obtain ⟨hBb,v,hbk,hown,hne⟩:=h1;have c0:w1.cell? ⟨b,0,none⟩=some (.pointer (some ⟨b,0,none⟩)):=by rw [Lib.cell_of_heap hbk];rfl
 have c1:w1.cell? ⟨b,1,none⟩=some v:=by rw [Lib.cell_of_heap hbk];rfl
 have hs1:=hb1.size
 go_wp2_with (at_builtin;refine Lib.wpList_append_own_string _ rfl _ _ 116 9 rfl B 5 i0 Tryz.underlying116 Tryz.underlying9 hi hz0 hz1 hz2 _ _ _ rfl hown s rfl (by unfold maxLen;omega) (by omega) (by omega) ?_)
 intro v' w2 hown' hgrow _;have hlt:b<w1.heap.size:=(Array.getElem?_eq_some_iff.1 hbk).1
 have hb2:w2.heap[b]? =some (.cells #[.pointer (some ⟨b,0,none⟩),v] 118 (0,0)):=by
  rw [hgrow.block b hlt (fun e=>hne e.symm)];exact hbk
 have d0:w2.cell? ⟨b,0,none⟩=some (.pointer (some ⟨b,0,none⟩)):=by rw [Lib.cell_of_heap hb2];rfl
 have d1:w2.cell? ⟨b,1,none⟩=some v:=by rw [Lib.cell_of_heap hb2];rfl
 have f1:w2.frozen? ⟨b,1,none⟩=false:=Lib.frozen_of_heap hb2 1
 obtain ⟨ao,n',cap,rfl⟩:∃ ao n' cap,v'= .slice ao n' cap:=by
  rcases hown'.2 with ⟨hv,_⟩|⟨g,cap,cur,hv,_⟩
  · exact ⟨_,_,_,hv⟩
  · exact ⟨_,_,_,hv⟩
 go_wp2
 go_ret2;refine ⟨rfl,Or.inr ?_,?_⟩
 · refine Lib.BuilderAt.put (T:=118) (e:=5) hBb hb2 ?_ (by decide)
   rw [Lib.byteCells_append,List.length_append,←Lib.strCells_eq,hlc]
   simpa [Lib.strCells_length] using hown'
 · exact (hb1.grown hgrow (by omega) (fun k hk=>(hown.lt k hk).1)).setCell (p:=⟨b,1,none⟩) hBb _
end Go.Proofs.YtlmpiohbmlddiaaGreatDoor.Sc
namespace Go.Proofs.YtlmpiohbmlddiaaGreatDoor
open Go.RowKit
set_option maxRecDepth 100000
theorem kT (s:ByteArray):(⟨s.data.toList.toArray⟩:ByteArray)=s:=(EZ rfl).symm
theorem mD (x y:ByteArray):(x++y).data.toList=x.data.toList++y.data.toList:=by
 show (x++y).data.toList=_;rw [ByteArray.data_append,Array.toList_append]
def SS (s:ByteArray):Option Rg:=if s.size≤4096 then VC s else none
theorem gE {s t:ByteArray} (h:s.data.toList=t.data.toList):s=t:=(EZ h).trans (kT t)
theorem IM (s:ByteArray):(⟨#[]⟩:ByteArray)++s=s:=gE (by rw [mD];rfl)
theorem MI:aL 0 0 0=0:=by decide+kernel
theorem MJ:aL 999 999 999=999999999:=by decide+kernel
theorem IP {k M:Int} {p:Int×Int} {A:Rg} (h:RiseR k M (p::A)):k≤p.1∧p.1≤p.2∧p.2≤M∧RiseR (p.2+2) M A:=h
theorem BM {A:Rg} (hl:A.length≤64):(gP A).size≤4096:=by
 cases A with
 |nil=>have:=cX 0 0 0;have z:(⟨#[60]⟩:ByteArray).size=1:=rfl;show (⟨#[60]⟩++aS 0 0 0).size≤4096;rw [bU];omega
 |cons p A=>
  show (⟨(Lib.join ((p::A).map fun p=>(spT p).data.toList) [32,124,124,32]).toArray⟩:ByteArray).size≤4096;rw [kZ,List.map_cons,Lib.join_length,←List.map_cons (f:=fun p=>(spT p).data.toList)]
  have:=uG 27 ((p::A).map fun p=>(spT p).data.toList) (by
   intro x hx;obtain ⟨q,_,rfl⟩:=List.mem_map.1 hx;exact pQ _ _ _ _ _ _)
  simp only [List.length_map,List.length_cons,List.length_nil] at*;omega
def FarB (b:Nat) (w w':World):Prop:=∀ N cs t fr,w.heap[N]? =some (.cells cs t fr)→t≠5→N≠b→w'.heap[N]? =some (.cells cs t fr)
theorem FarB.refl (b:Nat) (w:World):FarB b w w:=fun _ _ _ _ h _ _=>h
theorem FarB.trans {b:Nat} {w w1 w2:World} (h:FarB b w w1) (h2:FarB b w1 w2):FarB b w w2:=fun N cs t fr hh ht hn=>h2 N cs t fr (h N cs t fr hh ht hn) ht hn
theorem FarB.set {b:Nat} {w w1:World} (h:FarB b w w1) (i:Nat) (u:Value):FarB b w (w1.setCell ⟨b,i,none⟩ u):=fun N cs t fr hh ht hn=>(Below.heap_setCell _ _ _ _ hn).trans (h N cs t fr hh ht hn)
theorem FarB.below {b:Nat} {w w':World} (h:Below w.heap.size w w'):FarB b w w':=fun N _ _ _ hh _ _=>(h.block N (Array.getElem?_eq_some_iff.1 hh).1).trans hh
theorem tA {B b:Nat} {l:Sc.Bs} {w:World} (h:Sc.Bld B b l w):
 Calls Tryz.prog 106 #[.pointer (some ⟨b,0,none⟩)] w fun e w'=>e= .returned (.tuple #[])∧Lib.BuilderAt 118 5 B b (.pointer (some ⟨b,0,none⟩)) (Lib.byteCells l) w'∧Below B w w'∧FarB b w w':=by
 rcases h with h|h
 · refine (Sc.oE b w h.cell0 h.shape h.frozen0).mono ?_
   rintro e w' ⟨rfl,rfl⟩;exact ⟨rfl,h.used _,(Below.refl B w).setCell (p:=⟨b,0,none⟩) h.1 _,(FarB.refl b w).set _ _⟩
 · refine (Sc.pZ b w h.cell0).mono ?_
   rintro e w' ⟨rfl,rfl⟩;exact ⟨rfl,h,Below.refl B _,FarB.refl b _⟩
set_option maxHeartbeats 1600000 in
theorem xC {B b:Nat} {l:Sc.Bs} {w:World} (s:ByteArray) (h:Sc.Bld B b l w) (hl:l.length+s.size≤140737488355328) (hB:B≤w.heap.size):
 Calls Tryz.prog 54 #[.pointer (some ⟨b,0,none⟩),.string s] w fun e w'=>e= .returned (.tuple #[.int .i64 s.size,.nilIface])∧Sc.Bld B b (l++s.data.toList) w'∧Below B w w'∧FarB b w w':=by
 obtain ⟨i0,hi,hz0,hz1,hz2⟩:=Sc.bW Sc.FC;have HC:=aA (tA h);have hlc:(Lib.byteCells l).length=l.length:=Lib.byteCells_length l
 go_enter Tryz.func54,Tryz.ntmps54
 go_wp2_with (go_at_call 106;refine HC.out.mono ?_)
 rintro e w1 ⟨rfl,h1,hb1,hf1⟩;obtain ⟨hBb,v,hbk,hown,hne⟩:=h1;have c0:w1.cell? ⟨b,0,none⟩=some (.pointer (some ⟨b,0,none⟩)):=by rw [Lib.cell_of_heap hbk];rfl
 have c1:w1.cell? ⟨b,1,none⟩=some v:=by rw [Lib.cell_of_heap hbk];rfl
 have hs1:=hb1.size
 go_wp2_with (at_builtin;refine Lib.wpList_append_own_string _ rfl _ _ 116 9 rfl B 5 i0 Tryz.underlying116 Tryz.underlying9 hi hz0 hz1 hz2 _ _ _ rfl hown s rfl (by unfold maxLen;omega) (by omega) (by omega) ?_)
 intro v' w2 hown' hgrow _;have hlt:b<w1.heap.size:=(Array.getElem?_eq_some_iff.1 hbk).1
 have hb2:w2.heap[b]? =some (.cells #[.pointer (some ⟨b,0,none⟩),v] 118 (0,0)):=by
  rw [hgrow.block b hlt (fun e=>hne e.symm)];exact hbk
 have HFA:Hid (FarB b w w2):=fun N cs t fr hh ht hn=>by
  have hN:=hf1 N cs t fr hh ht hn;refine (hgrow.block N (Array.getElem?_eq_some_iff.1 hN).1 (fun e=> ?_)).trans hN
  rcases hown.2 with ⟨hv,_⟩|⟨g,cap,cur,hv,_,hg,_⟩
  · rw [hv] at e;cases e
  · rw [hv] at e
    obtain rfl:N=g:=Option.some.inj e;rw [hN] at hg;injection hg with hg
    injection hg with _ hg _
    exact ht hg
 have d0:w2.cell? ⟨b,0,none⟩=some (.pointer (some ⟨b,0,none⟩)):=by rw [Lib.cell_of_heap hb2];rfl
 have d1:w2.cell? ⟨b,1,none⟩=some v:=by rw [Lib.cell_of_heap hb2];rfl
 have f1:w2.frozen? ⟨b,1,none⟩=false:=Lib.frozen_of_heap hb2 1
 obtain ⟨ao,n',cap,rfl⟩:∃ ao n' cap,v'= .slice ao n' cap:=by
  rcases hown'.2 with ⟨hv,_⟩|⟨g,cap,cur,hv,_⟩
  · exact ⟨_,_,_,hv⟩
  · exact ⟨_,_,_,hv⟩
 clear hf1
 go_wp2
 go_ret2;refine ⟨rfl,Or.inr ?_,?_,HFA.out.set _ _⟩
 · refine Lib.BuilderAt.put (T:=118) (e:=5) hBb hb2 ?_ (by decide)
   rw [Lib.byteCells_append,List.length_append,←Lib.strCells_eq,hlc]
   simpa [Lib.strCells_length] using hown'
 · exact (hb1.grown hgrow (by omega) (fun k hk=>(hown.lt k hk).1)).setCell (p:=⟨b,1,none⟩) hBb _
def gU (x n r:ByteArray):Sc.Bs:=x.data.toList++([32]++(n.data.toList++([32]++(r.data.toList++[10]))))
theorem FD {B b:Nat} {l:Sc.Bs} {w:World} (h:Sc.Bld B b l w):Calls Tryz.prog 158 #[.pointer (some ⟨b,0,none⟩)] w fun e w'=>e= .returned (.int .i64 l.length)∧w'=w:=by
 obtain ⟨v,c1,hv⟩:∃ v,w.cell? ⟨b,1,none⟩=some v∧∃ ad cap,v= .slice ad l.length cap:=by
  rcases h with ⟨_,v,hbk,hown,_⟩|⟨_,v,hbk,hown,_⟩<;>
  · refine ⟨v,by rw [Lib.cell_of_heap hbk];rfl,?_⟩
    rcases hown.2 with ⟨hv,hn⟩|⟨g,cap,cur,hv,_⟩
    · rw [Lib.byteCells_length] at hn
      exact ⟨none,0,by rw [hv,hn]⟩
    · rw [Lib.byteCells_length] at hv
      exact ⟨_,_,hv⟩
 obtain ⟨ad,cap,rfl⟩:=hv
 go_enter Tryz.func158,Tryz.ntmps158
 go_wp2
 go_ret;exact ⟨rfl,rfl⟩
def plS (s:Sp):Int×Int:=(aL s.a s.b s.c,aL s.x s.y s.z)
theorem MK {A:Rg} (hA:RangeR A):(A.map spR).map plS=A:=by
 rw [List.map_map]
 conv=>rhs;rw [←List.map_id A]
 refine List.map_congr_left fun p hp=> ?_
 obtain ⟨h1,h2,_⟩:=hA.ok p hp;show (aL (atA p.1) (atB p.1) (atC p.1),aL (atA p.2) (atB p.2) (atC p.2))=p;have e1:=(gJ (n:=p.1) (by unfold iK;obtain ⟨a,b⟩:=h1;simp;omega)).2;have e2:=(gJ (n:=p.2) (by unfold iK;obtain ⟨a,b⟩:=h2;simp;omega)).2;rw [e1,e2]
def prS (L:List Sp):ByteArray:=gP (L.map plS)
theorem IQ {L:List Sp} {u:Value} {w:World} (h:cG L=true) (hu:SpansC w u L) (he:Env w) (hf:FL w):
 Calls Tryz.prog 199 #[u] w fun e w'=>e= .returned (.string (prS L))∧Below w.heap.size w w':=by
 unfold cG at h;rw [Bool.and_eq_true] at h;obtain ⟨A,rfl,hA,hl⟩:=oZ.1 h.2;unfold prS;rw [MK hA];exact IB hA hl hu.rg he hf
theorem qA {L:List Sp} (h:cG L=true):(prS L).size≤4096:=by
 unfold cG at h;rw [Bool.and_eq_true] at h;obtain ⟨A,rfl,hA,hl⟩:=oZ.1 h.2;unfold prS;rw [MK hA];exact BM hl
def aY (x:ByteArray) (L:List Dp):Sc.Bs:=L.flatMap fun d=>gU x d.nm (prS d.rg)
theorem qB {x:ByteArray} {L:List Dp} {k:Nat} (h:k<L.length):aY x (L.take (k+1))=aY x (L.take k)++gU x L[k].nm (prS L[k].rg):=by
 unfold aY;rw [List.take_succ_eq_append_getElem h,List.flatMap_append]
 simp
theorem mE:∀ {L:List Dp} {q:Option ByteArray},cK q L=true→∀ d ∈ L,d.nm.size≤16∧cG d.rg=true
 |[],_,_,d,hd=>by cases hd
 |e::M,q,hq,d,hd=>by
  rw [cK,Bool.and_eq_true,Bool.and_eq_true] at hq
  rcases List.mem_cons.1 hd with rfl|hd
  · have:=hq.1.1
    unfold cF at this;rw [Bool.and_eq_true] at this
    have:=this.1
    unfold Sc.aH at this;rw [Bool.and_eq_true,decide_eq_true_eq,aK] at this;exact ⟨this.2,hq.1.2⟩
  · exact mE hq.2 d hd
theorem xD {x n r:ByteArray} (hx:x.size≤16) (hn:n.size≤16) (hr:r.size≤4096):(gU x n r).length≤5000:=by
 unfold gU;simp only [List.length_append,aK,List.length_cons,List.length_nil];omega
theorem cO {x:ByteArray} (hx:x.size≤16) {L:List Dp} (h:aO L=true) (k:Nat):(aY x (L.take k)).length≤80000:=by
 unfold aO at h;rw [Bool.and_eq_true,decide_eq_true_eq] at h
 have:∀ M:List Dp,(∀ d ∈ M,d.nm.size≤16∧cG d.rg=true)→(aY x M).length≤5000*M.length:=by
  intro M
  induction M with
  |nil=>intro _;simp [aY]
  |cons d M ih=>
   intro hM;have h1:=ih fun e he=>hM e (List.mem_cons_of_mem _ he)
   have h2:=xD (x:=x) hx (hM d List.mem_cons_self).1 (qA (hM d List.mem_cons_self).2)
   have:aY x (d::M)=gU x d.nm (prS d.rg)++aY x M:=by unfold aY;simp
   rw [this,List.length_append,List.length_cons];omega
 have h2:=this (L.take k) fun d hd=>mE h.2 d (List.mem_of_mem_take hd)
 have h3:(L.take k).length≤16:=by rw [List.length_take];omega
 omega
def TW (w1:World) (l:Sc.Bs) (w':World):Prop:=Sc.Bld w1.heap.size w1.heap.size l w'∧Below w1.heap.size w1 w'
theorem IR {B b:Nat} {l:Sc.Bs} {w w':World} (h:Sc.Bld B b l w) (hb:Below w.heap.size w w'):Sc.Bld B b l w':=by
 have step:∀ p,Lib.BuilderAt 118 5 B b p (Lib.byteCells l) w→Lib.BuilderAt 118 5 B b p (Lib.byteCells l) w':=by
  rintro p ⟨hB,v,hbk,hown,hne⟩;refine ⟨hB,v,(hb.block b (Array.getElem?_eq_some_iff.1 hbk).1).trans hbk,⟨hown.1,hown.2.imp id ?_⟩,hne⟩;rintro ⟨g,cap,cur,rfl,h1,hg,h2⟩;exact ⟨g,cap,cur,rfl,h1,(hb.block g (Array.getElem?_eq_some_iff.1 hg).1).trans hg,h2⟩
 exact h.imp (step _) (step _)
theorem gV (w1:World) (l:Sc.Bs):KeepP (TW w1 l):=fun _ _ h hb=>⟨IR h.1 hb,aB h.2 hb⟩
theorem TW.new (w1:World):TW w1 [] (w1.alloc (.cells #[.pointer none,.slice none 0 0] 118)):=⟨Lib.fresh_isBuilder _ _ w1,aF _ _⟩
theorem TW.far {w1:World} {l:Sc.Bs} {w':World} (h:TW w1 l w'):w1.heap.size<w'.heap.size:=by
 rcases h.1 with h|h<;>exact h.lt
theorem TW.put {w1 wz:World} {l:Sc.Bs} (h:TW w1 l wz) (s:ByteArray) (hl:l.length≤1000000000) (hs:s.size≤1000000):
 Calls Tryz.prog 54 #[.pointer (some ⟨w1.heap.size,0,none⟩),.string s] wz fun e w'=>e= .returned (.tuple #[.int .i64 s.size,.nilIface])∧TW w1 (l++s.data.toList) w'∧FarB w1.heap.size wz w':=by
 refine (xC s h.1 (by omega) h.2.size).mono ?_;rintro e w' ⟨rfl,g1,g2,g3⟩;exact ⟨rfl,⟨g1,h.2.trans g2⟩,g3⟩
theorem uV (w:World) (B:Nat) (t u ty e:TypeId) (i:TypeInfo) (ht:Tryz.prog.underlying t=some (.slice e)) (hu:Tryz.prog.underlying u=some .string) (hi:Tryz.prog.info? e=some i) (hz:i.zero=some (.int .u8 0)) (hsize:i.size=1) (hby:i.bytes=1)
 (v:Value) (n:Nat) (xs:List Value) (hown:w.ownsRow B e 1 v n xs) (s:ByteArray) (hs:s.size≤1000) (hb:(n+s.size)+(n+s.size) / 4+192≤281474976710656) (hB:B≤w.heap.size):
 ∃ v' w',(Builtin.append_ #[t,u] ty #[v,.string s]).run Tryz.prog w= .ok v' w'∧w'.ownsRow B e 1 v' (n+s.size) (xs++Lib.strCells s)∧w.grownBy w' v.ownBlock:=by
 by_cases hsm:n+s.size≤140737488355328
 · obtain ⟨v',w',h1,h2,h3,_⟩:=Lib.run_append_own_string (P:=Tryz.prog) w B t u ty e i ht hu hi hz hsize hby v n xs hown s (by unfold maxLen;omega) hsm hB
   exact ⟨v',w',h1,h2,h3⟩
 · have hxl:xs.length=n:=by simpa using hown.1
   have hlen:(xs++Lib.strCells s).length=(n+s.size)*1:=by rw [List.length_append,hxl,Lib.strCells_length,Nat.mul_one]
   rcases hown.2 with ⟨_,rfl⟩|⟨g,cap,cur,rfl,hbg,hg,hnc,hcm,hcs,htk⟩
   · omega
   · rw [Nat.mul_one] at hcs htk
     by_cases hroom:n+s.size≤cap
     · have hr:=Lib.run_append_room_string (P:=Tryz.prog) w t u ty e i ht hu hi hsize g n cap cur hg s hroom (by omega)
       refine ⟨_,_,hr,⟨hlen,Or.inr ⟨g,cap,_,rfl,hbg,setRow_heap w g cur _ e _ hg,hroom,hcm,?_,?_⟩⟩,⟨rfl,rfl,rfl,by simp,fun k _ hk=>setRow_other w g k _ (fun e=>hk (by simp [Value.ownBlock,e]))⟩⟩
       · simp only [List.size_toArray,List.length_append,List.length_take,List.length_drop,Array.length_toList,Lib.strCells_length]
         omega
       · rw [htk,←hlen]
         exact List.take_left
     · have hr:=Lib.run_append_grow_string (P:=Tryz.prog) w t u ty e i (.int .u8 0) ht hu hi hz ⟨g,0,none⟩ n cap xs (by rw [hsize];omega) (hown.cells (g:=g) rfl) s (by omega) (by omega) (growslice_fits_wide (by omega) (by rw [hby];omega))
       have hge:=grownCap_ge w (n+s.size) cap e;have hcm2:grownCap w (n+s.size) cap e≤maxLen:=grownCap_le_maxLen w (n+s.size) cap e (by unfold maxLen;omega);refine ⟨_,_,hr,⟨hlen,Or.inr ⟨w.heap.size,_,_,rfl,hB,heap_alloc_new w.drew _,hge,hcm2,?_,?_⟩⟩,⟨rfl,rfl,rfl,by simp,fun k hk _=>heap_alloc_old w.drew _ hk⟩⟩
       · have hz1:(Value.int IntKind.u8 0).cells.size=1:=rfl
         simp only [Array.size_append,List.size_toArray,size_zeroCells,hz1,hxl,Lib.strCells_length];omega
       · simp only [Array.toList_append,List.append_assoc]
         rw [←List.append_assoc,←hlen];exact List.take_left
theorem QJ {w:World} {ops:Array Oper} {rest:List Oper} {o:Oper} {a:Act} {Q:Exit→Act→World→Prop} (hgd:o.guard=none) (sl x:Operand) (t u:TypeId)
 (ho:o.op= .call { callee:= .builtin .append,args:= #[sl,x],argTypes:= #[t,u] })
 (B:Nat) (e:TypeId) (i:TypeInfo) (ht:Tryz.prog.underlying t=some (.slice e)) (hu:Tryz.prog.underlying u=some .string) (hi:Tryz.prog.info? e=some i) (hz:i.zero=some (.int .u8 0)) (hsize:i.size=1) (hby:i.bytes=1)
 (v:Value) (n:Nat) (xs:List Value) (hs:a.eval sl=v) (hown:w.ownsRow B e 1 v n xs) (s:ByteArray) (hx:a.eval x= .string s) (hss:s.size≤1000) (hb:(n+s.size)+(n+s.size) / 4+192≤281474976710656) (hB:B≤w.heap.size)
 (h:∀ v' w',w'.ownsRow B e 1 v' (n+s.size) (xs++Lib.strCells s)→w.grownBy w' v.ownBlock→wpList Tryz.prog ops Q rest (a.put o.dst v') w'):wpList Tryz.prog ops Q (o::rest) a w:=by
 refine wpList_plain hgd fun K hK=> ?_
 obtain ⟨v',w',hr,h2,h3⟩:=uV w B t u o.type e i ht hu hi hz hsize hby v n xs hown s hss hb hB;unfold Oper.wp execOp;simp only [ho,resolve,invoke,builtin,Sem.run_bind,Sem.run_pure,Result.andThen_ok,List.map_toArray,List.map_cons,List.map_nil,hs,hx,hr];exact hK _ _ (h v' w' h2 h3)
set_option maxHeartbeats 1600000 in
theorem IU {B b:Nat} {l:Sc.Bs} {w:World} (s:ByteArray) (h:Sc.Bld B b l w) (hss:s.size≤1000) (hl:(l.length+s.size)+(l.length+s.size) / 4+192≤281474976710656) (hB:B≤w.heap.size):
 Calls Tryz.prog 54 #[.pointer (some ⟨b,0,none⟩),.string s] w fun e w'=>e= .returned (.tuple #[.int .i64 s.size,.nilIface])∧Sc.Bld B b (l++s.data.toList) w'∧Below B w w':=by
 obtain ⟨i0,hi,hz0,hz1,hz2⟩:=Sc.bW Sc.FC;have HC:=aA (tA h);have hlc:(Lib.byteCells l).length=l.length:=Lib.byteCells_length l
 go_enter Tryz.func54,Tryz.ntmps54
 go_wp2_with (go_at_call 106;refine HC.out.mono ?_)
 rintro e w1 ⟨rfl,h1,hb1,hf1⟩;obtain ⟨hBb,v,hbk,hown,hne⟩:=h1;have c0:w1.cell? ⟨b,0,none⟩=some (.pointer (some ⟨b,0,none⟩)):=by rw [Lib.cell_of_heap hbk];rfl
 have c1:w1.cell? ⟨b,1,none⟩=some v:=by rw [Lib.cell_of_heap hbk];rfl
 have hs1:=hb1.size
 go_wp2_with (at_builtin;refine QJ rfl _ _ 116 9 rfl B 5 i0 Tryz.underlying116 Tryz.underlying9 hi hz0 hz1 hz2 _ _ _ rfl hown s rfl hss (by rw [hlc];omega) (by omega) ?_)
 intro v' w2 hown' hgrow;have hlt:b<w1.heap.size:=(Array.getElem?_eq_some_iff.1 hbk).1
 have hb2:w2.heap[b]? =some (.cells #[.pointer (some ⟨b,0,none⟩),v] 118 (0,0)):=by
  rw [hgrow.block b hlt (fun e=>hne e.symm)];exact hbk
 have d0:w2.cell? ⟨b,0,none⟩=some (.pointer (some ⟨b,0,none⟩)):=by rw [Lib.cell_of_heap hb2];rfl
 have d1:w2.cell? ⟨b,1,none⟩=some v:=by rw [Lib.cell_of_heap hb2];rfl
 have f1:w2.frozen? ⟨b,1,none⟩=false:=Lib.frozen_of_heap hb2 1
 obtain ⟨ao,n',cap,rfl⟩:∃ ao n' cap,v'= .slice ao n' cap:=by
  rcases hown'.2 with ⟨hv,_⟩|⟨g,cap,cur,hv,_⟩
  · exact ⟨_,_,_,hv⟩
  · exact ⟨_,_,_,hv⟩
 clear hf1
 go_wp2
 go_ret2;refine ⟨rfl,Or.inr ?_,?_⟩
 · refine Lib.BuilderAt.put (T:=118) (e:=5) hBb hb2 ?_ (by decide)
   rw [Lib.byteCells_append,List.length_append,←Lib.strCells_eq,hlc]
   simpa [Lib.strCells_length] using hown'
 · exact (hb1.grown hgrow (by omega) (fun k hk=>(hown.lt k hk).1)).setCell (p:=⟨b,1,none⟩) hBb _
def dT:ByteArray:=⟨#[47,109,111,100,117,108,101,115,47]⟩
def bE (L:List ByteArray):Sc.Bs:=L.flatMap fun s=>dT.data.toList++s.data.toList
theorem lB (L:List ByteArray) (s:ByteArray):bE (L++[s])=bE L++dT.data.toList++s.data.toList:=by simp [bE]
def aT (L:List ByteArray):Bool:=L.all fun s=>Sc.aH s.data.toList
theorem kG {s:ByteArray} (h:Sc.aH s.data.toList=true):s.size≤16:=by unfold Sc.aH at h;rw [Bool.and_eq_true,decide_eq_true_eq,aK] at h;exact h.2
theorem nK:∀ {L:List ByteArray},aT L=true→(bE L).length≤25*L.length
 |[],_=>by simp [bE]
 |s::L,h=>by
  unfold aT at h;rw [List.all_cons,Bool.and_eq_true] at h;have ih:=nK (L:=L) h.2;have hs:=kG h.1
  have e:(bE (s::L)).length=9+s.size+(bE L).length:=by
   unfold bE;rw [List.flatMap_cons,List.length_append,List.length_append];rfl
  rw [e,List.length_cons];omega
def aG (L:List ByteArray):ByteArray:=if L=[] then ⟨#[47]⟩ else if aT L=true then ⟨(bE L).toArray⟩ else ⟨#[]⟩
theorem qC {L:List ByteArray} {k:Nat} (hk:k<L.length):aT (L.take (k+1))=(aT (L.take k)&&Sc.aH L[k].data.toList):=by
 unfold aT;rw [List.take_succ_eq_append_getElem hk,List.all_append]
 simp
theorem tB {L:List ByteArray} {k:Nat} (hk:k<L.length) (h:Sc.aH L[k].data.toList=false):aT L=false:=by
 unfold aT;rw [List.all_eq_false];exact ⟨_,List.getElem_mem hk,by rw [h];simp⟩
set_option maxHeartbeats 3200000 in
theorem iO {L:List ByteArray} {v:Value} {w:World} (h:PathAt w v L) (hz:L.length*16≤140737488355328):
 Calls Tryz.prog 16 #[v] w fun e w'=>e= .returned (.string (aG L))∧Below w.heap.size w w':=by
 have HP:Hid (∀ w1,Below w.heap.size w w1→PathAt w1 v L):=fun w1 hb=>h.below hb
 obtain ⟨ad,cap,rfl⟩:=h.sl;clear h
 by_cases h0:L=[]
 · subst h0
   have HR:Hid (aG []=⟨#[47]⟩):=rfl;rw [List.length_nil]
   go_enter Tryz.func16,Tryz.ntmps16
   go_wp2
   go_ret;exact ⟨by rw [HR.out];rfl,Below.refl _ _⟩
 · have hpos:0<L.length:=List.length_pos_iff.2 h0
   have HNO:Hid (aT L=false→aG L=⟨#[]⟩):=fun e=>by unfold aG;rw [if_neg h0,if_neg (by rw [e];simp)]
   have HYE:Hid (aT L=true→aG L=⟨(bE L).toArray⟩):=fun e=>by unfold aG;rw [if_neg h0,if_pos e]
   have HNA:Hid (∀ s w1,Calls Tryz.prog 53 #[.string s] w1 fun e w'=>e= .returned (.bool (Sc.aH s.data.toList))∧w'=w1):=fun s w1=>Sc.fI s w1
   have HW:Hid (∀ l wz s,TW w l wz→s.size≤1000→l.length≤219902325555300→Calls Tryz.prog 54 #[.pointer (some ⟨w.heap.size,0,none⟩),.string s] wz fun e w'=>e= .returned (.tuple #[.int .i64 s.size,.nilIface])∧TW w (l++s.data.toList) w'):=fun l wz s h1 h2 h3=>by
    refine (IU s h1.1 h2 (by omega) h1.2.size).mono ?_;rintro e w' ⟨rfl,g1,g2⟩;exact ⟨rfl,g1,h1.2.trans g2⟩
   have HST:Hid (∀ l wz,TW w l wz→Calls Tryz.prog 55 #[.pointer (some ⟨w.heap.size,0,none⟩)] wz fun e w2=>e= .returned (.string ⟨l.toArray⟩)∧Below w.heap.size wz w2):=fun l w' h=>Tryz.Builder_String_any _ _ l w' h.1 h.2.size
   have HT0:Hid (TW w [] (w.alloc (.cells #[.pointer none,.slice none 0 0] 118))):=TW.new w
   have HL:Hid (∀ k,k≤L.length→aT (L.take k)=true→(bE (L.take k)).length≤219902325555200):=fun k hk hn=>by
    have:=nK hn
    rw [List.length_take] at this;omega
   have hne0:((L.length:Int)==0)=false:=by rw [beq_eq_false_iff_ne];omega
   go_enter Tryz.func16,Tryz.ntmps16
   go_wp2_with fail
   go_loopw [11] (fun i wr=>∃ k:Nat,k≤L.length∧i= .int .i64 k∧TW w (bE (L.take k)) wr∧aT (L.take k)=true) (fun i _=>L.length - (intOf i).toNat)
   case atStart=>exact ⟨0,Nat.zero_le _,rfl,HT0.out,rfl⟩
   case round=>
    obtain ⟨k,hk,rfl,htw,hns⟩:=hrel;have HTW:=aA htw
    by_cases hlt:k<L.length
    · obtain ⟨ad',cap',e,_,hcs⟩:=HP.out wr htw.2
      cases e
      obtain ⟨g,o,rfl,hcz⟩:∃ g o,ad=some ⟨g,o,none⟩∧∀ i (h:i<L.length),StIn wr g (o+i) L[i]:=by
       rcases hcs with h|h
       · exact absurd h h0
       · exact h
      clear hcs;obtain ⟨c0,c1⟩:=hcz k hlt;have HLK:=aA (HL.out k hk hns)
      have HTS:Hid (bE (L.take (k+1))=bE (L.take k)++dT.data.toList++L[k].data.toList):=by
       unfold Hid;rw [List.take_succ_eq_append_getElem hlt,lB]
      have HNT:Hid (Sc.aH L[k].data.toList=true→aT (L.take (k+1))=true):=fun e=>by rw [qC hlt,hns,e];rfl
      have HNB:Hid (Sc.aH L[k].data.toList=false→aT L=false):=fun e=>tB hlt e
      clear hcz htw hns;have HNM:=aA (HNA.out L[k]);generalize L[k]=s at*;cases hn:Sc.aH s.data.toList
      · have HR:=aA (HNO.out (HNB.out hn))
        rw [hn] at HNM;clear HNT HNB HNO HYE
        go_wp2_with (go_at_call 53;refine (HNM.out _).mono ?_;rintro e w1 ⟨rfl,hw1⟩;subst w1)
        go_ret;exact ⟨by rw [HR.out];rfl,HTW.out.2⟩
      · have HR:=aA (HNT.out hn)
        rw [hn] at HNM;have hs16:s.size≤16:=kG hn;have hms:dT.size=9:=rfl;clear HNT HNB HNO HYE;have t1:True:=trivial
        go_wp2_with (first
         |(go_at_call 53;refine (HNM.out _).mono ?_;rintro e w1 ⟨rfl,hw1⟩;subst w1)
         |(have _t:=t1;go_at_call 54;refine (HW.out (bE (L.take k)) _ dT HTW.out (by omega) (by have:=HLK.out;omega)).mono ?_;rintro e w2 ⟨rfl,ok⟩;have HT2:=aA ok;clear ok t1)
         |(have _t:=HT2;go_at_call 54;refine (HW.out (bE (L.take k)++dT.data.toList) _ s HT2.out (by omega) (by have:=HLK.out;rw [List.length_append,aK];omega)).mono ?_;rintro e w3 ⟨rfl,ok⟩;have HT3:=aA ok;clear ok))
        exact ⟨⟨k+1,by omega,by go_num,by rw [HTS.out];exact HT3.out,HR.out⟩,by simp [intOf];omega⟩
    · obtain rfl:k=L.length:=by omega
      have HTE:Hid (TW w (bE L) wr):=by have e:=HTW.out;rw [List.take_length] at e;exact e
      have HR:Hid (aG L=⟨(bE L).toArray⟩):=HYE.out (by rw [List.take_length] at hns;exact hns);clear htw hns HTW
      go_wp2_with (go_at_call 55;refine (HST.out _ _ HTE.out).mono ?_;rintro e w6 ⟨rfl,ok⟩;have HB6:=aA (HTE.out.2.trans ok);clear ok)
      go_ret;exact ⟨by rw [HR.out];rfl,HB6.out⟩
def dK (L:List ByteArray):Bool:=decide (0<L.length)&&aT L&&decide ((bE L).length≤1024)
theorem uW {L:List ByteArray} {v:Value} {w:World} (h:PathAt w v L) (hz:L.length*16≤140737488355328):
 Calls Tryz.prog 202 #[v] w fun e w'=>e= .returned (.bool (dK L))∧Below w.heap.size w w':=by
 have HT:=aA (iO h hz);obtain ⟨ad,cap,rfl⟩:=h.sl;clear h;cases L with
 |nil=>
  have HR:Hid (dK []=false):=rfl;rw [List.length_nil] at HT ⊢
  go_enter Tryz.func202,Tryz.ntmps202
  go_wp2_with (go_at_call 16;refine HT.out.mono ?_;rintro e w1 ⟨rfl,ok⟩)
  go_ret;exact ⟨aC HR.out.symm,ok⟩
 |cons s L=>
  have hp:(0:Int)<(((s::L).length:Nat):Int):=by rw [List.length_cons];omega
  cases hn:aT (s::L)
  · have HR:Hid (dK (s::L)=false):=by unfold Hid dK;rw [hn];simp
    have e0:aG (s::L)=⟨#[]⟩:=by unfold aG;rw [if_neg (by simp),if_neg (by rw [hn];simp)]
    rw [e0] at HT;generalize (s::L).length=m at*
    go_enter Tryz.func202,Tryz.ntmps202
    go_wp2_with (go_at_call 16;refine HT.out.mono ?_;rintro e w1 ⟨rfl,ok⟩)
    go_ret;exact ⟨aC HR.out.symm,ok⟩
  · have HR:Hid (dK (s::L)=decide ((bE (s::L)).length≤1024)):=by unfold Hid dK;rw [hn];simp
    have e0:aG (s::L)=⟨(bE (s::L)).toArray⟩:=by unfold aG;rw [if_neg (by simp),if_pos hn]
    rw [e0] at HT;have HSZ:Hid ((⟨(bE (s::L)).toArray⟩:ByteArray).size=(bE (s::L)).length):=by show (bE (s::L)).toArray.size=_;simp
    have HNE:Hid ((⟨(bE (s::L)).toArray⟩:ByteArray).toList.isEmpty=false):=by unfold Hid;rw [ByteArray.toList_eq];simp [bE,dT]
    generalize (⟨(bE (s::L)).toArray⟩:ByteArray)=tx at*;generalize (s::L).length=m at*;rw [←HSZ.out] at HR;have hne:=HNE.out
    by_cases hl:tx.size≤1024
    · rw [decide_eq_true hl] at HR
      have hli:decide ((tx.size:Int)≤1024)=true:=decide_eq_true (by omega)
      go_enter Tryz.func202,Tryz.ntmps202
      go_wp2_with (go_at_call 16;refine HT.out.mono ?_;rintro e w1 ⟨rfl,ok⟩)
      go_ret;exact ⟨aC (by rw [HR.out]),ok⟩
    · rw [decide_eq_false hl] at HR
      have hli:decide ((tx.size:Int)≤1024)=false:=decide_eq_false (by omega)
      go_enter Tryz.func202,Tryz.ntmps202
      go_wp2_with (go_at_call 16;refine HT.out.mono ?_;rintro e w1 ⟨rfl,ok⟩)
      go_ret;exact ⟨aC (by rw [HR.out]),ok⟩
end Go.Proofs.YtlmpiohbmlddiaaGreatDoor
