/- Tw5, Ps2, Pk8, Ps3: their declarations that are needed, laid in one text, remarks and blanks left out. -/
import Derived.Test.YtlmpiohbmlddiaaGreatDoorMd06
namespace Go.Proofs.YtlmpiohbmlddiaaGreatDoor
open Go.RowKit
set_option maxRecDepth 100000
theorem tH (w:World) (B:Nat) (t u ty e:TypeId) (i:TypeInfo) (ht:Tryz.prog.underlying t=some (.slice e)) (hu:Tryz.prog.underlying u=some .string) (hi:Tryz.prog.info? e=some i) (hz:i.zero=some (.int .u8 0)) (hsize:i.size=1) (hby:i.bytes=1)
 (v:Value) (n:Nat) (xs:List Value) (hown:w.ownsRow B e 1 v n xs) (s:ByteArray) (hs:s.size≤1000) (hb:(n+s.size)+(n+s.size) / 4+192≤281474976710656) (hB:B≤w.heap.size):
 ∃ v' w',(Builtin.append_ #[t,u] ty #[v,.string s]).run Tryz.prog w= .ok v' w'∧w'.ownsRow B e 1 v' (n+s.size) (xs++Lib.strCells s)∧w.grownBy w' v.ownBlock:=by
 by_cases hsm:n+s.size≤140737488355328
 · obtain ⟨v',w',h1,h2,h3,_⟩:=Lib.run_append_own_string (P:=Tryz.prog) w B t u ty e i ht hu hi hz hsize hby v n xs hown s (by unfold maxLen;omega) hsm hB
   exact ⟨v',w',h1,h2,h3⟩
 · have hxl:xs.length=n:=by simpa using hown.1
   have hlen:(xs++Lib.strCells s).length=(n+s.size)*1:=by rw [List.length_append,hxl,Lib.strCells_length,Nat.mul_one]
   rcases hown.2 with ⟨_,rfl⟩|⟨g,cap,cur,rfl,hbg,hg,hnc,hcm,hcs,htk⟩
   · omega
   · rw [Nat.mul_one] at hcs htk
     by_cases hroom:n+s.size≤cap
     · have hr:=Lib.run_append_room_string (P:=Tryz.prog) w t u ty e i ht hu hi hsize g n cap cur hg s hroom (by omega)
       refine ⟨_,_,hr,⟨hlen,Or.inr ⟨g,cap,_,rfl,hbg,setRow_heap w g cur _ e _ hg,hroom,hcm,?_,?_⟩⟩,⟨rfl,rfl,rfl,by simp,fun k _ hk=>setRow_other w g k _ (fun e=>hk (by simp [Value.ownBlock,e]))⟩⟩
       · simp only [List.size_toArray,List.length_append,List.length_take,List.length_drop,Array.length_toList,Lib.strCells_length]
         omega
       · rw [htk,←hlen]
         exact List.take_left
     · have hr:=Lib.run_append_grow_string (P:=Tryz.prog) w t u ty e i (.int .u8 0) ht hu hi hz ⟨g,0,none⟩ n cap xs (by rw [hsize];omega) (hown.cells (g:=g) rfl) s (by omega) (by omega) (growslice_fits_wide (by omega) (by rw [hby];omega))
       have hge:=grownCap_ge w (n+s.size) cap e;have hcm2:grownCap w (n+s.size) cap e≤maxLen:=grownCap_le_maxLen w (n+s.size) cap e (by unfold maxLen;omega);refine ⟨_,_,hr,⟨hlen,Or.inr ⟨w.heap.size,_,_,rfl,hB,heap_alloc_new w.drew _,hge,hcm2,?_,?_⟩⟩,⟨rfl,rfl,rfl,by simp,fun k hk _=>heap_alloc_old w.drew _ hk⟩⟩
       · have hz1:(Value.int IntKind.u8 0).cells.size=1:=rfl
         simp only [Array.size_append,List.size_toArray,size_zeroCells,hz1,hxl,Lib.strCells_length];omega
       · simp only [Array.toList_append,List.append_assoc]
         rw [←List.append_assoc,←hlen];exact List.take_left
theorem NY {w:World} {ops:Array Oper} {rest:List Oper} {o:Oper} {a:Act} {Q:Exit→Act→World→Prop} (hgd:o.guard=none) (sl x:Operand) (t u:TypeId)
 (ho:o.op= .call { callee:= .builtin .append,args:= #[sl,x],argTypes:= #[t,u] })
 (B:Nat) (e:TypeId) (i:TypeInfo) (ht:Tryz.prog.underlying t=some (.slice e)) (hu:Tryz.prog.underlying u=some .string) (hi:Tryz.prog.info? e=some i) (hz:i.zero=some (.int .u8 0)) (hsize:i.size=1) (hby:i.bytes=1)
 (v:Value) (n:Nat) (xs:List Value) (hs:a.eval sl=v) (hown:w.ownsRow B e 1 v n xs) (s:ByteArray) (hx:a.eval x= .string s) (hss:s.size≤1000) (hb:(n+s.size)+(n+s.size) / 4+192≤281474976710656) (hB:B≤w.heap.size)
 (h:∀ v' w',w'.ownsRow B e 1 v' (n+s.size) (xs++Lib.strCells s)→w.grownBy w' v.ownBlock→wpList Tryz.prog ops Q rest (a.put o.dst v') w'):wpList Tryz.prog ops Q (o::rest) a w:=by
 refine wpList_plain hgd fun K hK=> ?_
 obtain ⟨v',w',hr,h2,h3⟩:=tH w B t u o.type e i ht hu hi hz hsize hby v n xs hown s hss hb hB;unfold Oper.wp execOp;simp only [ho,resolve,invoke,builtin,Sem.run_bind,Sem.run_pure,Result.andThen_ok,List.map_toArray,List.map_cons,List.map_nil,hs,hx,hr];exact hK _ _ (h v' w' h2 h3)
set_option maxHeartbeats 1600000 in
theorem rQ {B b:Nat} {l:Sc.Bs} {w:World} (s:ByteArray) (h:Sc.Bld B b l w) (hss:s.size≤1000) (hl:(l.length+s.size)+(l.length+s.size) / 4+192≤281474976710656) (hB:B≤w.heap.size):
 Calls Tryz.prog 54 #[.pointer (some ⟨b,0,none⟩),.string s] w fun e w'=>e= .returned (.tuple #[.int .i64 s.size,.nilIface])∧Sc.Bld B b (l++s.data.toList) w'∧Below B w w':=by
 obtain ⟨i0,hi,hz0,hz1,hz2⟩:=Sc.bO Sc.CV;have HC:=aB (rP h);have hlc:(Lib.byteCells l).length=l.length:=Lib.byteCells_length l
 go_enter Tryz.func54,Tryz.ntmps54
 go_wp2_with (go_at_call 106;refine HC.out.mono ?_)
 rintro e w1 ⟨rfl,h1,hb1,hf1⟩;obtain ⟨hBb,v,hbk,hown,hne⟩:=h1;have c0:w1.cell? ⟨b,0,none⟩=some (.pointer (some ⟨b,0,none⟩)):=by rw [Lib.cell_of_heap hbk];rfl
 have c1:w1.cell? ⟨b,1,none⟩=some v:=by rw [Lib.cell_of_heap hbk];rfl
 have hs1:=hb1.size
 go_wp2_with (at_builtin;refine NY rfl _ _ 116 9 rfl B 5 i0 Tryz.underlying116 Tryz.underlying9 hi hz0 hz1 hz2 _ _ _ rfl hown s rfl hss (by rw [hlc];omega) (by omega) ?_)
 intro v' w2 hown' hgrow;have hlt:b<w1.heap.size:=(Array.getElem?_eq_some_iff.1 hbk).1
 have hb2:w2.heap[b]? =some (.cells #[.pointer (some ⟨b,0,none⟩),v] 118 (0,0)):=by
  rw [hgrow.block b hlt (fun e=>hne e.symm)];exact hbk
 have d0:w2.cell? ⟨b,0,none⟩=some (.pointer (some ⟨b,0,none⟩)):=by rw [Lib.cell_of_heap hb2];rfl
 have d1:w2.cell? ⟨b,1,none⟩=some v:=by rw [Lib.cell_of_heap hb2];rfl
 have f1:w2.frozen? ⟨b,1,none⟩=false:=Lib.frozen_of_heap hb2 1
 obtain ⟨ao,n',cap,rfl⟩:∃ ao n' cap,v'= .slice ao n' cap:=by
  rcases hown'.2 with ⟨hv,_⟩|⟨g,cap,cur,hv,_⟩
  · exact ⟨_,_,_,hv⟩
  · exact ⟨_,_,_,hv⟩
 clear hf1
 go_wp2
 go_ret2;refine ⟨rfl,Or.inr ?_,?_⟩
 · refine Lib.BuilderAt.put (T:=118) (e:=5) hBb hb2 ?_ (by decide)
   rw [Lib.byteCells_append,List.length_append,←Lib.strCells_eq,hlc]
   simpa [Lib.strCells_length] using hown'
 · exact (hb1.grown hgrow (by omega) (fun k hk=>(hown.lt k hk).1)).setCell (p:=⟨b,1,none⟩) hBb _
def cW:ByteArray:=⟨#[47,109,111,100,117,108,101,115,47]⟩
def aJ (L:List ByteArray):Sc.Bs:=L.flatMap fun s=>cW.data.toList++s.data.toList
theorem dY (L:List ByteArray) (s:ByteArray):aJ (L++[s])=aJ L++cW.data.toList++s.data.toList:=by simp [aJ]
def aI (L:List ByteArray):Bool:=L.all fun s=>Sc.aG s.data.toList
theorem gA {s:ByteArray} (h:Sc.aG s.data.toList=true):s.size≤16:=by unfold Sc.aG at h;rw [Bool.and_eq_true,decide_eq_true_eq,aK] at h;exact h.2
theorem rR:∀ {L:List ByteArray},aI L=true→(aJ L).length≤25*L.length
 |[],_=>by simp [aJ]
 |s::L,h=>by
  unfold aI at h;rw [List.all_cons,Bool.and_eq_true] at h;have ih:=rR (L:=L) h.2;have hs:=gA h.1
  have e:(aJ (s::L)).length=9+s.size+(aJ L).length:=by
   unfold aJ;rw [List.flatMap_cons,List.length_append,List.length_append];rfl
  rw [e,List.length_cons];omega
def aF (L:List ByteArray):ByteArray:=if L=[] then ⟨#[47]⟩ else if aI L=true then ⟨(aJ L).toArray⟩ else ⟨#[]⟩
theorem oM {L:List ByteArray} {k:Nat} (hk:k<L.length):aI (L.take (k+1))=(aI (L.take k)&&Sc.aG L[k].data.toList):=by
 unfold aI;rw [List.take_succ_eq_append_getElem hk,List.all_append]
 simp
theorem rS {L:List ByteArray} {k:Nat} (hk:k<L.length) (h:Sc.aG L[k].data.toList=false):aI L=false:=by
 unfold aI;rw [List.all_eq_false];exact ⟨_,List.getElem_mem hk,by rw [h];simp⟩
set_option maxHeartbeats 3200000 in
theorem eS {L:List ByteArray} {v:Value} {w:World} (h:PathAt w v L) (hz:L.length*16≤140737488355328):
 Calls Tryz.prog 16 #[v] w fun e w'=>e= .returned (.string (aF L))∧Below w.heap.size w w':=by
 have HP:Hid (∀ w1,Below w.heap.size w w1→PathAt w1 v L):=fun w1 hb=>h.below hb
 obtain ⟨ad,cap,rfl⟩:=h.sl;clear h
 by_cases h0:L=[]
 · subst h0
   have HR:Hid (aF []=⟨#[47]⟩):=rfl;rw [List.length_nil]
   go_enter Tryz.func16,Tryz.ntmps16
   go_wp2
   go_ret;exact ⟨by rw [HR.out];rfl,Below.refl _ _⟩
 · have hpos:0<L.length:=List.length_pos_iff.2 h0
   have HNO:Hid (aI L=false→aF L=⟨#[]⟩):=fun e=>by unfold aF;rw [if_neg h0,if_neg (by rw [e];simp)]
   have HYE:Hid (aI L=true→aF L=⟨(aJ L).toArray⟩):=fun e=>by unfold aF;rw [if_neg h0,if_pos e]
   have HNA:Hid (∀ s w1,Calls Tryz.prog 53 #[.string s] w1 fun e w'=>e= .returned (.bool (Sc.aG s.data.toList))∧w'=w1):=fun s w1=>Sc.cT s w1
   have HW:Hid (∀ l wz s,TW w l wz→s.size≤1000→l.length≤219902325555300→Calls Tryz.prog 54 #[.pointer (some ⟨w.heap.size,0,none⟩),.string s] wz fun e w'=>e= .returned (.tuple #[.int .i64 s.size,.nilIface])∧TW w (l++s.data.toList) w'):=fun l wz s h1 h2 h3=>by
    refine (rQ s h1.1 h2 (by omega) h1.2.size).mono ?_;rintro e w' ⟨rfl,g1,g2⟩;exact ⟨rfl,g1,h1.2.trans g2⟩
   have HST:Hid (∀ l wz,TW w l wz→Calls Tryz.prog 55 #[.pointer (some ⟨w.heap.size,0,none⟩)] wz fun e w2=>e= .returned (.string ⟨l.toArray⟩)∧Below w.heap.size wz w2):=fun l w' h=>Tryz.Builder_String_any _ _ l w' h.1 h.2.size
   have HT0:Hid (TW w [] (w.alloc (.cells #[.pointer none,.slice none 0 0] 118))):=TW.new w
   have HL:Hid (∀ k,k≤L.length→aI (L.take k)=true→(aJ (L.take k)).length≤219902325555200):=fun k hk hn=>by
    have:=rR hn
    rw [List.length_take] at this;omega
   have hne0:((L.length:Int)==0)=false:=by rw [beq_eq_false_iff_ne];omega
   go_enter Tryz.func16,Tryz.ntmps16
   go_wp2_with fail
   go_loopw [11] (fun i wr=>∃ k:Nat,k≤L.length∧i= .int .i64 k∧TW w (aJ (L.take k)) wr∧aI (L.take k)=true) (fun i _=>L.length - (intOf i).toNat)
   case atStart=>exact ⟨0,Nat.zero_le _,rfl,HT0.out,rfl⟩
   case round=>
    obtain ⟨k,hk,rfl,htw,hns⟩:=hrel;have HTW:=aB htw
    by_cases hlt:k<L.length
    · obtain ⟨ad',cap',e,_,hcs⟩:=HP.out wr htw.2
      cases e
      obtain ⟨g,o,rfl,hcz⟩:∃ g o,ad=some ⟨g,o,none⟩∧∀ i (h:i<L.length),StIn wr g (o+i) L[i]:=by
       rcases hcs with h|h
       · exact absurd h h0
       · exact h
      clear hcs;obtain ⟨c0,c1⟩:=hcz k hlt;have HLK:=aB (HL.out k hk hns)
      have HTS:Hid (aJ (L.take (k+1))=aJ (L.take k)++cW.data.toList++L[k].data.toList):=by
       unfold Hid;rw [List.take_succ_eq_append_getElem hlt,dY]
      have HNT:Hid (Sc.aG L[k].data.toList=true→aI (L.take (k+1))=true):=fun e=>by rw [oM hlt,hns,e];rfl
      have HNB:Hid (Sc.aG L[k].data.toList=false→aI L=false):=fun e=>rS hlt e
      clear hcz htw hns;have HNM:=aB (HNA.out L[k]);generalize L[k]=s at*;cases hn:Sc.aG s.data.toList
      · have HR:=aB (HNO.out (HNB.out hn))
        rw [hn] at HNM;clear HNT HNB HNO HYE
        go_wp2_with (go_at_call 53;refine (HNM.out _).mono ?_;rintro e w1 ⟨rfl,hw1⟩;subst w1)
        go_ret;exact ⟨by rw [HR.out];rfl,HTW.out.2⟩
      · have HR:=aB (HNT.out hn)
        rw [hn] at HNM;have hs16:s.size≤16:=gA hn;have hms:cW.size=9:=rfl;clear HNT HNB HNO HYE;have t1:True:=trivial
        go_wp2_with (first
         |(go_at_call 53;refine (HNM.out _).mono ?_;rintro e w1 ⟨rfl,hw1⟩;subst w1)
         |(have _t:=t1;go_at_call 54;refine (HW.out (aJ (L.take k)) _ cW HTW.out (by omega) (by have:=HLK.out;omega)).mono ?_;rintro e w2 ⟨rfl,ok⟩;have HT2:=aB ok;clear ok t1)
         |(have _t:=HT2;go_at_call 54;refine (HW.out (aJ (L.take k)++cW.data.toList) _ s HT2.out (by omega) (by have:=HLK.out;rw [List.length_append,aK];omega)).mono ?_;rintro e w3 ⟨rfl,ok⟩;have HT3:=aB ok;clear ok))
        exact ⟨⟨k+1,by omega,by go_num,by rw [HTS.out];exact HT3.out,HR.out⟩,by simp [intOf];omega⟩
    · obtain rfl:k=L.length:=by omega
      have HTE:Hid (TW w (aJ L) wr):=by have e:=HTW.out;rw [List.take_length] at e;exact e
      have HR:Hid (aF L=⟨(aJ L).toArray⟩):=HYE.out (by rw [List.take_length] at hns;exact hns);clear htw hns HTW
      go_wp2_with (go_at_call 55;refine (HST.out _ _ HTE.out).mono ?_;rintro e w6 ⟨rfl,ok⟩;have HB6:=aB (HTE.out.2.trans ok);clear ok)
      go_ret;exact ⟨by rw [HR.out];rfl,HB6.out⟩
def dF (L:List ByteArray):Bool:=decide (0<L.length)&&aI L&&decide ((aJ L).length≤1024)
theorem tI {L:List ByteArray} {v:Value} {w:World} (h:PathAt w v L) (hz:L.length*16≤140737488355328):
 Calls Tryz.prog 202 #[v] w fun e w'=>e= .returned (.bool (dF L))∧Below w.heap.size w w':=by
 have HT:=aB (eS h hz);obtain ⟨ad,cap,rfl⟩:=h.sl;clear h;cases L with
 |nil=>
  have HR:Hid (dF []=false):=rfl;rw [List.length_nil] at HT ⊢
  go_enter Tryz.func202,Tryz.ntmps202
  go_wp2_with (go_at_call 16;refine HT.out.mono ?_;rintro e w1 ⟨rfl,ok⟩)
  go_ret;exact ⟨aC HR.out.symm,ok⟩
 |cons s L=>
  have hp:(0:Int)<(((s::L).length:Nat):Int):=by rw [List.length_cons];omega
  cases hn:aI (s::L)
  · have HR:Hid (dF (s::L)=false):=by unfold Hid dF;rw [hn];simp
    have e0:aF (s::L)=⟨#[]⟩:=by unfold aF;rw [if_neg (by simp),if_neg (by rw [hn];simp)]
    rw [e0] at HT;generalize (s::L).length=m at*
    go_enter Tryz.func202,Tryz.ntmps202
    go_wp2_with (go_at_call 16;refine HT.out.mono ?_;rintro e w1 ⟨rfl,ok⟩)
    go_ret;exact ⟨aC HR.out.symm,ok⟩
  · have HR:Hid (dF (s::L)=decide ((aJ (s::L)).length≤1024)):=by unfold Hid dF;rw [hn];simp
    have e0:aF (s::L)=⟨(aJ (s::L)).toArray⟩:=by unfold aF;rw [if_neg (by simp),if_pos hn]
    rw [e0] at HT;have HSZ:Hid ((⟨(aJ (s::L)).toArray⟩:ByteArray).size=(aJ (s::L)).length):=by show (aJ (s::L)).toArray.size=_;simp
    have HNE:Hid ((⟨(aJ (s::L)).toArray⟩:ByteArray).toList.isEmpty=false):=by unfold Hid;rw [ByteArray.toList_eq];simp [aJ,cW]
    generalize (⟨(aJ (s::L)).toArray⟩:ByteArray)=tx at*;generalize (s::L).length=m at*;rw [←HSZ.out] at HR;have hne:=HNE.out
    by_cases hl:tx.size≤1024
    · rw [decide_eq_true hl] at HR
      have hli:decide ((tx.size:Int)≤1024)=true:=decide_eq_true (by omega)
      go_enter Tryz.func202,Tryz.ntmps202
      go_wp2_with (go_at_call 16;refine HT.out.mono ?_;rintro e w1 ⟨rfl,ok⟩)
      go_ret;exact ⟨aC (by rw [HR.out]),ok⟩
    · rw [decide_eq_false hl] at HR
      have hli:decide ((tx.size:Int)≤1024)=false:=decide_eq_false (by omega)
      go_enter Tryz.func202,Tryz.ntmps202
      go_wp2_with (go_at_call 16;refine HT.out.mono ?_;rintro e w1 ⟨rfl,ok⟩)
      go_ret;exact ⟨aC (by rw [HR.out]),ok⟩
theorem rT (s:ByteArray) (a b c:Int) (a1 a2 a3:Option Addr) (l1 l2 l3 c1 c2 c3:Nat) (w:World):
 Calls Tryz.prog 176 #[.agg #[.string s,.int .i64 a,.int .i64 b,.int .i64 c,.slice a1 l1 c1,.slice a2 l2 c2,.slice a3 l3 c3]] w fun e w'=>e= .returned (.agg #[.slice a1 l1 c1,.slice a2 l2 c2,.slice a3 l3 c3])∧Below w.heap.size w w':=by
 go_enter Tryz.func176,Tryz.ntmps176
 go_wp2
 try simp only [Exit.inBlock,Exit.then]
 refine bodyPost_ret (by simp [results,Tryz.results176,go_sem];try rfl) rfl ?_;exact ⟨rfl,aV _ _ _⟩
theorem vS (x y z:Value) (w:World):(Instr.index 225 (.agg #[x,y,z]) (.int .i64 0)).run Tryz.prog w= .ok x w:=by kernel_rfl
theorem vT (x y z:Value) (w:World):(Instr.index 225 (.agg #[x,y,z]) (.int .i64 1)).run Tryz.prog w= .ok y w:=by kernel_rfl
theorem vU (x y z:Value) (w:World):(Instr.index 225 (.agg #[x,y,z]) (.int .i64 2)).run Tryz.prog w= .ok z w:=by kernel_rfl
noncomputable def vV (P:Pg):Bool:=eZ [P.d,P.p,P.o]
theorem RF {w:World} {P:Pg} {v1 v2 v3:Value} (h:PgAt w P v1 v2 v3):tG (w.alloc (.cells #[v1,v2,v3] 22)) w.heap.size 0 [P.d,P.p,P.o]:=by
 refine ⟨by simp,fun k hk=> ?_⟩
 match k,hk with
 |0,_=>exact ⟨v1,by simp,h.1.below (aD _ _)⟩
 |1,_=>exact ⟨v2,by simp,h.2.1.below (aD _ _)⟩
 |2,_=>exact ⟨v3,by simp,h.2.2.below (aD _ _)⟩
theorem SU {w:World} {P:Pg} {v1 v2 v3:Value} (h:PgAt w P v1 v2 v3) (h1:iG P.d) (h2:iG P.p) (h3:iG P.o):Calls Tryz.prog 198 #[.slice (some ⟨w.heap.size,0,none⟩) 3 3] (w.alloc (.cells #[v1,v2,v3] 22)) fun e w'=>e= .returned (.bool (vV P))∧Below (w.alloc (.cells #[v1,v2,v3] 22)).heap.size (w.alloc (.cells #[v1,v2,v3] 22)) w':=
 vO (Ls:=[P.d,P.p,P.o]) (RF h) (fun L hL=>by
  simp only [List.mem_cons,List.not_mem_nil,or_false] at hL
  rcases hL with rfl|rfl|rfl<;>assumption) (by simp)
noncomputable def iH (P:Pg):Bool:=Sc.aG P.nm.data.toList&&bC P.a P.b P.c&&(bN P.d&&(bN P.p&&bN P.o))&&vV P
set_option maxHeartbeats 3200000 in
theorem rU {P:Pg} {v1 v2 v3:Value} {w:World} (h:PgAt w P v1 v2 v3):
 Calls Tryz.prog 174 #[.agg #[.string P.nm,.int .i64 P.a,.int .i64 P.b,.int .i64 P.c,v1,v2,v3]] w fun e w'=>e= .returned (.bool (iH P))∧Below w.heap.size w w':=by
 have HN:Hid (∀ w1,Calls Tryz.prog 53 #[.string P.nm] w1 fun e w'=>e= .returned (.bool (Sc.aG P.nm.data.toList))∧w'=w1):=Sc.cT P.nm;have HV:Hid (∀ w1,Calls Tryz.prog 159 #[.agg #[.int .i64 P.a,.int .i64 P.b,.int .i64 P.c]] w1 fun e w'=>e= .returned (.bool (bC P.a P.b P.c))∧Below w1.heap.size w1 w'):=gL _ _ _;have HM1:Hid (∀ w1,Below w.heap.size w w1→Calls Tryz.prog 197 #[v1] w1 fun e w'=>e= .returned (.bool (bN P.d))∧Below w1.heap.size w1 w'):=fun w1 hb=>cV (h.1.below hb)
 have HM2:Hid (∀ w1,Below w.heap.size w w1→Calls Tryz.prog 197 #[v2] w1 fun e w'=>e= .returned (.bool (bN P.p))∧Below w1.heap.size w1 w'):=fun w1 hb=>cV (h.2.1.below hb)
 have HM3:Hid (∀ w1,Below w.heap.size w w1→Calls Tryz.prog 197 #[v3] w1 fun e w'=>e= .returned (.bool (bN P.o))∧Below w1.heap.size w1 w'):=fun w1 hb=>cV (h.2.2.below hb)
 have HEO:Hid (bN P.d=true→bN P.p=true→bN P.o=true→∀ w1,Below w.heap.size w w1→Calls Tryz.prog 198 #[.slice (some ⟨w1.heap.size,0,none⟩) 3 3] (w1.alloc (.cells #[v1,v2,v3] 22)) fun e w'=>e= .returned (.bool (vV P))∧Below (w1.alloc (.cells #[v1,v2,v3] 22)).heap.size (w1.alloc (.cells #[v1,v2,v3] 22)) w'):=fun h1 h2 h3 w1 hb=>SU (h.below hb) (cP h1) (cP h2) (cP h3)
 have HSB:Hid (iH P=(Sc.aG P.nm.data.toList&&bC P.a P.b P.c&&(bN P.d&&(bN P.p&&bN P.o))&&vV P)):=rfl;obtain ⟨a1,c1,rfl⟩:=h.1.sl;obtain ⟨a2,c2,rfl⟩:=h.2.1.sl;obtain ⟨a3,c3,rfl⟩:=h.2.2.sl;have HLI:Hid (∀ w1,Calls Tryz.prog 176 #[.agg #[.string P.nm,.int .i64 P.a,.int .i64 P.b,.int .i64 P.c,.slice a1 P.d.length c1,.slice a2 P.p.length c2,.slice a3 P.o.length c3]] w1 fun e w'=>e= .returned (.agg #[.slice a1 P.d.length c1,.slice a2 P.p.length c2,.slice a3 P.o.length c3])∧Below w1.heap.size w1 w'):=rT _ _ _ _ _ _ _ _ _ _ _ _ _;clear h;generalize iH P=SB at*;generalize vV P=ob at*;generalize bN P.d=m1 at*;generalize bN P.p=m2 at*;generalize bN P.o=m3 at*;generalize Sc.aG P.nm.data.toList=nb at*;generalize bC P.a P.b P.c=vb at*;generalize P.d.length=l1 at*;generalize P.p.length=l2 at*;generalize P.o.length=l3 at*;generalize P.nm=s at*;generalize P.a=a at*;generalize P.b=b at*
 generalize P.c=c at*;have HBX:Hid (BxP (w.alloc (.cells #[.string s,.int .i64 a,.int .i64 b,.int .i64 c,.slice a1 l1 c1,.slice a2 l2 c2,.slice a3 l3 c3] 54)) w.heap.size s a b c (.slice a1 l1 c1) (.slice a2 l2 c2) (.slice a3 l3 c3)):=BxP.new rfl _ _ _ _ _ _ _;have HKB:Hid (KeepP fun w1=>BxP w1 w.heap.size s a b c (.slice a1 l1 c1) (.slice a2 l2 c2) (.slice a3 l3 c3)):=kI _ _ _ _ _ _ _ _;have ix0:=vS;have ix1:=vT;have ix2:=vU;cases nb
 · have HR:Hid (SB=false):=by unfold Hid;rw [HSB.out];rfl
   go_enter Tryz.func174,Tryz.ntmps174
   go_wp2_with (go_at_call 53;refine (HN.out _).mono ?_;rintro e w1 ⟨rfl,rfl⟩)
   go_ret;exact ⟨aC HR.out.symm,aD _ _⟩
 · cases vb
   · have HR:Hid (SB=false):=by unfold Hid;rw [HSB.out];rfl
     go_enter Tryz.func174,Tryz.ntmps174
     go_wp2_with (first
      |(go_at_call 53;refine (HN.out _).mono ?_;rintro e w1 ⟨rfl,rfl⟩)
      |(go_at_call 159;refine (HV.out _).mono ?_;rintro e w2 ⟨rfl,ok⟩;have HO2:=aB (aA (aD _ _) ok);clear ok))
     go_ret;exact ⟨aC HR.out.symm,HO2.out⟩
   · go_enter Tryz.func174,Tryz.ntmps174
     go_wp2_with (first
      |(go_at_call 53;refine (HN.out _).mono ?_;rintro e w1 ⟨rfl,rfl⟩)
      |(go_at_call 159;refine (HV.out _).mono ?_;rintro e w2 ⟨rfl,ok⟩;have HO2:=aB (aA (aD _ _) ok);have HB2:=aB (HKB.out _ _ HBX.out ok);obtain ⟨k0,k1,k2,k3,k4,k5,k6,k7⟩:=HB2.out;clear ok)
      |(go_at_call 176;refine (HLI.out _).mono ?_;rintro e w3 ⟨rfl,ok⟩;have HO3:Hid (Below w.heap.size w w3∧BxP w3 w.heap.size s a b c (.slice a1 l1 c1) (.slice a2 l2 c2) (.slice a3 l3 c3)):=⟨aA HO2.out ok,HKB.out _ _ HB2.out ok⟩;clear ok))
     clear k0 k1 k2 k3 k4 k5 k6 k7
     go_loopw [17] (fun i wr=>∃ k:Nat,k≤3∧i= .int .i64 k∧(Below w.heap.size w wr∧BxP wr w.heap.size s a b c (.slice a1 l1 c1) (.slice a2 l2 c2) (.slice a3 l3 c3))∧(1≤k→m1=true)∧(2≤k→m2=true)∧(3≤k→m3=true)) (fun i _=>3 - (intOf i).toNat)
     case atStart=>exact ⟨0,Nat.zero_le _,rfl,HO3.out,(fun h=>by omega),(fun h=>by omega),(fun h=>by omega)⟩
     case round=>
      obtain ⟨k,hk,rfl,hb,e1,e2,e3⟩:=hrel;have HB:=aB hb
      rcases (show k=0∨k=1∨k=2∨k=3 by omega) with rfl|rfl|rfl|rfl
      · clear hb e1 e2 e3
        cases m1
        · have HR:Hid (SB=false):=by unfold Hid;rw [HSB.out];simp
          go_wp2_with (go_at_call 197;refine (HM1.out _ HB.out.1).mono ?_;rintro e w4 ⟨rfl,ok⟩;have HO4:=aB (aA HB.out.1 ok);clear ok)
          go_ret;exact ⟨aC HR.out.symm,HO4.out⟩
        · go_wp2_with (go_at_call 197;refine (HM1.out _ HB.out.1).mono ?_;rintro e w4 ⟨rfl,ok⟩;have HO4:Hid (Below w.heap.size w w4∧BxP w4 w.heap.size s a b c (.slice a1 l1 c1) (.slice a2 l2 c2) (.slice a3 l3 c3)):=⟨aA HB.out.1 ok,HKB.out _ _ HB.out.2 ok⟩;clear ok)
          exact ⟨⟨1,by omega,rfl,HO4.out,(fun _=>trivial),(fun h=>by omega),(fun h=>by omega)⟩,by simp [intOf]⟩
      · have e1':=e1 (by omega)
        subst e1';clear hb e1 e2 e3;cases m2
        · have HR:Hid (SB=false):=by unfold Hid;rw [HSB.out];simp
          go_wp2_with (go_at_call 197;refine (HM2.out _ HB.out.1).mono ?_;rintro e w4 ⟨rfl,ok⟩;have HO4:=aB (aA HB.out.1 ok);clear ok)
          go_ret;exact ⟨aC HR.out.symm,HO4.out⟩
        · go_wp2_with (go_at_call 197;refine (HM2.out _ HB.out.1).mono ?_;rintro e w4 ⟨rfl,ok⟩;have HO4:Hid (Below w.heap.size w w4∧BxP w4 w.heap.size s a b c (.slice a1 l1 c1) (.slice a2 l2 c2) (.slice a3 l3 c3)):=⟨aA HB.out.1 ok,HKB.out _ _ HB.out.2 ok⟩;clear ok)
          exact ⟨⟨2,by omega,rfl,HO4.out,(fun _=>trivial),(fun _=>trivial),(fun h=>by omega)⟩,by simp [intOf]⟩
      · have e1':=e1 (by omega)
        have e2':=e2 (by omega);subst e1' e2';clear hb e1 e2 e3;cases m3
        · have HR:Hid (SB=false):=by unfold Hid;rw [HSB.out];simp
          go_wp2_with (go_at_call 197;refine (HM3.out _ HB.out.1).mono ?_;rintro e w4 ⟨rfl,ok⟩;have HO4:=aB (aA HB.out.1 ok);clear ok)
          go_ret;exact ⟨aC HR.out.symm,HO4.out⟩
        · go_wp2_with (go_at_call 197;refine (HM3.out _ HB.out.1).mono ?_;rintro e w4 ⟨rfl,ok⟩;have HO4:Hid (Below w.heap.size w w4∧BxP w4 w.heap.size s a b c (.slice a1 l1 c1) (.slice a2 l2 c2) (.slice a3 l3 c3)):=⟨aA HB.out.1 ok,HKB.out _ _ HB.out.2 ok⟩;clear ok)
          exact ⟨⟨3,by omega,rfl,HO4.out,(fun _=>trivial),(fun _=>trivial),(fun _=>trivial)⟩,by simp [intOf]⟩
      · have e1':=e1 (by omega)
        have e2':=e2 (by omega);have e3':=e3 (by omega);subst e1' e2' e3';have HR:Hid (SB=ob):=by unfold Hid;rw [HSB.out];simp
        have HEW:=aB (HEO.out rfl rfl rfl);obtain ⟨k0,k1,k2,k3,k4,k5,k6,k7⟩:=HB.out.2;clear hb e1 e2 e3
        go_wp2_with (go_at_call 198;refine (HEW.out _ HB.out.1).mono ?_;rintro e w4 ⟨rfl,ok⟩;have HO4:=aB (aA (aA HB.out.1 (aD _ _)) ok);clear ok)
        go_ret;exact ⟨aC HR.out.symm,HO4.out⟩
set_option maxHeartbeats 6400000 in
theorem rV {w1 wz:World} {l:Sc.Bs} {v:Value} {L:List Dp} {x:ByteArray} (h:TW w1 l wz) (hd:DepsAt w1 v L) (hm:bN L=true) (he:Env w1) (hf:FL w1) (hx:x.size≤16) (hl:l.length≤1000000):
 Calls Tryz.prog 157 #[.pointer (some ⟨w1.heap.size,0,none⟩),.string x,v] wz fun e w'=>e= .returned (.tuple #[])∧TW w1 (l++bM x L) w'∧FarB w1.heap.size wz w':=by
 have HD:Hid (∀ w',Below w1.heap.size w1 w'→DepsAt w' v L):=fun w' hb=>hd.below hb
 have HSP:Hid (∀ w2 u (R:List Sp),Below w1.heap.size w1 w2→cQ R=true→SpansC w2 u R→Calls Tryz.prog 199 #[u] w2 fun e w'=>e= .returned (.string (prS R))∧Below w2.heap.size w2 w'):=fun w2 u R hb hr hu=>EZ hr hu (he.below hb) (hf.below hb)
 have HAll:Hid (∀ d ∈ L,d.nm.size≤16∧cQ d.rg=true):=by
  have:=hm
  unfold bN at this;rw [Bool.and_eq_true] at this;exact oL this.2
 have HLN:=aB (fA hx hm);have h16:=(cP hm).1
 have HPU:Hid (∀ (l1:Sc.Bs) w2 (s:ByteArray) (N:Nat) (bx:Obj),(TW w1 l1 w2∧FarB w1.heap.size wz w2)∧(w2.heap[N]? =some bx∧(∃ cs,bx= .cells cs 170 (0,0))∧w1.heap.size<N)→l1.length≤2000000→s.size≤1000000→Calls Tryz.prog 54 #[.pointer (some ⟨w1.heap.size,0,none⟩),.string s] w2 fun e w'=>e= .returned (.tuple #[.int .i64 s.size,.nilIface])∧(TW w1 (l1++s.data.toList) w'∧FarB w1.heap.size wz w')∧(w'.heap[N]? =some bx∧(∃ cs,bx= .cells cs 170 (0,0))∧w1.heap.size<N)):=fun l1 w2 s N bx h1 h2 h3=>by
  refine (h1.1.1.put s (by omega) h3).mono ?_;rintro e w' ⟨rfl,g1,g2⟩;obtain ⟨cs,rfl⟩:=h1.2.2.1;exact ⟨rfl,⟨g1,h1.1.2.trans g2⟩,g2 _ _ _ _ h1.2.1 (by decide) (by have:=h1.2.2.2;omega),⟨cs,rfl⟩,h1.2.2.2⟩
 have HT0:Hid (TW w1 l wz∧FarB w1.heap.size wz wz):=⟨h,FarB.refl _ _⟩;obtain ⟨ad,cap,rfl,hcp⟩:=hd.len;clear hd hm he hf h
 go_enter Tryz.func157,Tryz.ntmps157
 go_wp2_with fail
 go_loopw [10] (fun j wq=>∃ m:Nat,m≤L.length∧j= .int .i64 m∧TW w1 (l++bM x (L.take m)) wq∧FarB w1.heap.size wz wq) (fun j _=>L.length - (intOf j).toNat)
 case atStart=>exact ⟨0,Nat.zero_le _,rfl,by have:=HT0.out;simpa [bM] using this⟩
 case round=>
  clear HT0;obtain ⟨m,hm,rfl,htq⟩:=hrel;have HTQ:=aB htq
  by_cases hlt:m<L.length
  · obtain ⟨ad',cap',e,_,hcs⟩:=HD.out wr htq.1.2
    cases e
    obtain ⟨g,o,rfl,hg,hcs⟩:∃ g o,ad=some ⟨g,o,none⟩∧g<wr.heap.size∧∀ i (h:i<L.length),∃ u,DpIn wr g (o+i*2) L[i] u:=by
     rcases hcs with h|h
     · rw [h] at hlt;simp at hlt
     · exact h
    obtain ⟨u,p0,p1,⟨hu,_⟩,p3⟩:=hcs m hlt;obtain ⟨au,cu,rfl⟩:=hu.1.sl;obtain ⟨hnz2,hrb⟩:=HAll.out _ (List.getElem_mem hlt);have hpz:=vQ hrb;have HSN:=aB (zV (x:=x) hlt)
    have hpl:(l++bM x (L.take m)).length≤1100000:=by
     have h1:=HLN.out m;rw [List.length_append];omega
    have HUS:Hid (SpansC (wr.alloc (.cells #[.string L[m].nm,.slice au L[m].rg.length cu] 170)) (.slice au L[m].rg.length cu) L[m].rg):=⟨hu.1.below (aD _ _),hu.2⟩;have HUB:Hid (g<wr.heap.size):=hg;have HSPd:=aB (fun w' (hb:Below w1.heap.size w1 w') (hc:SpansC w' (.slice au L[m].rg.length cu) L[m].rg)=>HSP.out w' _ _ hb hrb hc)
    have HO0:Hid ((TW w1 (l++bM x (L.take m)) (wr.alloc (.cells #[.string L[m].nm,.slice au L[m].rg.length cu] 170))∧FarB w1.heap.size wz (wr.alloc (.cells #[.string L[m].nm,.slice au L[m].rg.length cu] 170)))∧((wr.alloc (.cells #[.string L[m].nm,.slice au L[m].rg.length cu] 170)).heap[wr.heap.size]? =some (.cells #[.string L[m].nm,.slice au L[m].rg.length cu] 170 (0,0))∧(∃ cs,(Obj.cells #[.string L[m].nm,.slice au L[m].rg.length cu] 170 (0,0))= .cells cs 170 (0,0))∧w1.heap.size<wr.heap.size)):=by
     refine ⟨⟨fB _ _ _ _ htq.1 (aD _ _),htq.2.trans (FarB.below (aD _ _))⟩,?_,⟨_,rfl⟩,htq.1.far⟩;show (wr.heap.push _)[wr.heap.size]? =_;rw [Array.getElem?_push,if_pos rfl]
    have HUK:Hid (KeepP fun w'=>SpansC w' (.slice au L[m].rg.length cu) L[m].rg):=fun _ _ h hb=>⟨h.1.below hb,h.2⟩
    have HUW:Hid (∀ w',Below w1.heap.size w1 w'→SpansC w' (.slice au L[m].rg.length cu) L[m].rg):=fun w' hb=>by
     obtain ⟨ad2,cap2,e2,_,hcs2⟩:=HD.out w' hb;cases e2
     rcases hcs2 with h2|⟨g2,o2,e3,hg2,hcs2⟩
     · rw [h2] at hlt;simp at hlt
     · cases e3
       obtain ⟨u2,q0,q1,⟨hu2,_⟩,q3⟩:=hcs2 m hlt;obtain ⟨ad3,cap3,e4,_,hcs3⟩:=HD.out w1 (Below.refl _ _);cases e4
       rcases hcs3 with h4|⟨g4,o4,e5,hg4,hcs4⟩
       · rw [h4] at hlt;simp at hlt
       · cases e5
         obtain ⟨u5,r0,r1,_,_⟩:=hcs4 m hlt;have t1:=(hb.cell (p:=⟨g,o+m*2+1,none⟩) hg4).trans r1;have t2:=(HTQ.out.1.2.cell (p:=⟨g,o+m*2+1,none⟩) hg4).trans r1;rw [q1] at t1;rw [p1] at t2;cases t1;cases t2;exact hu2
    clear hcs hu htq;generalize prS L[m].rg=rt at*;generalize L[m].rg.length=lu at*;generalize L[m].nm=s at*;generalize hlm:l++bM x (L.take m)=lm at*;have HLM:=aB hlm;clear hlm;have l1:(lm++x.data.toList).length≤1100016:=by rw [List.length_append,aK];omega
    have l2:(lm++x.data.toList++[32]).length≤1100017:=by rw [List.length_append];simp at l1 ⊢;omega
    have l3:(lm++x.data.toList++[32]++s.data.toList).length≤1100033:=by rw [List.length_append,aK];omega
    have l4:(lm++x.data.toList++[32]++s.data.toList++[32]).length≤1100034:=by rw [List.length_append];simp at l3 ⊢;omega
    have l5:(lm++x.data.toList++[32]++s.data.toList++[32]++rt.data.toList).length≤1200000:=by rw [List.length_append,aK];omega
    go_wp2_with (first
     |(have _h:=HO0;go_at_call 54;refine (HPU.out _ _ x _ _ HO0.out (by omega) (by omega)).mono ?_;rintro e w2 ⟨rfl,ok⟩;have HO1:=aB ok;clear ok HO0)
     |(have _h:=HO1;go_at_call 54;refine (HPU.out _ _ ⟨#[32]⟩ _ _ HO1.out (Nat.le_trans l1 (by decide)) (by decide)).mono ?_;rintro e w3 ⟨rfl,ok⟩;have HO2:=aB ok;clear ok HO1;have d0:w3.cell? ⟨wr.heap.size,0,none⟩=some (.string s):=(by rw [Lib.cell_of_heap HO2.out.2.1];rfl))
     |(have _h:=HO2;go_at_call 54;refine (HPU.out _ _ s _ _ HO2.out (Nat.le_trans l2 (by decide)) (by omega)).mono ?_;rintro e w4 ⟨rfl,ok⟩;have HO3:=aB ok;clear ok HO2 d0)
     |(have _h:=HO3;go_at_call 54;refine (HPU.out _ _ ⟨#[32]⟩ _ _ HO3.out (Nat.le_trans l3 (by decide)) (by decide)).mono ?_;rintro e w5 ⟨rfl,ok⟩;have HO4:=aB ok;clear ok HO3;have d1:w5.cell? ⟨wr.heap.size,1,none⟩=some (.slice au lu cu):=(by rw [Lib.cell_of_heap HO4.out.2.1];rfl))
     |(have _h:=HO4;go_at_call 199;refine (HSPd.out _ HO4.out.1.1.2 (HUW.out _ HO4.out.1.1.2)).mono ?_;rintro e w6 ⟨rfl,ok⟩;have HO5:Hid ((TW w1 (lm++x.data.toList++[32]++s.data.toList++[32]) w6∧FarB w1.heap.size wz w6)∧(w6.heap[wr.heap.size]? =some (.cells #[.string s,.slice au lu cu] 170 (0,0))∧(∃ cs,(Obj.cells #[.string s,.slice au lu cu] 170 (0,0))= .cells cs 170 (0,0))∧w1.heap.size<wr.heap.size)):=⟨⟨fB _ _ _ _ HO4.out.1.1 ok,HO4.out.1.2.trans (FarB.below ok)⟩,(ok.block wr.heap.size (Array.getElem?_eq_some_iff.1 HO4.out.2.1).1).trans HO4.out.2.1,HO4.out.2.2⟩;clear ok HO4 d1)
     |(have _h:=HO5;go_at_call 54;refine (HPU.out _ _ rt _ _ HO5.out (Nat.le_trans l4 (by decide)) (by omega)).mono ?_;rintro e w7 ⟨rfl,ok⟩;have HO6:=aB ok;clear ok HO5)
     |(have _h:=HO6;go_at_call 54;refine (HPU.out _ _ ⟨#[10]⟩ _ _ HO6.out (Nat.le_trans l5 (by decide)) (by decide)).mono ?_;rintro e w8 ⟨rfl,ok⟩;have HO7:=aB ok;clear ok HO6))
    refine ⟨⟨m+1,by omega,by go_num,?_,HO7.out.1.2⟩,by simp [intOf];omega⟩;have e:l++bM x (L.take (m+1))=lm++x.data.toList++[32]++s.data.toList++[32]++rt.data.toList++[10]:=by rw [HSN.out,←HLM.out];unfold fZ;simp
    rw [e];exact HO7.out.1.1
  · have HTN:Hid (TW w1 (l++bM x L) wr∧FarB w1.heap.size wz wr):=by
     have:=HTQ.out
     rw [List.take_of_length_le (by omega)] at this;exact this
    clear htq
    go_wp2
    go_end0
    exact ⟨rfl,HTN.out.1,HTN.out.2⟩
def lwK:Nat→ByteArray
 |0=>⟨#[110,101,101,100,115]⟩
 |1=>⟨#[98,101,115,105,100,101]⟩
 |_=>⟨#[108,105,107,101,115]⟩
theorem iS (k:Nat):(lwK k).size≤16:=by
 match k with
 |0|1=>decide
 |_+2=>show (⟨#[108,105,107,101,115]⟩:ByteArray).size≤16;decide
def kM (P:Pg):Sc.Bs:=fZ ⟨#[112,97,99,107,97,103,101]⟩ P.nm (aZ P.a P.b P.c)++(bM (lwK 0) P.d++(bM (lwK 1) P.p++bM (lwK 2) P.o))
noncomputable def aS (P:Pg):Bool:=iH P&&decide ((kM P).length≤4096)
noncomputable def bF (P:Pg):ByteArray:=if aS P=true then ⟨(kM P).toArray⟩ else ⟨#[]⟩
def lN:Obj:= .cells #[.string (lwK 0),.string (lwK 1),.string (lwK 2)] 9 (0,0)
theorem qW (w:World):Calls Tryz.prog 175 #[] w fun e w'=>e= .returned (.slice (some ⟨w.heap.size,0,none⟩) 3 3)∧w'=w.alloc (.cells #[.string (lwK 0),.string (lwK 1),.string (lwK 2)] 9):=by
 go_enter Tryz.func175,Tryz.ntmps175
 go_wp2
 go_ret;exact ⟨rfl,rfl⟩
theorem bQ (a b:ByteArray):(a++b).data.toList=a.data.toList++b.data.toList:=by simp
theorem aX (a b:ByteArray):(a++b).size=a.size+b.size:=by simp
def iI (P:Pg):Nat→Sc.Bs
 |0=>fZ ⟨#[112,97,99,107,97,103,101]⟩ P.nm (aZ P.a P.b P.c)
 |1=>fZ ⟨#[112,97,99,107,97,103,101]⟩ P.nm (aZ P.a P.b P.c)++bM (lwK 0) P.d
 |2=>fZ ⟨#[112,97,99,107,97,103,101]⟩ P.nm (aZ P.a P.b P.c)++bM (lwK 0) P.d++bM (lwK 1) P.p
 |_=>fZ ⟨#[112,97,99,107,97,103,101]⟩ P.nm (aZ P.a P.b P.c)++bM (lwK 0) P.d++bM (lwK 1) P.p++bM (lwK 2) P.o
theorem FB (P:Pg):iI P 3=kM P:=by unfold iI kM;simp
set_option maxHeartbeats 6400000 in
theorem qX {P:Pg} {v1 v2 v3:Value} {w:World} (h:PgAt w P v1 v2 v3) (he:Env w) (hf:FL w) (hsd:iH P=true):
 Calls Tryz.prog 128 #[.agg #[.string P.nm,.int .i64 P.a,.int .i64 P.b,.int .i64 P.c,v1,v2,v3]] w fun e w'=>e= .returned (.tuple #[.string (bF P),.bool (aS P)])∧Below w.heap.size w w':=by
 have HSO:Hid (∀ w1,Below w.heap.size w w1→Calls Tryz.prog 174 #[.agg #[.string P.nm,.int .i64 P.a,.int .i64 P.b,.int .i64 P.c,v1,v2,v3]] w1 fun e w'=>e= .returned (.bool true)∧Below w1.heap.size w1 w'):=fun w1 hb=>by have:=rU (h.below hb);rw [hsd] at this;exact this
 have hs:=hsd;unfold iH at hs;simp only [Bool.and_eq_true] at hs;obtain ⟨⟨⟨hnm,hmv⟩,hd,hp,ho⟩,_⟩:=hs;have hnz:P.nm.size≤16:=by unfold Sc.aG at hnm;rw [Bool.and_eq_true,decide_eq_true_eq,aK] at hnm;exact hnm.2
 have hvz:=dB P.a P.b P.c;have HPR:Hid (∀ w1,Below w.heap.size w w1→Calls Tryz.prog 125 #[.agg #[.int .i64 P.a,.int .i64 P.b,.int .i64 P.c]] w1 fun e w'=>e= .returned (.string (aZ P.a P.b P.c))∧Below w1.heap.size w1 w'):=fun w1 hb=>kH he.tab _ _ _ w1 hb
 have HPG:Hid (∀ w1,Below w.heap.size w w1→PgAt w1 P v1 v2 v3):=fun w1 hb=>h.below hb
 have HMD:Hid (bN P.d=true∧bN P.p=true∧bN P.o=true):=⟨hd,hp,ho⟩;have HLN:Hid ((∀ k,(bM (lwK 0) (P.d.take k)).length≤80000)∧(∀ k,(bM (lwK 1) (P.p.take k)).length≤80000)∧(∀ k,(bM (lwK 2) (P.o.take k)).length≤80000)):=⟨fA (iS 0) hd,fA (iS 1) hp,fA (iS 2) ho⟩;have hll:(fZ ⟨#[112,97,99,107,97,103,101]⟩ P.nm (aZ P.a P.b P.c)).length≤5000:=vR (by decide) hnz (by omega);have HF0:=aB (HLN.out.1 P.d.length);have HF1:=aB (HLN.out.2.1 P.p.length);rw [List.take_length] at HF0 HF1;have HSZ:Hid ((P.d.length≤16∧P.p.length≤16)∧P.o.length≤16):=⟨⟨(cP hd).1,(cP hp).1⟩,(cP ho).1⟩;obtain ⟨⟨z1,z2⟩,z3⟩:=HSZ.out;have HWB:Hid (aS P=decide ((kM P).length≤4096)):=by unfold Hid aS;rw [hsd];rfl
 have HPT:=aB (FB P);obtain ⟨a1,c1,rfl,q1⟩:=h.1.len;obtain ⟨a2,c2,rfl,q2⟩:=h.2.1.len;obtain ⟨a3,c3,rfl,q3⟩:=h.2.2.len;have HLI:Hid (∀ w1,Calls Tryz.prog 176 #[.agg #[.string P.nm,.int .i64 P.a,.int .i64 P.b,.int .i64 P.c,.slice a1 P.d.length c1,.slice a2 P.p.length c2,.slice a3 P.o.length c3]] w1 fun e w'=>e= .returned (.agg #[.slice a1 P.d.length c1,.slice a2 P.p.length c2,.slice a3 P.o.length c3])∧Below w1.heap.size w1 w'):=rT _ _ _ _ _ _ _ _ _ _ _ _ _;have HLE:Hid (∀ w1 l w',TW w1 l w'→Calls Tryz.prog 158 #[.pointer (some ⟨w1.heap.size,0,none⟩)] w' fun e w2=>e= .returned (.int .i64 l.length)∧w2=w'):=fun w1 l w' h=>CW h.1
 have HST:Hid (∀ w1 l w',TW w1 l w'→Calls Tryz.prog 55 #[.pointer (some ⟨w1.heap.size,0,none⟩)] w' fun e w2=>e= .returned (.string ⟨l.toArray⟩)∧Below w1.heap.size w' w2):=fun w1 l w' h=>Tryz.Builder_String_any _ _ l w' h.1 h.2.size
 have HWR:Hid (∀ w1,Below w.heap.size w w1→∀ (l:Sc.Bs) wz (x:ByteArray) v L,TW w1 l wz→DepsAt w1 v L→bN L=true→x.size≤16→l.length≤1000000→Calls Tryz.prog 157 #[.pointer (some ⟨w1.heap.size,0,none⟩),.string x,v] wz fun e w'=>e= .returned (.tuple #[])∧TW w1 (l++bM x L) w'∧FarB w1.heap.size wz w'):=fun w1 hb l wz x v L h1 h2 h3 h4 h5=>rV h1 h2 h3 (he.below hb) (hf.below hb) h4 h5
 have HPU:Hid (∀ w1 (l:Sc.Bs) wz (s:ByteArray),TW w1 l wz→l.length≤1000000→s.size≤1000000→Calls Tryz.prog 54 #[.pointer (some ⟨w1.heap.size,0,none⟩),.string s] wz fun e w'=>e= .returned (.tuple #[.int .i64 s.size,.nilIface])∧TW w1 (l++s.data.toList) w'∧FarB w1.heap.size wz w'):=fun w1 l wz s h1 h2 h3=>h1.put s (by omega) h3
 have HHD:Hid ([]++(⟨#[112,97,99,107,97,103,101,32]⟩++P.nm++⟨#[32]⟩++aZ P.a P.b P.c++⟨#[10]⟩:ByteArray).data.toList=iI P 0∧(⟨#[112,97,99,107,97,103,101,32]⟩++P.nm++⟨#[32]⟩++aZ P.a P.b P.c++⟨#[10]⟩:ByteArray).size≤1000000):=by
  refine ⟨by unfold iI fZ;simp,?_⟩;rw [aX,aX,aX,aX];have e1:(⟨#[112,97,99,107,97,103,101,32]⟩:ByteArray).size=8:=rfl;have e2:(⟨#[32]⟩:ByteArray).size=1:=rfl;have e3:(⟨#[10]⟩:ByteArray).size=1:=rfl;omega
 have ix0:=vS;have ix1:=vT;have ix2:=vU;clear h he hf hsd hnm hmv hd hp ho;have HBX:Hid (BxP (w.alloc (.cells #[.string P.nm,.int .i64 P.a,.int .i64 P.b,.int .i64 P.c,.slice a1 P.d.length c1,.slice a2 P.p.length c2,.slice a3 P.o.length c3] 54)) w.heap.size P.nm P.a P.b P.c (.slice a1 P.d.length c1) (.slice a2 P.p.length c2) (.slice a3 P.o.length c3)):=BxP.new rfl _ _ _ _ _ _ _;have HKB:Hid (KeepP fun w1=>BxP w1 w.heap.size P.nm P.a P.b P.c (.slice a1 P.d.length c1) (.slice a2 P.p.length c2) (.slice a3 P.o.length c3)):=kI _ _ _ _ _ _ _ _
 go_enter Tryz.func128,Tryz.ntmps128
 go_wp2_with (go_at_call 174;refine (HSO.out _ (aD _ _)).mono ?_;rintro e w1 ⟨rfl,ok⟩;have HO1:Hid (Below w.heap.size w w1∧BxP w1 w.heap.size P.nm P.a P.b P.c (.slice a1 P.d.length c1) (.slice a2 P.p.length c2) (.slice a3 P.o.length c3)):=⟨aA (aD _ _) ok,HKB.out _ _ HBX.out ok⟩;clear ok HBX)
 have e1:=fun W:World=>run_string_add_sum (P:=Tryz.prog) (w:=W) ⟨#[112,97,99,107,97,103,101,32]⟩ P.nm (by rw [show (⟨#[112,97,99,107,97,103,101,32]⟩:ByteArray).size=8 from rfl];omega)
 have e2:=fun W:World=>run_string_add_sum (P:=Tryz.prog) (w:=W) (⟨#[112,97,99,107,97,103,101,32]⟩++P.nm) ⟨#[32]⟩ (by rw [aX,show (⟨#[112,97,99,107,97,103,101,32]⟩:ByteArray).size=8 from rfl,show (⟨#[32]⟩:ByteArray).size=1 from rfl];omega)
 have e3:=fun W:World=>run_string_add_sum (P:=Tryz.prog) (w:=W) (⟨#[112,97,99,107,97,103,101,32]⟩++P.nm++⟨#[32]⟩) (aZ P.a P.b P.c) (by rw [aX,aX,show (⟨#[112,97,99,107,97,103,101,32]⟩:ByteArray).size=8 from rfl,show (⟨#[32]⟩:ByteArray).size=1 from rfl];omega)
 have e4:=fun W:World=>run_string_add_sum (P:=Tryz.prog) (w:=W) (⟨#[112,97,99,107,97,103,101,32]⟩++P.nm++⟨#[32]⟩++aZ P.a P.b P.c) ⟨#[10]⟩ (by rw [aX,aX,aX,show (⟨#[112,97,99,107,97,103,101,32]⟩:ByteArray).size=8 from rfl,show (⟨#[32]⟩:ByteArray).size=1 from rfl,show (⟨#[10]⟩:ByteArray).size=1 from rfl];omega)
 have HT0:Hid (TW w1 [] (w1.alloc (.cells #[.pointer none,.slice none 0 0] 118))):=TW.new w1;have HBP:Hid (∀ w',Below w1.heap.size w1 w'→BxP w' w.heap.size P.nm P.a P.b P.c (.slice a1 P.d.length c1) (.slice a2 P.p.length c2) (.slice a3 P.o.length c3)):=fun w' hb=>HKB.out _ _ HO1.out.2 hb
 obtain ⟨k0,k1,k2,k3,k4,k5,k6,k7⟩:=HBP.out _ HT0.out.2
 go_region_held3 (fun w'=>w'.cell? ⟨w.heap.size,0,none⟩=some (.string P.nm)∧w'.cell? ⟨w.heap.size,1,none⟩=some (.int .i64 P.a)∧w'.cell? ⟨w.heap.size,2,none⟩=some (.int .i64 P.b)∧w'.cell? ⟨w.heap.size,3,none⟩=some (.int .i64 P.c)) (go_keep)
  (first
    |(have _h:=HT0;go_at_call 125;refine (HPR.out _ (aA HO1.out.1 (aD _ _).drew)).mono ?_;rintro e w2 ⟨rfl,ok⟩;have HT2:=aB (fB _ _ _ _ ((fB _ _).drew HT0.out) ok);clear ok HT0 k0 k1 k2 k3 k4 k5 k6 k7;obtain ⟨k0,k1,k2,k3,k4,k5,k6,k7⟩:=HBP.out _ HT2.out.2)
    |(have _h:=HT2;go_at_call 54;refine (HPU.out w1 [] _ _ HT2.out (by decide) HHD.out.2).mono ?_;rintro e w3 ⟨rfl,ok,_⟩;have HT3:Hid (TW w1 (iI P 0) w3):=(by have h3:=ok;rw [HHD.out.1] at h3;exact h3);clear ok HT2 k0 k1 k2 k3 k4 k5 k6 k7;obtain ⟨k0,k1,k2,k3,k4,k5,k6,k7⟩:=HBP.out _ HT3.out.2))
 go_wp2_with (first
  |(go_at_call 175;refine (qW _).mono ?_;rintro e w3b ⟨rfl,hw3b⟩;have HT3b:Hid (TW w1 (iI P 0) w3b∧w3b.heap[w3.heap.size]? =some lN∧w1.heap.size<w3.heap.size):=(by rw [hw3b];exact ⟨fB _ _ _ _ HT3.out (aD _ _),(by show (w3.heap.push _)[w3.heap.size]? =_;rw [Array.getElem?_push,if_pos rfl];rfl),HT3.out.far⟩);clear hw3b k0 k1 k2 k3 k4 k5 k6 k7;obtain ⟨k0,k1,k2,k3,k4,k5,k6,k7⟩:=HBP.out _ HT3b.out.1.2)
  |(go_at_call 176;refine (HLI.out _).mono ?_;rintro e w4 ⟨rfl,ok⟩;have HT4:Hid (TW w1 (iI P 0) w4∧w4.heap[w3.heap.size]? =some lN∧w1.heap.size<w3.heap.size):=⟨fB _ _ _ _ HT3b.out.1 ok,(ok.block _ (Array.getElem?_eq_some_iff.1 HT3b.out.2.1).1).trans HT3b.out.2.1,HT3b.out.2.2⟩;clear ok HT3b))
 clear k0 k1 k2 k3 k4 k5 k6 k7
 go_loopw [24] (fun i wr=>∃ k:Nat,k≤3∧i= .int .i64 k∧TW w1 (iI P k) wr∧wr.heap[w3.heap.size]? =some lN∧w1.heap.size<w3.heap.size) (fun i _=>3 - (intOf i).toNat)
 case atStart=>exact ⟨0,Nat.zero_le _,rfl,HT4.out⟩
 case round=>
  obtain ⟨k,hk,rfl,htw⟩:=hrel
  rcases (show k=0∨k=1∨k=2∨k=3 by omega) with rfl|rfl|rfl|rfl
  · have HTK:=aB htw
    clear htw;have g0:wr.cell? ⟨w3.heap.size,0,none⟩=some (.string (lwK 0)):=by rw [Lib.cell_of_heap HTK.out.2.1];rfl
    have hpl:(iI P 0).length≤1000000:=by
     have h2:=HF0.out;have h3:=HF1.out;simp only [iI] at*;omega
    go_wp2_with (go_at_call 157;refine (HWR.out w1 HO1.out.1 _ _ (lwK 0) _ P.d HTK.out.1 (HPG.out w1 HO1.out.1).1 HMD.out.1 (iS 0) hpl).mono ?_;rintro e w5 ⟨rfl,ok,far⟩;have HT5:Hid (TW w1 (iI P (0+1)) w5∧w5.heap[w3.heap.size]? =some lN∧w1.heap.size<w3.heap.size):=⟨ok,far _ _ _ _ HTK.out.2.1 (by decide) (by have:=HTK.out.2.2;omega),HTK.out.2.2⟩;clear ok far)
    exact ⟨⟨0+1,by omega,rfl,HT5.out⟩,by simp [intOf]⟩
  · have HTK:=aB htw
    clear htw;have g0:wr.cell? ⟨w3.heap.size,1,none⟩=some (.string (lwK 1)):=by rw [Lib.cell_of_heap HTK.out.2.1];rfl
    have hpl:(iI P 1).length≤1000000:=by
     have h2:=HF0.out;have h3:=HF1.out;simp only [iI,List.length_append] at*;omega
    go_wp2_with (go_at_call 157;refine (HWR.out w1 HO1.out.1 _ _ (lwK 1) _ P.p HTK.out.1 (HPG.out w1 HO1.out.1).2.1 HMD.out.2.1 (iS 1) hpl).mono ?_;rintro e w5 ⟨rfl,ok,far⟩;have HT5:Hid (TW w1 (iI P (1+1)) w5∧w5.heap[w3.heap.size]? =some lN∧w1.heap.size<w3.heap.size):=⟨ok,far _ _ _ _ HTK.out.2.1 (by decide) (by have:=HTK.out.2.2;omega),HTK.out.2.2⟩;clear ok far)
    exact ⟨⟨1+1,by omega,rfl,HT5.out⟩,by simp [intOf]⟩
  · have HTK:=aB htw
    clear htw;have g0:wr.cell? ⟨w3.heap.size,2,none⟩=some (.string (lwK 2)):=by rw [Lib.cell_of_heap HTK.out.2.1];rfl
    have hpl:(iI P 2).length≤1000000:=by
     have h2:=HF0.out;have h3:=HF1.out;simp only [iI,List.length_append] at*;omega
    go_wp2_with (go_at_call 157;refine (HWR.out w1 HO1.out.1 _ _ (lwK 2) _ P.o HTK.out.1 (HPG.out w1 HO1.out.1).2.2 HMD.out.2.2 (iS 2) hpl).mono ?_;rintro e w5 ⟨rfl,ok,far⟩;have HT5:Hid (TW w1 (iI P (2+1)) w5∧w5.heap[w3.heap.size]? =some lN∧w1.heap.size<w3.heap.size):=⟨ok,far _ _ _ _ HTK.out.2.1 (by decide) (by have:=HTK.out.2.2;omega),HTK.out.2.2⟩;clear ok far)
    exact ⟨⟨2+1,by omega,rfl,HT5.out⟩,by simp [intOf]⟩
  · have HTE:=aB htw.1
    rw [HPT.out] at HTE;clear htw
    by_cases hlen:(kM P).length≤4096
    · have HR:Hid (aS P=true∧bF P=⟨(kM P).toArray⟩):=by
       have:aS P=true:=by rw [HWB.out];exact decide_eq_true hlen
       exact ⟨this,by unfold bF;rw [if_pos this]⟩
      go_wp2_with (first
       |(go_at_call 158;refine (HLE.out _ _ _ HTE.out).mono ?_;rintro e w5 ⟨rfl,rfl⟩)
       |(go_at_call 55;refine (HST.out _ _ _ HTE.out).mono ?_;rintro e w6 ⟨rfl,ok⟩;have HB6:=aB (aA HO1.out.1 (HTE.out.2.trans ok));clear ok))
      go_ret2;exact ⟨by rw [HR.out.1,HR.out.2];rfl,HB6.out⟩
    · have HR:Hid (aS P=false∧bF P=⟨#[]⟩):=by
       have:aS P=false:=by rw [HWB.out];exact decide_eq_false hlen
       exact ⟨this,by unfold bF;rw [if_neg (by rw [this];simp)]⟩
      go_wp2_with (go_at_call 158;refine (HLE.out _ _ _ HTE.out).mono ?_;rintro e w5 ⟨rfl,rfl⟩)
      go_ret2;exact ⟨by rw [HR.out.1,HR.out.2];rfl,aA HO1.out.1 HTE.out.2⟩
theorem mG {P:Pg} {v1 v2 v3:Value} {w:World} (h:PgAt w P v1 v2 v3) (he:Env w) (hf:FL w):
 Calls Tryz.prog 128 #[.agg #[.string P.nm,.int .i64 P.a,.int .i64 P.b,.int .i64 P.c,v1,v2,v3]] w fun e w'=>e= .returned (.tuple #[.string (bF P),.bool (aS P)])∧Below w.heap.size w w':=by
 cases hsd:iH P
 · have HSO:Hid (∀ w1,Below w.heap.size w w1→Calls Tryz.prog 174 #[.agg #[.string P.nm,.int .i64 P.a,.int .i64 P.b,.int .i64 P.c,v1,v2,v3]] w1 fun e w'=>e= .returned (.bool false)∧Below w1.heap.size w1 w'):=fun w1 hb=>by have:=rU (h.below hb);rw [hsd] at this;exact this
   have HR:Hid (aS P=false∧bF P=⟨#[]⟩):=by
    have:aS P=false:=by unfold aS;rw [hsd];rfl
    exact ⟨this,by unfold bF;rw [if_neg (by rw [this];simp)]⟩
   obtain ⟨a1,c1,rfl⟩:=h.1.sl;obtain ⟨a2,c2,rfl⟩:=h.2.1.sl;obtain ⟨a3,c3,rfl⟩:=h.2.2.sl;clear h he hf hsd
   go_enter Tryz.func128,Tryz.ntmps128
   go_wp2_with (go_at_call 174;refine (HSO.out _ (aD _ _)).mono ?_;rintro e w1 ⟨rfl,ok⟩;have HO1:=aB (aA (aD _ _) ok);clear ok)
   go_ret2;exact ⟨by rw [HR.out.1,HR.out.2];rfl,HO1.out⟩
 · exact qX h he hf hsd
theorem JM {P:Pg} {v1 v2 v3:Value} {w:World} (h:PgAt w P v1 v2 v3) (he:Env w) (hf:FL w):
 Calls Tryz.prog 188 #[.agg #[.string P.nm,.int .i64 P.a,.int .i64 P.b,.int .i64 P.c,v1,v2,v3]] w fun e w'=>e= .returned (.bool (aS P))∧Below w.heap.size w w':=by
 have HW:Hid (∀ w1,Below w.heap.size w w1→Calls Tryz.prog 128 #[.agg #[.string P.nm,.int .i64 P.a,.int .i64 P.b,.int .i64 P.c,v1,v2,v3]] w1 fun e w'=>e= .returned (.tuple #[.string (bF P),.bool (aS P)])∧Below w1.heap.size w1 w'):=fun w1 hb=>mG (h.below hb) (he.below hb) (hf.below hb)
 obtain ⟨a1,c1,rfl⟩:=h.1.sl;obtain ⟨a2,c2,rfl⟩:=h.2.1.sl;obtain ⟨a3,c3,rfl⟩:=h.2.2.sl;clear h he hf
 go_enter Tryz.func188,Tryz.ntmps188
 go_wp2_with (go_at_call 128;refine (HW.out _ (aD _ _)).mono ?_;rintro e w1 ⟨rfl,ok⟩;have HO1:=aB (aA (aD _ _) ok);clear ok)
 go_ret;exact ⟨rfl,HO1.out⟩
theorem oN {P:Pg} {v1 v2 v3:Value} {w:World} (h:PgAt w P v1 v2 v3) (he:Env w) (hf:FL w):
 Calls Tryz.prog 76 #[.agg #[.string P.nm,.int .i64 P.a,.int .i64 P.b,.int .i64 P.c,v1,v2,v3]] w fun e w'=>e= .returned (.tuple #[.string (bF P),.int .i64 (if aS P=true then 0 else 24)])∧Below w.heap.size w w':=by
 have HW:Hid (∀ w1,Below w.heap.size w w1→Calls Tryz.prog 128 #[.agg #[.string P.nm,.int .i64 P.a,.int .i64 P.b,.int .i64 P.c,v1,v2,v3]] w1 fun e w'=>e= .returned (.tuple #[.string (bF P),.bool (aS P)])∧Below w1.heap.size w1 w'):=fun w1 hb=>mG (h.below hb) (he.below hb) (hf.below hb)
 obtain ⟨a1,c1,rfl⟩:=h.1.sl;obtain ⟨a2,c2,rfl⟩:=h.2.1.sl;obtain ⟨a3,c3,rfl⟩:=h.2.2.sl;clear h he hf;have HWT:Hid (aS P=false→bF P=⟨#[]⟩):=fun hb=>by unfold bF;rw [if_neg (by rw [hb];simp)]
 cases hwb:aS P
 · rw [hwb] at HW
   have HT:=aB (HWT.out hwb);rw [HT.out] at HW ⊢
   go_enter Tryz.func76,Tryz.ntmps76
   go_wp2_with (go_at_call 128;refine (HW.out _ (aD _ _)).mono ?_;rintro e w1 ⟨rfl,ok⟩;have HO1:=aB (aA (aD _ _) ok);clear ok)
   go_ret2;exact ⟨rfl,HO1.out⟩
 · rw [hwb] at HW
   go_enter Tryz.func76,Tryz.ntmps76
   go_wp2_with (go_at_call 128;refine (HW.out _ (aD _ _)).mono ?_;rintro e w1 ⟨rfl,ok⟩;have HO1:=aB (aA (aD _ _) ok);clear ok)
   go_ret2;exact ⟨rfl,HO1.out⟩
end Go.Proofs.YtlmpiohbmlddiaaGreatDoor
