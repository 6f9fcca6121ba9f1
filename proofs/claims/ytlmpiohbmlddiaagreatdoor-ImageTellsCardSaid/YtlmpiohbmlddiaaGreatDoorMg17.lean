/- In1: their declarations that are needed, laid in one text, remarks and blanks left out. -/
import Derived.Test.YtlmpiohbmlddiaaGreatDoorMg14
import Derived.Test.YtlmpiohbmlddiaaGreatDoorMg16
namespace Go.Proofs.YtlmpiohbmlddiaaGreatDoor
open Go.Shelf Go.RowKit Go.Lib Go.Sort
set_option maxRecDepth 100000
def lsN (L:List Dr) (i:Nat):ByteArray:=match L[i]? with
 |some d=>iA d.pa
 |none=>⟨#[]⟩
theorem TB {L:List Dr} {i:Nat} (h:i<L.length):lsN L i=iA L[i].pa:=by unfold lsN;rw [List.getElem?_eq_getElem h]
def yD (i j:Nat):Int:=if i<j then -1 else if j<i then 1 else 0
theorem VK:Ord3 yD where
 eq x y:=by unfold yD;repeat' split;all_goals omega
 anti x y:=by unfold yD;repeat' split;all_goals omega
 trans x y z h1 h2:=by
  have q:∀ {a b:Nat},yD a b<0→a<b:=fun {a b} h=>by
   unfold yD at h
   by_cases c:a<b
   · exact c
   · rw [if_neg c] at h
     split at h<;>omega
  have q1:=q h1;have q2:=q h2;unfold yD;rw [if_pos (by omega)];decide
def sJ (L:List Dr) (i j:Nat):Int:=or2 (cT (lsN L i) (lsN L j)) (yD i j)
theorem VL (L:List Dr):Ord3 (sJ L):=SV lD VK (lsN L) id fun _ _ _ h=>h
noncomputable def stB (p q:List ByteArray):Bool:=decide (0<p.length)&&eqB (p.take (p.length - 1)) q
theorem vE {p q:List ByteArray}:stB p q=true↔0<p.length∧p.take (p.length - 1)=q:=by
 unfold stB;rw [Bool.and_eq_true,decide_eq_true_iff,fY]
def paN (L:List Dr) (i:Nat):List ByteArray:=match L[i]? with
 |some d=>d.pa
 |none=>[]
theorem vF {L:List Dr} {i:Nat} (h:i<L.length):paN L i=L[i].pa:=by unfold paN;rw [List.getElem?_eq_getElem h]
noncomputable def inK (L:List Dr) (a k:Nat):List Nat:=(List.range k).filter fun i=>stB (paN L i) (paN L a)
theorem QR {L:List Dr} {a k:Nat} (h:stB (paN L k) (paN L a)=true):inK L a (k+1)=inK L a k++[k]:=by
 unfold inK;rw [List.range_succ,List.filter_append];simp [h]
theorem TC {L:List Dr} {a k:Nat} (h:stB (paN L k) (paN L a)=false):inK L a (k+1)=inK L a k:=by
 unfold inK;rw [List.range_succ,List.filter_append];simp [h]
theorem QS (L:List Dr) (a k:Nat):(inK L a k).length≤k:=by
 unfold inK;exact Nat.le_trans (List.length_filter_le _ _) (by simp)
theorem vG {L:List Dr} {a k i:Nat}:i ∈ inK L a k↔i<k∧stB (paN L i) (paN L a)=true:=by
 unfold inK;rw [List.mem_filter,List.mem_range]
def Ins (L:List Dr) (a:Nat) (ts:List Nat):Prop:=ts.Perm (inK L a L.length)∧ts.Pairwise fun i j=>sJ L i j<0
theorem Ins.mem {L:List Dr} {a:Nat} {s:List Nat} (h:Ins L a s) {i:Nat}:i ∈ s↔i<L.length∧stB (paN L i) (paN L a)=true:=(h.1.mem_iff).trans vG
def qZ (i:Nat):Value:= .int .i64 (i:Int)
def OwnIs (w:World) (B:Nat) (v:Value) (ts:List Nat):Prop:=w.ownsRow B 3 1 v ts.length (ts.map qZ)
theorem OwnIs.below {w w':World} {B:Nat} {v:Value} {ts:List Nat} (h:OwnIs w B v ts) (hb:Below w.heap.size w w'):OwnIs w' B v ts:=by
 refine ⟨h.1,?_⟩
 rcases h.2 with hn|⟨g,cap,cur,rfl,hB,hgg,r⟩
 · exact Or.inl hn
 · exact Or.inr ⟨g,cap,cur,rfl,hB,(hb.block g (Array.getElem?_eq_some_iff.1 hgg).1).trans hgg,r⟩
theorem OwnIs.base {w:World} {B B':Nat} {v:Value} {ts:List Nat} (h:OwnIs w B v ts) (hb:B'≤B):OwnIs w B' v ts:=by
 refine ⟨h.1,h.2.imp id ?_⟩;rintro ⟨g,cap,cur,e,hB,r⟩;exact ⟨g,cap,cur,e,Nat.le_trans hb hB,r⟩
theorem OwnIs.nil (w:World) (B:Nat):OwnIs w B (.slice none 0 0) []:=⟨rfl,Or.inl ⟨rfl,rfl⟩⟩
theorem OwnIs.form {w:World} {B:Nat} {v:Value} {ts:List Nat} (h:OwnIs w B v ts):∃ ad cap,v= .slice ad ts.length cap:=by
 rcases h.2 with ⟨rfl,hn⟩|⟨g,cap,cur,rfl,_⟩
 · exact ⟨none,0,by rw [hn]⟩
 · exact ⟨_,cap,rfl⟩
def RowI (w:World) (g:Nat) (ts:List Nat):Prop:=∀ j (h:j<ts.length),w.cell? ⟨g,j,none⟩=some (.int .i64 (ts[j]:Nat))∧g<w.heap.size
theorem RowI.below {w w':World} {g:Nat} {ts:List Nat} (h:RowI w g ts) (hb:Below w.heap.size w w'):RowI w' g ts:=fun j hj=>⟨(hb.cell (p:=⟨g,j,none⟩) (h j hj).2).trans (h j hj).1,Nat.lt_of_lt_of_le (h j hj).2 hb.size⟩
theorem OwnIs.rows {w:World} {B:Nat} {v:Value} {ts:List Nat} (h:OwnIs w B v ts):∃ ad cap,v= .slice ad ts.length cap∧(ts=[]∨∃ g,ad=some ⟨g,0,none⟩∧B≤g∧RowI w g ts):=by
 have h0:=h
 rcases h.2 with ⟨rfl,hn⟩|⟨g,cap,cur,rfl,hB,hg,hc,_⟩
 · exact ⟨none,0,by rw [hn],Or.inl (List.length_eq_zero_iff.1 hn)⟩
 · refine ⟨_,cap,rfl,Or.inr ⟨g,rfl,hB,fun j hj=>⟨?_,(Array.getElem?_eq_some_iff.1 hg).1⟩⟩⟩
   have:=World.ownsRow.cellAt h0 j (by omega)
   rw [this];simp [hj,qZ]
def TD (w:World) (g i x:Nat):Prop:=w.cell? ⟨g,i,none⟩=some (.int .i64 (x:Nat))∧g<w.heap.size
theorem NO (g i x:Nat):KeepP fun w1=>TD w1 g i x:=fun _ _ h hb=>⟨(hb.cell (p:=⟨g,i,none⟩) h.2).trans h.1,Nat.lt_of_lt_of_le h.2 hb.size⟩
def jI (L:List Dr):List Nat→Nat→Nat
 |[],_=>0
 |j::r,i=>if 0<cT (lsN L j) (lsN L i) then 0 else jI L r i+1
def mK (L:List Dr) (ts:List Nat) (i:Nat):List Nat:=ts.take (jI L ts i)++i::ts.drop (jI L ts i)
theorem FO (L:List Dr):∀ (ts:List Nat) (i:Nat),jI L ts i≤ts.length
 |[],_=>Nat.le_refl _
 |j::r,i=>by
  have:=FO L r i
  unfold jI
  split
  · exact Nat.zero_le _
  · rw [List.length_cons];omega
theorem lI {L:List Dr}:∀ {ts:List Nat} {i k:Nat} (hk:k<ts.length),k<jI L ts i→¬ 0<cT (lsN L ts[k]) (lsN L i)
 |[],_,_,hk,_=>by cases hk
 |j::r,i,k,hk,h=>by
  unfold jI at h
  by_cases hy:0<cT (lsN L j) (lsN L i)
  · rw [if_pos hy] at h
    omega
  · rw [if_neg hy] at h
    cases k with
    |zero=>exact hy
    |succ k=>
     rw [List.getElem_cons_succ];exact lI (by simpa using hk) (by omega)
theorem vH {L:List Dr}:∀ {ts:List Nat} {i k:Nat} (hk:k<ts.length),k=jI L ts i→0<cT (lsN L ts[k]) (lsN L i)
 |[],_,_,hk,_=>by cases hk
 |j::r,i,k,hk,h=>by
  unfold jI at h
  by_cases hy:0<cT (lsN L j) (lsN L i)
  · rw [if_pos hy] at h
    subst h;exact hy
  · rw [if_neg hy] at h
    subst h;rw [List.getElem_cons_succ];exact vH (by simpa using hk) rfl
theorem JM (L:List Dr) (ts:List Nat) (i:Nat):(mK L ts i).Perm (i::ts):=by
 unfold mK;have h:=List.perm_middle (a:=i) (l₁:=ts.take (jI L ts i)) (l₂:=ts.drop (jI L ts i));rw [List.take_append_drop] at h;exact h
theorem yE {L:List Dr} {ts:List Nat} {i:Nat} (hs:ts.Pairwise fun x y=>sJ L x y<0) (hi:∀ x ∈ ts,x<i):(mK L ts i).Pairwise fun x y=>sJ L x y<0:=by
 have hah:∀ x ∈ ts.take (jI L ts i),sJ L x i<0:=fun x hx=>by
  obtain ⟨k,hk,rfl⟩:=List.getElem_of_mem hx;rw [List.length_take] at hk;rw [List.getElem_take];have q:=lI (L:=L) (ts:=ts) (i:=i) (k:=k) (by omega) (by omega);have h2:=hi ts[k] (List.getElem_mem _);unfold sJ;rw [qJ]
  rcases Int.lt_trichotomy (cT (lsN L ts[k]) (lsN L i)) 0 with r|r|r
  · exact Or.inl r
  · exact Or.inr ⟨r,by unfold yD;rw [if_pos h2];decide⟩
  · exact absurd r q
 have hbe:∀ y ∈ ts.drop (jI L ts i),sJ L i y<0:=fun y hy=>by
  obtain ⟨k,hk,rfl⟩:=List.getElem_of_mem hy;rw [List.length_drop] at hk;rw [List.getElem_drop];have h0:=vH (L:=L) (ts:=ts) (i:=i) (k:=jI L ts i) (by omega) rfl;have hlt:cT (lsN L i) (lsN L ts[jI L ts i])<0:=(lD.anti _ _).2 h0;unfold sJ;rw [qJ]
  by_cases e:k=0
  · subst e
    exact Or.inl hlt
  · have hp:=List.pairwise_iff_getElem.1 hs (jI L ts i) (jI L ts i+k) (by omega) (by omega) (by omega)
    unfold sJ at hp;rw [qJ] at hp
    rcases hp with r|⟨r,_⟩
    · exact Or.inl (lD.trans _ _ _ hlt r)
    · rw [lD.eq] at r
      rw [←r];exact Or.inl hlt
 unfold mK;rw [List.pairwise_append];refine ⟨hs.sublist (List.take_sublist _ _),List.pairwise_cons.2 ⟨hbe,hs.sublist (List.drop_sublist _ _)⟩,fun x hx y hy=> ?_⟩
 rcases List.mem_cons.1 hy with rfl|hy
 · exact hah x hx
 · exact (VL L).trans _ _ _ (hah x hx) (hbe y hy)
def InsK (L:List Dr) (a k:Nat) (ts:List Nat):Prop:=ts.Perm (inK L a k)∧ts.Pairwise fun i j=>sJ L i j<0
theorem InsK.start (L:List Dr) (a:Nat):InsK L a 0 []:=⟨by unfold inK;exact List.Perm.refl _,List.Pairwise.nil⟩
theorem InsK.no {L:List Dr} {a k:Nat} {ts:List Nat} (h:InsK L a k ts) (hs:stB (paN L k) (paN L a)=false):InsK L a (k+1) ts:=⟨by rw [TC hs];exact h.1,h.2⟩
theorem InsK.yes {L:List Dr} {a k:Nat} {ts:List Nat} (h:InsK L a k ts) (hs:stB (paN L k) (paN L a)=true):InsK L a (k+1) (mK L ts k):=by
 refine ⟨?_,yE h.2 fun x hx=>(vG.1 (h.1.mem_iff.1 hx)).1⟩;rw [QR hs];exact (JM L ts k).trans ((List.Perm.cons k h.1).trans (List.perm_append_singleton k _).symm)
theorem InsK.mem {L:List Dr} {a k:Nat} {ts:List Nat} (h:InsK L a k ts) {i:Nat}:i ∈ ts↔i<k∧stB (paN L i) (paN L a)=true:=(h.1.mem_iff).trans vG
theorem InsK.len {L:List Dr} {a k:Nat} {ts:List Nat} (h:InsK L a k ts):ts.length≤k:=by rw [h.1.length_eq];exact QS _ _ _
theorem NP {p q:List ByteArray} (h:stB p q=true):p.length=q.length+1:=by
 obtain ⟨h1,h2⟩:=vE.1 h
 have:=congrArg List.length h2
 rw [List.length_take] at this;omega
theorem TE {p q:List ByteArray} (h:p.length=q.length+1):stB p q=eqB (p.take q.length) q:=by
 unfold stB;rw [decide_eq_true (by omega),Bool.true_and,show p.length - 1=q.length by omega]
theorem NQ {p q:List ByteArray} (h:p.length≠q.length+1):stB p q=false:=by
 cases e:stB p q
 · rfl
 · exact absurd (NP e) h
theorem FP {L:List Dr} {i n:Nat} (hi:i<L.length) (h:L[i].pa.length=n+1):L[i].pa[n]'(by omega)=lsN L i:=by
 rw [TB hi,qE (by omega)]
 congr 1
 omega
theorem fU {B:Nat} {wx:World} {v:Value} {ts us:List Nat} {ad:Option Addr} {c:Nat} {ops:Array Oper} {rest:List Oper} {o:Oper} {f:Act} {Q:Exit→Act→World→Prop}
 (hgd:o.guard=none) (s t:Operand) (ho:o.op= .call { callee:= .builtin .append,args:= #[s,t],argTypes:= #[81,81] }) (hs:f.eval s=v)
 (hown:OwnIs wx B v ts) (hB:B≤wx.heap.size) (hx:f.eval t= .slice ad us.length c) (hc:(us=[]∧ad=none)∨∃ g off,ad=some ⟨g,off,none⟩∧∀ j u,(us.map qZ)[j]? =some u→wx.cell? ((⟨g,off,none⟩:Addr).add j)=some u) (hb:ts.length+us.length≤1000000000001)
 (h:∀ v1 w1,OwnIs w1 B v1 (ts++us)→wx.grownBy w1 v.ownBlock→wpList Tryz.prog ops Q rest (f.put o.dst v1) w1):
 wpList Tryz.prog ops Q (o::rest) f wx:=by
 obtain ⟨i0,hi,hz0,hz1,hz2⟩:=Sc.bW NI
 rcases hc with ⟨rfl,rfl⟩|⟨g,off,rfl,hcell⟩
 · have h1:=h v wx (by rw [List.append_nil];exact hown) ⟨rfl,rfl,rfl,Nat.le_refl _,fun _ _ _=>rfl⟩
   refine wpList_plain hgd fun K hK=> ?_
   obtain ⟨base,cap,hv,hnc⟩:∃ base cap,v= .slice base ts.length cap∧ts.length≤cap:=by
    rcases hown.2 with ⟨rfl,hn⟩|⟨g,cap,cur,rfl,_,_,hc,_⟩
    · exact ⟨none,0,by rw [hn],by omega⟩
    · exact ⟨_,cap,rfl,hc⟩
   subst hv
   have hr:(Builtin.append_ #[81,81] o.type #[.slice base ts.length cap,.slice none 0 c]).run Tryz.prog wx= .ok (.slice base ts.length cap) wx:=by
    cases base<;>simp [Builtin.append_,run_underlying Tryz.underlying81,sizeOf,typeInfo,hi,Builtin.lenOf,hnc,Builtin.firstCells,loadCells,storeCells]
   unfold Oper.wp execOp;rw [List.length_nil] at hx;simp only [ho,resolve,invoke,builtin,Sem.run_bind,Sem.run_pure,Result.andThen_ok,List.map_toArray,List.map_cons,List.map_nil,hs,hx,hr];exact hK _ _ h1
 · refine wpList_append_own_wide _ hgd s t 81 ho B 3 i0 _ 1 8 Tryz.underlying81 hi hz0 hz1 hz2 rfl (by decide) v ts.length (ts.map qZ) hs hown ⟨g,off,none⟩ us.length c (us.map qZ) hx (by simp) hcell (fun u hu=>by obtain ⟨y,_,rfl⟩:=List.mem_map.1 hu;rfl) (by unfold maxLen;omega) (by omega) hB ?_
   intro v1 w1 h1 h2 _;refine h v1 w1 ?_ h2;unfold OwnIs;rw [List.length_append,List.map_append];exact h1
theorem NR:∀ a b:List UInt8,Op.bytesLess a b=bytesBefore a b
 |[],[]=>rfl
 |[],_::_=>rfl
 |_::_,[]=>rfl
 |a::r,b::s=>by unfold Op.bytesLess bytesBefore;rw [NR r s]
theorem OwnIs.formN {w:World} {B:Nat} {v:Value} {ts:List Nat} (h:OwnIs w B v ts) {n:Nat} (hn:ts.length=n):∃ ad cap,v= .slice ad n cap:=by
 subst hn;exact h.form
theorem TF (s t:ByteArray):(Op.bytesLess s.toList t.toList||s.toList==t.toList)=decide (¬ 0<cT s t):=by
 have e1:Op.bytesLess s.toList t.toList=bytesBefore s.data.toList t.data.toList:=by rw [NR,ByteArray.toList_eq,ByteArray.toList_eq]
 rw [e1]
 rcases Int.lt_trichotomy (cT s t) 0 with r|r|r
 · have:bytesBefore s.data.toList t.data.toList=true:=(eY _ _).1 r
   rw [this,decide_eq_true (by omega)];rfl
 · have e:s=t:=(lD.eq _ _).1 r
   rw [decide_eq_true (by omega),e]
   simp
 · have h1:bytesBefore s.data.toList t.data.toList=false:=by
    rw [Bool.eq_false_iff];intro q
    have:cT s t<0:=(eY _ _).2 q
    omega
   have h2:(s.toList==t.toList)=false:=by
    rw [beq_eq_false_iff_ne];intro e
    have:cT s t=0:=(lD.eq _ _).2 (bB e)
    omega
   rw [h1,h2,decide_eq_false (by omega)];rfl
set_option maxHeartbeats 6400000 in
theorem CU {L:List Dr} {v:Value} {w:World} (h:DirsAt w v L) (hz:L.length≤1000000000000) (hf:FitP1 L) {a:Nat} (ha:a<L.length):
 Calls Tryz.prog 32 #[.agg #[v],.int .i64 a] w fun e w'=>∃ v' ts,e= .returned v'∧OwnIs w' w.heap.size v' ts∧Ins L a ts∧Below w.heap.size w w':=by
 obtain ⟨ad,cap,rfl,hc,hsl⟩:=h.sl;obtain ⟨g,o,rfl,ua,a1,a2,a3,hda⟩:=hsl a ha;have HBX:Hid (∀ w1,Below (w.alloc (.cells #[.slice (some ⟨g,o,none⟩) L.length cap] 30)).heap.size (w.alloc (.cells #[.slice (some ⟨g,o,none⟩) L.length cap] 30)) w1→BxT w1 w.heap.size (.slice (some ⟨g,o,none⟩) L.length cap)):=fun w1 hb=>bI _ _ _ _ (BxT.new _ _) hb
 have HDK:Hid (∀ w1,Below (w.alloc (.cells #[.slice (some ⟨g,o,none⟩) L.length cap] 30)).heap.size (w.alloc (.cells #[.slice (some ⟨g,o,none⟩) L.length cap] 30)) w1→∀ k (hk:k<L.length),∃ u v1 v2 v3,DrIn w1 g (o+k*9) L[k] u v1 v2 v3):=fun w1 hb k hk=>by
  obtain ⟨g2,o2,e2,u,v1,v2,v3,hd⟩:=hsl k hk;cases e2;exact ⟨u,v1,v2,v3,(hd.below (aF _ _)).below hb⟩
 have HDA:Hid (∀ w1,Below (w.alloc (.cells #[.slice (some ⟨g,o,none⟩) L.length cap] 30)).heap.size (w.alloc (.cells #[.slice (some ⟨g,o,none⟩) L.length cap] 30)) w1→DrIn w1 g (o+a*9) L[a] ua a1 a2 a3):=fun w1 hb=>(hda.below (aF _ _)).below hb
 have HB0:Hid (Below w.heap.size w (w.alloc (.cells #[.slice (some ⟨g,o,none⟩) L.length cap] 30))):=aF _ _;have hs0:(w.alloc (.cells #[.slice (some ⟨g,o,none⟩) L.length cap] 30)).heap.size=w.heap.size+1:=by simp
 have HFP:Hid (∀ k (hk:k<L.length),L[k].pa.length*16≤140737488355328):=fun k hk=>hf _ (List.getElem_mem hk)
 obtain ⟨qa,qc,rfl⟩:=hda.2.1.1.sl;have hai:(a:Int)<L.length:=by omega
 have ha0:decide ((a:Int)<0)=false:=decide_eq_false (by omega);have ha1:decide ((L.length:Int)≤(a:Int))=false:=decide_eq_false (by omega);have ha2:decide (L.length≤a)=false:=decide_eq_false (by omega);have HPA:Hid (paN L a=L[a].pa):=vF ha;have hna:L[a].pa.length*16≤140737488355328:=HFP.out a ha;have hka:Hid (BxT (w.alloc (.cells #[.slice (some ⟨g,o,none⟩) L.length cap] 30)) w.heap.size (.slice (some ⟨g,o,none⟩) L.length cap)∧DrIn (w.alloc (.cells #[.slice (some ⟨g,o,none⟩) L.length cap] 30)) g (o+a*9) L[a] (.slice qa L[a].pa.length qc) a1 a2 a3):=⟨BxT.new _ _,hda.below (aF _ _)⟩;clear h hsl hda hf;generalize hW0:w.alloc (.cells #[.slice (some ⟨g,o,none⟩) L.length cap] 30)=W0 at*;obtain ⟨⟨bz0,bz1⟩,⟨dz0,_⟩,_,dz9⟩:=hka.out
 go_enter Tryz.func32,Tryz.ntmps32
 go_wp2_with fail
 clear bz0 bz1 dz0 dz9 hka hW0
 go_loopw [6,7] (fun vl vi wr=>∃ (k:Nat) (ts:List Nat),k≤L.length∧vi= .int .i64 k∧OwnIs wr (w.heap.size+1) vl ts∧InsK L a k ts∧Below W0.heap.size W0 wr) (fun _ vi _=>L.length - (intOf vi).toNat)
 case atStart=>exact ⟨0,[],Nat.zero_le _,rfl,OwnIs.nil _ _,InsK.start L a,Below.refl _ _⟩
 case round=>
  obtain ⟨k,ts,hk,rfl,ho,hins,hb⟩:=hrel;have HO1:=aA ho;have HIK:=aA hins;have HB:=aA hb;obtain ⟨la,lc,rfl⟩:=ho.form;obtain ⟨b0,b1⟩:=HBX.out wr hb;clear ho
  by_cases hlt:k<L.length
  · obtain ⟨u,v1,v2,v3,hdk⟩:=HDK.out wr hb k hlt
    have hda:=HDA.out wr hb;have hlk:=HFP.out k hlt;have hki:(k:Int)<L.length:=by omega
    obtain ⟨pa,pc,rfl,hpc,hpel⟩:=hdk.2.1.1.el
    by_cases hlen:L[k].pa.length=L[a].pa.length+1
    · rw [hlen] at hdk hpc hlk
      have HST:Hid (∀ w1,Below wr.heap.size wr w1→Calls Tryz.prog 47 #[.slice pa L[a].pa.length pc,.slice qa L[a].pa.length qc] w1 fun e w'=>e= .returned (.bool (stB (paN L k) (paN L a)))∧Below w1.heap.size w1 w'):=fun w1 h1=>by
       rw [HPA.out,vF hlt,TE hlen];exact tH ((hdk.2.1.1.cut (k:=L[a].pa.length) (by omega)).below h1) (hda.2.1.1.below h1) (by rw [List.length_take];omega)
      have hnc:L[a].pa.length≤pc:=by omega
      have hnci:(L[a].pa.length:Int)≤pc:=by omega
      have HK:Hid (KeepP fun w1=>(Below wr.heap.size wr w1∧BxT w1 w.heap.size (.slice (some ⟨g,o,none⟩) L.length cap))∧DrIn w1 g (o+k*9) L[k] (.slice pa (L[a].pa.length+1) pc) v1 v2 v3∧DrIn w1 g (o+a*9) L[a] (.slice qa L[a].pa.length qc) a1 a2 a3):=((aD wr).and (bI _ _)).and ((gQ _ _ _ _ _ _ _).and (gQ _ _ _ _ _ _ _));have HO:Hid ((Below wr.heap.size wr wr∧BxT wr w.heap.size (.slice (some ⟨g,o,none⟩) L.length cap))∧DrIn wr g (o+k*9) L[k] (.slice pa (L[a].pa.length+1) pc) v1 v2 v3∧DrIn wr g (o+a*9) L[a] (.slice qa L[a].pa.length qc) a1 a2 a3):=⟨⟨Below.refl _ _,b0,b1⟩,hdk,hda⟩;have HNO:=aA (fun q=>HIK.out.no q);have HYE:=aA (fun q=>HIK.out.yes q);obtain ⟨gk,okk,hpa,hpst⟩:=hpel L[a].pa.length (by omega)
      have HKL:Hid (∀ w1,Below wr.heap.size wr w1→StIn w1 gk (okk+L[a].pa.length) (lsN L k)):=fun w1 h1=>by
       have q:=hpst.below h1;rw [FP hlt hlen] at q;exact q
      have hmk:ts.length≤k:=hins.len
      have HJL:Hid (∀ w1,Below wr.heap.size wr w1→∀ m (hm:m<ts.length),∃ D xa xc x1 x2 x3 gj oj,DrIn w1 g (o+ts[m]*9) D (.slice xa (L[a].pa.length+1) xc) x1 x2 x3∧xa=some ⟨gj,oj,none⟩∧StIn w1 gj (oj+L[a].pa.length) (lsN L ts[m])):=fun w1 h1 m hm=>by
       have hq:=hins.mem.1 (List.getElem_mem hm);have hjl:ts[m]<L.length:=by omega
       obtain ⟨xu,x1,x2,x3,hdj⟩:=HDK.out wr HB.out ts[m] hjl
       have hjn:L[ts[m]].pa.length=L[a].pa.length+1:=by
        have q:=NP hq.2;rw [vF hjl,HPA.out] at q;exact q
       obtain ⟨xa,xc,rfl,_,hxel⟩:=hdj.2.1.1.el;obtain ⟨gj,oj,e,hst⟩:=hxel L[a].pa.length (by omega);rw [hjn] at hdj;have q:=hst.below h1;rw [FP hjl hjn] at q;exact ⟨_,xa,xc,x1,x2,x3,gj,oj,hdj.below h1,e,q⟩
      obtain ⟨pos,hpos⟩:∃ q,q=jI L ts k:=⟨_,rfl⟩;have hple:pos≤ts.length:=hpos ▸ FO L ts k;have HPH:Hid (∀ m (hm:m<ts.length),m<pos→¬ 0<cT (lsN L ts[m]) (lsN L k)):=fun m hm q=>lI hm (hpos ▸ q)
      have HPE:Hid (∀ m (hm:m<ts.length),m=pos→0<cT (lsN L ts[m]) (lsN L k)):=fun m hm q=>vH hm (q.trans hpos)
      have HII:Hid (ts.take pos++[k]++ts.drop pos=mK L ts k):=by
       unfold Hid mK;rw [←hpos,List.append_assoc];rfl
      have HLE:=aA hmk;have HTL:Hid (∀ m (hm:m<ts.length),ts[m]<L.length):=fun m hm=>by have q:=(hins.mem.1 (List.getElem_mem hm)).1;omega
      have hws:w.heap.size+1≤wr.heap.size:=by have q:=HB.out.size;omega
      clear hpos hdk hda b0 b1 hins hb hpst hpel hpc;subst hpa;cases hst:stB (paN L k) (paN L a)
      · have HR:=aA (HNO.out hst)
        rw [hst] at HST;clear HNO HYE hst;obtain ⟨⟨_,b0,b1⟩,⟨⟨p0,_⟩,_,p9⟩,_⟩:=HO.out
        go_wp2_with fail
        clear b0 b1 p0 p9;refine aM HK (by kernel_rfl) (by kernel_rfl) (by first|exact HO.out|exact HK.out.drew HO.out) ?_;intro C HIN HOUT;clear HO
        repeat
         (with_reducible refine wpQuiet_step (fun K hK=> ?_)
          go_simp
          first
           |(refine hK _ ?_;clear hK K)
           |(apply Exists.intro;refine ⟨fun w1 hC=> ?_,hK _ ?_⟩;(focus ((first|(go_at_call 47;with_reducible exact aW HIN HOUT HK (fun w1 hk=>HST.out w1 hk.1.1) w1 hC)|(exact rfl)|(obtain ⟨⟨hb1,b0,b1⟩,⟨⟨p0,_⟩,_,p9⟩,⟨⟨q0,_⟩,_,q9⟩⟩:=HOUT.out w1 hC;clear hC;go_simp;first|done|exact rfl));done));clear hK K))
        refine wpQuiet_nil ?_;intro wn hC;have HO:=aA (HOUT.out _ hC);clear hC HIN HOUT C;obtain ⟨⟨hb1,b0,b1⟩,⟨⟨p0,_⟩,_,p9⟩,⟨⟨q0,_⟩,_,q9⟩⟩:=HO.out
        go_wp2
        exact ⟨⟨k+1,ts,by omega,by go_num,HO1.out.below HO.out.1.1,HR.out,aB HB.out HO.out.1.1⟩,by simp [intOf];omega⟩
      · have HR:=aA (HYE.out hst)
        rw [hst] at HST;clear HNO HYE hst;obtain ⟨⟨_,b0,b1⟩,⟨⟨p0,_⟩,_,p9⟩,_⟩:=HO.out
        go_wp2_with fail
        clear b0 b1 p0 p9;refine aM HK (by kernel_rfl) (by kernel_rfl) (by first|exact HO.out|exact HK.out.drew HO.out) ?_;intro C HIN HOUT;clear HO
        repeat
         (with_reducible refine wpQuiet_step (fun K hK=> ?_)
          go_simp
          first
           |(refine hK _ ?_;clear hK K)
           |(apply Exists.intro;refine ⟨fun w1 hC=> ?_,hK _ ?_⟩;(focus ((first|(go_at_call 47;with_reducible exact aW HIN HOUT HK (fun w1 hk=>HST.out w1 hk.1.1) w1 hC)|(exact rfl)|(obtain ⟨⟨hb1,b0,b1⟩,⟨⟨p0,_⟩,_,p9⟩,⟨⟨q0,_⟩,_,q9⟩⟩:=HOUT.out w1 hC;clear hC;go_simp;first|done|exact rfl));done));clear hK K))
        refine wpQuiet_nil ?_;intro wn hC;have HO:=aA (HOUT.out _ hC);clear hC HIN HOUT C;obtain ⟨⟨hb1,b0,b1⟩,⟨⟨p0,_⟩,_,p9⟩,⟨⟨q0,_⟩,_,q9⟩⟩:=HO.out;have HBN:=aA hb1;clear b0 b1 p0 p9 q0 q9 hb1 HO HK;obtain ⟨wa,rfl⟩:∃ x,x=wr:=⟨wr,rfl⟩
        go_wp2_with fail
        go_loopw [10] (fun vm wr=>∃ m:Nat,m≤pos∧vm= .int .i64 m∧Below wa.heap.size wa wr) (fun vm _=>ts.length - (intOf vm).toNat)
        case atStart=>exact ⟨0,Nat.zero_le _,rfl,HBN.out⟩
        case round=>
         obtain ⟨m,hmp,rfl,hbq⟩:=hrel;have HBQ:=aA hbq;have hbx:=HBX.out wr (aB HB.out hbq);have HOQ:=aA (HO1.out.below hbq)
         by_cases hmt:m<ts.length
         · obtain ⟨g2,hla,hg2,hrow,hcap⟩:∃ g2,la=some ⟨g2,0,none⟩∧w.heap.size+1≤g2∧RowI wr g2 ts∧ts.length≤lc:=by
            rcases HOQ.out.2 with ⟨e,hn⟩|⟨gg,cp,cur,e,hB,hg,hcp,_⟩
            · rw [hn] at hmt;cases hmt
            · injection e with e1 e2 e3
              subst e3
              rcases HOQ.out.rows with ⟨ad2,c2,e2,rfl|⟨g3,h3,h4,h5⟩⟩
              · cases hmt
              · injection e2 with q1 q2 q3
                exact ⟨g3,q1.trans h3,h4,h5,hcp⟩
           subst hla;have c0:=(hrow m hmt).1;have cg:=(hrow m hmt).2;obtain ⟨D,xa,xc,x1,x2,x3,gj,oj,hdj,rfl,hst⟩:=HJL.out wr hbq m hmt;have hkl:=HKL.out wr hbq;have hjl:=HTL.out m hmt;have HRW:=aA hrow;have hmi:(m:Int)<ts.length:=by omega
           have hdm:decide ((m:Int)<(ts.length:Int))=true:=decide_eq_true hmi;have hdm2:decide (m<ts.length)=true:=decide_eq_true hmt;have hxc:(L[a].pa.length:Int)<(L[a].pa.length:Int)+1:=by omega
           have HLQ:=aA (TF (lsN L ts[m]) (lsN L k));have HP1:=aA (HPH.out m hmt);have HP2:=aA (HPE.out m hmt);generalize ts[m]=x at*;generalize lsN L x=sx at*;generalize lsN L k=sk at*;have hji:(x:Int)<L.length:=by omega
           have HK:Hid (KeepP fun w9=>Below wr.heap.size wr w9∧(BxT w9 w.heap.size (.slice (some ⟨g,o,none⟩) L.length cap)∧TD w9 g2 m x)∧DrIn w9 g (o+x*9) D (.slice (some ⟨gj,oj,none⟩) (L[a].pa.length+1) xc) x1 x2 x3∧StIn w9 gj (oj+L[a].pa.length) sx∧StIn w9 gk (okk+L[a].pa.length) sk):=(aD wr).and (((bI _ _).and (NO _ _ _)).and ((gQ _ _ _ _ _ _ _).and ((dU _ _ _).and (dU _ _ _))));have HO:Hid (Below wr.heap.size wr wr∧(BxT wr w.heap.size (.slice (some ⟨g,o,none⟩) L.length cap)∧TD wr g2 m x)∧DrIn wr g (o+x*9) D (.slice (some ⟨gj,oj,none⟩) (L[a].pa.length+1) xc) x1 x2 x3∧StIn wr gj (oj+L[a].pa.length) sx∧StIn wr gk (okk+L[a].pa.length) sk):=⟨Below.refl _ _,⟨hbx,c0,cg⟩,hdj,hst,hkl⟩;clear hbx c0 cg hdj hst hkl hrow hbq
           by_cases hmlt:m<pos
           · have hle:(Op.bytesLess sx.toList sk.toList||sx.toList==sk.toList)=true:=HLQ.out.trans (decide_eq_true (by have q:=HP1.out hmlt;omega))
             clear HLQ HP1 HP2
             go_wp2_with fail
             refine aM HK (by kernel_rfl) (by kernel_rfl) (by first|exact HO.out|exact HK.out.drew HO.out) ?_;intro C HIN HOUT;clear HO
             repeat
              (with_reducible refine wpQuiet_step (fun K hK=> ?_)
               go_simp
               first
                |(refine hK _ ?_;clear hK K)
                |(apply Exists.intro;refine ⟨fun w1 hC=> ?_,hK _ ?_⟩;(focus ((first|(exact rfl)|(obtain ⟨hb1,⟨⟨b0,b1⟩,c0,c1⟩,⟨⟨p0,_⟩,_,p9⟩,⟨s0,s1⟩,⟨t0,t1⟩⟩:=HOUT.out w1 hC;clear hC;go_simp;first|done|exact rfl));done));clear hK K))
             refine wpQuiet_nil ?_;intro wz hC;have HO:=aA (HOUT.out _ hC);clear hC HIN HOUT C;obtain ⟨hb1,⟨⟨b0,b1⟩,c0,c1⟩,⟨⟨p0,_⟩,_,p9⟩,⟨s0,s1⟩,⟨t0,t1⟩⟩:=HO.out
             go_wp2
             exact ⟨⟨m+1,by omega,by go_num,aB HBQ.out HO.out.1⟩,by simp [intOf];omega⟩
           · obtain rfl:m=pos:=by omega
             have hle:(Op.bytesLess sx.toList sk.toList||sx.toList==sk.toList)=false:=HLQ.out.trans (decide_eq_false (by have q:=HP2.out rfl;omega));clear HLQ HP1 HP2
             go_wp2_with fail
             refine aM HK (by kernel_rfl) (by kernel_rfl) (by first|exact HO.out|exact HK.out.drew HO.out) ?_;intro C HIN HOUT;clear HO
             repeat
              (with_reducible refine wpQuiet_step (fun K hK=> ?_)
               go_simp
               first
                |(refine hK _ ?_;clear hK K)
                |(apply Exists.intro;refine ⟨fun w1 hC=> ?_,hK _ ?_⟩;(focus ((first|(exact rfl)|(obtain ⟨hb1,⟨⟨b0,b1⟩,c0,c1⟩,⟨⟨p0,_⟩,_,p9⟩,⟨s0,s1⟩,⟨t0,t1⟩⟩:=HOUT.out w1 hC;clear hC;go_simp;first|done|exact rfl));done));clear hK K))
             refine wpQuiet_nil ?_;intro wz hC;have HO:=aA (HOUT.out _ hC);clear hC HIN HOUT C;obtain ⟨hb1,⟨⟨b0,b1⟩,c0,c1⟩,⟨⟨p0,_⟩,_,p9⟩,⟨s0,s1⟩,⟨t0,t1⟩⟩:=HO.out;have HBZ:=aA (aB HBQ.out hb1);have HRZ:=aA (HRW.out.below hb1);clear b0 b1 c0 c1 p0 p9 s0 s1 t0 t1 hb1 HO HK hle;have hl1:(ts.take m).length=m:=by rw [List.length_take];omega
             have hl3:(ts.drop m).length=ts.length - m:=List.length_drop
             have HN1:Hid (∀ j u,((ts.take m).map qZ)[j]? =some u→wz.cell? ((⟨g2,0,none⟩:Addr).add j)=some u):=fun j u hj=>by
              have hjl:j<m:=by have q:=(List.getElem?_eq_some_iff.1 hj).1;rw [List.length_map,hl1] at q;exact q
              rw [List.getElem?_map,List.getElem?_take_of_lt hjl,List.getElem?_eq_getElem (by omega)] at hj;rw [jH,Nat.zero_add,(HRZ.out j (by omega)).1,←hj];rfl
             have HN3:Hid (∀ w6,Below wz.heap.size wz w6→∀ j u,((ts.drop m).map qZ)[j]? =some u→w6.cell? ((⟨g2,m,none⟩:Addr).add j)=some u):=fun w6 h6 j u hj=>by
              have hjl:j<ts.length - m:=by have q:=(List.getElem?_eq_some_iff.1 hj).1;rw [List.length_map,hl3] at q;exact q
              rw [List.getElem?_map,List.getElem?_drop,List.getElem?_eq_getElem (by omega)] at hj;have q:=HRZ.out (m+j) (by omega);rw [jH,(h6.cell (p:=⟨g2,m+j,none⟩) q.2).trans q.1,←hj];rfl
             have hcm:m≤lc:=by omega
             have hcmi:(m:Int)≤lc:=by omega
             have hmti:(m:Int)≤ts.length:=by omega
             have hcne:¬ lc=m:=by omega
             have HE1:Hid (Value.slice (some ⟨g2,0,none⟩) m lc= .slice (some ⟨g2,0,none⟩) (ts.take m).length lc):=by unfold Hid;rw [hl1]
             have HE3:Hid (Value.slice (some ⟨g2,m,none⟩) (ts.length - m) (lc - m)= .slice (some ⟨g2,m,none⟩) (ts.drop m).length (lc - m)):=by unfold Hid;rw [hl3]
             have hq1:([]:List Nat).length+((ts.take m):List Nat).length≤1000000000001:=by have q:=HLE.out;simp;try omega
             have hq2:((ts.take m):List Nat).length+[k].length≤1000000000001:=by have q:=HLE.out;simp;try omega
             have hq3:(((ts.take m):List Nat)++[k]).length+((ts.drop m):List Nat).length≤1000000000001:=by have q:=HLE.out;simp;try omega
             have hq4:wz.heap.size≤wz.heap.size:=Nat.le_refl _;have hn1:(([]:List Nat)++((ts.take m):List Nat)).length=m:=by simp;try omega
             have hn2:(((ts.take m):List Nat)++[k]).length=m+1:=by simp;try omega
             have tok1:True:=trivial
             go_wp2_with (first
              |(have _t:=tok3;at_builtin;refine fU (B:=wz.heap.size) (us:=(ts.drop m)) (ts:=(ts.take m)++[k]) rfl _ _ rfl rfl HO6.out HB56.out.size HE3.out (Or.inr ⟨g2,m,rfl,HN3.out w6 HB56.out⟩) hq3 ?_;intro v7 w7 ho7 hg7;have HO7:=aA ho7;have HB7:Hid (Below wz.heap.size wz w7):=HB56.out.grown hg7 HB56.out.size (fun q hq=>(World.ownsRow.lt HO6.out q hq).1);clear ho7 hg7 tok3)
              |(have _t:=tok2;at_builtin;refine fU (B:=wz.heap.size) (us:=[k]) (ts:=(ts.take m)) rfl _ _ rfl rfl (HO5.out.below (aF _ _)) HS5.out rfl (Or.inr ⟨w5.heap.size,0,rfl,cell_one_new _ _ _⟩) hq2 ?_;intro v6 w6 ho6 hg6;have HO6:=aA ho6;have HB56:Hid (Below wz.heap.size wz w6):=((HB5.out.alloc (by have q:=HB5.out.size;omega) _)).grown hg6 HS5.out (fun q hq=>(World.ownsRow.lt HO5.out q hq).1);obtain ⟨b6,c6,rfl⟩:=ho6.formN (n:=m+1) hn2;have tok3:True:=trivial;clear ho6 hg6 tok2)
              |(have _t:=tok1;at_builtin;refine fU (B:=wz.heap.size) (us:=(ts.take m)) (ts:=[]) rfl _ _ rfl rfl (OwnIs.nil _ _) hq4 HE1.out (Or.inr ⟨g2,0,rfl,HN1.out⟩) hq1 ?_;intro v5 w5 ho5 hg5;have HO5:=aA ho5;have HB5:Hid (Below wz.heap.size wz w5):=(Below.refl _ _).grown hg5 (Nat.le_refl _) (fun q hq=>by cases hq);have HS5:Hid (wz.heap.size≤(w5.alloc (.cells #[.int .i64 (k:Int)] 3)).heap.size):=(by have q:=HB5.out.size;unfold Hid;simp;omega);obtain ⟨b5,c5,rfl⟩:=ho5.formN (n:=m) hn1;have tok2:True:=trivial;clear ho5 hg5 tok1))
             refine ⟨⟨k+1,mK L ts k,by omega,by go_num,?_,HR.out,aB HB.out (aB HBZ.out HB7.out)⟩,by simp [intOf];omega⟩;have q:=HO7.out;rw [HII.out] at q;exact q.base (by have q1:=HBZ.out.size;omega)
         · have hm1:m≤ts.length:=by omega
           have hm2:ts.length≤m:=by omega
           obtain rfl:m=pos:=by omega
           have hdm:decide ((m:Int)<(ts.length:Int))=false:=decide_eq_false (by omega);have hdm2:decide (m<ts.length)=false:=decide_eq_false (by omega);have hdm3:¬ ((m:Int)<(ts.length:Int)):=by omega
           have HK:Hid (KeepP fun w9=>Below wr.heap.size wr w9∧BxT w9 w.heap.size (.slice (some ⟨g,o,none⟩) L.length cap)):=(aD wr).and (bI _ _);have HO:Hid (Below wr.heap.size wr wr∧BxT wr w.heap.size (.slice (some ⟨g,o,none⟩) L.length cap)):=⟨Below.refl _ _,hbx⟩;clear hbx hbq
           rcases HOQ.out.2 with ⟨e,hn⟩|⟨g2,cp,cur,e,hB,hg,hcp,_⟩
           · injection e with e1 e2 e3
             subst e1;subst e3;obtain rfl:ts=[]:=List.length_eq_zero_iff.1 hn;clear hn e2;obtain rfl:m=0:=by simpa using hm1
             clear hm1 hm2 hmp hdm hdm2 hdm3 hmt;rw [List.length_nil]
             go_wp2_with fail
             refine aM HK (by kernel_rfl) (by kernel_rfl) (by first|exact HO.out|exact HK.out.drew HO.out) ?_;intro C HIN HOUT;clear HO
             repeat
              (with_reducible refine wpQuiet_step (fun K hK=> ?_)
               go_simp
               first
                |(refine hK _ ?_;clear hK K)
                |(apply Exists.intro;refine ⟨fun w1 hC=> ?_,hK _ ?_⟩;(focus ((first|(exact rfl)|(obtain ⟨hb1,b0,b1⟩:=HOUT.out w1 hC;clear hC;go_simp;first|done|exact rfl));done));clear hK K))
             refine wpQuiet_nil ?_;intro wz hC;have HO:=aA (HOUT.out _ hC);clear hC HIN HOUT C;obtain ⟨hb1,b0,b1⟩:=HO.out;have HBZ:=aA (aB HBQ.out hb1);clear b0 b1 hb1 HO HK;have hq1:([]:List Nat).length+([]:List Nat).length≤1000000000001:=by have q:=HLE.out;simp;try omega
             have hq2:([]:List Nat).length+[k].length≤1000000000001:=by have q:=HLE.out;simp;try omega
             have hq3:(([]:List Nat)++[k]).length+([]:List Nat).length≤1000000000001:=by have q:=HLE.out;simp;try omega
             have hq4:wz.heap.size≤wz.heap.size:=Nat.le_refl _;have hn1:(([]:List Nat)++([]:List Nat)).length=0:=by simp;try omega
             have hn2:(([]:List Nat)++[k]).length=0+1:=by simp;try omega
             have tok1:True:=trivial
             go_wp2_with (first
              |(have _t:=tok3;at_builtin;refine fU (B:=wz.heap.size) (us:=[]) (ts:=[]++[k]) rfl _ _ rfl rfl HO6.out HB56.out.size rfl (Or.inl ⟨rfl,rfl⟩) hq3 ?_;intro v7 w7 ho7 hg7;have HO7:=aA ho7;have HB7:Hid (Below wz.heap.size wz w7):=HB56.out.grown hg7 HB56.out.size (fun q hq=>(World.ownsRow.lt HO6.out q hq).1);clear ho7 hg7 tok3)
              |(have _t:=tok2;at_builtin;refine fU (B:=wz.heap.size) (us:=[k]) (ts:=[]) rfl _ _ rfl rfl (HO5.out.below (aF _ _)) HS5.out rfl (Or.inr ⟨w5.heap.size,0,rfl,cell_one_new _ _ _⟩) hq2 ?_;intro v6 w6 ho6 hg6;have HO6:=aA ho6;have HB56:Hid (Below wz.heap.size wz w6):=((HB5.out.alloc (by have q:=HB5.out.size;omega) _)).grown hg6 HS5.out (fun q hq=>(World.ownsRow.lt HO5.out q hq).1);obtain ⟨b6,c6,rfl⟩:=ho6.formN (n:=0+1) hn2;have tok3:True:=trivial;clear ho6 hg6 tok2)
              |(have _t:=tok1;at_builtin;refine fU (B:=wz.heap.size) (us:=[]) (ts:=[]) rfl _ _ rfl rfl (OwnIs.nil _ _) hq4 rfl (Or.inl ⟨rfl,rfl⟩) hq1 ?_;intro v5 w5 ho5 hg5;have HO5:=aA ho5;have HB5:Hid (Below wz.heap.size wz w5):=(Below.refl _ _).grown hg5 (Nat.le_refl _) (fun q hq=>by cases hq);have HS5:Hid (wz.heap.size≤(w5.alloc (.cells #[.int .i64 (k:Int)] 3)).heap.size):=(by have q:=HB5.out.size;unfold Hid;simp;omega);obtain ⟨b5,c5,rfl⟩:=ho5.formN (n:=0) hn1;have tok2:True:=trivial;clear ho5 hg5 tok1))
             refine ⟨⟨k+1,mK L [] k,by omega,by go_num,?_,HR.out,aB HB.out (aB HBZ.out HB7.out)⟩,by simp [intOf];omega⟩;have q:=HO7.out;rw [show (([]:List Nat)++[k]++[])=mK L [] k from HII.out] at q;exact q.base (by have q1:=HBZ.out.size;omega)
           · injection e with e1 e2 e3
             subst e3
             obtain ⟨g3,hg3,hrow⟩:∃ g3,la=some ⟨g3,0,none⟩∧RowI wr g3 ts:=by
              rcases HOQ.out.rows with ⟨ad2,c2,q,rfl|⟨g4,h3,h4,h5⟩⟩
              · exact ⟨g2,e1,fun j hj=>by cases hj⟩
              · injection q with q1 q2 q3
                exact ⟨g4,q1.trans h3,h5⟩
             obtain rfl:g3=g2:=by
              have q:=hg3.symm.trans e1;injection q with q
              injection q
             have HRW:=aA hrow;subst hg3;clear e1 e2 hg hrow
             go_wp2_with fail
             refine aM HK (by kernel_rfl) (by kernel_rfl) (by first|exact HO.out|exact HK.out.drew HO.out) ?_;intro C HIN HOUT;clear HO
             repeat
              (with_reducible refine wpQuiet_step (fun K hK=> ?_)
               go_simp
               first
                |(refine hK _ ?_;clear hK K)
                |(apply Exists.intro;refine ⟨fun w1 hC=> ?_,hK _ ?_⟩;(focus ((first|(exact rfl)|(obtain ⟨hb1,b0,b1⟩:=HOUT.out w1 hC;clear hC;go_simp;first|done|exact rfl));done));clear hK K))
             refine wpQuiet_nil ?_;intro wz hC;have HO:=aA (HOUT.out _ hC);clear hC HIN HOUT C;obtain ⟨hb1,b0,b1⟩:=HO.out;have HBZ:=aA (aB HBQ.out hb1);have HRZ:=aA (HRW.out.below hb1);clear b0 b1 hb1 HO HK hdm hdm2 hdm3
             by_cases hcz:lc=m
             · skip
               subst hcz
               have HIZ:Hid (ts.take lc++[k]++[]=mK L ts k):=by
                have q:=HII.out;rw [List.drop_eq_nil_iff.2 hm2] at q;exact q
               have hl1:(ts.take lc).length=lc:=by rw [List.length_take];omega
               have hl3:(ts.drop lc).length=ts.length - lc:=List.length_drop
               have HN1:Hid (∀ j u,((ts.take lc).map qZ)[j]? =some u→wz.cell? ((⟨g3,0,none⟩:Addr).add j)=some u):=fun j u hj=>by
                have hjl:j<lc:=by have q:=(List.getElem?_eq_some_iff.1 hj).1;rw [List.length_map,hl1] at q;exact q
                rw [List.getElem?_map,List.getElem?_take_of_lt hjl,List.getElem?_eq_getElem (by omega)] at hj;rw [jH,Nat.zero_add,(HRZ.out j (by omega)).1,←hj];rfl
               have HN3:Hid (∀ w6,Below wz.heap.size wz w6→∀ j u,((ts.drop lc).map qZ)[j]? =some u→w6.cell? ((⟨g3,lc,none⟩:Addr).add j)=some u):=fun w6 h6 j u hj=>by
                have hjl:j<ts.length - lc:=by have q:=(List.getElem?_eq_some_iff.1 hj).1;rw [List.length_map,hl3] at q;exact q
                rw [List.getElem?_map,List.getElem?_drop,List.getElem?_eq_getElem (by omega)] at hj;have q:=HRZ.out (lc+j) (by omega);rw [jH,(h6.cell (p:=⟨g3,lc+j,none⟩) q.2).trans q.1,←hj];rfl
               have hmti:(lc:Int)≤ts.length:=by omega
               have HE1:Hid (Value.slice (some ⟨g3,0,none⟩) lc lc= .slice (some ⟨g3,0,none⟩) (ts.take lc).length lc):=by unfold Hid;rw [hl1]
               have HE3:Hid (Value.slice (some ⟨g3,lc,none⟩) (ts.length - lc) (lc - lc)= .slice (some ⟨g3,lc,none⟩) (ts.drop lc).length (lc - lc)):=by unfold Hid;rw [hl3]
               have hq1:([]:List Nat).length+((ts.take lc):List Nat).length≤1000000000001:=by have q:=HLE.out;simp;try omega
               have hq2:((ts.take lc):List Nat).length+[k].length≤1000000000001:=by have q:=HLE.out;simp;try omega
               have hq3:(((ts.take lc):List Nat)++[k]).length+([]:List Nat).length≤1000000000001:=by have q:=HLE.out;simp;try omega
               have hq4:wz.heap.size≤wz.heap.size:=Nat.le_refl _;have hn1:(([]:List Nat)++((ts.take lc):List Nat)).length=lc:=by simp;try omega
               have hn2:(((ts.take lc):List Nat)++[k]).length=lc+1:=by simp;try omega
               have tok1:True:=trivial
               go_wp2_with (first
                |(have _t:=tok3;at_builtin;refine fU (B:=wz.heap.size) (us:=[]) (ts:=(ts.take lc)++[k]) rfl _ _ rfl rfl HO6.out HB56.out.size rfl (Or.inr ⟨g3,0,rfl,(fun j u hj=>by cases hj)⟩) hq3 ?_;intro v7 w7 ho7 hg7;have HO7:=aA ho7;have HB7:Hid (Below wz.heap.size wz w7):=HB56.out.grown hg7 HB56.out.size (fun q hq=>(World.ownsRow.lt HO6.out q hq).1);clear ho7 hg7 tok3)
                |(have _t:=tok2;at_builtin;refine fU (B:=wz.heap.size) (us:=[k]) (ts:=(ts.take lc)) rfl _ _ rfl rfl (HO5.out.below (aF _ _)) HS5.out rfl (Or.inr ⟨w5.heap.size,0,rfl,cell_one_new _ _ _⟩) hq2 ?_;intro v6 w6 ho6 hg6;have HO6:=aA ho6;have HB56:Hid (Below wz.heap.size wz w6):=((HB5.out.alloc (by have q:=HB5.out.size;omega) _)).grown hg6 HS5.out (fun q hq=>(World.ownsRow.lt HO5.out q hq).1);obtain ⟨b6,c6,rfl⟩:=ho6.formN (n:=lc+1) hn2;have tok3:True:=trivial;clear ho6 hg6 tok2)
                |(have _t:=tok1;at_builtin;refine fU (B:=wz.heap.size) (us:=(ts.take lc)) (ts:=[]) rfl _ _ rfl rfl (OwnIs.nil _ _) hq4 HE1.out (Or.inr ⟨g3,0,rfl,HN1.out⟩) hq1 ?_;intro v5 w5 ho5 hg5;have HO5:=aA ho5;have HB5:Hid (Below wz.heap.size wz w5):=(Below.refl _ _).grown hg5 (Nat.le_refl _) (fun q hq=>by cases hq);have HS5:Hid (wz.heap.size≤(w5.alloc (.cells #[.int .i64 (k:Int)] 3)).heap.size):=(by have q:=HB5.out.size;unfold Hid;simp;omega);obtain ⟨b5,c5,rfl⟩:=ho5.formN (n:=lc) hn1;have tok2:True:=trivial;clear ho5 hg5 tok1))
               refine ⟨⟨k+1,mK L ts k,by omega,by go_num,?_,HR.out,aB HB.out (aB HBZ.out HB7.out)⟩,by simp [intOf];omega⟩;have q:=HO7.out;rw [HIZ.out] at q;exact q.base (by have q1:=HBZ.out.size;omega)
             · skip
               have HIZ:Hid (ts.take m++[k]++[]=mK L ts k):=by
                have q:=HII.out;rw [List.drop_eq_nil_iff.2 hm2] at q;exact q
               have hl1:(ts.take m).length=m:=by rw [List.length_take];omega
               have hl3:(ts.drop m).length=ts.length - m:=List.length_drop
               have HN1:Hid (∀ j u,((ts.take m).map qZ)[j]? =some u→wz.cell? ((⟨g3,0,none⟩:Addr).add j)=some u):=fun j u hj=>by
                have hjl:j<m:=by have q:=(List.getElem?_eq_some_iff.1 hj).1;rw [List.length_map,hl1] at q;exact q
                rw [List.getElem?_map,List.getElem?_take_of_lt hjl,List.getElem?_eq_getElem (by omega)] at hj;rw [jH,Nat.zero_add,(HRZ.out j (by omega)).1,←hj];rfl
               have HN3:Hid (∀ w6,Below wz.heap.size wz w6→∀ j u,((ts.drop m).map qZ)[j]? =some u→w6.cell? ((⟨g3,m,none⟩:Addr).add j)=some u):=fun w6 h6 j u hj=>by
                have hjl:j<ts.length - m:=by have q:=(List.getElem?_eq_some_iff.1 hj).1;rw [List.length_map,hl3] at q;exact q
                rw [List.getElem?_map,List.getElem?_drop,List.getElem?_eq_getElem (by omega)] at hj;have q:=HRZ.out (m+j) (by omega);rw [jH,(h6.cell (p:=⟨g3,m+j,none⟩) q.2).trans q.1,←hj];rfl
               have hcm:m≤lc:=by omega
               have hcmi:(m:Int)≤lc:=by omega
               have hmti:(m:Int)≤ts.length:=by omega
               have HE1:Hid (Value.slice (some ⟨g3,0,none⟩) m lc= .slice (some ⟨g3,0,none⟩) (ts.take m).length lc):=by unfold Hid;rw [hl1]
               have HE3:Hid (Value.slice (some ⟨g3,m,none⟩) (ts.length - m) (lc - m)= .slice (some ⟨g3,m,none⟩) (ts.drop m).length (lc - m)):=by unfold Hid;rw [hl3]
               have hq1:([]:List Nat).length+((ts.take m):List Nat).length≤1000000000001:=by have q:=HLE.out;simp;try omega
               have hq2:((ts.take m):List Nat).length+[k].length≤1000000000001:=by have q:=HLE.out;simp;try omega
               have hq3:(((ts.take m):List Nat)++[k]).length+([]:List Nat).length≤1000000000001:=by have q:=HLE.out;simp;try omega
               have hq4:wz.heap.size≤wz.heap.size:=Nat.le_refl _;have hn1:(([]:List Nat)++((ts.take m):List Nat)).length=m:=by simp;try omega
               have hn2:(((ts.take m):List Nat)++[k]).length=m+1:=by simp;try omega
               have tok1:True:=trivial
               go_wp2_with (first
                |(have _t:=tok3;at_builtin;refine fU (B:=wz.heap.size) (us:=[]) (ts:=(ts.take m)++[k]) rfl _ _ rfl rfl HO6.out HB56.out.size rfl (Or.inr ⟨g3,m,rfl,(fun j u hj=>by cases hj)⟩) hq3 ?_;intro v7 w7 ho7 hg7;have HO7:=aA ho7;have HB7:Hid (Below wz.heap.size wz w7):=HB56.out.grown hg7 HB56.out.size (fun q hq=>(World.ownsRow.lt HO6.out q hq).1);clear ho7 hg7 tok3)
                |(have _t:=tok2;at_builtin;refine fU (B:=wz.heap.size) (us:=[k]) (ts:=(ts.take m)) rfl _ _ rfl rfl (HO5.out.below (aF _ _)) HS5.out rfl (Or.inr ⟨w5.heap.size,0,rfl,cell_one_new _ _ _⟩) hq2 ?_;intro v6 w6 ho6 hg6;have HO6:=aA ho6;have HB56:Hid (Below wz.heap.size wz w6):=((HB5.out.alloc (by have q:=HB5.out.size;omega) _)).grown hg6 HS5.out (fun q hq=>(World.ownsRow.lt HO5.out q hq).1);obtain ⟨b6,c6,rfl⟩:=ho6.formN (n:=m+1) hn2;have tok3:True:=trivial;clear ho6 hg6 tok2)
                |(have _t:=tok1;at_builtin;refine fU (B:=wz.heap.size) (us:=(ts.take m)) (ts:=[]) rfl _ _ rfl rfl (OwnIs.nil _ _) hq4 HE1.out (Or.inr ⟨g3,0,rfl,HN1.out⟩) hq1 ?_;intro v5 w5 ho5 hg5;have HO5:=aA ho5;have HB5:Hid (Below wz.heap.size wz w5):=(Below.refl _ _).grown hg5 (Nat.le_refl _) (fun q hq=>by cases hq);have HS5:Hid (wz.heap.size≤(w5.alloc (.cells #[.int .i64 (k:Int)] 3)).heap.size):=(by have q:=HB5.out.size;unfold Hid;simp;omega);obtain ⟨b5,c5,rfl⟩:=ho5.formN (n:=m) hn1;have tok2:True:=trivial;clear ho5 hg5 tok1))
               refine ⟨⟨k+1,mK L ts k,by omega,by go_num,?_,HR.out,aB HB.out (aB HBZ.out HB7.out)⟩,by simp [intOf];omega⟩;have q:=HO7.out;rw [HIZ.out] at q;exact q.base (by have q1:=HBZ.out.size;omega)
    · have HNO:Hid (InsK L a (k+1) ts):=HIK.out.no (by rw [HPA.out,vF hlt];exact NQ hlen)
      obtain ⟨⟨p0,_⟩,_,p9⟩:=hdk;have hne:((L[k].pa.length:Int)==(L[a].pa.length:Int)+1)=false:=by rw [beq_eq_false_iff_ne];omega
      have hne2:((L[k].pa.length:Int)=(L[a].pa.length:Int)+1)=False:=eq_false (by omega);clear hda hpel hlen hins hb
      go_wp2
      exact ⟨⟨k+1,ts,by omega,by go_num,HO1.out,HNO.out,HB.out⟩,by simp [intOf];omega⟩
  · obtain rfl:k=L.length:=by omega
    clear hins hb;generalize ts.length=m at*
    go_wp2
    go_ret;exact ⟨_,ts,rfl,HO1.out.base (by omega),HIK.out,aB HB0.out HB.out⟩
end Go.Proofs.YtlmpiohbmlddiaaGreatDoor
