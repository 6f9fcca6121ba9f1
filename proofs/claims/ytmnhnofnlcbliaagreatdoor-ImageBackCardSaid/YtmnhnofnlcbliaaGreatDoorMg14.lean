/- Tw10, Tw8: their declarations that are needed, laid in one text, remarks and blanks left out. -/
import Derived.Test.YtmnhnofnlcbliaaGreatDoorShelfM
import Derived.Laws.CopyOwn
import Derived.BigRegion
import Derived.Test.YtmnhnofnlcbliaaGreatDoorMg13
namespace Go.Proofs.YtmnhnofnlcbliaaGreatDoor
open Go.RowKit
set_option maxRecDepth 100000
structure MS where
 m:List Int
 q:List Nat
def drZ:Dr:=⟨[],lM,0⟩
def ndZ:Nd:=⟨⟨#[]⟩,0,0,0,[],[]⟩
noncomputable def gL (L:List Dr) (G:List Nd) (r:Nat) (st:MS) (e:Eg):Option MS:=
 if cR L (r:Int) e.lb<0 then none
 else if gH (L.getD (cR L (r:Int) e.lb).toNat drZ) (G.getD e.to.toNat ndZ)=false then none
 else if st.m.getD (cR L (r:Int) e.lb).toNat 0<0 then some ⟨st.m.set (cR L (r:Int) e.lb).toNat e.to,st.q++[(cR L (r:Int) e.lb).toNat]⟩
 else if st.m.getD (cR L (r:Int) e.lb).toNat 0=e.to then some st else none
noncomputable def eN (L:List Dr) (G:List Nd) (r:Nat):List Eg→MS→Option MS
 |[],st=>some st
 |e::es,st=>(gL L G r st e).bind (eN L G r es)
def iH (G:List Nd) (st:MS) (r:Nat):List Eg:=(G.getD (st.m.getD r 0).toNat ndZ).ed
noncomputable def kS (L:List Dr) (G:List Nd):Nat→Nat→MS→Option (List Int)
 |0,_,_=>none
 |n+1,i,st=>match st.q[i]? with
  |none=>some st.m
  |some r=>(eN L G r (iH G st r) st).bind (kS L G n (i+1))
def dU (n:Nat):MS:=⟨(List.replicate n (-1)).set 0 0,[0]⟩
noncomputable def iN (L:List Dr) (G:List Nd):Option (List Int):=kS L G (L.length+1) 0 (dU L.length)
noncomputable def fV (L:List Dr) (G:List Nd):List Int:=if cH L=true∧eM G=true then (iN L G).getD [] else []
noncomputable def lQ (L:List Dr) (G:List Nd):Int:=if cH L=true then (if eM G=true then (if (iN L G).isSome=true then 0 else 42) else 33) else 42
structure MInv (L:List Dr) (G:List Nd) (st:MS):Prop where
 len:st.m.length=L.length
 each:∀ j (h:j<st.m.length),st.m[j]= -1∨(0≤st.m[j]∧st.m[j]<(G.length:Int))
 qin:∀ r ∈ st.q,∃ h:r<st.m.length,0≤st.m[r]
 cnt:st.q.length=st.m.countP fun x=>decide (0≤x)
theorem MInv.short {L:List Dr} {G:List Nd} {st:MS} (h:MInv L G st):st.q.length≤L.length:=by
 rw [h.cnt,←h.len];exact List.countP_le_length
theorem MInv.start {L:List Dr} {G:List Nd} (hl:0<L.length) (hg:0<G.length):MInv L G (dU L.length) where
 len:=by simp [dU]
 each:=fun j h=>by
  have h':j<L.length:=by simpa [dU] using h
  have e:(dU L.length).m[j]=if 0=j then 0 else -1:=by simp [dU,List.getElem_set]
  rw [e]
  split
  · exact Or.inr ⟨Int.le_refl _,by omega⟩
  · exact Or.inl rfl
 qin:=fun r hr=>by
  obtain rfl:r=0:=by simpa [dU] using hr
  exact ⟨by simpa [dU] using hl,by simp [dU]⟩
 cnt:=by
  unfold dU;simp only [List.length_singleton];rw [List.countP_set (by simpa using hl)]
  have e:(List.replicate L.length (-1:Int)).countP (fun x=>decide (0≤x))=0:=by
   rw [List.countP_eq_zero];intro a ha;rw [(List.mem_replicate.1 ha).2];decide
  rw [e]
  simp
theorem MInv.set {L:List Dr} {G:List Nd} {st:MS} (h:MInv L G st) {k:Nat} (hk:k<st.m.length) (hm:st.m[k]<0) {x:Int} (hx:0<x) (hx2:x<(G.length:Int)):MInv L G ⟨st.m.set k x,st.q++[k]⟩ where
 len:=by simpa using h.len
 each:=fun j hj=>by
  simp only [List.getElem_set]
  split
  · exact Or.inr ⟨by omega,hx2⟩
  · exact h.each j (by simpa using hj)
 qin:=fun r hr=>by
  rcases List.mem_append.1 hr with hr|hr
  · obtain ⟨h1,h2⟩:=h.qin r hr
    refine ⟨by simpa using h1,?_⟩;simp only [List.getElem_set]
    split
    · omega
    · exact h2
  · obtain rfl:=List.mem_singleton.1 hr
    refine ⟨by simpa using hk,?_⟩;simp only [List.getElem_set_self];omega
 cnt:=by
  rw [List.length_append,h.cnt,List.length_singleton]
  simp only
  rw [List.countP_set hk,if_neg (by simpa using hm),if_pos (by simp;omega)]
  simp
def lP (l:List Int):List Value:=l.map (.int .i64)
def CK (l:List Nat):List Value:=l.map fun r:Nat=>Value.int .i64 (r:Int)
theorem GN (l:List Int):(lP l).length=l.length:=by simp [lP]
theorem GO (l:List Int) (k:Nat) (x:Int):lP (l.set k x)=(lP l).set k (.int .i64 x):=by simp [lP,List.map_set]
theorem TJ (l:List Nat) (r:Nat):CK (l++[r])=CK l++[.int .i64 (r:Int)]:=by simp [CK]
def OwnI (w:World) (B:Nat) (v:Value) (l:List Int):Prop:=w.ownsRow B 3 1 v l.length (lP l)
def InI (w:World) (g o:Nat) (x:Int):Prop:=w.cell? ⟨g,o,none⟩=some (.int .i64 x)∧g<w.heap.size
theorem lR (g o:Nat) (x:Int):KeepP fun w1=>InI w1 g o x:=fun _ _ h hb=>⟨(hb.cell (p:=⟨g,o,none⟩) h.2).trans h.1,Nat.lt_of_lt_of_le h.2 hb.size⟩
theorem dN {w w':World} {B:Nat} {e:TypeId} {sz:Nat} {v:Value} {n:Nat} {xs:List Value} (h:w.ownsRow B e sz v n xs) (hb:Below w.heap.size w w'):w'.ownsRow B e sz v n xs:=by
 refine ⟨h.1,h.2.imp id ?_⟩;rintro ⟨g,cap,cur,rfl,hB,hgg,r⟩;exact ⟨g,cap,cur,rfl,hB,(hb.block g (Array.getElem?_eq_some_iff.1 hgg).1).trans hgg,r⟩
def StM (w:World) (vt vg:Value) (g:Nat) (q c:Nat) (st:MS) (wr:World):Prop:=
 (Below w.heap.size w wr∧BxT wr w.heap.size vt∧BxT wr (w.heap.size+1) vg)∧(wr.ownsRow (w.heap.size+2) 3 1 (.slice (some ⟨g,0,none⟩) st.m.length st.m.length) st.m.length (lP st.m)∧wr.ownsRow (w.heap.size+2) 3 1 (.slice (some ⟨q,0,none⟩) st.q.length c) st.q.length (CK st.q))∧q≠g
theorem qE (w:World) (vt vg:Value) (g q c:Nat) (st:MS):KeepP (StM w vt vg g q c st):=fun _ _ h hb=>
 ⟨⟨aA h.1.1 hb,cL _ _ _ _ h.1.2.1 hb,cL _ _ _ _ h.1.2.2 hb⟩,⟨dN h.2.1.1 hb,dN h.2.1.2 hb⟩,h.2.2⟩
theorem StM.node {w:World} {vt vg:Value} {g q c:Nat} {st:MS} {wr:World} (h:StM w vt vg g q c st wr) {k:Nat} (hk:k<st.m.length):InI wr g k st.m[k]:=by
 have e:=World.ownsRow.cellAt h.2.1.1 k (by omega);have e2:(lP st.m)[k]? =some (.int .i64 st.m[k]):=by simp [lP,hk]
 exact ⟨e.trans e2,(World.ownsRow.lt h.2.1.1 g rfl).2⟩
theorem StM.seen {w:World} {vt vg:Value} {g q c:Nat} {st:MS} {wr:World} (h:StM w vt vg g q c st wr) {k:Nat} (hk:k<st.q.length):InI wr q k (st.q[k]:Int):=by
 have e:=World.ownsRow.cellAt h.2.1.2 k (by omega);have e2:(CK st.q)[k]? =some (.int .i64 (st.q[k]:Int)):=by simp [CK,hk]
 exact ⟨e.trans e2,(World.ownsRow.lt h.2.1.2 q rfl).2⟩
theorem StM.put {w:World} {vt vg:Value} {g q c:Nat} {st:MS} {wr:World} (h:StM w vt vg g q c st wr) (k:Nat) (x:Int):StM w vt vg g q c ⟨st.m.set k x,st.q⟩ (wr.setCell ⟨g,k,none⟩ (.int .i64 x)):=by
 obtain ⟨h1,h2⟩:=World.ownsRow.stored h.2.1.1 k (.int .i64 x);have hB:=(World.ownsRow.lt h.2.1.1 g rfl).1;refine ⟨⟨h.1.1.grown h2 h.1.1.size (fun k hk=>by cases hk;omega),⟨h2.cell h.1.2.1.1 (by simp;omega),Nat.lt_of_lt_of_le h.1.2.1.2 h2.size⟩,⟨h2.cell h.1.2.2.1 (by simp;omega),Nat.lt_of_lt_of_le h.1.2.2.2 h2.size⟩⟩,⟨?_,?_⟩,h.2.2⟩
 · show World.ownsRow _ _ _ _ (.slice (some ⟨g,0,none⟩) (st.m.set k x).length (st.m.set k x).length) (st.m.set k x).length (lP (st.m.set k x))
   rw [GO,List.length_set];exact h1
 · exact h.2.1.2.kept h2 (Or.inr (by simp [Value.ownBlock];exact h.2.2))
theorem StM.app {w:World} {vt vg:Value} {g q c:Nat} {st:MS} {wr w1:World} {v1:Value} (h:StM w vt vg g q c st wr) (r:Nat) (ho:w1.ownsRow (w.heap.size+2) 3 1 v1 (st.q.length+1) (CK st.q++[.int .i64 (r:Int)])) (hg:wr.grownBy w1 (some q)) (hat:v1.ownBlock=some q∨v1.ownBlock=some (wr.heap.size+1)):∃ q' c',v1= .slice (some ⟨q',0,none⟩) (st.q++[r]).length c'∧StM w vt vg g q' c' ⟨st.m,st.q++[r]⟩ w1:=by
 have hB:=(World.ownsRow.lt h.2.1.2 q rfl).1;have hgl:=(World.ownsRow.lt h.2.1.1 g rfl).2;obtain ⟨q',c',rfl,_⟩:=ho.form (by omega);refine ⟨q',c',by rw [List.length_append];rfl,⟨h.1.1.grown hg h.1.1.size (fun k hk=>by cases hk;omega),⟨hg.cell h.1.2.1.1 (by simp;omega),Nat.lt_of_lt_of_le h.1.2.1.2 hg.size⟩,⟨hg.cell h.1.2.2.1 (by simp;omega),Nat.lt_of_lt_of_le h.1.2.2.2 hg.size⟩⟩,⟨?_,?_⟩,?_⟩
 · exact h.2.1.1.kept hg (Or.inr (by simp [Value.ownBlock];exact fun e=>h.2.2 e.symm))
 · show World.ownsRow _ _ _ _ (.slice (some ⟨q',0,none⟩) (st.q++[r]).length c') (st.q++[r]).length (CK (st.q++[r]))
   rw [TJ,List.length_append];exact ho
 · rcases hat with e|e
   · have:q'=q:=by simpa [Value.ownBlock] using e
     rw [this];exact h.2.2
   · have:q'=wr.heap.size+1:=by simpa [Value.ownBlock] using e
     omega
theorem Bj {B:Nat} {wx:World} {n:Nat} {v:Value} {xs:List Value} {x:Int} {ops:Array Oper} {rest:List Oper} {o:Oper} {f:Act} {Q:Exit→Act→World→Prop}
 (hgd:o.guard=none) (s t:Operand) (ho:o.op= .call { callee:= .builtin .append,args:= #[s,t],argTypes:= #[81,81] }) (hs:f.eval s=v)
 (hown:wx.ownsRow B 3 1 v n xs) (hB:B≤wx.heap.size) {M:Nat} (hM:wx.heap.size=M) (hx:f.eval t= .slice (some ⟨M,0,none⟩) 1 1) (hlen:n≤1000000)
 (h:∀ v1 w1,w1.ownsRow B 3 1 v1 (n+1) (xs++[.int .i64 x])→(wx.alloc (.cells #[.int .i64 x] 3)).grownBy w1 v.ownBlock→(v1.ownBlock=v.ownBlock∨v1.ownBlock=some (wx.heap.size+1))→wpList Tryz.prog ops Q rest (f.put o.dst v1) w1):
 wpList Tryz.prog ops Q (o::rest) f (wx.alloc (.cells #[.int .i64 x] 3)):=by
 subst hM;have hinfo:(Tryz.prog.info? 3).map (fun i=>(i.zero,i.size,i.bytes))=some (some (.int .i64 0),1,8):=by kernel_rfl
 obtain ⟨i0,hi,hz0,hz1,hz2⟩:=Sc.bK hinfo;refine wpList_append_own_at _ hgd s t 81 ho B 3 i0 _ 1 8 Tryz.underlying81 hi hz0 hz1 hz2 rfl (by decide) v n xs hs (hown.alloc _) ⟨wx.heap.size,0,none⟩ 1 1 [.int .i64 x] hx rfl (cell_one_new _ _ _) (fun u hu=>by rw [List.mem_singleton.1 hu];rfl) (by unfold maxLen;omega) (by omega) (by simp;omega) ?_;intro v1 w1 h1 h2 _ h4;exact h v1 w1 h1 h2 (by rw [show (wx.alloc (.cells #[.int .i64 x] 3)).heap.size=wx.heap.size+1 by simp] at h4;exact h4)
def qF (w:World) (L:List Dr) (G:List Nd) (e:Ending) (w':World):Prop:=∃ v',e= .returned (.tuple #[v',.int .i64 (lQ L G)])∧OwnI w' w.heap.size v' (fV L G)∧Below w.heap.size w w'
def kD (m n:Nat):List Value:=List.replicate m (.int .i64 (-1))++List.replicate (n - m) (.int .i64 0)
theorem sW {m n:Nat} (h:m≤n):(kD m n).length=n:=by simp [kD];omega
theorem TK (n:Nat):kD n n=List.replicate n (.int .i64 (-1)):=by simp [kD]
theorem sX {m n k:Nat}:splice (kD m n) m (List.replicate k (.int .i64 (-1)))=kD (m+k) n:=by
 unfold splice kD;rw [List.length_replicate,List.take_append_of_le_length (by simp),List.take_of_length_le (by simp),List.drop_append,List.drop_replicate,List.drop_replicate,List.length_replicate,←List.append_assoc,List.replicate_append_replicate];have e1:m - (m+k)=0:=by omega
 have e2:m+k - m=k:=by omega
 have e3:n - m - k=n - (m+k):=by omega
 rw [e1,e2,e3]
 simp
theorem En:(Tryz.prog.info? 3).map (fun i=>(i.zero,i.size,i.bytes))=some (some (.int .i64 0),1,8):=by kernel_rfl
theorem XP:(Tryz.prog.info? 3).map (·.size)=some 1:=by kernel_rfl
theorem Bk {k:Nat}:∀ u ∈ List.replicate k (Value.int .i64 (-1)),u.oneCell'=true:=fun u hu=>by
 rw [(List.mem_replicate.1 hu).2];rfl
theorem Bl {w:World} {g m n:Nat} {k:Nat} (hk:k≤m) (hg:w.heap[g]? =some (.cells (kD m n).toArray 3 (0,0))):∀ j v,(List.replicate k (Value.int .i64 (-1)))[j]? =some v→w.cell? ((⟨g,0,none⟩:Addr).add j)=some v:=fun j v hj=>by
 have hj':j<k:=by
  have:=(List.getElem?_eq_some_iff.1 hj).1
  simpa using this
 have ad:(⟨g,0,none⟩:Addr).add j=⟨g,j,none⟩:=by unfold Addr.add;split<;>simp_all
 have hv:v= .int .i64 (-1):=by
  rw [List.getElem?_replicate,if_pos hj'] at hj;exact (Option.some.inj hj).symm
 rw [ad,Lib.cell_of_heap hg,hv];show (kD m n).toArray[j]? =_;rw [List.getElem?_toArray];unfold kD;rw [List.getElem?_append_left (by simp;omega),List.getElem?_replicate,if_pos (by omega)]
set_option maxHeartbeats 6400000 in
theorem MG {g0 n:Nat} {w:World} (h0:w.cell? ⟨g0,0,none⟩=some (.int .i64 (-1))) (hn:1≤n) (hn2:n≤1000):
 Calls Tryz.prog 117 #[.slice (some ⟨g0,0,none⟩) 1 1,.int .i64 n] w fun e w'=>e= .returned (.slice (some ⟨w.heap.size,0,none⟩) n n)∧w'.heap[w.heap.size]? =some (.cells (List.replicate n (Value.int .i64 (-1))).toArray 3 (0,0))∧Below w.heap.size w w':=by
 have HM:Hid (∀ w1,Calls Tryz.prog 164 #[.int .u64 1,.int .u64 n] w1 fun e w'=>e= .returned (.tuple #[.int .u64 0,.int .u64 n])∧w'=w1):=fun w1=>by
  have h:=Tryz.bits_Mul 1 n (by decide) (by omega) w1;have e1:(1*n / 18446744073709551616:Nat)=0:=by omega
  have e2:(1*n % 18446744073709551616:Nat)=n:=by omega
  rw [e1,e2] at h;exact h
 obtain ⟨i0,hi,hz0,hz1,hz2⟩:=Sc.bK En;have hlt0:g0<w.heap.size:=Sc.bY h0
 have HC0:Hid (∀ w1,Below w.heap.size w w1→∀ j v,[Value.int .i64 (-1)][j]? =some v→w1.cell? ((⟨g0,0,none⟩:Addr).add j)=some v):=fun w1 hb j v hj=>by
  obtain rfl:j=0:=by
   have:=(List.getElem?_eq_some_iff.1 hj).1
   simpa using this
  have ad:(⟨g0,0,none⟩:Addr).add 0=⟨g0,0,none⟩:=by unfold Addr.add;split<;>simp_all
  rw [ad,←hj];exact (hb.cell (p:=⟨g0,0,none⟩) hlt0).trans h0
 have hnn:¬ ((n:Int)<0):=by omega
 have hnu:¬ ((n:Int)>9223372036854775807):=by omega
 have q1:decide ((n:Int)>9223372036854775807)=false:=decide_eq_false hnu;have q2:decide ((n:Int)<0)=false:=decide_eq_false hnn
 have HMK:Hid (∀ w1:World,w1.ownsRow w.heap.size 3 1 (.slice (some ⟨w.heap.size,0,none⟩) n n) n (madeCells (Value.int .i64 0).cells (n*1)).toList→w1.heap[w.heap.size]? =some (.cells (kD 0 n).toArray 3 (0,0))):=fun w1 ho=>by
  have e:(madeCells (Value.int .i64 0).cells (n*1)).toList=List.replicate n (.int .i64 0):=by rw [Nat.mul_one];exact toList_madeCells_one _ _
  rw [e] at ho
  rcases ho.2 with ⟨h',_⟩|⟨g',cap',cur,h',_,hg,_,_,hcs,htk⟩
  · cases h'
  · injection h' with e1 e2 e3
    cases e1;subst e3;rw [hg]
    have:cur=(kD 0 n).toArray:=by
     apply Array.ext';rw [Nat.mul_one,List.take_of_length_le (by rw [Array.length_toList];omega)] at htk;rw [htk];simp [kD]
    rw [this]
 have HCP:Hid (∀ w2:World,w2.heap[w.heap.size]? =some (.cells (kD 0 n).toArray 3 (0,0))→Below w.heap.size w w2→∃ w3:World,(Builtin.copy_ #[81,81] 3 #[.slice (some ⟨w.heap.size,0,none⟩) n n,.slice (some ⟨g0,0,none⟩) 1 1]).run Tryz.prog w2= .ok (.int .i64 1) w3∧w3.heap[w.heap.size]? =some (.cells (kD 1 n).toArray 3 (0,0))∧Below w.heap.size w w3):=fun w2 hg hb=>by
  have hr:=run_copy_row (P:=Tryz.prog) w2 81 81 3 3 w.heap.size 0 n n ⟨g0,0,none⟩ 1 1 _ 3 [Value.int .i64 (-1)] Tryz.underlying81 XP hg (Nat.min_eq_left hn).symm (HC0.out w2 hb) (by show 0+1≤(kD 0 n).toArray.size;rw [List.size_toArray,sW (Nat.zero_le _)];omega) (fun u hu=>by rw [List.mem_singleton.1 hu];rfl);refine ⟨_,hr,?_,below_setRow hb (Nat.le_refl _) _⟩;rw [setRow_heap w2 _ _ _ _ _ hg];have e:=sX (m:=0) (n:=n) (k:=1);unfold splice at e;rw [Nat.zero_add] at e;rw [←e];rfl
 clear h0
 go_enter Tryz.func117,Tryz.ntmps117
 go_wp2_with (first
  |(go_at_call 164;refine (HM.out _).mono ?_;rintro e w1 ⟨rfl,hw1⟩;subst w1)
  |(at_make;refine wpList_make_full _ rfl _ _ 81 rfl w.heap.size 3 i0 _ 1 Tryz.underlying81 hi hz0 hz1 _ _ _ _ n rfl rfl (by first|rfl|omega) (by first|rfl|omega) (by rw [hz2];omega) (by unfold maxLen;omega) (Nat.le_refl _) ?_;intro w2 ho2 hg2;have HG2:=aB (HMK.out _ ho2);have HB2:Hid (Below w.heap.size w w2):=⟨hg2.os,hg2.tape,hg2.output,hg2.size,fun k hk=>hg2.block k hk (by simp)⟩;obtain ⟨w3,hcp,hg3,hb3⟩:=HCP.out w2 HG2.out HB2.out;have HG3:=aB hg3;have HB3:=aB hb3;clear ho2 hg2 hg3 hb3))
 clear HC0 HMK HM q1 q2 hnu
 go_loopw [8] (fun i wr=>∃ m:Nat,(1≤m∧m≤n)∧i= .int .i64 m∧wr.heap[w.heap.size]? =some (.cells (kD m n).toArray 3 (0,0))∧Below w.heap.size w wr) (fun i _=>n - (intOf i).toNat)
 case atStart=>exact ⟨1,⟨Nat.le_refl _,hn⟩,rfl,HG3.out,HB3.out⟩
 case round=>
  obtain ⟨m,⟨hm1,hm2⟩,rfl,hg,hb⟩:=hrel;have HG:=aB hg;have HB:=aB hb;clear hg hb
  by_cases hlt:m<n
  · obtain ⟨kk,hkk⟩:∃ kk,kk=Nat.min m (n - m):=⟨_,rfl⟩
    have hk1:1≤kk:=by rw [hkk];exact Nat.le_min.2 ⟨hm1,by omega⟩
    have hk2:kk≤m:=by rw [hkk];exact Nat.min_le_left _ _
    have hk3:kk≤n - m:=by rw [hkk];exact Nat.min_le_right _ _
    have HSP:Hid (splice (kD m n) m (List.replicate kk (Value.int .i64 (-1)))=kD (m+kk) n):=sX;have HKK:=aB hkk;have HRL:Hid ((kD m n).length=n):=sW hm2;have hci:¬ (n=m):=by omega
    have hci2:¬ ((n:Int)=(m:Int)):=by omega
    clear hkk
    obtain ⟨w4,hcp4,hg4,hb4⟩:∃ w4:World,(Builtin.copy_ #[81,81] 3 #[.slice (some ⟨w.heap.size,m,none⟩) (n - m) (n - m),.slice (some ⟨w.heap.size,0,none⟩) m n]).run Tryz.prog wr.drew= .ok (.int .i64 kk) w4∧w4.heap[w.heap.size]? =some (.cells (kD (m+kk) n).toArray 3 (0,0))∧Below w.heap.size w w4:=by
     have hr:=run_copy_row (P:=Tryz.prog) wr.drew 81 81 3 3 w.heap.size m (n - m) (n - m) ⟨w.heap.size,0,none⟩ m n _ 3 (List.replicate kk (Value.int .i64 (-1))) Tryz.underlying81 XP HG.out (by rw [List.length_replicate];exact HKK.out) (Bl (w:=wr.drew) hk2 HG.out) (by rw [List.length_replicate,List.size_toArray,HRL.out];omega) Bk;rw [List.length_replicate] at hr;refine ⟨_,hr,?_,below_setRow HB.out.drew (Nat.le_refl _) _⟩;rw [setRow_heap wr.drew _ _ _ _ _ HG.out,←HSP.out];unfold splice;rw [List.length_replicate,List.append_assoc]
    have HG4:=aB hg4;have HB4:=aB hb4;have hmc:m≤n:=hm2;have hkb:m+kk≤n:=by omega
    clear hg4 hb4 HSP HKK HRL
    go_wp2_with fail
    go_region
    go_wp2
    exact ⟨⟨m+kk,⟨by omega,hkb⟩,by go_num,HG4.out,HB4.out⟩,by simp [intOf];omega⟩
  · obtain rfl:m=n:=by omega
    have HR:Hid (wr.heap[w.heap.size]? =some (.cells (List.replicate m (Value.int .i64 (-1))).toArray 3 (0,0))):=by have e:=HG.out;rw [TK] at e;exact e
    go_wp2
    go_ret;exact ⟨rfl,HR.out,HB.out⟩
end Go.Proofs.YtmnhnofnlcbliaaGreatDoor
