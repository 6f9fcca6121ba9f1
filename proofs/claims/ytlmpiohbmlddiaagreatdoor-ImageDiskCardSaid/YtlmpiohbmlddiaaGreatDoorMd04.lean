/- Parse3, Tx2, Tx3, Tx4, Tx5, Pr1, Pr2, Kn1, Pk1, Pk2, Rd0, Ct0, Srt: their declarations that are needed, laid in one text, remarks and blanks left out. -/
import Derived.Test.YtlmpiohbmlddiaaGreatDoorShelfC
import Derived.Lib.SplitLaws
import Derived.Lib.Join
import Derived.OneCell
import Derived.Shelf.SlSortCmp.NoneTotal
import Derived.Sort.OwnSorted
import Derived.Test.YtlmpiohbmlddiaaGreatDoorMd03
namespace Go.Proofs.YtlmpiohbmlddiaaGreatDoor
open Go.RowKit
set_option maxRecDepth 100000
def pA (l:List UInt8):Int:=QU (Lib.cut l [46]).1
def pB (l:List UInt8):Int:=QU (Lib.cut (Lib.cut l [46]).2.1 [46]).1
def pC (l:List UInt8):Int:=QU (Lib.cut (Lib.cut l [46]).2.1 [46]).2.1
def okP (s:ByteArray):Bool:=bC (pA s.data.toList) (pB s.data.toList) (pC s.data.toList)&&decide (aZ (pA s.data.toList) (pB s.data.toList) (pC s.data.toList)=s)
def zI (s:ByteArray):Int:=if okP s then pA s.data.toList else 0
def zJ (s:ByteArray):Int:=if okP s then pB s.data.toList else 0
def zK (s:ByteArray):Int:=if okP s then pC s.data.toList else 0
theorem nZ (l:List UInt8):(⟨l.toArray⟩:ByteArray).size=l.length:=by show l.toArray.size=_;simp
theorem aK (s:ByteArray):s.data.toList.length=s.size:=rfl
theorem aY {s t:ByteArray} (h:s.toList=t.toList):s=t:=by
 rw [ByteArray.toList_eq,ByteArray.toList_eq] at h;cases s;cases t;simp only [ByteArray.mk.injEq];exact Array.toList_inj.1 h
theorem IY {s:ByteArray} (h:okP s=true):bC (zI s) (zJ s) (zK s)=true∧s=aZ (zI s) (zJ s) (zK s):=by
 unfold zI zJ zK;rw [h];unfold okP at h;simp only [Bool.and_eq_true,decide_eq_true_eq] at h;exact ⟨h.1,h.2.symm⟩
def plP (t:ByteArray):Int:=aW (zI t) (zJ t) (zK t)
def QV (s:ByteArray):Nat:=(max (Lib.indexAny s.data.toList [48,49,50,51,52,53,54,55,56,57]) 0).toNat
def SP (s:ByteArray):Option Rg:=if s.data.toList=[42] then some zG else if okP (s.extract (QV s) s.size)=true then SN (s.extract 0 (QV s)).data.toList (plP (s.extract (QV s) s.size)) else none
def sY (s sep:ByteArray):List ByteArray:=Lib.splitB sep 0 (Lib.countB s sep) s
def sZ:Rg→Bool→List ByteArray→Option (Rg×Bool)
 |R,f,[]=>some (R,f)
 |R,f,p::ps=>if p.size=0 then sZ R f ps else match SP p with
  |none=>none
  |some X=>sZ (SK R X) true ps
def QW (ps:List ByteArray):Bool:=match sZ zG false ps with
 |some (_,f)=>f
 |none=>false
def QX (ps:List ByteArray):Rg:=match sZ zG false ps with
 |some (R,_)=>R
 |none=>[]
def SQ:Rg→List ByteArray→Option Rg
 |R,[]=>some R
 |R,a::l=>if QW (sY a ⟨#[32]⟩)=true then SQ (SL R (QX (sY a ⟨#[32]⟩))) l else none
def TO (s:ByteArray):Option Rg:=SQ [] (sY s ⟨#[124,124]⟩)
def SR:Option Rg→Rg
 |none=>[]
 |some R=>TN R
def TP:Option Rg→Int
 |none=>21
 |some R=>SM R.length
def fP (a b c x y z:Int):ByteArray:=
 if a=x∧b=y∧c=z then aZ a b c else if (a=0∧b=0∧c=0)∧(x=999∧y=999∧z=999) then ⟨#[42]⟩ else if a=0∧b=0∧c=0 then ⟨#[60,61]⟩++aZ x y z else
 if x=999∧y=999∧z=999 then ⟨#[62,61]⟩++aZ a b c else ((⟨#[62,61]⟩++aZ a b c)++⟨#[32,60,61]⟩)++aZ x y z
theorem dB (a b c:Int):(aZ a b c).size≤11:=by
 unfold aZ
 split
 · rename_i h
   obtain ⟨a0,a1,b0,b1,c0,c1⟩:=dI h;have za:=dK a0 a1;have zb:=dK b0 b1;have zc:=dK c0 c1;have zd:(⟨#[46]⟩:ByteArray).size=1:=rfl;rw [bW,bW,bW,bW];omega
 · decide
set_option maxHeartbeats 3200000 in
theorem qS (a b c x y z:Int) (w:World) (he:Env w) (hf:FL w):
 Calls Tryz.prog 242 #[.agg #[.int .i64 a,.int .i64 b,.int .i64 c,.int .i64 x,.int .i64 y,.int .i64 z]] w fun e w'=>e= .returned (.string (fP a b c x y z))∧Below w.heap.size w w':=by
 have hg:=nP;have HPL:Hid (∀ w1,Below w.heap.size w w1→Calls Tryz.prog 125 #[.agg #[.int .i64 a,.int .i64 b,.int .i64 c]] w1 fun e w'=>e= .returned (.string (aZ a b c))∧Below w1.heap.size w1 w'):=fun w1 hb=>kH he.tab a b c w1 hb
 have HPH:Hid (∀ w1,Below w.heap.size w w1→Calls Tryz.prog 125 #[.agg #[.int .i64 x,.int .i64 y,.int .i64 z]] w1 fun e w'=>e= .returned (.string (aZ x y z))∧Below w1.heap.size w1 w'):=fun w1 hb=>kH he.tab x y z w1 hb
 have HO:Hid (Below w.heap.size w (w.alloc (.cells #[.int .i64 a,.int .i64 b,.int .i64 c,.int .i64 x,.int .i64 y,.int .i64 z] 210))∧Bx6 (w.alloc (.cells #[.int .i64 a,.int .i64 b,.int .i64 c,.int .i64 x,.int .i64 y,.int .i64 z] 210)) w.heap.size a b c x y z):=⟨aD _ _,Bx6.new rfl _ _ _ _ _ _⟩;have HK:Hid (KeepP fun w1=>Below w.heap.size w w1∧Bx6 w1 w.heap.size a b c x y z):=(aO w).and (IV _ _ _ _ _ _ _);obtain ⟨⟨g0,g1,g2⟩,⟨l0,l1,l2⟩,_,_⟩:=hf.below (aD w (.cells #[.int .i64 a,.int .i64 b,.int .i64 c,.int .i64 x,.int .i64 y,.int .i64 z] 210));have e1:=NG a b c x y z;have e2:=NG a b c 0 0 0;have e3:=NG x y z 999 999 999;clear hf he
 by_cases h1:a=x∧b=y∧c=z
 · have HT:Hid (fP a b c x y z=aZ a b c):=by unfold Hid fP;rw [if_pos h1]
   rw [decide_eq_true h1] at e1;clear h1 e2 e3
   go_enter Tryz.func242,Tryz.ntmps242
   go_wp2_with (go_at_call 125;refine (HPL.out _ HO.out.1).mono ?_;rintro e w1 ⟨rfl,ok1⟩;have HO1:=aB ok1;clear ok1)
   go_ret;exact ⟨by rw [HT.out];rfl,aA HO.out.1 HO1.out⟩
 rw [decide_eq_false h1] at e1
 by_cases h2:a=0∧b=0∧c=0
 · rw [decide_eq_true h2] at e2
   by_cases h3:x=999∧y=999∧z=999
   · rw [decide_eq_true h3] at e3
     have HT:Hid (fP a b c x y z=⟨#[42]⟩):=by unfold Hid fP;rw [if_neg h1,if_pos ⟨h2,h3⟩]
     clear h1 h2 h3
     go_enter Tryz.func242,Tryz.ntmps242
     go_wp2_with fail
     go_ret;exact ⟨by rw [HT.out];rfl,HO.out.1⟩
   · rw [decide_eq_false h3] at e3
     have HT:Hid (fP a b c x y z=⟨#[60,61]⟩++aZ x y z):=by unfold Hid fP;rw [if_neg h1,if_neg (fun h=>h3 h.2),if_pos h2]
     clear h1 h2 h3;have zT:=dB x y z;have z2:(⟨#[60,61]⟩:ByteArray).size=2:=rfl;generalize aZ x y z=T at*;have s1:=fun W:World=>run_string_add_sum (P:=Tryz.prog) (w:=W) ⟨#[60,61]⟩ T (by omega)
     clear zT z2
     go_enter Tryz.func242,Tryz.ntmps242
     go_wp2_with (go_at_call 125;refine (HPH.out _ HO.out.1).mono ?_;rintro e w1 ⟨rfl,ok1⟩;have HO1:=aB ok1;clear ok1)
     go_ret;exact ⟨by rw [HT.out];rfl,aA HO.out.1 HO1.out⟩
 · rw [decide_eq_false h2] at e2
   by_cases h3:x=999∧y=999∧z=999
   · rw [decide_eq_true h3] at e3
     have HT:Hid (fP a b c x y z=⟨#[62,61]⟩++aZ a b c):=by unfold Hid fP;rw [if_neg h1,if_neg (fun h=>h2 h.1),if_neg h2,if_pos h3]
     clear h1 h2 h3;have zT:=dB a b c;have z2:(⟨#[62,61]⟩:ByteArray).size=2:=rfl;generalize aZ a b c=T at*;have s1:=fun W:World=>run_string_add_sum (P:=Tryz.prog) (w:=W) ⟨#[62,61]⟩ T (by omega)
     clear zT z2
     go_enter Tryz.func242,Tryz.ntmps242
     go_wp2_with (go_at_call 125;refine (HPL.out _ HO.out.1).mono ?_;rintro e w1 ⟨rfl,ok1⟩;have HO1:=aB ok1;clear ok1)
     go_ret;exact ⟨by rw [HT.out];rfl,aA HO.out.1 HO1.out⟩
   · rw [decide_eq_false h3] at e3
     have HT:Hid (fP a b c x y z=((⟨#[62,61]⟩++aZ a b c)++⟨#[32,60,61]⟩)++aZ x y z):=by unfold Hid fP;rw [if_neg h1,if_neg (fun h=>h2 h.1),if_neg h2,if_neg h3]
     have HQL:Hid (∀ w1,(Below w.heap.size w w1∧Bx6 w1 w.heap.size a b c x y z)→Calls Tryz.prog 125 #[.agg #[.int .i64 a,.int .i64 b,.int .i64 c]] w1 fun e w'=>e= .returned (.string (aZ a b c))∧Below w1.heap.size w1 w'):=fun w1 h=>HPL.out w1 h.1
     have HQH:Hid (∀ w1,(Below w.heap.size w w1∧Bx6 w1 w.heap.size a b c x y z)→Calls Tryz.prog 125 #[.agg #[.int .i64 x,.int .i64 y,.int .i64 z]] w1 fun e w'=>e= .returned (.string (aZ x y z))∧Below w1.heap.size w1 w'):=fun w1 h=>HPH.out w1 h.1
     clear h1 h2 h3;have zT:=dB a b c;have zU:=dB x y z;have z2:(⟨#[62,61]⟩:ByteArray).size=2:=rfl;have z3:(⟨#[32,60,61]⟩:ByteArray).size=3:=rfl;generalize aZ a b c=T at*;generalize aZ x y z=U at*;have s1:=fun W:World=>run_string_add_sum (P:=Tryz.prog) (w:=W) ⟨#[62,61]⟩ T (by omega)
     have s2:=fun W:World=>run_string_add_sum (P:=Tryz.prog) (w:=W) (⟨#[62,61]⟩++T) ⟨#[32,60,61]⟩ (by rw [bW];omega)
     have s3:=fun W:World=>run_string_add_sum (P:=Tryz.prog) (w:=W) ((⟨#[62,61]⟩++T)++⟨#[32,60,61]⟩) U (by rw [bW,bW];omega)
     clear zT zU z2 z3
     go_enter Tryz.func242,Tryz.ntmps242
     go_wp2_with fail
     refine cI HK (by kernel_rfl) (by kernel_rfl) (by first|exact HO.out|exact HK.out.drew HO.out) ?_;intro C HIN HOUT;clear HO
     repeat
      (with_reducible refine wpQuiet_step (fun K hK=> ?_)
       go_simp
       first
        |(refine hK _ ?_;clear hK K)
        |(apply Exists.intro;refine ⟨fun w1 hC=> ?_,hK _ ?_⟩;(focus ((first|(go_at_call 125;with_reducible exact bA HIN HOUT HK HQL.out w1 hC)|(go_at_call 125;with_reducible exact bA HIN HOUT HK HQH.out w1 hC)|(exact rfl)|(obtain ⟨hb1,k0,k1,k2,k3,k4,k5,k6⟩:=HOUT.out w1 hC;clear hC;go_simp;first|done|exact rfl));done));clear hK K))
     refine wpQuiet_nil ?_;intro wn hC;have HO:=aB (HOUT.out _ hC);clear hC HIN HOUT C;obtain ⟨hb1,k0,k1,k2,k3,k4,k5,k6⟩:=HO.out
     go_wp2
     go_ret;exact ⟨by rw [HT.out];rfl,HO.out.1⟩
theorem iO:(Tryz.prog.info? 9).map (fun i=>(i.zero,i.size,i.bytes))=some (some (.string ByteArray.empty),1,16):=by kernel_rfl
def OwnT (w:World) (B:Nat) (v:Value) (ts:List ByteArray):Prop:=w.ownsRow B 9 1 v ts.length (ts.map Value.string)
theorem OwnT.nil (w:World) (B:Nat):OwnT w B (.slice none 0 0) []:=⟨rfl,Or.inl ⟨rfl,rfl⟩⟩
theorem OwnT.lt {w:World} {B:Nat} {v:Value} {L:List ByteArray} (h:OwnT w B v L) {g:Nat} (hg:v.ownBlock=some g):g<w.heap.size∧B≤g:=by
 rcases h.2 with ⟨rfl,_⟩|⟨g',cap,cur,rfl,hB,hgg,_⟩
 · cases hg
 · cases hg
   exact ⟨by rw [Array.getElem?_eq_some_iff] at hgg;exact hgg.1,hB⟩
theorem OwnT.below {w w':World} {B:Nat} {v:Value} {L:List ByteArray} (h:OwnT w B v L) (hb:Below w.heap.size w w'):OwnT w' B v L:=by
 refine ⟨h.1,?_⟩;have hl:=fun g hg=>(h.lt (g:=g) hg).1
 rcases h.2 with hn|⟨g,cap,cur,rfl,hB,hgg,r⟩
 · exact Or.inl hn
 · exact Or.inr ⟨g,cap,cur,rfl,hB,(hb.block g (hl g rfl)).trans hgg,r⟩
theorem NO {w wx:World} {uo:Value} {ts:List ByteArray} {tx:ByteArray} {ops:Array Oper} {rest:List Oper} {o:Oper} {f:Act} {Q:Exit→Act→World→Prop} (hgd:o.guard=none) (s t:Operand)
 (ho:o.op= .call { callee:= .builtin .append,args:= #[s,t],argTypes:= #[50,50] }) (hs:f.eval s=uo)
 (hK:Below w.heap.size w wx∧OwnT wx w.heap.size uo ts) {M:Nat} (hM:wx.heap.size=M) (hx:f.eval t= .slice (some ⟨M,0,none⟩) 1 1) (hlen:ts.length+1≤1000000000000)
 (h:∀ v1 w1,(Below w.heap.size w w1∧OwnT w1 w.heap.size v1 (ts++[tx]))→wpList Tryz.prog ops Q rest (f.put o.dst v1) w1):
 wpList Tryz.prog ops Q (o::rest) f (wx.alloc (.cells #[.string tx] 9)):=by
 subst hM
 obtain ⟨i0,hi,hz0,hz1,hz2⟩:∃ i,Tryz.prog.info? 9=some i∧i.zero=some (.string ByteArray.empty)∧i.size=1∧i.bytes=16:=by
  have:=iO
  cases hq:Tryz.prog.info? 9 with
  |none=>rw [hq] at this;cases this
  |some i=>
   rw [hq] at this;simp only [Option.map_some,Option.some.injEq,Prod.mk.injEq] at this;exact ⟨i,rfl,this.1,this.2.1,this.2.2⟩
 have hob:OwnT (wx.alloc (.cells #[.string tx] 9)) w.heap.size uo ts:=hK.2.below (aD _ _);have hsz:(wx.alloc (.cells #[.string tx] 9)).heap.size=wx.heap.size+1:=by simp
 have hwx:=hK.1.size
 refine wpList_append_own_at _ hgd s t 50 ho w.heap.size 9 i0 _ 1 16 Tryz.underlying50 hi hz0 hz1 hz2 rfl (by decide) uo _ _ hs hob ⟨wx.heap.size,0,none⟩ 1 1 [.string tx] hx rfl
  (World.news_of_block (cs:= #[.string tx]) (t:=9) (fr:=(0,0)) (by show (wx.heap.push _)[wx.heap.size]? =_;rw [Array.getElem?_push,if_pos rfl])) (by simp [Value.oneCell']) (by unfold maxLen;omega) (by omega) (by omega) ?_
 intro v1 w1 hown1 hg1 _ hat;refine h v1 w1 ⟨(aA hK.1 (aD _ _)).grown hg1 (by omega) (fun k hk=>(hK.2.lt hk).2),?_⟩;unfold OwnT;rw [List.map_append,List.map_singleton,List.length_append];exact hown1
def spT (p:Int×Int):ByteArray:=fP (atA p.1) (atB p.1) (atC p.1) (atA p.2) (atB p.2) (atC p.2)
def iC (A:Rg):ByteArray:=match A with
 |[]=>⟨#[60]⟩++aZ 0 0 0
 |p::A=>⟨(Lib.join ((p::A).map fun p=>(spT p).data.toList) [32,124,124,32]).toArray⟩
theorem oA (a b c x y z:Int):(fP a b c x y z).size≤27:=by
 have h1:=dB a b c;have h2:=dB x y z;have z2:(⟨#[62,61]⟩:ByteArray).size=2:=rfl;have z4:(⟨#[60,61]⟩:ByteArray).size=2:=rfl;have z5:(⟨#[42]⟩:ByteArray).size=1:=rfl;have z3:(⟨#[32,60,61]⟩:ByteArray).size=3:=rfl;unfold fP
 repeat' split
 all_goals first|omega|(simp only [bW];omega)
theorem tA (m:Nat):∀ (l:List (List UInt8)),(∀ x ∈ l,x.length≤m)→Lib.lens l≤m*l.length
 |[],_=>by simp [Lib.lens]
 |x::l,h=>by
  have ih:=tA m l fun y hy=>h y (List.mem_cons_of_mem _ hy)
  have hx:=h x List.mem_cons_self
  have:Lib.lens (x::l)=x.length+Lib.lens l:=by simp [Lib.lens]
  rw [this,List.length_cons,Nat.mul_succ];omega
theorem EN {A:Rg} (h:A.length≤64):(Lib.join (A.map fun p=>(spT p).data.toList) [32,124,124,32]).length≤10000:=by
 cases A with
 |nil=>simp [Lib.join_nil]
 |cons p A=>
  rw [List.map_cons,Lib.join_length,←List.map_cons (f:=fun p=>(spT p).data.toList)]
  have:=tA 27 ((p::A).map fun p=>(spT p).data.toList) (by
   intro x hx;obtain ⟨q,_,rfl⟩:=List.mem_map.1 hx;exact oA _ _ _ _ _ _)
  simp only [List.length_map,List.length_cons,List.length_nil] at*;omega
theorem IZ {w:World} {B:Nat} {v:Value} {A:Rg} (h:OwnT w B v (A.map spT)) (hl:A.length≤64) (h0:A≠[]):
 Calls Tryz.prog 172 #[v,.string ⟨#[32,124,124,32]⟩] w fun e w'=>e= .returned (.string (iC A))∧Below w.heap.size w w':=by
 have hlt:=fun g hg=>(h.lt (g:=g) hg).1
 rcases h.2 with ⟨_,hn⟩|⟨g,cap,cur,rfl,hB,hgg,hc,hm,hs,hx⟩
 · rw [List.length_map] at hn
   exact (h0 (List.eq_nil_of_length_eq_zero hn)).elim
 · have hj:=EN hl
   have hmm:(A.map spT).map (·.data.toList)=A.map fun p=>(spT p).data.toList:=by rw [List.map_map];rfl
   refine (Tryz.strings_Join g 0 cap (A.map spT) ⟨#[32,124,124,32]⟩ w ?_ (hlt g rfl) (by rw [List.length_map];omega) hc (by rw [hmm];show (Lib.join _ [32,124,124,32]).length≤_;omega)).mono ?_
   · intro j x hj
     have:(((A.map spT).map Value.string))[j]? =some (.string x):=by rw [List.getElem?_map,hj];rfl
     rw [←hx,List.getElem?_take] at this
     split at this
     · rw [Nat.zero_add]
       simp [World.cell?,hgg]
       simpa using this
     · cases this
   · rintro e w' ⟨rfl,hb⟩
     refine ⟨?_,hb⟩;rw [hmm];cases A with
     |nil=>exact (h0 rfl).elim
     |cons p A=>rfl
set_option maxHeartbeats 3200000 in
theorem uZ (A:Rg) (g o cap:Nat) (w:World) (he:Env w) (hf:FL w) (hlen:A.length≤64) (h0:((A.length:Int)==0)=false) (hg:g<w.heap.size) (hl:∀ i (h:i<A.length),SpAt w g (o+i*6) (spR A[i]))
 (HMay:Hid (Calls Tryz.prog 241 #[.slice (some ⟨g,o,none⟩) A.length cap] w fun e w'=>e= .returned (.bool true)∧Below w.heap.size w w')):
 Calls Tryz.prog 199 #[.slice (some ⟨g,o,none⟩) A.length cap] w fun e w'=>e= .returned (.string (iC A))∧Below w.heap.size w w':=by
 have HL:Hid (∀ w1,Below w.heap.size w w1→∀ i (h:i<A.length),SpAt w1 g (o+i*6) (spR A[i])):=fun w1 hb i hi=>(hl i hi).below hb hg
 have HP:Hid (∀ (p:Int×Int) w1,Below w.heap.size w w1→Calls Tryz.prog 242 #[.agg #[.int .i64 (atA p.1),.int .i64 (atB p.1),.int .i64 (atC p.1),.int .i64 (atA p.2),.int .i64 (atB p.2),.int .i64 (atC p.2)]] w1 fun e w'=>e= .returned (.string (spT p))∧Below w1.heap.size w1 w'):=fun p w1 hb=>qS _ _ _ _ _ _ w1 (he.below hb) (hf.below hb)
 have HJ:Hid (∀ w1 v1,OwnT w1 w.heap.size v1 (A.map spT)→Calls Tryz.prog 172 #[v1,.string ⟨#[32,124,124,32]⟩] w1 fun e w'=>e= .returned (.string (iC A))∧Below w1.heap.size w1 w'):=fun w1 v1 h=>IZ h hlen (fun e=>by subst e;simp at h0)
 clear hl he hf
 go_enter Tryz.func199,Tryz.ntmps199
 go_wp2_with (go_at_call 241;refine HMay.out.mono ?_;rintro e w1 ⟨rfl,ok1⟩;have HO1:=aB ok1;clear ok1)
 go_loopw [3,17] (fun out i wr=>∃ k:Nat,k≤A.length∧i= .int .i64 k∧Below w.heap.size w wr∧OwnT wr w.heap.size out ((A.take k).map spT)) (fun _ i _=>A.length - (intOf i).toNat)
 case atStart=>exact ⟨0,Nat.zero_le _,rfl,HO1.out,OwnT.nil _ _⟩
 case round=>
  obtain ⟨k,hk,rfl,hb,hown⟩:=hrel;have HB:=aB hb;have HOWN:=aB hown;clear hown
  by_cases hlt:k<A.length
  · have hs:=HL.out wr hb k hlt
    have HD:Hid ((A.take k).map spT++[spT A[k]]=(A.take (k+1)).map spT):=by unfold Hid;rw [List.take_succ_eq_append_getElem hlt,List.map_append];rfl
    generalize A[k]=p at*;obtain ⟨lo,hi⟩:=p;obtain ⟨c0,c1,c2,c3,c4,c5⟩:=hs;simp only [spR] at c0 c1 c2 c3 c4 c5;have HPp:=aB (fun w1 hb=>HP.out (lo,hi) w1 hb);have HLN:Hid (((A.take k).map spT).length+1≤1000000000000):=by unfold Hid;simp;omega
    clear hb
    go_wp2_with (first
     |(go_at_call 242;refine (HPp.out _ (aA HB.out (aD _ _))).mono ?_;rintro e w2 ⟨rfl,ok2⟩;have HO2:Hid (Below w.heap.size w w2∧OwnT w2 w.heap.size u3 ((A.take k).map spT)):=⟨aA (aA HB.out (aD _ _)) ok2,(HOWN.out.below (aD _ _)).below ok2⟩;clear ok2)
     |(at_builtin;refine NO (uo:=u3) (ts:=(A.take k).map spT) rfl (.tmp 21) (.tmp 24) rfl rfl HO2.out rfl rfl HLN.out ?_;intro v3 w3 ok3;have HO3:=aB ok3;clear ok3))
    exact ⟨⟨k+1,by omega,by go_num,HO3.out.1,by rw [←HD.out];exact HO3.out.2⟩,by simp [intOf];omega⟩
  · have hke:k=A.length:=by omega
    subst hke;have HOW2:Hid (OwnT wr w.heap.size u3 (A.map spT)):=by have:=HOWN.out;rw [List.take_length] at this;exact this
    clear hb
    go_wp2_with (go_at_call 172;refine (HJ.out _ _ HOW2.out).mono ?_;rintro e w2 ⟨rfl,ok2⟩;have HO2:=aB ok2;clear ok2)
    go_ret;exact ⟨rfl,aA HB.out HO2.out⟩
theorem oB (ad:Option Addr) (cap:Nat) (w:World) (he:Env w) (hf:FL w):
 Calls Tryz.prog 199 #[.slice ad 0 cap] w fun e w'=>e= .returned (.string (iC []))∧Below w.heap.size w w':=by
 have HMay:=aB (uT ad cap w);have HP:Hid (∀ w1,Below w.heap.size w w1→Calls Tryz.prog 125 #[.agg #[.int .i64 0,.int .i64 0,.int .i64 0]] w1 fun e w'=>e= .returned (.string (aZ 0 0 0))∧Below w1.heap.size w1 w'):=fun w1 hb=>kH he.tab 0 0 0 w1 hb
 have HF:=aB hf;have HR:Hid (iC []=⟨#[60]⟩++aZ 0 0 0):=rfl;have zT:=dB 0 0 0;have z2:(⟨#[60]⟩:ByteArray).size=1:=rfl;generalize aZ 0 0 0=T at*;have s1:=fun W:World=>run_string_add_sum (P:=Tryz.prog) (w:=W) ⟨#[60]⟩ T (by omega)
 clear zT z2 he hf
 go_enter Tryz.func199,Tryz.ntmps199
 go_wp2_with (first
  |(go_at_call 241;refine HMay.out.mono ?_;rintro e w1 ⟨rfl,ok1⟩;obtain ⟨⟨g0,g1,g2⟩,_⟩:=HF.out.below ok1;have HO1:=aB ok1;clear ok1)
  |(go_at_call 125;refine (HP.out _ HO1.out).mono ?_;rintro e w2 ⟨rfl,ok2⟩;have HO2:=aB ok2;clear ok2))
 go_ret;exact ⟨by rw [HR.out];rfl,aA HO1.out HO2.out⟩
theorem EO {A:Rg} (hA:RangeR A) (hl:A.length≤64) {v:Value} {w:World} (h:SpansR w v A) (he:Env w) (hf:FL w):
 Calls Tryz.prog 199 #[v] w fun e w'=>e= .returned (.string (iC A))∧Below w.heap.size w w':=by
 have HM:Hid (Calls Tryz.prog 241 #[v] w fun e w'=>e= .returned (.bool true)∧Below w.heap.size w w'):=by have:=uU h.at;rw [QP hA hl] at this;exact this
 obtain ⟨ad,cap,rfl,hc,hs⟩:=h
 rcases hs with rfl|⟨g,o,rfl,hg,hs⟩
 · exact oB ad cap w he hf
 · cases A with
   |nil=>exact oB _ cap w he hf
   |cons p A=>exact uZ (p::A) g o cap w he hf hl (by simp;omega) hg hs HM
theorem NP (op:BinOp) (x y:Operand) (xs ys:Array Value) (w:World):(eqGuard op 210 x y (.agg xs) (.agg ys)).run Tryz.prog w= .ok () w:=run_eqGuard_agg w op 210 x y xs ys (by kernel_rfl)
noncomputable def eqB {α:Type} (x y:α):Bool:= @decide (x=y) (Classical.propDecidable _)
theorem bJ {α:Type} {x y:α} (h:x=y):eqB x y=true:=by unfold eqB;exact @decide_eq_true _ (Classical.propDecidable _) h
theorem cG {α:Type} {x y:α} (h:x≠y):eqB x y=false:=by unfold eqB;exact @decide_eq_false _ (Classical.propDecidable _) h
theorem eO {α:Type} {x y:α}:eqB x y=true↔x=y:=⟨fun h=>by unfold eqB at h;exact @of_decide_eq_true _ (Classical.propDecidable _) h,bJ⟩
theorem JA (p q r p' q' r':Int) (w:World):(Op.equalIn 9999 52 (.agg #[.int .i64 p,.int .i64 q,.int .i64 r]) (.agg #[.int .i64 p',.int .i64 q',.int .i64 r'])).run Tryz.prog w= .ok (decide (p=p')&&decide (q=q')&&decide (r=r')) w:=by
 have u3:=Tryz.underlying3;have a3:=Tryz.isAgg3;have z3:=Tryz.sizeOf3;rw [show (9999:Nat)=9998+1 from rfl,run_equalIn_agg w 9998 52 _ _ (by kernel_rfl) (by kernel_rfl)];simp only [Program.fieldsOf,Tryz.underlying52]
 by_cases h1:p=p'
 · by_cases h2:q=q'
   · by_cases h3:r=r'
     · subst h1 h2 h3;go_simp
     · subst h1 h2;simp only [h3,decide_false,Bool.and_false];go_simp
   · subst h1;simp only [h2,decide_false,Bool.and_false,Bool.false_and];go_simp
 · simp only [h1,decide_false,Bool.false_and];go_simp
theorem SS (p q r p' q' r':Int) (w:World):(binOp .eql 52 (.agg #[.int .i64 p,.int .i64 q,.int .i64 r]) (.agg #[.int .i64 p',.int .i64 q',.int .i64 r'])).run Tryz.prog w= .ok (.bool (decide (p=p')&&decide (q=q')&&decide (r=r'))) w:=by
 have u3:=Tryz.underlying3;have a3:=Tryz.isAgg3;have z3:=Tryz.sizeOf3;rw [run_eql_struct,show (10000:Nat)=9999+1 from rfl,run_equalIn_agg w 9999 52 _ _ (by kernel_rfl) (by kernel_rfl)];simp only [Program.fieldsOf,Tryz.underlying52]
 by_cases h1:p=p'
 · by_cases h2:q=q'
   · by_cases h3:r=r'
     · subst h1 h2 h3;go_simp
     · subst h1 h2;simp only [h3,decide_false,Bool.and_false];go_simp
   · subst h1;simp only [h2,decide_false,Bool.and_false,Bool.false_and];go_simp
 · simp only [h1,decide_false,Bool.false_and];go_simp
def eqS (s t:Sp):Bool:=decide (s.a=t.a)&&decide (s.b=t.b)&&decide (s.c=t.c)&&(decide (s.x=t.x)&&decide (s.y=t.y)&&decide (s.z=t.z))
theorem nE {s t:Sp}:eqS s t=true↔s=t:=by
 obtain ⟨a,b,c,x,y,z⟩:=s;obtain ⟨a',b',c',x',y',z'⟩:=t;unfold eqS;simp only [Bool.and_eq_true,decide_eq_true_eq,Sp.mk.injEq];exact ⟨fun ⟨⟨⟨h1,h2⟩,h3⟩,⟨h4,h5⟩,h6⟩=>⟨h1,h2,h3,h4,h5,h6⟩,fun ⟨h1,h2,h3,h4,h5,h6⟩=>⟨⟨⟨h1,h2⟩,h3⟩,⟨h4,h5⟩,h6⟩⟩
theorem QY (a b c x y z a' b' c' x' y' z':Int) (w:World):(binOp .neq 210 (.agg #[.int .i64 a,.int .i64 b,.int .i64 c,.int .i64 x,.int .i64 y,.int .i64 z]) (.agg #[.int .i64 a',.int .i64 b',.int .i64 c',.int .i64 x',.int .i64 y',.int .i64 z'])).run Tryz.prog w= .ok (.bool (!(eqS ⟨a,b,c,x,y,z⟩ ⟨a',b',c',x',y',z'⟩))) w:=by
 have av:=Tryz.isAgg52;have zv:=Tryz.sizeOf52;have h1:=JA a b c a' b' c' w;have h2:=JA x y z x' y' z' w;rw [run_neq_struct,show (10000:Nat)=9999+1 from rfl,run_equalIn_agg w 9999 210 _ _ (by kernel_rfl) (by kernel_rfl)];simp only [Program.fieldsOf,Tryz.underlying210];cases hq:eqS ⟨a,b,c,x,y,z⟩ ⟨a',b',c',x',y',z'⟩
 · have hn:¬ (a=a'∧b=b'∧c=c'∧x=x'∧y=y'∧z=z'):=by
    rintro ⟨rfl,rfl,rfl,rfl,rfl,rfl⟩;rw [nE.2 rfl] at hq;cases hq
   go_simp;intro e1 e2 e3 e4 e5 e6;exact hn ⟨e1,e2,e3,e4,e5,e6⟩
 · obtain ⟨rfl,rfl,rfl,rfl,rfl,rfl⟩:=Sp.mk.injEq .. ▸ nE.1 hq
   go_simp
set_option maxHeartbeats 1600000 in
theorem zL (A B:List Sp) (hAB:A.length=B.length) (hsz:A.length≤9223372036854775807) (ga oa ca gb ob cb:Nat) (w:World) (hga:ga<w.heap.size) (hgb:gb<w.heap.size) (hla:∀ i (h:i<A.length),SpAt w ga (oa+i*6) A[i]) (hlb:∀ i (h:i<B.length),SpAt w gb (ob+i*6) B[i]):
 Calls Tryz.prog 243 #[.slice (some ⟨ga,oa,none⟩) A.length ca,.slice (some ⟨gb,ob,none⟩) B.length cb] w fun e w'=>e= .returned (.bool (eqB A B))∧Below w.heap.size w w':=by
 have HL:Hid (∀ w1,Below w.heap.size w w1→∀ i (h:i<A.length) (h2:i<B.length),sV w1 ga (oa+i*6) A[i]∧sV w1 gb (ob+i*6) B[i]):=fun w1 hb i hi hi2=>⟨⟨(hla i hi).below hb hga,Nat.lt_of_lt_of_le hga hb.size⟩,⟨(hlb i hi2).below hb hgb,Nat.lt_of_lt_of_le hgb hb.size⟩⟩
 have HAB:=aB hAB;clear hla hlb;rw [←hAB];clear hAB
 go_enter Tryz.func243,Tryz.ntmps243
 go_wp2_with fail
 go_loopw [13] (fun i wr=>∃ k:Nat,k≤A.length∧i= .int .i64 k∧Below w.heap.size w wr∧∀ j (h:j<k) (h1:j<A.length) (h2:j<B.length),A[j]=B[j]) (fun i _=>A.length - (intOf i).toNat)
 case atStart=>exact ⟨0,Nat.zero_le _,rfl,Below.refl _ _,fun j h=>by omega⟩
 case round=>
  obtain ⟨k,hk,rfl,hb,hall⟩:=hrel;have HALL:=aB hall;have HB:=aB hb;clear hall
  by_cases hlt:k<A.length
  · have hltB:k<B.length:=HAB.out ▸ hlt
    have HO:Hid (Below w.heap.size w wr∧sV wr ga (oa+k*6) A[k]∧sV wr gb (ob+k*6) B[k]):=⟨hb,HL.out wr hb k hlt hltB⟩;have HK:Hid (KeepP fun w1=>Below w.heap.size w w1∧sV w1 ga (oa+k*6) A[k]∧sV w1 gb (ob+k*6) B[k]):=(aO w).and ((sW _ _ _).and (sW _ _ _));have HNE:Hid (eqS A[k] B[k]=false→eqB A B=false):=fun h=>cG fun e=>by subst e;rw [(nE).2 rfl] at h;cases h
    have HST:Hid (eqS A[k] B[k]=true→∀ j (h:j<k+1) (h1:j<A.length) (h2:j<B.length),A[j]=B[j]):=fun h j hj h1 h2=>by
     rcases Nat.lt_or_ge j k with hjk|hjk
     · exact HALL.out j hjk h1 h2
     · obtain rfl:j=k:=by omega
       exact nE.1 h
    generalize A[k]=s at*;generalize B[k]=t at*;obtain ⟨a,b,c,x,y,z⟩:=s;obtain ⟨a',b',c',x',y',z'⟩:=t;have he:=QY a b c x y z a' b' c' x' y' z';have hgd:=NP;cases hq:eqS ⟨a,b,c,x,y,z⟩ ⟨a',b',c',x',y',z'⟩
    · have HR:=aB (HNE.out hq)
      rw [hq] at he;clear hb HNE HST HALL
      go_wp2_with fail
      refine cI HK (by kernel_rfl) (by kernel_rfl) (by first|exact HO.out|exact HK.out.drew HO.out) ?_;intro C HIN HOUT;clear HO
      repeat
       (with_reducible refine wpQuiet_step (fun K hK=> ?_)
        go_simp
        first
         |(refine hK _ ?_;clear hK K)
         |(apply Exists.intro;refine ⟨fun w1 hC=> ?_,hK _ ?_⟩;(focus ((first|(exact rfl)|(obtain ⟨hb1,⟨⟨p0,p1,p2,p3,p4,p5⟩,p6⟩,⟨⟨q0,q1,q2,q3,q4,q5⟩,q6⟩⟩:=HOUT.out w1 hC;clear hC;go_simp;first|done|exact rfl));done));clear hK K))
      refine wpQuiet_nil ?_;intro wn hC;have HO:=aB (HOUT.out _ hC);clear hC HIN HOUT C;obtain ⟨hb1,⟨⟨p0,p1,p2,p3,p4,p5⟩,p6⟩,⟨⟨q0,q1,q2,q3,q4,q5⟩,q6⟩⟩:=HO.out
      go_wp2
      go_ret;exact ⟨aC HR.out.symm,HO.out.1⟩
    · have HR:=aB (HST.out hq)
      rw [hq] at he;clear hb HNE HST HALL
      go_wp2_with fail
      refine cI HK (by kernel_rfl) (by kernel_rfl) (by first|exact HO.out|exact HK.out.drew HO.out) ?_;intro C HIN HOUT;clear HO
      repeat
       (with_reducible refine wpQuiet_step (fun K hK=> ?_)
        go_simp
        first
         |(refine hK _ ?_;clear hK K)
         |(apply Exists.intro;refine ⟨fun w1 hC=> ?_,hK _ ?_⟩;(focus ((first|(exact rfl)|(obtain ⟨hb1,⟨⟨p0,p1,p2,p3,p4,p5⟩,p6⟩,⟨⟨q0,q1,q2,q3,q4,q5⟩,q6⟩⟩:=HOUT.out w1 hC;clear hC;go_simp;first|done|exact rfl));done));clear hK K))
      refine wpQuiet_nil ?_;intro wn hC;have HO:=aB (HOUT.out _ hC);clear hC HIN HOUT C;obtain ⟨hb1,⟨⟨p0,p1,p2,p3,p4,p5⟩,p6⟩,⟨⟨q0,q1,q2,q3,q4,q5⟩,q6⟩⟩:=HO.out
      go_wp2
      exact ⟨⟨k+1,by omega,by go_num,HO.out.1,HR.out⟩,by simp [intOf];omega⟩
  · have hke:k=A.length:=by omega
    subst hke;have HR:Hid (eqB A B=true):=bJ (List.ext_getElem HAB.out fun j h1 h2=>HALL.out j h1 h1 h2);clear hb
    go_wp2
    go_ret;exact ⟨aC HR.out.symm,HB.out⟩
theorem rM (ad bd:Option Addr) (ca cb:Nat) (w:World):
 Calls Tryz.prog 243 #[.slice ad 0 ca,.slice bd 0 cb] w fun e w'=>e= .returned (.bool true)∧Below w.heap.size w w':=by
 go_enter Tryz.func243,Tryz.ntmps243
 go_wp2_with fail
 go_loop [13] (fun i=>i= .int .i64 0) (fun _=>0)
 case atStart=>rfl
 case round=>
  subst hrel
  go_wp2
  go_ret;exact ⟨rfl,Below.refl _ _⟩
theorem EP (ad bd:Option Addr) (n m ca cb:Nat) (h:n≠m) (w:World):
 Calls Tryz.prog 243 #[.slice ad n ca,.slice bd m cb] w fun e w'=>e= .returned (.bool false)∧Below w.heap.size w w':=by
 have hn:((n:Int)=(m:Int))=False:=by simp;omega
 go_enter Tryz.func243,Tryz.ntmps243
 go_wp2
 go_ret;exact ⟨rfl,Below.refl _ _⟩
theorem EQ {A B:List Sp} {va vb:Value} {w:World} (ha:SpansAt w va A) (hb:SpansAt w vb B) (hsz:A.length≤9223372036854775807):
 Calls Tryz.prog 243 #[va,vb] w fun e w'=>e= .returned (.bool (eqB A B))∧Below w.heap.size w w':=by
 obtain ⟨ad,ca,rfl,hl⟩:=ha;obtain ⟨bd,cb,rfl,hm⟩:=hb
 by_cases hn:A.length=B.length
 · rcases hl with rfl|⟨ga,oa,rfl,hga,hla⟩
   · obtain rfl:B=[]:=List.eq_nil_of_length_eq_zero (by simpa using hn.symm)
     rw [bJ rfl];exact rM _ _ _ _ w
   · rcases hm with rfl|⟨gb,ob,rfl,hgb,hlb⟩
     · obtain rfl:A=[]:=List.eq_nil_of_length_eq_zero (by simpa using hn)
       rw [bJ rfl];exact rM _ _ _ _ w
     · exact zL A B hn hsz ga oa ca gb ob cb w hga hgb hla hlb
 · rw [cG fun e=>hn (by rw [e])]
   exact EP _ _ _ _ _ _ hn w
structure Dp where
 nm:ByteArray
 rg:List Sp
theorem SpansAt.sl {w:World} {v:Value} {L:List Sp} (h:SpansAt w v L):∃ ad cap,v= .slice ad L.length cap:=by
 obtain ⟨ad,cap,rfl,_⟩:=h;exact ⟨ad,cap,rfl⟩
def DpIn (w:World) (g o:Nat) (d:Dp) (u:Value):Prop:=w.cell? ⟨g,o,none⟩=some (.string d.nm)∧w.cell? ⟨g,o+1,none⟩=some u∧(SpansC w u d.rg∧d.rg.length≤9223372036854775807)∧g<w.heap.size
def DepsAt (w:World) (v:Value) (L:List Dp):Prop:=∃ ad cap,v= .slice ad L.length cap∧L.length≤cap∧(L=[]∨∃ g o,ad=some ⟨g,o,none⟩∧g<w.heap.size∧∀ i (h:i<L.length),∃ u,DpIn w g (o+i*2) L[i] u)
theorem DpIn.below {w w':World} {g o:Nat} {d:Dp} {u:Value} (h:DpIn w g o d u) (hb:Below w.heap.size w w'):DpIn w' g o d u:=
 ⟨(hb.cell (p:=⟨g,o,none⟩) h.2.2.2).trans h.1,(hb.cell (p:=⟨g,o+1,none⟩) h.2.2.2).trans h.2.1,⟨⟨h.2.2.1.1.1.below hb,h.2.2.1.1.2⟩,h.2.2.1.2⟩,Nat.lt_of_lt_of_le h.2.2.2 hb.size⟩
theorem DepsAt.below {w w':World} {v:Value} {L:List Dp} (h:DepsAt w v L) (hb:Below w.heap.size w w'):DepsAt w' v L:=by
 obtain ⟨ad,cap,hv,hc,hl⟩:=h;refine ⟨ad,cap,hv,hc,hl.imp id ?_⟩;rintro ⟨g,o,ha,hg,hs⟩;exact ⟨g,o,ha,Nat.lt_of_lt_of_le hg hb.size,fun i hi=>(hs i hi).imp fun u hu=>hu.below hb⟩
theorem JB (v:Value) (L:List Dp):KeepP fun w1=>DepsAt w1 v L:=fun _ _ h hb=>h.below hb
def BxD (w:World) (N:Nat) (s:ByteArray) (u:Value):Prop:=w.cell? ⟨N,0,none⟩=some (.string s)∧w.cell? ⟨N,1,none⟩=some u∧N<w.heap.size
theorem NQ (N:Nat) (s:ByteArray) (u:Value):KeepP fun w1=>BxD w1 N s u:=fun _ _ h hb=>
 ⟨(hb.cell (p:=⟨N,0,none⟩) h.2.2).trans h.1,(hb.cell (p:=⟨N,1,none⟩) h.2.2).trans h.2.1,Nat.lt_of_lt_of_le h.2.2 hb.size⟩
theorem BxD.new {w:World} {N:Nat} (hN:w.heap.size=N) (s:ByteArray) (u:Value):BxD (w.alloc (.cells #[.string s,u] 170)) N s u:=by
 subst hN;exact ⟨by simp,by simp,by simp⟩
theorem vA {d e:Dp} {u v:Value} {w:World} (hu:SpansAt w u d.rg) (hv:SpansAt w v e.rg) (hsz:d.rg.length≤9223372036854775807):
 Calls Tryz.prog 208 #[.agg #[.string d.nm,u],.agg #[.string e.nm,v]] w fun x w'=>x= .returned (.bool (eqB d e))∧Below w.heap.size w w':=by
 have HE:Hid (∀ w1,Below w.heap.size w w1→Calls Tryz.prog 243 #[u,v] w1 fun x w'=>x= .returned (.bool (eqB d.rg e.rg))∧Below w1.heap.size w1 w'):=fun w1 h=>EQ (hu.below h) (hv.below h) hsz
 obtain ⟨n,r⟩:=d;obtain ⟨m,q⟩:=e
 simp only at HE
 obtain ⟨ad,ca,rfl,_⟩:=hu;obtain ⟨bd,cb,rfl,_⟩:=hv;clear hsz
 simp only at HE
 by_cases hn:n=m
 · subst hn
   have HR:Hid (eqB (⟨n,r⟩:Dp) ⟨n,q⟩=eqB r q):=by
    unfold Hid
    by_cases h:r=q
    · rw [bJ h,bJ (by rw [h])]
    · rw [cG h,cG (fun e=>h (by injection e))]
   generalize eqB r q=b at*
   go_enter Tryz.func208,Tryz.ntmps208
   go_wp2_with (go_at_call 243;refine (HE.out _ (aV _ _ _)).mono ?_;rintro x w1 ⟨rfl,ok⟩)
   go_ret;exact ⟨aC HR.out.symm,aA (aV _ _ _) ok⟩
 · have HR:Hid (eqB (⟨n,r⟩:Dp) ⟨m,q⟩=false):=cG (fun e=>hn (by injection e))
   clear HE;have hl:(n.toList=m.toList)=False:=eq_false fun e=>hn (aY e)
   go_enter Tryz.func208,Tryz.ntmps208
   go_wp2
   go_ret;exact ⟨aC HR.out.symm,aV _ _ _⟩
set_option maxHeartbeats 1600000 in
theorem oC (A B:List Dp) (hAB:A.length=B.length) (hsz:A.length≤9223372036854775807) (ga oa ca gb ob cb:Nat) (w:World) (hla:∀ i (h:i<A.length),∃ u,DpIn w ga (oa+i*2) A[i] u) (hlb:∀ i (h:i<B.length),∃ u,DpIn w gb (ob+i*2) B[i] u):
 Calls Tryz.prog 207 #[.slice (some ⟨ga,oa,none⟩) A.length ca,.slice (some ⟨gb,ob,none⟩) B.length cb,.func (.func 208) #[] #[]] w fun e w'=>e= .returned (.bool (eqB A B))∧Below w.heap.size w w':=by
 have HL:Hid (∀ w1,Below w.heap.size w w1→∀ i (h:i<A.length) (h2:i<B.length),(∃ u,DpIn w1 ga (oa+i*2) A[i] u)∧∃ u,DpIn w1 gb (ob+i*2) B[i] u):=fun w1 hb i hi hi2=>⟨(hla i hi).imp fun u h=>h.below hb,(hlb i hi2).imp fun u h=>h.below hb⟩
 have HAB:=aB hAB;clear hla hlb;rw [←hAB];clear hAB
 go_enter Tryz.func207,Tryz.ntmps207
 go_wp2_with fail
 go_loopw [17] (fun i wr=>∃ k:Nat,k≤A.length∧i= .int .i64 k∧Below w.heap.size w wr∧∀ j (h:j<k) (h1:j<A.length) (h2:j<B.length),A[j]=B[j]) (fun i _=>A.length - (intOf i).toNat)
 case atStart=>exact ⟨0,Nat.zero_le _,rfl,Below.refl _ _,fun j h=>by omega⟩
 case round=>
  obtain ⟨k,hk,rfl,hb,hall⟩:=hrel;have HALL:=aB hall;have HB:=aB hb;clear hall
  by_cases hlt:k<A.length
  · have hltB:k<B.length:=HAB.out ▸ hlt
    obtain ⟨⟨u,p0,p1,⟨⟨hu,_⟩,hz⟩,p3⟩,⟨v,q0,q1,⟨⟨hv,_⟩,_⟩,q3⟩⟩:=HL.out wr hb k hlt hltB;have HC:Hid (∀ w1,Below wr.heap.size wr w1→Calls Tryz.prog 208 #[.agg #[.string A[k].nm,u],.agg #[.string B[k].nm,v]] w1 fun x w'=>x= .returned (.bool (eqB A[k] B[k]))∧Below w1.heap.size w1 w'):=fun w1 h=>vA (hu.below h) (hv.below h) hz
    have HNE:Hid (eqB A[k] B[k]=false→eqB A B=false):=fun h=>cG fun e=>by subst e;rw [bJ rfl] at h;cases h
    have HST:Hid (eqB A[k] B[k]=true→∀ j (h:j<k+1) (h1:j<A.length) (h2:j<B.length),A[j]=B[j]):=fun h j hj h1 h2=>by
     rcases Nat.lt_or_ge j k with hjk|hjk
     · exact HALL.out j hjk h1 h2
     · obtain rfl:j=k:=by omega
       exact eO.1 h
    obtain ⟨ad,ca,rfl⟩:=hu.sl;obtain ⟨bd,cb,rfl⟩:=hv.sl;clear hz hu hv;generalize A[k].rg.length=na at*;generalize B[k].rg.length=nb at*;generalize eqB A[k] B[k]=b at*;generalize A[k].nm=s at*;generalize B[k].nm=t at*;have q0':(wr.alloc (.cells #[.string s,.slice ad na ca] 170)).cell? ⟨gb,ob+k*2,none⟩=some (.string t):=((aD wr (.cells #[.string s,.slice ad na ca] 170)).cell (p:=⟨gb,ob+k*2,none⟩) q3).trans q0;have q1':(wr.alloc (.cells #[.string s,.slice ad na ca] 170)).cell? ⟨gb,ob+k*2+1,none⟩=some (.slice bd nb cb):=((aD wr (.cells #[.string s,.slice ad na ca] 170)).cell (p:=⟨gb,ob+k*2+1,none⟩) q3).trans q1;cases b
    · have HR:=aB (HNE.out rfl)
      clear hb HNE HST HALL
      go_wp2_with (go_at_call 208;refine (HC.out _ (aV _ _ _)).mono ?_;rintro x w1 ⟨rfl,ok⟩)
      go_ret;exact ⟨aC HR.out.symm,aA HB.out (aA (aV _ _ _) ok)⟩
    · have HR:=aB (HST.out rfl)
      clear hb HNE HST HALL
      go_wp2_with (go_at_call 208;refine (HC.out _ (aV _ _ _)).mono ?_;rintro x w1 ⟨rfl,ok⟩)
      exact ⟨⟨k+1,by omega,by go_num,aA HB.out (aA (aV _ _ _) ok),HR.out⟩,by simp [intOf];omega⟩
  · have hke:k=A.length:=by omega
    subst hke;have HR:Hid (eqB A B=true):=bJ (List.ext_getElem HAB.out fun j h1 h2=>HALL.out j h1 h1 h2);clear hb
    go_wp2
    go_ret;exact ⟨aC HR.out.symm,HB.out⟩
theorem jE (ad bd:Option Addr) (ca cb:Nat) (w:World):
 Calls Tryz.prog 207 #[.slice ad 0 ca,.slice bd 0 cb,.func (.func 208) #[] #[]] w fun e w'=>e= .returned (.bool true)∧Below w.heap.size w w':=by
 go_enter Tryz.func207,Tryz.ntmps207
 go_wp2_with fail
 go_loop [17] (fun i=>i= .int .i64 0) (fun _=>0)
 case atStart=>rfl
 case round=>
  subst hrel
  go_wp2
  go_ret;exact ⟨rfl,Below.refl _ _⟩
theorem qT (ad bd:Option Addr) (n m ca cb:Nat) (h:n≠m) (w:World):
 Calls Tryz.prog 207 #[.slice ad n ca,.slice bd m cb,.func (.func 208) #[] #[]] w fun e w'=>e= .returned (.bool false)∧Below w.heap.size w w':=by
 have hn:((n:Int)=(m:Int))=False:=by simp;omega
 go_enter Tryz.func207,Tryz.ntmps207
 go_wp2
 go_ret;exact ⟨rfl,Below.refl _ _⟩
theorem qU {A B:List Dp} {va vb:Value} {w:World} (ha:DepsAt w va A) (hb:DepsAt w vb B) (hsz:A.length≤9223372036854775807):
 Calls Tryz.prog 207 #[va,vb,.func (.func 208) #[] #[]] w fun e w'=>e= .returned (.bool (eqB A B))∧Below w.heap.size w w':=by
 obtain ⟨ad,ca,rfl,_,hl⟩:=ha;obtain ⟨bd,cb,rfl,_,hm⟩:=hb
 by_cases hn:A.length=B.length
 · rcases hl with rfl|⟨ga,oa,rfl,hga,hla⟩
   · obtain rfl:B=[]:=List.eq_nil_of_length_eq_zero (by simpa using hn.symm)
     rw [bJ rfl];exact jE _ _ _ _ w
   · rcases hm with rfl|⟨gb,ob,rfl,hgb,hlb⟩
     · obtain rfl:A=[]:=List.eq_nil_of_length_eq_zero (by simpa using hn)
       rw [bJ rfl];exact jE _ _ _ _ w
     · exact oC A B hn hsz ga oa ca gb ob cb w hla hlb
 · rw [cG fun e=>hn (by rw [e])]
   exact qT _ _ _ _ _ _ hn w
theorem CR {α:Type} {x y:α} {b:Bool} (h:x=y↔b=true):eqB x y=b:=by
 cases b
 · exact cG fun e=>by cases h.1 e
 · exact bJ (h.2 rfl)
theorem DepsAt.sl {w:World} {v:Value} {L:List Dp} (h:DepsAt w v L):∃ ad cap,v= .slice ad L.length cap:=by
 obtain ⟨ad,cap,rfl,_⟩:=h;exact ⟨ad,cap,rfl⟩
theorem iQ {A B:List Dp} {va vb:Value} {w:World} (ha:DepsAt w va A) (hb:DepsAt w vb B) (hsz:A.length≤9223372036854775807):
 Calls Tryz.prog 165 #[va,vb] w fun e w'=>e= .returned (.bool (eqB A B))∧Below w.heap.size w w':=by
 have HE:=aB (qU ha hb hsz);obtain ⟨ad,ca,rfl⟩:=ha.sl;obtain ⟨bd,cb,rfl⟩:=hb.sl;clear ha hb hsz
 go_enter Tryz.func165,Tryz.ntmps165
 go_wp2_with (go_at_call 207;refine HE.out.mono ?_;rintro x w1 ⟨rfl,ok⟩)
 go_ret;exact ⟨rfl,ok⟩
def gO (ps:List (Dp×Value)):List Value:=ps.flatMap fun p=>[.string p.1.nm,p.2]
theorem jK:∀ (ps:List (Dp×Value)) (i:Nat) (h:i<ps.length),(gO ps)[i*2]? =some (.string ps[i].1.nm)∧(gO ps)[i*2+1]? =some ps[i].2
 |[],i,h=>by simp at h
 |p::ps,0,_=>by simp [gO]
 |p::ps,i+1,h=>by
  have:=jK ps i (by simpa using h)
  have e:gO (p::ps)= .string p.1.nm::p.2::gO ps:=by simp [gO]
  rw [e,show (i+1)*2=i*2+1+1 by omega]
  simpa using this
def OwnD (w:World) (B:Nat) (v:Value) (ps:List (Dp×Value)):Prop:=w.ownsRow B 170 2 v ps.length (gO ps)∧∀ p ∈ ps,OwnS w B p.2 p.1.rg
theorem OwnD.nil (w:World) (B:Nat):OwnD w B (.slice none 0 0) []:=⟨⟨rfl,Or.inl ⟨rfl,rfl⟩⟩,fun p hp=>by cases hp⟩
theorem QZ {w w':World} {B:Nat} {e:TypeId} {z:Nat} {v:Value} {n:Nat} {xs:List Value} (h:w.ownsRow B e z v n xs) (hk:∀ g,v.ownBlock=some g→w'.heap[g]? =w.heap[g]?):w'.ownsRow B e z v n xs:=by
 refine ⟨h.1,?_⟩
 rcases h.2 with hn|⟨g,cap,cur,rfl,hB,hgg,r⟩
 · exact Or.inl hn
 · exact Or.inr ⟨g,cap,cur,rfl,hB,(hk g rfl).trans hgg,r⟩
theorem ER {w w':World} {B:Nat} {e:TypeId} {z:Nat} {v:Value} {n:Nat} {xs:List Value} (h:w.ownsRow B e z v n xs) (hb:Below w.heap.size w w'):w'.ownsRow B e z v n xs:=QZ h fun g hg=>hb.block g (h.lt g hg).2
theorem JC {w:World} {B C:Nat} {e:TypeId} {z:Nat} {v:Value} {n:Nat} {xs:List Value} (h:w.ownsRow B e z v n xs) (hc:C≤B):w.ownsRow C e z v n xs:=by
 refine ⟨h.1,?_⟩
 rcases h.2 with hn|⟨g,cap,cur,hv,hB,r⟩
 · exact Or.inl hn
 · exact Or.inr ⟨g,cap,cur,hv,Nat.le_trans hc hB,r⟩
theorem RB {w:World} {B B':Nat} {e e':TypeId} {z z':Nat} {v v':Value} {n n':Nat} {xs xs':List Value} (h:w.ownsRow B e z v n xs) (h':w.ownsRow B' e' z' v' n' xs') (hne:e≠e') {g:Nat} (hg:v.ownBlock=some g):v'.ownBlock≠some g:=by
 intro hg'
 rcases h.2 with ⟨rfl,_⟩|⟨g1,cap,cur,rfl,_,hgg,_⟩
 · cases hg
 · rcases h'.2 with ⟨rfl,_⟩|⟨g2,cap',cur',rfl,_,hgg',_⟩
   · cases hg'
   · cases hg
     cases hg';rw [hgg] at hgg';injection hgg' with e1
     injection e1 with _ e2 _
     exact hne e2
theorem OwnD.below {w w':World} {B:Nat} {v:Value} {ps:List (Dp×Value)} (h:OwnD w B v ps) (hb:Below w.heap.size w w'):OwnD w' B v ps:=⟨ER h.1 hb,fun p hp=>(h.2 p hp).below hb⟩
theorem OwnD.base {w:World} {B C:Nat} {v:Value} {ps:List (Dp×Value)} (h:OwnD w B v ps) (hc:C≤B):OwnD w C v ps:=⟨JC h.1 hc,fun p hp=>(h.2 p hp).base hc⟩
theorem OwnS.at {w:World} {B:Nat} {v:Value} {L:List Sp} (h:OwnS w B v L):SpansC w v L∧L.length≤9223372036854775807:=by
 have h0:=h;obtain ⟨ad,cap,rfl,hc,hl⟩:=h.sp;refine ⟨⟨⟨ad,cap,rfl,hl⟩,ad,_,cap,rfl,hc⟩,?_⟩
 rcases h0.2 with ⟨_,hn⟩|⟨g,cap',cur,_,_,_,h1,h2,_⟩
 · omega
 · unfold maxLen at h2;omega
theorem OwnD.at {w:World} {B:Nat} {v:Value} {ps:List (Dp×Value)} (h:OwnD w B v ps):DepsAt w v (ps.map (·.1)):=by
 have h0:=h.1
 rcases h.1.2 with ⟨rfl,hn⟩|⟨g,cap,cur,rfl,hB,hg,hc,hm,_⟩
 · have:ps=[]:=List.eq_nil_of_length_eq_zero hn
   subst this;exact ⟨none,0,rfl,Nat.le_refl _,Or.inl rfl⟩
 · have hlt:=(Array.getElem?_eq_some_iff.1 hg).1
   refine ⟨_,cap,by rw [List.length_map],by rw [List.length_map];exact hc,Or.inr ⟨g,0,rfl,hlt,fun i hi=> ?_⟩⟩;have hi':i<ps.length:=by simpa using hi
   have c0:=World.ownsRow.cellAt h0 (i*2) (by omega);have c1:=World.ownsRow.cellAt h0 (i*2+1) (by omega);rw [(jK ps i hi').1] at c0;rw [(jK ps i hi').2] at c1;refine ⟨ps[i].2,?_⟩;rw [List.getElem_map,Nat.zero_add];exact ⟨c0,c1,(h.2 _ (List.getElem_mem hi')).at,hlt⟩
theorem dX {w:World} {B B':Nat} {e e':TypeId} {z z':Nat} {v v':Value} {n n':Nat} {xs xs':List Value} (h:w.ownsRow B e z v n xs) (h':w.ownsRow B' e' z' v' n' xs') (hne:e≠e'):v.ownBlock=none∨v.ownBlock≠v'.ownBlock:=by
 cases hv:v.ownBlock with
 |none=>exact Or.inl rfl
 |some g=>exact Or.inr fun e=>RB h h' hne hv e.symm
end Go.Proofs.YtlmpiohbmlddiaaGreatDoor
namespace Go.Proofs.YtlmpiohbmlddiaaGreatDoor
open Go.Shelf Go.RowKit Go.Lib Go.Sort
set_option maxRecDepth 100000
theorem mE {α:Type} (enc:α→List Value) (k:Nat) (hk:∀ x,(enc x).length=k) (l:List α):(l.flatMap enc).length=l.length*k:=by
 induction l with
 |nil=>simp
 |cons x t ih=>rw [List.flatMap_cons,List.length_append,hk,ih,List.length_cons,Nat.succ_mul];omega
variable {α:Type} [Inhabited α]
theorem fQ (enc:α→List Value) (k:Nat) (hk:∀ x,(enc x).length=k):∀ (l:List α) (i r:Nat),i<l.length→r<k→(l.flatMap enc)[i*k+r]? =(enc (l[i]!))[r]?
 |[],i,r,h,_=>by cases h
 |x::t,0,r,_,hr=>by
  rw [List.flatMap_cons,List.getElem?_append_left (by rw [hk];omega)]
  simp
 |x::t,i+1,r,h,hr=>by
  rw [List.flatMap_cons,List.getElem?_append_right (by rw [hk,Nat.succ_mul];omega),hk];have e:(i+1)*k+r - k=i*k+r:=by rw [Nat.succ_mul];omega
  rw [e,fQ enc k hk t i r (by simpa using h) hr]
  simp
theorem vB (enc:α→List Value) (k:Nat) (hk:∀ x,(enc x).length=k) (hk0:0<k) (d:Array α):(flatK enc k d).toList=d.toList.flatMap enc:=by
 apply List.ext_getElem?;intro t
 by_cases ht:t<d.size*k
 · have hq:t / k<d.toList.length:=by rw [Array.length_toList];exact (Nat.div_lt_iff_lt_mul hk0).2 ht
   have hr:=Nat.mod_lt t hk0
   have hf:(flatK enc k d).toList[t]? =some ((enc d[t / k]!)[t % k]!):=by
    rw [Array.getElem?_toList]
    have:(flatK enc k d)[t]! =(enc d[t / k]!)[t % k]! :=get_flatK _ _ _ _ ht
    rw [←this,getElem!_pos _ t (by simpa using ht)];exact Array.getElem?_eq_getElem (by simpa using ht)
   have hg:=fQ enc k hk d.toList (t / k) (t % k) hq hr;rw [Nat.mul_comm,Nat.div_add_mod] at hg;have hd:d.toList[t / k]! =d[t / k]! :=by rw [getElem!_pos d (t / k) (by simpa using hq),getElem!_pos d.toList (t / k) hq];simp
   rw [hf,hg,hd,List.getElem?_eq_getElem (by rw [hk];exact hr),getElem!_pos _ (t % k) (by rw [hk];exact hr)]
 · rw [List.getElem?_eq_none (by simp;omega),List.getElem?_eq_none (by rw [mE enc k hk];simp;omega)]
theorem ES (enc:α→List Value) (k:Nat) (hk:∀ x,(enc x).length=k) (hk0:0<k) {w:World} {g:Nat} {cur:Array Value} {e:TypeId} {fs:List α} (hb:w.heap[g]? =some (.cells cur e (0,0))) (ht:cur.toList.take (fs.length*k)=fs.flatMap enc):HoldsK enc k w g 0 fs.toArray:=by
 intro j hj;have hj':j<fs.length*k:=by simpa using hj
 refine ⟨?_,by simp [World.frozen?,hb]⟩;have h1:(cur.toList.take (fs.length*k))[j]? =(fs.flatMap enc)[j]? :=by rw [ht]
 rw [List.getElem?_take_of_lt hj'] at h1;simp only [World.cell?,hb,Nat.zero_add];simp only [Option.isSome_none,Bool.false_eq_true,if_false];rw [←Array.getElem?_toList,h1];have e:=vB enc k hk hk0 fs.toArray;rw [List.toList_toArray] at e;rw [←e,Array.getElem?_toList,getElem!_pos _ j hj];exact Array.getElem?_eq_getElem hj
theorem JD (enc:α→List Value) (k:Nat) {w:World} {g n:Nat} {os:Array Obj} {cur:Array Value} {e:TypeId} {fr:Nat×Nat} (d:Array α) (hb:w.heap[g]? =some (.cells cur e fr)):
 (sortWorldK enc k w g 0 n d os).heap[g]? =some (.cells (putCells id 0 (flatK enc k d) cur) e fr):=by
 have hg:g<w.heap.size:=(Array.getElem?_eq_some_iff.1 hb).1;unfold sortWorldK putRowK;rw [heap_grow_old _ _ (by simpa using hg)];simp [putRow,mapBlock,Sort.ahead,Array.getElem?_modify,hb,onCells]
theorem ET (enc:α→List Value) (k:Nat) {w:World} {g n:Nat} {os:Array Obj} (d:Array α):w.grownBy (sortWorldK enc k w g 0 n d os) (some g):=by
 unfold sortWorldK putRowK;refine ⟨rfl,rfl,rfl,by simp,fun j hj hne=> ?_⟩;rw [heap_grow_old _ _ (by simpa using hj)]
 have:g≠j:=fun e=>hne (by rw [e])
 simp [putRow,mapBlock,Sort.ahead,Array.getElem?_modify,this]
theorem JE (cur:Array Value) (F:Array Value) (h:F.size≤cur.size):(putCells id 0 F cur).toList.take F.size=F.toList:=by
 apply List.ext_getElem?;intro j
 by_cases hj:j<F.size
 · rw [List.getElem?_take_of_lt hj,Array.getElem?_toList,Array.getElem?_toList]
   simp [putCells,hj,show j<cur.size by omega]
 · rw [List.getElem?_take_eq_none (by omega),List.getElem?_eq_none (by simp;omega)]
theorem EU {d d':Array α} (h:PermIn 0 d.size d d'):d'.toList.Perm d.toList:=by
 obtain ⟨hsz,_,hperm⟩:=h;have e1:d'.extract 0 d.size=d':=by rw [←hsz];exact Array.extract_size
 rw [e1,Array.extract_size] at hperm;exact hperm
theorem vC {lt:α→α→Bool} {d d':Array α} (h:PermIn 0 d.size d d') (hS:SortedIn lt 0 d.size d'):d'.toList.Pairwise fun x y=>lt y x=false:=by
 have hsz:=h.1;rw [List.pairwise_iff_getElem];intro i j hi hj hij;have hi':i<d'.size:=by simpa using hi
 have hj':j<d'.size:=by simpa using hj
 have:=hS i j (Nat.zero_le _) hij (by omega)
 rw [getElem!_pos d' j hj',getElem!_pos d' i hi'] at this
 simpa using this
theorem JF {ρ:Ren} (L:SlLaysF0.n6 Tryz.prog ρ) (k:Nat) (hk0:0<k) (aE:∀ w,(isAgg (ρ.t 24)).run Tryz.prog w= .ok true w) (zE:∀ w,(Go.sizeOf (ρ.t 24)).run Tryz.prog w= .ok k w) (enc:α→List Value) (hk:∀ x,(enc x).length=k) (h1:∀ x,∀ v ∈ enc x,v.oneCell'=true) (cf:α→α→Int) (hO:SWO (ltOf cf)) (g:Nat)
 (eg:∀ args w,(callFunc g args).run Tryz.prog w= .ok (.enter g args) w) (hcmp:∀ (x y:α) (W:World),Calls Tryz.prog g #[.agg (enc x).toArray,.agg (enc y).toArray] W fun e w'=>e= .returned (.int .i64 (cf x y))∧∃ q os',w'=grow (W.drewN q) os')
 {w:World} {base:Nat} {T:TypeId} {v:Value} {fs:List α} (hown:w.ownsRow base T k v fs.length (fs.flatMap enc)) (hz:fs.length<4611686018427387904):
 Calls Tryz.prog (ρ.f 6) #[v,.func (.func g) #[] #[]] w fun e w'=>e= .returned (.tuple #[])∧∃ ts:List α,ts.Perm fs∧(ts.Pairwise fun x y=>ltOf cf y x=false)∧w'.ownsRow base T k v ts.length (ts.flatMap enc)∧w.grownBy w' v.ownBlock:=by
 rcases hown.2 with ⟨hv,hn⟩|⟨b,cap,cur,hv,hB,hgg,hc1,hc2,hc3,hc4⟩
 · obtain rfl:fs=[]:=List.length_eq_zero_iff.1 hn
   subst hv;refine (AnyF.slices_SortFunc_none L none 0 (.func (.func g) #[] #[]) w).mono ?_;rintro e w' ⟨rfl,rfl⟩;exact ⟨rfl,[],List.Perm.refl _,List.Pairwise.nil,hown,⟨rfl,rfl,rfl,Nat.le_refl _,fun _ _ _=>rfl⟩⟩
 · subst hv
   have hH:=ES enc k hk hk0 hgg hc4;have hcon:=AnyQ.slices_SortFunc L k aE zE enc hk h1 cf hO g #[] b 0 cap fs.toArray w eg (fun m os dk _ x y=>by simpa using hcmp x y _) hH (Array.getElem?_eq_some_iff.1 hgg).1 (by simp;omega);simp only [List.size_toArray] at hcon;refine hcon.mono ?_;rintro e w' ⟨rfl,d',n,os,hp,hs,rfl⟩;have hp':PermIn 0 fs.toArray.size fs.toArray d':=by simpa using hp
   have hs':SortedIn (ltOf cf) 0 fs.toArray.size d':=by simpa using hs
   have hpl:=EU hp';rw [List.toList_toArray] at hpl;refine ⟨rfl,d'.toList,hpl,vC hp' hs',⟨by rw [mE enc k hk],.inr ⟨b,cap,_,by rw [hpl.length_eq],hB,JD enc k d' hgg,by rw [hpl.length_eq];exact hc1,hc2,by simp [putCells,hc3],?_⟩⟩,ET enc k d'⟩;have e:=vB enc k hk hk0 d';have hsz:(flatK enc k d').size=d'.toList.length*k:=by simp
   rw [←hsz,JE cur _ (by rw [hsz,hc3,hpl.length_eq];exact Nat.mul_le_mul_right k hc1),e]
end Go.Proofs.YtlmpiohbmlddiaaGreatDoor
