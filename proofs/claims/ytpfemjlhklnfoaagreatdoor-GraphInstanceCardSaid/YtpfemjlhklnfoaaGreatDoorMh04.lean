/- Pr2, RowS, Pk1, Pk2, Rd0, ScPl1, ScBa1, Ct0, Srt, Gd0, Ps1, Ct2: their declarations that are needed, laid in one text, remarks and blanks left out. -/
import Derived.Lib.Join
import Derived.Test.YtpfemjlhklnfoaaGreatDoorProg
import Derived.Laws.OwnMore
import Derived.Laws.AppendOwn
import Derived.OwnWalk
import Derived.WalkMore
import Derived.Scope
import Derived.Deep.LoopGhost
import Derived.OneCell
import Derived.Shelf.SlSortCmp.NoneTotal
import Derived.Sort.OwnSorted
import Derived.Test.YtpfemjlhklnfoaaGreatDoorScA
import Derived.Lib.LazyBuf
import Derived.Deep.CutRange
import Derived.BigRegion
import Derived.Test.YtpfemjlhklnfoaaGreatDoorMh03
namespace Go.Proofs.YtpfemjlhklnfoaaGreatDoor
open Go.RowKit
set_option maxRecDepth 100000
theorem JK:(Tryz.prog.info? 9).map (fun i=>(i.zero,i.size,i.bytes))=some (some (.string ByteArray.empty),1,16):=by kernel_rfl
def OwnT (w:World) (B:Nat) (v:Value) (ts:List ByteArray):Prop:=w.ownsRow B 9 1 v ts.length (ts.map Value.string)
theorem OwnT.nil (w:World) (B:Nat):OwnT w B (.slice none 0 0) []:=⟨rfl,Or.inl ⟨rfl,rfl⟩⟩
theorem OwnT.lt {w:World} {B:Nat} {v:Value} {L:List ByteArray} (h:OwnT w B v L) {g:Nat} (hg:v.ownBlock=some g):g<w.heap.size∧B≤g:=by
 rcases h.2 with ⟨rfl,_⟩|⟨g',cap,cur,rfl,hB,hgg,_⟩
 · cases hg
 · cases hg
   exact ⟨by rw [Array.getElem?_eq_some_iff] at hgg;exact hgg.1,hB⟩
theorem OwnT.below {w w':World} {B:Nat} {v:Value} {L:List ByteArray} (h:OwnT w B v L) (hb:Below w.heap.size w w'):OwnT w' B v L:=by
 refine ⟨h.1,?_⟩;have hl:=fun g hg=>(h.lt (g:=g) hg).1
 rcases h.2 with hn|⟨g,cap,cur,rfl,hB,hgg,r⟩
 · exact Or.inl hn
 · exact Or.inr ⟨g,cap,cur,rfl,hB,(hb.block g (hl g rfl)).trans hgg,r⟩
theorem JL {w wx:World} {uo:Value} {ts:List ByteArray} {tx:ByteArray} {ops:Array Oper} {rest:List Oper} {o:Oper} {f:Act} {Q:Exit→Act→World→Prop} (hgd:o.guard=none) (s t:Operand)
 (ho:o.op= .call { callee:= .builtin .append,args:= #[s,t],argTypes:= #[179,179] }) (hs:f.eval s=uo)
 (hK:Below w.heap.size w wx∧OwnT wx w.heap.size uo ts) {M:Nat} (hM:wx.heap.size=M) (hx:f.eval t= .slice (some ⟨M,0,none⟩) 1 1) (hlen:ts.length+1≤1000000000000)
 (h:∀ v1 w1,(Below w.heap.size w w1∧OwnT w1 w.heap.size v1 (ts++[tx]))→wpList Tryz.prog ops Q rest (f.put o.dst v1) w1):
 wpList Tryz.prog ops Q (o::rest) f (wx.alloc (.cells #[.string tx] 9)):=by
 subst hM
 obtain ⟨i0,hi,hz0,hz1,hz2⟩:∃ i,Tryz.prog.info? 9=some i∧i.zero=some (.string ByteArray.empty)∧i.size=1∧i.bytes=16:=by
  have:=JK
  cases hq:Tryz.prog.info? 9 with
  |none=>rw [hq] at this;cases this
  |some i=>
   rw [hq] at this;simp only [Option.map_some,Option.some.injEq,Prod.mk.injEq] at this;exact ⟨i,rfl,this.1,this.2.1,this.2.2⟩
 have hob:OwnT (wx.alloc (.cells #[.string tx] 9)) w.heap.size uo ts:=hK.2.below (aD _ _);have hsz:(wx.alloc (.cells #[.string tx] 9)).heap.size=wx.heap.size+1:=by simp
 have hwx:=hK.1.size
 refine wpList_append_own_at _ hgd s t 179 ho w.heap.size 9 i0 _ 1 16 Tryz.underlying179 hi hz0 hz1 hz2 rfl (by decide) uo _ _ hs hob ⟨wx.heap.size,0,none⟩ 1 1 [.string tx] hx rfl
  (World.news_of_block (cs:= #[.string tx]) (t:=9) (fr:=(0,0)) (by show (wx.heap.push _)[wx.heap.size]? =_;rw [Array.getElem?_push,if_pos rfl])) (by simp [Value.oneCell']) (by unfold maxLen;omega) (by omega) (by omega) ?_
 intro v1 w1 hown1 hg1 _ hat;refine h v1 w1 ⟨(aB hK.1 (aD _ _)).grown hg1 (by omega) (fun k hk=>(hK.2.lt hk).2),?_⟩;unfold OwnT;rw [List.map_append,List.map_singleton,List.length_append];exact hown1
def spT (p:Int×Int):ByteArray:=eS (atA p.1) (atB p.1) (atC p.1) (atA p.2) (atB p.2) (atC p.2)
def eT (A:Rg):ByteArray:=match A with
 |[]=>⟨#[60]⟩++aT 0 0 0
 |p::A=>⟨(Lib.join ((p::A).map fun p=>(spT p).data.toList) [32,124,124,32]).toArray⟩
theorem nE (a b c x y z:Int):(eS a b c x y z).size≤27:=by
 have h1:=cB a b c;have h2:=cB x y z;have z2:(⟨#[62,61]⟩:ByteArray).size=2:=rfl;have z4:(⟨#[60,61]⟩:ByteArray).size=2:=rfl;have z5:(⟨#[42]⟩:ByteArray).size=1:=rfl;have z3:(⟨#[32,60,61]⟩:ByteArray).size=3:=rfl;unfold eS
 repeat' split
 all_goals first|omega|(simp only [bI];omega)
theorem rJ (m:Nat):∀ (l:List (List UInt8)),(∀ x ∈ l,x.length≤m)→Lib.lens l≤m*l.length
 |[],_=>by simp [Lib.lens]
 |x::l,h=>by
  have ih:=rJ m l fun y hy=>h y (List.mem_cons_of_mem _ hy)
  have hx:=h x List.mem_cons_self
  have:Lib.lens (x::l)=x.length+Lib.lens l:=by simp [Lib.lens]
  rw [this,List.length_cons,Nat.mul_succ];omega
theorem pO {A:Rg} (h:A.length≤64):(Lib.join (A.map fun p=>(spT p).data.toList) [32,124,124,32]).length≤10000:=by
 cases A with
 |nil=>simp [Lib.join_nil]
 |cons p A=>
  rw [List.map_cons,Lib.join_length,←List.map_cons (f:=fun p=>(spT p).data.toList)]
  have:=rJ 27 ((p::A).map fun p=>(spT p).data.toList) (by
   intro x hx;obtain ⟨q,_,rfl⟩:=List.mem_map.1 hx;exact nE _ _ _ _ _ _)
  simp only [List.length_map,List.length_cons,List.length_nil] at*;omega
theorem EL {w:World} {B:Nat} {v:Value} {A:Rg} (h:OwnT w B v (A.map spT)) (hl:A.length≤64) (h0:A≠[]):
 Calls Tryz.prog 236 #[v,.string ⟨#[32,124,124,32]⟩] w fun e w'=>e= .returned (.string (eT A))∧Below w.heap.size w w':=by
 have hlt:=fun g hg=>(h.lt (g:=g) hg).1
 rcases h.2 with ⟨_,hn⟩|⟨g,cap,cur,rfl,hB,hgg,hc,hm,hs,hx⟩
 · rw [List.length_map] at hn
   exact (h0 (List.eq_nil_of_length_eq_zero hn)).elim
 · have hj:=pO hl
   have hmm:(A.map spT).map (·.data.toList)=A.map fun p=>(spT p).data.toList:=by rw [List.map_map];rfl
   refine (Tryz.strings_Join g 0 cap (A.map spT) ⟨#[32,124,124,32]⟩ w ?_ (hlt g rfl) (by rw [List.length_map];omega) hc (by rw [hmm];show (Lib.join _ [32,124,124,32]).length≤_;omega)).mono ?_
   · intro j x hj
     have:(((A.map spT).map Value.string))[j]? =some (.string x):=by rw [List.getElem?_map,hj];rfl
     rw [←hx,List.getElem?_take] at this
     split at this
     · rw [Nat.zero_add]
       simp [World.cell?,hgg]
       simpa using this
     · cases this
   · rintro e w' ⟨rfl,hb⟩
     refine ⟨?_,hb⟩;rw [hmm];cases A with
     |nil=>exact (h0 rfl).elim
     |cons p A=>rfl
set_option maxHeartbeats 3200000 in
theorem tF (A:Rg) (g o cap:Nat) (w:World) (he:Env w) (hf:FL w) (hlen:A.length≤64) (h0:((A.length:Int)==0)=false) (hg:g<w.heap.size) (hl:∀ i (h:i<A.length),SpAt w g (o+i*6) (spR A[i]))
 (HMay:Hid (Calls Tryz.prog 96 #[.slice (some ⟨g,o,none⟩) A.length cap] w fun e w'=>e= .returned (.bool true)∧Below w.heap.size w w')):
 Calls Tryz.prog 201 #[.slice (some ⟨g,o,none⟩) A.length cap] w fun e w'=>e= .returned (.string (eT A))∧Below w.heap.size w w':=by
 have HL:Hid (∀ w1,Below w.heap.size w w1→∀ i (h:i<A.length),SpAt w1 g (o+i*6) (spR A[i])):=fun w1 hb i hi=>(hl i hi).below hb hg
 have HP:Hid (∀ (p:Int×Int) w1,Below w.heap.size w w1→Calls Tryz.prog 235 #[.agg #[.int .i64 (atA p.1),.int .i64 (atB p.1),.int .i64 (atC p.1),.int .i64 (atA p.2),.int .i64 (atB p.2),.int .i64 (atC p.2)]] w1 fun e w'=>e= .returned (.string (spT p))∧Below w1.heap.size w1 w'):=fun p w1 hb=>pA _ _ _ _ _ _ w1 (he.below hb) (hf.below hb)
 have HJ:Hid (∀ w1 v1,OwnT w1 w.heap.size v1 (A.map spT)→Calls Tryz.prog 236 #[v1,.string ⟨#[32,124,124,32]⟩] w1 fun e w'=>e= .returned (.string (eT A))∧Below w1.heap.size w1 w'):=fun w1 v1 h=>EL h hlen (fun e=>by subst e;simp at h0)
 clear hl he hf
 go_enter Tryz.func201,Tryz.ntmps201
 go_wp2_with (go_at_call 96;refine HMay.out.mono ?_;rintro e w1 ⟨rfl,ok1⟩;have HO1:=aA ok1;clear ok1)
 go_loopw [3,17] (fun out i wr=>∃ k:Nat,k≤A.length∧i= .int .i64 k∧Below w.heap.size w wr∧OwnT wr w.heap.size out ((A.take k).map spT)) (fun _ i _=>A.length - (intOf i).toNat)
 case atStart=>exact ⟨0,Nat.zero_le _,rfl,HO1.out,OwnT.nil _ _⟩
 case round=>
  obtain ⟨k,hk,rfl,hb,hown⟩:=hrel;have HB:=aA hb;have HOWN:=aA hown;clear hown
  by_cases hlt:k<A.length
  · have hs:=HL.out wr hb k hlt
    have HD:Hid ((A.take k).map spT++[spT A[k]]=(A.take (k+1)).map spT):=by unfold Hid;rw [List.take_succ_eq_append_getElem hlt,List.map_append];rfl
    generalize A[k]=p at*;obtain ⟨lo,hi⟩:=p;obtain ⟨c0,c1,c2,c3,c4,c5⟩:=hs;simp only [spR] at c0 c1 c2 c3 c4 c5;have HPp:=aA (fun w1 hb=>HP.out (lo,hi) w1 hb);have HLN:Hid (((A.take k).map spT).length+1≤1000000000000):=by unfold Hid;simp;omega
    clear hb
    go_wp2_with (first
     |(go_at_call 235;refine (HPp.out _ (aB HB.out (aD _ _))).mono ?_;rintro e w2 ⟨rfl,ok2⟩;have HO2:Hid (Below w.heap.size w w2∧OwnT w2 w.heap.size u3 ((A.take k).map spT)):=⟨aB (aB HB.out (aD _ _)) ok2,(HOWN.out.below (aD _ _)).below ok2⟩;clear ok2)
     |(at_builtin;refine JL (uo:=u3) (ts:=(A.take k).map spT) rfl (.tmp 21) (.tmp 24) rfl rfl HO2.out rfl rfl HLN.out ?_;intro v3 w3 ok3;have HO3:=aA ok3;clear ok3))
    exact ⟨⟨k+1,by omega,by go_num,HO3.out.1,by rw [←HD.out];exact HO3.out.2⟩,by simp [intOf];omega⟩
  · have hke:k=A.length:=by omega
    subst hke;have HOW2:Hid (OwnT wr w.heap.size u3 (A.map spT)):=by have:=HOWN.out;rw [List.take_length] at this;exact this
    clear hb
    go_wp2_with (go_at_call 236;refine (HJ.out _ _ HOW2.out).mono ?_;rintro e w2 ⟨rfl,ok2⟩;have HO2:=aA ok2;clear ok2)
    go_ret;exact ⟨rfl,aB HB.out HO2.out⟩
theorem nF (ad:Option Addr) (cap:Nat) (w:World) (he:Env w) (hf:FL w):
 Calls Tryz.prog 201 #[.slice ad 0 cap] w fun e w'=>e= .returned (.string (eT []))∧Below w.heap.size w w':=by
 have HMay:=aA (mV ad cap w);have HP:Hid (∀ w1,Below w.heap.size w w1→Calls Tryz.prog 132 #[.agg #[.int .i64 0,.int .i64 0,.int .i64 0]] w1 fun e w'=>e= .returned (.string (aT 0 0 0))∧Below w1.heap.size w1 w'):=fun w1 hb=>jU he.tab 0 0 0 w1 hb
 have HF:=aA hf;have HR:Hid (eT []=⟨#[60]⟩++aT 0 0 0):=rfl;have zT:=cB 0 0 0;have z2:(⟨#[60]⟩:ByteArray).size=1:=rfl;generalize aT 0 0 0=T at*;have s1:=fun W:World=>run_string_add_sum (P:=Tryz.prog) (w:=W) ⟨#[60]⟩ T (by omega)
 clear zT z2 he hf
 go_enter Tryz.func201,Tryz.ntmps201
 go_wp2_with (first
  |(go_at_call 96;refine HMay.out.mono ?_;rintro e w1 ⟨rfl,ok1⟩;obtain ⟨⟨g0,g1,g2⟩,_⟩:=HF.out.below ok1;have HO1:=aA ok1;clear ok1)
  |(go_at_call 132;refine (HP.out _ HO1.out).mono ?_;rintro e w2 ⟨rfl,ok2⟩;have HO2:=aA ok2;clear ok2))
 go_ret;exact ⟨by rw [HR.out];rfl,aB HO1.out HO2.out⟩
theorem AY {A:Rg} (hA:RangeR A) (hl:A.length≤64) {v:Value} {w:World} (h:SpansR w v A) (he:Env w) (hf:FL w):
 Calls Tryz.prog 201 #[v] w fun e w'=>e= .returned (.string (eT A))∧Below w.heap.size w w':=by
 have HM:Hid (Calls Tryz.prog 96 #[v] w fun e w'=>e= .returned (.bool true)∧Below w.heap.size w w'):=by have:=mW h.at;rw [MF hA hl] at this;exact this
 obtain ⟨ad,cap,rfl,hc,hs⟩:=h
 rcases hs with rfl|⟨g,o,rfl,hg,hs⟩
 · exact nF ad cap w he hf
 · cases A with
   |nil=>exact nF _ cap w he hf
   |cons p A=>exact tF (p::A) g o cap w he hf hl (by simp;omega) hg hs HM
end Go.Proofs.YtpfemjlhklnfoaaGreatDoor
namespace Go.Proofs.YtpfemjlhklnfoaaGreatDoor
open Go.ChangeShapes Go.WideShapes Go.ChangeAt Go.RowKit
set_option maxRecDepth 100000
theorem JM:Tryz.prog.cellsOf 91=6:=by kernel_rfl
theorem jV {H:Type} {enc:TypeId×Value→H} {W:World} {base:Nat} {spare:Nat→Bool} {held:Bool} {n:Nat} {cs:List Value} {x:DataW H×List MemPlace} (h:DataW.trod enc Tryz.prog W base spare held n 31 cs=some x):
 ∃ a b c,cs[0]? =some (.int .i64 a)∧cs[1]? =some (.int .i64 b)∧cs[2]? =some (.int .i64 c)∧x.1= .agg [.lit (.int .i64 a),.lit (.int .i64 b),.lit (.int .i64 c)]:=by
 have hs:Tryz.prog.underlying 31=some (.struct (Tryz.prog.fieldsOf 31)):=by kernel_rfl
 obtain ⟨xs,n',_,hx,_,hxl,hf⟩:=DataW.trod_struct hs h;have hfz:(Tryz.prog.fieldsOf 31).size=3:=by kernel_rfl
 have ints:∀ i off,((Tryz.prog.fieldsOf 31)[i]?).map (fun f=>(f.type,f.offset))=some (3,off)→i<3→∃ k,cs[off]? =some (.int .i64 k)∧xs[i]? =some (.lit (.int .i64 k),[]):=by
  intro i off hfd hi;obtain ⟨f,h1,h2,h3⟩:=bB hfd;have hr:=hf i f h1;rw [h2,h3,mY,List.getElem?_eq_getElem (by omega:i<xs.length)] at hr;obtain ⟨k,e1,e2,wk⟩:=DataW.trod_int Tryz.underlying3 hr;exact ⟨k,mZ e1,by rw [List.getElem?_eq_getElem (by omega:i<xs.length),e2]⟩
 obtain ⟨a,a0,x0⟩:=ints 0 0 (by kernel_rfl) (by decide);obtain ⟨b,a1,x1⟩:=ints 1 1 (by kernel_rfl) (by decide);obtain ⟨c,a2,x2⟩:=ints 2 2 (by kernel_rfl) (by decide);refine ⟨a,b,c,a0,a1,a2,?_⟩;rw [hx];obtain ⟨y0,y1,y2,rfl⟩:=LV (l:=xs) (by omega)
 simp at x0 x1 x2
 subst x0 x1 x2;rfl
theorem AZ {H:Type} {enc:TypeId×Value→H} {W:World} {base:Nat} {spare:Nat→Bool} {held:Bool} {n:Nat} {g o:Nat} {cs:List Value} {x:DataW H×List MemPlace} (hc:W.cells? base ⟨g,o,none⟩ 6=some cs) (h:DataW.trod enc Tryz.prog W base spare held n 91 cs=some x):∃ s,SpAt W g o s:=by
 have hs:Tryz.prog.underlying 91=some (.struct (Tryz.prog.fieldsOf 91)):=by kernel_rfl
 obtain ⟨xs,n',_,_,_,hxl,hf⟩:=DataW.trod_struct hs h;have hsz:(Tryz.prog.fieldsOf 91).size=2:=by kernel_rfl
 obtain ⟨_,_,hq⟩:=World.cells?_some hc
 have vers:∀ i off,((Tryz.prog.fieldsOf 91)[i]?).map (fun f=>(f.type,f.offset))=some (31,off)→i<2→∃ a b c,cs[off]? =some (.int .i64 a)∧cs[off+1]? =some (.int .i64 b)∧cs[off+2]? =some (.int .i64 c):=by
  intro i off hfd hi;obtain ⟨f,h1,h2,h3⟩:=bB hfd;have hr:=hf i f h1;rw [h2,h3,jT,List.getElem?_eq_getElem (by omega:i<xs.length)] at hr;obtain ⟨a,b,c,e0,e1,e2,_⟩:=jV hr
  simp at e0 e1 e2
  exact ⟨a,b,c,e0,e1,e2⟩
 obtain ⟨a,b,c,a0,a1,a2⟩:=vers 0 0 (by kernel_rfl) (by decide);obtain ⟨x,y,z,a3,a4,a5⟩:=vers 1 3 (by kernel_rfl) (by decide);have ad:∀ i,(⟨g,o,none⟩:Addr).add i=⟨g,o+i,none⟩:=fun i=>by unfold Addr.add;split<;>simp_all
 have q0:=hq 0 (by decide);have q1:=hq 1 (by decide);have q2:=hq 2 (by decide);have q3:=hq 3 (by decide);have q4:=hq 4 (by decide);have q5:=hq 5 (by decide);rw [ad] at q0 q1 q2 q3 q4 q5;exact ⟨⟨a,b,c,x,y,z⟩,by rw [←a0,←q0];rfl,by rw [←a1,←q1],by rw [←a2,←q2],by rw [←a3,←q3],by rw [←a4,←q4],by rw [←a5,←q5]⟩
theorem yT {P:Nat→Sp→Prop}:∀ {n:Nat},(∀ i,i<n→∃ s,P i s)→∃ L:List Sp,L.length=n∧∀ i (h:i<L.length),P i L[i]
 |0,_=>⟨[],rfl,fun i h=>by simp at h⟩
 |n+1,h=>by
  obtain ⟨L,hl,hP⟩:=yT (n:=n) fun i hi=>h i (by omega)
  obtain ⟨s,hs⟩:=h n (by omega);refine ⟨L++[s],by simp [hl],fun i hi=> ?_⟩
  by_cases hin:i<L.length
  · rw [List.getElem_append_left hin];exact hP i hin
  · have:i=n:=by simp at hi;omega
    subst this
    simpa [hl] using hs
theorem nG {H:Type} {enc:TypeId×Value→H} {W:World} {base fuel:Nat} {held:Bool} {a:Option Addr} {len cap:Nat} {x:DataW H×List MemPlace} (h:DataW.trod enc Tryz.prog W base (fun _=>true) held fuel 39 [.slice a len cap]=some x):
 ∃ L:List Sp,SpansC W (.slice a len cap) L:=by
 rcases Go.Deep.open_slice Tryz.underlying39 h with ⟨hcs,_⟩|⟨ad,l,c,m,n,D,Pl,hcs,_,hl,_,hm,hx,hel⟩
 · simp only [List.cons.injEq,Value.slice.injEq,and_true] at hcs
   obtain ⟨rfl,rfl,rfl⟩:=hcs;exact ⟨[],⟨_,_,rfl,Or.inl rfl⟩,_,_,_,rfl,Nat.le_refl _⟩
 · simp only [List.cons.injEq,Value.slice.injEq,and_true] at hcs
   obtain ⟨rfl,rfl,rfl⟩:=hcs
   rcases Nat.eq_zero_or_pos len with h0|h0
   · subst h0
     exact ⟨[],⟨_,_,rfl,Or.inl rfl⟩,_,_,_,rfl,hl⟩
   · have hmm:len≤m:=by rw [hm];simp;exact hl
     rw [JM] at hel;obtain ⟨g,off,spot⟩:=ad;obtain ⟨cs0,hc0,_⟩:=hel 0 (by omega);obtain ⟨_,hln,hq⟩:=World.cells?_some hc0;have hcell:=hq 0 (by decide);rw [List.getElem?_eq_getElem (by omega:0<cs0.length)] at hcell;have hspot:spot=none:=by simpa [Addr.add] using World.cell?_spot hcell
     subst hspot;have ad2:∀ o i,(⟨g,o,none⟩:Addr).add i=⟨g,o+i,none⟩:=fun o i=>by unfold Addr.add;split<;>simp_all
     obtain ⟨L,hL,hP⟩:=yT (P:=fun i s=>SpAt W g (off+i*6) s) (n:=len) fun i hi=>by
      obtain ⟨cs,hc,ht⟩:=hel i (by omega);rw [ad2] at hc;exact AZ hc ht
     subst hL;refine ⟨L,⟨_,_,rfl,Or.inr ⟨g,off,rfl,?_,hP⟩⟩,_,_,_,rfl,hl⟩
     have:=dI hcell
     rw [ad2,ad2] at this;exact this
theorem tG {W:World} {nm:String} {a b c:Int} {r:List (String×DataW Unit)} {g:Nat} (hg:Tryz.prog.globalNamed nm=some g) (hty:(Tryz.prog.globals[g]?).map (·.type)=some 31)
 (h:laidMet Tryz.prog ((nm,.agg [.lit (.int .i64 a),.lit (.int .i64 b),.lit (.int .i64 c)])::r) W):
 W.cell? ⟨g,0,none⟩=some (.int .i64 a)∧W.cell? ⟨g,1,none⟩=some (.int .i64 b)∧W.cell? ⟨g,2,none⟩=some (.int .i64 c):=by
 obtain ⟨ps,⟨g',t',cs,fuel,p,q,hg',ht',hvar,hd,_,_⟩,_⟩:=h;obtain rfl:=Option.some.inj (hg.symm.trans hg');obtain rfl:=Option.some.inj (hty.symm.trans ht');obtain ⟨x,y,z,e0,e1,e2,hx⟩:=jV hd
 simp at hx
 obtain ⟨rfl,rfl,rfl⟩:=hx;have c0:=World.var?_cell hg hvar 0;have c1:=World.var?_cell hg hvar 1;have c2:=World.var?_cell hg hvar 2;exact ⟨by rw [c0];simpa using e0,by rw [c1];simpa using e1,by rw [c2];simpa using e2⟩
abbrev NS:List (String×DataW Unit):=[("math/bits.deBruijn32tab",Rows.laid_math_bits_deBruijn32tab),("math/bits.deBruijn64tab",Rows.laid_math_bits_deBruijn64tab),("internal/strconv.uint64pow10",Rows.laid_internal_strconv_uint64pow10),("halyard/span.first",Rows.laid_halyard_span_first),("halyard/span.last",Rows.laid_halyard_span_last)]
theorem yU {W:World} (h:laidMet Tryz.prog NS W):Env W∧FL W:=by
 have hT:=MG h;have h5:=laidMet.tail (laidMet.tail (laidMet.tail h));have h6:=laidMet.tail h5;have f1:=tG (g:=1) (by kernel_rfl) (by kernel_rfl) h5;have f2:=tG (g:=2) (by kernel_rfl) (by kernel_rfl) h6;exact ⟨{ tab:=hT },f1,f2,dI f1.1,dI f2.1⟩
end Go.Proofs.YtpfemjlhklnfoaaGreatDoor
namespace Go.Proofs.YtpfemjlhklnfoaaGreatDoor
open Go.RowKit
set_option maxRecDepth 100000
noncomputable def eqB {α:Type} (x y:α):Bool:= @decide (x=y) (Classical.propDecidable _)
theorem cT {α:Type} {x y:α} (h:x=y):eqB x y=true:=by unfold eqB;exact @decide_eq_true _ (Classical.propDecidable _) h
theorem gO {α:Type} {x y:α} (h:x≠y):eqB x y=false:=by unfold eqB;exact @decide_eq_false _ (Classical.propDecidable _) h
theorem rK {α:Type} {x y:α}:eqB x y=true↔x=y:=⟨fun h=>by unfold eqB at h;exact @of_decide_eq_true _ (Classical.propDecidable _) h,cT⟩
structure Dp where
 nm:ByteArray
 rg:List Sp
theorem SpansAt.sl {w:World} {v:Value} {L:List Sp} (h:SpansAt w v L):∃ ad cap,v= .slice ad L.length cap:=by
 obtain ⟨ad,cap,rfl,_⟩:=h;exact ⟨ad,cap,rfl⟩
def DpIn (w:World) (g o:Nat) (d:Dp) (u:Value):Prop:=w.cell? ⟨g,o,none⟩=some (.string d.nm)∧w.cell? ⟨g,o+1,none⟩=some u∧(SpansC w u d.rg∧d.rg.length≤9223372036854775807)∧g<w.heap.size
def DepsAt (w:World) (v:Value) (L:List Dp):Prop:=∃ ad cap,v= .slice ad L.length cap∧L.length≤cap∧(L=[]∨∃ g o,ad=some ⟨g,o,none⟩∧g<w.heap.size∧∀ i (h:i<L.length),∃ u,DpIn w g (o+i*2) L[i] u)
theorem DpIn.below {w w':World} {g o:Nat} {d:Dp} {u:Value} (h:DpIn w g o d u) (hb:Below w.heap.size w w'):DpIn w' g o d u:=
 ⟨(hb.cell (p:=⟨g,o,none⟩) h.2.2.2).trans h.1,(hb.cell (p:=⟨g,o+1,none⟩) h.2.2.2).trans h.2.1,⟨⟨h.2.2.1.1.1.below hb,h.2.2.1.1.2⟩,h.2.2.1.2⟩,Nat.lt_of_lt_of_le h.2.2.2 hb.size⟩
theorem kW (g o:Nat) (d:Dp) (u:Value):KeepP fun w1=>DpIn w1 g o d u:=fun _ _ h hb=>h.below hb
theorem DepsAt.below {w w':World} {v:Value} {L:List Dp} (h:DepsAt w v L) (hb:Below w.heap.size w w'):DepsAt w' v L:=by
 obtain ⟨ad,cap,hv,hc,hl⟩:=h;refine ⟨ad,cap,hv,hc,hl.imp id ?_⟩;rintro ⟨g,o,ha,hg,hs⟩;exact ⟨g,o,ha,Nat.lt_of_lt_of_le hg hb.size,fun i hi=>(hs i hi).imp fun u hu=>hu.below hb⟩
theorem EM (v:Value) (L:List Dp):KeepP fun w1=>DepsAt w1 v L:=fun _ _ h hb=>h.below hb
def BxD (w:World) (N:Nat) (s:ByteArray) (u:Value):Prop:=w.cell? ⟨N,0,none⟩=some (.string s)∧w.cell? ⟨N,1,none⟩=some u∧N<w.heap.size
theorem JN (N:Nat) (s:ByteArray) (u:Value):KeepP fun w1=>BxD w1 N s u:=fun _ _ h hb=>
 ⟨(hb.cell (p:=⟨N,0,none⟩) h.2.2).trans h.1,(hb.cell (p:=⟨N,1,none⟩) h.2.2).trans h.2.1,Nat.lt_of_lt_of_le h.2.2 hb.size⟩
theorem BxD.new {w:World} {N:Nat} (hN:w.heap.size=N) (s:ByteArray) (u:Value):BxD (w.alloc (.cells #[.string s,u] 89)) N s u:=by
 subst hN;exact ⟨by simp,by simp,by simp⟩
theorem DepsAt.sl {w:World} {v:Value} {L:List Dp} (h:DepsAt w v L):∃ ad cap,v= .slice ad L.length cap:=by
 obtain ⟨ad,cap,rfl,_⟩:=h;exact ⟨ad,cap,rfl⟩
def dJ (ps:List (Dp×Value)):List Value:=ps.flatMap fun p=>[.string p.1.nm,p.2]
theorem rL (ps:List (Dp×Value)) (p:Dp×Value):dJ (ps++[p])=dJ ps++[.string p.1.nm,p.2]:=by simp [dJ]
theorem jD:∀ (ps:List (Dp×Value)) (i:Nat) (h:i<ps.length),(dJ ps)[i*2]? =some (.string ps[i].1.nm)∧(dJ ps)[i*2+1]? =some ps[i].2
 |[],i,h=>by simp at h
 |p::ps,0,_=>by simp [dJ]
 |p::ps,i+1,h=>by
  have:=jD ps i (by simpa using h)
  have e:dJ (p::ps)= .string p.1.nm::p.2::dJ ps:=by simp [dJ]
  rw [e,show (i+1)*2=i*2+1+1 by omega]
  simpa using this
def OwnD (w:World) (B:Nat) (v:Value) (ps:List (Dp×Value)):Prop:=w.ownsRow B 89 2 v ps.length (dJ ps)∧∀ p ∈ ps,OwnS w B p.2 p.1.rg
theorem OwnD.nil (w:World) (B:Nat):OwnD w B (.slice none 0 0) []:=⟨⟨rfl,Or.inl ⟨rfl,rfl⟩⟩,fun p hp=>by cases hp⟩
theorem rM {w w':World} {B:Nat} {e:TypeId} {z:Nat} {v:Value} {n:Nat} {xs:List Value} (h:w.ownsRow B e z v n xs) (hk:∀ g,v.ownBlock=some g→w'.heap[g]? =w.heap[g]?):w'.ownsRow B e z v n xs:=by
 refine ⟨h.1,?_⟩
 rcases h.2 with hn|⟨g,cap,cur,rfl,hB,hgg,r⟩
 · exact Or.inl hn
 · exact Or.inr ⟨g,cap,cur,rfl,hB,(hk g rfl).trans hgg,r⟩
theorem bG {w w':World} {B:Nat} {e:TypeId} {z:Nat} {v:Value} {n:Nat} {xs:List Value} (h:w.ownsRow B e z v n xs) (hb:Below w.heap.size w w'):w'.ownsRow B e z v n xs:=rM h fun g hg=>hb.block g (h.lt g hg).2
theorem bZ {w:World} {B C:Nat} {e:TypeId} {z:Nat} {v:Value} {n:Nat} {xs:List Value} (h:w.ownsRow B e z v n xs) (hc:C≤B):w.ownsRow C e z v n xs:=by
 refine ⟨h.1,?_⟩
 rcases h.2 with hn|⟨g,cap,cur,hv,hB,r⟩
 · exact Or.inl hn
 · exact Or.inr ⟨g,cap,cur,hv,Nat.le_trans hc hB,r⟩
theorem EN {w:World} {B B':Nat} {e e':TypeId} {z z':Nat} {v v':Value} {n n':Nat} {xs xs':List Value} (h:w.ownsRow B e z v n xs) (h':w.ownsRow B' e' z' v' n' xs') (hne:e≠e') {g:Nat} (hg:v.ownBlock=some g):v'.ownBlock≠some g:=by
 intro hg'
 rcases h.2 with ⟨rfl,_⟩|⟨g1,cap,cur,rfl,_,hgg,_⟩
 · cases hg
 · rcases h'.2 with ⟨rfl,_⟩|⟨g2,cap',cur',rfl,_,hgg',_⟩
   · cases hg'
   · cases hg
     cases hg';rw [hgg] at hgg';injection hgg' with e1
     injection e1 with _ e2 _
     exact hne e2
theorem OwnD.below {w w':World} {B:Nat} {v:Value} {ps:List (Dp×Value)} (h:OwnD w B v ps) (hb:Below w.heap.size w w'):OwnD w' B v ps:=⟨bG h.1 hb,fun p hp=>(h.2 p hp).below hb⟩
theorem OwnD.base {w:World} {B C:Nat} {v:Value} {ps:List (Dp×Value)} (h:OwnD w B v ps) (hc:C≤B):OwnD w C v ps:=⟨bZ h.1 hc,fun p hp=>(h.2 p hp).base hc⟩
theorem OwnS.at {w:World} {B:Nat} {v:Value} {L:List Sp} (h:OwnS w B v L):SpansC w v L∧L.length≤9223372036854775807:=by
 have h0:=h;obtain ⟨ad,cap,rfl,hc,hl⟩:=h.sp;refine ⟨⟨⟨ad,cap,rfl,hl⟩,ad,_,cap,rfl,hc⟩,?_⟩
 rcases h0.2 with ⟨_,hn⟩|⟨g,cap',cur,_,_,_,h1,h2,_⟩
 · omega
 · unfold maxLen at h2;omega
theorem OwnD.at {w:World} {B:Nat} {v:Value} {ps:List (Dp×Value)} (h:OwnD w B v ps):DepsAt w v (ps.map (·.1)):=by
 have h0:=h.1
 rcases h.1.2 with ⟨rfl,hn⟩|⟨g,cap,cur,rfl,hB,hg,hc,hm,_⟩
 · have:ps=[]:=List.eq_nil_of_length_eq_zero hn
   subst this;exact ⟨none,0,rfl,Nat.le_refl _,Or.inl rfl⟩
 · have hlt:=(Array.getElem?_eq_some_iff.1 hg).1
   refine ⟨_,cap,by rw [List.length_map],by rw [List.length_map];exact hc,Or.inr ⟨g,0,rfl,hlt,fun i hi=> ?_⟩⟩;have hi':i<ps.length:=by simpa using hi
   have c0:=World.ownsRow.cellAt h0 (i*2) (by omega);have c1:=World.ownsRow.cellAt h0 (i*2+1) (by omega);rw [(jD ps i hi').1] at c0;rw [(jD ps i hi').2] at c1;refine ⟨ps[i].2,?_⟩;rw [List.getElem_map,Nat.zero_add];exact ⟨c0,c1,(h.2 _ (List.getElem_mem hi')).at,hlt⟩
theorem OwnD.len {w:World} {B:Nat} {v:Value} {ps:List (Dp×Value)} (h:OwnD w B v ps):∃ ad cap,v= .slice ad ps.length cap:=by
 rcases h.1.2 with ⟨rfl,hn⟩|⟨g,cap,cur,rfl,_⟩
 · exact ⟨none,0,by rw [hn]⟩
 · exact ⟨_,cap,rfl⟩
end Go.Proofs.YtpfemjlhklnfoaaGreatDoor
namespace Go.Proofs.YtpfemjlhklnfoaaGreatDoor.Sc
set_option maxRecDepth 100000
abbrev Bs:=List UInt8
end Go.Proofs.YtpfemjlhklnfoaaGreatDoor.Sc
namespace Go.Proofs.YtpfemjlhklnfoaaGreatDoor.Sc
open Go.RowKit
set_option maxRecDepth 100000
theorem aA {p:Prop} (h:p):Hid p:=h
theorem aC {a b:Bool} (h:a=b):Ending.returned (.bool a)= .returned (.bool b):=by rw [h]
theorem bE {a b:Int} (h:a=b):Ending.returned (.int .i64 a)= .returned (.int .i64 b):=by rw [h]
theorem aB {w w1 w':World} (h:Below w.heap.size w w1) (hb:Below w1.heap.size w1 w'):Below w.heap.size w w':=h.trans (hb.mono h.size)
theorem bO {s t:ByteArray} (h:s.toList=t.toList):s=t:=by
 rw [ByteArray.toList_eq,ByteArray.toList_eq] at h;cases s;cases t;simp only [ByteArray.mk.injEq];exact Array.toList_inj.1 h
theorem aX (s:ByteArray):s.data.toList.length=s.size:=rfl
theorem cO {e:TypeId} {z:Value} {n b:Nat} (h:(Tryz.prog.info? e).map (fun i=>(i.zero,i.size,i.bytes))=some (some z,n,b)):∃ i,Tryz.prog.info? e=some i∧i.zero=some z∧i.size=n∧i.bytes=b:=by
 cases hi:Tryz.prog.info? e with
 |none=>rw [hi] at h;cases h
 |some i=>
  rw [hi] at h;simp only [Option.map_some,Option.some.injEq,Prod.mk.injEq] at h;exact ⟨i,rfl,h.1,h.2.1,h.2.2⟩
section
variable {J:Nat→Act→World→Prop} {Q:Exit→Act→World→Prop} {a:Act} {w:World}
end
def KeepP (K:World→Prop):Prop:=∀ w w',K w→Below w.heap.size w w'→K w'
theorem KeepP.and {K M:World→Prop} (hk:KeepP K) (hm:KeepP M):KeepP fun w=>K w∧M w:=fun _ _ h hb=>⟨hk _ _ h.1 hb,hm _ _ h.2 hb⟩
theorem aG (w:World):KeepP fun w1=>Below w.heap.size w w1:=fun _ _ h hb=>aB h hb
def aF (w:World) (g i:Nat) (v:Value):Prop:=w.cell? ⟨g,i,none⟩=some v∧g<w.heap.size
end Go.Proofs.YtpfemjlhklnfoaaGreatDoor.Sc
namespace Go.Proofs.YtpfemjlhklnfoaaGreatDoor
open Go.RowKit
set_option maxRecDepth 100000
theorem pP {w:World} {B B':Nat} {e e':TypeId} {z z':Nat} {v v':Value} {n n':Nat} {xs xs':List Value} (h:w.ownsRow B e z v n xs) (h':w.ownsRow B' e' z' v' n' xs') (hne:e≠e'):v.ownBlock=none∨v.ownBlock≠v'.ownBlock:=by
 cases hv:v.ownBlock with
 |none=>exact Or.inl rfl
 |some g=>exact Or.inr fun e=>EN h h' hne hv e.symm
theorem cR {w w' w1:World} {row:Option Nat} (hb:Below w.heap.size w w') (hg:w'.grownBy w1 row):w.grownBy w1 row:=
 ⟨hg.os.trans hb.os,hg.tape.trans hb.tape,hg.output.trans hb.output,Nat.le_trans hb.size hg.size,fun k hk hn=>(hg.block k (Nat.lt_of_lt_of_le hk hb.size) hn).trans (hb.block k hk)⟩
theorem dN {B:Nat} {w w1:World} {own:Option Nat} (hg:w.grownBy w1 own) (h:∀ g,own=some g→B≤g) (hB:B≤w.heap.size):Below B w w1:=⟨hg.os,hg.tape,hg.output,hg.size,fun k hk=>hg.block k (by omega) (fun e=>by have:=h k e.symm;omega)⟩
theorem nH {B:Nat} {wx:World} {elt slt:TypeId} {z:Value} {sz bs n:Nat} {v:Value} {xs:List Value} {ops:Array Oper} {o:Oper} {f:Act} {K:Act→World→Prop} {Q:Exit→Act→World→Prop} {E:Prop}
 (hinfo:(Tryz.prog.info? elt).map (fun i=>(i.zero,i.size,i.bytes))=some (some z,sz,bs)) (hund:Tryz.prog.underlying slt=some (.slice elt)) (hzc:z.cells.size=sz) (hsz:0<sz) (hbs:bs≤1000)
 (hgd:o.guard=none) (s t:Operand) (ho:o.op= .call { callee:= .builtin .append,args:= #[s,t],argTypes:= #[slt,slt] }) (hs:f.eval s=v)
 (hown:wx.ownsRow B elt sz v n xs) (hB:B≤wx.heap.size) (cs:Array Value) (hcs:cs.size=sz) (hone:∀ u ∈ cs.toList,u.oneCell'=true) {M:Nat} (hM:wx.heap.size=M) (hx:f.eval t= .slice (some ⟨M,0,none⟩) 1 1) (hlen:n≤1000000000)
 (h:∀ v1 w1,w1.ownsRow B elt sz v1 (n+1) (xs++cs.toList)→(wx.alloc (.cells cs elt)).grownBy w1 v.ownBlock→(v1.ownBlock=v.ownBlock∨v1.ownBlock=some (wx.heap.size+1))→K (f.put o.dst v1) w1):
 if Region.wanted o (yielded ops f.tmps)=true then Oper.wp Tryz.prog o f (wx.alloc (.cells cs elt)) K Q else E:=by
 have hw:Region.wanted o (yielded ops f.tmps)=true:=by simp [Region.wanted,hgd]
 rw [if_pos hw];subst hM;obtain ⟨i0,hi,hz0,hz1,hz2⟩:=Sc.cO hinfo;have hsz1:(wx.alloc (.cells cs elt)).heap.size=wx.heap.size+1:=by simp
 have hbb:(n+1)*bs≤140737488355328:=by
  have:=Nat.mul_le_mul (show n+1≤1000000001 by omega) hbs
  omega
 obtain ⟨v1,w1,hr,hown1,hg1,_,hat⟩:=run_append_own_at (P:=Tryz.prog) (wx.alloc (.cells cs elt)) B slt o.type elt i0 z sz bs hund hi hz0 hz1 hz2 hzc hsz v n xs (hown.alloc _) ⟨wx.heap.size,0,none⟩ 1 1 cs.toList (by rw [Array.length_toList,hcs,Nat.one_mul])
  (World.news_of_block (cs:=cs) (t:=elt) (fr:=(0,0)) (by show (wx.heap.push _)[wx.heap.size]? =_;rw [Array.getElem?_push,if_pos rfl])) hone (by unfold maxLen;omega) hbb (by omega)
 unfold Oper.wp execOp;simp only [ho,resolve,invoke,builtin,Sem.run_bind,Sem.run_pure,Result.andThen_ok,List.map_toArray,List.map_cons,List.map_nil,hs,hx,hr];exact h v1 w1 hown1 hg1 (by rw [hsz1] at hat;exact hat)
theorem cH {B:Nat} {wx:World} {elt slt:TypeId} {z:Value} {sz bs n m c:Nat} {v:Value} {xs news:List Value} {ad:Addr} {ops:Array Oper} {rest:List Oper} {o:Oper} {f:Act} {Q:Exit→Act→World→Prop}
 (hinfo:(Tryz.prog.info? elt).map (fun i=>(i.zero,i.size,i.bytes))=some (some z,sz,bs)) (hund:Tryz.prog.underlying slt=some (.slice elt)) (hzc:z.cells.size=sz) (hsz:0<sz) (hbs:bs≤1000)
 (hgd:o.guard=none) (s t:Operand) (ho:o.op= .call { callee:= .builtin .append,args:= #[s,t],argTypes:= #[slt,slt] }) (hs:f.eval s=v)
 (hown:wx.ownsRow B elt sz v n xs) (hB:B≤wx.heap.size) (hx:f.eval t= .slice (some ad) m c) (hl:news.length=m*sz) (hnews:∀ j u,news[j]? =some u→wx.cell? (ad.add j)=some u) (hone:∀ u ∈ news,u.oneCell'=true) (hlen:n+m≤1000000000)
 (h:∀ v1 w1,w1.ownsRow B elt sz v1 (n+m) (xs++news)→wx.grownBy w1 v.ownBlock→(v1.ownBlock=v.ownBlock∨v1.ownBlock=some wx.heap.size)→wpList Tryz.prog ops Q rest (f.put o.dst v1) w1):
 wpList Tryz.prog ops Q (o::rest) f wx:=by
 obtain ⟨i0,hi,hz0,hz1,hz2⟩:=Sc.cO hinfo
 have hbb:(n+m)*bs≤140737488355328:=by
  have:=Nat.mul_le_mul hlen hbs
  omega
 refine wpList_append_own_at _ hgd s t slt ho B elt i0 z sz bs hund hi hz0 hz1 hz2 hzc hsz v n xs hs hown ad m c news hx hl hnews hone (by unfold maxLen;omega) hbb hB ?_;intro v1 w1 hown1 hg1 _ hat;exact h v1 w1 hown1 hg1 hat
end Go.Proofs.YtpfemjlhklnfoaaGreatDoor
namespace Go.Proofs.YtpfemjlhklnfoaaGreatDoor
open Go.Shelf Go.RowKit Go.Lib Go.Sort
set_option maxRecDepth 100000
theorem eB {α:Type} (enc:α→List Value) (k:Nat) (hk:∀ x,(enc x).length=k) (l:List α):(l.flatMap enc).length=l.length*k:=by
 induction l with
 |nil=>simp
 |cons x t ih=>rw [List.flatMap_cons,List.length_append,hk,ih,List.length_cons,Nat.succ_mul];omega
variable {α:Type} [Inhabited α]
theorem bK (enc:α→List Value) (k:Nat) (hk:∀ x,(enc x).length=k):∀ (l:List α) (i r:Nat),i<l.length→r<k→(l.flatMap enc)[i*k+r]? =(enc (l[i]!))[r]?
 |[],i,r,h,_=>by cases h
 |x::t,0,r,_,hr=>by
  rw [List.flatMap_cons,List.getElem?_append_left (by rw [hk];omega)]
  simp
 |x::t,i+1,r,h,hr=>by
  rw [List.flatMap_cons,List.getElem?_append_right (by rw [hk,Nat.succ_mul];omega),hk];have e:(i+1)*k+r - k=i*k+r:=by rw [Nat.succ_mul];omega
  rw [e,bK enc k hk t i r (by simpa using h) hr]
  simp
theorem tH (enc:α→List Value) (k:Nat) (hk:∀ x,(enc x).length=k) (hk0:0<k) (d:Array α):(flatK enc k d).toList=d.toList.flatMap enc:=by
 apply List.ext_getElem?;intro t
 by_cases ht:t<d.size*k
 · have hq:t / k<d.toList.length:=by rw [Array.length_toList];exact (Nat.div_lt_iff_lt_mul hk0).2 ht
   have hr:=Nat.mod_lt t hk0
   have hf:(flatK enc k d).toList[t]? =some ((enc d[t / k]!)[t % k]!):=by
    rw [Array.getElem?_toList]
    have:(flatK enc k d)[t]! =(enc d[t / k]!)[t % k]! :=get_flatK _ _ _ _ ht
    rw [←this,getElem!_pos _ t (by simpa using ht)];exact Array.getElem?_eq_getElem (by simpa using ht)
   have hg:=bK enc k hk d.toList (t / k) (t % k) hq hr;rw [Nat.mul_comm,Nat.div_add_mod] at hg;have hd:d.toList[t / k]! =d[t / k]! :=by rw [getElem!_pos d (t / k) (by simpa using hq),getElem!_pos d.toList (t / k) hq];simp
   rw [hf,hg,hd,List.getElem?_eq_getElem (by rw [hk];exact hr),getElem!_pos _ (t % k) (by rw [hk];exact hr)]
 · rw [List.getElem?_eq_none (by simp;omega),List.getElem?_eq_none (by rw [eB enc k hk];simp;omega)]
theorem BA (enc:α→List Value) (k:Nat) (hk:∀ x,(enc x).length=k) (hk0:0<k) {w:World} {g:Nat} {cur:Array Value} {e:TypeId} {fs:List α} (hb:w.heap[g]? =some (.cells cur e (0,0))) (ht:cur.toList.take (fs.length*k)=fs.flatMap enc):HoldsK enc k w g 0 fs.toArray:=by
 intro j hj;have hj':j<fs.length*k:=by simpa using hj
 refine ⟨?_,by simp [World.frozen?,hb]⟩;have h1:(cur.toList.take (fs.length*k))[j]? =(fs.flatMap enc)[j]? :=by rw [ht]
 rw [List.getElem?_take_of_lt hj'] at h1;simp only [World.cell?,hb,Nat.zero_add];simp only [Option.isSome_none,Bool.false_eq_true,if_false];rw [←Array.getElem?_toList,h1];have e:=tH enc k hk hk0 fs.toArray;rw [List.toList_toArray] at e;rw [←e,Array.getElem?_toList,getElem!_pos _ j hj];exact Array.getElem?_eq_getElem hj
theorem EO (enc:α→List Value) (k:Nat) {w:World} {g n:Nat} {os:Array Obj} {cur:Array Value} {e:TypeId} {fr:Nat×Nat} (d:Array α) (hb:w.heap[g]? =some (.cells cur e fr)):
 (sortWorldK enc k w g 0 n d os).heap[g]? =some (.cells (putCells id 0 (flatK enc k d) cur) e fr):=by
 have hg:g<w.heap.size:=(Array.getElem?_eq_some_iff.1 hb).1;unfold sortWorldK putRowK;rw [heap_grow_old _ _ (by simpa using hg)];simp [putRow,mapBlock,Sort.ahead,Array.getElem?_modify,hb,onCells]
theorem BB (enc:α→List Value) (k:Nat) {w:World} {g n:Nat} {os:Array Obj} (d:Array α):w.grownBy (sortWorldK enc k w g 0 n d os) (some g):=by
 unfold sortWorldK putRowK;refine ⟨rfl,rfl,rfl,by simp,fun j hj hne=> ?_⟩;rw [heap_grow_old _ _ (by simpa using hj)]
 have:g≠j:=fun e=>hne (by rw [e])
 simp [putRow,mapBlock,Sort.ahead,Array.getElem?_modify,this]
theorem EP (cur:Array Value) (F:Array Value) (h:F.size≤cur.size):(putCells id 0 F cur).toList.take F.size=F.toList:=by
 apply List.ext_getElem?;intro j
 by_cases hj:j<F.size
 · rw [List.getElem?_take_of_lt hj,Array.getElem?_toList,Array.getElem?_toList]
   simp [putCells,hj,show j<cur.size by omega]
 · rw [List.getElem?_take_eq_none (by omega),List.getElem?_eq_none (by simp;omega)]
theorem BC {d d':Array α} (h:PermIn 0 d.size d d'):d'.toList.Perm d.toList:=by
 obtain ⟨hsz,_,hperm⟩:=h;have e1:d'.extract 0 d.size=d':=by rw [←hsz];exact Array.extract_size
 rw [e1,Array.extract_size] at hperm;exact hperm
theorem tI {lt:α→α→Bool} {d d':Array α} (h:PermIn 0 d.size d d') (hS:SortedIn lt 0 d.size d'):d'.toList.Pairwise fun x y=>lt y x=false:=by
 have hsz:=h.1;rw [List.pairwise_iff_getElem];intro i j hi hj hij;have hi':i<d'.size:=by simpa using hi
 have hj':j<d'.size:=by simpa using hj
 have:=hS i j (Nat.zero_le _) hij (by omega)
 rw [getElem!_pos d' j hj',getElem!_pos d' i hi'] at this
 simpa using this
theorem tJ {ρ:Ren} (L:SlLaysF0.n6 Tryz.prog ρ) (k:Nat) (hk0:0<k) (aE:∀ w,(isAgg (ρ.t 24)).run Tryz.prog w= .ok true w) (zE:∀ w,(Go.sizeOf (ρ.t 24)).run Tryz.prog w= .ok k w) (enc:α→List Value) (hk:∀ x,(enc x).length=k) (h1:∀ x,∀ v ∈ enc x,v.oneCell'=true) (cf:α→α→Int) (hO:SWO (ltOf cf)) (g:Nat)
 (eg:∀ args w,(callFunc g args).run Tryz.prog w= .ok (.enter g args) w) (hcmp:∀ (x y:α) (W:World),Calls Tryz.prog g #[.agg (enc x).toArray,.agg (enc y).toArray] W fun e w'=>e= .returned (.int .i64 (cf x y))∧∃ q os',w'=grow (W.drewN q) os')
 {w:World} {base:Nat} {T:TypeId} {v:Value} {fs:List α} (hown:w.ownsRow base T k v fs.length (fs.flatMap enc)) (hz:fs.length<4611686018427387904):
 Calls Tryz.prog (ρ.f 6) #[v,.func (.func g) #[] #[]] w fun e w'=>e= .returned (.tuple #[])∧∃ ts:List α,ts.Perm fs∧(ts.Pairwise fun x y=>ltOf cf y x=false)∧w'.ownsRow base T k v ts.length (ts.flatMap enc)∧w.grownBy w' v.ownBlock:=by
 rcases hown.2 with ⟨hv,hn⟩|⟨b,cap,cur,hv,hB,hgg,hc1,hc2,hc3,hc4⟩
 · obtain rfl:fs=[]:=List.length_eq_zero_iff.1 hn
   subst hv;refine (AnyF.slices_SortFunc_none L none 0 (.func (.func g) #[] #[]) w).mono ?_;rintro e w' ⟨rfl,rfl⟩;exact ⟨rfl,[],List.Perm.refl _,List.Pairwise.nil,hown,⟨rfl,rfl,rfl,Nat.le_refl _,fun _ _ _=>rfl⟩⟩
 · subst hv
   have hH:=BA enc k hk hk0 hgg hc4;have hcon:=AnyQ.slices_SortFunc L k aE zE enc hk h1 cf hO g #[] b 0 cap fs.toArray w eg (fun m os dk _ x y=>by simpa using hcmp x y _) hH (Array.getElem?_eq_some_iff.1 hgg).1 (by simp;omega);simp only [List.size_toArray] at hcon;refine hcon.mono ?_;rintro e w' ⟨rfl,d',n,os,hp,hs,rfl⟩;have hp':PermIn 0 fs.toArray.size fs.toArray d':=by simpa using hp
   have hs':SortedIn (ltOf cf) 0 fs.toArray.size d':=by simpa using hs
   have hpl:=BC hp';rw [List.toList_toArray] at hpl;refine ⟨rfl,d'.toList,hpl,tI hp' hs',⟨by rw [eB enc k hk],.inr ⟨b,cap,_,by rw [hpl.length_eq],hB,EO enc k d' hgg,by rw [hpl.length_eq];exact hc1,hc2,by simp [putCells,hc3],?_⟩⟩,BB enc k d'⟩;have e:=tH enc k hk hk0 d';have hsz:(flatK enc k d').size=d'.toList.length*k:=by simp
   rw [←hsz,EP cur _ (by rw [hsz,hc3,hpl.length_eq];exact Nat.mul_le_mul_right k hc1),e]
end Go.Proofs.YtpfemjlhklnfoaaGreatDoor
namespace Go.Proofs.YtpfemjlhklnfoaaGreatDoor
open Go.Shelf Go.RowKit Go.Lib Go.Sort
set_option maxRecDepth 100000
def Gd (w w':World):Prop:=∃ q os',w'=grow (w.drewN q) os'
theorem Gd.refl (w:World):Gd w w:=⟨0,#[],by rw [grow_empty];rfl⟩
theorem Gd.drew (w:World):Gd w w.drew:=⟨1,#[],by rw [grow_empty];rfl⟩
theorem Gd.box (w:World) (o:Obj):Gd w (w.alloc o):=⟨0,#[o],by rw [alloc_eq_grow];rfl⟩
theorem Gd.trans {a b c:World} (h:Gd a b) (h':Gd b c):Gd a c:=by
 obtain ⟨q,os,rfl⟩:=h;obtain ⟨q',os',rfl⟩:=h';refine ⟨q+q',os++os',?_⟩;simp [grow,World.drewN,Array.append_assoc,Nat.add_assoc]
theorem Gd.box2 (w:World) (o u:Obj):Gd w ((w.alloc o).alloc u):=(Gd.box w o).trans (Gd.box _ u)
theorem Gd.below {w w':World} (h:Gd w w'):Below w.heap.size w w':=by
 obtain ⟨q,os,rfl⟩:=h;refine ⟨rfl,rfl,rfl,by simp [grow,World.drewN],fun k hk=> ?_⟩;show (w.heap++os)[k]? =_;rw [Array.getElem?_append_left hk]
set_option maxHeartbeats 400000 in
theorem JO (a b c x y z:Int) (w:World):
 Calls Tryz.prog 153 #[.agg #[.int .i64 a,.int .i64 b,.int .i64 c],.agg #[.int .i64 x,.int .i64 y,.int .i64 z]] w fun e w'=>e= .returned (.bool (iQ a b c x y z))∧Gd w w':=by
 go_enter Tryz.func153,Tryz.ntmps153
 go_wp2
 all_goals
  go_ret;exact ⟨aC (by unfold iQ;simp_all),Gd.box2 _ _ _⟩
set_option maxHeartbeats 800000 in
theorem wB (a b c x y z:Int) (w:World):
 Calls Tryz.prog 95 #[.agg #[.int .i64 a,.int .i64 b,.int .i64 c],.agg #[.int .i64 x,.int .i64 y,.int .i64 z]] w fun e w'=>e= .returned (.int .i64 (bR a b c x y z))∧Gd w w':=by
 have he:=vX a b c x y z;have hg:=iW;have hl:=JO a b c x y z
 by_cases h:a=x∧b=y∧c=z
 · have HC:Hid (bR a b c x y z=0):=by unfold Hid bR;obtain ⟨h1,h2,h3⟩:=h;rw [if_pos h1,if_pos h2,if_pos h3]
   rw [decide_eq_true h] at he;clear h
   go_enter Tryz.func95,Tryz.ntmps95
   go_wp2
   go_ret;exact ⟨bE HC.out.symm,Gd.box2 _ _ _⟩
 · rw [decide_eq_false h] at he
   cases hc:iQ a b c x y z
   · have HC:Hid (bR a b c x y z=1):=by unfold Hid bR;unfold iQ at hc;grind
     rw [hc] at hl;clear h hc
     go_enter Tryz.func95,Tryz.ntmps95
     go_wp2_with (go_at_call 153;refine (hl _).mono ?_;rintro e w' ⟨rfl,hb⟩)
     go_ret;exact ⟨bE HC.out.symm,(Gd.box2 _ _ _).trans hb⟩
   · have HC:Hid (bR a b c x y z= -1):=by unfold Hid bR;unfold iQ at hc;grind
     rw [hc] at hl;clear h hc
     go_enter Tryz.func95,Tryz.ntmps95
     go_wp2_with (go_at_call 153;refine (hl _).mono ?_;rintro e w' ⟨rfl,hb⟩)
     go_ret;exact ⟨bE HC.out.symm,(Gd.box2 _ _ _).trans hb⟩
theorem jE:∀ (a b:List UInt8),Lib.compareBytes a b<0↔bytesBefore a b=true
 |[],[]=>by simp [Lib.compareBytes,bytesBefore]
 |[],_::_=>by simp [Lib.compareBytes,bytesBefore]
 |_::_,[]=>by simp [Lib.compareBytes,bytesBefore]
 |a::ra,b::rb=>by
  have ih:=jE ra rb;unfold Lib.compareBytes bytesBefore
  by_cases h1:a<b
  · simp [h1]
  · rw [if_neg h1]
    by_cases h2:b<a
    · rw [if_pos h2]
      have h3:¬ a=b:=fun e=>by subst e;exact h1 h2
      simp [h1,h3]
    · rw [if_neg h2]
      have h3:a=b:=UInt8.le_antisymm (UInt8.not_lt.1 h2) (UInt8.not_lt.1 h1);simp [h3,ih]
theorem jF:∀ (a b:List UInt8),Lib.compareBytes a b=0↔a=b
 |[],[]=>by simp [Lib.compareBytes]
 |[],_::_=>by simp [Lib.compareBytes]
 |_::_,[]=>by simp [Lib.compareBytes]
 |a::ra,b::rb=>by
  have ih:=jF ra rb;unfold Lib.compareBytes
  by_cases h1:a<b
  · rw [if_pos h1]
    have h3:¬ a=b:=fun e=>by subst e;exact absurd h1 (UInt8.lt_irrefl _)
    simp [h3]
  · rw [if_neg h1]
    by_cases h2:b<a
    · rw [if_pos h2]
      have h3:¬ a=b:=fun e=>by subst e;exact h1 h2
      simp [h3]
    · rw [if_neg h2]
      have h3:a=b:=UInt8.le_antisymm (UInt8.not_lt.1 h2) (UInt8.not_lt.1 h1);simp [h3,ih]
theorem fO {a b c:List UInt8} (h:bytesBefore a b=false) (k:bytesBefore b c=false):bytesBefore a c=false:=by
 rw [Bool.eq_false_iff];intro q
 by_cases e:b=c
 · subst e;rw [h] at q;cases q
 · rcases WideAt.bytes_total b c e with r|r
   · rw [k] at r;cases r
   · have:=WideShapes.bytes_trans a c b q r
     rw [h] at this;cases this
set_option maxHeartbeats 1600000 in
theorem MH {w:World} {g:Nat} {r1 r2:Int} (c0:w.cell? ⟨g,0,none⟩=some (.int .i64 r1)) (c1:w.cell? ⟨g,1,none⟩=some (.int .i64 r2)):Calls Tryz.prog 104 #[.slice (some ⟨g,0,none⟩) 2 2] w fun e w'=>e= .returned (.int .i64 (if r1=0 then r2 else r1))∧w'=w:=by
 have HIF:Hid ((r1=0→(if r1=0 then r2 else r1)=r2)∧(¬ r1=0→(if r1=0 then r2 else r1)=r1)):=⟨fun h=>if_pos h,fun h=>if_neg h⟩;generalize (if r1=0 then r2 else r1)=rr at*
 go_enter Tryz.func104,Tryz.ntmps104
 go_wp2_with fail
 go_loopw [8] (fun vi wr=>wr=w∧(vi= .int .i64 0∨(vi= .int .i64 1∧r1=0)∨(vi= .int .i64 2∧r1=0∧r2=0))) (fun vi _=>2 - (intOf vi).toNat)
 case atStart=>exact ⟨rfl,Or.inl rfl⟩
 case round=>
  obtain ⟨hww,rfl|⟨rfl,h1⟩|⟨rfl,h1,h2⟩⟩:=hrel
  · obtain rfl:w=wr:=hww.symm
    by_cases hz:r1=0
    · have HZ:=aA hz
      have hb:(r1==0)=true:=by simpa using hz
      rw [hz] at c0;clear hz hb
      go_wp2_with fail
      exact ⟨⟨trivial,Or.inr (Or.inl ⟨rfl,HZ.out⟩)⟩,by decide⟩
    · have HZ:=aA hz
      have hb:(r1==0)=false:=by simpa using hz
      clear hz
      go_wp2_with fail
      go_ret;exact ⟨bE (HIF.out.2 HZ.out).symm,rfl⟩
  · obtain rfl:w=wr:=hww.symm
    have HZ:=aA h1;clear h1
    by_cases hz:r2=0
    · have HZ2:=aA hz
      rw [hz] at c1;clear hz
      go_wp2_with fail
      exact ⟨⟨trivial,Or.inr (Or.inr ⟨rfl,HZ.out,HZ2.out⟩)⟩,by decide⟩
    · have hb:(r2==0)=false:=by simpa using hz
      clear hz
      go_wp2_with fail
      go_ret;exact ⟨bE (HIF.out.1 HZ.out).symm,rfl⟩
  · obtain rfl:w=wr:=hww.symm
    have HZ:=aA h1;have HZ2:=aA h2;clear h1 h2
    go_wp2
    go_ret;exact ⟨bE ((HIF.out.1 HZ.out).trans HZ2.out).symm,rfl⟩
end Go.Proofs.YtpfemjlhklnfoaaGreatDoor
namespace Go.Proofs.YtpfemjlhklnfoaaGreatDoor
open Go.RowKit
set_option maxRecDepth 100000
structure Pg where
 nm:ByteArray
 a:Int
 b:Int
 c:Int
 d:List Dp
 p:List Dp
 o:List Dp
def PgAt (w:World) (P:Pg) (v1 v2 v3:Value):Prop:=DepsAt w v1 P.d∧DepsAt w v2 P.p∧DepsAt w v3 P.o
theorem PgAt.below {w w':World} {P:Pg} {v1 v2 v3:Value} (h:PgAt w P v1 v2 v3) (hb:Below w.heap.size w w'):PgAt w' P v1 v2 v3:=⟨h.1.below hb,h.2.1.below hb,h.2.2.below hb⟩
def BxP (w:World) (N:Nat) (s:ByteArray) (a b c:Int) (v1 v2 v3:Value):Prop:=
 w.cell? ⟨N,0,none⟩=some (.string s)∧w.cell? ⟨N,1,none⟩=some (.int .i64 a)∧w.cell? ⟨N,2,none⟩=some (.int .i64 b)∧w.cell? ⟨N,3,none⟩=some (.int .i64 c)∧w.cell? ⟨N,4,none⟩=some v1∧w.cell? ⟨N,5,none⟩=some v2∧w.cell? ⟨N,6,none⟩=some v3∧N<w.heap.size
theorem bF (N:Nat) (s:ByteArray) (a b c:Int) (v1 v2 v3:Value):KeepP fun w1=>BxP w1 N s a b c v1 v2 v3:=fun w w' h hb=>by
 obtain ⟨h0,h1,h2,h3,h4,h5,h6,h7⟩:=h;have q:∀ i,w'.cell? ⟨N,i,none⟩=w.cell? ⟨N,i,none⟩:=fun i=>hb.cell (p:=⟨N,i,none⟩) h7
 exact ⟨by rw [q];exact h0,by rw [q];exact h1,by rw [q];exact h2,by rw [q];exact h3,by rw [q];exact h4,by rw [q];exact h5,by rw [q];exact h6,Nat.lt_of_lt_of_le h7 hb.size⟩
theorem BxP.new {w:World} {N:Nat} (hN:w.heap.size=N) (s:ByteArray) (a b c:Int) (v1 v2 v3:Value):BxP (w.alloc (.cells #[.string s,.int .i64 a,.int .i64 b,.int .i64 c,v1,v2,v3] 34)) N s a b c v1 v2 v3:=by
 subst hN;refine ⟨?_,?_,?_,?_,?_,?_,?_,?_⟩<;>simp
theorem eM (s:ByteArray) (hs:s.size≤281474976710656) (w:World):Calls Tryz.prog 78 #[.string s] w fun e w'=>e= .returned (.string s)∧Below w.heap.size w w':=by
 have HC:=aA (Tryz.stringslite_Clone s w hs)
 go_enter Tryz.func78,Tryz.ntmps78
 go_wp2_with (go_at_call 127;refine HC.out.mono ?_;rintro e w1 ⟨rfl,hb⟩;have HB:=aA hb;clear hb)
 go_ret;exact ⟨rfl,HB.out⟩
theorem yV {w:World} {g o:Nat} {L:List Sp} (h:∀ i (h:i<L.length),SpAt w g (o+i*6) L[i]) (j:Nat) (u:Value) (hj:(bM L)[j]? =some u):w.cell? ⟨g,o+j,none⟩=some u:=by
 have hl:j<L.length*6:=by rw [←eR];exact (List.getElem?_eq_some_iff.1 hj).1
 obtain ⟨i,r,hr,rfl⟩:∃ i r,r<6∧j=i*6+r:=⟨j / 6,j % 6,by omega,by omega⟩;have hi:i<L.length:=by omega
 obtain ⟨a0,a1,a2,a3,a4,a5⟩:=h i hi;obtain ⟨b0,b1,b2,b3,b4,b5⟩:=iZ L i hi;rw [←Nat.add_assoc]
 match r,hr with
 |0,_=>exact (a0.trans b0.symm).trans hj
 |1,_=>exact (a1.trans b1.symm).trans hj
 |2,_=>exact (a2.trans b2.symm).trans hj
 |3,_=>exact (a3.trans b3.symm).trans hj
 |4,_=>exact (a4.trans b4.symm).trans hj
 |5,_=>exact (a5.trans b5.symm).trans hj
theorem EQ (L:List Sp):∀ u ∈ bM L,u.oneCell'=true:=fun u hu=>by
 unfold bM at hu;obtain ⟨s,_,hs⟩:=List.mem_flatMap.1 hu
 simp at hs
 rcases hs with rfl|rfl|rfl|rfl|rfl|rfl<;>rfl
theorem pQ (w:World):(w.alloc (.cells #[] 91)).ownsRow w.heap.size 91 6 (.slice (some ⟨w.heap.size,0,none⟩) 0 0) 0 []:=
 ⟨rfl,Or.inr ⟨w.heap.size,0,#[],rfl,Nat.le_refl _,by show (w.heap.push _)[w.heap.size]? =_;rw [Array.getElem?_push,if_pos rfl],Nat.le_refl _,by decide,rfl,rfl⟩⟩
set_option maxHeartbeats 1600000 in
theorem wC {L:List Sp} {v:Value} {w:World} (h:SpansC w v L) (hl:L.length≤1000000):Calls Tryz.prog 138 #[v] w fun e w'=>∃ v',e= .returned v'∧OwnS w' w.heap.size v' L∧Below w.heap.size w w':=by
 obtain ⟨⟨ad,cap,rfl,hc⟩,_⟩:=h;cases ad with
 |none=>
  obtain rfl:L=[]:=by
   rcases hc with e|⟨_,_,q,_⟩
   · exact e
   · cases q
  rw [List.length_nil];have q0:∀ w,(binOp .eql 39 (.slice none 0 cap) (.slice none 0 0)).run Tryz.prog w= .ok (.bool true) w:=fun w=>run_eql_slice_nil w 39 91 none 0 cap Tryz.underlying39
  go_enter Tryz.func138,Tryz.ntmps138
  go_wp2
  go_ret;exact ⟨_,rfl,OwnS.nil _ _,Below.refl _ _⟩
 |some a=>
  have HNW:Hid (∀ j u,(bM L)[j]? =some u→(w.alloc (.cells #[] 91)).cell? (a.add j)=some u):=fun j u hj=>by
   rcases hc with e|⟨g,o,q,hg,hs⟩
   · subst e;simp [bM] at hj
   · cases q
     have e:=yV hs j u hj;have e2:(⟨g,o,none⟩:Addr).add j=⟨g,o+j,none⟩:=by simp [Addr.add]
     rw [e2];exact ((aD w (.cells #[] 91)).cell (p:=⟨g,o+j,none⟩) hg).trans e
  have HRW:=aA (pQ w);clear hc;have q0:∀ w,(binOp .eql 39 (.slice (some a) L.length cap) (.slice none 0 0)).run Tryz.prog w= .ok (.bool false) w:=fun w=>run_eql_slice_nil w 39 91 (some a) L.length cap Tryz.underlying39
  go_enter Tryz.func138,Tryz.ntmps138
  go_wp2_with (at_builtin;refine cH (B:=w.heap.size) (wx:=w.alloc (.cells #[] 91)) (news:=bM L) (xs:=[]) (n:=0) tD Tryz.underlying39 rfl (by decide) (by decide) rfl (.tmp 5) (.tmp 6) rfl rfl HRW.out (by simp) rfl (eR L) HNW.out (EQ L) (by omega) ?_;intro v1 w1 ho hgr hat;have HO:Hid (OwnS w1 w.heap.size v1 L):=(by have e:=ho;rw [Nat.zero_add,List.nil_append] at e;exact e);have HB:Hid (Below w.heap.size w w1):=(aD w (.cells #[] 91)).trans (dN (B:=w.heap.size) hgr (fun g e=>by cases e;exact Nat.le_refl _) (by simp));clear ho hgr hat)
  go_ret;exact ⟨_,rfl,HO.out,HB.out⟩
end Go.Proofs.YtpfemjlhklnfoaaGreatDoor
