/- Parse3, Tx2, Tx3, Tx4, Tx5, Pr1, Pr2, Kn1: their declarations that are needed, laid in one text, remarks and blanks left out. -/
import Derived.Test.YtmnhnofnlcbliaaGreatDoorShelfC
import Derived.Lib.SplitLaws
import Derived.Lib.Join
import Derived.Test.YtmnhnofnlcbliaaGreatDoorMg05
namespace Go.Proofs.YtmnhnofnlcbliaaGreatDoor
open Go.RowKit
set_option maxRecDepth 100000
def pA (l:List UInt8):Int:=tI (Lib.cut l [46]).1
def pB (l:List UInt8):Int:=tI (Lib.cut (Lib.cut l [46]).2.1 [46]).1
def pC (l:List UInt8):Int:=tI (Lib.cut (Lib.cut l [46]).2.1 [46]).2.1
def okP (s:ByteArray):Bool:=bB (pA s.data.toList) (pB s.data.toList) (pC s.data.toList)&&decide (aL (pA s.data.toList) (pB s.data.toList) (pC s.data.toList)=s)
def eS (s:ByteArray):Int:=if okP s then pA s.data.toList else 0
def eT (s:ByteArray):Int:=if okP s then pB s.data.toList else 0
def eU (s:ByteArray):Int:=if okP s then pC s.data.toList else 0
theorem VW (l sep:List UInt8):(Lib.cut l sep).1.length≤l.length∧(Lib.cut l sep).2.1.length≤l.length:=by
 unfold Lib.cut
 split
 · simp;omega
 · simp
theorem KL (l:List UInt8):(⟨l.toArray⟩:ByteArray).data.toList=l:=by simp
theorem dT (l:List UInt8):(⟨l.toArray⟩:ByteArray).size=l.length:=by show l.toArray.size=_;simp
theorem aI (s:ByteArray):s.data.toList.length=s.size:=rfl
theorem VX {W:World} (he:Env W) (s:ByteArray) (hs:s.size<4294967281) (w1:World) (hb:Below W.heap.size W w1):
 Calls Tryz.prog 154 #[.string s,.string ⟨#[46]⟩] w1 fun e w'=>e= .returned (.tuple #[.string ⟨(Lib.cut s.data.toList [46]).1.toArray⟩,.string ⟨(Lib.cut s.data.toList [46]).2.1.toArray⟩,.bool (Lib.cut s.data.toList [46]).2.2])∧Below w1.heap.size w1 w':=by
 obtain ⟨m,hm⟩:=(he.below hb).max;refine (Tryz.strings_Cut s ⟨#[46]⟩ m w1 hs hm).mono ?_;rintro e w' ⟨rfl,n,rfl⟩;exact ⟨rfl,DT (Below.refl _ _) n⟩
theorem bC {s t:ByteArray} (h:s.toList=t.toList):s=t:=by
 rw [ByteArray.toList_eq,ByteArray.toList_eq] at h;cases s;cases t;simp only [ByteArray.mk.injEq];exact Array.toList_inj.1 h
theorem iX (s:ByteArray) (hs:s.size<4294967281) (w:World) (he:Env w):
 Calls Tryz.prog 256 #[.string s] w fun e w'=>e= .returned (.tuple #[.agg #[.int .i64 (eS s),.int .i64 (eT s),.int .i64 (eU s)],.bool (okP s)])∧Below w.heap.size w w':=by
 have hl:=aI s;have l1:=VW s.data.toList [46];have l2:=VW (Lib.cut s.data.toList [46]).2.1 [46];have HC:=VX he s hs;have HD:=VX he ⟨(Lib.cut s.data.toList [46]).2.1.toArray⟩ (by rw [dT];omega);have HX:=fun w1 hb=>oF ⟨(Lib.cut s.data.toList [46]).1.toArray⟩ (by rw [dT];omega) w1 (he.below hb)
 have HY:=fun w1 hb=>oF ⟨(Lib.cut (Lib.cut s.data.toList [46]).2.1 [46]).1.toArray⟩ (by rw [dT];omega) w1 (he.below hb)
 have HZ:=fun w1 hb=>oF ⟨(Lib.cut (Lib.cut s.data.toList [46]).2.1 [46]).2.1.toArray⟩ (by rw [dT];omega) w1 (he.below hb)
 rw [KL] at HD HX HY HZ;have HM:=fun w1 (_:Below w.heap.size w w1)=>jP (pA s.data.toList) (pB s.data.toList) (pC s.data.toList) w1
 have HP:=fun w1 hb=>mI he.tab (pA s.data.toList) (pB s.data.toList) (pC s.data.toList) w1 hb
 cases hm:bB (pA s.data.toList) (pB s.data.toList) (pC s.data.toList)
 · have ho:okP s=false:=by unfold okP;rw [hm];rfl
   unfold eS eT eU;rw [ho];rw [hm] at HM;exact VV s _ _ _ _ _ _ _ _ _ w HC HD HX HY HZ HM
 · rw [hm] at HM
   by_cases ht:aL (pA s.data.toList) (pB s.data.toList) (pC s.data.toList)=s
   · have ho:okP s=true:=by unfold okP;rw [hm,decide_eq_true ht];rfl
     unfold eS eT eU;rw [ho];rw [ht] at HP;exact VU s _ _ _ _ _ _ _ _ _ w HC HD HX HY HZ HM HP
   · have ho:okP s=false:=by unfold okP;rw [hm,decide_eq_false ht];rfl
     unfold eS eT eU;rw [ho];exact EN s _ _ _ _ _ _ _ _ _ _ w (fun e=>ht (bC e)) HC HD HX HY HZ HM HP
theorem pO {s:ByteArray} (h:okP s=true):bB (eS s) (eT s) (eU s)=true∧s=aL (eS s) (eT s) (eU s):=by
 unfold eS eT eU;rw [h];unfold okP at h;simp only [Bool.and_eq_true,decide_eq_true_eq] at h;exact ⟨h.1,h.2.symm⟩
theorem OW (l r:List UInt8) (h:(46:UInt8) ∉ l):Lib.cut (l++46::r) [46]=(l,r,true):=by
 have hi:Lib.index (l++46::r) [46]=l.length:=by
  refine Lib.index_first (by simp) (by simp [Lib.occAt]) ?_;intro j hj;unfold Lib.occAt;rw [List.drop_append_of_le_length (by omega)];have hd:l.drop j=l[j]::l.drop (j+1):=List.drop_eq_getElem_cons hj;rw [hd];simp only [List.cons_append,List.isPrefixOf,Bool.and_true];rw [beq_eq_false_iff_ne];intro e;exact h (by rw [e];exact List.getElem_mem hj)
 unfold Lib.cut;rw [hi,if_pos (by omega)]
 simp
theorem pP (l:List UInt8) (h:∀ d ∈ l,48≤d.toNat∧d.toNat≤57) (acc:Nat):Lib.decFrom acc l=some (l.foldl (fun n d=>n*10+(d.toNat - 48)) acc):=by
 induction l generalizing acc with
 |nil=>rfl
 |cons d l ih=>
  have hd:=h d (List.mem_cons_self);unfold Lib.decFrom
  have:Lib.digitVal d=some (d.toNat - 48):=by
   unfold Lib.digitVal;simp;omega
  rw [this];simp only [List.foldl_cons];exact ih (fun x hx=>h x (List.mem_cons_of_mem _ hx)) _
theorem uU {n:Int} (h0:0≤n) (h1:n≤999):tI (Lib.itoa n)=n:=by
 have e:=gC h0;have hl:(Lib.itoa n).length≤3:=by have:=eI h0 h1;rw [dT] at this;exact this
 have hd:=dH n.toNat;have hv:=pN n.toNat
 have ha:Lib.atoi (Lib.itoa n)=some n:=by
  rw [e];cases hc:Lib.decDigits n.toNat with
  |nil=>exact absurd hc (oE _)
  |cons b r=>
   rw [hc] at hd hv;have hb:=hd b (List.mem_cons_self);have n45:(b==45)=false:=by rw [beq_eq_false_iff_ne];rintro rfl;revert hb;decide
   have n43:(b==43)=false:=by rw [beq_eq_false_iff_ne];rintro rfl;revert hb;decide
   unfold Lib.atoi;simp only [n45,n43,Bool.false_eq_true,if_false];unfold Lib.decNat;simp only [List.isEmpty_cons,Bool.false_eq_true,if_false];rw [pP _ hd];unfold zD at hv;rw [hv]
   simp
   omega
 unfold tI;rw [Lib.atoiAll_short _ (by omega),ha];rfl
theorem KN {a b c:Int} (h:bB a b c=true):pA (aL a b c).data.toList=a∧pB (aL a b c).data.toList=b∧pC (aL a b c).data.toList=c:=by
 obtain ⟨a0,a1,b0,b1,c0,c1⟩:=dR h;unfold pA pB pC;rw [iW h,OW _ _ (VT a0)]
 simp only
 rw [OW _ _ (VT b0)];exact ⟨uU a0 a1,uU b0 b1,uU c0 c1⟩
theorem rI {a b c:Int} (h:bB a b c=true):okP (aL a b c)=true∧eS (aL a b c)=a∧eT (aL a b c)=b∧eU (aL a b c)=c:=by
 obtain ⟨e1,e2,e3⟩:=KN h
 have ho:okP (aL a b c)=true:=by
  unfold okP;rw [e1,e2,e3,h]
  simp
 unfold eS eT eU;rw [ho];exact ⟨rfl,e1,e2,e3⟩
set_option maxHeartbeats 800000 in
theorem BQ (s:ByteArray) (w:World) (h0:s.toList.isEmpty=false) (h1:(s.toList==[61])=false) (h2:(s.toList==[60])=false) (h3:(s.toList==[60,61])=false) (h4:(s.toList==[62])=false) (h5:(s.toList==[62,61])=false) (h6:(s.toList==[94])=false) (h7:(s.toList==[126])=false) {a b c:Int}:
 Calls Tryz.prog 305 #[.string s,.agg #[.int .i64 a,.int .i64 b,.int .i64 c]] w fun e w'=>e= .returned (.tuple #[.slice none 0 0,.bool false])∧Below w.heap.size w w':=by
 go_enter Tryz.func305,Tryz.ntmps305
 go_wp2_with fail
 go_ret2;exact ⟨rfl,aC _ _⟩
theorem dC {s:ByteArray} {l:List UInt8} (h:s.data.toList=l):s=⟨l.toArray⟩:=by
 cases s with
 |mk d=>simp only at h;subst h;simp
theorem kA {s:ByteArray} {l:List UInt8} (h:¬ s.data.toList=l):(s.toList==l)=false:=by
 rw [ByteArray.toList_eq];simpa using h
theorem uV (s:ByteArray) {n:Int} (hn:okR n) (w:World) (hf:FL w):
 Calls Tryz.prog 305 #[.string s,.agg #[.int .i64 (atA n),.int .i64 (atB n),.int .i64 (atC n)]] w fun e w'=>∃ v,e= .returned (.tuple #[v,.bool (gK s.data.toList n).isSome])∧SpansR w' v ((gK s.data.toList n).getD [])∧Below w.heap.size w w':=by
 by_cases h0:s.data.toList=[]
 · rw [dC h0];exact EK w hf
 by_cases h1:s.data.toList=[61]
 · rw [dC h1];exact RN w hf
 by_cases h2:s.data.toList=[60]
 · rw [dC h2];exact RR hn w hf
 by_cases h3:s.data.toList=[60,61]
 · rw [dC h3];exact RO w hf
 by_cases h4:s.data.toList=[62]
 · rw [dC h4];exact RT hn w hf
 by_cases h5:s.data.toList=[62,61]
 · rw [dC h5];exact RP w hf
 by_cases h6:s.data.toList=[94]
 · rw [dC h6];exact BO hn w hf
 by_cases h7:s.data.toList=[126]
 · rw [dC h7];exact BP hn w hf
 have e:gK s.data.toList n=none:=by
  unfold gK;rw [if_neg (by simp [h0,h1]),if_neg h2,if_neg h3,if_neg h4,if_neg h5,if_neg h6,if_neg h7]
 rw [e];refine (BQ s w ?_ (kA h1) (kA h2) (kA h3) (kA h4) (kA h5) (kA h6) (kA h7)).mono ?_
 · rw [ByteArray.toList_eq]
   cases hd:s.data.toList with
   |nil=>exact (h0 hd).elim
   |cons _ _=>rfl
 · rintro e w' ⟨rfl,hb⟩
   exact ⟨_,rfl,⟨none,0,rfl,Nat.le_refl _,Or.inl rfl⟩,hb⟩
theorem RV (w:World) (hf:FL w):
 Calls Tryz.prog 295 #[.string ⟨#[42]⟩] w fun e w'=>∃ v,e= .returned (.tuple #[v,.bool true])∧SpansR w' v cF∧Below w.heap.size w w':=by
 have H:=aB (uQ hf);clear hf
 go_enter Tryz.func295,Tryz.ntmps295
 go_wp2_with (go_at_call 294;refine H.out.mono ?_;rintro e w1 ⟨v1,rfl,ok1⟩;have HO:=aB ok1;clear ok1)
 go_ret2;exact ⟨v1,rfl,HO.out⟩
set_option maxHeartbeats 800000 in
theorem Am (s:ByteArray) (hs:s.size≤4294967200) (w:World) (he:Env w) (h42:(s.toList==[42])=false) (q:Int) (k:Nat) (hq:max q 0=(k:Int)) (hk:k≤s.size)
 (HI:Hid (Calls Tryz.prog 304 #[.string s,.string ⟨#[48,49,50,51,52,53,54,55,56,57]⟩] w fun e w'=>e= .returned (.int .i64 q)∧Below w.heap.size w w')) (ho:okP (s.extract k s.size)=false):
 Calls Tryz.prog 295 #[.string s] w fun e w'=>e= .returned (.tuple #[.slice none 0 0,.bool false])∧Below w.heap.size w w':=by
 have HP:Hid (∀ w1,Below w.heap.size w w1→Calls Tryz.prog 256 #[.string (s.extract k s.size)] w1 fun e w'=>e= .returned (.tuple #[.agg #[.int .i64 (eS (s.extract k s.size)),.int .i64 (eT (s.extract k s.size)),.int .i64 (eU (s.extract k s.size))],.bool false])∧Below w1.heap.size w1 w'):=fun w1 hb=>by
  have:=iX (s.extract k s.size) (by simp;omega) w1 (he.below hb);rw [ho] at this;exact this
 clear he ho
 go_enter Tryz.func295,Tryz.ntmps295
 go_wp2_with (first
  |(go_at_call 304;refine HI.out.mono ?_;rintro e w1 ⟨rfl,ok1⟩;have HO1:=aB ok1;clear ok1)
  |(go_at_call 256;refine (HP.out _ HO1.out).mono ?_;rintro e w2 ⟨rfl,ok2⟩;have HO2:=aB ok2;clear ok2))
 go_ret2;exact ⟨rfl,aA (aA HO1.out HO2.out) (aC _ _)⟩
def plP (t:ByteArray):Int:=bE (eS t) (eT t) (eU t)
theorem KP {t:ByteArray} (h:okP t=true):okR (plP t)∧atA (plP t)=eS t∧atB (plP t)=eT t∧atC (plP t)=eU t:=by
 have m:=(pO h).1;have l:=iB m;exact ⟨by unfold okR plP;omega,BI m⟩
set_option maxHeartbeats 1600000 in
theorem An (s:ByteArray) (hs:s.size≤4294967200) (w:World) (he:Env w) (hf:FL w) (h42:(s.toList==[42])=false) (q:Int) (k:Nat) (hq:max q 0=(k:Int)) (hk:k≤s.size)
 (HI:Hid (Calls Tryz.prog 304 #[.string s,.string ⟨#[48,49,50,51,52,53,54,55,56,57]⟩] w fun e w'=>e= .returned (.int .i64 q)∧Below w.heap.size w w')) (ho:okP (s.extract k s.size)=true):
 Calls Tryz.prog 295 #[.string s] w fun e w'=>∃ v,e= .returned (.tuple #[v,.bool (gK (s.extract 0 k).data.toList (plP (s.extract k s.size))).isSome])∧SpansR w' v ((gK (s.extract 0 k).data.toList (plP (s.extract k s.size))).getD [])∧Below w.heap.size w w':=by
 obtain ⟨hn,e1,e2,e3⟩:=KP ho
 have HP:Hid (∀ w1,Below w.heap.size w w1→Calls Tryz.prog 256 #[.string (s.extract k s.size)] w1 fun e w'=>e= .returned (.tuple #[.agg #[.int .i64 (atA (plP (s.extract k s.size))),.int .i64 (atB (plP (s.extract k s.size))),.int .i64 (atC (plP (s.extract k s.size)))],.bool true])∧Below w1.heap.size w1 w'):=fun w1 hb=>by
  have:=iX (s.extract k s.size) (by simp;omega) w1 (he.below hb);rw [ho,←e1,←e2,←e3] at this;exact this
 have HS:Hid (∀ w1,FL w1→Calls Tryz.prog 305 #[.string (s.extract 0 k),.agg #[.int .i64 (atA (plP (s.extract k s.size))),.int .i64 (atB (plP (s.extract k s.size))),.int .i64 (atC (plP (s.extract k s.size)))]] w1 fun e w'=>∃ v,e= .returned (.tuple #[v,.bool (gK (s.extract 0 k).data.toList (plP (s.extract k s.size))).isSome])∧SpansR w' v ((gK (s.extract 0 k).data.toList (plP (s.extract k s.size))).getD [])∧Below w1.heap.size w1 w'):=fun w1 h=>uV _ hn w1 h
 have HFL:=aB hf;clear he ho hf e1 e2 e3 hn;generalize plP (s.extract k s.size)=n at*;generalize (gK (s.extract 0 k).data.toList n).isSome=b at*;generalize (gK (s.extract 0 k).data.toList n).getD []=R at*
 go_enter Tryz.func295,Tryz.ntmps295
 go_wp2_with (first
  |(go_at_call 304;refine HI.out.mono ?_;rintro e w1 ⟨rfl,ok1⟩;have HO1:=aB ok1;clear ok1)
  |(go_at_call 256;refine (HP.out _ HO1.out).mono ?_;rintro e w2 ⟨rfl,ok2⟩;have HO2:=aB (aA HO1.out ok2);clear ok2))
 have HB:Hid (Below w.heap.size w (w2.alloc (.cells #[.int .i64 (atA n),.int .i64 (atB n),.int .i64 (atC n)] 52))∧BxAt (w2.alloc (.cells #[.int .i64 (atA n),.int .i64 (atB n),.int .i64 (atC n)] 52)) ⟨w2.heap.size,.int .i64 (atA n),.int .i64 (atB n),.int .i64 (atC n)⟩):=⟨aA HO2.out (aC _ _),((OKs.nil w2).box rfl _ _ _).one⟩;obtain ⟨_,b0,b1,b2,b3⟩:=HB.out;have HK:Hid (KeepP fun w1=>Below w.heap.size w w1∧BxAt w1 ⟨w2.heap.size,.int .i64 (atA n),.int .i64 (atB n),.int .i64 (atC n)⟩):=(aG w).and (rE _)
 go_region_held3 (fun w'=>w'.cell? ⟨w2.heap.size,0,none⟩=some (.int .i64 (atA n))∧w'.cell? ⟨w2.heap.size,1,none⟩=some (.int .i64 (atB n))∧w'.cell? ⟨w2.heap.size,2,none⟩=some (.int .i64 (atC n))) (go_keep)
  (first
    |(go_at_call 305;refine (HS.out _ (HFL.out.below (HK.out.drew HB.out).1)).mono ?_;rintro e w3 ⟨v3,rfl,ok3⟩;have HO3:=aB ok3;have HO4:=aB (HK.out _ _ (HK.out.drew HB.out) ok3.2);clear ok3 b0 b1 b2 b3;obtain ⟨_,b0,b1,b2,b3⟩:=HO4.out))
 all_goals go_wp2
 all_goals go_ret2
 all_goals exact ⟨v3,rfl,HO3.out.1,HO4.out.1⟩
def tJ (s:ByteArray):Nat:=(max (Lib.indexAny s.data.toList [48,49,50,51,52,53,54,55,56,57]) 0).toNat
theorem sM (c:List UInt8):∀ l:List UInt8,Lib.indexAny l c<l.length∨Lib.indexAny l c= -1
 |[]=>Or.inr rfl
 |b::l=>by
  have ih:=sM c l;unfold Lib.indexAny;simp only [List.length_cons]
  split
  · left;omega
  · split
    · exact Or.inr rfl
    · left
      rename_i h
      simp at h
      omega
theorem OX (s:ByteArray):tJ s≤s.size:=by
 unfold tJ;have h1:=sM [48,49,50,51,52,53,54,55,56,57] s.data.toList;have h2:=aI s;have h3:=Lib.indexAny_ge [48,49,50,51,52,53,54,55,56,57] s.data.toList;omega
def fD (s:ByteArray):Option Rg:=if s.data.toList=[42] then some cF else if okP (s.extract (tJ s) s.size)=true then gK (s.extract 0 (tJ s)).data.toList (plP (s.extract (tJ s) s.size)) else none
theorem pQ {s:ByteArray} {R:Rg} (h:fD s=some R):RangeR R:=by
 unfold fD at h
 split at h
 · injection h with h;subst h;exact cD
 · split at h
   · rename_i ho
     exact Ak (KP ho).1 h
   · cases h
def KQ (s:ByteArray):Prop:=8<s.size∨∀ (j:Nat) b,s.data.toList[j]? =some b→b.toNat<128
theorem OY (w:World):(zeroValue 325).run Tryz.prog w= .ok (.agg (Array.replicate 256 (.bool false))) w:=by kernel_rfl
theorem EO (s:ByteArray) (hs:s.size<4294967281) (h:KQ s) (w:World):
 Calls Tryz.prog 304 #[.string s,.string ⟨#[48,49,50,51,52,53,54,55,56,57]⟩] w fun e w'=>e= .returned (.int .i64 (Lib.indexAny s.data.toList [48,49,50,51,52,53,54,55,56,57]))∧Below w.heap.size w w':=by
 have hac:∀ (j:Nat) b,(⟨#[48,49,50,51,52,53,54,55,56,57]⟩:ByteArray).data.toList[j]? =some b→b.toNat<128:=by
  intro j b hj;have hm:=List.mem_of_getElem? hj
  simp at hm
  rcases hm with rfl|rfl|rfl|rfl|rfl|rfl|rfl|rfl|rfl|rfl<;>decide
 rcases h with h|h
 · refine (Tryz.strings_IndexAny_long OY s ⟨#[48,49,50,51,52,53,54,55,56,57]⟩ w (by decide) h hs (by decide) hac).mono ?_
   rintro e w' ⟨rfl,rfl⟩;exact ⟨rfl,aS _ _ _⟩
 · exact Tryz.strings_IndexAny OY s ⟨#[48,49,50,51,52,53,54,55,56,57]⟩ w hs (by decide) h hac
theorem VY (s:ByteArray) (hs:s.size≤4294967200) (hp:KQ s) (w:World) (he:Env w) (hf:FL w):
 Calls Tryz.prog 295 #[.string s] w fun e w'=>∃ v,e= .returned (.tuple #[v,.bool (fD s).isSome])∧SpansR w' v ((fD s).getD [])∧Below w.heap.size w w':=by
 unfold fD
 by_cases h:s.data.toList=[42]
 · rw [if_pos h,dC h];exact RV w hf
 · rw [if_neg h]
   have hq:max (Lib.indexAny s.data.toList [48,49,50,51,52,53,54,55,56,57]) 0=(tJ s:Int):=by unfold tJ;omega
   have HI:=aB (EO s (by omega) hp w)
   by_cases ho:okP (s.extract (tJ s) s.size)=true
   · rw [if_pos ho]
     exact An s hs w he hf (kA h) _ _ hq (OX s) HI ho
   · rw [if_neg ho]
     refine (Am s hs w he (kA h) _ _ hq (OX s) HI (by simpa using ho)).mono ?_;rintro e w' ⟨rfl,hb⟩;exact ⟨_,rfl,⟨none,0,rfl,Nat.le_refl _,Or.inl rfl⟩,hb⟩
def KR (w:World) (v:Value) (ps:List ByteArray):Prop:=∃ N,v= .slice (some ⟨N,0,none⟩) ps.length ps.length∧N<w.heap.size∧∀ i (h:i<ps.length),w.cell? ⟨N,i,none⟩=some (.string ps[i])
def aP (s sep:ByteArray):List ByteArray:=Lib.splitB sep 0 (Lib.countB s sep) s
theorem oG (s sep:ByteArray) (h1:1≤sep.size):(aP s sep).length=Lib.countB s sep+1:=Lib.splitB_all sep h1 0 _ s rfl
theorem mJ (sep:ByteArray):∀ (k:Nat) (s:ByteArray),∀ p ∈ Lib.splitB sep 0 k s,p.size≤s.size
 |0,s,p,hp=>by rw [Lib.splitB_zero] at hp;simp at hp;subst hp;exact Nat.le_refl _
 |k+1,s,p,hp=>by
  unfold Lib.splitB at hp
  split at hp
  · simp at hp;subst hp;exact Nat.le_refl _
  · rcases List.mem_cons.1 hp with rfl|hp
    · rw [ByteArray.size_extract];omega
    · have:=mJ sep k _ p hp
      rw [ByteArray.size_extract] at this;omega
theorem EP {W:World} (he:Env W) (s sep:ByteArray) (hs:s.size<4294967281) (h1:1≤sep.size) (w1:World) (hb:Below W.heap.size W w1):
 Calls Tryz.prog 150 #[.string s,.string sep] w1 fun e w'=>∃ v,e= .returned v∧KR w' v (aP s sep)∧Below w1.heap.size w1 w':=by
 obtain ⟨m,hm⟩:=(he.below hb).max;have hl:=oG s sep h1;refine (Tryz.strings_Split s sep m w1 hs hm h1).mono ?_;rintro e w' ⟨rfl,rfl⟩;refine ⟨_,rfl,⟨w1.heap.size,by rw [hl],by simp,fun i hi=> ?_⟩,aC _ _⟩
 have:(Lib.splitB sep 0 (Lib.countB s sep) s)=aP s sep:=rfl
 rw [this];simp [hi]
def bO:Rg→Bool→List ByteArray→Option (Rg×Bool)
 |R,f,[]=>some (R,f)
 |R,f,p::ps=>if p.size=0 then bO R f ps else match fD p with
  |none=>none
  |some X=>bO (fX R X) true ps
def gD (ps:List ByteArray):Bool:=match bO cF false ps with
 |some (_,f)=>f
 |none=>false
def eZ (ps:List ByteArray):Rg:=match bO cF false ps with
 |some (R,_)=>R
 |none=>[]
theorem mZ:∀ {ps:List ByteArray} {R R':Rg} {f f':Bool},RangeR R→bO R f ps=some (R',f')→RangeR R'
 |[],_,_,_,_,h,e=>by simp only [bO,Option.some.injEq,Prod.mk.injEq] at e;rw [←e.1];exact h
 |p::ps,R,_,f,_,h,e=>by
  unfold bO at e
  split at e
  · exact mZ h e
  · split at e
    · cases e
    · rename_i X hX
      exact mZ (h.meet (pQ hX)) e
theorem nD (ps:List ByteArray):RangeR (eZ ps):=by
 unfold eZ
 split
 · rename_i h;exact mZ cD h
 · trivial
theorem uW {p:ByteArray}:p.toList.isEmpty=decide (p.size=0):=by
 rw [ByteArray.toList_eq]
 have:=aI p
 cases h:p.data.toList with
 |nil=>rw [h,List.length_nil] at this;exact (decide_eq_true this.symm).symm
 |cons _ _=>rw [h,List.length_cons] at this;exact (decide_eq_false (by omega)).symm
set_option maxHeartbeats 3200000 in
theorem KS (s:ByteArray) (ps:List ByteArray) (hlen:ps.length≤1000000000) (w:World) (hf:FL w)
 (HSP:Hid (∀ w1,Below w.heap.size w w1→Calls Tryz.prog 150 #[.string s,.string ⟨#[32]⟩] w1 fun e w'=>∃ v,e= .returned v∧KR w' v ps∧Below w1.heap.size w1 w'))
 (HW:Hid (∀ p ∈ ps,p.size≠0→∀ w1,Below w.heap.size w w1→Calls Tryz.prog 295 #[.string p] w1 fun e w'=>∃ v,e= .returned (.tuple #[v,.bool (fD p).isSome])∧SpansR w' v ((fD p).getD [])∧Below w1.heap.size w1 w')):
 Calls Tryz.prog 278 #[.string s] w fun e w'=>∃ v,e= .returned (.tuple #[v,.bool (gD ps)])∧SpansR w' v (eZ ps)∧Below w.heap.size w w':=by
 have HAll:=aB (uQ hf);have HM:Hid (∀ w1 v1 v2 (R X:Rg),RangeR R→RangeR X→SpansR w1 v1 R→SpansR w1 v2 X→Calls Tryz.prog 296 #[v1,v2] w1 fun e w'=>∃ v,e= .returned v∧OwnS w' w1.heap.size v ((fX R X).map spR)∧Below w1.heap.size w1 w'):=fun w1 v1 v2 R X h1 h2 h3 h4=>Ah h1 h2 h3 h4
 clear hf
 go_enter Tryz.func278,Tryz.ntmps278
 go_wp2_with (first
  |(go_at_call 294;refine HAll.out.mono ?_;rintro e w1 ⟨v1,rfl,ok1⟩;have HO1:=aB ok1;clear ok1 HAll)
  |(go_at_call 150;refine (HSP.out _ HO1.out.2).mono ?_;rintro e w2 ⟨v2,rfl,⟨N,rfl,hN,hc⟩,hb2⟩;have HO2:Hid (SpansR w2 v1 cF∧Below w.heap.size w w2):=⟨HO1.out.1.below hb2,aA HO1.out.2 hb2⟩;have HC:Hid (∀ w1,Below w2.heap.size w2 w1→∀ i (h:i<ps.length),w1.cell? ⟨N,i,none⟩=some (.string ps[i])):=(fun w1 hb i hi=>(hb.cell (p:=⟨N,i,none⟩) hN).trans (hc i hi));clear hc hb2 HO1))
 go_loopw [4,5,14] (fun out fo i wr=>∃ (k:Nat) (R:Rg) (f:Bool),k≤ps.length∧i= .int .i64 k∧fo= .bool f∧RangeR R∧SpansR wr out R∧Below w2.heap.size w2 wr∧bO cF false ps=bO R f (ps.drop k)) (fun _ _ i _=>ps.length - (intOf i).toNat)
 case atStart=>exact ⟨0,cF,false,Nat.zero_le _,rfl,rfl,cD,HO2.out.1,Below.refl _ _,rfl⟩
 case round=>
  obtain ⟨k,R,f,hk,rfl,rfl,hR,hS,hb,heq⟩:=hrel;have HR:=aB hR;have HS:=aB hS;have HB:=aB hb;have HEQ:=aB heq;clear hR hS heq
  by_cases hlt:k<ps.length
  · have hcell:=HC.out wr hb k hlt
    have HD:Hid (ps.drop k=ps[k]::ps.drop (k+1)):=List.drop_eq_getElem_cons hlt;have HWp:=aB (HW.out _ (List.getElem_mem hlt));generalize ps[k]=p at*;clear hb
    by_cases hp:p.size=0
    · have hem:p.toList.isEmpty=true:=by rw [uW];simpa using hp
      have HEQ1:Hid (bO cF false ps=bO R f (ps.drop (k+1))):=by unfold Hid;rw [HEQ.out,HD.out,bO,if_pos hp]
      clear hp
      go_wp2
      exact ⟨⟨k+1,R,f,by omega,by go_num,rfl,HR.out,HS.out,HB.out,HEQ1.out⟩,by simp [intOf];omega⟩
    · have hem:p.toList.isEmpty=false:=by rw [uW];simpa using hp
      have HWq:=aB (HWp.out hp wr (aA HO2.out.2 HB.out));clear HWp;cases hw:fD p with
      |none=>
       have HEQ1:Hid (gD ps=false∧eZ ps=[]):=by unfold Hid gD eZ;rw [HEQ.out,HD.out,bO,if_neg hp,hw];exact ⟨rfl,rfl⟩
       rw [hw] at HWq;simp only [Option.isSome_none,Option.getD_none] at HWq;clear hp hw
       go_wp2_with (go_at_call 295;refine HWq.out.mono ?_;rintro e w3 ⟨v3,rfl,ok3⟩;have HO3:=aB ok3;clear ok3)
       go_ret2;exact ⟨_,by rw [HEQ1.out.1];rfl,by rw [HEQ1.out.2];exact ⟨none,0,rfl,Nat.le_refl _,Or.inl rfl⟩,aA (aA HO2.out.2 HB.out) HO3.out.2⟩
      |some X=>
       have HX:=aB (pQ hw);have HEQ1:Hid (bO cF false ps=bO (fX R X) true (ps.drop (k+1))):=by unfold Hid;rw [HEQ.out,HD.out,bO,if_neg hp,hw]
       rw [hw] at HWq;simp only [Option.isSome_some,Option.getD_some] at HWq;clear hp hw
       go_wp2_with (first
        |(go_at_call 295;refine HWq.out.mono ?_;rintro e w3 ⟨v3,rfl,ok3⟩;have HO3:=aB ok3;clear ok3)
        |(go_at_call 296;refine (HM.out _ _ _ R X HR.out HX.out (HS.out.below HO3.out.2) HO3.out.1).mono ?_;rintro e w4 ⟨v4,rfl,ok4⟩;have HO4:=aB ok4;clear ok4))
       exact ⟨⟨k+1,fX R X,true,by omega,by go_num,rfl,HR.out.meet HX.out,HO4.out.1.spans,aA (aA HB.out HO3.out.2) HO4.out.2,HEQ1.out⟩,by simp [intOf];omega⟩
  · have hke:k=ps.length:=by omega
    subst hke;have HEQ1:Hid (gD ps=f∧eZ ps=R):=by unfold Hid gD eZ;rw [HEQ.out,List.drop_length];exact ⟨rfl,rfl⟩
    clear hb
    go_wp2
    go_ret2;exact ⟨_,by rw [HEQ1.out.1];rfl,by rw [HEQ1.out.2];exact HS.out,aA HO2.out.2 HB.out⟩
def fT:Rg→List ByteArray→Option Rg
 |R,[]=>some R
 |R,a::l=>if gD (aP a ⟨#[32]⟩)=true then fT (fY R (eZ (aP a ⟨#[32]⟩))) l else none
def jC (s:ByteArray):Option Rg:=fT [] (aP s ⟨#[124,124]⟩)
theorem tV:∀ {l:List ByteArray} {R R':Rg},RangeR R→fT R l=some R'→RangeR R'
 |[],_,_,h,e=>by simp only [fT,Option.some.injEq] at e;rw [←e];exact h
 |a::l,R,_,h,e=>by
  unfold fT at e
  split at e
  · exact tV (h.join (nD _)) e
  · cases e
theorem Ao {s:ByteArray} {R:Rg} (h:jC s=some R):RangeR R:=tV (R:=[]) trivial h
def nS:Option Rg→Rg
 |none=>[]
 |some R=>KK R
def EQ:Option Rg→Int
 |none=>21
 |some R=>nW R.length
set_option maxHeartbeats 3200000 in
theorem ER (s:ByteArray) (ps:List ByteArray) (hlen:ps.length≤1000000000) (hs:¬ (4096:Int)<(s.size:Int)) (w:World) (hf:FL w)
 (HSP:Hid (Calls Tryz.prog 150 #[.string s,.string ⟨#[124,124]⟩] w fun e w'=>∃ v,e= .returned v∧KR w' v ps∧Below w.heap.size w w'))
 (HW:Hid (∀ a ∈ ps,∀ w1,Below w.heap.size w w1→Calls Tryz.prog 278 #[.string a] w1 fun e w'=>∃ v,e= .returned (.tuple #[v,.bool (gD (aP a ⟨#[32]⟩))])∧SpansR w' v (eZ (aP a ⟨#[32]⟩))∧Below w1.heap.size w1 w')):
 Calls Tryz.prog 252 #[.string s] w fun e w'=>∃ v,e= .returned (.tuple #[v,.int .i64 (EQ (fT [] ps))])∧OwnS w' w.heap.size v ((nS (fT [] ps)).map spR)∧Below w.heap.size w w':=by
 have HF:=aB hf;have HJ:Hid (∀ w1 v1 v2 (R X:Rg),Below w.heap.size w w1→RangeR R→RangeR X→SpansR w1 v1 R→SpansR w1 v2 X→Calls Tryz.prog 279 #[v1,v2] w1 fun e w'=>∃ v,e= .returned v∧OwnS w' w1.heap.size v ((fY R X).map spR)∧Below w1.heap.size w1 w'):=fun w1 v1 v2 R X hb h1 h2 h3 h4=>Ai h1 h2 (hf.below hb) h3 h4
 have HN:Hid (∀ w1 v1 (R:Rg),OwnS w1 w.heap.size v1 (R.map spR)→Calls Tryz.prog 280 #[v1] w1 fun e w'=>∃ v',e= .returned (.tuple #[v',.int .i64 (nW R.length)])∧OwnS w' w.heap.size v' ((KK R).map spR)∧Below w1.heap.size w1 w'):=fun w1 v1 R h=>EG h
 clear hf
 go_enter Tryz.func252,Tryz.ntmps252
 go_wp2_with (go_at_call 150;refine HSP.out.mono ?_;rintro e w2 ⟨v2,rfl,⟨N,rfl,hN,hc⟩,hb2⟩;have HO2:=aB hb2;have HC:Hid (∀ w1,Below w2.heap.size w2 w1→∀ i (h:i<ps.length),w1.cell? ⟨N,i,none⟩=some (.string ps[i])):=(fun w1 hb i hi=>(hb.cell (p:=⟨N,i,none⟩) hN).trans (hc i hi));clear hc hb2)
 go_loopw [4,15] (fun out i wr=>∃ (k:Nat) (R:Rg),k≤ps.length∧i= .int .i64 k∧RangeR R∧OwnS wr w.heap.size out (R.map spR)∧Below w2.heap.size w2 wr∧fT [] ps=fT R (ps.drop k)) (fun _ i _=>ps.length - (intOf i).toNat)
 case atStart=>exact ⟨0,[],Nat.zero_le _,rfl,trivial,OwnS.nil _ _,Below.refl _ _,rfl⟩
 case round=>
  obtain ⟨k,R,hk,rfl,hR,hS,hb,heq⟩:=hrel;have HR:=aB hR;have HS:=aB hS;have HB:=aB hb;have HEQ:=aB heq;clear hR hS heq
  by_cases hlt:k<ps.length
  · have hcell:=HC.out wr hb k hlt
    have HD:Hid (ps.drop k=ps[k]::ps.drop (k+1)):=List.drop_eq_getElem_cons hlt;have HWq:=aB (HW.out _ (List.getElem_mem hlt) wr (aA HO2.out HB.out));generalize ps[k]=a at*;clear hb;cases hw:gD (aP a ⟨#[32]⟩)
    · have HEQ1:Hid (fT [] ps=none):=by unfold Hid;rw [HEQ.out,HD.out,fT,hw];rfl
      rw [hw] at HWq
      go_wp2_with (go_at_call 278;refine HWq.out.mono ?_;rintro e w3 ⟨v3,rfl,ok3⟩;have HO3:=aB ok3;clear ok3)
      go_ret2;exact ⟨_,by rw [HEQ1.out];rfl,by rw [HEQ1.out];exact OwnS.nil _ _,aA (aA HO2.out HB.out) HO3.out.2⟩
    · have HEQ1:Hid (fT [] ps=fT (fY R (eZ (aP a ⟨#[32]⟩))) (ps.drop (k+1))):=by unfold Hid;rw [HEQ.out,HD.out,fT,hw];rfl
      have HX:=aB (nD (aP a ⟨#[32]⟩));rw [hw] at HWq;clear hw;generalize eZ (aP a ⟨#[32]⟩)=X at*
      go_wp2_with (first
       |(go_at_call 278;refine HWq.out.mono ?_;rintro e w3 ⟨v3,rfl,ok3⟩;have HO3:=aB ok3;clear ok3)
       |(go_at_call 279;refine (HJ.out _ _ _ R X (aA (aA HO2.out HB.out) HO3.out.2) HR.out HX.out (HS.out.spans.below HO3.out.2) HO3.out.1).mono ?_;rintro e w4 ⟨v4,rfl,ok4⟩;have HO4:=aB ok4;clear ok4))
      exact ⟨⟨k+1,fY R X,by omega,by go_num,HR.out.join HX.out,HO4.out.1.base (aA (aA HO2.out HB.out) HO3.out.2).size,aA (aA HB.out HO3.out.2) HO4.out.2,HEQ1.out⟩,by simp [intOf];omega⟩
  · have hke:k=ps.length:=by omega
    subst hke;have HEQ1:Hid (fT [] ps=some R):=by unfold Hid;rw [HEQ.out,List.drop_length];rfl
    clear hb
    go_wp2_with (go_at_call 280;refine (HN.out _ _ R HS.out).mono ?_;rintro e w3 ⟨v3,rfl,ok3⟩;have HO3:=aB ok3;clear ok3)
    go_ret2;exact ⟨v3,by rw [HEQ1.out];rfl,by rw [HEQ1.out];exact HO3.out.1,aA (aA HO2.out HB.out) HO3.out.2⟩
theorem ES (s:ByteArray) (hs:(4096:Int)<(s.size:Int)) (w:World):
 Calls Tryz.prog 252 #[.string s] w fun e w'=>e= .returned (.tuple #[.slice none 0 0,.int .i64 21])∧Below w.heap.size w w':=by
 go_enter Tryz.func252,Tryz.ntmps252
 go_wp2
 go_ret2;exact ⟨rfl,Below.refl _ _⟩
def iO (a b c x y z:Int):ByteArray:=
 if a=x∧b=y∧c=z then aL a b c else if (a=0∧b=0∧c=0)∧(x=999∧y=999∧z=999) then ⟨#[42]⟩ else if a=0∧b=0∧c=0 then ⟨#[60,61]⟩++aL x y z else
 if x=999∧y=999∧z=999 then ⟨#[62,61]⟩++aL a b c else ((⟨#[62,61]⟩++aL a b c)++⟨#[32,60,61]⟩)++aL x y z
theorem eV (a b c:Int):(aL a b c).size≤11:=by
 unfold aL
 split
 · rename_i h
   obtain ⟨a0,a1,b0,b1,c0,c1⟩:=dR h;have za:=eI a0 a1;have zb:=eI b0 b1;have zc:=eI c0 c1;have zd:(⟨#[46]⟩:ByteArray).size=1:=rfl;rw [cS,cS,cS,cS];omega
 · decide
set_option maxHeartbeats 3200000 in
theorem yC (a b c x y z:Int) (w:World) (he:Env w) (hf:FL w):
 Calls Tryz.prog 242 #[.agg #[.int .i64 a,.int .i64 b,.int .i64 c,.int .i64 x,.int .i64 y,.int .i64 z]] w fun e w'=>e= .returned (.string (iO a b c x y z))∧Below w.heap.size w w':=by
 have hg:=rA;have HPL:Hid (∀ w1,Below w.heap.size w w1→Calls Tryz.prog 125 #[.agg #[.int .i64 a,.int .i64 b,.int .i64 c]] w1 fun e w'=>e= .returned (.string (aL a b c))∧Below w1.heap.size w1 w'):=fun w1 hb=>mI he.tab a b c w1 hb
 have HPH:Hid (∀ w1,Below w.heap.size w w1→Calls Tryz.prog 125 #[.agg #[.int .i64 x,.int .i64 y,.int .i64 z]] w1 fun e w'=>e= .returned (.string (aL x y z))∧Below w1.heap.size w1 w'):=fun w1 hb=>mI he.tab x y z w1 hb
 have HO:Hid (Below w.heap.size w (w.alloc (.cells #[.int .i64 a,.int .i64 b,.int .i64 c,.int .i64 x,.int .i64 y,.int .i64 z] 210))∧Bx6 (w.alloc (.cells #[.int .i64 a,.int .i64 b,.int .i64 c,.int .i64 x,.int .i64 y,.int .i64 z] 210)) w.heap.size a b c x y z):=⟨aC _ _,Bx6.new rfl _ _ _ _ _ _⟩;have HK:Hid (KeepP fun w1=>Below w.heap.size w w1∧Bx6 w1 w.heap.size a b c x y z):=(aG w).and (yX _ _ _ _ _ _ _);obtain ⟨⟨g0,g1,g2⟩,⟨l0,l1,l2⟩,_,_⟩:=hf.below (aC w (.cells #[.int .i64 a,.int .i64 b,.int .i64 c,.int .i64 x,.int .i64 y,.int .i64 z] 210));have e1:=Aa a b c x y z;have e2:=Aa a b c 0 0 0;have e3:=Aa x y z 999 999 999;clear hf he
 by_cases h1:a=x∧b=y∧c=z
 · have HT:Hid (iO a b c x y z=aL a b c):=by unfold Hid iO;rw [if_pos h1]
   rw [decide_eq_true h1] at e1;clear h1 e2 e3
   go_enter Tryz.func242,Tryz.ntmps242
   go_wp2_with (go_at_call 125;refine (HPL.out _ HO.out.1).mono ?_;rintro e w1 ⟨rfl,ok1⟩;have HO1:=aB ok1;clear ok1)
   go_ret;exact ⟨by rw [HT.out];rfl,aA HO.out.1 HO1.out⟩
 rw [decide_eq_false h1] at e1
 by_cases h2:a=0∧b=0∧c=0
 · rw [decide_eq_true h2] at e2
   by_cases h3:x=999∧y=999∧z=999
   · rw [decide_eq_true h3] at e3
     have HT:Hid (iO a b c x y z=⟨#[42]⟩):=by unfold Hid iO;rw [if_neg h1,if_pos ⟨h2,h3⟩]
     clear h1 h2 h3
     go_enter Tryz.func242,Tryz.ntmps242
     go_wp2_with fail
     go_ret;exact ⟨by rw [HT.out];rfl,HO.out.1⟩
   · rw [decide_eq_false h3] at e3
     have HT:Hid (iO a b c x y z=⟨#[60,61]⟩++aL x y z):=by unfold Hid iO;rw [if_neg h1,if_neg (fun h=>h3 h.2),if_pos h2]
     clear h1 h2 h3;have zT:=eV x y z;have z2:(⟨#[60,61]⟩:ByteArray).size=2:=rfl;generalize aL x y z=T at*;have s1:=fun W:World=>run_string_add_sum (P:=Tryz.prog) (w:=W) ⟨#[60,61]⟩ T (by omega)
     clear zT z2
     go_enter Tryz.func242,Tryz.ntmps242
     go_wp2_with (go_at_call 125;refine (HPH.out _ HO.out.1).mono ?_;rintro e w1 ⟨rfl,ok1⟩;have HO1:=aB ok1;clear ok1)
     go_ret;exact ⟨by rw [HT.out];rfl,aA HO.out.1 HO1.out⟩
 · rw [decide_eq_false h2] at e2
   by_cases h3:x=999∧y=999∧z=999
   · rw [decide_eq_true h3] at e3
     have HT:Hid (iO a b c x y z=⟨#[62,61]⟩++aL a b c):=by unfold Hid iO;rw [if_neg h1,if_neg (fun h=>h2 h.1),if_neg h2,if_pos h3]
     clear h1 h2 h3;have zT:=eV a b c;have z2:(⟨#[62,61]⟩:ByteArray).size=2:=rfl;generalize aL a b c=T at*;have s1:=fun W:World=>run_string_add_sum (P:=Tryz.prog) (w:=W) ⟨#[62,61]⟩ T (by omega)
     clear zT z2
     go_enter Tryz.func242,Tryz.ntmps242
     go_wp2_with (go_at_call 125;refine (HPL.out _ HO.out.1).mono ?_;rintro e w1 ⟨rfl,ok1⟩;have HO1:=aB ok1;clear ok1)
     go_ret;exact ⟨by rw [HT.out];rfl,aA HO.out.1 HO1.out⟩
   · rw [decide_eq_false h3] at e3
     have HT:Hid (iO a b c x y z=((⟨#[62,61]⟩++aL a b c)++⟨#[32,60,61]⟩)++aL x y z):=by unfold Hid iO;rw [if_neg h1,if_neg (fun h=>h2 h.1),if_neg h2,if_neg h3]
     have HQL:Hid (∀ w1,(Below w.heap.size w w1∧Bx6 w1 w.heap.size a b c x y z)→Calls Tryz.prog 125 #[.agg #[.int .i64 a,.int .i64 b,.int .i64 c]] w1 fun e w'=>e= .returned (.string (aL a b c))∧Below w1.heap.size w1 w'):=fun w1 h=>HPL.out w1 h.1
     have HQH:Hid (∀ w1,(Below w.heap.size w w1∧Bx6 w1 w.heap.size a b c x y z)→Calls Tryz.prog 125 #[.agg #[.int .i64 x,.int .i64 y,.int .i64 z]] w1 fun e w'=>e= .returned (.string (aL x y z))∧Below w1.heap.size w1 w'):=fun w1 h=>HPH.out w1 h.1
     clear h1 h2 h3;have zT:=eV a b c;have zU:=eV x y z;have z2:(⟨#[62,61]⟩:ByteArray).size=2:=rfl;have z3:(⟨#[32,60,61]⟩:ByteArray).size=3:=rfl;generalize aL a b c=T at*;generalize aL x y z=U at*;have s1:=fun W:World=>run_string_add_sum (P:=Tryz.prog) (w:=W) ⟨#[62,61]⟩ T (by omega)
     have s2:=fun W:World=>run_string_add_sum (P:=Tryz.prog) (w:=W) (⟨#[62,61]⟩++T) ⟨#[32,60,61]⟩ (by rw [cS];omega)
     have s3:=fun W:World=>run_string_add_sum (P:=Tryz.prog) (w:=W) ((⟨#[62,61]⟩++T)++⟨#[32,60,61]⟩) U (by rw [cS,cS];omega)
     clear zT zU z2 z3
     go_enter Tryz.func242,Tryz.ntmps242
     go_wp2_with fail
     refine cE HK (by kernel_rfl) (by kernel_rfl) (by first|exact HO.out|exact HK.out.drew HO.out) ?_;intro C HIN HOUT;clear HO
     repeat
      (with_reducible refine wpQuiet_step (fun K hK=> ?_)
       go_simp
       first
        |(refine hK _ ?_;clear hK K)
        |(apply Exists.intro;refine ⟨fun w1 hC=> ?_,hK _ ?_⟩;(focus ((first|(go_at_call 125;with_reducible exact bJ HIN HOUT HK HQL.out w1 hC)|(go_at_call 125;with_reducible exact bJ HIN HOUT HK HQH.out w1 hC)|(exact rfl)|(obtain ⟨hb1,k0,k1,k2,k3,k4,k5,k6⟩:=HOUT.out w1 hC;clear hC;go_simp;first|done|exact rfl));done));clear hK K))
     refine wpQuiet_nil ?_;intro wn hC;have HO:=aB (HOUT.out _ hC);clear hC HIN HOUT C;obtain ⟨hb1,k0,k1,k2,k3,k4,k5,k6⟩:=HO.out
     go_wp2
     go_ret;exact ⟨by rw [HT.out];rfl,HO.out.1⟩
theorem mX:(Tryz.prog.info? 9).map (fun i=>(i.zero,i.size,i.bytes))=some (some (.string ByteArray.empty),1,16):=by kernel_rfl
def OwnT (w:World) (B:Nat) (v:Value) (ts:List ByteArray):Prop:=w.ownsRow B 9 1 v ts.length (ts.map Value.string)
theorem OwnT.nil (w:World) (B:Nat):OwnT w B (.slice none 0 0) []:=⟨rfl,Or.inl ⟨rfl,rfl⟩⟩
theorem OwnT.lt {w:World} {B:Nat} {v:Value} {L:List ByteArray} (h:OwnT w B v L) {g:Nat} (hg:v.ownBlock=some g):g<w.heap.size∧B≤g:=by
 rcases h.2 with ⟨rfl,_⟩|⟨g',cap,cur,rfl,hB,hgg,_⟩
 · cases hg
 · cases hg
   exact ⟨by rw [Array.getElem?_eq_some_iff] at hgg;exact hgg.1,hB⟩
theorem OwnT.below {w w':World} {B:Nat} {v:Value} {L:List ByteArray} (h:OwnT w B v L) (hb:Below w.heap.size w w'):OwnT w' B v L:=by
 refine ⟨h.1,?_⟩;have hl:=fun g hg=>(h.lt (g:=g) hg).1
 rcases h.2 with hn|⟨g,cap,cur,rfl,hB,hgg,r⟩
 · exact Or.inl hn
 · exact Or.inr ⟨g,cap,cur,rfl,hB,(hb.block g (hl g rfl)).trans hgg,r⟩
theorem pR {w wx:World} {uo:Value} {ts:List ByteArray} {tx:ByteArray} {ops:Array Oper} {rest:List Oper} {o:Oper} {f:Act} {Q:Exit→Act→World→Prop} (hgd:o.guard=none) (s t:Operand)
 (ho:o.op= .call { callee:= .builtin .append,args:= #[s,t],argTypes:= #[50,50] }) (hs:f.eval s=uo)
 (hK:Below w.heap.size w wx∧OwnT wx w.heap.size uo ts) {M:Nat} (hM:wx.heap.size=M) (hx:f.eval t= .slice (some ⟨M,0,none⟩) 1 1) (hlen:ts.length+1≤1000000000000)
 (h:∀ v1 w1,(Below w.heap.size w w1∧OwnT w1 w.heap.size v1 (ts++[tx]))→wpList Tryz.prog ops Q rest (f.put o.dst v1) w1):
 wpList Tryz.prog ops Q (o::rest) f (wx.alloc (.cells #[.string tx] 9)):=by
 subst hM
 obtain ⟨i0,hi,hz0,hz1,hz2⟩:∃ i,Tryz.prog.info? 9=some i∧i.zero=some (.string ByteArray.empty)∧i.size=1∧i.bytes=16:=by
  have:=mX
  cases hq:Tryz.prog.info? 9 with
  |none=>rw [hq] at this;cases this
  |some i=>
   rw [hq] at this;simp only [Option.map_some,Option.some.injEq,Prod.mk.injEq] at this;exact ⟨i,rfl,this.1,this.2.1,this.2.2⟩
 have hob:OwnT (wx.alloc (.cells #[.string tx] 9)) w.heap.size uo ts:=hK.2.below (aC _ _);have hsz:(wx.alloc (.cells #[.string tx] 9)).heap.size=wx.heap.size+1:=by simp
 have hwx:=hK.1.size
 refine wpList_append_own_at _ hgd s t 50 ho w.heap.size 9 i0 _ 1 16 Tryz.underlying50 hi hz0 hz1 hz2 rfl (by decide) uo _ _ hs hob ⟨wx.heap.size,0,none⟩ 1 1 [.string tx] hx rfl
  (World.news_of_block (cs:= #[.string tx]) (t:=9) (fr:=(0,0)) (by show (wx.heap.push _)[wx.heap.size]? =_;rw [Array.getElem?_push,if_pos rfl])) (by simp [Value.oneCell']) (by unfold maxLen;omega) (by omega) (by omega) ?_
 intro v1 w1 hown1 hg1 _ hat;refine h v1 w1 ⟨(aA hK.1 (aC _ _)).grown hg1 (by omega) (fun k hk=>(hK.2.lt hk).2),?_⟩;unfold OwnT;rw [List.map_append,List.map_singleton,List.length_append];exact hown1
def spT (p:Int×Int):ByteArray:=iO (atA p.1) (atB p.1) (atC p.1) (atA p.2) (atB p.2) (atC p.2)
def dI (A:Rg):ByteArray:=match A with
 |[]=>⟨#[60]⟩++aL 0 0 0
 |p::A=>⟨(Lib.join ((p::A).map fun p=>(spT p).data.toList) [32,124,124,32]).toArray⟩
theorem uX (a b c x y z:Int):(iO a b c x y z).size≤27:=by
 have h1:=eV a b c;have h2:=eV x y z;have z2:(⟨#[62,61]⟩:ByteArray).size=2:=rfl;have z4:(⟨#[60,61]⟩:ByteArray).size=2:=rfl;have z5:(⟨#[42]⟩:ByteArray).size=1:=rfl;have z3:(⟨#[32,60,61]⟩:ByteArray).size=3:=rfl;unfold iO
 repeat' split
 all_goals first|omega|(simp only [cS];omega)
theorem BR (m:Nat):∀ (l:List (List UInt8)),(∀ x ∈ l,x.length≤m)→Lib.lens l≤m*l.length
 |[],_=>by simp [Lib.lens]
 |x::l,h=>by
  have ih:=BR m l fun y hy=>h y (List.mem_cons_of_mem _ hy)
  have hx:=h x List.mem_cons_self
  have:Lib.lens (x::l)=x.length+Lib.lens l:=by simp [Lib.lens]
  rw [this,List.length_cons,Nat.mul_succ];omega
theorem RW {A:Rg} (h:A.length≤64):(Lib.join (A.map fun p=>(spT p).data.toList) [32,124,124,32]).length≤10000:=by
 cases A with
 |nil=>simp [Lib.join_nil]
 |cons p A=>
  rw [List.map_cons,Lib.join_length,←List.map_cons (f:=fun p=>(spT p).data.toList)]
  have:=BR 27 ((p::A).map fun p=>(spT p).data.toList) (by
   intro x hx;obtain ⟨q,_,rfl⟩:=List.mem_map.1 hx;exact uX _ _ _ _ _ _)
  simp only [List.length_map,List.length_cons,List.length_nil] at*;omega
theorem VZ {w:World} {B:Nat} {v:Value} {A:Rg} (h:OwnT w B v (A.map spT)) (hl:A.length≤64) (h0:A≠[]):
 Calls Tryz.prog 172 #[v,.string ⟨#[32,124,124,32]⟩] w fun e w'=>e= .returned (.string (dI A))∧Below w.heap.size w w':=by
 have hlt:=fun g hg=>(h.lt (g:=g) hg).1
 rcases h.2 with ⟨_,hn⟩|⟨g,cap,cur,rfl,hB,hgg,hc,hm,hs,hx⟩
 · rw [List.length_map] at hn
   exact (h0 (List.eq_nil_of_length_eq_zero hn)).elim
 · have hj:=RW hl
   have hmm:(A.map spT).map (·.data.toList)=A.map fun p=>(spT p).data.toList:=by rw [List.map_map];rfl
   refine (Tryz.strings_Join g 0 cap (A.map spT) ⟨#[32,124,124,32]⟩ w ?_ (hlt g rfl) (by rw [List.length_map];omega) hc (by rw [hmm];show (Lib.join _ [32,124,124,32]).length≤_;omega)).mono ?_
   · intro j x hj
     have:(((A.map spT).map Value.string))[j]? =some (.string x):=by rw [List.getElem?_map,hj];rfl
     rw [←hx,List.getElem?_take] at this
     split at this
     · rw [Nat.zero_add]
       simp [World.cell?,hgg]
       simpa using this
     · cases this
   · rintro e w' ⟨rfl,hb⟩
     refine ⟨?_,hb⟩;rw [hmm];cases A with
     |nil=>exact (h0 rfl).elim
     |cons p A=>rfl
set_option maxHeartbeats 3200000 in
theorem ET (A:Rg) (g o cap:Nat) (w:World) (he:Env w) (hf:FL w) (hlen:A.length≤64) (h0:((A.length:Int)==0)=false) (hg:g<w.heap.size) (hl:∀ i (h:i<A.length),SpAt w g (o+i*6) (spR A[i]))
 (HMay:Hid (Calls Tryz.prog 241 #[.slice (some ⟨g,o,none⟩) A.length cap] w fun e w'=>e= .returned (.bool true)∧Below w.heap.size w w')):
 Calls Tryz.prog 199 #[.slice (some ⟨g,o,none⟩) A.length cap] w fun e w'=>e= .returned (.string (dI A))∧Below w.heap.size w w':=by
 have HL:Hid (∀ w1,Below w.heap.size w w1→∀ i (h:i<A.length),SpAt w1 g (o+i*6) (spR A[i])):=fun w1 hb i hi=>(hl i hi).below hb hg
 have HP:Hid (∀ (p:Int×Int) w1,Below w.heap.size w w1→Calls Tryz.prog 242 #[.agg #[.int .i64 (atA p.1),.int .i64 (atB p.1),.int .i64 (atC p.1),.int .i64 (atA p.2),.int .i64 (atB p.2),.int .i64 (atC p.2)]] w1 fun e w'=>e= .returned (.string (spT p))∧Below w1.heap.size w1 w'):=fun p w1 hb=>yC _ _ _ _ _ _ w1 (he.below hb) (hf.below hb)
 have HJ:Hid (∀ w1 v1,OwnT w1 w.heap.size v1 (A.map spT)→Calls Tryz.prog 172 #[v1,.string ⟨#[32,124,124,32]⟩] w1 fun e w'=>e= .returned (.string (dI A))∧Below w1.heap.size w1 w'):=fun w1 v1 h=>VZ h hlen (fun e=>by subst e;simp at h0)
 clear hl he hf
 go_enter Tryz.func199,Tryz.ntmps199
 go_wp2_with (go_at_call 241;refine HMay.out.mono ?_;rintro e w1 ⟨rfl,ok1⟩;have HO1:=aB ok1;clear ok1)
 go_loopw [3,17] (fun out i wr=>∃ k:Nat,k≤A.length∧i= .int .i64 k∧Below w.heap.size w wr∧OwnT wr w.heap.size out ((A.take k).map spT)) (fun _ i _=>A.length - (intOf i).toNat)
 case atStart=>exact ⟨0,Nat.zero_le _,rfl,HO1.out,OwnT.nil _ _⟩
 case round=>
  obtain ⟨k,hk,rfl,hb,hown⟩:=hrel;have HB:=aB hb;have HOWN:=aB hown;clear hown
  by_cases hlt:k<A.length
  · have hs:=HL.out wr hb k hlt
    have HD:Hid ((A.take k).map spT++[spT A[k]]=(A.take (k+1)).map spT):=by unfold Hid;rw [List.take_succ_eq_append_getElem hlt,List.map_append];rfl
    generalize A[k]=p at*;obtain ⟨lo,hi⟩:=p;obtain ⟨c0,c1,c2,c3,c4,c5⟩:=hs;simp only [spR] at c0 c1 c2 c3 c4 c5;have HPp:=aB (fun w1 hb=>HP.out (lo,hi) w1 hb);have HLN:Hid (((A.take k).map spT).length+1≤1000000000000):=by unfold Hid;simp;omega
    clear hb
    go_wp2_with (first
     |(go_at_call 242;refine (HPp.out _ (aA HB.out (aC _ _))).mono ?_;rintro e w2 ⟨rfl,ok2⟩;have HO2:Hid (Below w.heap.size w w2∧OwnT w2 w.heap.size u3 ((A.take k).map spT)):=⟨aA (aA HB.out (aC _ _)) ok2,(HOWN.out.below (aC _ _)).below ok2⟩;clear ok2)
     |(at_builtin;refine pR (uo:=u3) (ts:=(A.take k).map spT) rfl (.tmp 21) (.tmp 24) rfl rfl HO2.out rfl rfl HLN.out ?_;intro v3 w3 ok3;have HO3:=aB ok3;clear ok3))
    exact ⟨⟨k+1,by omega,by go_num,HO3.out.1,by rw [←HD.out];exact HO3.out.2⟩,by simp [intOf];omega⟩
  · have hke:k=A.length:=by omega
    subst hke;have HOW2:Hid (OwnT wr w.heap.size u3 (A.map spT)):=by have:=HOWN.out;rw [List.take_length] at this;exact this
    clear hb
    go_wp2_with (go_at_call 172;refine (HJ.out _ _ HOW2.out).mono ?_;rintro e w2 ⟨rfl,ok2⟩;have HO2:=aB ok2;clear ok2)
    go_ret;exact ⟨rfl,aA HB.out HO2.out⟩
theorem uY (ad:Option Addr) (cap:Nat) (w:World) (he:Env w) (hf:FL w):
 Calls Tryz.prog 199 #[.slice ad 0 cap] w fun e w'=>e= .returned (.string (dI []))∧Below w.heap.size w w':=by
 have HMay:=aB (DY ad cap w);have HP:Hid (∀ w1,Below w.heap.size w w1→Calls Tryz.prog 125 #[.agg #[.int .i64 0,.int .i64 0,.int .i64 0]] w1 fun e w'=>e= .returned (.string (aL 0 0 0))∧Below w1.heap.size w1 w'):=fun w1 hb=>mI he.tab 0 0 0 w1 hb
 have HF:=aB hf;have HR:Hid (dI []=⟨#[60]⟩++aL 0 0 0):=rfl;have zT:=eV 0 0 0;have z2:(⟨#[60]⟩:ByteArray).size=1:=rfl;generalize aL 0 0 0=T at*;have s1:=fun W:World=>run_string_add_sum (P:=Tryz.prog) (w:=W) ⟨#[60]⟩ T (by omega)
 clear zT z2 he hf
 go_enter Tryz.func199,Tryz.ntmps199
 go_wp2_with (first
  |(go_at_call 241;refine HMay.out.mono ?_;rintro e w1 ⟨rfl,ok1⟩;obtain ⟨⟨g0,g1,g2⟩,_⟩:=HF.out.below ok1;have HO1:=aB ok1;clear ok1)
  |(go_at_call 125;refine (HP.out _ HO1.out).mono ?_;rintro e w2 ⟨rfl,ok2⟩;have HO2:=aB ok2;clear ok2))
 go_ret;exact ⟨by rw [HR.out];rfl,aA HO1.out HO2.out⟩
theorem RX {A:Rg} (hA:RangeR A) (hl:A.length≤64) {v:Value} {w:World} (h:SpansR w v A) (he:Env w) (hf:FL w):
 Calls Tryz.prog 199 #[v] w fun e w'=>e= .returned (.string (dI A))∧Below w.heap.size w w':=by
 have HM:Hid (Calls Tryz.prog 241 #[v] w fun e w'=>e= .returned (.bool true)∧Below w.heap.size w w'):=by have:=DZ h.at;rw [Eb hA hl] at this;exact this
 obtain ⟨ad,cap,rfl,hc,hs⟩:=h
 rcases hs with rfl|⟨g,o,rfl,hg,hs⟩
 · exact uY ad cap w he hf
 · cases A with
   |nil=>exact uY _ cap w he hf
   |cons p A=>exact ET (p::A) g o cap w he hf hl (by simp;omega) hg hs HM
theorem OZ (op:BinOp) (x y:Operand) (xs ys:Array Value) (w:World):(eqGuard op 210 x y (.agg xs) (.agg ys)).run Tryz.prog w= .ok () w:=run_eqGuard_agg w op 210 x y xs ys (by kernel_rfl)
end Go.Proofs.YtmnhnofnlcbliaaGreatDoor
