/- Gd0, Ps1, Tw1, ScLi1, ScNm1, ScNm2, Tw2, Tw3, Tw4: their declarations that are needed, laid in one text, remarks and blanks left out. -/
import Derived.Deep.DeepAppendWide
import Derived.Lib.LazyBuf
import Derived.Test.YtlmpiohbmlddiaaGreatDoorMd04
namespace Go.Proofs.YtlmpiohbmlddiaaGreatDoor
open Go.Shelf Go.RowKit Go.Lib Go.Sort
set_option maxRecDepth 100000
def Gd (w w':World):Prop:=∃ q os',w'=grow (w.drewN q) os'
theorem Gd.box (w:World) (o:Obj):Gd w (w.alloc o):=⟨0,#[o],by rw [alloc_eq_grow];rfl⟩
theorem Gd.trans {a b c:World} (h:Gd a b) (h':Gd b c):Gd a c:=by
 obtain ⟨q,os,rfl⟩:=h;obtain ⟨q',os',rfl⟩:=h';refine ⟨q+q',os++os',?_⟩;simp [grow,World.drewN,Array.append_assoc,Nat.add_assoc]
theorem Gd.box2 (w:World) (o u:Obj):Gd w ((w.alloc o).alloc u):=(Gd.box w o).trans (Gd.box _ u)
theorem gP:∀ (a b:List UInt8),Lib.compareBytes a b<0↔bytesBefore a b=true
 |[],[]=>by simp [Lib.compareBytes,bytesBefore]
 |[],_::_=>by simp [Lib.compareBytes,bytesBefore]
 |_::_,[]=>by simp [Lib.compareBytes,bytesBefore]
 |a::ra,b::rb=>by
  have ih:=gP ra rb;unfold Lib.compareBytes bytesBefore
  by_cases h1:a<b
  · simp [h1]
  · rw [if_neg h1]
    by_cases h2:b<a
    · rw [if_pos h2]
      have h3:¬ a=b:=fun e=>by subst e;exact h1 h2
      simp [h1,h3]
    · rw [if_neg h2]
      have h3:a=b:=UInt8.le_antisymm (UInt8.not_lt.1 h2) (UInt8.not_lt.1 h1);simp [h3,ih]
theorem oD:∀ (a b:List UInt8),Lib.compareBytes a b=0↔a=b
 |[],[]=>by simp [Lib.compareBytes]
 |[],_::_=>by simp [Lib.compareBytes]
 |_::_,[]=>by simp [Lib.compareBytes]
 |a::ra,b::rb=>by
  have ih:=oD ra rb;unfold Lib.compareBytes
  by_cases h1:a<b
  · rw [if_pos h1]
    have h3:¬ a=b:=fun e=>by subst e;exact absurd h1 (UInt8.lt_irrefl _)
    simp [h3]
  · rw [if_neg h1]
    by_cases h2:b<a
    · rw [if_pos h2]
      have h3:¬ a=b:=fun e=>by subst e;exact h1 h2
      simp [h3]
    · rw [if_neg h2]
      have h3:a=b:=UInt8.le_antisymm (UInt8.not_lt.1 h2) (UInt8.not_lt.1 h1);simp [h3,ih]
end Go.Proofs.YtlmpiohbmlddiaaGreatDoor
namespace Go.Proofs.YtlmpiohbmlddiaaGreatDoor
open Go.RowKit
set_option maxRecDepth 100000
structure Pg where
 nm:ByteArray
 a:Int
 b:Int
 c:Int
 d:List Dp
 p:List Dp
 o:List Dp
def PgAt (w:World) (P:Pg) (v1 v2 v3:Value):Prop:=DepsAt w v1 P.d∧DepsAt w v2 P.p∧DepsAt w v3 P.o
theorem PgAt.below {w w':World} {P:Pg} {v1 v2 v3:Value} (h:PgAt w P v1 v2 v3) (hb:Below w.heap.size w w'):PgAt w' P v1 v2 v3:=⟨h.1.below hb,h.2.1.below hb,h.2.2.below hb⟩
def BxP (w:World) (N:Nat) (s:ByteArray) (a b c:Int) (v1 v2 v3:Value):Prop:=
 w.cell? ⟨N,0,none⟩=some (.string s)∧w.cell? ⟨N,1,none⟩=some (.int .i64 a)∧w.cell? ⟨N,2,none⟩=some (.int .i64 b)∧w.cell? ⟨N,3,none⟩=some (.int .i64 c)∧w.cell? ⟨N,4,none⟩=some v1∧w.cell? ⟨N,5,none⟩=some v2∧w.cell? ⟨N,6,none⟩=some v3∧N<w.heap.size
theorem kI (N:Nat) (s:ByteArray) (a b c:Int) (v1 v2 v3:Value):KeepP fun w1=>BxP w1 N s a b c v1 v2 v3:=fun w w' h hb=>by
 obtain ⟨h0,h1,h2,h3,h4,h5,h6,h7⟩:=h;have q:∀ i,w'.cell? ⟨N,i,none⟩=w.cell? ⟨N,i,none⟩:=fun i=>hb.cell (p:=⟨N,i,none⟩) h7
 exact ⟨by rw [q];exact h0,by rw [q];exact h1,by rw [q];exact h2,by rw [q];exact h3,by rw [q];exact h4,by rw [q];exact h5,by rw [q];exact h6,Nat.lt_of_lt_of_le h7 hb.size⟩
theorem BxP.new {w:World} {N:Nat} (hN:w.heap.size=N) (s:ByteArray) (a b c:Int) (v1 v2 v3:Value):BxP (w.alloc (.cells #[.string s,.int .i64 a,.int .i64 b,.int .i64 c,v1,v2,v3] 54)) N s a b c v1 v2 v3:=by
 subst hN;refine ⟨?_,?_,?_,?_,?_,?_,?_,?_⟩<;>simp
set_option maxHeartbeats 1600000 in
theorem JG {P Q:Pg} {v1 v2 v3 u1 u2 u3:Value} {w:World} (hp:PgAt w P v1 v2 v3) (hq:PgAt w Q u1 u2 u3) (hd:P.d.length≤9223372036854775807) (he:P.p.length≤9223372036854775807) (ho:P.o.length≤9223372036854775807):
 Calls Tryz.prog 201 #[.agg #[.string P.nm,.int .i64 P.a,.int .i64 P.b,.int .i64 P.c,v1,v2,v3],.agg #[.string Q.nm,.int .i64 Q.a,.int .i64 Q.b,.int .i64 Q.c,u1,u2,u3]] w fun x w'=>x= .returned (.bool (eqB P Q))∧Below w.heap.size w w':=by
 have H1:Hid (∀ w1,Below w.heap.size w w1→Calls Tryz.prog 165 #[v1,u1] w1 fun e w'=>e= .returned (.bool (eqB P.d Q.d))∧Below w1.heap.size w1 w'):=fun w1 h=>iQ (hp.1.below h) (hq.1.below h) hd
 have H2:Hid (∀ w1,Below w.heap.size w w1→Calls Tryz.prog 165 #[v2,u2] w1 fun e w'=>e= .returned (.bool (eqB P.p Q.p))∧Below w1.heap.size w1 w'):=fun w1 h=>iQ (hp.2.1.below h) (hq.2.1.below h) he
 have H3:Hid (∀ w1,Below w.heap.size w w1→Calls Tryz.prog 165 #[v3,u3] w1 fun e w'=>e= .returned (.bool (eqB P.o Q.o))∧Below w1.heap.size w1 w'):=fun w1 h=>iQ (hp.2.2.below h) (hq.2.2.below h) ho
 have HR:Hid (eqB P Q=(decide (P.nm.toList=Q.nm.toList)&&(decide (P.a=Q.a)&&decide (P.b=Q.b)&&decide (P.c=Q.c))&&eqB P.d Q.d&&eqB P.p Q.p&&eqB P.o Q.o)):=by
  refine CR ?_;obtain ⟨n,a,b,c,d,e,o⟩:=P;obtain ⟨n',a',b',c',d',e',o'⟩:=Q;simp only [Bool.and_eq_true,decide_eq_true_eq,eO,Pg.mk.injEq];exact ⟨fun ⟨h1,h2,h3,h4,h5,h6,h7⟩=>⟨⟨⟨⟨by rw [h1],⟨h2,h3⟩,h4⟩,h5⟩,h6⟩,h7⟩,fun ⟨⟨⟨⟨h1,⟨h2,h3⟩,h4⟩,h5⟩,h6⟩,h7⟩=>⟨aY h1,h2,h3,h4,h5,h6,h7⟩⟩
 obtain ⟨a1,c1,rfl⟩:=hp.1.sl;obtain ⟨a2,c2,rfl⟩:=hp.2.1.sl;obtain ⟨a3,c3,rfl⟩:=hp.2.2.sl;obtain ⟨b1,d1,rfl⟩:=hq.1.sl;obtain ⟨b2,d2,rfl⟩:=hq.2.1.sl;obtain ⟨b3,d3,rfl⟩:=hq.2.2.sl;clear hp hq hd he ho;have hv:=SS P.a P.b P.c Q.a Q.b Q.c;have hgd:=nP;obtain ⟨n,a,b,c,d,e,o⟩:=P;obtain ⟨n',a',b',c',d',e',o'⟩:=Q
 simp only at*
 generalize eqB d d'=x1 at*;generalize eqB e e'=x2 at*;generalize eqB o o'=x3 at*;generalize (decide (a=a')&&decide (b=b')&&decide (c=c'))=xv at*;generalize d.length=l1 at*;generalize e.length=l2 at*;generalize o.length=l3 at*;generalize d'.length=m1 at*;generalize e'.length=m2 at*;generalize o'.length=m3 at*
 have HB:Hid (BxP ((w.alloc (.cells #[.string n,.int .i64 a,.int .i64 b,.int .i64 c,.slice a1 l1 c1,.slice a2 l2 c2,.slice a3 l3 c3] 54)).alloc (.cells #[.string n',.int .i64 a',.int .i64 b',.int .i64 c',.slice b1 m1 d1,.slice b2 m2 d2,.slice b3 m3 d3] 54)) w.heap.size n a b c (.slice a1 l1 c1) (.slice a2 l2 c2) (.slice a3 l3 c3)∧BxP ((w.alloc (.cells #[.string n,.int .i64 a,.int .i64 b,.int .i64 c,.slice a1 l1 c1,.slice a2 l2 c2,.slice a3 l3 c3] 54)).alloc (.cells #[.string n',.int .i64 a',.int .i64 b',.int .i64 c',.slice b1 m1 d1,.slice b2 m2 d2,.slice b3 m3 d3] 54)) (w.heap.size+1) n' a' b' c' (.slice b1 m1 d1) (.slice b2 m2 d2) (.slice b3 m3 d3)):=⟨kI _ _ _ _ _ _ _ _ _ _ (BxP.new rfl _ _ _ _ _ _ _) (aD _ _),BxP.new (by simp) _ _ _ _ _ _ _⟩
 have HK:Hid (KeepP fun w1=>BxP w1 w.heap.size n a b c (.slice a1 l1 c1) (.slice a2 l2 c2) (.slice a3 l3 c3)∧BxP w1 (w.heap.size+1) n' a' b' c' (.slice b1 m1 d1) (.slice b2 m2 d2) (.slice b3 m3 d3)):=(kI _ _ _ _ _ _ _ _).and (kI _ _ _ _ _ _ _ _);have t1:True:=trivial;have t2:True:=trivial
 by_cases hn:n.toList=n'.toList
 · cases xv
   · go_enter Tryz.func201,Tryz.ntmps201
     go_wp2
     go_ret;exact ⟨aC (by rw [HR.out];simp),aV _ _ _⟩
   · go_enter Tryz.func201,Tryz.ntmps201
     cases x1
     · go_wp2_with (go_at_call 165;refine (H1.out _ (aV _ _ _)).mono ?_;rintro x w1 ⟨rfl,ok⟩)
       go_ret;exact ⟨aC (by rw [HR.out];simp),aA (aV _ _ _) ok⟩
     · cases x2
       · go_wp2_with (first
          |(have _t:=t1;go_at_call 165;refine (H1.out _ (aV _ _ _)).mono ?_;rintro x w1 ⟨rfl,ok⟩;clear t1;have HB1:=aB (HK.out _ _ HB.out ok);obtain ⟨⟨p0,p1,p2,p3,p4,p5,p6,p7⟩,⟨q0,q1,q2,q3,q4,q5,q6,q7⟩⟩:=HB1.out)
          |(go_at_call 165;refine (H2.out _ (aA (aV _ _ _) ok)).mono ?_;rintro x w2 ⟨rfl,ok2⟩))
         go_ret;exact ⟨aC (by rw [HR.out];simp),aA (aA (aV _ _ _) ok) ok2⟩
       · go_wp2_with (first
          |(have _t:=t1;go_at_call 165;refine (H1.out _ (aV _ _ _)).mono ?_;rintro x w1 ⟨rfl,ok⟩;clear t1;have HB1:=aB (HK.out _ _ HB.out ok);obtain ⟨⟨p0,p1,p2,p3,p4,p5,p6,p7⟩,⟨q0,q1,q2,q3,q4,q5,q6,q7⟩⟩:=HB1.out)
          |(have _t:=t2;go_at_call 165;refine (H2.out _ (aA (aV _ _ _) ok)).mono ?_;rintro x w2 ⟨rfl,ok2⟩;clear t2;have HB2:=aB (HK.out _ _ HB1.out ok2);clear p0 p1 p2 p3 p4 p5 p6 p7 q0 q1 q2 q3 q4 q5 q6 q7;obtain ⟨⟨p0,p1,p2,p3,p4,p5,p6,p7⟩,⟨q0,q1,q2,q3,q4,q5,q6,q7⟩⟩:=HB2.out)
          |(go_at_call 165;refine (H3.out _ (aA (aA (aV _ _ _) ok) ok2)).mono ?_;rintro x w3 ⟨rfl,ok3⟩))
         go_ret;exact ⟨aC (by rw [HR.out];simp [hn]),aA (aA (aA (aV _ _ _) ok) ok2) ok3⟩
 · go_enter Tryz.func201,Tryz.ntmps201
   go_wp2
   go_ret;exact ⟨aC (by rw [HR.out];simp [hn]),aV _ _ _⟩
def StIn (w:World) (g o:Nat) (s:ByteArray):Prop:=w.cell? ⟨g,o,none⟩=some (.string s)∧g<w.heap.size
theorem StIn.below {w w':World} {g o:Nat} {s:ByteArray} (h:StIn w g o s) (hb:Below w.heap.size w w'):StIn w' g o s:=⟨(hb.cell (p:=⟨g,o,none⟩) h.2).trans h.1,Nat.lt_of_lt_of_le h.2 hb.size⟩
theorem vD (g o:Nat) (s:ByteArray):KeepP fun w1=>StIn w1 g o s:=fun _ _ h hb=>h.below hb
def PathAt (w:World) (v:Value) (L:List ByteArray):Prop:=∃ ad cap,v= .slice ad L.length cap∧L.length≤cap∧(L=[]∨∃ g o,ad=some ⟨g,o,none⟩∧∀ i (h:i<L.length),StIn w g (o+i) L[i])
theorem PathAt.below {w w':World} {v:Value} {L:List ByteArray} (h:PathAt w v L) (hb:Below w.heap.size w w'):PathAt w' v L:=by
 obtain ⟨ad,cap,hv,hc,hl⟩:=h;refine ⟨ad,cap,hv,hc,hl.imp id ?_⟩;rintro ⟨g,o,ha,hs⟩;exact ⟨g,o,ha,fun i hi=>(hs i hi).below hb⟩
theorem PathAt.sl {w:World} {v:Value} {L:List ByteArray} (h:PathAt w v L):∃ ad cap,v= .slice ad L.length cap:=by
 obtain ⟨ad,cap,rfl,_⟩:=h;exact ⟨ad,cap,rfl⟩
theorem PathAt.cut {w:World} {ad:Option Addr} {n cap:Nat} {L:List ByteArray} (h:PathAt w (.slice ad n cap) L) {k:Nat} (hk:k≤n):PathAt w (.slice ad k cap) (L.take k):=by
 obtain ⟨ad',cap',hv,hc,hl⟩:=h;injection hv with e1 e2 e3
 subst e1 e2 e3;have hkl:(L.take k).length=k:=by rw [List.length_take];omega
 refine ⟨ad,cap,by rw [hkl],by omega,?_⟩
 rcases hl with rfl|⟨g,o,ha,hs⟩
 · exact Or.inl (by simp)
 · exact Or.inr ⟨g,o,ha,fun i hi=>by rw [List.getElem_take];exact hs i (by omega)⟩
theorem JH {s t:ByteArray} (h:s.toList=t.toList):s=t:=aY h
set_option maxHeartbeats 1600000 in
theorem vE (A B:List ByteArray) (hAB:A.length=B.length) (hsz:A.length≤9223372036854775807) (ga oa ca gb ob cb:Nat) (w:World) (hla:∀ i (h:i<A.length),StIn w ga (oa+i) A[i]) (hlb:∀ i (h:i<B.length),StIn w gb (ob+i) B[i]):
 Calls Tryz.prog 107 #[.slice (some ⟨ga,oa,none⟩) A.length ca,.slice (some ⟨gb,ob,none⟩) B.length cb] w fun e w'=>e= .returned (.bool (eqB A B))∧Below w.heap.size w w':=by
 have HL:Hid (∀ w1,Below w.heap.size w w1→∀ i (h:i<A.length) (h2:i<B.length),StIn w1 ga (oa+i) A[i]∧StIn w1 gb (ob+i) B[i]):=fun w1 hb i hi hi2=>⟨(hla i hi).below hb,(hlb i hi2).below hb⟩
 have HAB:=aB hAB;clear hla hlb;rw [←hAB];clear hAB
 go_enter Tryz.func107,Tryz.ntmps107
 go_wp2_with fail
 go_loopw [13] (fun i wr=>∃ k:Nat,k≤A.length∧i= .int .i64 k∧Below w.heap.size w wr∧∀ j (h:j<k) (h1:j<A.length) (h2:j<B.length),A[j]=B[j]) (fun i _=>A.length - (intOf i).toNat)
 case atStart=>exact ⟨0,Nat.zero_le _,rfl,Below.refl _ _,fun j h=>by omega⟩
 case round=>
  obtain ⟨k,hk,rfl,hb,hall⟩:=hrel;have HALL:=aB hall;have HB:=aB hb;clear hall
  by_cases hlt:k<A.length
  · have hltB:k<B.length:=HAB.out ▸ hlt
    have HO:Hid (Below w.heap.size w wr∧StIn wr ga (oa+k) A[k]∧StIn wr gb (ob+k) B[k]):=⟨hb,HL.out wr hb k hlt hltB⟩;have HK:Hid (KeepP fun w1=>Below w.heap.size w w1∧StIn w1 ga (oa+k) A[k]∧StIn w1 gb (ob+k) B[k]):=(aO w).and ((vD _ _ _).and (vD _ _ _));have HNE:Hid (A[k]≠B[k]→eqB A B=false):=fun h=>cG fun e=>by subst e;exact h rfl
    have HST:Hid (A[k]=B[k]→∀ j (h:j<k+1) (h1:j<A.length) (h2:j<B.length),A[j]=B[j]):=fun h j hj h1 h2=>by
     rcases Nat.lt_or_ge j k with hjk|hjk
     · exact HALL.out j hjk h1 h2
     · obtain rfl:j=k:=by omega
       exact h
    generalize A[k]=s at*;generalize B[k]=t at*
    by_cases hq:s=t
    · have HR:=aB (HST.out hq)
      have hqq:(s.toList==t.toList)=true:=by rw [hq];simp
      clear hb HNE HST HALL hq
      go_wp2_with fail
      refine cI HK (by kernel_rfl) (by kernel_rfl) (by first|exact HO.out|exact HK.out.drew HO.out) ?_;intro C HIN HOUT;clear HO
      repeat
       (with_reducible refine wpQuiet_step (fun K hK=> ?_)
        go_simp
        first
         |(refine hK _ ?_;clear hK K)
         |(apply Exists.intro;refine ⟨fun w1 hC=> ?_,hK _ ?_⟩;(focus ((first|(exact rfl)|(obtain ⟨hb1,⟨p0,p1⟩,⟨q0,q1⟩⟩:=HOUT.out w1 hC;clear hC;go_simp;first|done|exact rfl));done));clear hK K))
      refine wpQuiet_nil ?_;intro wn hC;have HO:=aB (HOUT.out _ hC);clear hC HIN HOUT C;obtain ⟨hb1,⟨p0,p1⟩,⟨q0,q1⟩⟩:=HO.out
      go_wp2
      exact ⟨⟨k+1,by omega,by go_num,HO.out.1,HR.out⟩,by simp [intOf];omega⟩
    · have HR:=aB (HNE.out hq)
      have hqq:(s.toList==t.toList)=false:=by rw [beq_eq_false_iff_ne];exact fun e=>hq (JH e)
      clear hb HNE HST HALL hq
      go_wp2_with fail
      refine cI HK (by kernel_rfl) (by kernel_rfl) (by first|exact HO.out|exact HK.out.drew HO.out) ?_;intro C HIN HOUT;clear HO
      repeat
       (with_reducible refine wpQuiet_step (fun K hK=> ?_)
        go_simp
        first
         |(refine hK _ ?_;clear hK K)
         |(apply Exists.intro;refine ⟨fun w1 hC=> ?_,hK _ ?_⟩;(focus ((first|(exact rfl)|(obtain ⟨hb1,⟨p0,p1⟩,⟨q0,q1⟩⟩:=HOUT.out w1 hC;clear hC;go_simp;first|done|exact rfl));done));clear hK K))
      refine wpQuiet_nil ?_;intro wn hC;have HO:=aB (HOUT.out _ hC);clear hC HIN HOUT C;obtain ⟨hb1,⟨p0,p1⟩,⟨q0,q1⟩⟩:=HO.out
      go_wp2
      go_ret;exact ⟨aC HR.out.symm,HO.out.1⟩
  · have hke:k=A.length:=by omega
    subst hke;have HR:Hid (eqB A B=true):=bJ (List.ext_getElem HAB.out fun j h1 h2=>HALL.out j h1 h1 h2);clear hb
    go_wp2
    go_ret;exact ⟨aC HR.out.symm,HB.out⟩
theorem oE (ad bd:Option Addr) (ca cb:Nat) (w:World):
 Calls Tryz.prog 107 #[.slice ad 0 ca,.slice bd 0 cb] w fun e w'=>e= .returned (.bool true)∧Below w.heap.size w w':=by
 go_enter Tryz.func107,Tryz.ntmps107
 go_wp2_with fail
 go_loop [13] (fun i=>i= .int .i64 0) (fun _=>0)
 case atStart=>rfl
 case round=>
  subst hrel
  go_wp2
  go_ret;exact ⟨rfl,Below.refl _ _⟩
theorem zM (ad bd:Option Addr) (n m ca cb:Nat) (h:n≠m) (w:World):
 Calls Tryz.prog 107 #[.slice ad n ca,.slice bd m cb] w fun e w'=>e= .returned (.bool false)∧Below w.heap.size w w':=by
 have hn:((n:Int)=(m:Int))=False:=by simp;omega
 go_enter Tryz.func107,Tryz.ntmps107
 go_wp2
 go_ret;exact ⟨rfl,Below.refl _ _⟩
theorem zN {A B:List ByteArray} {va vb:Value} {w:World} (ha:PathAt w va A) (hb:PathAt w vb B) (hsz:A.length≤9223372036854775807):
 Calls Tryz.prog 107 #[va,vb] w fun e w'=>e= .returned (.bool (eqB A B))∧Below w.heap.size w w':=by
 obtain ⟨ad,ca,rfl,_,hl⟩:=ha;obtain ⟨bd,cb,rfl,_,hm⟩:=hb
 by_cases hn:A.length=B.length
 · rcases hl with rfl|⟨ga,oa,rfl,hla⟩
   · obtain rfl:B=[]:=List.eq_nil_of_length_eq_zero (by simpa using hn.symm)
     rw [bJ rfl];exact oE _ _ _ _ w
   · rcases hm with rfl|⟨gb,ob,rfl,hlb⟩
     · obtain rfl:A=[]:=List.eq_nil_of_length_eq_zero (by simpa using hn)
       rw [bJ rfl];exact oE _ _ _ _ w
     · exact vE A B hn hsz ga oa ca gb ob cb w hla hlb
 · rw [cG fun e=>hn (by rw [e])]
   exact zM _ _ _ _ _ _ hn w
structure Dr where
 pa:List ByteArray
 pk:Pg
 nd:Int
def DrIn (w:World) (g o:Nat) (D:Dr) (u v1 v2 v3:Value):Prop:=
 (w.cell? ⟨g,o,none⟩=some u∧w.cell? ⟨g,o+1,none⟩=some (.string D.pk.nm)∧w.cell? ⟨g,o+2,none⟩=some (.int .i64 D.pk.a)∧w.cell? ⟨g,o+3,none⟩=some (.int .i64 D.pk.b)∧w.cell? ⟨g,o+4,none⟩=some (.int .i64 D.pk.c)∧w.cell? ⟨g,o+5,none⟩=some v1∧w.cell? ⟨g,o+6,none⟩=some v2∧w.cell? ⟨g,o+7,none⟩=some v3∧w.cell? ⟨g,o+8,none⟩=some (.int .i64 D.nd))∧(PathAt w u D.pa∧PgAt w D.pk v1 v2 v3)∧g<w.heap.size
theorem DrIn.below {w w':World} {g o:Nat} {D:Dr} {u v1 v2 v3:Value} (h:DrIn w g o D u v1 v2 v3) (hb:Below w.heap.size w w'):DrIn w' g o D u v1 v2 v3:=by
 obtain ⟨⟨h0,h1,h2,h3,h4,h5,h6,h7,h8⟩,⟨hp,hq⟩,hg⟩:=h;have q:∀ i,w'.cell? ⟨g,i,none⟩=w.cell? ⟨g,i,none⟩:=fun i=>hb.cell (p:=⟨g,i,none⟩) hg
 exact ⟨⟨by rw [q];exact h0,by rw [q];exact h1,by rw [q];exact h2,by rw [q];exact h3,by rw [q];exact h4,by rw [q];exact h5,by rw [q];exact h6,by rw [q];exact h7,by rw [q];exact h8⟩,⟨hp.below hb,hq.below hb⟩,Nat.lt_of_lt_of_le hg hb.size⟩
theorem oF (g o:Nat) (D:Dr) (u v1 v2 v3:Value):KeepP fun w1=>DrIn w1 g o D u v1 v2 v3:=fun _ _ h hb=>h.below hb
def DirsAt (w:World) (v:Value) (L:List Dr):Prop:=∃ ad cap,v= .slice ad L.length cap∧L.length≤cap∧(L=[]∨∃ g o,ad=some ⟨g,o,none⟩∧∀ i (h:i<L.length),∃ u v1 v2 v3,DrIn w g (o+i*9) L[i] u v1 v2 v3)
theorem DirsAt.below {w w':World} {v:Value} {L:List Dr} (h:DirsAt w v L) (hb:Below w.heap.size w w'):DirsAt w' v L:=by
 obtain ⟨ad,cap,hv,hc,hl⟩:=h;refine ⟨ad,cap,hv,hc,hl.imp id ?_⟩;rintro ⟨g,o,ha,hs⟩;exact ⟨g,o,ha,fun i hi=>by obtain ⟨u,v1,v2,v3,h⟩:=hs i hi;exact ⟨u,v1,v2,v3,h.below hb⟩⟩
theorem DirsAt.sl {w:World} {v:Value} {L:List Dr} (h:DirsAt w v L):∃ ad cap,v= .slice ad L.length cap∧L.length≤cap∧∀ i (_:i<L.length),∃ g o,ad=some ⟨g,o,none⟩∧∃ u v1 v2 v3,DrIn w g (o+i*9) L[i] u v1 v2 v3:=by
 obtain ⟨ad,cap,hv,hc,hl⟩:=h;refine ⟨ad,cap,hv,hc,fun i hi=> ?_⟩
 rcases hl with rfl|⟨g,o,ha,hs⟩
 · cases hi
 · exact ⟨g,o,ha,hs i hi⟩
theorem DirsAt.cut {w:World} {ad:Option Addr} {n cap:Nat} {L:List Dr} (h:DirsAt w (.slice ad n cap) L) {k:Nat} (hk:k≤n):DirsAt w (.slice ad k cap) (L.take k):=by
 obtain ⟨ad',cap',hv,hc,hl⟩:=h;injection hv with e1 e2 e3
 subst e1 e2 e3;have hkl:(L.take k).length=k:=by rw [List.length_take];omega
 refine ⟨ad,cap,by rw [hkl],by omega,?_⟩
 rcases hl with rfl|⟨g,o,ha,hs⟩
 · exact Or.inl (by simp)
 · exact Or.inr ⟨g,o,ha,fun i hi=>by rw [List.getElem_take];exact hs i (by omega)⟩
def FitD (L:List Dr):Prop:=∀ d ∈ L,d.pa.length≤9223372036854775807
end Go.Proofs.YtlmpiohbmlddiaaGreatDoor
namespace Go.Proofs.YtlmpiohbmlddiaaGreatDoor.Sc
open Go.RowKit
set_option maxRecDepth 100000
theorem tB (b:UInt8) (w:World):Calls Tryz.prog 183 #[.int .u8 (b.toNat:Int)] w fun e w'=>e= .returned (.bool (wB b))∧w'=w:=by
 go_enter Tryz.func183,Tryz.ntmps183
 go_wp2
 all_goals
  go_ret;refine ⟨aC ?_,rfl⟩;rw [Bool.eq_iff_iff];simp [wB];omega
def ltB (b:UInt8):Bool:=decide (97≤b.toNat)&&decide (b.toNat≤122)
def dgB (b:UInt8):Bool:=decide (48≤b.toNat)&&decide (b.toNat≤57)
def nmB (b:UInt8):Bool:=ltB b||dgB b||decide (b.toNat=45)
theorem oG (b:UInt8) (w:World):Calls Tryz.prog 104 #[.int .u8 (b.toNat:Int)] w fun e w'=>e= .returned (.bool (ltB b))∧w'=w:=by
 go_enter Tryz.func104,Tryz.ntmps104
 go_wp2
 all_goals
  go_ret;refine ⟨aC ?_,rfl⟩;rw [Bool.eq_iff_iff];simp [ltB];omega
theorem EV (b:UInt8) (w:World):Calls Tryz.prog 105 #[.int .u8 (b.toNat:Int)] w fun e w'=>e= .returned (.bool (dgB b))∧w'=w:=by
 go_enter Tryz.func105,Tryz.ntmps105
 go_wp2
 all_goals
  go_ret;refine ⟨aC ?_,rfl⟩;rw [Bool.eq_iff_iff];simp [dgB];omega
def CS:Bs→Bool
 |[]=>false
 |b::_=>ltB b
def aG (t:Bs):Bool:=CS t&&t.all nmB&&decide (t.length≤16)
theorem oH {p:ByteArray}:p.toList.isEmpty=p.data.toList.isEmpty:=by rw [ByteArray.toList_eq]
theorem vF {t:Bs} (h:t.isEmpty=true):aG t=false:=by cases t<;>simp_all [aG,CS]
theorem NR {s:ByteArray} (h:0<s.size):CS s.data.toList=ltB s[0]:=by
 have:s.data.toList=s[0]::s.data.toList.drop 1:=by
  have:=List.drop_eq_getElem_cons (l:=s.data.toList) (i:=0) (by rw [aK];exact h)
  rw [List.drop_zero] at this;exact this
 rw [this];rfl
theorem JI {s:ByteArray} (h:s.toList.isEmpty=false):0<s.size:=by
 rw [oH] at h;rw [←aK];cases hs:s.data.toList with
 |nil=>rw [hs] at h;cases h
 |cons _ _=>simp
theorem CT {s:ByteArray} {k:Nat} (hk:k<s.size) {f:UInt8→Bool} (h:f s[k]=false):s.data.toList.all f=false:=by
 rw [Bool.eq_false_iff];intro ha;rw [List.all_eq_true] at ha
 have:=ha s[k] (List.getElem_mem (l:=s.data.toList) (n:=k) (by rw [aK];exact hk))
 rw [h] at this;cases this
theorem kJ {s:ByteArray} {k:Nat} (hk:k<s.size) {f:UInt8→Bool} (h:(s.data.toList.take k).all f=true) (hb:f s[k]=true):(s.data.toList.take (k+1)).all f=true:=by
 rw [List.take_succ_eq_append_getElem (by rw [aK];exact hk),List.all_append,h];simp only [List.all_cons,List.all_nil,Bool.and_true,Bool.true_and];exact hb
theorem CU {s:ByteArray} {f:UInt8→Bool} (h:(s.data.toList.take s.size).all f=true):s.data.toList.all f=true:=by
 rw [List.take_of_length_le (by rw [aK];exact Nat.le_refl _)] at h;exact h
set_option maxHeartbeats 3200000 in
theorem cT (s:ByteArray) (w:World):Calls Tryz.prog 53 #[.string s] w fun e w'=>e= .returned (.bool (aG s.data.toList))∧w'=w:=by
 cases he:s.toList.isEmpty
 · have h0:=JI he
   by_cases h16:s.size≤16
   · have HH:=aB (NR h0)
     have HL:=aB (oG s[0]);cases hl:ltB s[0]
     · have HR:Hid (aG s.data.toList=false):=by unfold Hid aG;rw [HH.out,hl];rfl
       rw [hl] at HL;clear hl
       go_enter Tryz.func53,Tryz.ntmps53
       go_wp2_with (go_at_call 104;refine (HL.out _).mono ?_;rintro e w1 ⟨rfl,hw1⟩;subst hw1)
       go_ret;exact ⟨aC HR.out.symm,rfl⟩
     · rw [hl] at HL HH
       clear hl;have HLT:Hid (∀ b:UInt8,∀ w1,Calls Tryz.prog 104 #[.int .u8 (b.toNat:Int)] w1 fun e w'=>e= .returned (.bool (ltB b))∧w'=w1):=oG;have HDG:Hid (∀ b:UInt8,∀ w1,Calls Tryz.prog 105 #[.int .u8 (b.toNat:Int)] w1 fun e w'=>e= .returned (.bool (dgB b))∧w'=w1):=EV
       go_enter Tryz.func53,Tryz.ntmps53
       go_wp2_with (go_at_call 104;refine (HL.out _).mono ?_;rintro e w1 ⟨rfl,hw1⟩;subst hw1;clear HL)
       go_loop [19] (fun i=>∃ k:Nat,k≤s.size∧i= .int .i64 k∧(s.data.toList.take k).all nmB=true) (fun i=>s.size - (intOf i).toNat)
       case atStart=>exact ⟨0,Nat.zero_le _,rfl,rfl⟩
       case round=>
        obtain ⟨k,hk,rfl,hal⟩:=hrel;have HA:=aB hal;clear hal
        by_cases hlt:k<s.size
        · have HLk:=aB (HLT.out s[k])
          have HDk:=aB (HDG.out s[k]);cases h1:ltB s[k]
          · cases h2:dgB s[k]
            · by_cases h3:s[k].toNat=45
              · have hn:nmB s[k]=true:=by unfold nmB;rw [h1,h2,decide_eq_true h3];rfl
                have HA2:=aB (kJ hlt HA.out hn);have e3:((s[k].toNat:Int)==45)=true:=by rw [beq_iff_eq];omega
                rw [h1] at HLk;rw [h2] at HDk;clear h1 h2 h3 hn
                go_wp2_with (first|(go_at_call 104;refine (HLk.out _).mono ?_;rintro e w1 ⟨rfl,hw1⟩;subst hw1)|(go_at_call 105;refine (HDk.out _).mono ?_;rintro e w1 ⟨rfl,hw1⟩;subst hw1))
                exact ⟨⟨k+1,by omega,by go_num,HA2.out⟩,by simp [intOf];omega⟩
              · have hn:nmB s[k]=false:=by unfold nmB;rw [h1,h2,decide_eq_false h3];rfl
                have HR:Hid (aG s.data.toList=false):=by unfold Hid aG;rw [CT hlt hn];simp
                have e3:((s[k].toNat:Int)==45)=false:=by rw [beq_eq_false_iff_ne];omega
                rw [h1] at HLk;rw [h2] at HDk;clear h1 h2 h3 hn
                go_wp2_with (first|(go_at_call 104;refine (HLk.out _).mono ?_;rintro e w1 ⟨rfl,hw1⟩;subst hw1)|(go_at_call 105;refine (HDk.out _).mono ?_;rintro e w1 ⟨rfl,hw1⟩;subst hw1))
                go_ret;exact ⟨aC HR.out.symm,rfl⟩
            · have hn:nmB s[k]=true:=by unfold nmB;rw [h1,h2];rfl
              have HA2:=aB (kJ hlt HA.out hn);rw [h1] at HLk;rw [h2] at HDk;clear h1 h2 hn
              go_wp2_with (first|(go_at_call 104;refine (HLk.out _).mono ?_;rintro e w1 ⟨rfl,hw1⟩;subst hw1)|(go_at_call 105;refine (HDk.out _).mono ?_;rintro e w1 ⟨rfl,hw1⟩;subst hw1))
              exact ⟨⟨k+1,by omega,by go_num,HA2.out⟩,by simp [intOf];omega⟩
          · have hn:nmB s[k]=true:=by unfold nmB;rw [h1];rfl
            have HA2:=aB (kJ hlt HA.out hn);rw [h1] at HLk;clear h1 hn
            go_wp2_with (go_at_call 104;refine (HLk.out _).mono ?_;rintro e w1 ⟨rfl,hw1⟩;subst hw1)
            exact ⟨⟨k+1,by omega,by go_num,HA2.out⟩,by simp [intOf];omega⟩
        · have hke:k=s.size:=by omega
          subst hke;have HR:Hid (aG s.data.toList=true):=by unfold Hid aG;rw [HH.out,CU HA.out,aK,decide_eq_true h16];rfl
          go_wp2
          go_ret;exact ⟨aC HR.out.symm,rfl⟩
   · have HR:Hid (aG s.data.toList=false):=by unfold Hid aG;rw [aK,decide_eq_false h16];simp
     go_enter Tryz.func53,Tryz.ntmps53
     go_wp2
     go_ret;exact ⟨aC HR.out.symm,rfl⟩
 · have HR:Hid (aG s.data.toList=false):=vF (by rw [←oH];exact he)
   go_enter Tryz.func53,Tryz.ntmps53
   go_wp2
   go_ret;exact ⟨aC HR.out.symm,rfl⟩
end Go.Proofs.YtlmpiohbmlddiaaGreatDoor.Sc
namespace Go.Proofs.YtlmpiohbmlddiaaGreatDoor
open Go.RowKit
set_option maxRecDepth 100000
noncomputable def bD (L:List Dr) (p:List ByteArray):Int:=match L.findIdx? (fun d=>eqB d.pa p) with
 |some i=>(i:Int)
 |none=> -1
theorem vG {L:List Dr} {p:List ByteArray} {k:Nat} (hk:k<L.length) (h:L[k].pa=p) (hall:∀ j (_:j<k) (h1:j<L.length),L[j].pa≠p):bD L p=k:=by
 have e:L.findIdx? (fun d=>eqB d.pa p)=some k:=by
  rw [List.findIdx?_eq_some_iff_getElem];refine ⟨hk,bJ h,fun j hj=> ?_⟩;rw [cG (hall j hj (by omega))]
  simp
 unfold bD;rw [e]
theorem vH {L:List Dr} {p:List ByteArray} (hall:∀ j (h1:j<L.length),L[j].pa≠p):bD L p= -1:=by
 have e:L.findIdx? (fun d=>eqB d.pa p)=none:=by
  rw [List.findIdx?_eq_none_iff];intro d hd;obtain ⟨i,hi,rfl⟩:=List.getElem_of_mem hd;exact cG (hall i hi)
 unfold bD;rw [e]
theorem cU (L:List Dr) (p:List ByteArray):(bD L p= -1∧∀ j (h1:j<L.length),L[j].pa≠p)∨∃ k,∃ hk:k<L.length,bD L p=(k:Int)∧L[k].pa=p∧∀ j (_:j<k) (h1:j<L.length),L[j].pa≠p:=by
 cases e:L.findIdx? (fun d=>eqB d.pa p) with
 |none=>
  rw [List.findIdx?_eq_none_iff] at e
  have hall:∀ j (h1:j<L.length),L[j].pa≠p:=fun j h1 h=>by
   have:=e _ (List.getElem_mem h1)
   rw [bJ h] at this;cases this
  exact Or.inl ⟨vH hall,hall⟩
 |some k=>
  rw [List.findIdx?_eq_some_iff_getElem] at e;obtain ⟨hk,h,hall⟩:=e;have h1:L[k].pa=p:=eO.1 h;have h2:∀ j (_:j<k) (h1:j<L.length),L[j].pa≠p:=fun j hj h1 h=>hall j hj (bJ h)
  exact Or.inr ⟨k,hk,vG hk h1 h2,h1,h2⟩
theorem vI (L:List Dr) (p:List ByteArray):bD L p<L.length:=by
 rcases cU L p with ⟨h,_⟩|⟨k,hk,h,_⟩<;>rw [h]<;>omega
theorem iD (L:List Dr) (p:List ByteArray): -1≤bD L p:=by
 rcases cU L p with ⟨h,_⟩|⟨k,hk,h,_⟩<;>rw [h]<;>omega
noncomputable def dU (L:List Dr) (p:List ByteArray) (s:ByteArray):Nat→Int
 |0=>bD L (p.take 0++[s])
 |k+1=>if bD L (p.take (k+1)++[s])= -1 then dU L p s k else bD L (p.take (k+1)++[s])
noncomputable def bE (L:List Dr) (f:Int) (s:ByteArray):Int:=if h:0≤f∧f.toNat<L.length∧Sc.aG s.data.toList=true then dU L (L[f.toNat]'h.2.1).pa s (L[f.toNat]'h.2.1).pa.length else -1
theorem kK {L:List Dr} {p:List ByteArray} {s:ByteArray} {k:Nat} (h:bD L (p.take k++[s])≠ -1):dU L p s k=bD L (p.take k++[s]):=by
 cases k with
 |zero=>rfl
 |succ k=>unfold dU;rw [if_neg h]
theorem iR {L:List Dr} {p:List ByteArray} {s:ByteArray} {k:Nat} (h:bD L (p.take (k+1)++[s])= -1):dU L p s (k+1)=dU L p s k:=by
 rw [dU,if_pos h]
theorem vJ (L:List Dr) (p:List ByteArray) (s:ByteArray):∀ k,dU L p s k<L.length∧ -1≤dU L p s k
 |0=>⟨vI _ _,iD _ _⟩
 |k+1=>by
  unfold dU
  split
  · exact vJ L p s k
  · exact ⟨vI _ _,iD _ _⟩
theorem oI (L:List Dr) (f:Int) (s:ByteArray):bE L f s<L.length∧ -1≤bE L f s:=by
 unfold bE
 split
 · exact vJ _ _ _ _
 · omega
def BxT (w:World) (N:Nat) (v:Value):Prop:=w.cell? ⟨N,0,none⟩=some v∧N<w.heap.size
theorem cE (N:Nat) (v:Value):KeepP fun w1=>BxT w1 N v:=fun _ _ h hb=>⟨(hb.cell (p:=⟨N,0,none⟩) h.2).trans h.1,Nat.lt_of_lt_of_le h.2 hb.size⟩
theorem BxT.new (w:World) (v:Value):BxT (w.alloc (.cells #[v] 30)) w.heap.size v:=⟨by simp,by simp⟩
set_option maxHeartbeats 1600000 in
theorem lL {L:List Dr} {v:Value} {p:List ByteArray} {vp:Value} {w:World} (h:DirsAt w v L) (hz:L.length≤9223372036854775807) (hf:FitD L) (hp:PathAt w vp p):
 Calls Tryz.prog 57 #[.agg #[v],vp] w fun e w'=>e= .returned (.int .i64 (bD L p))∧Below w.heap.size w w':=by
 have HE:Hid (∀ w1,Below w.heap.size w w1→∀ u A,PathAt w1 u A→A.length≤9223372036854775807→Calls Tryz.prog 107 #[u,vp] w1 fun e w'=>e= .returned (.bool (eqB A p))∧Below w1.heap.size w1 w'):=fun w1 hb u A hu hl=>zN hu (hp.below hb) hl
 obtain ⟨ad,cap,rfl,hc,hsl⟩:=h.sl
 have HS:Hid (∀ w1,Below w.heap.size w w1→∀ i (_:i<L.length),∃ g o,ad=some ⟨g,o,none⟩∧∃ u v1 v2 v3,DrIn w1 g (o+i*9) L[i] u v1 v2 v3):=fun w1 hb i hi=>by
  obtain ⟨g,o,e,u,v1,v2,v3,hd⟩:=hsl i hi;exact ⟨g,o,e,u,v1,v2,v3,hd.below hb⟩
 have HF:=aB hf;obtain ⟨pd,pc,rfl⟩:=hp.sl;clear h hp hsl hf
 go_enter Tryz.func57,Tryz.ntmps57
 go_wp2_with fail
 go_loopw [9] (fun i wr=>∃ k:Nat,k≤L.length∧i= .int .i64 k∧(Below w.heap.size w wr∧BxT wr w.heap.size (.slice ad L.length cap))∧∀ j (_:j<k) (h1:j<L.length),L[j].pa≠p) (fun i _=>L.length - (intOf i).toNat)
 case atStart=>exact ⟨0,Nat.zero_le _,rfl,⟨aD _ _,BxT.new _ _⟩,fun j h=>by omega⟩
 case round=>
  obtain ⟨k,hk,rfl,⟨hb,bx0,bx1⟩,hall⟩:=hrel;have HALL:=aB hall;have HB:=aB hb;clear hall
  by_cases hlt:k<L.length
  · obtain ⟨g,o,rfl,u,v1,v2,v3,⟨c0,c1,c2,c3,c4,c5,c6,c7,c8⟩,⟨hpa,hpk⟩,hg⟩:=HS.out wr hb k hlt
    have HC:=aB (HE.out wr hb u _ hpa (HF.out _ (List.getElem_mem hlt)));have HY:Hid (L[k].pa=p→bD L p=k):=fun h=>vG hlt h HALL.out
    have HN:Hid (L[k].pa≠p→∀ j (_:j<k+1) (h1:j<L.length),L[j].pa≠p):=fun h j hj h1=>by
     rcases Nat.lt_or_ge j k with hjk|hjk
     · exact HALL.out j hjk h1
     · obtain rfl:j=k:=by omega
       exact h
    obtain ⟨ua,uc,rfl⟩:=hpa.sl;clear c1 c2 c3 c4 c5 c6 c7 c8 hpk hpa hb;have HBX:Hid (BxT wr w.heap.size (.slice (some ⟨g,o,none⟩) L.length cap)):=⟨bx0,bx1⟩;generalize L[k].pa.length=n at*
    by_cases hq:L[k].pa=p
    · have HR:=aB (HY.out hq)
      rw [bJ hq] at HC;clear HY HN HALL hq
      go_wp2_with (go_at_call 107;refine HC.out.mono ?_;rintro x w1 ⟨rfl,ok⟩)
      go_ret;exact ⟨Sc.bP HR.out.symm,aA HB.out ok⟩
    · have HR:=aB (HN.out hq)
      rw [cG hq] at HC;clear HY HN HALL hq
      go_wp2_with (go_at_call 107;refine HC.out.mono ?_;rintro x w1 ⟨rfl,ok⟩)
      exact ⟨⟨k+1,by omega,by go_num,⟨aA HB.out ok,cE _ _ _ _ HBX.out ok⟩,HR.out⟩,by simp [intOf];omega⟩
  · have hke:k=L.length:=by omega
    subst hke;have HR:Hid (bD L p= -1):=vH fun j h1=>HALL.out j h1 h1
    clear hb
    go_wp2
    go_ret;exact ⟨Sc.bP HR.out.symm,HB.out⟩
def pcs (L:List ByteArray):List Value:=L.map .string
theorem jL (L:List ByteArray):(pcs L).length=L.length:=by simp [pcs]
theorem NS (L:List ByteArray):∀ u ∈ pcs L,u.oneCell'=true:=fun u hu=>by
 obtain ⟨s,_,rfl⟩:=List.mem_map.1 hu;rfl
def OwnPa (w:World) (B:Nat) (v:Value) (L:List ByteArray):Prop:=w.ownsRow B 9 1 v L.length (pcs L)
theorem OwnPa.below {w w':World} {B:Nat} {v:Value} {L:List ByteArray} (h:OwnPa w B v L) (hb:Below w.heap.size w w'):OwnPa w' B v L:=by
 refine ⟨h.1,?_⟩
 rcases h.2 with hn|⟨g,cap,cur,rfl,hB,hgg,r⟩
 · exact Or.inl hn
 · exact Or.inr ⟨g,cap,cur,rfl,hB,(hb.block g (Array.getElem?_eq_some_iff.1 hgg).1).trans hgg,r⟩
theorem OwnPa.form {w:World} {B:Nat} {v:Value} {L:List ByteArray} (h:OwnPa w B v L):∃ ad cap,v= .slice ad L.length cap∧L.length≤cap:=by
 rcases h.2 with ⟨rfl,hn⟩|⟨g,cap,cur,rfl,hB,hg,hc,_⟩
 · exact ⟨none,0,by rw [hn],by omega⟩
 · exact ⟨_,cap,rfl,hc⟩
theorem OwnPa.at {w:World} {B:Nat} {v:Value} {L:List ByteArray} (h:OwnPa w B v L):PathAt w v L:=by
 have h0:=h
 rcases h.2 with ⟨rfl,hn⟩|⟨g,cap,cur,rfl,hB,hg,hc,_⟩
 · exact ⟨none,0,by rw [hn],by omega,Or.inl (List.eq_nil_of_length_eq_zero hn)⟩
 · refine ⟨_,cap,rfl,hc,Or.inr ⟨g,0,rfl,fun i hi=>⟨?_,(Array.getElem?_eq_some_iff.1 hg).1⟩⟩⟩
   have:=World.ownsRow.cellAt h0 i (by omega)
   rw [Nat.zero_add,this];simp [pcs,hi]
theorem OwnPa.cut {w:World} {B:Nat} {ad:Option Addr} {n cap:Nat} {L:List ByteArray} (h:OwnPa w B (.slice ad n cap) L) {k:Nat} (hk:k≤n):OwnPa w B (.slice ad k cap) (L.take k):=by
 have hln:n=L.length:=by
  obtain ⟨_,_,e,_⟩:=h.form;injection e
 subst hln;have hkl:(L.take k).length=k:=by rw [List.length_take];omega
 refine ⟨by rw [jL,Nat.mul_one],?_⟩
 rcases h.2 with ⟨e,hn⟩|⟨g,cap',cur,e,hB,hg,hc,hm,hs,ht⟩
 · injection e with e1 e2 e3
   refine Or.inl ⟨?_,by omega⟩;rw [e1,e3,show k=0 by omega]
 · injection e with e1 e2 e3
   refine Or.inr ⟨g,cap',cur,by rw [e1,e3,hkl],hB,hg,by omega,hm,hs,?_⟩;rw [hkl,Nat.mul_one];rw [Nat.mul_one] at ht
   have:cur.toList.take k=(cur.toList.take L.length).take k:=by rw [List.take_take,Nat.min_eq_left hk]
   rw [this,ht];unfold pcs;rw [List.map_take]
theorem EW {w:World} {g o:Nat} {L:List ByteArray} (h:∀ i (h:i<L.length),StIn w g (o+i) L[i]):∀ j u,(pcs L)[j]? =some u→w.cell? ((⟨g,o,none⟩:Addr).add j)=some u:=fun j u hj=>by
 have ad:(⟨g,o,none⟩:Addr).add j=⟨g,o+j,none⟩:=by unfold Addr.add;split<;>simp_all
 rw [ad]
 have hl:j<L.length:=by
  have:=(List.getElem?_eq_some_iff.1 hj).1
  rwa [jL] at this
 rw [(h j hl).1,←hj];simp [pcs,hl]
theorem kL (w:World) (B:Nat) (t ty e:TypeId) (i:TypeInfo) (z:Value) (bytes:Nat) (ht:Tryz.prog.underlying t=some (.slice e)) (hi:Tryz.prog.info? e=some i) (hz:i.zero=some z) (hsize:i.size=1) (hby:i.bytes=bytes) (hzs:z.cells.size=1)
 (v:Value) (n:Nat) (xs:List Value) (hown:w.ownsRow B e 1 v n xs) (a:Addr) (c:Nat) (x:Value) (hx:∀ j u,[x][j]? =some u→w.cell? (a.add j)=some u) (h1:x.oneCell'=true)
 (hb:((n+1)+(n+1) / 4+192)*bytes≤281474976710656) (hn:n+1≤maxLen) (hB:B≤w.heap.size):
 ∃ v' w',(Builtin.append_ #[t,t] ty #[v,.slice (some a) 1 c]).run Tryz.prog w= .ok v' w'∧w'.ownsRow B e 1 v' (n+1) (xs++[x])∧w'.ownsRow B e 1 v n xs∧w.grownBy w' v.ownBlock:=by
 obtain ⟨v',w',hr,h2,h3,_⟩:=run_append_own_wide (P:=Tryz.prog) w B t ty e i z 1 bytes ht hi hz hsize hby hzs (by decide) v n xs hown a 1 c [x] rfl hx (by simpa using h1) hn hb hB;refine ⟨v',w',hr,h2,?_,h3⟩
 rcases hown.2 with ⟨rfl,rfl⟩|⟨g,cap,cur,rfl,hbg,hg,hnc,hcm,hcs,htk⟩
 · exact ⟨hown.1,Or.inl ⟨rfl,rfl⟩⟩
 · by_cases hroom:n+1≤cap
   · have hr2:=run_append_room (P:=Tryz.prog) w t ty e i ht hi g n cap cur hg a 1 c [x] (by rw [hsize];rfl) hx (by simpa using h1) hroom (by rw [hsize,hcs];simp;omega)
     rw [hr] at hr2;obtain ⟨_,rfl⟩:=Result.ok.inj hr2;refine ⟨hown.1,Or.inr ⟨g,cap,_,rfl,hbg,setRow_heap w g cur _ e _ hg,hnc,hcm,?_,?_⟩⟩
     · rw [hsize]
       simp only [List.size_toArray,List.length_append,List.length_take,List.length_drop,Array.length_toList,List.length_singleton];omega
     · rw [hsize]
       rw [Nat.mul_one] at htk ⊢
       have hl:(cur.toList.take n).length=n:=by
        rw [htk]
        have:=hown.1
        omega
       show List.take n (cur.toList.take n++[x]++_)=xs;rw [List.append_assoc,List.take_append_of_le_length (by omega),List.take_of_length_le (by omega),htk]
   · have hr2:=run_append_grow (P:=Tryz.prog) w t ty e i z ht hi hz ⟨g,0,none⟩ n cap xs (by rw [hsize];exact hown.1) (hown.cells (g:=g) rfl) a 1 c [x] (by rw [hsize];rfl) hx (by omega) (by unfold maxLen at hn;omega) (growslice_fits_wide (by omega) (by rw [hby];exact hb))
     rw [hr] at hr2;obtain ⟨_,rfl⟩:=Result.ok.inj hr2;exact hown.drew.alloc _
theorem EX {B:Nat} {wx:World} {n:Nat} {v:Value} {xs:List Value} {s0:ByteArray} {ops:Array Oper} {o:Oper} {f:Act} {K:Act→World→Prop} {Q:Exit→Act→World→Prop} {E:Prop}
 (hgd:o.guard=none) (s t:Operand) (ho:o.op= .call { callee:= .builtin .append,args:= #[s,t],argTypes:= #[50,50] }) (hs:f.eval s=v)
 (hown:wx.ownsRow B 9 1 v n xs) (hB:B≤wx.heap.size) {M:Nat} (hM:wx.heap.size=M) (hx:f.eval t= .slice (some ⟨M,0,none⟩) 1 1) (hb:((n+1)+(n+1) / 4+192)*16≤281474976710656)
 (h:∀ v1 w1,w1.ownsRow B 9 1 v1 (n+1) (xs++[.string s0])→w1.ownsRow B 9 1 v n xs→(wx.alloc (.cells #[.string s0] 9)).grownBy w1 v.ownBlock→K (f.put o.dst v1) w1):
 if Region.wanted o (yielded ops f.tmps)=true then Oper.wp Tryz.prog o f (wx.alloc (.cells #[.string s0] 9)) K Q else E:=by
 have hw:Region.wanted o (yielded ops f.tmps)=true:=by simp [Region.wanted,hgd]
 rw [if_pos hw];subst hM;obtain ⟨i0,hi,hz0,hz1,hz2⟩:=Sc.bO Sc.iO;obtain ⟨v1,w1,hr,h1,h2,h3⟩:=kL (wx.alloc (.cells #[.string s0] 9)) B 50 o.type 9 i0 _ 16 Tryz.underlying50 hi hz0 hz1 hz2 rfl v n xs (hown.alloc _) ⟨wx.heap.size,0,none⟩ 1 (.string s0) (cell_one_new _ _ _) rfl hb (by unfold maxLen;omega) (by simp;omega);unfold Oper.wp execOp;simp only [ho,resolve,invoke,builtin,Sem.run_bind,Sem.run_pure,Result.andThen_ok,List.map_toArray,List.map_cons,List.map_nil,hs,hx,hr];exact h v1 w1 h1 h2 h3
theorem JJ (w:World):(w.alloc (.cells #[] 9)).ownsRow w.heap.size 9 1 (.slice (some ⟨w.heap.size,0,none⟩) 0 0) 0 []:=
 ⟨rfl,Or.inr ⟨w.heap.size,0,#[],rfl,Nat.le_refl _,heap_alloc_new w _,Nat.le_refl _,Nat.zero_le _,rfl,rfl⟩⟩
theorem iE {B:Nat} {w w1:World} {own:Option Nat} (hg:w.grownBy w1 own) (h:∀ g,own=some g→B≤g) (hB:B≤w.heap.size):Below B w w1:=⟨hg.os,hg.tape,hg.output,hg.size,fun k hk=>hg.block k (by omega) (fun e=>by have:=h k e.symm;omega)⟩
theorem iF {w w' w1:World} {row:Option Nat} (hb:Below w.heap.size w w') (hg:w'.grownBy w1 row):w.grownBy w1 row:=
 ⟨hg.os.trans hb.os,hg.tape.trans hb.tape,hg.output.trans hb.output,Nat.le_trans hb.size hg.size,fun k hk hn=>(hg.block k (Nat.lt_of_lt_of_le hk hb.size) hn).trans (hb.block k hk)⟩
theorem TQ (w:World) (o:Obj):Below w.heap.size w (w.drew.alloc o):=(Below.refl _ _).drew.alloc (Nat.le_refl _) _
set_option maxHeartbeats 1600000 in
theorem zO {L:List ByteArray} {v:Value} {w:World} (h:PathAt w v L) (hl:(L.length+L.length / 4+192)*16≤281474976710656):Calls Tryz.prog 56 #[v] w fun e w'=>∃ v',e= .returned v'∧OwnPa w' w.heap.size v' L∧Below w.heap.size w w':=by
 obtain ⟨ad,cap,rfl,hcp,hc⟩:=h;cases ad with
 |none=>
  obtain rfl:L=[]:=by
   rcases hc with e|⟨_,_,q,_⟩
   · exact e
   · cases q
  rw [List.length_nil];have q0:∀ w,(binOp .eql 50 (.slice none 0 cap) (.slice none 0 0)).run Tryz.prog w= .ok (.bool true) w:=fun w=>run_eql_slice_nil w 50 9 none 0 cap Tryz.underlying50
  go_enter Tryz.func56,Tryz.ntmps56
  go_wp2
  go_ret;exact ⟨_,rfl,⟨rfl,Or.inl ⟨rfl,rfl⟩⟩,Below.refl _ _⟩
 |some a=>
  obtain ⟨g,o,sp⟩:=a
  have HNW:Hid (∀ j u,(pcs L)[j]? =some u→(w.alloc (.cells #[] 9)).cell? ((⟨g,o,sp⟩:Addr).add j)=some u):=fun j u hj=>by
   rcases hc with e|⟨g',o',q,hs⟩
   · subst e;simp [pcs] at hj
   · cases q
     exact EW (fun i hi=>(hs i hi).below (aD w (.cells #[] 9))) j u hj
  have HRW:=aB (JJ w);have q0:∀ w,(binOp .eql 50 (.slice (some ⟨g,o,sp⟩) L.length cap) (.slice none 0 0)).run Tryz.prog w= .ok (.bool false) w:=fun w=>run_eql_slice_nil w 50 9 (some ⟨g,o,sp⟩) L.length cap Tryz.underlying50
  clear hc;obtain ⟨i0,hi,hz0,hz1,hz2⟩:=Sc.bO Sc.iO
  go_enter Tryz.func56,Tryz.ntmps56
  go_wp2_with (at_builtin;refine wpList_append_own_wide _ rfl (.tmp 5) (.tmp 6) 50 rfl w.heap.size 9 i0 _ 1 16 Tryz.underlying50 hi hz0 hz1 hz2 rfl (by decide) _ 0 [] rfl HRW.out ⟨g,o,sp⟩ L.length cap (pcs L) rfl (by rw [jL];omega) HNW.out (NS L) (by unfold maxLen;omega) (by rw [Nat.zero_add];omega) (by simp) ?_;intro v1 w1 ho hgr _;have HO:Hid (OwnPa w1 w.heap.size v1 L):=(by have e:=ho;rw [Nat.zero_add,List.nil_append] at e;exact e);have HB:Hid (Below w.heap.size w w1):=(aD w (.cells #[] 9)).trans (iE (B:=w.heap.size) hgr (fun g e=>by cases e;exact Nat.le_refl _) (by simp));clear ho hgr)
  go_ret;exact ⟨_,rfl,HO.out,HB.out⟩
def FitP1 (L:List Dr):Prop:=∀ d ∈ L,d.pa.length*16≤140737488355328
theorem FitP1.fit {L:List Dr} (h:FitP1 L):FitD L:=fun d hd=>by have:=h d hd;omega
theorem vK {L:List Dr} {k:Nat} {s:ByteArray} (hk:k<L.length) (hn:Sc.aG s.data.toList=true):bE L (k:Int) s=dU L L[k].pa s L[k].pa.length:=by
 unfold bE;rw [dif_pos ⟨by omega,by simpa using hk,hn⟩];rfl
theorem rN {L:List Dr} {f:Int} {s:ByteArray} (h:¬ (0≤f∧f.toNat<L.length∧Sc.aG s.data.toList=true)):bE L f s= -1:=by
 unfold bE;rw [dif_neg h]
theorem vL (L:List ByteArray) (s:ByteArray):pcs (L++[s])=pcs L++[.string s]:=by simp [pcs]
set_option maxHeartbeats 3200000 in
theorem EY {L:List Dr} {v:Value} {w:World} (h:DirsAt w v L) (hz:L.length≤9223372036854775807) (hf:FitP1 L) {k:Nat} (hk:k<L.length) (s:ByteArray) (hn:Sc.aG s.data.toList=true):
 Calls Tryz.prog 17 #[.agg #[v],.int .i64 k,.string s] w fun e w'=>e= .returned (.int .i64 (bE L k s))∧Below w.heap.size w w':=by
 have HN:Hid (∀ w1,Calls Tryz.prog 53 #[.string s] w1 fun e w'=>e= .returned (.bool true)∧w'=w1):=fun w1=>by have:=Sc.cT s w1;rw [hn] at this;exact this
 have HV:=aB (vK (L:=L) hk hn);have hfk:=hf _ (List.getElem_mem hk);have HFI:Hid (∀ w1,Below w.heap.size w w1→∀ vp p,PathAt w1 vp p→Calls Tryz.prog 57 #[.agg #[v],vp] w1 fun e w'=>e= .returned (.int .i64 (bD L p))∧Below w1.heap.size w1 w'):=fun w1 hb vp p hp=>lL (h.below hb) hz hf.fit hp
 obtain ⟨ad,cap,rfl,hc,hsl⟩:=h.sl;obtain ⟨g,o,rfl,u,v1,v2,v3,⟨c0,c1,c2,c3,c4,c5,c6,c7,c8⟩,⟨hpa,hpk⟩,hg⟩:=hsl k hk;have HCL:Hid (∀ w1,Below w.heap.size w w1→Calls Tryz.prog 56 #[u] w1 fun e w'=>∃ v',e= .returned v'∧OwnPa w' w1.heap.size v' L[k].pa∧Below w1.heap.size w1 w'):=fun w1 hb=>zO (hpa.below hb) (by omega)
 obtain ⟨ua,uc,rfl⟩:=hpa.sl;clear c1 c2 c3 c4 c5 c6 c7 c8 hpk hpa h hsl;generalize L[k].pa=p at*;have HFR:Hid (∀ q,bD L q= -1∨0≤bD L q):=fun q=>by have:=iD L q;omega
 clear hn hf;have c0':(w.alloc (.cells #[.slice (some ⟨g,o,none⟩) L.length cap] 30)).cell? ⟨g,o+k*9,none⟩=some (.slice ua p.length uc):=((aD w (.cells #[.slice (some ⟨g,o,none⟩) L.length cap] 30)).cell (p:=⟨g,o+k*9,none⟩) hg).trans c0
 go_enter Tryz.func17,Tryz.ntmps17
 go_wp2_with (first
  |(go_at_call 53;refine (HN.out _).mono ?_;rintro e w1 ⟨rfl,rfl⟩)
  |(go_at_call 56;refine (HCL.out _ (aD _ _)).mono ?_;rintro e w2 ⟨vc,rfl,hoc,hb2⟩;have HO2:Hid (OwnPa w2 (w.heap.size+1) vc p):=(by have e:=hoc;rw [show (w.alloc (.cells #[.slice (some ⟨g,o,none⟩) L.length cap] 30)).heap.size=w.heap.size+1 by simp] at e;exact e);have HB2:Hid (Below w.heap.size w w2∧BxT w2 w.heap.size (.slice (some ⟨g,o,none⟩) L.length cap)):=⟨aA (aD _ _) hb2,cE _ _ _ _ (BxT.new _ _) hb2⟩;clear hoc hb2))
 clear c0' c0;have HPT:Hid (p.take p.length=p):=List.take_length
 go_loopw [7] (fun vl wr=>∃ j:Nat,j≤p.length∧(∃ a c,vl= .slice a j c∧j≤c)∧OwnPa wr (w.heap.size+1) vl (p.take j)∧(Below w.heap.size w wr∧BxT wr w.heap.size (.slice (some ⟨g,o,none⟩) L.length cap))∧dU L p s p.length=dU L p s j) (fun vl _=>match vl with| .slice _ n _=>n|_=>0)
 case atStart=>
  obtain ⟨a,c,e,hac⟩:=HO2.out.form;exact ⟨p.length,Nat.le_refl _,⟨a,c,e,hac⟩,by rw [HPT.out];exact HO2.out,HB2.out,rfl⟩
 case round=>
  obtain ⟨j,hj,⟨a,c,rfl,hac⟩,hown,⟨hb,bx0,bx1⟩,hst⟩:=hrel;have hpl:(p.take j).length=j:=by rw [List.length_take];omega
  have HOW:Hid (wr.ownsRow (w.heap.size+1) 9 1 (.slice a j c) j (pcs (p.take j))):=(by have e:=hown;unfold OwnPa at e;rw [hpl] at e;exact e);have HB:=aB hb;have HST:=aB hst;have hBr:w.heap.size+1≤wr.heap.size:=bx1;have HBX:Hid (BxT wr w.heap.size (.slice (some ⟨g,o,none⟩) L.length cap)):=⟨bx0,bx1⟩;have HNE:Hid (some w.heap.size≠(Value.slice a j c).ownBlock):=fun e=>by have:=(World.ownsRow.lt HOW.out _ e.symm).1;omega
  have HAF:Hid (∀ v5 w5,w5.ownsRow (w.heap.size+1) 9 1 v5 (j+1) (pcs (p.take j)++[.string s])→w5.ownsRow (w.heap.size+1) 9 1 (.slice a j c) j (pcs (p.take j))→wr.grownBy w5 (Value.slice a j c).ownBlock→(PathAt w5 v5 (p.take j++[s])∧OwnPa w5 (w.heap.size+1) (.slice a j c) (p.take j))∧Below w.heap.size w w5∧BxT w5 w.heap.size (.slice (some ⟨g,o,none⟩) L.length cap)):=fun v5 w5 h1 h2 h3=>by
   refine ⟨⟨OwnPa.at (B:=w.heap.size+1) ?_,?_⟩,HB.out.grown h3 HB.out.size (fun q hq=>by have:=(World.ownsRow.lt HOW.out q hq).1;omega),h3.cell HBX.out.1 HNE.out,Nat.lt_of_lt_of_le HBX.out.2 h3.size⟩
   · unfold OwnPa
     rw [vL,List.length_append,hpl];exact h1
   · unfold OwnPa
     rw [hpl];exact h2
  have hwide:((j+1)+(j+1) / 4+192)*16≤281474976710656:=by omega
  clear hown hb hst;have HFC:Hid (∀ w5 v5,Below w.heap.size w w5→PathAt w5 v5 (p.take j++[s])→Calls Tryz.prog 57 #[.agg #[.slice (some ⟨g,o,none⟩) L.length cap],v5] w5 fun e w'=>e= .returned (.int .i64 (bD L (p.take j++[s])))∧Below w5.heap.size w5 w'):=fun w5 v5 hb hp=>HFI.out w5 hb v5 _ hp
  have HHIT:Hid (0≤bD L (p.take j++[s])→dU L p s p.length=bD L (p.take j++[s])):=fun h=>by rw [HST.out];exact kK (by omega)
  have HEND:Hid (j=0→dU L p s p.length=bD L (p.take j++[s])):=fun h=>by rw [HST.out];subst h;rfl
  have HGO:Hid (∀ i,j=i+1→bD L (p.take j++[s])= -1→dU L p s p.length=dU L p s i):=fun i h h2=>by rw [HST.out];subst h;exact iR h2
  have HOC:Hid (∀ w6,OwnPa w6 (w.heap.size+1) (.slice a j c) (p.take j)→∀ i,i≤j→OwnPa w6 (w.heap.size+1) (.slice a i c) (p.take i)):=fun w6 ho i hi=>by
   have:=ho.cut hi
   rw [List.take_take,Nat.min_eq_left hi] at this;exact this
  have HFJ:=aB (HFR.out (p.take j++[s]));generalize bD L (p.take j++[s])=f at*;clear hpl
  go_wp2_with fail
  go_region_held3 (fun w'=>w'.cell? ⟨w.heap.size,0,none⟩=some (.slice (some ⟨g,o,none⟩) L.length cap)) (go_keep) (first
   |(refine EX (B:=w.heap.size+1) (M:=wr.heap.size) (wx:=wr.drew) (v:= .slice a j c) (s0:=s) rfl (.tmp 36) (.tmp 38) rfl rfl HOW.out.drew hBr rfl rfl hwide ?_;intro v5 w5 h1 h2 h3;have HP5:=aB (HAF.out v5 w5 h1 h2 (iF (TQ _ _) h3));have b5:=HP5.out.2.2.1;clear h1 h2 h3)
   |(have _h:=HP5;go_at_call 57;refine (HFC.out _ _ HP5.out.2.1 HP5.out.1.1).mono ?_;rintro e w6 ⟨rfl,ok⟩;have HP6:Hid (OwnPa w6 (w.heap.size+1) (.slice a j c) (p.take j)∧Below w.heap.size w w6∧BxT w6 w.heap.size (.slice (some ⟨g,o,none⟩) L.length cap)):=⟨HP5.out.1.2.below ok,aA HP5.out.2.1 ok,cE _ _ _ _ HP5.out.2.2 ok⟩;have b6:=HP6.out.2.2.1;clear ok))
  all_goals clear HFC HAF HNE HOW
  all_goals rcases HFJ.out with hm|hge
  all_goals first
   |(have HR:=aB (HHIT.out hge)
     go_wp2
     go_ret;exact ⟨bP (by rw [HV.out,HR.out]),HP6.out.2.1⟩)
   |(rcases Nat.eq_zero_or_pos j with h0|h0
     · have HR:=aB (HEND.out h0)
       subst hm;subst h0
       go_wp2
       go_ret;exact ⟨bP (by rw [HV.out,HR.out]),HP6.out.2.1⟩
     · obtain ⟨i,rfl⟩:∃ i,j=i+1:=⟨j - 1,by omega⟩
       have HR:=aB (HGO.out i rfl hm);have HO7:=aB (HOC.out _ HP6.out.1 i (by omega));have hic:i≤c:=by omega
       subst hm;clear HGO HEND HHIT HFJ
       go_wp2
       exact ⟨⟨i,by omega,⟨a,c,rfl,hic⟩,HO7.out,HP6.out.2,HR.out⟩,by simp⟩)
theorem NT {L:List Dr} {v:Value} {w:World} (h:DirsAt w v L) (f:Int) (s:ByteArray) (hno:¬ (0≤f∧f.toNat<L.length∧Sc.aG s.data.toList=true)):
 Calls Tryz.prog 17 #[.agg #[v],.int .i64 f,.string s] w fun e w'=>e= .returned (.int .i64 (bE L f s))∧Below w.heap.size w w':=by
 have HV:=aB (rN hno);have HN:Hid (∀ w1,Calls Tryz.prog 53 #[.string s] w1 fun e w'=>e= .returned (.bool (Sc.aG s.data.toList))∧w'=w1):=Sc.cT s;obtain ⟨ad,cap,rfl,hc,hsl⟩:=h.sl;clear h hsl
 by_cases h1:f<0
 · clear hno
   go_enter Tryz.func17,Tryz.ntmps17
   go_wp2
   go_ret;exact ⟨bP HV.out.symm,aD _ _⟩
 · by_cases h2:(L.length:Int)≤f
   · clear hno
     go_enter Tryz.func17,Tryz.ntmps17
     go_wp2
     go_ret;exact ⟨bP HV.out.symm,aD _ _⟩
   · have hnn:Sc.aG s.data.toList=false:=by
      cases hx:Sc.aG s.data.toList with
      |false=>rfl
      |true=>exact absurd ⟨by omega,by omega,hx⟩ hno
     rw [hnn] at HN;clear hno hnn;have h3:f<(L.length:Int):=by omega
     have h4:0≤f:=by omega
     go_enter Tryz.func17,Tryz.ntmps17
     go_wp2_with (go_at_call 53;refine (HN.out _).mono ?_;rintro e w1 ⟨rfl,rfl⟩)
     go_ret;exact ⟨bP HV.out.symm,aD _ _⟩
theorem vM {L:List Dr} {v:Value} {w:World} (h:DirsAt w v L) (hz:L.length≤9223372036854775807) (hf:FitP1 L) (f:Int) (s:ByteArray):
 Calls Tryz.prog 17 #[.agg #[v],.int .i64 f,.string s] w fun e w'=>e= .returned (.int .i64 (bE L f s))∧Below w.heap.size w w':=by
 by_cases hh:0≤f∧f.toNat<L.length∧Sc.aG s.data.toList=true
 · obtain ⟨k,rfl⟩:∃ k:Nat,f=k:=⟨f.toNat,by omega⟩
   exact EY h hz hf (by simpa using hh.2.1) s hh.2.2
 · exact NT h f s hh
end Go.Proofs.YtlmpiohbmlddiaaGreatDoor
