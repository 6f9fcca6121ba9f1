/- Pk1, Pk2, Rd0, Ct0, Srt, Gd0, Ps1, Tw1, ScLi1, ScNm1: their declarations that are needed, laid in one text, remarks and blanks left out. -/
import Derived.OneCell
import Derived.Shelf.SlSortCmp.NoneTotal
import Derived.Sort.OwnSorted
import Derived.Test.YtmnhnofnlcbliaaGreatDoorMg06
namespace Go.Proofs.YtmnhnofnlcbliaaGreatDoor
open Go.RowKit
set_option maxRecDepth 100000
noncomputable def eqB {α:Type} (x y:α):Bool:= @decide (x=y) (Classical.propDecidable _)
theorem aX {α:Type} {x y:α} (h:x=y):eqB x y=true:=by unfold eqB;exact @decide_eq_true _ (Classical.propDecidable _) h
theorem bX {α:Type} {x y:α} (h:x≠y):eqB x y=false:=by unfold eqB;exact @decide_eq_false _ (Classical.propDecidable _) h
theorem eW {α:Type} {x y:α}:eqB x y=true↔x=y:=⟨fun h=>by unfold eqB at h;exact @of_decide_eq_true _ (Classical.propDecidable _) h,aX⟩
theorem WA (p q r p' q' r':Int) (w:World):(Op.equalIn 9999 52 (.agg #[.int .i64 p,.int .i64 q,.int .i64 r]) (.agg #[.int .i64 p',.int .i64 q',.int .i64 r'])).run Tryz.prog w= .ok (decide (p=p')&&decide (q=q')&&decide (r=r')) w:=by
 have u3:=Tryz.underlying3;have a3:=Tryz.isAgg3;have z3:=Tryz.sizeOf3;rw [show (9999:Nat)=9998+1 from rfl,run_equalIn_agg w 9998 52 _ _ (by kernel_rfl) (by kernel_rfl)];simp only [Program.fieldsOf,Tryz.underlying52]
 by_cases h1:p=p'
 · by_cases h2:q=q'
   · by_cases h3:r=r'
     · subst h1 h2 h3;go_simp
     · subst h1 h2;simp only [h3,decide_false,Bool.and_false];go_simp
   · subst h1;simp only [h2,decide_false,Bool.and_false,Bool.false_and];go_simp
 · simp only [h1,decide_false,Bool.false_and];go_simp
theorem Ee (p q r p' q' r':Int) (w:World):(binOp .eql 52 (.agg #[.int .i64 p,.int .i64 q,.int .i64 r]) (.agg #[.int .i64 p',.int .i64 q',.int .i64 r'])).run Tryz.prog w= .ok (.bool (decide (p=p')&&decide (q=q')&&decide (r=r'))) w:=by
 have u3:=Tryz.underlying3;have a3:=Tryz.isAgg3;have z3:=Tryz.sizeOf3;rw [run_eql_struct,show (10000:Nat)=9999+1 from rfl,run_equalIn_agg w 9999 52 _ _ (by kernel_rfl) (by kernel_rfl)];simp only [Program.fieldsOf,Tryz.underlying52]
 by_cases h1:p=p'
 · by_cases h2:q=q'
   · by_cases h3:r=r'
     · subst h1 h2 h3;go_simp
     · subst h1 h2;simp only [h3,decide_false,Bool.and_false];go_simp
   · subst h1;simp only [h2,decide_false,Bool.and_false,Bool.false_and];go_simp
 · simp only [h1,decide_false,Bool.false_and];go_simp
def eqS (s t:Sp):Bool:=decide (s.a=t.a)&&decide (s.b=t.b)&&decide (s.c=t.c)&&(decide (s.x=t.x)&&decide (s.y=t.y)&&decide (s.z=t.z))
theorem nE {s t:Sp}:eqS s t=true↔s=t:=by
 obtain ⟨a,b,c,x,y,z⟩:=s;obtain ⟨a',b',c',x',y',z'⟩:=t;unfold eqS;simp only [Bool.and_eq_true,decide_eq_true_eq,Sp.mk.injEq];exact ⟨fun ⟨⟨⟨h1,h2⟩,h3⟩,⟨h4,h5⟩,h6⟩=>⟨h1,h2,h3,h4,h5,h6⟩,fun ⟨h1,h2,h3,h4,h5,h6⟩=>⟨⟨⟨h1,h2⟩,h3⟩,⟨h4,h5⟩,h6⟩⟩
theorem WB (a b c x y z a' b' c' x' y' z':Int) (w:World):(binOp .neq 210 (.agg #[.int .i64 a,.int .i64 b,.int .i64 c,.int .i64 x,.int .i64 y,.int .i64 z]) (.agg #[.int .i64 a',.int .i64 b',.int .i64 c',.int .i64 x',.int .i64 y',.int .i64 z'])).run Tryz.prog w= .ok (.bool (!(eqS ⟨a,b,c,x,y,z⟩ ⟨a',b',c',x',y',z'⟩))) w:=by
 have av:=Tryz.isAgg52;have zv:=Tryz.sizeOf52;have h1:=WA a b c a' b' c' w;have h2:=WA x y z x' y' z' w;rw [run_neq_struct,show (10000:Nat)=9999+1 from rfl,run_equalIn_agg w 9999 210 _ _ (by kernel_rfl) (by kernel_rfl)];simp only [Program.fieldsOf,Tryz.underlying210];cases hq:eqS ⟨a,b,c,x,y,z⟩ ⟨a',b',c',x',y',z'⟩
 · have hn:¬ (a=a'∧b=b'∧c=c'∧x=x'∧y=y'∧z=z'):=by
    rintro ⟨rfl,rfl,rfl,rfl,rfl,rfl⟩;rw [nE.2 rfl] at hq;cases hq
   go_simp;intro e1 e2 e3 e4 e5 e6;exact hn ⟨e1,e2,e3,e4,e5,e6⟩
 · obtain ⟨rfl,rfl,rfl,rfl,rfl,rfl⟩:=Sp.mk.injEq .. ▸ nE.1 hq
   go_simp
set_option maxHeartbeats 1600000 in
theorem KT (A B:List Sp) (hAB:A.length=B.length) (hsz:A.length≤9223372036854775807) (ga oa ca gb ob cb:Nat) (w:World) (hga:ga<w.heap.size) (hgb:gb<w.heap.size) (hla:∀ i (h:i<A.length),SpAt w ga (oa+i*6) A[i]) (hlb:∀ i (h:i<B.length),SpAt w gb (ob+i*6) B[i]):
 Calls Tryz.prog 243 #[.slice (some ⟨ga,oa,none⟩) A.length ca,.slice (some ⟨gb,ob,none⟩) B.length cb] w fun e w'=>e= .returned (.bool (eqB A B))∧Below w.heap.size w w':=by
 have HL:Hid (∀ w1,Below w.heap.size w w1→∀ i (h:i<A.length) (h2:i<B.length),oC w1 ga (oa+i*6) A[i]∧oC w1 gb (ob+i*6) B[i]):=fun w1 hb i hi hi2=>⟨⟨(hla i hi).below hb hga,Nat.lt_of_lt_of_le hga hb.size⟩,⟨(hlb i hi2).below hb hgb,Nat.lt_of_lt_of_le hgb hb.size⟩⟩
 have HAB:=aB hAB;clear hla hlb;rw [←hAB];clear hAB
 go_enter Tryz.func243,Tryz.ntmps243
 go_wp2_with fail
 go_loopw [13] (fun i wr=>∃ k:Nat,k≤A.length∧i= .int .i64 k∧Below w.heap.size w wr∧∀ j (h:j<k) (h1:j<A.length) (h2:j<B.length),A[j]=B[j]) (fun i _=>A.length - (intOf i).toNat)
 case atStart=>exact ⟨0,Nat.zero_le _,rfl,Below.refl _ _,fun j h=>by omega⟩
 case round=>
  obtain ⟨k,hk,rfl,hb,hall⟩:=hrel;have HALL:=aB hall;have HB:=aB hb;clear hall
  by_cases hlt:k<A.length
  · have hltB:k<B.length:=HAB.out ▸ hlt
    have HO:Hid (Below w.heap.size w wr∧oC wr ga (oa+k*6) A[k]∧oC wr gb (ob+k*6) B[k]):=⟨hb,HL.out wr hb k hlt hltB⟩;have HK:Hid (KeepP fun w1=>Below w.heap.size w w1∧oC w1 ga (oa+k*6) A[k]∧oC w1 gb (ob+k*6) B[k]):=(aG w).and ((rF _ _ _).and (rF _ _ _));have HNE:Hid (eqS A[k] B[k]=false→eqB A B=false):=fun h=>bX fun e=>by subst e;rw [(nE).2 rfl] at h;cases h
    have HST:Hid (eqS A[k] B[k]=true→∀ j (h:j<k+1) (h1:j<A.length) (h2:j<B.length),A[j]=B[j]):=fun h j hj h1 h2=>by
     rcases Nat.lt_or_ge j k with hjk|hjk
     · exact HALL.out j hjk h1 h2
     · obtain rfl:j=k:=by omega
       exact nE.1 h
    generalize A[k]=s at*;generalize B[k]=t at*;obtain ⟨a,b,c,x,y,z⟩:=s;obtain ⟨a',b',c',x',y',z'⟩:=t;have he:=WB a b c x y z a' b' c' x' y' z';have hgd:=OZ;cases hq:eqS ⟨a,b,c,x,y,z⟩ ⟨a',b',c',x',y',z'⟩
    · have HR:=aB (HNE.out hq)
      rw [hq] at he;clear hb HNE HST HALL
      go_wp2_with fail
      refine cE HK (by kernel_rfl) (by kernel_rfl) (by first|exact HO.out|exact HK.out.drew HO.out) ?_;intro C HIN HOUT;clear HO
      repeat
       (with_reducible refine wpQuiet_step (fun K hK=> ?_)
        go_simp
        first
         |(refine hK _ ?_;clear hK K)
         |(apply Exists.intro;refine ⟨fun w1 hC=> ?_,hK _ ?_⟩;(focus ((first|(exact rfl)|(obtain ⟨hb1,⟨⟨p0,p1,p2,p3,p4,p5⟩,p6⟩,⟨⟨q0,q1,q2,q3,q4,q5⟩,q6⟩⟩:=HOUT.out w1 hC;clear hC;go_simp;first|done|exact rfl));done));clear hK K))
      refine wpQuiet_nil ?_;intro wn hC;have HO:=aB (HOUT.out _ hC);clear hC HIN HOUT C;obtain ⟨hb1,⟨⟨p0,p1,p2,p3,p4,p5⟩,p6⟩,⟨⟨q0,q1,q2,q3,q4,q5⟩,q6⟩⟩:=HO.out
      go_wp2
      go_ret;exact ⟨aD HR.out.symm,HO.out.1⟩
    · have HR:=aB (HST.out hq)
      rw [hq] at he;clear hb HNE HST HALL
      go_wp2_with fail
      refine cE HK (by kernel_rfl) (by kernel_rfl) (by first|exact HO.out|exact HK.out.drew HO.out) ?_;intro C HIN HOUT;clear HO
      repeat
       (with_reducible refine wpQuiet_step (fun K hK=> ?_)
        go_simp
        first
         |(refine hK _ ?_;clear hK K)
         |(apply Exists.intro;refine ⟨fun w1 hC=> ?_,hK _ ?_⟩;(focus ((first|(exact rfl)|(obtain ⟨hb1,⟨⟨p0,p1,p2,p3,p4,p5⟩,p6⟩,⟨⟨q0,q1,q2,q3,q4,q5⟩,q6⟩⟩:=HOUT.out w1 hC;clear hC;go_simp;first|done|exact rfl));done));clear hK K))
      refine wpQuiet_nil ?_;intro wn hC;have HO:=aB (HOUT.out _ hC);clear hC HIN HOUT C;obtain ⟨hb1,⟨⟨p0,p1,p2,p3,p4,p5⟩,p6⟩,⟨⟨q0,q1,q2,q3,q4,q5⟩,q6⟩⟩:=HO.out
      go_wp2
      exact ⟨⟨k+1,by omega,by go_num,HO.out.1,HR.out⟩,by simp [intOf];omega⟩
  · have hke:k=A.length:=by omega
    subst hke;have HR:Hid (eqB A B=true):=aX (List.ext_getElem HAB.out fun j h1 h2=>HALL.out j h1 h1 h2);clear hb
    go_wp2
    go_ret;exact ⟨aD HR.out.symm,HB.out⟩
theorem zF (ad bd:Option Addr) (ca cb:Nat) (w:World):
 Calls Tryz.prog 243 #[.slice ad 0 ca,.slice bd 0 cb] w fun e w'=>e= .returned (.bool true)∧Below w.heap.size w w':=by
 go_enter Tryz.func243,Tryz.ntmps243
 go_wp2_with fail
 go_loop [13] (fun i=>i= .int .i64 0) (fun _=>0)
 case atStart=>rfl
 case round=>
  subst hrel
  go_wp2
  go_ret;exact ⟨rfl,Below.refl _ _⟩
theorem RY (ad bd:Option Addr) (n m ca cb:Nat) (h:n≠m) (w:World):
 Calls Tryz.prog 243 #[.slice ad n ca,.slice bd m cb] w fun e w'=>e= .returned (.bool false)∧Below w.heap.size w w':=by
 have hn:((n:Int)=(m:Int))=False:=by simp;omega
 go_enter Tryz.func243,Tryz.ntmps243
 go_wp2
 go_ret;exact ⟨rfl,Below.refl _ _⟩
theorem RZ {A B:List Sp} {va vb:Value} {w:World} (ha:SpansAt w va A) (hb:SpansAt w vb B) (hsz:A.length≤9223372036854775807):
 Calls Tryz.prog 243 #[va,vb] w fun e w'=>e= .returned (.bool (eqB A B))∧Below w.heap.size w w':=by
 obtain ⟨ad,ca,rfl,hl⟩:=ha;obtain ⟨bd,cb,rfl,hm⟩:=hb
 by_cases hn:A.length=B.length
 · rcases hl with rfl|⟨ga,oa,rfl,hga,hla⟩
   · obtain rfl:B=[]:=List.eq_nil_of_length_eq_zero (by simpa using hn.symm)
     rw [aX rfl];exact zF _ _ _ _ w
   · rcases hm with rfl|⟨gb,ob,rfl,hgb,hlb⟩
     · obtain rfl:A=[]:=List.eq_nil_of_length_eq_zero (by simpa using hn)
       rw [aX rfl];exact zF _ _ _ _ w
     · exact KT A B hn hsz ga oa ca gb ob cb w hga hgb hla hlb
 · rw [bX fun e=>hn (by rw [e])]
   exact RY _ _ _ _ _ _ hn w
structure Dp where
 nm:ByteArray
 rg:List Sp
theorem SpansAt.sl {w:World} {v:Value} {L:List Sp} (h:SpansAt w v L):∃ ad cap,v= .slice ad L.length cap:=by
 obtain ⟨ad,cap,rfl,_⟩:=h;exact ⟨ad,cap,rfl⟩
def DpIn (w:World) (g o:Nat) (d:Dp) (u:Value):Prop:=w.cell? ⟨g,o,none⟩=some (.string d.nm)∧w.cell? ⟨g,o+1,none⟩=some u∧(SpansC w u d.rg∧d.rg.length≤9223372036854775807)∧g<w.heap.size
def DepsAt (w:World) (v:Value) (L:List Dp):Prop:=∃ ad cap,v= .slice ad L.length cap∧L.length≤cap∧(L=[]∨∃ g o,ad=some ⟨g,o,none⟩∧g<w.heap.size∧∀ i (h:i<L.length),∃ u,DpIn w g (o+i*2) L[i] u)
theorem DpIn.below {w w':World} {g o:Nat} {d:Dp} {u:Value} (h:DpIn w g o d u) (hb:Below w.heap.size w w'):DpIn w' g o d u:=
 ⟨(hb.cell (p:=⟨g,o,none⟩) h.2.2.2).trans h.1,(hb.cell (p:=⟨g,o+1,none⟩) h.2.2.2).trans h.2.1,⟨⟨h.2.2.1.1.1.below hb,h.2.2.1.1.2⟩,h.2.2.1.2⟩,Nat.lt_of_lt_of_le h.2.2.2 hb.size⟩
theorem WC (g o:Nat) (d:Dp) (u:Value):KeepP fun w1=>DpIn w1 g o d u:=fun _ _ h hb=>h.below hb
theorem DepsAt.below {w w':World} {v:Value} {L:List Dp} (h:DepsAt w v L) (hb:Below w.heap.size w w'):DepsAt w' v L:=by
 obtain ⟨ad,cap,hv,hc,hl⟩:=h;refine ⟨ad,cap,hv,hc,hl.imp id ?_⟩;rintro ⟨g,o,ha,hg,hs⟩;exact ⟨g,o,ha,Nat.lt_of_lt_of_le hg hb.size,fun i hi=>(hs i hi).imp fun u hu=>hu.below hb⟩
theorem WD (v:Value) (L:List Dp):KeepP fun w1=>DepsAt w1 v L:=fun _ _ h hb=>h.below hb
def BxD (w:World) (N:Nat) (s:ByteArray) (u:Value):Prop:=w.cell? ⟨N,0,none⟩=some (.string s)∧w.cell? ⟨N,1,none⟩=some u∧N<w.heap.size
theorem PA (N:Nat) (s:ByteArray) (u:Value):KeepP fun w1=>BxD w1 N s u:=fun _ _ h hb=>
 ⟨(hb.cell (p:=⟨N,0,none⟩) h.2.2).trans h.1,(hb.cell (p:=⟨N,1,none⟩) h.2.2).trans h.2.1,Nat.lt_of_lt_of_le h.2.2 hb.size⟩
theorem BxD.new {w:World} {N:Nat} (hN:w.heap.size=N) (s:ByteArray) (u:Value):BxD (w.alloc (.cells #[.string s,u] 170)) N s u:=by
 subst hN;exact ⟨by simp,by simp,by simp⟩
theorem EU {d e:Dp} {u v:Value} {w:World} (hu:SpansAt w u d.rg) (hv:SpansAt w v e.rg) (hsz:d.rg.length≤9223372036854775807):
 Calls Tryz.prog 208 #[.agg #[.string d.nm,u],.agg #[.string e.nm,v]] w fun x w'=>x= .returned (.bool (eqB d e))∧Below w.heap.size w w':=by
 have HE:Hid (∀ w1,Below w.heap.size w w1→Calls Tryz.prog 243 #[u,v] w1 fun x w'=>x= .returned (.bool (eqB d.rg e.rg))∧Below w1.heap.size w1 w'):=fun w1 h=>RZ (hu.below h) (hv.below h) hsz
 obtain ⟨n,r⟩:=d;obtain ⟨m,q⟩:=e
 simp only at HE
 obtain ⟨ad,ca,rfl,_⟩:=hu;obtain ⟨bd,cb,rfl,_⟩:=hv;clear hsz
 simp only at HE
 by_cases hn:n=m
 · subst hn
   have HR:Hid (eqB (⟨n,r⟩:Dp) ⟨n,q⟩=eqB r q):=by
    unfold Hid
    by_cases h:r=q
    · rw [aX h,aX (by rw [h])]
    · rw [bX h,bX (fun e=>h (by injection e))]
   generalize eqB r q=b at*
   go_enter Tryz.func208,Tryz.ntmps208
   go_wp2_with (go_at_call 243;refine (HE.out _ (aS _ _ _)).mono ?_;rintro x w1 ⟨rfl,ok⟩)
   go_ret;exact ⟨aD HR.out.symm,aA (aS _ _ _) ok⟩
 · have HR:Hid (eqB (⟨n,r⟩:Dp) ⟨m,q⟩=false):=bX (fun e=>hn (by injection e))
   clear HE;have hl:(n.toList=m.toList)=False:=eq_false fun e=>hn (bC e)
   go_enter Tryz.func208,Tryz.ntmps208
   go_wp2
   go_ret;exact ⟨aD HR.out.symm,aS _ _ _⟩
set_option maxHeartbeats 1600000 in
theorem uZ (A B:List Dp) (hAB:A.length=B.length) (hsz:A.length≤9223372036854775807) (ga oa ca gb ob cb:Nat) (w:World) (hla:∀ i (h:i<A.length),∃ u,DpIn w ga (oa+i*2) A[i] u) (hlb:∀ i (h:i<B.length),∃ u,DpIn w gb (ob+i*2) B[i] u):
 Calls Tryz.prog 207 #[.slice (some ⟨ga,oa,none⟩) A.length ca,.slice (some ⟨gb,ob,none⟩) B.length cb,.func (.func 208) #[] #[]] w fun e w'=>e= .returned (.bool (eqB A B))∧Below w.heap.size w w':=by
 have HL:Hid (∀ w1,Below w.heap.size w w1→∀ i (h:i<A.length) (h2:i<B.length),(∃ u,DpIn w1 ga (oa+i*2) A[i] u)∧∃ u,DpIn w1 gb (ob+i*2) B[i] u):=fun w1 hb i hi hi2=>⟨(hla i hi).imp fun u h=>h.below hb,(hlb i hi2).imp fun u h=>h.below hb⟩
 have HAB:=aB hAB;clear hla hlb;rw [←hAB];clear hAB
 go_enter Tryz.func207,Tryz.ntmps207
 go_wp2_with fail
 go_loopw [17] (fun i wr=>∃ k:Nat,k≤A.length∧i= .int .i64 k∧Below w.heap.size w wr∧∀ j (h:j<k) (h1:j<A.length) (h2:j<B.length),A[j]=B[j]) (fun i _=>A.length - (intOf i).toNat)
 case atStart=>exact ⟨0,Nat.zero_le _,rfl,Below.refl _ _,fun j h=>by omega⟩
 case round=>
  obtain ⟨k,hk,rfl,hb,hall⟩:=hrel;have HALL:=aB hall;have HB:=aB hb;clear hall
  by_cases hlt:k<A.length
  · have hltB:k<B.length:=HAB.out ▸ hlt
    obtain ⟨⟨u,p0,p1,⟨⟨hu,_⟩,hz⟩,p3⟩,⟨v,q0,q1,⟨⟨hv,_⟩,_⟩,q3⟩⟩:=HL.out wr hb k hlt hltB;have HC:Hid (∀ w1,Below wr.heap.size wr w1→Calls Tryz.prog 208 #[.agg #[.string A[k].nm,u],.agg #[.string B[k].nm,v]] w1 fun x w'=>x= .returned (.bool (eqB A[k] B[k]))∧Below w1.heap.size w1 w'):=fun w1 h=>EU (hu.below h) (hv.below h) hz
    have HNE:Hid (eqB A[k] B[k]=false→eqB A B=false):=fun h=>bX fun e=>by subst e;rw [aX rfl] at h;cases h
    have HST:Hid (eqB A[k] B[k]=true→∀ j (h:j<k+1) (h1:j<A.length) (h2:j<B.length),A[j]=B[j]):=fun h j hj h1 h2=>by
     rcases Nat.lt_or_ge j k with hjk|hjk
     · exact HALL.out j hjk h1 h2
     · obtain rfl:j=k:=by omega
       exact eW.1 h
    obtain ⟨ad,ca,rfl⟩:=hu.sl;obtain ⟨bd,cb,rfl⟩:=hv.sl;clear hz hu hv;generalize A[k].rg.length=na at*;generalize B[k].rg.length=nb at*;generalize eqB A[k] B[k]=b at*;generalize A[k].nm=s at*;generalize B[k].nm=t at*;have q0':(wr.alloc (.cells #[.string s,.slice ad na ca] 170)).cell? ⟨gb,ob+k*2,none⟩=some (.string t):=((aC wr (.cells #[.string s,.slice ad na ca] 170)).cell (p:=⟨gb,ob+k*2,none⟩) q3).trans q0;have q1':(wr.alloc (.cells #[.string s,.slice ad na ca] 170)).cell? ⟨gb,ob+k*2+1,none⟩=some (.slice bd nb cb):=((aC wr (.cells #[.string s,.slice ad na ca] 170)).cell (p:=⟨gb,ob+k*2+1,none⟩) q3).trans q1;cases b
    · have HR:=aB (HNE.out rfl)
      clear hb HNE HST HALL
      go_wp2_with (go_at_call 208;refine (HC.out _ (aS _ _ _)).mono ?_;rintro x w1 ⟨rfl,ok⟩)
      go_ret;exact ⟨aD HR.out.symm,aA HB.out (aA (aS _ _ _) ok)⟩
    · have HR:=aB (HST.out rfl)
      clear hb HNE HST HALL
      go_wp2_with (go_at_call 208;refine (HC.out _ (aS _ _ _)).mono ?_;rintro x w1 ⟨rfl,ok⟩)
      exact ⟨⟨k+1,by omega,by go_num,aA HB.out (aA (aS _ _ _) ok),HR.out⟩,by simp [intOf];omega⟩
  · have hke:k=A.length:=by omega
    subst hke;have HR:Hid (eqB A B=true):=aX (List.ext_getElem HAB.out fun j h1 h2=>HALL.out j h1 h1 h2);clear hb
    go_wp2
    go_ret;exact ⟨aD HR.out.symm,HB.out⟩
theorem nX (ad bd:Option Addr) (ca cb:Nat) (w:World):
 Calls Tryz.prog 207 #[.slice ad 0 ca,.slice bd 0 cb,.func (.func 208) #[] #[]] w fun e w'=>e= .returned (.bool true)∧Below w.heap.size w w':=by
 go_enter Tryz.func207,Tryz.ntmps207
 go_wp2_with fail
 go_loop [17] (fun i=>i= .int .i64 0) (fun _=>0)
 case atStart=>rfl
 case round=>
  subst hrel
  go_wp2
  go_ret;exact ⟨rfl,Below.refl _ _⟩
theorem yD (ad bd:Option Addr) (n m ca cb:Nat) (h:n≠m) (w:World):
 Calls Tryz.prog 207 #[.slice ad n ca,.slice bd m cb,.func (.func 208) #[] #[]] w fun e w'=>e= .returned (.bool false)∧Below w.heap.size w w':=by
 have hn:((n:Int)=(m:Int))=False:=by simp;omega
 go_enter Tryz.func207,Tryz.ntmps207
 go_wp2
 go_ret;exact ⟨rfl,Below.refl _ _⟩
theorem yE {A B:List Dp} {va vb:Value} {w:World} (ha:DepsAt w va A) (hb:DepsAt w vb B) (hsz:A.length≤9223372036854775807):
 Calls Tryz.prog 207 #[va,vb,.func (.func 208) #[] #[]] w fun e w'=>e= .returned (.bool (eqB A B))∧Below w.heap.size w w':=by
 obtain ⟨ad,ca,rfl,_,hl⟩:=ha;obtain ⟨bd,cb,rfl,_,hm⟩:=hb
 by_cases hn:A.length=B.length
 · rcases hl with rfl|⟨ga,oa,rfl,hga,hla⟩
   · obtain rfl:B=[]:=List.eq_nil_of_length_eq_zero (by simpa using hn.symm)
     rw [aX rfl];exact nX _ _ _ _ w
   · rcases hm with rfl|⟨gb,ob,rfl,hgb,hlb⟩
     · obtain rfl:A=[]:=List.eq_nil_of_length_eq_zero (by simpa using hn)
       rw [aX rfl];exact nX _ _ _ _ w
     · exact uZ A B hn hsz ga oa ca gb ob cb w hla hlb
 · rw [bX fun e=>hn (by rw [e])]
   exact yD _ _ _ _ _ _ hn w
theorem BS {α:Type} {x y:α} {b:Bool} (h:x=y↔b=true):eqB x y=b:=by
 cases b
 · exact bX fun e=>by cases h.1 e
 · exact aX (h.2 rfl)
theorem DepsAt.sl {w:World} {v:Value} {L:List Dp} (h:DepsAt w v L):∃ ad cap,v= .slice ad L.length cap:=by
 obtain ⟨ad,cap,rfl,_⟩:=h;exact ⟨ad,cap,rfl⟩
theorem nF {A B:List Dp} {va vb:Value} {w:World} (ha:DepsAt w va A) (hb:DepsAt w vb B) (hsz:A.length≤9223372036854775807):
 Calls Tryz.prog 165 #[va,vb] w fun e w'=>e= .returned (.bool (eqB A B))∧Below w.heap.size w w':=by
 have HE:=aB (yE ha hb hsz);obtain ⟨ad,ca,rfl⟩:=ha.sl;obtain ⟨bd,cb,rfl⟩:=hb.sl;clear ha hb hsz
 go_enter Tryz.func165,Tryz.ntmps165
 go_wp2_with (go_at_call 207;refine HE.out.mono ?_;rintro x w1 ⟨rfl,ok⟩)
 go_ret;exact ⟨rfl,ok⟩
def fK (ps:List (Dp×Value)):List Value:=ps.flatMap fun p=>[.string p.1.nm,p.2]
theorem BT (ps:List (Dp×Value)) (p:Dp×Value):fK (ps++[p])=fK ps++[.string p.1.nm,p.2]:=by simp [fK]
theorem oH:∀ (ps:List (Dp×Value)) (i:Nat) (h:i<ps.length),(fK ps)[i*2]? =some (.string ps[i].1.nm)∧(fK ps)[i*2+1]? =some ps[i].2
 |[],i,h=>by simp at h
 |p::ps,0,_=>by simp [fK]
 |p::ps,i+1,h=>by
  have:=oH ps i (by simpa using h)
  have e:fK (p::ps)= .string p.1.nm::p.2::fK ps:=by simp [fK]
  rw [e,show (i+1)*2=i*2+1+1 by omega]
  simpa using this
def OwnD (w:World) (B:Nat) (v:Value) (ps:List (Dp×Value)):Prop:=w.ownsRow B 170 2 v ps.length (fK ps)∧∀ p ∈ ps,OwnS w B p.2 p.1.rg
theorem OwnD.nil (w:World) (B:Nat):OwnD w B (.slice none 0 0) []:=⟨⟨rfl,Or.inl ⟨rfl,rfl⟩⟩,fun p hp=>by cases hp⟩
theorem mK {w w':World} {B:Nat} {e:TypeId} {z:Nat} {v:Value} {n:Nat} {xs:List Value} (h:w.ownsRow B e z v n xs) (hk:∀ g,v.ownBlock=some g→w'.heap[g]? =w.heap[g]?):w'.ownsRow B e z v n xs:=by
 refine ⟨h.1,?_⟩
 rcases h.2 with hn|⟨g,cap,cur,rfl,hB,hgg,r⟩
 · exact Or.inl hn
 · exact Or.inr ⟨g,cap,cur,rfl,hB,(hk g rfl).trans hgg,r⟩
theorem zG {w w':World} {B:Nat} {e:TypeId} {z:Nat} {v:Value} {n:Nat} {xs:List Value} (h:w.ownsRow B e z v n xs) (hb:Below w.heap.size w w'):w'.ownsRow B e z v n xs:=mK h fun g hg=>hb.block g (h.lt g hg).2
theorem WE {w:World} {B C:Nat} {e:TypeId} {z:Nat} {v:Value} {n:Nat} {xs:List Value} (h:w.ownsRow B e z v n xs) (hc:C≤B):w.ownsRow C e z v n xs:=by
 refine ⟨h.1,?_⟩
 rcases h.2 with hn|⟨g,cap,cur,hv,hB,r⟩
 · exact Or.inl hn
 · exact Or.inr ⟨g,cap,cur,hv,Nat.le_trans hc hB,r⟩
theorem lI {w:World} {B B':Nat} {e e':TypeId} {z z':Nat} {v v':Value} {n n':Nat} {xs xs':List Value} (h:w.ownsRow B e z v n xs) (h':w.ownsRow B' e' z' v' n' xs') (hne:e≠e') {g:Nat} (hg:v.ownBlock=some g):v'.ownBlock≠some g:=by
 intro hg'
 rcases h.2 with ⟨rfl,_⟩|⟨g1,cap,cur,rfl,_,hgg,_⟩
 · cases hg
 · rcases h'.2 with ⟨rfl,_⟩|⟨g2,cap',cur',rfl,_,hgg',_⟩
   · cases hg'
   · cases hg
     cases hg';rw [hgg] at hgg';injection hgg' with e1
     injection e1 with _ e2 _
     exact hne e2
theorem OwnD.below {w w':World} {B:Nat} {v:Value} {ps:List (Dp×Value)} (h:OwnD w B v ps) (hb:Below w.heap.size w w'):OwnD w' B v ps:=⟨zG h.1 hb,fun p hp=>(h.2 p hp).below hb⟩
theorem OwnD.base {w:World} {B C:Nat} {v:Value} {ps:List (Dp×Value)} (h:OwnD w B v ps) (hc:C≤B):OwnD w C v ps:=⟨WE h.1 hc,fun p hp=>(h.2 p hp).base hc⟩
theorem OwnS.at {w:World} {B:Nat} {v:Value} {L:List Sp} (h:OwnS w B v L):SpansC w v L∧L.length≤9223372036854775807:=by
 have h0:=h;obtain ⟨ad,cap,rfl,hc,hl⟩:=h.sp;refine ⟨⟨⟨ad,cap,rfl,hl⟩,ad,_,cap,rfl,hc⟩,?_⟩
 rcases h0.2 with ⟨_,hn⟩|⟨g,cap',cur,_,_,_,h1,h2,_⟩
 · omega
 · unfold maxLen at h2;omega
theorem OwnD.at {w:World} {B:Nat} {v:Value} {ps:List (Dp×Value)} (h:OwnD w B v ps):DepsAt w v (ps.map (·.1)):=by
 have h0:=h.1
 rcases h.1.2 with ⟨rfl,hn⟩|⟨g,cap,cur,rfl,hB,hg,hc,hm,_⟩
 · have:ps=[]:=List.eq_nil_of_length_eq_zero hn
   subst this;exact ⟨none,0,rfl,Nat.le_refl _,Or.inl rfl⟩
 · have hlt:=(Array.getElem?_eq_some_iff.1 hg).1
   refine ⟨_,cap,by rw [List.length_map],by rw [List.length_map];exact hc,Or.inr ⟨g,0,rfl,hlt,fun i hi=> ?_⟩⟩;have hi':i<ps.length:=by simpa using hi
   have c0:=World.ownsRow.cellAt h0 (i*2) (by omega);have c1:=World.ownsRow.cellAt h0 (i*2+1) (by omega);rw [(oH ps i hi').1] at c0;rw [(oH ps i hi').2] at c1;refine ⟨ps[i].2,?_⟩;rw [List.getElem_map,Nat.zero_add];exact ⟨c0,c1,(h.2 _ (List.getElem_mem hi')).at,hlt⟩
theorem OwnD.len {w:World} {B:Nat} {v:Value} {ps:List (Dp×Value)} (h:OwnD w B v ps):∃ ad cap,v= .slice ad ps.length cap:=by
 rcases h.1.2 with ⟨rfl,hn⟩|⟨g,cap,cur,rfl,_⟩
 · exact ⟨none,0,by rw [hn]⟩
 · exact ⟨_,cap,rfl⟩
theorem cA {w:World} {B B':Nat} {e e':TypeId} {z z':Nat} {v v':Value} {n n':Nat} {xs xs':List Value} (h:w.ownsRow B e z v n xs) (h':w.ownsRow B' e' z' v' n' xs') (hne:e≠e'):v.ownBlock=none∨v.ownBlock≠v'.ownBlock:=by
 cases hv:v.ownBlock with
 |none=>exact Or.inl rfl
 |some g=>exact Or.inr fun e=>lI h h' hne hv e.symm
end Go.Proofs.YtmnhnofnlcbliaaGreatDoor
namespace Go.Proofs.YtmnhnofnlcbliaaGreatDoor
open Go.Shelf Go.RowKit Go.Lib Go.Sort
set_option maxRecDepth 100000
theorem sN {α:Type} (enc:α→List Value) (k:Nat) (hk:∀ x,(enc x).length=k) (l:List α):(l.flatMap enc).length=l.length*k:=by
 induction l with
 |nil=>simp
 |cons x t ih=>rw [List.flatMap_cons,List.length_append,hk,ih,List.length_cons,Nat.succ_mul];omega
variable {α:Type} [Inhabited α]
theorem jQ (enc:α→List Value) (k:Nat) (hk:∀ x,(enc x).length=k):∀ (l:List α) (i r:Nat),i<l.length→r<k→(l.flatMap enc)[i*k+r]? =(enc (l[i]!))[r]?
 |[],i,r,h,_=>by cases h
 |x::t,0,r,_,hr=>by
  rw [List.flatMap_cons,List.getElem?_append_left (by rw [hk];omega)]
  simp
 |x::t,i+1,r,h,hr=>by
  rw [List.flatMap_cons,List.getElem?_append_right (by rw [hk,Nat.succ_mul];omega),hk];have e:(i+1)*k+r - k=i*k+r:=by rw [Nat.succ_mul];omega
  rw [e,jQ enc k hk t i r (by simpa using h) hr]
  simp
theorem EV (enc:α→List Value) (k:Nat) (hk:∀ x,(enc x).length=k) (hk0:0<k) (d:Array α):(flatK enc k d).toList=d.toList.flatMap enc:=by
 apply List.ext_getElem?;intro t
 by_cases ht:t<d.size*k
 · have hq:t / k<d.toList.length:=by rw [Array.length_toList];exact (Nat.div_lt_iff_lt_mul hk0).2 ht
   have hr:=Nat.mod_lt t hk0
   have hf:(flatK enc k d).toList[t]? =some ((enc d[t / k]!)[t % k]!):=by
    rw [Array.getElem?_toList]
    have:(flatK enc k d)[t]! =(enc d[t / k]!)[t % k]! :=get_flatK _ _ _ _ ht
    rw [←this,getElem!_pos _ t (by simpa using ht)];exact Array.getElem?_eq_getElem (by simpa using ht)
   have hg:=jQ enc k hk d.toList (t / k) (t % k) hq hr;rw [Nat.mul_comm,Nat.div_add_mod] at hg;have hd:d.toList[t / k]! =d[t / k]! :=by rw [getElem!_pos d (t / k) (by simpa using hq),getElem!_pos d.toList (t / k) hq];simp
   rw [hf,hg,hd,List.getElem?_eq_getElem (by rw [hk];exact hr),getElem!_pos _ (t % k) (by rw [hk];exact hr)]
 · rw [List.getElem?_eq_none (by simp;omega),List.getElem?_eq_none (by rw [sN enc k hk];simp;omega)]
theorem SA (enc:α→List Value) (k:Nat) (hk:∀ x,(enc x).length=k) (hk0:0<k) {w:World} {g:Nat} {cur:Array Value} {e:TypeId} {fs:List α} (hb:w.heap[g]? =some (.cells cur e (0,0))) (ht:cur.toList.take (fs.length*k)=fs.flatMap enc):HoldsK enc k w g 0 fs.toArray:=by
 intro j hj;have hj':j<fs.length*k:=by simpa using hj
 refine ⟨?_,by simp [World.frozen?,hb]⟩;have h1:(cur.toList.take (fs.length*k))[j]? =(fs.flatMap enc)[j]? :=by rw [ht]
 rw [List.getElem?_take_of_lt hj'] at h1;simp only [World.cell?,hb,Nat.zero_add];simp only [Option.isSome_none,Bool.false_eq_true,if_false];rw [←Array.getElem?_toList,h1];have e:=EV enc k hk hk0 fs.toArray;rw [List.toList_toArray] at e;rw [←e,Array.getElem?_toList,getElem!_pos _ j hj];exact Array.getElem?_eq_getElem hj
theorem WF (enc:α→List Value) (k:Nat) {w:World} {g n:Nat} {os:Array Obj} {cur:Array Value} {e:TypeId} {fr:Nat×Nat} (d:Array α) (hb:w.heap[g]? =some (.cells cur e fr)):
 (sortWorldK enc k w g 0 n d os).heap[g]? =some (.cells (putCells id 0 (flatK enc k d) cur) e fr):=by
 have hg:g<w.heap.size:=(Array.getElem?_eq_some_iff.1 hb).1;unfold sortWorldK putRowK;rw [heap_grow_old _ _ (by simpa using hg)];simp [putRow,mapBlock,Sort.ahead,Array.getElem?_modify,hb,onCells]
theorem SC (enc:α→List Value) (k:Nat) {w:World} {g n:Nat} {os:Array Obj} (d:Array α):w.grownBy (sortWorldK enc k w g 0 n d os) (some g):=by
 unfold sortWorldK putRowK;refine ⟨rfl,rfl,rfl,by simp,fun j hj hne=> ?_⟩;rw [heap_grow_old _ _ (by simpa using hj)]
 have:g≠j:=fun e=>hne (by rw [e])
 simp [putRow,mapBlock,Sort.ahead,Array.getElem?_modify,this]
theorem WG (cur:Array Value) (F:Array Value) (h:F.size≤cur.size):(putCells id 0 F cur).toList.take F.size=F.toList:=by
 apply List.ext_getElem?;intro j
 by_cases hj:j<F.size
 · rw [List.getElem?_take_of_lt hj,Array.getElem?_toList,Array.getElem?_toList]
   simp [putCells,hj,show j<cur.size by omega]
 · rw [List.getElem?_take_eq_none (by omega),List.getElem?_eq_none (by simp;omega)]
theorem SD {d d':Array α} (h:PermIn 0 d.size d d'):d'.toList.Perm d.toList:=by
 obtain ⟨hsz,_,hperm⟩:=h;have e1:d'.extract 0 d.size=d':=by rw [←hsz];exact Array.extract_size
 rw [e1,Array.extract_size] at hperm;exact hperm
theorem EW {lt:α→α→Bool} {d d':Array α} (h:PermIn 0 d.size d d') (hS:SortedIn lt 0 d.size d'):d'.toList.Pairwise fun x y=>lt y x=false:=by
 have hsz:=h.1;rw [List.pairwise_iff_getElem];intro i j hi hj hij;have hi':i<d'.size:=by simpa using hi
 have hj':j<d'.size:=by simpa using hj
 have:=hS i j (Nat.zero_le _) hij (by omega)
 rw [getElem!_pos d' j hj',getElem!_pos d' i hi'] at this
 simpa using this
theorem WH {ρ:Ren} (L:SlLaysF0.n6 Tryz.prog ρ) (k:Nat) (hk0:0<k) (aE:∀ w,(isAgg (ρ.t 24)).run Tryz.prog w= .ok true w) (zE:∀ w,(Go.sizeOf (ρ.t 24)).run Tryz.prog w= .ok k w) (enc:α→List Value) (hk:∀ x,(enc x).length=k) (h1:∀ x,∀ v ∈ enc x,v.oneCell'=true) (cf:α→α→Int) (hO:SWO (ltOf cf)) (g:Nat)
 (eg:∀ args w,(callFunc g args).run Tryz.prog w= .ok (.enter g args) w) (hcmp:∀ (x y:α) (W:World),Calls Tryz.prog g #[.agg (enc x).toArray,.agg (enc y).toArray] W fun e w'=>e= .returned (.int .i64 (cf x y))∧∃ q os',w'=grow (W.drewN q) os')
 {w:World} {base:Nat} {T:TypeId} {v:Value} {fs:List α} (hown:w.ownsRow base T k v fs.length (fs.flatMap enc)) (hz:fs.length<4611686018427387904):
 Calls Tryz.prog (ρ.f 6) #[v,.func (.func g) #[] #[]] w fun e w'=>e= .returned (.tuple #[])∧∃ ts:List α,ts.Perm fs∧(ts.Pairwise fun x y=>ltOf cf y x=false)∧w'.ownsRow base T k v ts.length (ts.flatMap enc)∧w.grownBy w' v.ownBlock:=by
 rcases hown.2 with ⟨hv,hn⟩|⟨b,cap,cur,hv,hB,hgg,hc1,hc2,hc3,hc4⟩
 · obtain rfl:fs=[]:=List.length_eq_zero_iff.1 hn
   subst hv;refine (AnyF.slices_SortFunc_none L none 0 (.func (.func g) #[] #[]) w).mono ?_;rintro e w' ⟨rfl,rfl⟩;exact ⟨rfl,[],List.Perm.refl _,List.Pairwise.nil,hown,⟨rfl,rfl,rfl,Nat.le_refl _,fun _ _ _=>rfl⟩⟩
 · subst hv
   have hH:=SA enc k hk hk0 hgg hc4;have hcon:=AnyQ.slices_SortFunc L k aE zE enc hk h1 cf hO g #[] b 0 cap fs.toArray w eg (fun m os dk _ x y=>by simpa using hcmp x y _) hH (Array.getElem?_eq_some_iff.1 hgg).1 (by simp;omega);simp only [List.size_toArray] at hcon;refine hcon.mono ?_;rintro e w' ⟨rfl,d',n,os,hp,hs,rfl⟩;have hp':PermIn 0 fs.toArray.size fs.toArray d':=by simpa using hp
   have hs':SortedIn (ltOf cf) 0 fs.toArray.size d':=by simpa using hs
   have hpl:=SD hp';rw [List.toList_toArray] at hpl;refine ⟨rfl,d'.toList,hpl,EW hp' hs',⟨by rw [sN enc k hk],.inr ⟨b,cap,_,by rw [hpl.length_eq],hB,WF enc k d' hgg,by rw [hpl.length_eq];exact hc1,hc2,by simp [putCells,hc3],?_⟩⟩,SC enc k d'⟩;have e:=EV enc k hk hk0 d';have hsz:(flatK enc k d').size=d'.toList.length*k:=by simp
   rw [←hsz,WG cur _ (by rw [hsz,hc3,hpl.length_eq];exact Nat.mul_le_mul_right k hc1),e]
end Go.Proofs.YtmnhnofnlcbliaaGreatDoor
namespace Go.Proofs.YtmnhnofnlcbliaaGreatDoor
open Go.Shelf Go.RowKit Go.Lib Go.Sort
set_option maxRecDepth 100000
def Gd (w w':World):Prop:=∃ q os',w'=grow (w.drewN q) os'
theorem Gd.box (w:World) (o:Obj):Gd w (w.alloc o):=⟨0,#[o],by rw [alloc_eq_grow];rfl⟩
theorem Gd.trans {a b c:World} (h:Gd a b) (h':Gd b c):Gd a c:=by
 obtain ⟨q,os,rfl⟩:=h;obtain ⟨q',os',rfl⟩:=h';refine ⟨q+q',os++os',?_⟩;simp [grow,World.drewN,Array.append_assoc,Nat.add_assoc]
theorem Gd.box2 (w:World) (o u:Obj):Gd w ((w.alloc o).alloc u):=(Gd.box w o).trans (Gd.box _ u)
theorem lJ:∀ (a b:List UInt8),Lib.compareBytes a b<0↔bytesBefore a b=true
 |[],[]=>by simp [Lib.compareBytes,bytesBefore]
 |[],_::_=>by simp [Lib.compareBytes,bytesBefore]
 |_::_,[]=>by simp [Lib.compareBytes,bytesBefore]
 |a::ra,b::rb=>by
  have ih:=lJ ra rb;unfold Lib.compareBytes bytesBefore
  by_cases h1:a<b
  · simp [h1]
  · rw [if_neg h1]
    by_cases h2:b<a
    · rw [if_pos h2]
      have h3:¬ a=b:=fun e=>by subst e;exact h1 h2
      simp [h1,h3]
    · rw [if_neg h2]
      have h3:a=b:=UInt8.le_antisymm (UInt8.not_lt.1 h2) (UInt8.not_lt.1 h1);simp [h3,ih]
theorem vA:∀ (a b:List UInt8),Lib.compareBytes a b=0↔a=b
 |[],[]=>by simp [Lib.compareBytes]
 |[],_::_=>by simp [Lib.compareBytes]
 |_::_,[]=>by simp [Lib.compareBytes]
 |a::ra,b::rb=>by
  have ih:=vA ra rb;unfold Lib.compareBytes
  by_cases h1:a<b
  · rw [if_pos h1]
    have h3:¬ a=b:=fun e=>by subst e;exact absurd h1 (UInt8.lt_irrefl _)
    simp [h3]
  · rw [if_neg h1]
    by_cases h2:b<a
    · rw [if_pos h2]
      have h3:¬ a=b:=fun e=>by subst e;exact h1 h2
      simp [h3]
    · rw [if_neg h2]
      have h3:a=b:=UInt8.le_antisymm (UInt8.not_lt.1 h2) (UInt8.not_lt.1 h1);simp [h3,ih]
end Go.Proofs.YtmnhnofnlcbliaaGreatDoor
namespace Go.Proofs.YtmnhnofnlcbliaaGreatDoor
open Go.RowKit
set_option maxRecDepth 100000
structure Pg where
 nm:ByteArray
 a:Int
 b:Int
 c:Int
 d:List Dp
 p:List Dp
 o:List Dp
def PgAt (w:World) (P:Pg) (v1 v2 v3:Value):Prop:=DepsAt w v1 P.d∧DepsAt w v2 P.p∧DepsAt w v3 P.o
theorem PgAt.below {w w':World} {P:Pg} {v1 v2 v3:Value} (h:PgAt w P v1 v2 v3) (hb:Below w.heap.size w w'):PgAt w' P v1 v2 v3:=⟨h.1.below hb,h.2.1.below hb,h.2.2.below hb⟩
def BxP (w:World) (N:Nat) (s:ByteArray) (a b c:Int) (v1 v2 v3:Value):Prop:=
 w.cell? ⟨N,0,none⟩=some (.string s)∧w.cell? ⟨N,1,none⟩=some (.int .i64 a)∧w.cell? ⟨N,2,none⟩=some (.int .i64 b)∧w.cell? ⟨N,3,none⟩=some (.int .i64 c)∧w.cell? ⟨N,4,none⟩=some v1∧w.cell? ⟨N,5,none⟩=some v2∧w.cell? ⟨N,6,none⟩=some v3∧N<w.heap.size
theorem gE (N:Nat) (s:ByteArray) (a b c:Int) (v1 v2 v3:Value):KeepP fun w1=>BxP w1 N s a b c v1 v2 v3:=fun w w' h hb=>by
 obtain ⟨h0,h1,h2,h3,h4,h5,h6,h7⟩:=h;have q:∀ i,w'.cell? ⟨N,i,none⟩=w.cell? ⟨N,i,none⟩:=fun i=>hb.cell (p:=⟨N,i,none⟩) h7
 exact ⟨by rw [q];exact h0,by rw [q];exact h1,by rw [q];exact h2,by rw [q];exact h3,by rw [q];exact h4,by rw [q];exact h5,by rw [q];exact h6,Nat.lt_of_lt_of_le h7 hb.size⟩
theorem BxP.new {w:World} {N:Nat} (hN:w.heap.size=N) (s:ByteArray) (a b c:Int) (v1 v2 v3:Value):BxP (w.alloc (.cells #[.string s,.int .i64 a,.int .i64 b,.int .i64 c,v1,v2,v3] 54)) N s a b c v1 v2 v3:=by
 subst hN;refine ⟨?_,?_,?_,?_,?_,?_,?_,?_⟩<;>simp
set_option maxHeartbeats 1600000 in
theorem WI {P Q:Pg} {v1 v2 v3 u1 u2 u3:Value} {w:World} (hp:PgAt w P v1 v2 v3) (hq:PgAt w Q u1 u2 u3) (hd:P.d.length≤9223372036854775807) (he:P.p.length≤9223372036854775807) (ho:P.o.length≤9223372036854775807):
 Calls Tryz.prog 201 #[.agg #[.string P.nm,.int .i64 P.a,.int .i64 P.b,.int .i64 P.c,v1,v2,v3],.agg #[.string Q.nm,.int .i64 Q.a,.int .i64 Q.b,.int .i64 Q.c,u1,u2,u3]] w fun x w'=>x= .returned (.bool (eqB P Q))∧Below w.heap.size w w':=by
 have H1:Hid (∀ w1,Below w.heap.size w w1→Calls Tryz.prog 165 #[v1,u1] w1 fun e w'=>e= .returned (.bool (eqB P.d Q.d))∧Below w1.heap.size w1 w'):=fun w1 h=>nF (hp.1.below h) (hq.1.below h) hd
 have H2:Hid (∀ w1,Below w.heap.size w w1→Calls Tryz.prog 165 #[v2,u2] w1 fun e w'=>e= .returned (.bool (eqB P.p Q.p))∧Below w1.heap.size w1 w'):=fun w1 h=>nF (hp.2.1.below h) (hq.2.1.below h) he
 have H3:Hid (∀ w1,Below w.heap.size w w1→Calls Tryz.prog 165 #[v3,u3] w1 fun e w'=>e= .returned (.bool (eqB P.o Q.o))∧Below w1.heap.size w1 w'):=fun w1 h=>nF (hp.2.2.below h) (hq.2.2.below h) ho
 have HR:Hid (eqB P Q=(decide (P.nm.toList=Q.nm.toList)&&(decide (P.a=Q.a)&&decide (P.b=Q.b)&&decide (P.c=Q.c))&&eqB P.d Q.d&&eqB P.p Q.p&&eqB P.o Q.o)):=by
  refine BS ?_;obtain ⟨n,a,b,c,d,e,o⟩:=P;obtain ⟨n',a',b',c',d',e',o'⟩:=Q;simp only [Bool.and_eq_true,decide_eq_true_eq,eW,Pg.mk.injEq];exact ⟨fun ⟨h1,h2,h3,h4,h5,h6,h7⟩=>⟨⟨⟨⟨by rw [h1],⟨h2,h3⟩,h4⟩,h5⟩,h6⟩,h7⟩,fun ⟨⟨⟨⟨h1,⟨h2,h3⟩,h4⟩,h5⟩,h6⟩,h7⟩=>⟨bC h1,h2,h3,h4,h5,h6,h7⟩⟩
 obtain ⟨a1,c1,rfl⟩:=hp.1.sl;obtain ⟨a2,c2,rfl⟩:=hp.2.1.sl;obtain ⟨a3,c3,rfl⟩:=hp.2.2.sl;obtain ⟨b1,d1,rfl⟩:=hq.1.sl;obtain ⟨b2,d2,rfl⟩:=hq.2.1.sl;obtain ⟨b3,d3,rfl⟩:=hq.2.2.sl;clear hp hq hd he ho;have hv:=Ee P.a P.b P.c Q.a Q.b Q.c;have hgd:=rA;obtain ⟨n,a,b,c,d,e,o⟩:=P;obtain ⟨n',a',b',c',d',e',o'⟩:=Q
 simp only at*
 generalize eqB d d'=x1 at*;generalize eqB e e'=x2 at*;generalize eqB o o'=x3 at*;generalize (decide (a=a')&&decide (b=b')&&decide (c=c'))=xv at*;generalize d.length=l1 at*;generalize e.length=l2 at*;generalize o.length=l3 at*;generalize d'.length=m1 at*;generalize e'.length=m2 at*;generalize o'.length=m3 at*
 have HB:Hid (BxP ((w.alloc (.cells #[.string n,.int .i64 a,.int .i64 b,.int .i64 c,.slice a1 l1 c1,.slice a2 l2 c2,.slice a3 l3 c3] 54)).alloc (.cells #[.string n',.int .i64 a',.int .i64 b',.int .i64 c',.slice b1 m1 d1,.slice b2 m2 d2,.slice b3 m3 d3] 54)) w.heap.size n a b c (.slice a1 l1 c1) (.slice a2 l2 c2) (.slice a3 l3 c3)∧BxP ((w.alloc (.cells #[.string n,.int .i64 a,.int .i64 b,.int .i64 c,.slice a1 l1 c1,.slice a2 l2 c2,.slice a3 l3 c3] 54)).alloc (.cells #[.string n',.int .i64 a',.int .i64 b',.int .i64 c',.slice b1 m1 d1,.slice b2 m2 d2,.slice b3 m3 d3] 54)) (w.heap.size+1) n' a' b' c' (.slice b1 m1 d1) (.slice b2 m2 d2) (.slice b3 m3 d3)):=⟨gE _ _ _ _ _ _ _ _ _ _ (BxP.new rfl _ _ _ _ _ _ _) (aC _ _),BxP.new (by simp) _ _ _ _ _ _ _⟩
 have HK:Hid (KeepP fun w1=>BxP w1 w.heap.size n a b c (.slice a1 l1 c1) (.slice a2 l2 c2) (.slice a3 l3 c3)∧BxP w1 (w.heap.size+1) n' a' b' c' (.slice b1 m1 d1) (.slice b2 m2 d2) (.slice b3 m3 d3)):=(gE _ _ _ _ _ _ _ _).and (gE _ _ _ _ _ _ _ _);have t1:True:=trivial;have t2:True:=trivial
 by_cases hn:n.toList=n'.toList
 · cases xv
   · go_enter Tryz.func201,Tryz.ntmps201
     go_wp2
     go_ret;exact ⟨aD (by rw [HR.out];simp),aS _ _ _⟩
   · go_enter Tryz.func201,Tryz.ntmps201
     cases x1
     · go_wp2_with (go_at_call 165;refine (H1.out _ (aS _ _ _)).mono ?_;rintro x w1 ⟨rfl,ok⟩)
       go_ret;exact ⟨aD (by rw [HR.out];simp),aA (aS _ _ _) ok⟩
     · cases x2
       · go_wp2_with (first
          |(have _t:=t1;go_at_call 165;refine (H1.out _ (aS _ _ _)).mono ?_;rintro x w1 ⟨rfl,ok⟩;clear t1;have HB1:=aB (HK.out _ _ HB.out ok);obtain ⟨⟨p0,p1,p2,p3,p4,p5,p6,p7⟩,⟨q0,q1,q2,q3,q4,q5,q6,q7⟩⟩:=HB1.out)
          |(go_at_call 165;refine (H2.out _ (aA (aS _ _ _) ok)).mono ?_;rintro x w2 ⟨rfl,ok2⟩))
         go_ret;exact ⟨aD (by rw [HR.out];simp),aA (aA (aS _ _ _) ok) ok2⟩
       · go_wp2_with (first
          |(have _t:=t1;go_at_call 165;refine (H1.out _ (aS _ _ _)).mono ?_;rintro x w1 ⟨rfl,ok⟩;clear t1;have HB1:=aB (HK.out _ _ HB.out ok);obtain ⟨⟨p0,p1,p2,p3,p4,p5,p6,p7⟩,⟨q0,q1,q2,q3,q4,q5,q6,q7⟩⟩:=HB1.out)
          |(have _t:=t2;go_at_call 165;refine (H2.out _ (aA (aS _ _ _) ok)).mono ?_;rintro x w2 ⟨rfl,ok2⟩;clear t2;have HB2:=aB (HK.out _ _ HB1.out ok2);clear p0 p1 p2 p3 p4 p5 p6 p7 q0 q1 q2 q3 q4 q5 q6 q7;obtain ⟨⟨p0,p1,p2,p3,p4,p5,p6,p7⟩,⟨q0,q1,q2,q3,q4,q5,q6,q7⟩⟩:=HB2.out)
          |(go_at_call 165;refine (H3.out _ (aA (aA (aS _ _ _) ok) ok2)).mono ?_;rintro x w3 ⟨rfl,ok3⟩))
         go_ret;exact ⟨aD (by rw [HR.out];simp [hn]),aA (aA (aA (aS _ _ _) ok) ok2) ok3⟩
 · go_enter Tryz.func201,Tryz.ntmps201
   go_wp2
   go_ret;exact ⟨aD (by rw [HR.out];simp [hn]),aS _ _ _⟩
def StIn (w:World) (g o:Nat) (s:ByteArray):Prop:=w.cell? ⟨g,o,none⟩=some (.string s)∧g<w.heap.size
theorem StIn.below {w w':World} {g o:Nat} {s:ByteArray} (h:StIn w g o s) (hb:Below w.heap.size w w'):StIn w' g o s:=⟨(hb.cell (p:=⟨g,o,none⟩) h.2).trans h.1,Nat.lt_of_lt_of_le h.2 hb.size⟩
theorem pS (g o:Nat) (s:ByteArray):KeepP fun w1=>StIn w1 g o s:=fun _ _ h hb=>h.below hb
def PathAt (w:World) (v:Value) (L:List ByteArray):Prop:=∃ ad cap,v= .slice ad L.length cap∧L.length≤cap∧(L=[]∨∃ g o,ad=some ⟨g,o,none⟩∧∀ i (h:i<L.length),StIn w g (o+i) L[i])
theorem PathAt.below {w w':World} {v:Value} {L:List ByteArray} (h:PathAt w v L) (hb:Below w.heap.size w w'):PathAt w' v L:=by
 obtain ⟨ad,cap,hv,hc,hl⟩:=h;refine ⟨ad,cap,hv,hc,hl.imp id ?_⟩;rintro ⟨g,o,ha,hs⟩;exact ⟨g,o,ha,fun i hi=>(hs i hi).below hb⟩
theorem PathAt.sl {w:World} {v:Value} {L:List ByteArray} (h:PathAt w v L):∃ ad cap,v= .slice ad L.length cap:=by
 obtain ⟨ad,cap,rfl,_⟩:=h;exact ⟨ad,cap,rfl⟩
theorem PathAt.cut {w:World} {ad:Option Addr} {n cap:Nat} {L:List ByteArray} (h:PathAt w (.slice ad n cap) L) {k:Nat} (hk:k≤n):PathAt w (.slice ad k cap) (L.take k):=by
 obtain ⟨ad',cap',hv,hc,hl⟩:=h;injection hv with e1 e2 e3
 subst e1 e2 e3;have hkl:(L.take k).length=k:=by rw [List.length_take];omega
 refine ⟨ad,cap,by rw [hkl],by omega,?_⟩
 rcases hl with rfl|⟨g,o,ha,hs⟩
 · exact Or.inl (by simp)
 · exact Or.inr ⟨g,o,ha,fun i hi=>by rw [List.getElem_take];exact hs i (by omega)⟩
theorem EX {s t:ByteArray} (h:s.toList=t.toList):s=t:=bC h
set_option maxHeartbeats 1600000 in
theorem EY (A B:List ByteArray) (hAB:A.length=B.length) (hsz:A.length≤9223372036854775807) (ga oa ca gb ob cb:Nat) (w:World) (hla:∀ i (h:i<A.length),StIn w ga (oa+i) A[i]) (hlb:∀ i (h:i<B.length),StIn w gb (ob+i) B[i]):
 Calls Tryz.prog 107 #[.slice (some ⟨ga,oa,none⟩) A.length ca,.slice (some ⟨gb,ob,none⟩) B.length cb] w fun e w'=>e= .returned (.bool (eqB A B))∧Below w.heap.size w w':=by
 have HL:Hid (∀ w1,Below w.heap.size w w1→∀ i (h:i<A.length) (h2:i<B.length),StIn w1 ga (oa+i) A[i]∧StIn w1 gb (ob+i) B[i]):=fun w1 hb i hi hi2=>⟨(hla i hi).below hb,(hlb i hi2).below hb⟩
 have HAB:=aB hAB;clear hla hlb;rw [←hAB];clear hAB
 go_enter Tryz.func107,Tryz.ntmps107
 go_wp2_with fail
 go_loopw [13] (fun i wr=>∃ k:Nat,k≤A.length∧i= .int .i64 k∧Below w.heap.size w wr∧∀ j (h:j<k) (h1:j<A.length) (h2:j<B.length),A[j]=B[j]) (fun i _=>A.length - (intOf i).toNat)
 case atStart=>exact ⟨0,Nat.zero_le _,rfl,Below.refl _ _,fun j h=>by omega⟩
 case round=>
  obtain ⟨k,hk,rfl,hb,hall⟩:=hrel;have HALL:=aB hall;have HB:=aB hb;clear hall
  by_cases hlt:k<A.length
  · have hltB:k<B.length:=HAB.out ▸ hlt
    have HO:Hid (Below w.heap.size w wr∧StIn wr ga (oa+k) A[k]∧StIn wr gb (ob+k) B[k]):=⟨hb,HL.out wr hb k hlt hltB⟩;have HK:Hid (KeepP fun w1=>Below w.heap.size w w1∧StIn w1 ga (oa+k) A[k]∧StIn w1 gb (ob+k) B[k]):=(aG w).and ((pS _ _ _).and (pS _ _ _));have HNE:Hid (A[k]≠B[k]→eqB A B=false):=fun h=>bX fun e=>by subst e;exact h rfl
    have HST:Hid (A[k]=B[k]→∀ j (h:j<k+1) (h1:j<A.length) (h2:j<B.length),A[j]=B[j]):=fun h j hj h1 h2=>by
     rcases Nat.lt_or_ge j k with hjk|hjk
     · exact HALL.out j hjk h1 h2
     · obtain rfl:j=k:=by omega
       exact h
    generalize A[k]=s at*;generalize B[k]=t at*
    by_cases hq:s=t
    · have HR:=aB (HST.out hq)
      have hqq:(s.toList==t.toList)=true:=by rw [hq];simp
      clear hb HNE HST HALL hq
      go_wp2_with fail
      refine cE HK (by kernel_rfl) (by kernel_rfl) (by first|exact HO.out|exact HK.out.drew HO.out) ?_;intro C HIN HOUT;clear HO
      repeat
       (with_reducible refine wpQuiet_step (fun K hK=> ?_)
        go_simp
        first
         |(refine hK _ ?_;clear hK K)
         |(apply Exists.intro;refine ⟨fun w1 hC=> ?_,hK _ ?_⟩;(focus ((first|(exact rfl)|(obtain ⟨hb1,⟨p0,p1⟩,⟨q0,q1⟩⟩:=HOUT.out w1 hC;clear hC;go_simp;first|done|exact rfl));done));clear hK K))
      refine wpQuiet_nil ?_;intro wn hC;have HO:=aB (HOUT.out _ hC);clear hC HIN HOUT C;obtain ⟨hb1,⟨p0,p1⟩,⟨q0,q1⟩⟩:=HO.out
      go_wp2
      exact ⟨⟨k+1,by omega,by go_num,HO.out.1,HR.out⟩,by simp [intOf];omega⟩
    · have HR:=aB (HNE.out hq)
      have hqq:(s.toList==t.toList)=false:=by rw [beq_eq_false_iff_ne];exact fun e=>hq (EX e)
      clear hb HNE HST HALL hq
      go_wp2_with fail
      refine cE HK (by kernel_rfl) (by kernel_rfl) (by first|exact HO.out|exact HK.out.drew HO.out) ?_;intro C HIN HOUT;clear HO
      repeat
       (with_reducible refine wpQuiet_step (fun K hK=> ?_)
        go_simp
        first
         |(refine hK _ ?_;clear hK K)
         |(apply Exists.intro;refine ⟨fun w1 hC=> ?_,hK _ ?_⟩;(focus ((first|(exact rfl)|(obtain ⟨hb1,⟨p0,p1⟩,⟨q0,q1⟩⟩:=HOUT.out w1 hC;clear hC;go_simp;first|done|exact rfl));done));clear hK K))
      refine wpQuiet_nil ?_;intro wn hC;have HO:=aB (HOUT.out _ hC);clear hC HIN HOUT C;obtain ⟨hb1,⟨p0,p1⟩,⟨q0,q1⟩⟩:=HO.out
      go_wp2
      go_ret;exact ⟨aD HR.out.symm,HO.out.1⟩
  · have hke:k=A.length:=by omega
    subst hke;have HR:Hid (eqB A B=true):=aX (List.ext_getElem HAB.out fun j h1 h2=>HALL.out j h1 h1 h2);clear hb
    go_wp2
    go_ret;exact ⟨aD HR.out.symm,HB.out⟩
theorem vB (ad bd:Option Addr) (ca cb:Nat) (w:World):
 Calls Tryz.prog 107 #[.slice ad 0 ca,.slice bd 0 cb] w fun e w'=>e= .returned (.bool true)∧Below w.heap.size w w':=by
 go_enter Tryz.func107,Tryz.ntmps107
 go_wp2_with fail
 go_loop [13] (fun i=>i= .int .i64 0) (fun _=>0)
 case atStart=>rfl
 case round=>
  subst hrel
  go_wp2
  go_ret;exact ⟨rfl,Below.refl _ _⟩
theorem KU (ad bd:Option Addr) (n m ca cb:Nat) (h:n≠m) (w:World):
 Calls Tryz.prog 107 #[.slice ad n ca,.slice bd m cb] w fun e w'=>e= .returned (.bool false)∧Below w.heap.size w w':=by
 have hn:((n:Int)=(m:Int))=False:=by simp;omega
 go_enter Tryz.func107,Tryz.ntmps107
 go_wp2
 go_ret;exact ⟨rfl,Below.refl _ _⟩
theorem KV {A B:List ByteArray} {va vb:Value} {w:World} (ha:PathAt w va A) (hb:PathAt w vb B) (hsz:A.length≤9223372036854775807):
 Calls Tryz.prog 107 #[va,vb] w fun e w'=>e= .returned (.bool (eqB A B))∧Below w.heap.size w w':=by
 obtain ⟨ad,ca,rfl,_,hl⟩:=ha;obtain ⟨bd,cb,rfl,_,hm⟩:=hb
 by_cases hn:A.length=B.length
 · rcases hl with rfl|⟨ga,oa,rfl,hla⟩
   · obtain rfl:B=[]:=List.eq_nil_of_length_eq_zero (by simpa using hn.symm)
     rw [aX rfl];exact vB _ _ _ _ w
   · rcases hm with rfl|⟨gb,ob,rfl,hlb⟩
     · obtain rfl:A=[]:=List.eq_nil_of_length_eq_zero (by simpa using hn)
       rw [aX rfl];exact vB _ _ _ _ w
     · exact EY A B hn hsz ga oa ca gb ob cb w hla hlb
 · rw [bX fun e=>hn (by rw [e])]
   exact KU _ _ _ _ _ _ hn w
structure Dr where
 pa:List ByteArray
 pk:Pg
 nd:Int
def DrIn (w:World) (g o:Nat) (D:Dr) (u v1 v2 v3:Value):Prop:=
 (w.cell? ⟨g,o,none⟩=some u∧w.cell? ⟨g,o+1,none⟩=some (.string D.pk.nm)∧w.cell? ⟨g,o+2,none⟩=some (.int .i64 D.pk.a)∧w.cell? ⟨g,o+3,none⟩=some (.int .i64 D.pk.b)∧w.cell? ⟨g,o+4,none⟩=some (.int .i64 D.pk.c)∧w.cell? ⟨g,o+5,none⟩=some v1∧w.cell? ⟨g,o+6,none⟩=some v2∧w.cell? ⟨g,o+7,none⟩=some v3∧w.cell? ⟨g,o+8,none⟩=some (.int .i64 D.nd))∧(PathAt w u D.pa∧PgAt w D.pk v1 v2 v3)∧g<w.heap.size
theorem DrIn.below {w w':World} {g o:Nat} {D:Dr} {u v1 v2 v3:Value} (h:DrIn w g o D u v1 v2 v3) (hb:Below w.heap.size w w'):DrIn w' g o D u v1 v2 v3:=by
 obtain ⟨⟨h0,h1,h2,h3,h4,h5,h6,h7,h8⟩,⟨hp,hq⟩,hg⟩:=h;have q:∀ i,w'.cell? ⟨g,i,none⟩=w.cell? ⟨g,i,none⟩:=fun i=>hb.cell (p:=⟨g,i,none⟩) hg
 exact ⟨⟨by rw [q];exact h0,by rw [q];exact h1,by rw [q];exact h2,by rw [q];exact h3,by rw [q];exact h4,by rw [q];exact h5,by rw [q];exact h6,by rw [q];exact h7,by rw [q];exact h8⟩,⟨hp.below hb,hq.below hb⟩,Nat.lt_of_lt_of_le hg hb.size⟩
theorem rJ (g o:Nat) (D:Dr) (u v1 v2 v3:Value):KeepP fun w1=>DrIn w1 g o D u v1 v2 v3:=fun _ _ h hb=>h.below hb
def DirsAt (w:World) (v:Value) (L:List Dr):Prop:=∃ ad cap,v= .slice ad L.length cap∧L.length≤cap∧(L=[]∨∃ g o,ad=some ⟨g,o,none⟩∧∀ i (h:i<L.length),∃ u v1 v2 v3,DrIn w g (o+i*9) L[i] u v1 v2 v3)
theorem DirsAt.below {w w':World} {v:Value} {L:List Dr} (h:DirsAt w v L) (hb:Below w.heap.size w w'):DirsAt w' v L:=by
 obtain ⟨ad,cap,hv,hc,hl⟩:=h;refine ⟨ad,cap,hv,hc,hl.imp id ?_⟩;rintro ⟨g,o,ha,hs⟩;exact ⟨g,o,ha,fun i hi=>by obtain ⟨u,v1,v2,v3,h⟩:=hs i hi;exact ⟨u,v1,v2,v3,h.below hb⟩⟩
theorem DirsAt.sl {w:World} {v:Value} {L:List Dr} (h:DirsAt w v L):∃ ad cap,v= .slice ad L.length cap∧L.length≤cap∧∀ i (_:i<L.length),∃ g o,ad=some ⟨g,o,none⟩∧∃ u v1 v2 v3,DrIn w g (o+i*9) L[i] u v1 v2 v3:=by
 obtain ⟨ad,cap,hv,hc,hl⟩:=h;refine ⟨ad,cap,hv,hc,fun i hi=> ?_⟩
 rcases hl with rfl|⟨g,o,ha,hs⟩
 · cases hi
 · exact ⟨g,o,ha,hs i hi⟩
theorem DirsAt.cut {w:World} {ad:Option Addr} {n cap:Nat} {L:List Dr} (h:DirsAt w (.slice ad n cap) L) {k:Nat} (hk:k≤n):DirsAt w (.slice ad k cap) (L.take k):=by
 obtain ⟨ad',cap',hv,hc,hl⟩:=h;injection hv with e1 e2 e3
 subst e1 e2 e3;have hkl:(L.take k).length=k:=by rw [List.length_take];omega
 refine ⟨ad,cap,by rw [hkl],by omega,?_⟩
 rcases hl with rfl|⟨g,o,ha,hs⟩
 · exact Or.inl (by simp)
 · exact Or.inr ⟨g,o,ha,fun i hi=>by rw [List.getElem_take];exact hs i (by omega)⟩
def FitD (L:List Dr):Prop:=∀ d ∈ L,d.pa.length≤9223372036854775807
end Go.Proofs.YtmnhnofnlcbliaaGreatDoor
namespace Go.Proofs.YtmnhnofnlcbliaaGreatDoor.Sc
open Go.RowKit
set_option maxRecDepth 100000
theorem gF (b:UInt8) (w:World):Calls Tryz.prog 183 #[.int .u8 (b.toNat:Int)] w fun e w'=>e= .returned (.bool (wB b))∧w'=w:=by
 go_enter Tryz.func183,Tryz.ntmps183
 go_wp2
 all_goals
  go_ret;refine ⟨aD ?_,rfl⟩;rw [Bool.eq_iff_iff];simp [wB];omega
def ltB (b:UInt8):Bool:=decide (97≤b.toNat)&&decide (b.toNat≤122)
def dgB (b:UInt8):Bool:=decide (48≤b.toNat)&&decide (b.toNat≤57)
def nmB (b:UInt8):Bool:=ltB b||dgB b||decide (b.toNat=45)
theorem vC (b:UInt8) (w:World):Calls Tryz.prog 104 #[.int .u8 (b.toNat:Int)] w fun e w'=>e= .returned (.bool (ltB b))∧w'=w:=by
 go_enter Tryz.func104,Tryz.ntmps104
 go_wp2
 all_goals
  go_ret;refine ⟨aD ?_,rfl⟩;rw [Bool.eq_iff_iff];simp [ltB];omega
theorem SE (b:UInt8) (w:World):Calls Tryz.prog 105 #[.int .u8 (b.toNat:Int)] w fun e w'=>e= .returned (.bool (dgB b))∧w'=w:=by
 go_enter Tryz.func105,Tryz.ntmps105
 go_wp2
 all_goals
  go_ret;refine ⟨aD ?_,rfl⟩;rw [Bool.eq_iff_iff];simp [dgB];omega
end Go.Proofs.YtmnhnofnlcbliaaGreatDoor.Sc
