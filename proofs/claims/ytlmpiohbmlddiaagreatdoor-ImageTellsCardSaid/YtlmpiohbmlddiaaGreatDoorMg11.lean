/- Rk1, Rk3, Rf1, Rf2: their declarations that are needed, laid in one text, remarks and blanks left out. -/
import Derived.Test.YtlmpiohbmlddiaaGreatDoorMg06
namespace Go.Proofs.YtlmpiohbmlddiaaGreatDoor
open Go.RowKit
set_option maxRecDepth 100000
set_option maxHeartbeats 1600000 in
theorem xS (A B:List Sp) (hAB:A.length=B.length) (hsz:A.length≤9223372036854775807) (ga oa ca gb ob cb:Nat) (w:World) (hga:ga<w.heap.size) (hgb:gb<w.heap.size) (hla:∀ i (h:i<A.length),SpAt w ga (oa+i*6) A[i]) (hlb:∀ i (h:i<B.length),SpAt w gb (ob+i*6) B[i]):
 Calls Tryz.prog 110 #[.slice (some ⟨ga,oa,none⟩) A.length ca,.slice (some ⟨gb,ob,none⟩) B.length cb] w fun e w'=>e= .returned (.bool (eqB A B))∧Below w.heap.size w w':=by
 have HL:Hid (∀ w1,Below w.heap.size w w1→∀ i (h:i<A.length) (h2:i<B.length),fQ w1 ga (oa+i*6) A[i]∧fQ w1 gb (ob+i*6) B[i]):=fun w1 hb i hi hi2=>⟨⟨(hla i hi).below hb hga,Nat.lt_of_lt_of_le hga hb.size⟩,⟨(hlb i hi2).below hb hgb,Nat.lt_of_lt_of_le hgb hb.size⟩⟩
 have HAB:=aA hAB;clear hla hlb;rw [←hAB];clear hAB
 go_enter Tryz.func110,Tryz.ntmps110
 go_wp2_with fail
 go_loopw [5] (fun i wr=>∃ k:Nat,k≤A.length∧i= .int .i64 k∧Below w.heap.size w wr∧∀ j (h:j<k) (h1:j<A.length) (h2:j<B.length),A[j]=B[j]) (fun i _=>A.length - (intOf i).toNat)
 case atStart=>exact ⟨0,Nat.zero_le _,rfl,Below.refl _ _,fun j h=>by omega⟩
 case round=>
  obtain ⟨k,hk,rfl,hb,hall⟩:=hrel;have HALL:=aA hall;have HB:=aA hb;clear hall
  by_cases hlt:k<A.length
  · have hltB:k<B.length:=HAB.out ▸ hlt
    have HO:Hid (Below w.heap.size w wr∧fQ wr ga (oa+k*6) A[k]∧fQ wr gb (ob+k*6) B[k]):=⟨hb,HL.out wr hb k hlt hltB⟩;have HK:Hid (KeepP fun w1=>Below w.heap.size w w1∧fQ w1 ga (oa+k*6) A[k]∧fQ w1 gb (ob+k*6) B[k]):=(aD w).and ((iZ _ _ _).and (iZ _ _ _));have HNE:Hid (eqS A[k] B[k]=false→eqB A B=false):=fun h=>bX fun e=>by subst e;rw [(kE).2 rfl] at h;cases h
    have HST:Hid (eqS A[k] B[k]=true→∀ j (h:j<k+1) (h1:j<A.length) (h2:j<B.length),A[j]=B[j]):=fun h j hj h1 h2=>by
     rcases Nat.lt_or_ge j k with hjk|hjk
     · exact HALL.out j hjk h1 h2
     · obtain rfl:j=k:=by omega
       exact kE.1 h
    generalize A[k]=s at*;generalize B[k]=t at*;obtain ⟨a,b,c,x,y,z⟩:=s;obtain ⟨a',b',c',x',y',z'⟩:=t;have he:=LX a b c x y z a' b' c' x' y' z';have hgd:=FA;cases hq:eqS ⟨a,b,c,x,y,z⟩ ⟨a',b',c',x',y',z'⟩
    · have HR:=aA (HNE.out hq)
      rw [hq] at he;clear hb HNE HST HALL
      go_wp2_with fail
      refine aM HK (by kernel_rfl) (by kernel_rfl) (by first|exact HO.out|exact HK.out.drew HO.out) ?_;intro C HIN HOUT;clear HO
      repeat
       (with_reducible refine wpQuiet_step (fun K hK=> ?_)
        go_simp
        first
         |(refine hK _ ?_;clear hK K)
         |(apply Exists.intro;refine ⟨fun w1 hC=> ?_,hK _ ?_⟩;(focus ((first|(exact rfl)|(obtain ⟨hb1,⟨⟨p0,p1,p2,p3,p4,p5⟩,p6⟩,⟨⟨q0,q1,q2,q3,q4,q5⟩,q6⟩⟩:=HOUT.out w1 hC;clear hC;go_simp;first|done|exact rfl));done));clear hK K))
      refine wpQuiet_nil ?_;intro wn hC;have HO:=aA (HOUT.out _ hC);clear hC HIN HOUT C;obtain ⟨hb1,⟨⟨p0,p1,p2,p3,p4,p5⟩,p6⟩,⟨⟨q0,q1,q2,q3,q4,q5⟩,q6⟩⟩:=HO.out
      go_wp2
      go_ret;exact ⟨aC HR.out.symm,HO.out.1⟩
    · have HR:=aA (HST.out hq)
      rw [hq] at he;clear hb HNE HST HALL
      go_wp2_with fail
      refine aM HK (by kernel_rfl) (by kernel_rfl) (by first|exact HO.out|exact HK.out.drew HO.out) ?_;intro C HIN HOUT;clear HO
      repeat
       (with_reducible refine wpQuiet_step (fun K hK=> ?_)
        go_simp
        first
         |(refine hK _ ?_;clear hK K)
         |(apply Exists.intro;refine ⟨fun w1 hC=> ?_,hK _ ?_⟩;(focus ((first|(exact rfl)|(obtain ⟨hb1,⟨⟨p0,p1,p2,p3,p4,p5⟩,p6⟩,⟨⟨q0,q1,q2,q3,q4,q5⟩,q6⟩⟩:=HOUT.out w1 hC;clear hC;go_simp;first|done|exact rfl));done));clear hK K))
      refine wpQuiet_nil ?_;intro wn hC;have HO:=aA (HOUT.out _ hC);clear hC HIN HOUT C;obtain ⟨hb1,⟨⟨p0,p1,p2,p3,p4,p5⟩,p6⟩,⟨⟨q0,q1,q2,q3,q4,q5⟩,q6⟩⟩:=HO.out
      go_wp2
      exact ⟨⟨k+1,by omega,by go_num,HO.out.1,HR.out⟩,by simp [intOf];omega⟩
  · have hke:k=A.length:=by omega
    subst hke;have HR:Hid (eqB A B=true):=bC (List.ext_getElem HAB.out fun j h1 h2=>HALL.out j h1 h1 h2);clear hb
    go_wp2
    go_ret;exact ⟨aC HR.out.symm,HB.out⟩
theorem qQ (ad bd:Option Addr) (ca cb:Nat) (w:World):
 Calls Tryz.prog 110 #[.slice ad 0 ca,.slice bd 0 cb] w fun e w'=>e= .returned (.bool true)∧Below w.heap.size w w':=by
 go_enter Tryz.func110,Tryz.ntmps110
 go_wp2_with fail
 go_loop [5] (fun i=>i= .int .i64 0) (fun _=>0)
 case atStart=>rfl
 case round=>
  subst hrel
  go_wp2
  go_ret;exact ⟨rfl,Below.refl _ _⟩
theorem BZ (ad bd:Option Addr) (n m ca cb:Nat) (h:n≠m) (w:World):
 Calls Tryz.prog 110 #[.slice ad n ca,.slice bd m cb] w fun e w'=>e= .returned (.bool false)∧Below w.heap.size w w':=by
 have hn:((n:Int)=(m:Int))=False:=by simp;omega
 go_enter Tryz.func110,Tryz.ntmps110
 go_wp2
 go_ret;exact ⟨rfl,Below.refl _ _⟩
theorem CA {A B:List Sp} {va vb:Value} {w:World} (ha:SpansAt w va A) (hb:SpansAt w vb B) (hsz:A.length≤9223372036854775807):
 Calls Tryz.prog 110 #[va,vb] w fun e w'=>e= .returned (.bool (eqB A B))∧Below w.heap.size w w':=by
 obtain ⟨ad,ca,rfl,hl⟩:=ha;obtain ⟨bd,cb,rfl,hm⟩:=hb
 by_cases hn:A.length=B.length
 · rcases hl with rfl|⟨ga,oa,rfl,hga,hla⟩
   · obtain rfl:B=[]:=List.eq_nil_of_length_eq_zero (by simpa using hn.symm)
     rw [bC rfl];exact qQ _ _ _ _ w
   · rcases hm with rfl|⟨gb,ob,rfl,hgb,hlb⟩
     · obtain rfl:A=[]:=List.eq_nil_of_length_eq_zero (by simpa using hn)
       rw [bC rfl];exact qQ _ _ _ _ w
     · exact xS A B hn hsz ga oa ca gb ob cb w hga hgb hla hlb
 · rw [bX fun e=>hn (by rw [e])]
   exact BZ _ _ _ _ _ _ hn w
set_option maxHeartbeats 3200000 in
theorem CB (A B:List Dp) (hAB:A.length=B.length) (hsz:A.length≤9223372036854775807) (ga oa ca gb ob cb:Nat) (w:World) (hla:∀ i (h:i<A.length),∃ u,DpIn w ga (oa+i*2) A[i] u) (hlb:∀ i (h:i<B.length),∃ u,DpIn w gb (ob+i*2) B[i] u):
 Calls Tryz.prog 60 #[.slice (some ⟨ga,oa,none⟩) A.length ca,.slice (some ⟨gb,ob,none⟩) B.length cb] w fun e w'=>e= .returned (.bool (eqB A B))∧Below w.heap.size w w':=by
 have HL:Hid (∀ w1,Below w.heap.size w w1→∀ i (h:i<A.length) (h2:i<B.length),(∃ u,DpIn w1 ga (oa+i*2) A[i] u)∧∃ u,DpIn w1 gb (ob+i*2) B[i] u):=fun w1 hb i hi hi2=>⟨(hla i hi).imp fun u h=>h.below hb,(hlb i hi2).imp fun u h=>h.below hb⟩
 have HAB:=aA hAB;clear hla hlb;rw [←hAB];clear hAB
 go_enter Tryz.func60,Tryz.ntmps60
 go_wp2_with fail
 go_loopw [5] (fun i wr=>∃ k:Nat,k≤A.length∧i= .int .i64 k∧Below w.heap.size w wr∧∀ j (h:j<k) (h1:j<A.length) (h2:j<B.length),A[j]=B[j]) (fun i _=>A.length - (intOf i).toNat)
 case atStart=>exact ⟨0,Nat.zero_le _,rfl,Below.refl _ _,fun j h=>by omega⟩
 case round=>
  obtain ⟨k,hk,rfl,hb,hall⟩:=hrel;have HALL:=aA hall;have HB:=aA hb;clear hall
  by_cases hlt:k<A.length
  · have hltB:k<B.length:=HAB.out ▸ hlt
    obtain ⟨⟨u,hu⟩,⟨v,hv⟩⟩:=HL.out wr hb k hlt hltB;have HO:Hid (Below w.heap.size w wr∧DpIn wr ga (oa+k*2) A[k] u∧DpIn wr gb (ob+k*2) B[k] v):=⟨hb,hu,hv⟩;have HK:Hid (KeepP fun w1=>Below w.heap.size w w1∧DpIn w1 ga (oa+k*2) A[k] u∧DpIn w1 gb (ob+k*2) B[k] v):=(aD w).and ((jN _ _ _ _).and (jN _ _ _ _));have HC:Hid (∀ w1,(Below w.heap.size w w1∧DpIn w1 ga (oa+k*2) A[k] u∧DpIn w1 gb (ob+k*2) B[k] v)→Calls Tryz.prog 110 #[u,v] w1 fun x w'=>x= .returned (.bool (eqB A[k].rg B[k].rg))∧Below w1.heap.size w1 w'):=fun w1 h=>CA h.2.1.2.2.1.1.1 h.2.2.2.2.1.1.1 h.2.1.2.2.1.2
    have HNE:Hid (A[k]≠B[k]→eqB A B=false):=fun h=>bX fun e=>by subst e;exact h rfl
    have HST:Hid (A[k]=B[k]→∀ j (h:j<k+1) (h1:j<A.length) (h2:j<B.length),A[j]=B[j]):=fun h j hj h1 h2=>by
     rcases Nat.lt_or_ge j k with hjk|hjk
     · exact HALL.out j hjk h1 h2
     · obtain rfl:j=k:=by omega
       exact h
    obtain ⟨au,cu,rfl⟩:=hu.2.2.1.1.1.sl;obtain ⟨av,cv,rfl⟩:=hv.2.2.1.1.1.sl;clear hu hv;generalize A[k]=d at*;generalize B[k]=e at*;obtain ⟨n,r⟩:=d;obtain ⟨m,q⟩:=e
    simp only at*
    by_cases hn:n=m
    · subst hn
      have hq:(n.toList==n.toList)=true:=by simp
      cases hr:eqB r q
      · have HR:=aA (HNE.out fun e=>by injection e with _ e2;rw [bC e2] at hr;cases hr)
        rw [hr] at HC;clear hb HNE HST HALL hr
        go_wp2_with fail
        refine aM HK (by kernel_rfl) (by kernel_rfl) (by first|exact HO.out|exact HK.out.drew HO.out) ?_;intro C HIN HOUT;clear HO
        repeat
         (with_reducible refine wpQuiet_step (fun K hK=> ?_)
          go_simp
          first
           |(refine hK _ ?_;clear hK K)
           |(apply Exists.intro;refine ⟨fun w1 hC=> ?_,hK _ ?_⟩;(focus ((first|(go_at_call 110;with_reducible exact aW HIN HOUT HK HC.out w1 hC)|(exact rfl)|(obtain ⟨hb1,⟨p0,p1,ph,p3⟩,⟨q0,q1,qh,q3⟩⟩:=HOUT.out w1 hC;clear hC;go_simp;first|done|exact rfl));done));clear hK K))
        refine wpQuiet_nil ?_;intro wn hC;have HO:=aA (HOUT.out _ hC);clear hC HIN HOUT C;obtain ⟨hb1,⟨p0,p1,ph,p3⟩,⟨q0,q1,qh,q3⟩⟩:=HO.out
        go_wp2
        go_ret;exact ⟨aC HR.out.symm,HO.out.1⟩
      · have HR:=aA (HST.out (by rw [fY.1 hr]))
        rw [hr] at HC;clear hb HNE HST HALL hr
        go_wp2_with fail
        refine aM HK (by kernel_rfl) (by kernel_rfl) (by first|exact HO.out|exact HK.out.drew HO.out) ?_;intro C HIN HOUT;clear HO
        repeat
         (with_reducible refine wpQuiet_step (fun K hK=> ?_)
          go_simp
          first
           |(refine hK _ ?_;clear hK K)
           |(apply Exists.intro;refine ⟨fun w1 hC=> ?_,hK _ ?_⟩;(focus ((first|(go_at_call 110;with_reducible exact aW HIN HOUT HK HC.out w1 hC)|(exact rfl)|(obtain ⟨hb1,⟨p0,p1,ph,p3⟩,⟨q0,q1,qh,q3⟩⟩:=HOUT.out w1 hC;clear hC;go_simp;first|done|exact rfl));done));clear hK K))
        refine wpQuiet_nil ?_;intro wn hC;have HO:=aA (HOUT.out _ hC);clear hC HIN HOUT C;obtain ⟨hb1,⟨p0,p1,ph,p3⟩,⟨q0,q1,qh,q3⟩⟩:=HO.out
        go_wp2
        exact ⟨⟨k+1,by omega,by go_num,HO.out.1,HR.out⟩,by simp [intOf];omega⟩
    · have HR:=aA (HNE.out fun e=>hn (by injection e))
      have hq:(n.toList==m.toList)=false:=beq_eq_false_iff_ne.2 fun e=>hn (bB e)
      clear hb HNE HST HALL HC
      go_wp2_with fail
      refine aM HK (by kernel_rfl) (by kernel_rfl) (by first|exact HO.out|exact HK.out.drew HO.out) ?_;intro C HIN HOUT;clear HO
      repeat
       (with_reducible refine wpQuiet_step (fun K hK=> ?_)
        go_simp
        first
         |(refine hK _ ?_;clear hK K)
         |(apply Exists.intro;refine ⟨fun w1 hC=> ?_,hK _ ?_⟩;(focus ((first|(exact rfl)|(obtain ⟨hb1,⟨p0,p1,ph,p3⟩,⟨q0,q1,qh,q3⟩⟩:=HOUT.out w1 hC;clear hC;go_simp;first|done|exact rfl));done));clear hK K))
      refine wpQuiet_nil ?_;intro wn hC;have HO:=aA (HOUT.out _ hC);clear hC HIN HOUT C;obtain ⟨hb1,⟨p0,p1,ph,p3⟩,⟨q0,q1,qh,q3⟩⟩:=HO.out
      go_wp2
      go_ret;exact ⟨aC HR.out.symm,HO.out.1⟩
  · have hke:k=A.length:=by omega
    subst hke;have HR:Hid (eqB A B=true):=bC (List.ext_getElem HAB.out fun j h1 h2=>HALL.out j h1 h1 h2);clear hb
    go_wp2
    go_ret;exact ⟨aC HR.out.symm,HB.out⟩
theorem tJ (ad bd:Option Addr) (ca cb:Nat) (w:World):
 Calls Tryz.prog 60 #[.slice ad 0 ca,.slice bd 0 cb] w fun e w'=>e= .returned (.bool true)∧Below w.heap.size w w':=by
 go_enter Tryz.func60,Tryz.ntmps60
 go_wp2_with fail
 go_loop [5] (fun i=>i= .int .i64 0) (fun _=>0)
 case atStart=>rfl
 case round=>
  subst hrel
  go_wp2
  go_ret;exact ⟨rfl,Below.refl _ _⟩
theorem JD (ad bd:Option Addr) (n m ca cb:Nat) (h:n≠m) (w:World):
 Calls Tryz.prog 60 #[.slice ad n ca,.slice bd m cb] w fun e w'=>e= .returned (.bool false)∧Below w.heap.size w w':=by
 have hn:((n:Int)=(m:Int))=False:=by simp;omega
 go_enter Tryz.func60,Tryz.ntmps60
 go_wp2
 go_ret;exact ⟨rfl,Below.refl _ _⟩
theorem eZ {A B:List Dp} {va vb:Value} {w:World} (ha:DepsAt w va A) (hb:DepsAt w vb B) (hsz:A.length≤9223372036854775807):
 Calls Tryz.prog 60 #[va,vb] w fun e w'=>e= .returned (.bool (eqB A B))∧Below w.heap.size w w':=by
 obtain ⟨ad,ca,rfl,_,hl⟩:=ha;obtain ⟨bd,cb,rfl,_,hm⟩:=hb
 by_cases hn:A.length=B.length
 · rcases hl with rfl|⟨ga,oa,rfl,hga,hla⟩
   · obtain rfl:B=[]:=List.eq_nil_of_length_eq_zero (by simpa using hn.symm)
     rw [bC rfl];exact tJ _ _ _ _ w
   · rcases hm with rfl|⟨gb,ob,rfl,hgb,hlb⟩
     · obtain rfl:A=[]:=List.eq_nil_of_length_eq_zero (by simpa using hn)
       rw [bC rfl];exact tJ _ _ _ _ w
     · exact CB A B hn hsz ga oa ca gb ob cb w hla hlb
 · rw [bX fun e=>hn (by rw [e])]
   exact JD _ _ _ _ _ _ hn w
theorem dE {s:ByteArray} {k:Nat} (h:k<s.size):s.toList.drop k=s[k]::s.toList.drop (k+1):=by
 have:=List.drop_eq_getElem_cons (l:=s.data.toList) (i:=k) (by rw [aK];exact h)
 rw [ByteArray.toList_eq];exact this
theorem jT {s:ByteArray} {k:Nat} (h:s.size≤k):s.toList.drop k=[]:=by
 rw [ByteArray.toList_eq];exact List.drop_of_length_le (by rw [aK];exact h)
theorem CD {a b:ByteArray} {k:Nat} (ha:k<a.size) (hb:k<b.size) (h:a[k]≠b[k]):Op.bytesLess (a.toList.drop k) (b.toList.drop k)=decide (a[k].toNat<b[k].toNat):=by
 rw [dE ha,dE hb];show (decide (a[k]<b[k])||(a[k]==b[k]&&_))=_;rw [show (a[k]==b[k])=false from beq_eq_false_iff_ne.2 h,Bool.false_and,Bool.or_false];rfl
theorem uZ {a b:ByteArray} {k:Nat} (ha:k<a.size) (hb:k<b.size) (h:a[k]=b[k]):Op.bytesLess (a.toList.drop k) (b.toList.drop k)=Op.bytesLess (a.toList.drop (k+1)) (b.toList.drop (k+1)):=by
 rw [dE ha,dE hb,h];show (decide (b[k]<b[k])||(b[k]==b[k]&&_))=_
 simp
theorem CE {a b:ByteArray} {k:Nat} (hka:k≤a.size) (hkb:k≤b.size) (h:¬ (k<a.size∧k<b.size)):Op.bytesLess (a.toList.drop k) (b.toList.drop k)=decide (a.size<b.size):=by
 by_cases hb:k<b.size
 · have ha:a.size=k:=by omega
   rw [jT (by omega),dE hb];show true=_;rw [decide_eq_true (by omega)]
 · rw [jT (s:=b) (by omega)]
   rw [decide_eq_false (by omega)];cases List.drop k a.toList<;>rfl
set_option maxHeartbeats 1600000 in
theorem nO (a b:ByteArray) (w:World) (ha:a.size≤9223372036854775807):Calls Tryz.prog 179 #[.string a,.string b] w fun e w'=>e= .returned (.bool (ltS a b))∧Below w.heap.size w w':=by
 have HR0:Hid (ltS a b=Op.bytesLess (a.toList.drop 0) (b.toList.drop 0)):=rfl;have HK:Hid (KeepP fun w1=>Below w.heap.size w w1):=aD w
 go_enter Tryz.func179,Tryz.ntmps179
 go_wp2_with fail
 go_loopw [5] (fun i wr=>∃ k:Nat,k≤a.size∧k≤b.size∧i= .int .i64 k∧Below w.heap.size w wr∧ltS a b=Op.bytesLess (a.toList.drop k) (b.toList.drop k)) (fun i _=>a.size - (intOf i).toNat)
 case atStart=>exact ⟨0,Nat.zero_le _,Nat.zero_le _,rfl,Below.refl _ _,HR0.out⟩
 case round=>
  clear HR0;obtain ⟨k,hka,hkb,rfl,hbw,hrl⟩:=hrel;have HO:=aA hbw;have HRL:=aA hrl;clear hbw hrl
  by_cases hh:k<a.size∧k<b.size
  · obtain ⟨h1,h2⟩:=hh
    have g1:(k:Int)<(a.size:Int):=by omega
    have g2:(k:Int)<(b.size:Int):=by omega
    by_cases he:a[k]=b[k]
    · have HS:Hid (ltS a b=Op.bytesLess (a.toList.drop (k+1)) (b.toList.drop (k+1))):=by unfold Hid;rw [HRL.out,uZ h1 h2 he]
      have e1:((a[k].toNat:Int)==(b[k].toNat:Int))=true:=by rw [he];simp
      clear he
      go_wp2_with fail
      refine aM HK (by kernel_rfl) (by kernel_rfl) (by first|exact HO.out|exact HK.out.drew HO.out) ?_;intro C HIN HOUT;clear HO
      repeat
       (with_reducible refine wpQuiet_step (fun K hK=> ?_)
        go_simp
        first
         |(refine hK _ ?_;clear hK K)
         |(apply Exists.intro;refine ⟨fun w1 hC=> ?_,hK _ ?_⟩;(focus ((first|(exact rfl)|(obtain hb1:=HOUT.out w1 hC;clear hC;go_simp;first|done|exact rfl));done));clear hK K))
      refine wpQuiet_nil ?_;intro wn hC;have HO:=aA (HOUT.out _ hC);clear hC HIN HOUT C;obtain hb1:=HO.out
      go_wp2
      exact ⟨⟨k+1,by omega,by omega,by go_num,HO.out,HS.out⟩,by simp [intOf];omega⟩
    · have HS:Hid (ltS a b=decide (a[k].toNat<b[k].toNat)):=by unfold Hid;rw [HRL.out,CD h1 h2 he]
      have e1:((a[k].toNat:Int)==(b[k].toNat:Int))=false:=by
       rw [beq_eq_false_iff_ne];intro e;exact he (UInt8.toNat_inj.1 (by omega))
      clear he
      by_cases hl:a[k].toNat<b[k].toNat
      · have HR:Hid (ltS a b=true):=by unfold Hid;rw [HS.out,decide_eq_true hl]
        have e2:decide ((a[k].toNat:Int)<(b[k].toNat:Int))=true:=decide_eq_true (by omega)
        go_wp2_with fail
        refine aM HK (by kernel_rfl) (by kernel_rfl) (by first|exact HO.out|exact HK.out.drew HO.out) ?_;intro C HIN HOUT;clear HO
        repeat
         (with_reducible refine wpQuiet_step (fun K hK=> ?_)
          go_simp
          first
           |(refine hK _ ?_;clear hK K)
           |(apply Exists.intro;refine ⟨fun w1 hC=> ?_,hK _ ?_⟩;(focus ((first|(exact rfl)|(obtain hb1:=HOUT.out w1 hC;clear hC;go_simp;first|done|exact rfl));done));clear hK K))
        refine wpQuiet_nil ?_;intro wn hC;have HO:=aA (HOUT.out _ hC);clear hC HIN HOUT C;obtain hb1:=HO.out
        go_wp2_with fail
        refine aM HK (by kernel_rfl) (by kernel_rfl) (by first|exact HO.out|exact HK.out.drew HO.out) ?_;intro C HIN HOUT;clear HO
        repeat
         (with_reducible refine wpQuiet_step (fun K hK=> ?_)
          go_simp
          first
           |(refine hK _ ?_;clear hK K)
           |(apply Exists.intro;refine ⟨fun w1 hC=> ?_,hK _ ?_⟩;(focus ((first|(exact rfl)|(obtain hb2:=HOUT.out w1 hC;clear hC;go_simp;first|done|exact rfl));done));clear hK K))
        refine wpQuiet_nil ?_;intro wm hC;have HO:=aA (HOUT.out _ hC);clear hC HIN HOUT C;obtain hb2:=HO.out
        go_wp2
        go_ret;exact ⟨aC HR.out.symm,HO.out⟩
      · have HR:Hid (ltS a b=false):=by unfold Hid;rw [HS.out,decide_eq_false hl]
        have e2:decide ((a[k].toNat:Int)<(b[k].toNat:Int))=false:=decide_eq_false (by omega)
        go_wp2_with fail
        refine aM HK (by kernel_rfl) (by kernel_rfl) (by first|exact HO.out|exact HK.out.drew HO.out) ?_;intro C HIN HOUT;clear HO
        repeat
         (with_reducible refine wpQuiet_step (fun K hK=> ?_)
          go_simp
          first
           |(refine hK _ ?_;clear hK K)
           |(apply Exists.intro;refine ⟨fun w1 hC=> ?_,hK _ ?_⟩;(focus ((first|(exact rfl)|(obtain hb1:=HOUT.out w1 hC;clear hC;go_simp;first|done|exact rfl));done));clear hK K))
        refine wpQuiet_nil ?_;intro wn hC;have HO:=aA (HOUT.out _ hC);clear hC HIN HOUT C;obtain hb1:=HO.out
        go_wp2_with fail
        refine aM HK (by kernel_rfl) (by kernel_rfl) (by first|exact HO.out|exact HK.out.drew HO.out) ?_;intro C HIN HOUT;clear HO
        repeat
         (with_reducible refine wpQuiet_step (fun K hK=> ?_)
          go_simp
          first
           |(refine hK _ ?_;clear hK K)
           |(apply Exists.intro;refine ⟨fun w1 hC=> ?_,hK _ ?_⟩;(focus ((first|(exact rfl)|(obtain hb2:=HOUT.out w1 hC;clear hC;go_simp;first|done|exact rfl));done));clear hK K))
        refine wpQuiet_nil ?_;intro wm hC;have HO:=aA (HOUT.out _ hC);clear hC HIN HOUT C;obtain hb2:=HO.out
        go_wp2
        go_ret;exact ⟨aC HR.out.symm,HO.out⟩
  · have HR:Hid (ltS a b=decide (a.size<b.size)):=by
     unfold Hid;rw [HRL.out,CE hka hkb hh]
    by_cases h1:k<a.size
    · have h2:decide ((k:Int)<(b.size:Int))=false:=decide_eq_false (by omega)
      have g1:(k:Int)<(a.size:Int):=by omega
      go_wp2
      go_ret;exact ⟨aC HR.out.symm,HO.out⟩
    · have h2:decide ((k:Int)<(a.size:Int))=false:=decide_eq_false (by omega)
      go_wp2
      go_ret;exact ⟨aC HR.out.symm,HO.out⟩
def bM (A B:List Dp):Bool:=A.all fun d=>B.all fun e=> !(d.nm.toList==e.nm.toList)
theorem MU {A B:List Dp} {i k:Nat} (hi:i<A.length) (hk:k<B.length) (h:(A[i].nm.toList==B[k].nm.toList)=true):bM A B=false:=by
 rw [Bool.eq_false_iff];intro ha
 have:=List.all_eq_true.1 (List.all_eq_true.1 ha _ (List.getElem_mem hi)) _ (List.getElem_mem hk)
 rw [h] at this;cases this
set_option maxHeartbeats 3200000 in
theorem fA {A B:List Dp} {va vb:Value} {w:World} (ha:DepsAt w va A) (hb:DepsAt w vb B) (hz:A.length≤1000000∧B.length≤1000000):Calls Tryz.prog 131 #[va,vb] w fun e w'=>e= .returned (.bool (bM A B))∧Below w.heap.size w w':=by
 have HA:Hid (∀ w1,Below w.heap.size w w1→DepsAt w1 va A):=fun w1 h=>ha.below h
 have HB:Hid (∀ w1,Below w.heap.size w w1→DepsAt w1 vb B):=fun w1 h=>hb.below h
 obtain ⟨aa,ca,rfl⟩:=ha.sl;obtain ⟨ab,cb,rfl⟩:=hb.sl;obtain ⟨z1,z2⟩:=hz;clear ha hb
 go_enter Tryz.func131,Tryz.ntmps131
 go_wp2_with fail
 go_loopw [5] (fun i wr=>∃ k:Nat,k≤A.length∧i= .int .i64 k∧Below w.heap.size w wr∧bM A B=bM (A.drop k) B) (fun i _=>A.length - (intOf i).toNat)
 case atStart=>exact ⟨0,Nat.zero_le _,rfl,Below.refl _ _,rfl⟩
 case round=>
  obtain ⟨k,hk,rfl,hbw,hap⟩:=hrel;have HBW:=aA hbw;have HAP:=aA hap;clear hap
  by_cases hlt:k<A.length
  · have HAPK:Hid (bM A B=((B.all fun e=> !(A[k].nm.toList==e.nm.toList))&&bM (A.drop (k+1)) B)):=by
     unfold Hid;rw [HAP.out,List.drop_eq_getElem_cons hlt];rfl
    clear hbw HAP
    go_wp2_with fail
    go_loopw [6] (fun j wq=>∃ m:Nat,m≤B.length∧j= .int .i64 m∧Below w.heap.size w wq∧(B.all fun e=> !(A[k].nm.toList==e.nm.toList))=((B.drop m).all fun e=> !(A[k].nm.toList==e.nm.toList))) (fun j _=>B.length - (intOf j).toNat)
    case atStart=>exact ⟨0,Nat.zero_le _,rfl,HBW.out,rfl⟩
    case round=>
     clear HBW;obtain ⟨m,hm,rfl,hbw,hal⟩:=hrel;have HAL:=aA hal;have HBW:=aA hbw;clear hal
     by_cases hml:m<B.length
     · obtain ⟨ad1,cap1,e1,_,h1⟩:=HA.out wr hbw
       cases e1;obtain ⟨ad2,cap2,e2,_,h2⟩:=HB.out wr hbw;cases e2
       obtain ⟨ga,oa,rfl,_,h1⟩:∃ g o,aa=some ⟨g,o,none⟩∧g<wr.heap.size∧∀ i (h:i<A.length),∃ u,DpIn wr g (o+i*2) A[i] u:=by
        rcases h1 with h|h
        · rw [h] at hlt;simp at hlt
        · exact h
       obtain ⟨gb,ob,rfl,_,h2⟩:∃ g o,ab=some ⟨g,o,none⟩∧g<wr.heap.size∧∀ i (h:i<B.length),∃ u,DpIn wr g (o+i*2) B[i] u:=by
        rcases h2 with h|h
        · rw [h] at hml;simp at hml
        · exact h
       obtain ⟨u,hu⟩:=h1 k hlt;obtain ⟨v,hv⟩:=h2 m hml;have HO:Hid (Below w.heap.size w wr∧DpIn wr ga (oa+k*2) A[k] u∧DpIn wr gb (ob+m*2) B[m] v):=⟨hbw,hu,hv⟩;have HK:Hid (KeepP fun w1=>Below w.heap.size w w1∧DpIn w1 ga (oa+k*2) A[k] u∧DpIn w1 gb (ob+m*2) B[m] v):=(aD w).and ((jN _ _ _ _).and (jN _ _ _ _));have HNO:Hid ((A[k].nm.toList==B[m].nm.toList)=true→bM A B=false):=fun h=>MU hlt hml h
       have HST:Hid ((A[k].nm.toList==B[m].nm.toList)=false→(B.all fun e=> !(A[k].nm.toList==e.nm.toList))=((B.drop (m+1)).all fun e=> !(A[k].nm.toList==e.nm.toList))):=fun h=>by
        rw [HAL.out,List.drop_eq_getElem_cons hml,List.all_cons,h];rfl
       clear h1 h2 hu hv hbw HAL;cases hq:(A[k].nm.toList==B[m].nm.toList)
       · have HR:=aA (HST.out hq)
         clear HST HNO HAPK;generalize A[k]=d at*;generalize B[m]=e at*
         go_wp2_with fail
         refine aM HK (by kernel_rfl) (by kernel_rfl) (by first|exact HO.out|exact HK.out.drew HO.out) ?_;intro C HIN HOUT;clear HO
         repeat
          (with_reducible refine wpQuiet_step (fun K hK=> ?_)
           go_simp
           first
            |(refine hK _ ?_;clear hK K)
            |(apply Exists.intro;refine ⟨fun w1 hC=> ?_,hK _ ?_⟩;(focus ((first|(exact rfl)|(obtain ⟨hb1,⟨p0,p1,ph,p3⟩,⟨q0,q1,qh,q3⟩⟩:=HOUT.out w1 hC;clear hC;go_simp;first|done|exact rfl));done));clear hK K))
         refine wpQuiet_nil ?_;intro wn hC;have HO:=aA (HOUT.out _ hC);clear hC HIN HOUT C;obtain ⟨hb1,⟨p0,p1,ph,p3⟩,⟨q0,q1,qh,q3⟩⟩:=HO.out
         go_wp2
         exact ⟨⟨m+1,by omega,by go_num,HO.out.1,HR.out⟩,by simp [intOf];omega⟩
       · have HR:=aA (HNO.out hq)
         clear HST HNO HAPK;generalize A[k]=d at*;generalize B[m]=e at*
         go_wp2_with fail
         refine aM HK (by kernel_rfl) (by kernel_rfl) (by first|exact HO.out|exact HK.out.drew HO.out) ?_;intro C HIN HOUT;clear HO
         repeat
          (with_reducible refine wpQuiet_step (fun K hK=> ?_)
           go_simp
           first
            |(refine hK _ ?_;clear hK K)
            |(apply Exists.intro;refine ⟨fun w1 hC=> ?_,hK _ ?_⟩;(focus ((first|(exact rfl)|(obtain ⟨hb1,⟨p0,p1,ph,p3⟩,⟨q0,q1,qh,q3⟩⟩:=HOUT.out w1 hC;clear hC;go_simp;first|done|exact rfl));done));clear hK K))
         refine wpQuiet_nil ?_;intro wn hC;have HO:=aA (HOUT.out _ hC);clear hC HIN HOUT C;obtain ⟨hb1,⟨p0,p1,ph,p3⟩,⟨q0,q1,qh,q3⟩⟩:=HO.out
         go_wp2
         go_ret;exact ⟨aC HR.out.symm,HO.out.1⟩
     · have HN:Hid (bM A B=bM (A.drop (k+1)) B):=by
        unfold Hid;rw [HAPK.out,HAL.out,List.drop_of_length_le (by omega)];rfl
       clear hbw
       go_wp2
       exact ⟨⟨k+1,by omega,by go_num,HBW.out,HN.out⟩,by simp [intOf];omega⟩
  · have HR:Hid (bM A B=true):=by unfold Hid;rw [HAP.out,List.drop_of_length_le (by omega)];rfl
    clear hbw
    go_wp2
    go_ret;exact ⟨aC HR.out.symm,HBW.out⟩
theorem iP (a b c:Int) (w:World):
 Calls Tryz.prog 222 #[.agg #[.int .i64 a,.int .i64 b,.int .i64 c]] w fun e w'=>e= .returned (.int .i64 (aL a b c))∧Below w.heap.size w w':=by
 have HR:Hid (∀ w1,Calls Tryz.prog 251 #[.agg #[.int .i64 a,.int .i64 b,.int .i64 c]] w1 fun e w'=>e= .returned (.tuple #[.int .i64 (aL a b c),.bool (aU a b c)])∧Below w1.heap.size w1 w'):=GR a b c
 go_enter Tryz.func222,Tryz.ntmps222
 go_wp2_with (go_at_call 251;refine (HR.out _).mono ?_;rintro e w1 ⟨rfl,hb⟩)
 go_ret;exact ⟨rfl,aB (aF _ _) hb⟩
theorem CF (a b c:Int):0≤aL a b c∧aL a b c<1000000000:=by
 cases h:aU a b c
 · have:aL a b c=0:=by unfold aL;rw [h];rfl
   omega
 · exact gI h
theorem qR {L:List Sp} {s:Sp} (h:L[0]? =some s):cI L 0=(aU s.a s.b s.c&&aU s.x s.y s.z&&decide (aL s.a s.b s.c≤aL s.x s.y s.z)):=by
 unfold cI;rw [h];simp only [Bool.and_true];rw [Bool.eq_iff_iff,dJ,Bool.and_eq_true,Bool.and_eq_true,decide_eq_true_eq]
 constructor
 · rintro ⟨h1,h2,h3⟩;exact ⟨⟨h1,h2⟩,(kD h1 h2).1 h3⟩
 · rintro ⟨⟨h1,h2⟩,h3⟩;exact ⟨h1,h2,(kD h1 h2).2 h3⟩
theorem tK {L:List Sp} {j:Nat} {s p:Sp} (h:L[j+1]? =some s) (hp:L[j]? =some p) (hok:cI L j=true):
 cI L (j+1)=((aU s.a s.b s.c&&aU s.x s.y s.z&&decide (aL s.a s.b s.c≤aL s.x s.y s.z))&&decide (aL p.x p.y p.z+1<aL s.a s.b s.c)):=by
 have hpm:aU p.x p.y p.z=true:=by
  unfold cI at hok;rw [hp] at hok;simp only [Bool.and_eq_true] at hok;exact (dJ.1 hok.1).2.1
 unfold cI;rw [h]
 simp only
 rw [hp]
 simp only
 rw [Bool.eq_iff_iff,Bool.and_eq_true,dJ,Bool.and_eq_true,Bool.and_eq_true,Bool.and_eq_true,decide_eq_true_eq,decide_eq_true_eq]
 constructor
 · rintro ⟨⟨h1,h2,h3⟩,h4⟩
   have:=(lX hpm h1).1 h4
   exact ⟨⟨⟨h1,h2⟩,(kD h1 h2).1 h3⟩,by omega⟩
 · rintro ⟨⟨⟨h1,h2⟩,h3⟩,h4⟩
   exact ⟨⟨h1,h2,(kD h1 h2).2 h3⟩,(lX hpm h1).2 (by omega)⟩
set_option maxHeartbeats 6400000 in
theorem JE (L:List Sp) (g o cap:Nat) (w:World) (hlen:L.length≤64) (hg:g<w.heap.size) (hl:∀ i (h:i<L.length),SpAt w g (o+i*6) L[i]):
 Calls Tryz.prog 178 #[.slice (some ⟨g,o,none⟩) L.length cap] w fun e w'=>e= .returned (.bool (dS L))∧Below w.heap.size w w':=by
 have HL:Hid (∀ w1,Below w.heap.size w w1→∀ i (h:i<L.length),fQ w1 g (o+i*6) L[i]):=fun w1 hb i hi=>⟨(hl i hi).below hb hg,Nat.lt_of_lt_of_le hg hb.size⟩
 clear hl;have HT:Hid (dS L=(List.range L.length).all (cI L)):=by unfold Hid dS;simp [hlen]
 have h64:decide ((64:Int)<(L.length:Int))=false:=decide_eq_false (by omega)
 go_enter Tryz.func178,Tryz.ntmps178
 go_wp2_with fail
 go_loopw [3] (fun i wr=>∃ k:Nat,k≤L.length∧i= .int .i64 k∧Below w.heap.size w wr∧∀ j,j<k→cI L j=true) (fun i _=>L.length - (intOf i).toNat)
 case atStart=>exact ⟨0,Nat.zero_le _,rfl,Below.refl _ _,fun j hj=>by omega⟩
 case round=>
  obtain ⟨k,hk,rfl,hb,hok⟩:=hrel;have HOK:=aA hok;clear hok
  by_cases hlt:k<L.length
  · have HO:Hid (Below w.heap.size w wr∧fQ wr g (o+k*6) L[k]):=⟨hb,HL.out wr hb k hlt⟩
    have HK:Hid (KeepP fun w1=>Below w.heap.size w w1∧fQ w1 g (o+k*6) L[k]):=(aD w).and (iZ _ _ _);have HS:Hid (L[k]? =some L[k]):=List.getElem?_eq_getElem hlt;generalize L[k]=s at*;obtain ⟨a,b,c,x,y,z⟩:=s;have HM1:Hid (∀ w1,Calls Tryz.prog 133 #[.agg #[.int .i64 a,.int .i64 b,.int .i64 c]] w1 fun e w'=>e= .returned (.bool (aU a b c))∧Below w1.heap.size w1 w'):=fG a b c;have HM2:Hid (∀ w1,Calls Tryz.prog 133 #[.agg #[.int .i64 x,.int .i64 y,.int .i64 z]] w1 fun e w'=>e= .returned (.bool (aU x y z))∧Below w1.heap.size w1 w'):=fG x y z;have HR1:Hid (∀ w1,Calls Tryz.prog 222 #[.agg #[.int .i64 a,.int .i64 b,.int .i64 c]] w1 fun e w'=>e= .returned (.int .i64 (aL a b c))∧Below w1.heap.size w1 w'):=iP a b c;have HR2:Hid (∀ w1,Calls Tryz.prog 222 #[.agg #[.int .i64 x,.int .i64 y,.int .i64 z]] w1 fun e w'=>e= .returned (.int .i64 (aL x y z))∧Below w1.heap.size w1 w'):=iP x y z
    have HOKs:Hid (∀ v:Bool,(cI L k=true→v=true)→(aU a b c&&aU x y z&&decide (aL a b c≤aL x y z))=false→dS L=false):=fun v _ hf=>pN HT.out hlt (by
     cases k with
     |zero=>rw [qR HS.out];exact hf
     |succ j=>rw [tK HS.out (List.getElem?_eq_getElem (by omega)) (HOK.out j (by omega))];simp only;rw [hf];rfl)
    clear hb;cases m1:aU a b c
    · have HF:Hid (dS L=false):=HOKs.out true (fun _=>rfl) (by rw [m1];rfl)
      rw [m1] at HM1;clear HOKs
      go_wp2_with fail
      refine aM HK (by kernel_rfl) (by kernel_rfl) (by first|exact HO.out|exact HK.out.drew HO.out) ?_;intro C HIN HOUT;clear HO
      repeat
       (with_reducible refine wpQuiet_step (fun K hK=> ?_)
        go_simp
        first
         |(refine hK _ ?_;clear hK K)
         |(apply Exists.intro;refine ⟨fun w1 hC=> ?_,hK _ ?_⟩;(focus ((first|(go_at_call 133;with_reducible exact aP HIN HOUT HK HM1.out w1 hC)|(exact rfl)|(obtain ⟨hb1,⟨p0,p1,p2,p3,p4,p5⟩,p6⟩:=HOUT.out w1 hC;clear hC;go_simp;first|done|exact rfl));done));clear hK K))
      refine wpQuiet_nil ?_;intro wn hC;have HO:=aA (HOUT.out _ hC);clear hC HIN HOUT C;obtain ⟨hb1,⟨p0,p1,p2,p3,p4,p5⟩,p6⟩:=HO.out
      go_wp2
      go_ret;exact ⟨aC HF.out.symm,HO.out.1⟩
    rw [m1] at HM1;cases m2:aU x y z
    · have HF:Hid (dS L=false):=HOKs.out true (fun _=>rfl) (by rw [m1,m2];rfl)
      rw [m2] at HM2;clear HOKs
      go_wp2_with fail
      refine aM HK (by kernel_rfl) (by kernel_rfl) (by first|exact HO.out|exact HK.out.drew HO.out) ?_;intro C HIN HOUT;clear HO
      repeat
       (with_reducible refine wpQuiet_step (fun K hK=> ?_)
        go_simp
        first
         |(refine hK _ ?_;clear hK K)
         |(apply Exists.intro;refine ⟨fun w1 hC=> ?_,hK _ ?_⟩;(focus ((first|(go_at_call 133;with_reducible exact aP HIN HOUT HK HM1.out w1 hC)|(go_at_call 133;with_reducible exact aP HIN HOUT HK HM2.out w1 hC)|(exact rfl)|(obtain ⟨hb1,⟨p0,p1,p2,p3,p4,p5⟩,p6⟩:=HOUT.out w1 hC;clear hC;go_simp;first|done|exact rfl));done));clear hK K))
      refine wpQuiet_nil ?_;intro wn hC;have HO:=aA (HOUT.out _ hC);clear hC HIN HOUT C;obtain ⟨hb1,⟨p0,p1,p2,p3,p4,p5⟩,p6⟩:=HO.out
      go_wp2
      go_ret;exact ⟨aC HF.out.symm,HO.out.1⟩
    rw [m2] at HM2
    by_cases hr:aL x y z<aL a b c
    · have HF:Hid (dS L=false):=HOKs.out true (fun _=>rfl) (by rw [m1,m2,decide_eq_false (by omega)];rfl)
      clear HOKs;generalize aL a b c=r1 at*;generalize aL x y z=r2 at*
      go_wp2_with fail
      refine aM HK (by kernel_rfl) (by kernel_rfl) (by first|exact HO.out|exact HK.out.drew HO.out) ?_;intro C HIN HOUT;clear HO
      repeat
       (with_reducible refine wpQuiet_step (fun K hK=> ?_)
        go_simp
        first
         |(refine hK _ ?_;clear hK K)
         |(apply Exists.intro;refine ⟨fun w1 hC=> ?_,hK _ ?_⟩;(focus ((first|(go_at_call 133;with_reducible exact aP HIN HOUT HK HM1.out w1 hC)|(go_at_call 133;with_reducible exact aP HIN HOUT HK HM2.out w1 hC)|(go_at_call 222;with_reducible exact aP HIN HOUT HK HR1.out w1 hC)|(go_at_call 222;with_reducible exact aP HIN HOUT HK HR2.out w1 hC)|(exact rfl)|(obtain ⟨hb1,⟨p0,p1,p2,p3,p4,p5⟩,p6⟩:=HOUT.out w1 hC;clear hC;go_simp;first|done|exact rfl));done));clear hK K))
      refine wpQuiet_nil ?_;intro wn hC;have HO:=aA (HOUT.out _ hC);clear hC HIN HOUT C;obtain ⟨hb1,⟨p0,p1,p2,p3,p4,p5⟩,p6⟩:=HO.out
      go_wp2
      go_ret;exact ⟨aC HF.out.symm,HO.out.1⟩
    · rcases Nat.eq_zero_or_pos k with h0|h0
      · have HF:Hid (cI L k=true):=by unfold Hid;subst h0;rw [qR HS.out];simp only;rw [m1,m2,decide_eq_true (by omega)];rfl
        have H0:=aA h0;have hk0:decide ((0:Int)<(k:Int))=false:=decide_eq_false (by omega);have hk1:decide (0<k)=false:=decide_eq_false (by omega);clear HOKs h0;generalize aL a b c=r1 at*;generalize aL x y z=r2 at*
        go_wp2_with fail
        refine aM HK (by kernel_rfl) (by kernel_rfl) (by first|exact HO.out|exact HK.out.drew HO.out) ?_;intro C HIN HOUT;clear HO
        repeat
         (with_reducible refine wpQuiet_step (fun K hK=> ?_)
          go_simp
          first
           |(refine hK _ ?_;clear hK K)
           |(apply Exists.intro;refine ⟨fun w1 hC=> ?_,hK _ ?_⟩;(focus ((first|(go_at_call 133;with_reducible exact aP HIN HOUT HK HM1.out w1 hC)|(go_at_call 133;with_reducible exact aP HIN HOUT HK HM2.out w1 hC)|(go_at_call 222;with_reducible exact aP HIN HOUT HK HR1.out w1 hC)|(go_at_call 222;with_reducible exact aP HIN HOUT HK HR2.out w1 hC)|(exact rfl)|(obtain ⟨hb1,⟨p0,p1,p2,p3,p4,p5⟩,p6⟩:=HOUT.out w1 hC;clear hC;go_simp;first|done|exact rfl));done));clear hK K))
        refine wpQuiet_nil ?_;intro wn hC;have HO:=aA (HOUT.out _ hC);clear hC HIN HOUT C;obtain ⟨hb1,⟨p0,p1,p2,p3,p4,p5⟩,p6⟩:=HO.out
        go_wp2_with fail
        clear hb1 p0 p1 p2 p3 p4 p5 p6;refine aM HK (by kernel_rfl) (by kernel_rfl) (by first|exact HO.out|exact HK.out.drew HO.out) ?_;intro C HIN HOUT;clear HO
        repeat
         (with_reducible refine wpQuiet_step (fun K hK=> ?_)
          go_simp
          first
           |(refine hK _ ?_;clear hK K)
           |(apply Exists.intro;refine ⟨fun w1 hC=> ?_,hK _ ?_⟩;(focus ((first|(exact rfl)|(obtain ⟨hb1,⟨p0,p1,p2,p3,p4,p5⟩,p6⟩:=HOUT.out w1 hC;clear hC;go_simp;first|done|exact rfl));done));clear hK K))
        refine wpQuiet_nil ?_;intro wm hC;have HO:=aA (HOUT.out _ hC);clear hC HIN HOUT C;obtain ⟨hb1,⟨p0,p1,p2,p3,p4,p5⟩,p6⟩:=HO.out
        go_wp2
        exact ⟨⟨k+1,by omega,by go_num,HO.out.1,fun j hj=>by rw [show j=k by have:=H0.out;omega];exact HF.out⟩,by simp [intOf];omega⟩
      · obtain ⟨j,hj⟩:∃ j,k=j+1:=⟨k - 1,by omega⟩
        have hjl:j<L.length:=by omega
        have HJ:=aA hj;have HPP:Hid (L[j]? =some L[j]):=List.getElem?_eq_getElem hjl;have HO2:Hid ((Below w.heap.size w wr∧fQ wr g (o+k*6) ⟨a,b,c,x,y,z⟩)∧fQ wr g (o+j*6) L[j]):=⟨HO.out,HL.out wr HO.out.1 j hjl⟩;have HK2:Hid (KeepP fun w1=>(Below w.heap.size w w1∧fQ w1 g (o+k*6) ⟨a,b,c,x,y,z⟩)∧fQ w1 g (o+j*6) L[j]):=HK.out.and (iZ _ _ _)
        have HN:Hid (cI L k=((aU a b c&&aU x y z&&decide (aL a b c≤aL x y z))&&decide (aL L[j].x L[j].y L[j].z+1<aL a b c))):=by
         subst hj;exact tK HS.out HPP.out (HOK.out j (by omega))
        clear HO HK;have HO:=HO2;have HK:=HK2;clear HO2 HK2;generalize L[j]=p at*;obtain ⟨p,q,r,u,v,t⟩:=p;have HR3:Hid (∀ w1,Calls Tryz.prog 222 #[.agg #[.int .i64 u,.int .i64 v,.int .i64 t]] w1 fun e w'=>e= .returned (.int .i64 (aL u v t))∧Below w1.heap.size w1 w'):=iP u v t;have hk0:decide ((0:Int)<(k:Int))=true:=decide_eq_true (by omega);have hk1:decide (0<k)=true:=decide_eq_true (by omega);have hkj:(k:Int) - 1=(j:Int):=by omega
        have hj2:(j:Int)<(L.length:Int):=by omega
        have hwj:IntKind.i64.wrap (j:Int)=(j:Int):=kY (by omega) (by omega);have hsm:=CF u v t;have hwr:IntKind.i64.wrap (aL u v t+1)=aL u v t+1:=kY (by omega) (by omega);clear hj h0 hsm
        by_cases hp:aL a b c≤aL u v t+1
        · have HF:Hid (dS L=false):=pN HT.out hlt (by rw [HN.out];rw [decide_eq_false (p:=aL u v t+1<aL a b c) (by omega),Bool.and_false])
          clear HOKs HN;generalize aL a b c=r1 at*;generalize aL x y z=r2 at*;generalize aL u v t=r3 at*
          go_wp2_with fail
          refine aM HK (by kernel_rfl) (by kernel_rfl) (by first|exact HO.out|exact HK.out.drew HO.out) ?_;intro C HIN HOUT;clear HO
          repeat
           (with_reducible refine wpQuiet_step (fun K hK=> ?_)
            go_simp
            first
             |(refine hK _ ?_;clear hK K)
             |(apply Exists.intro;refine ⟨fun w1 hC=> ?_,hK _ ?_⟩;(focus ((first|(go_at_call 133;with_reducible exact aP HIN HOUT HK HM1.out w1 hC)|(go_at_call 133;with_reducible exact aP HIN HOUT HK HM2.out w1 hC)|(go_at_call 222;with_reducible exact aP HIN HOUT HK HR1.out w1 hC)|(go_at_call 222;with_reducible exact aP HIN HOUT HK HR2.out w1 hC)|(exact rfl)|(obtain ⟨⟨hb1,⟨p0,p1,p2,p3,p4,p5⟩,p6⟩,⟨q0,q1,q2,q3,q4,q5⟩,q6⟩:=HOUT.out w1 hC;clear hC;go_simp;first|done|exact rfl));done));clear hK K))
          refine wpQuiet_nil ?_;intro wn hC;have HO:=aA (HOUT.out _ hC);clear hC HIN HOUT C;obtain ⟨⟨hb1,⟨p0,p1,p2,p3,p4,p5⟩,p6⟩,⟨q0,q1,q2,q3,q4,q5⟩,q6⟩:=HO.out
          go_wp2_with fail
          clear hb1 p0 p1 p2 p3 p4 p5 p6 q0 q1 q2 q3 q4 q5 q6;refine aM HK (by kernel_rfl) (by kernel_rfl) (by first|exact HO.out|exact HK.out.drew HO.out) ?_;intro C HIN HOUT;clear HO
          repeat
           (with_reducible refine wpQuiet_step (fun K hK=> ?_)
            go_simp
            first
             |(refine hK _ ?_;clear hK K)
             |(apply Exists.intro;refine ⟨fun w1 hC=> ?_,hK _ ?_⟩;(focus ((first|(go_at_call 222;with_reducible exact aP HIN HOUT HK HR1.out w1 hC)|(go_at_call 222;with_reducible exact aP HIN HOUT HK HR3.out w1 hC)|(exact rfl)|(obtain ⟨⟨hb1,⟨p0,p1,p2,p3,p4,p5⟩,p6⟩,⟨q0,q1,q2,q3,q4,q5⟩,q6⟩:=HOUT.out w1 hC;clear hC;go_simp;first|done|exact rfl));done));clear hK K))
          refine wpQuiet_nil ?_;intro wm hC;have HO:=aA (HOUT.out _ hC);clear hC HIN HOUT C;obtain ⟨⟨hb1,⟨p0,p1,p2,p3,p4,p5⟩,p6⟩,⟨q0,q1,q2,q3,q4,q5⟩,q6⟩:=HO.out
          go_wp2
          go_ret;exact ⟨aC HF.out.symm,HO.out.1.1⟩
        · have HF:Hid (cI L k=true):=by unfold Hid;rw [HN.out];rw [m1,m2,decide_eq_true (p:=aL u v t+1<aL a b c) (by omega),decide_eq_true (p:=aL a b c≤aL x y z) (by omega)];rfl
          clear HOKs HN;generalize aL a b c=r1 at*;generalize aL x y z=r2 at*;generalize aL u v t=r3 at*
          go_wp2_with fail
          refine aM HK (by kernel_rfl) (by kernel_rfl) (by first|exact HO.out|exact HK.out.drew HO.out) ?_;intro C HIN HOUT;clear HO
          repeat
           (with_reducible refine wpQuiet_step (fun K hK=> ?_)
            go_simp
            first
             |(refine hK _ ?_;clear hK K)
             |(apply Exists.intro;refine ⟨fun w1 hC=> ?_,hK _ ?_⟩;(focus ((first|(go_at_call 133;with_reducible exact aP HIN HOUT HK HM1.out w1 hC)|(go_at_call 133;with_reducible exact aP HIN HOUT HK HM2.out w1 hC)|(go_at_call 222;with_reducible exact aP HIN HOUT HK HR1.out w1 hC)|(go_at_call 222;with_reducible exact aP HIN HOUT HK HR2.out w1 hC)|(exact rfl)|(obtain ⟨⟨hb1,⟨p0,p1,p2,p3,p4,p5⟩,p6⟩,⟨q0,q1,q2,q3,q4,q5⟩,q6⟩:=HOUT.out w1 hC;clear hC;go_simp;first|done|exact rfl));done));clear hK K))
          refine wpQuiet_nil ?_;intro wn hC;have HO:=aA (HOUT.out _ hC);clear hC HIN HOUT C;obtain ⟨⟨hb1,⟨p0,p1,p2,p3,p4,p5⟩,p6⟩,⟨q0,q1,q2,q3,q4,q5⟩,q6⟩:=HO.out
          go_wp2_with fail
          clear hb1 p0 p1 p2 p3 p4 p5 p6 q0 q1 q2 q3 q4 q5 q6;refine aM HK (by kernel_rfl) (by kernel_rfl) (by first|exact HO.out|exact HK.out.drew HO.out) ?_;intro C HIN HOUT;clear HO
          repeat
           (with_reducible refine wpQuiet_step (fun K hK=> ?_)
            go_simp
            first
             |(refine hK _ ?_;clear hK K)
             |(apply Exists.intro;refine ⟨fun w1 hC=> ?_,hK _ ?_⟩;(focus ((first|(go_at_call 222;with_reducible exact aP HIN HOUT HK HR1.out w1 hC)|(go_at_call 222;with_reducible exact aP HIN HOUT HK HR3.out w1 hC)|(exact rfl)|(obtain ⟨⟨hb1,⟨p0,p1,p2,p3,p4,p5⟩,p6⟩,⟨q0,q1,q2,q3,q4,q5⟩,q6⟩:=HOUT.out w1 hC;clear hC;go_simp;first|done|exact rfl));done));clear hK K))
          refine wpQuiet_nil ?_;intro wm hC;have HO:=aA (HOUT.out _ hC);clear hC HIN HOUT C;obtain ⟨⟨hb1,⟨p0,p1,p2,p3,p4,p5⟩,p6⟩,⟨q0,q1,q2,q3,q4,q5⟩,q6⟩:=HO.out
          go_wp2
          refine ⟨⟨k+1,by omega,by go_num,HO.out.1.1,fun i hi=> ?_⟩,by simp [intOf];omega⟩
          rcases Nat.lt_or_ge i k with h|h
          · exact HOK.out i h
          · rw [show i=k by omega];exact HF.out
  · have hke:k=L.length:=by omega
    subst hke;have HF:Hid (dS L=true):=EV HT.out HOK.out;have HB:=aA hb;clear hb
    go_wp2
    go_ret;exact ⟨aC HF.out.symm,HB.out⟩
theorem MV (ad:Option Addr) (cap:Nat) (w:World):
 Calls Tryz.prog 178 #[.slice ad 0 cap] w fun e w'=>e= .returned (.bool true)∧Below w.heap.size w w':=by
 go_enter Tryz.func178,Tryz.ntmps178
 go_wp2_with fail
 go_loop [3] (fun i=>i= .int .i64 0) (fun _=>0)
 case atStart=>rfl
 case round=>
  subst hrel
  go_wp2
  go_ret;exact ⟨rfl,Below.refl _ _⟩
theorem JF (ad:Option Addr) (n cap:Nat) (w:World) (h:64<n):
 Calls Tryz.prog 178 #[.slice ad n cap] w fun e w'=>e= .returned (.bool false)∧Below w.heap.size w w':=by
 have h1:(64:Int)<(n:Int):=by omega
 go_enter Tryz.func178,Tryz.ntmps178
 go_wp2
 go_ret;exact ⟨rfl,Below.refl _ _⟩
theorem nP {w:World} {v:Value} {L:List Sp} (h:SpansAt w v L):
 Calls Tryz.prog 178 #[v] w fun e w'=>e= .returned (.bool (dS L))∧Below w.heap.size w w':=by
 obtain ⟨ad,cap,rfl,hl⟩:=h
 by_cases h64:L.length≤64
 · rcases hl with rfl|⟨g,o,rfl,hg,hs⟩
   · exact MV ad cap w
   · exact JE L g o cap w h64 hg hs
 · have:dS L=false:=by unfold dS;rw [decide_eq_false h64];rfl
   rw [this];exact JF ad _ cap w (by omega)
end Go.Proofs.YtlmpiohbmlddiaaGreatDoor
