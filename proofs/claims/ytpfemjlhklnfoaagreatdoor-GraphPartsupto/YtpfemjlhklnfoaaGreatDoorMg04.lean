/- Gs1, Gs2, Gs3, Gf1: their declarations that are needed, laid in one text, remarks and blanks left out. -/
import Derived.Test.YtpfemjlhklnfoaaGreatDoorMg03
namespace Go.Proofs.YtpfemjlhklnfoaaGreatDoor
open Go.RowKit
set_option maxRecDepth 100000
def oK (p q:Eg):Bool:=decide (p.lb.toList=q.lb.toList)&&decide (p.to=q.to)
theorem lY {p q:Eg}:oK p q=true↔p=q:=by
 obtain ⟨s,a⟩:=p;obtain ⟨s',a'⟩:=q;unfold oK;simp only [Bool.and_eq_true,decide_eq_true_eq,Eg.mk.injEq];exact ⟨fun ⟨h1,h2⟩=>⟨Sc.bM h1,h2⟩,fun ⟨h1,h2⟩=>⟨by rw [h1],h2⟩⟩
theorem wP (op:BinOp) (x y:Operand) (xs ys:Array Value) (w:World):(eqGuard op 77 x y (.agg xs) (.agg ys)).run Tryz.prog w= .ok () w:=run_eqGuard_agg w op 77 x y xs ys (by kernel_rfl)
theorem zX (p q:Eg) (w:World):(binOp .neq 77 (.agg #[.string p.lb,.int .i64 p.to]) (.agg #[.string q.lb,.int .i64 q.to])).run Tryz.prog w= .ok (.bool (!(oK p q))) w:=by
 obtain ⟨s,a⟩:=p;obtain ⟨s',a'⟩:=q;have u3:=Tryz.underlying3;have a3:=Tryz.isAgg3;have z3:=Tryz.sizeOf3;have u9:=Tryz.underlying9;have a9:=Tryz.isAgg9;have z9:=Tryz.sizeOf9;rw [run_neq_struct,show (10000:Nat)=9999+1 from rfl,run_equalIn_agg w 9999 77 _ _ (by kernel_rfl) (by kernel_rfl)];simp only [Program.fieldsOf,Tryz.underlying77];unfold oK
 simp only
 by_cases hs:s.toList=s'.toList
 · obtain rfl:=Sc.bM hs
   by_cases ha:a=a'
   · subst ha
     go_simp
   · simp only [ha,decide_false,Bool.and_false]
     go_simp
 · simp only [hs,decide_false,Bool.false_and]
   go_simp
theorem cA (g o:Nat) (p:Pn):KeepP fun W=>PnIn W g o p:=fun _ _ h hb=>h.below hb
theorem qM (g o:Nat) (p:Eg):KeepP fun W=>EgIn W g o p:=fun _ _ h hb=>h.below hb
set_option maxHeartbeats 1600000 in
theorem rR (A B:List Pn) (hAB:A.length=B.length) (hsz:A.length≤9223372036854775807) (ga oa ca gb ob cb:Nat) (w:World) (hla:∀ i (h:i<A.length),PnIn w ga (oa+i*4) A[i]) (hlb:∀ i (h:i<B.length),PnIn w gb (ob+i*4) B[i]):
 Calls Tryz.prog 124 #[.slice (some ⟨ga,oa,none⟩) A.length ca,.slice (some ⟨gb,ob,none⟩) B.length cb] w fun e w'=>e= .returned (.bool (eqB A B))∧Below w.heap.size w w':=by
 have HL:Hid (∀ w1,Below w.heap.size w w1→∀ i (h:i<A.length) (h2:i<B.length),PnIn w1 ga (oa+i*4) A[i]∧PnIn w1 gb (ob+i*4) B[i]):=fun w1 hb i hi hi2=>⟨(hla i hi).below hb,(hlb i hi2).below hb⟩
 have HAB:=aA hAB;clear hla hlb;rw [←hAB];clear hAB
 go_enter Tryz.func124,Tryz.ntmps124
 go_wp2_with fail
 go_loopw [13] (fun i wr=>∃ k:Nat,k≤A.length∧i= .int .i64 k∧Below w.heap.size w wr∧∀ j (h:j<k) (h1:j<A.length) (h2:j<B.length),A[j]=B[j]) (fun i _=>A.length - (intOf i).toNat)
 case atStart=>exact ⟨0,Nat.zero_le _,rfl,Below.refl _ _,fun j h=>by omega⟩
 case round=>
  obtain ⟨k,hk,rfl,hb,hall⟩:=hrel;have HALL:=aA hall;have HB:=aA hb;clear hall
  by_cases hlt:k<A.length
  · have hltB:k<B.length:=HAB.out ▸ hlt
    have HO:Hid (Below w.heap.size w wr∧PnIn wr ga (oa+k*4) A[k]∧PnIn wr gb (ob+k*4) B[k]):=⟨hb,HL.out wr hb k hlt hltB⟩;have HK:Hid (KeepP fun w1=>Below w.heap.size w w1∧PnIn w1 ga (oa+k*4) A[k]∧PnIn w1 gb (ob+k*4) B[k]):=(aL w).and ((cA _ _ _).and (cA _ _ _));have HNE:Hid (bD A[k] B[k]=false→eqB A B=false):=fun h=>cD fun e=>by subst e;rw [(bI).2 rfl] at h;cases h
    have HST:Hid (bD A[k] B[k]=true→∀ j (h:j<k+1) (h1:j<A.length) (h2:j<B.length),A[j]=B[j]):=fun h j hj h1 h2=>by
     rcases Nat.lt_or_ge j k with hjk|hjk
     · exact HALL.out j hjk h1 h2
     · obtain rfl:j=k:=by omega
       exact bI.1 h
    have he:=qK A[k] B[k];generalize A[k]=s at*;generalize B[k]=t at*;have hgd:=eI;cases hq:bD s t
    · have HR:=aA (HNE.out hq)
      rw [hq] at he;clear hb HNE HST HALL
      go_wp2_with fail
      refine aX HK (by kernel_rfl) (by kernel_rfl) (by first|exact HO.out|exact HK.out.drew HO.out) ?_;intro C HIN HOUT;clear HO
      repeat
       (with_reducible refine wpQuiet_step (fun K hK=> ?_)
        go_simp
        first
         |(refine hK _ ?_;clear hK K)
         |(apply Exists.intro;refine ⟨fun w1 hC=> ?_,hK _ ?_⟩;(focus ((first|(exact rfl)|(obtain ⟨hb1,⟨⟨p0,p1,p2,p3⟩,p6⟩,⟨⟨q0,q1,q2,q3⟩,q6⟩⟩:=HOUT.out w1 hC;clear hC;go_simp;first|done|exact rfl));done));clear hK K))
      refine wpQuiet_nil ?_;intro wn hC;have HO:=aA (HOUT.out _ hC);clear hC HIN HOUT C;obtain ⟨hb1,⟨⟨p0,p1,p2,p3⟩,p6⟩,⟨⟨q0,q1,q2,q3⟩,q6⟩⟩:=HO.out
      go_wp2
      go_ret;exact ⟨aC HR.out.symm,HO.out.1⟩
    · have HR:=aA (HST.out hq)
      rw [hq] at he;clear hb HNE HST HALL
      go_wp2_with fail
      refine aX HK (by kernel_rfl) (by kernel_rfl) (by first|exact HO.out|exact HK.out.drew HO.out) ?_;intro C HIN HOUT;clear HO
      repeat
       (with_reducible refine wpQuiet_step (fun K hK=> ?_)
        go_simp
        first
         |(refine hK _ ?_;clear hK K)
         |(apply Exists.intro;refine ⟨fun w1 hC=> ?_,hK _ ?_⟩;(focus ((first|(exact rfl)|(obtain ⟨hb1,⟨⟨p0,p1,p2,p3⟩,p6⟩,⟨⟨q0,q1,q2,q3⟩,q6⟩⟩:=HOUT.out w1 hC;clear hC;go_simp;first|done|exact rfl));done));clear hK K))
      refine wpQuiet_nil ?_;intro wn hC;have HO:=aA (HOUT.out _ hC);clear hC HIN HOUT C;obtain ⟨hb1,⟨⟨p0,p1,p2,p3⟩,p6⟩,⟨⟨q0,q1,q2,q3⟩,q6⟩⟩:=HO.out
      go_wp2
      exact ⟨⟨k+1,by omega,by go_num,HO.out.1,HR.out⟩,by simp [intOf];omega⟩
  · have hke:k=A.length:=by omega
    subst hke;have HR:Hid (eqB A B=true):=aN (List.ext_getElem HAB.out fun j h1 h2=>HALL.out j h1 h1 h2);clear hb
    go_wp2
    go_ret;exact ⟨aC HR.out.symm,HB.out⟩
theorem lZ (ad bd:Option Addr) (ca cb:Nat) (w:World):
 Calls Tryz.prog 124 #[.slice ad 0 ca,.slice bd 0 cb] w fun e w'=>e= .returned (.bool true)∧Below w.heap.size w w':=by
 go_enter Tryz.func124,Tryz.ntmps124
 go_wp2_with fail
 go_loop [13] (fun i=>i= .int .i64 0) (fun _=>0)
 case atStart=>rfl
 case round=>
  subst hrel
  go_wp2
  go_ret;exact ⟨rfl,Below.refl _ _⟩
theorem uJ (ad bd:Option Addr) (n m ca cb:Nat) (h:n≠m) (w:World):
 Calls Tryz.prog 124 #[.slice ad n ca,.slice bd m cb] w fun e w'=>e= .returned (.bool false)∧Below w.heap.size w w':=by
 have hn:((n:Int)=(m:Int))=False:=by simp;omega
 go_enter Tryz.func124,Tryz.ntmps124
 go_wp2
 go_ret;exact ⟨rfl,Below.refl _ _⟩
theorem uK {A B:List Pn} {va vb:Value} {w:World} (ha:PinsAt w va A) (hb:PinsAt w vb B) (hsz:A.length≤9223372036854775807):
 Calls Tryz.prog 124 #[va,vb] w fun e w'=>e= .returned (.bool (eqB A B))∧Below w.heap.size w w':=by
 obtain ⟨ad,ca,rfl,_,hl⟩:=ha;obtain ⟨bd,cb,rfl,_,hm⟩:=hb
 by_cases hn:A.length=B.length
 · rcases hl with rfl|⟨ga,oa,rfl,hga,hla⟩
   · obtain rfl:B=[]:=List.eq_nil_of_length_eq_zero (by simpa using hn.symm)
     rw [aN rfl];exact lZ _ _ _ _ w
   · rcases hm with rfl|⟨gb,ob,rfl,hgb,hlb⟩
     · obtain rfl:A=[]:=List.eq_nil_of_length_eq_zero (by simpa using hn)
       rw [aN rfl];exact lZ _ _ _ _ w
     · exact rR A B hn hsz ga oa ca gb ob cb w hla hlb
 · rw [cD fun e=>hn (by rw [e])]
   exact uJ _ _ _ _ _ _ hn w
set_option maxHeartbeats 1600000 in
theorem rS (A B:List Eg) (hAB:A.length=B.length) (hsz:A.length≤9223372036854775807) (ga oa ca gb ob cb:Nat) (w:World) (hla:∀ i (h:i<A.length),EgIn w ga (oa+i*2) A[i]) (hlb:∀ i (h:i<B.length),EgIn w gb (ob+i*2) B[i]):
 Calls Tryz.prog 128 #[.slice (some ⟨ga,oa,none⟩) A.length ca,.slice (some ⟨gb,ob,none⟩) B.length cb] w fun e w'=>e= .returned (.bool (eqB A B))∧Below w.heap.size w w':=by
 have HL:Hid (∀ w1,Below w.heap.size w w1→∀ i (h:i<A.length) (h2:i<B.length),EgIn w1 ga (oa+i*2) A[i]∧EgIn w1 gb (ob+i*2) B[i]):=fun w1 hb i hi hi2=>⟨(hla i hi).below hb,(hlb i hi2).below hb⟩
 have HAB:=aA hAB;clear hla hlb;rw [←hAB];clear hAB
 go_enter Tryz.func128,Tryz.ntmps128
 go_wp2_with fail
 go_loopw [13] (fun i wr=>∃ k:Nat,k≤A.length∧i= .int .i64 k∧Below w.heap.size w wr∧∀ j (h:j<k) (h1:j<A.length) (h2:j<B.length),A[j]=B[j]) (fun i _=>A.length - (intOf i).toNat)
 case atStart=>exact ⟨0,Nat.zero_le _,rfl,Below.refl _ _,fun j h=>by omega⟩
 case round=>
  obtain ⟨k,hk,rfl,hb,hall⟩:=hrel;have HALL:=aA hall;have HB:=aA hb;clear hall
  by_cases hlt:k<A.length
  · have hltB:k<B.length:=HAB.out ▸ hlt
    have HO:Hid (Below w.heap.size w wr∧EgIn wr ga (oa+k*2) A[k]∧EgIn wr gb (ob+k*2) B[k]):=⟨hb,HL.out wr hb k hlt hltB⟩;have HK:Hid (KeepP fun w1=>Below w.heap.size w w1∧EgIn w1 ga (oa+k*2) A[k]∧EgIn w1 gb (ob+k*2) B[k]):=(aL w).and ((qM _ _ _).and (qM _ _ _));have HNE:Hid (oK A[k] B[k]=false→eqB A B=false):=fun h=>cD fun e=>by subst e;rw [(lY).2 rfl] at h;cases h
    have HST:Hid (oK A[k] B[k]=true→∀ j (h:j<k+1) (h1:j<A.length) (h2:j<B.length),A[j]=B[j]):=fun h j hj h1 h2=>by
     rcases Nat.lt_or_ge j k with hjk|hjk
     · exact HALL.out j hjk h1 h2
     · obtain rfl:j=k:=by omega
       exact lY.1 h
    have he:=zX A[k] B[k];generalize A[k]=s at*;generalize B[k]=t at*;have hgd:=wP;cases hq:oK s t
    · have HR:=aA (HNE.out hq)
      rw [hq] at he;clear hb HNE HST HALL
      go_wp2_with fail
      refine aX HK (by kernel_rfl) (by kernel_rfl) (by first|exact HO.out|exact HK.out.drew HO.out) ?_;intro C HIN HOUT;clear HO
      repeat
       (with_reducible refine wpQuiet_step (fun K hK=> ?_)
        go_simp
        first
         |(refine hK _ ?_;clear hK K)
         |(apply Exists.intro;refine ⟨fun w1 hC=> ?_,hK _ ?_⟩;(focus ((first|(exact rfl)|(obtain ⟨hb1,⟨⟨p0,p1⟩,p6⟩,⟨⟨q0,q1⟩,q6⟩⟩:=HOUT.out w1 hC;clear hC;go_simp;first|done|exact rfl));done));clear hK K))
      refine wpQuiet_nil ?_;intro wn hC;have HO:=aA (HOUT.out _ hC);clear hC HIN HOUT C;obtain ⟨hb1,⟨⟨p0,p1⟩,p6⟩,⟨⟨q0,q1⟩,q6⟩⟩:=HO.out
      go_wp2
      go_ret;exact ⟨aC HR.out.symm,HO.out.1⟩
    · have HR:=aA (HST.out hq)
      rw [hq] at he;clear hb HNE HST HALL
      go_wp2_with fail
      refine aX HK (by kernel_rfl) (by kernel_rfl) (by first|exact HO.out|exact HK.out.drew HO.out) ?_;intro C HIN HOUT;clear HO
      repeat
       (with_reducible refine wpQuiet_step (fun K hK=> ?_)
        go_simp
        first
         |(refine hK _ ?_;clear hK K)
         |(apply Exists.intro;refine ⟨fun w1 hC=> ?_,hK _ ?_⟩;(focus ((first|(exact rfl)|(obtain ⟨hb1,⟨⟨p0,p1⟩,p6⟩,⟨⟨q0,q1⟩,q6⟩⟩:=HOUT.out w1 hC;clear hC;go_simp;first|done|exact rfl));done));clear hK K))
      refine wpQuiet_nil ?_;intro wn hC;have HO:=aA (HOUT.out _ hC);clear hC HIN HOUT C;obtain ⟨hb1,⟨⟨p0,p1⟩,p6⟩,⟨⟨q0,q1⟩,q6⟩⟩:=HO.out
      go_wp2
      exact ⟨⟨k+1,by omega,by go_num,HO.out.1,HR.out⟩,by simp [intOf];omega⟩
  · have hke:k=A.length:=by omega
    subst hke;have HR:Hid (eqB A B=true):=aN (List.ext_getElem HAB.out fun j h1 h2=>HALL.out j h1 h1 h2);clear hb
    go_wp2
    go_ret;exact ⟨aC HR.out.symm,HB.out⟩
theorem mA (ad bd:Option Addr) (ca cb:Nat) (w:World):
 Calls Tryz.prog 128 #[.slice ad 0 ca,.slice bd 0 cb] w fun e w'=>e= .returned (.bool true)∧Below w.heap.size w w':=by
 go_enter Tryz.func128,Tryz.ntmps128
 go_wp2_with fail
 go_loop [13] (fun i=>i= .int .i64 0) (fun _=>0)
 case atStart=>rfl
 case round=>
  subst hrel
  go_wp2
  go_ret;exact ⟨rfl,Below.refl _ _⟩
theorem uL (ad bd:Option Addr) (n m ca cb:Nat) (h:n≠m) (w:World):
 Calls Tryz.prog 128 #[.slice ad n ca,.slice bd m cb] w fun e w'=>e= .returned (.bool false)∧Below w.heap.size w w':=by
 have hn:((n:Int)=(m:Int))=False:=by simp;omega
 go_enter Tryz.func128,Tryz.ntmps128
 go_wp2
 go_ret;exact ⟨rfl,Below.refl _ _⟩
theorem uM {A B:List Eg} {va vb:Value} {w:World} (ha:EdgesAt w va A) (hb:EdgesAt w vb B) (hsz:A.length≤9223372036854775807):
 Calls Tryz.prog 128 #[va,vb] w fun e w'=>e= .returned (.bool (eqB A B))∧Below w.heap.size w w':=by
 obtain ⟨ad,ca,rfl,_,hl⟩:=ha;obtain ⟨bd,cb,rfl,_,hm⟩:=hb
 by_cases hn:A.length=B.length
 · rcases hl with rfl|⟨ga,oa,rfl,hga,hla⟩
   · obtain rfl:B=[]:=List.eq_nil_of_length_eq_zero (by simpa using hn.symm)
     rw [aN rfl];exact mA _ _ _ _ w
   · rcases hm with rfl|⟨gb,ob,rfl,hgb,hlb⟩
     · obtain rfl:A=[]:=List.eq_nil_of_length_eq_zero (by simpa using hn)
       rw [aN rfl];exact mA _ _ _ _ w
     · exact rS A B hn hsz ga oa ca gb ob cb w hla hlb
 · rw [cD fun e=>hn (by rw [e])]
   exact uL _ _ _ _ _ _ hn w
theorem zA {α:Type} {x y:α} {b:Bool} (h:x=y↔b=true):eqB x y=b:=by
 cases b
 · exact cD fun e=>by cases h.1 e
 · exact aN (h.2 rfl)
def bV (n:Nd):Pn:=⟨n.nm,n.a,n.b,n.c⟩
noncomputable def bW (n m:Nd):Bool:=bD (bV n) (bV m)&&eqB n.cx m.cx
theorem uN {n m:Nd}:bW n m=true↔bV n=bV m∧n.cx=m.cx:=by
 unfold bW;rw [Bool.and_eq_true,bI,kP]
theorem wQ {n m:Nd}:(bW n m&&eqB n.ed m.ed)=eqB n m:=by
 obtain ⟨s,a,b,c,cx,ed⟩:=n;obtain ⟨s',a',b',c',cx',ed'⟩:=m;refine (zA ?_).symm;rw [Bool.and_eq_true,uN,kP];unfold bV;simp only [Nd.mk.injEq,Pn.mk.injEq];exact ⟨fun ⟨h1,h2,h3,h4,h5,h6⟩=>⟨⟨⟨h1,h2,h3,h4⟩,h5⟩,h6⟩,fun ⟨⟨⟨h1,h2,h3,h4⟩,h5⟩,h6⟩=>⟨h1,h2,h3,h4,h5,h6⟩⟩
theorem gC {s:ByteArray} {a b c:Int} {vc ve:Value} {w:World} (hc:∃ ad n cap,vc= .slice ad n cap) (he:∃ ad n cap,ve= .slice ad n cap):Calls Tryz.prog 74 #[.agg #[.string s,.int .i64 a,.int .i64 b,.int .i64 c,vc,ve]] w fun e w'=>e= .returned (.agg #[.string s,.int .i64 a,.int .i64 b,.int .i64 c])∧Below w.heap.size w w':=by
 obtain ⟨a1,n1,c1,rfl⟩:=hc;obtain ⟨a2,n2,c2,rfl⟩:=he;have HB:Hid (Below w.heap.size w ((w.alloc (.cells #[.string s,.int .i64 a,.int .i64 b,.int .i64 c,.slice a1 n1 c1,.slice a2 n2 c2] 67)).alloc (.cells #[.string s,.int .i64 a,.int .i64 b,.int .i64 c] 80))):=aM _ _ _
 go_enter Tryz.func74,Tryz.ntmps74
 go_wp2
 try simp only [Exit.inBlock,Exit.then]
 refine bodyPost_ret (by simp [results,Tryz.results74,go_sem];try rfl) rfl ?_;exact ⟨rfl,HB.out⟩
set_option maxHeartbeats 1600000 in
theorem gD {n m:Nd} {vc ve uc ue:Value} {w:World} (hc:PinsAt w vc n.cx) (he:∃ ad k cap,ve= .slice ad k cap) (hd:PinsAt w uc m.cx) (hf:∃ ad k cap,ue= .slice ad k cap) (hz:n.cx.length≤9223372036854775807):
 Calls Tryz.prog 70 #[.agg #[.string n.nm,.int .i64 n.a,.int .i64 n.b,.int .i64 n.c,vc,ve],.agg #[.string m.nm,.int .i64 m.a,.int .i64 m.b,.int .i64 m.c,uc,ue]] w fun e w'=>e= .returned (.bool (bW n m))∧Below w.heap.size w w':=by
 have HE:Hid (∀ w1,Below w.heap.size w w1→Calls Tryz.prog 124 #[vc,uc] w1 fun x w'=>x= .returned (.bool (eqB n.cx m.cx))∧Below w1.heap.size w1 w'):=fun w1 h=>uK (hc.below h) (hd.below h) hz
 have HP1:Hid (∀ w1,Calls Tryz.prog 74 #[.agg #[.string n.nm,.int .i64 n.a,.int .i64 n.b,.int .i64 n.c,vc,ve]] w1 fun x w'=>x= .returned (.agg #[.string n.nm,.int .i64 n.a,.int .i64 n.b,.int .i64 n.c])∧Below w1.heap.size w1 w'):=fun w1=>gC (let ⟨ad,cap,h⟩:=hc.sl;⟨ad,_,cap,h⟩) he
 have HP2:Hid (∀ w1,Calls Tryz.prog 74 #[.agg #[.string m.nm,.int .i64 m.a,.int .i64 m.b,.int .i64 m.c,uc,ue]] w1 fun x w'=>x= .returned (.agg #[.string m.nm,.int .i64 m.a,.int .i64 m.b,.int .i64 m.c])∧Below w1.heap.size w1 w'):=fun w1=>gC (let ⟨ad,cap,h⟩:=hd.sl;⟨ad,_,cap,h⟩) hf
 have hv:=uF (bV n) (bV m);have hgd:=eI;have HA:Hid (bW n m=(bD (bV n) (bV m)&&eqB n.cx m.cx)):=rfl;obtain ⟨ac,cc,rfl⟩:=hc.sl;obtain ⟨uc',cd,rfl⟩:=hd.sl;obtain ⟨ae,ke,ce,rfl⟩:=he;obtain ⟨af,kf,cf,rfl⟩:=hf;clear hc hd hz;generalize bW n m=ab at*;generalize eqB n.cx m.cx=eb at*;generalize bD (bV n) (bV m)=pb at*;unfold bV at hv
 simp only at hv
 have HK:Hid (KeepP fun w1=>Below w.heap.size w w1∧BxNd w1 w.heap.size n (.slice ac n.cx.length cc) (.slice ae ke ce)∧BxNd w1 (w.heap.size+1) m (.slice uc' m.cx.length cd) (.slice af kf cf)):=(aL w).and ((aJ _ _ _ _).and (aJ _ _ _ _))
 have HO:Hid (Below w.heap.size w ((w.alloc (.cells #[.string n.nm,.int .i64 n.a,.int .i64 n.b,.int .i64 n.c,.slice ac n.cx.length cc,.slice ae ke ce] 67)).alloc (.cells #[.string m.nm,.int .i64 m.a,.int .i64 m.b,.int .i64 m.c,.slice uc' m.cx.length cd,.slice af kf cf] 67))∧BxNd ((w.alloc (.cells #[.string n.nm,.int .i64 n.a,.int .i64 n.b,.int .i64 n.c,.slice ac n.cx.length cc,.slice ae ke ce] 67)).alloc (.cells #[.string m.nm,.int .i64 m.a,.int .i64 m.b,.int .i64 m.c,.slice uc' m.cx.length cd,.slice af kf cf] 67)) w.heap.size n (.slice ac n.cx.length cc) (.slice ae ke ce)∧BxNd ((w.alloc (.cells #[.string n.nm,.int .i64 n.a,.int .i64 n.b,.int .i64 n.c,.slice ac n.cx.length cc,.slice ae ke ce] 67)).alloc (.cells #[.string m.nm,.int .i64 m.a,.int .i64 m.b,.int .i64 m.c,.slice uc' m.cx.length cd,.slice af kf cf] 67)) (w.heap.size+1) m (.slice uc' m.cx.length cd) (.slice af kf cf)):=
  ⟨aM _ _ _,aJ _ _ _ _ _ _ (BxNd.new rfl _ _ _) (aD _ _),BxNd.new (by simp) _ _ _⟩
 cases pb
 · go_enter Tryz.func70,Tryz.ntmps70
   go_wp2_with fail
   generalize ((w.alloc (.cells #[.string n.nm,.int .i64 n.a,.int .i64 n.b,.int .i64 n.c,.slice ac n.cx.length cc,.slice ae ke ce] 67)).alloc (.cells #[.string m.nm,.int .i64 m.a,.int .i64 m.b,.int .i64 m.c,.slice uc' m.cx.length cd,.slice af kf cf] 67))=W0 at*;refine aX HK (by kernel_rfl) (by kernel_rfl) (by first|exact HO.out|exact HK.out.drew HO.out) ?_;intro C HIN HOUT;clear HO
   repeat
    (with_reducible refine wpQuiet_step (fun K hK=> ?_)
     go_simp
     first
      |(refine hK _ ?_;clear hK K)
      |(apply Exists.intro;refine ⟨fun w1 hC=> ?_,hK _ ?_⟩;(focus ((first|(go_at_call 74;with_reducible exact bL HIN HOUT HK HP1.out w1 hC)|(go_at_call 74;with_reducible exact bL HIN HOUT HK HP2.out w1 hC)|(exact rfl)|(obtain ⟨hb1,⟨⟨p0,p1,p2,p3,p4,p5⟩,p6⟩,⟨⟨q0,q1,q2,q3,q4,q5⟩,q6⟩⟩:=HOUT.out w1 hC;clear hC;go_simp;first|done|exact rfl));done));clear hK K))
   refine wpQuiet_nil ?_;intro wn hC;have HO:=aA (HOUT.out _ hC);clear hC HIN HOUT C;obtain ⟨hb1,⟨⟨p0,p1,p2,p3,p4,p5⟩,p6⟩,⟨⟨q0,q1,q2,q3,q4,q5⟩,q6⟩⟩:=HO.out
   go_wp2
   go_ret;exact ⟨aC HA.out.symm,hb1⟩
 · go_enter Tryz.func70,Tryz.ntmps70
   go_wp2_with fail
   generalize ((w.alloc (.cells #[.string n.nm,.int .i64 n.a,.int .i64 n.b,.int .i64 n.c,.slice ac n.cx.length cc,.slice ae ke ce] 67)).alloc (.cells #[.string m.nm,.int .i64 m.a,.int .i64 m.b,.int .i64 m.c,.slice uc' m.cx.length cd,.slice af kf cf] 67))=W0 at*;refine aX HK (by kernel_rfl) (by kernel_rfl) (by first|exact HO.out|exact HK.out.drew HO.out) ?_;intro C HIN HOUT;clear HO
   repeat
    (with_reducible refine wpQuiet_step (fun K hK=> ?_)
     go_simp
     first
      |(refine hK _ ?_;clear hK K)
      |(apply Exists.intro;refine ⟨fun w1 hC=> ?_,hK _ ?_⟩;(focus ((first|(go_at_call 74;with_reducible exact bL HIN HOUT HK HP1.out w1 hC)|(go_at_call 74;with_reducible exact bL HIN HOUT HK HP2.out w1 hC)|(go_at_call 124;with_reducible exact cT HIN HOUT HK (fun w1 hk=>HE.out w1 hk.1) w1 hC)|(exact rfl)|(obtain ⟨hb1,⟨⟨p0,p1,p2,p3,p4,p5⟩,p6⟩,⟨⟨q0,q1,q2,q3,q4,q5⟩,q6⟩⟩:=HOUT.out w1 hC;clear hC;go_simp;first|done|exact rfl));done));clear hK K))
   refine wpQuiet_nil ?_;intro wn hC;have HO:=aA (HOUT.out _ hC);clear hC HIN HOUT C;obtain ⟨hb1,⟨⟨p0,p1,p2,p3,p4,p5⟩,p6⟩,⟨⟨q0,q1,q2,q3,q4,q5⟩,q6⟩⟩:=HO.out
   go_wp2
   go_ret;exact ⟨aC HA.out.symm,hb1⟩
set_option maxHeartbeats 1600000 in
theorem kQ {n m:Nd} {vc ve uc ue:Value} {w:World} (hc:PinsAt w vc n.cx) (he:EdgesAt w ve n.ed) (hd:PinsAt w uc m.cx) (hf:EdgesAt w ue m.ed) (hz:n.cx.length≤9223372036854775807∧n.ed.length≤9223372036854775807):
 Calls Tryz.prog 81 #[.agg #[.string n.nm,.int .i64 n.a,.int .i64 n.b,.int .i64 n.c,vc,ve],.agg #[.string m.nm,.int .i64 m.a,.int .i64 m.b,.int .i64 m.c,uc,ue]] w fun e w'=>e= .returned (.bool (eqB n m))∧Below w.heap.size w w':=by
 rw [←wQ];have HE:Hid (∀ w1,Below w.heap.size w w1→Calls Tryz.prog 128 #[ve,ue] w1 fun x w'=>x= .returned (.bool (eqB n.ed m.ed))∧Below w1.heap.size w1 w'):=fun w1 h=>uM (he.below h) (hf.below h) hz.2
 have HK:Hid (∀ w1,Below w.heap.size w w1→Calls Tryz.prog 70 #[.agg #[.string n.nm,.int .i64 n.a,.int .i64 n.b,.int .i64 n.c,vc,ve],.agg #[.string m.nm,.int .i64 m.a,.int .i64 m.b,.int .i64 m.c,uc,ue]] w1 fun x w'=>x= .returned (.bool (bW n m))∧Below w1.heap.size w1 w'):=fun w1 h=>gD (hc.below h) (let ⟨ad,cap,h⟩:=he.sl;⟨ad,_,cap,h⟩) (hd.below h) (let ⟨ad,cap,h⟩:=hf.sl;⟨ad,_,cap,h⟩) hz.1
 obtain ⟨ac,cc,rfl⟩:=hc.sl;obtain ⟨uc',cd,rfl⟩:=hd.sl;obtain ⟨ae,ce,rfl⟩:=he.sl;obtain ⟨af,cf,rfl⟩:=hf.sl;clear hc hd he hf hz;generalize bW n m=ab at*;generalize eqB n.ed m.ed=eb at*
 have HO:Hid (Below w.heap.size w ((w.alloc (.cells #[.string n.nm,.int .i64 n.a,.int .i64 n.b,.int .i64 n.c,.slice ac n.cx.length cc,.slice ae n.ed.length ce] 67)).alloc (.cells #[.string m.nm,.int .i64 m.a,.int .i64 m.b,.int .i64 m.c,.slice uc' m.cx.length cd,.slice af m.ed.length cf] 67))∧BxNd ((w.alloc (.cells #[.string n.nm,.int .i64 n.a,.int .i64 n.b,.int .i64 n.c,.slice ac n.cx.length cc,.slice ae n.ed.length ce] 67)).alloc (.cells #[.string m.nm,.int .i64 m.a,.int .i64 m.b,.int .i64 m.c,.slice uc' m.cx.length cd,.slice af m.ed.length cf] 67)) w.heap.size n (.slice ac n.cx.length cc) (.slice ae n.ed.length ce)∧BxNd ((w.alloc (.cells #[.string n.nm,.int .i64 n.a,.int .i64 n.b,.int .i64 n.c,.slice ac n.cx.length cc,.slice ae n.ed.length ce] 67)).alloc (.cells #[.string m.nm,.int .i64 m.a,.int .i64 m.b,.int .i64 m.c,.slice uc' m.cx.length cd,.slice af m.ed.length cf] 67)) (w.heap.size+1) m (.slice uc' m.cx.length cd) (.slice af m.ed.length cf)):=
  ⟨aM _ _ _,aJ _ _ _ _ _ _ (BxNd.new rfl _ _ _) (aD _ _),BxNd.new (by simp) _ _ _⟩
 generalize hn1:n.cx.length=l1 at*;generalize hn2:m.cx.length=l2 at*;generalize hn3:n.ed.length=l3 at*;generalize hn4:m.ed.length=l4 at*;clear hn1 hn2 hn3 hn4
 go_enter Tryz.func81,Tryz.ntmps81
 cases ab
 · go_wp2_with (go_at_call 70;refine (HK.out _ HO.out.1).mono ?_;rintro x w1 ⟨rfl,ok⟩;have HO1:=aA (aB HO.out.1 ok);clear ok)
   go_ret;exact ⟨rfl,HO1.out⟩
 · go_wp2_with (first
    |(go_at_call 70;refine (HK.out _ HO.out.1).mono ?_;rintro x w1 ⟨rfl,ok⟩;have HO1:Hid (Below w.heap.size w w1∧BxNd w1 w.heap.size n (.slice ac l1 cc) (.slice ae l3 ce)∧BxNd w1 (w.heap.size+1) m (.slice uc' l2 cd) (.slice af l4 cf)):=⟨aB HO.out.1 ok,aJ _ _ _ _ _ _ HO.out.2.1 ok,aJ _ _ _ _ _ _ HO.out.2.2 ok⟩;obtain ⟨_,⟨⟨p0,p1,p2,p3,p4,p5⟩,p6⟩,⟨⟨q0,q1,q2,q3,q4,q5⟩,q6⟩⟩:=HO1.out;clear ok)
    |(go_at_call 128;refine (HE.out _ HO1.out.1).mono ?_;rintro x w2 ⟨rfl,ok⟩;have HO2:=aA (aB HO1.out.1 ok);clear ok))
   go_ret;exact ⟨rfl,HO2.out⟩
def SzN (n:Nd):Prop:=n.cx.length≤9223372036854775807∧n.ed.length≤9223372036854775807
theorem NodesAt.sl {w:World} {v:Value} {L:List Nd} (h:NodesAt w v L):∃ ad cap,v= .slice ad L.length cap:=by
 obtain ⟨ad,cap,hv,_⟩:=h;exact ⟨ad,cap,hv⟩
set_option maxHeartbeats 3200000 in
theorem rT (A B:List Nd) (hAB:A.length=B.length) (hsz:A.length≤9223372036854775807) (hzn:∀ n ∈ A,SzN n) (ga oa ca gb ob cb:Nat) (w:World) (hla:∀ i (h:i<A.length),∃ vc ve,NdIn w ga (oa+i*6) A[i] vc ve) (hlb:∀ i (h:i<B.length),∃ vc ve,NdIn w gb (ob+i*6) B[i] vc ve):
 Calls Tryz.prog 80 #[.slice (some ⟨ga,oa,none⟩) A.length ca,.slice (some ⟨gb,ob,none⟩) B.length cb,.func (.func 81) #[] #[]] w fun e w'=>e= .returned (.bool (eqB A B))∧Below w.heap.size w w':=by
 have HL:Hid (∀ w1,Below w.heap.size w w1→∀ i (h:i<A.length) (h2:i<B.length),(∃ vc ve,NdIn w1 ga (oa+i*6) A[i] vc ve)∧∃ vc ve,NdIn w1 gb (ob+i*6) B[i] vc ve):=fun w1 hb i hi hi2=>⟨let ⟨x,y,h⟩:=hla i hi;⟨x,y,h.below hb⟩,let ⟨x,y,h⟩:=hlb i hi2;⟨x,y,h.below hb⟩⟩
 have HAB:=aA hAB;have HZN:=aA hzn;clear hla hlb hzn;rw [←hAB];clear hAB
 go_enter Tryz.func80,Tryz.ntmps80
 go_wp2_with fail
 go_loopw [17] (fun i wr=>∃ k:Nat,k≤A.length∧i= .int .i64 k∧Below w.heap.size w wr∧∀ j (h:j<k) (h1:j<A.length) (h2:j<B.length),A[j]=B[j]) (fun i _=>A.length - (intOf i).toNat)
 case atStart=>exact ⟨0,Nat.zero_le _,rfl,Below.refl _ _,fun j h=>by omega⟩
 case round=>
  obtain ⟨k,hk,rfl,hb,hall⟩:=hrel;have HALL:=aA hall;have HB:=aA hb;clear hall
  by_cases hlt:k<A.length
  · have hltB:k<B.length:=HAB.out ▸ hlt
    obtain ⟨⟨vc,ve,hx⟩,uc,ue,hy⟩:=HL.out wr hb k hlt hltB;have hz:=HZN.out _ (List.getElem_mem hlt);have HC:Hid (∀ w1,Below wr.heap.size wr w1→Calls Tryz.prog 81 #[.agg #[.string A[k].nm,.int .i64 A[k].a,.int .i64 A[k].b,.int .i64 A[k].c,vc,ve],.agg #[.string B[k].nm,.int .i64 B[k].a,.int .i64 B[k].b,.int .i64 B[k].c,uc,ue]] w1 fun x w'=>x= .returned (.bool (eqB A[k] B[k]))∧Below w1.heap.size w1 w'):=fun w1 h=>kQ (hx.2.1.1.below h) (hx.2.1.2.below h) (hy.2.1.1.below h) (hy.2.1.2.below h) hz
    have HNE:Hid (eqB A[k] B[k]=false→eqB A B=false):=fun h=>cD fun e=>by subst e;rw [aN rfl] at h;cases h
    have HST:Hid (eqB A[k] B[k]=true→∀ j (h:j<k+1) (h1:j<A.length) (h2:j<B.length),A[j]=B[j]):=fun h j hj h1 h2=>by
     rcases Nat.lt_or_ge j k with hjk|hjk
     · exact HALL.out j hjk h1 h2
     · obtain rfl:j=k:=by omega
       exact kP.1 h
    generalize eqB A[k] B[k]=b at*;generalize A[k]=x at*;generalize B[k]=y at*;obtain ⟨av,cv,rfl⟩:=hx.2.1.1.sl;obtain ⟨ae,ce,rfl⟩:=hx.2.1.2.sl;obtain ⟨bv,dv,rfl⟩:=hy.2.1.1.sl;obtain ⟨be,de,rfl⟩:=hy.2.1.2.sl;have HY1:=aA (hy.below (aD wr (.cells #[.string x.nm,.int .i64 x.a,.int .i64 x.b,.int .i64 x.c,.slice av x.cx.length cv,.slice ae x.ed.length ce] 67)));obtain ⟨⟨x0,x1,x2,x3,x4,x5⟩,_,x6⟩:=hx;obtain ⟨⟨f0,f1,f2,f3,f4,f5⟩,_,f6⟩:=HY1.out;clear HY1 hy hz;generalize x.cx.length=l1 at*;generalize x.ed.length=l2 at*;generalize y.cx.length=l3 at*;generalize y.ed.length=l4 at*;cases b
    · have HR:=aA (HNE.out rfl)
      clear hb HNE HST HALL
      go_wp2_with (go_at_call 81;refine (HC.out _ (aM _ _ _)).mono ?_;rintro x w1 ⟨rfl,ok⟩)
      go_ret;exact ⟨aC HR.out.symm,aB HB.out (aB (aM _ _ _) ok)⟩
    · have HR:=aA (HST.out rfl)
      clear hb HNE HST HALL
      go_wp2_with (go_at_call 81;refine (HC.out _ (aM _ _ _)).mono ?_;rintro x w1 ⟨rfl,ok⟩)
      exact ⟨⟨k+1,by omega,by go_num,aB HB.out (aB (aM _ _ _) ok),HR.out⟩,by simp [intOf];omega⟩
  · have hke:k=A.length:=by omega
    subst hke;have HR:Hid (eqB A B=true):=aN (List.ext_getElem HAB.out fun j h1 h2=>HALL.out j h1 h1 h2);clear hb
    go_wp2
    go_ret;exact ⟨aC HR.out.symm,HB.out⟩
theorem mB (ad bd:Option Addr) (ca cb:Nat) (w:World):
 Calls Tryz.prog 80 #[.slice ad 0 ca,.slice bd 0 cb,.func (.func 81) #[] #[]] w fun e w'=>e= .returned (.bool true)∧Below w.heap.size w w':=by
 go_enter Tryz.func80,Tryz.ntmps80
 go_wp2_with fail
 go_loop [17] (fun i=>i= .int .i64 0) (fun _=>0)
 case atStart=>rfl
 case round=>
  subst hrel
  go_wp2
  go_ret;exact ⟨rfl,Below.refl _ _⟩
theorem uO (ad bd:Option Addr) (n m ca cb:Nat) (h:n≠m) (w:World):
 Calls Tryz.prog 80 #[.slice ad n ca,.slice bd m cb,.func (.func 81) #[] #[]] w fun e w'=>e= .returned (.bool false)∧Below w.heap.size w w':=by
 have hn:((n:Int)=(m:Int))=False:=by simp;omega
 go_enter Tryz.func80,Tryz.ntmps80
 go_wp2
 go_ret;exact ⟨rfl,Below.refl _ _⟩
theorem uP {A B:List Nd} {va vb:Value} {w:World} (ha:NodesAt w va A) (hb:NodesAt w vb B) (hsz:A.length≤9223372036854775807) (hzn:∀ n ∈ A,SzN n):
 Calls Tryz.prog 80 #[va,vb,.func (.func 81) #[] #[]] w fun e w'=>e= .returned (.bool (eqB A B))∧Below w.heap.size w w':=by
 obtain ⟨ad,ca,rfl,_,hl⟩:=ha;obtain ⟨bd,cb,rfl,_,hm⟩:=hb
 by_cases hn:A.length=B.length
 · rcases hl with rfl|⟨ga,oa,rfl,hga,hla⟩
   · obtain rfl:B=[]:=List.eq_nil_of_length_eq_zero (by simpa using hn.symm)
     rw [aN rfl];exact mB _ _ _ _ w
   · rcases hm with rfl|⟨gb,ob,rfl,hgb,hlb⟩
     · obtain rfl:A=[]:=List.eq_nil_of_length_eq_zero (by simpa using hn)
       rw [aN rfl];exact mB _ _ _ _ w
     · exact rT A B hn hsz hzn ga oa ca gb ob cb w hla hlb
 · rw [cD fun e=>hn (by rw [e])]
   exact uO _ _ _ _ _ _ hn w
theorem rU {A B:List Nd} {va vb:Value} {w:World} (ha:NodesAt w va A) (hb:NodesAt w vb B) (hsz:A.length≤9223372036854775807) (hzn:∀ n ∈ A,SzN n):
 Calls Tryz.prog 38 #[.agg #[va],.agg #[vb]] w fun e w'=>e= .returned (.bool (eqB A B))∧Below w.heap.size w w':=by
 have HE:Hid (∀ w1,Below w.heap.size w w1→Calls Tryz.prog 80 #[va,vb,.func (.func 81) #[] #[]] w1 fun e w'=>e= .returned (.bool (eqB A B))∧Below w1.heap.size w1 w'):=fun w1 h=>uP (ha.below h) (hb.below h) hsz hzn
 obtain ⟨ad,ca,rfl⟩:=ha.sl;obtain ⟨bd,cb,rfl⟩:=hb.sl;clear ha hb hsz hzn
 go_enter Tryz.func38,Tryz.ntmps38
 go_wp2_with (go_at_call 80;refine (HE.out _ (aM _ _ _)).mono ?_;rintro x w1 ⟨rfl,ok⟩)
 go_ret;exact ⟨rfl,aB (aM _ _ _) ok⟩
noncomputable def cE {α:Type} (p:α→Bool) (L:List α):Int:=match L.findIdx? p with
 |some i=>(i:Int)
 |none=> -1
theorem fH {α:Type} {p:α→Bool} {L:List α} {k:Nat} (hk:k<L.length) (h:p L[k]=true) (hall:∀ j (_:j<k) (h1:j<L.length),p L[j]=false):cE p L=k:=by
 have e:L.findIdx? p=some k:=by
  rw [List.findIdx?_eq_some_iff_getElem];exact ⟨hk,h,fun j hj=>by rw [hall j hj (by omega)];simp⟩
 unfold cE;rw [e]
theorem fI {α:Type} {p:α→Bool} {L:List α} (hall:∀ j (h1:j<L.length),p L[j]=false):cE p L= -1:=by
 have e:L.findIdx? p=none:=by
  rw [List.findIdx?_eq_none_iff];intro d hd;obtain ⟨i,hi,rfl⟩:=List.getElem_of_mem hd;exact hall i hi
 unfold cE;rw [e]
theorem iK {α:Type} (p:α→Bool) (L:List α):(0≤cE p L∧L.any p=true)∨(cE p L= -1∧L.any p=false):=by
 cases e:L.findIdx? p with
 |none=>
  refine Or.inr ⟨by unfold cE;rw [e],?_⟩;rw [List.findIdx?_eq_none_iff] at e;rw [List.any_eq_false];exact fun x hx=>by rw [e x hx];simp
 |some k=>
  refine Or.inl ⟨by unfold cE;rw [e];exact Int.natCast_nonneg k,?_⟩;rw [List.findIdx?_eq_some_iff_getElem] at e;obtain ⟨hk,h,_⟩:=e;exact List.any_eq_true.2 ⟨_,List.getElem_mem hk,h⟩
set_option maxHeartbeats 1600000 in
theorem wR {L:List Eg} {v:Value} {w:World} {u1:Value} {p:Eg→Bool} (h:EdgesAt w v L) (hz:L.length≤9223372036854775807) (hc:∀ w1,Below w.heap.size w w1→∀ x ∈ L,Calls Tryz.prog 168 #[.agg #[.string x.lb,.int .i64 x.to],u1] w1 fun e w'=>e= .returned (.bool (p x))∧Below w1.heap.size w1 w'):
 Calls Tryz.prog 216 #[v,.func (.func 168) #[] #[u1]] w fun e w'=>e= .returned (.int .i64 (cE p L))∧Below w.heap.size w w':=by
 have HS:Hid (∀ w1,Below w.heap.size w w1→EdgesAt w1 v L):=fun w1 hb=>h.below hb
 have HC:Hid (∀ w1,Below w.heap.size w w1→∀ x ∈ L,Calls Tryz.prog 168 #[.agg #[.string x.lb,.int .i64 x.to],u1] w1 fun e w'=>e= .returned (.bool (p x))∧Below w1.heap.size w1 w'):=hc;obtain ⟨ad,cap,rfl⟩:=h.sl;clear h hc
 go_enter Tryz.func216,Tryz.ntmps216
 go_wp2_with fail
 go_loopw [8] (fun i wr=>∃ k:Nat,k≤L.length∧i= .int .i64 k∧Below w.heap.size w wr∧∀ j (_:j<k) (h1:j<L.length),p L[j]=false) (fun i _=>L.length - (intOf i).toNat)
 case atStart=>exact ⟨0,Nat.zero_le _,rfl,Below.refl _ _,fun j h=>by omega⟩
 case round=>
  obtain ⟨k,hk,rfl,hb,hall⟩:=hrel;have HALL:=aA hall;have HB:=aA hb;clear hall
  by_cases hlt:k<L.length
  · obtain ⟨ad',cap',e,_,hcs⟩:=HS.out wr hb
    cases e
    obtain ⟨g,o,rfl,hg,hcz⟩:∃ g o,ad=some ⟨g,o,none⟩∧g<wr.heap.size∧∀ i (h:i<L.length),EgIn wr g (o+i*2) L[i]:=by
     rcases hcs with h|h
     · rw [h] at hlt;simp at hlt
     · exact h
    clear hcs;obtain ⟨⟨c0,c1⟩,hgg⟩:=hcz k hlt;have HCC:=aA (HC.out wr hb _ (List.getElem_mem hlt));have HY:Hid (p L[k]=true→cE p L=k):=fun h=>fH hlt h HALL.out
    have HN:Hid (p L[k]=false→∀ j (_:j<k+1) (h1:j<L.length),p L[j]=false):=fun h j hj h1=>by
     rcases Nat.lt_or_ge j k with hjk|hjk
     · exact HALL.out j hjk h1
     · obtain rfl:j=k:=by omega
       exact h
    clear hcz hb;cases hq:p L[k] with
    |true=>
     have HR:=aA (HY.out hq);rw [hq] at HCC;clear HY HN HALL hq
     go_wp2_with (go_at_call 168;refine HCC.out.mono ?_;rintro x w1 ⟨rfl,ok⟩)
     go_ret;exact ⟨Sc.aT HR.out.symm,aB HB.out ok⟩
    |false=>
     have HR:=aA (HN.out hq);rw [hq] at HCC;clear HY HN HALL hq
     go_wp2_with (go_at_call 168;refine HCC.out.mono ?_;rintro x w1 ⟨rfl,ok⟩)
     exact ⟨⟨k+1,by omega,by go_num,aB HB.out ok,HR.out⟩,by simp [intOf];omega⟩
  · have hke:k=L.length:=by omega
    subst hke;have HR:Hid (cE p L= -1):=fI fun j h1=>HALL.out j h1 h1
    clear hb
    go_wp2
    go_ret;exact ⟨Sc.aT HR.out.symm,HB.out⟩
set_option maxHeartbeats 800000 in
theorem wS {L:List Eg} {v:Value} {w:World} {u1:Value} {p:Eg→Bool} (h:EdgesAt w v L) (hz:L.length≤9223372036854775807) (hc:∀ w1,Below w.heap.size w w1→∀ x ∈ L,Calls Tryz.prog 168 #[.agg #[.string x.lb,.int .i64 x.to],u1] w1 fun e w'=>e= .returned (.bool (p x))∧Below w1.heap.size w1 w'):
 Calls Tryz.prog 167 #[v,.func (.func 168) #[] #[u1]] w fun e w'=>e= .returned (.bool (L.any p))∧Below w.heap.size w w':=by
 have HC:=aA (wR h hz hc);obtain ⟨ad,cap,rfl⟩:=h.sl;clear h hc
 rcases iK p L with ⟨h1,h2⟩|⟨h1,h2⟩
 · have hd:decide (cE p L≥0)=true:=decide_eq_true h1
   rw [h2];generalize cE p L=r at*;clear h2
   go_enter Tryz.func167,Tryz.ntmps167
   go_wp2_with (go_at_call 216;refine HC.out.mono ?_;rintro x w1 ⟨rfl,ok⟩)
   go_ret;exact ⟨rfl,ok⟩
 · rw [h1] at HC
   rw [h2];clear h1 h2
   go_enter Tryz.func167,Tryz.ntmps167
   go_wp2_with (go_at_call 216;refine HC.out.mono ?_;rintro x w1 ⟨rfl,ok⟩)
   go_ret;exact ⟨rfl,ok⟩
set_option maxHeartbeats 1600000 in
theorem wT {L:List Pn} {v:Value} {w:World} {u1:Value} {p:Pn→Bool} (h:PinsAt w v L) (hz:L.length≤9223372036854775807) (hc:∀ w1,Below w.heap.size w w1→∀ x ∈ L,Calls Tryz.prog 170 #[.agg #[.string x.nm,.int .i64 x.a,.int .i64 x.b,.int .i64 x.c],u1] w1 fun e w'=>e= .returned (.bool (p x))∧Below w1.heap.size w1 w'):
 Calls Tryz.prog 217 #[v,.func (.func 170) #[] #[u1]] w fun e w'=>e= .returned (.int .i64 (cE p L))∧Below w.heap.size w w':=by
 have HS:Hid (∀ w1,Below w.heap.size w w1→PinsAt w1 v L):=fun w1 hb=>h.below hb
 have HC:Hid (∀ w1,Below w.heap.size w w1→∀ x ∈ L,Calls Tryz.prog 170 #[.agg #[.string x.nm,.int .i64 x.a,.int .i64 x.b,.int .i64 x.c],u1] w1 fun e w'=>e= .returned (.bool (p x))∧Below w1.heap.size w1 w'):=hc;obtain ⟨ad,cap,rfl⟩:=h.sl;clear h hc
 go_enter Tryz.func217,Tryz.ntmps217
 go_wp2_with fail
 go_loopw [8] (fun i wr=>∃ k:Nat,k≤L.length∧i= .int .i64 k∧Below w.heap.size w wr∧∀ j (_:j<k) (h1:j<L.length),p L[j]=false) (fun i _=>L.length - (intOf i).toNat)
 case atStart=>exact ⟨0,Nat.zero_le _,rfl,Below.refl _ _,fun j h=>by omega⟩
 case round=>
  obtain ⟨k,hk,rfl,hb,hall⟩:=hrel;have HALL:=aA hall;have HB:=aA hb;clear hall
  by_cases hlt:k<L.length
  · obtain ⟨ad',cap',e,_,hcs⟩:=HS.out wr hb
    cases e
    obtain ⟨g,o,rfl,hg,hcz⟩:∃ g o,ad=some ⟨g,o,none⟩∧g<wr.heap.size∧∀ i (h:i<L.length),PnIn wr g (o+i*4) L[i]:=by
     rcases hcs with h|h
     · rw [h] at hlt;simp at hlt
     · exact h
    clear hcs;obtain ⟨⟨c0,c1,c2,c3⟩,hgg⟩:=hcz k hlt;have HCC:=aA (HC.out wr hb _ (List.getElem_mem hlt));have HY:Hid (p L[k]=true→cE p L=k):=fun h=>fH hlt h HALL.out
    have HN:Hid (p L[k]=false→∀ j (_:j<k+1) (h1:j<L.length),p L[j]=false):=fun h j hj h1=>by
     rcases Nat.lt_or_ge j k with hjk|hjk
     · exact HALL.out j hjk h1
     · obtain rfl:j=k:=by omega
       exact h
    clear hcz hb;cases hq:p L[k] with
    |true=>
     have HR:=aA (HY.out hq);rw [hq] at HCC;clear HY HN HALL hq
     go_wp2_with (go_at_call 170;refine HCC.out.mono ?_;rintro x w1 ⟨rfl,ok⟩)
     go_ret;exact ⟨Sc.aT HR.out.symm,aB HB.out ok⟩
    |false=>
     have HR:=aA (HN.out hq);rw [hq] at HCC;clear HY HN HALL hq
     go_wp2_with (go_at_call 170;refine HCC.out.mono ?_;rintro x w1 ⟨rfl,ok⟩)
     exact ⟨⟨k+1,by omega,by go_num,aB HB.out ok,HR.out⟩,by simp [intOf];omega⟩
  · have hke:k=L.length:=by omega
    subst hke;have HR:Hid (cE p L= -1):=fI fun j h1=>HALL.out j h1 h1
    clear hb
    go_wp2
    go_ret;exact ⟨Sc.aT HR.out.symm,HB.out⟩
set_option maxHeartbeats 800000 in
theorem wU {L:List Pn} {v:Value} {w:World} {u1:Value} {p:Pn→Bool} (h:PinsAt w v L) (hz:L.length≤9223372036854775807) (hc:∀ w1,Below w.heap.size w w1→∀ x ∈ L,Calls Tryz.prog 170 #[.agg #[.string x.nm,.int .i64 x.a,.int .i64 x.b,.int .i64 x.c],u1] w1 fun e w'=>e= .returned (.bool (p x))∧Below w1.heap.size w1 w'):
 Calls Tryz.prog 169 #[v,.func (.func 170) #[] #[u1]] w fun e w'=>e= .returned (.bool (L.any p))∧Below w.heap.size w w':=by
 have HC:=aA (wT h hz hc);obtain ⟨ad,cap,rfl⟩:=h.sl;clear h hc
 rcases iK p L with ⟨h1,h2⟩|⟨h1,h2⟩
 · have hd:decide (cE p L≥0)=true:=decide_eq_true h1
   rw [h2];generalize cE p L=r at*;clear h2
   go_enter Tryz.func169,Tryz.ntmps169
   go_wp2_with (go_at_call 217;refine HC.out.mono ?_;rintro x w1 ⟨rfl,ok⟩)
   go_ret;exact ⟨rfl,ok⟩
 · rw [h1] at HC
   rw [h2];clear h1 h2
   go_enter Tryz.func169,Tryz.ntmps169
   go_wp2_with (go_at_call 217;refine HC.out.mono ?_;rintro x w1 ⟨rfl,ok⟩)
   go_ret;exact ⟨rfl,ok⟩
set_option maxHeartbeats 1600000 in
theorem wV {L:List Nd} {v:Value} {w:World} {u1:Value} {p:Nd→Bool} (h:NodesAt w v L) (hz:L.length≤9223372036854775807) (hc:∀ w1,Below w.heap.size w w1→∀ x ∈ L,∀ vc ve,PinsAt w1 vc x.cx→EdgesAt w1 ve x.ed→Calls Tryz.prog 69 #[.agg #[.string x.nm,.int .i64 x.a,.int .i64 x.b,.int .i64 x.c,vc,ve],u1] w1 fun e w'=>e= .returned (.bool (p x))∧Below w1.heap.size w1 w'):
 Calls Tryz.prog 68 #[v,.func (.func 69) #[] #[u1]] w fun e w'=>e= .returned (.int .i64 (cE p L))∧Below w.heap.size w w':=by
 have HS:Hid (∀ w1,Below w.heap.size w w1→NodesAt w1 v L):=fun w1 hb=>h.below hb
 have HC:Hid (∀ w1,Below w.heap.size w w1→∀ x ∈ L,∀ vc ve,PinsAt w1 vc x.cx→EdgesAt w1 ve x.ed→Calls Tryz.prog 69 #[.agg #[.string x.nm,.int .i64 x.a,.int .i64 x.b,.int .i64 x.c,vc,ve],u1] w1 fun e w'=>e= .returned (.bool (p x))∧Below w1.heap.size w1 w'):=hc;obtain ⟨ad,cap,rfl⟩:=h.sl;clear h hc
 go_enter Tryz.func68,Tryz.ntmps68
 go_wp2_with fail
 go_loopw [8] (fun i wr=>∃ k:Nat,k≤L.length∧i= .int .i64 k∧Below w.heap.size w wr∧∀ j (_:j<k) (h1:j<L.length),p L[j]=false) (fun i _=>L.length - (intOf i).toNat)
 case atStart=>exact ⟨0,Nat.zero_le _,rfl,Below.refl _ _,fun j h=>by omega⟩
 case round=>
  obtain ⟨k,hk,rfl,hb,hall⟩:=hrel;have HALL:=aA hall;have HB:=aA hb;clear hall
  by_cases hlt:k<L.length
  · obtain ⟨ad',cap',e,_,hcs⟩:=HS.out wr hb
    cases e
    obtain ⟨g,o,rfl,hg,hcz⟩:∃ g o,ad=some ⟨g,o,none⟩∧g<wr.heap.size∧∀ i (h:i<L.length),∃ vc ve,NdIn wr g (o+i*6) L[i] vc ve:=by
     rcases hcs with h|h
     · rw [h] at hlt;simp at hlt
     · exact h
    clear hcs;obtain ⟨vc,ve,⟨c0,c1,c2,c3,c4,c5⟩,⟨hpn,hed⟩,hgg⟩:=hcz k hlt;have HCC:=aA (HC.out wr hb _ (List.getElem_mem hlt) vc ve hpn hed);have HY:Hid (p L[k]=true→cE p L=k):=fun h=>fH hlt h HALL.out
    have HN:Hid (p L[k]=false→∀ j (_:j<k+1) (h1:j<L.length),p L[j]=false):=fun h j hj h1=>by
     rcases Nat.lt_or_ge j k with hjk|hjk
     · exact HALL.out j hjk h1
     · obtain rfl:j=k:=by omega
       exact h
    obtain ⟨av,cv,rfl⟩:=hpn.sl;obtain ⟨ae,ce,rfl⟩:=hed.sl;clear hcz hb hpn hed;generalize L[k].cx.length=l1 at*;generalize L[k].ed.length=l2 at*;cases hq:p L[k] with
    |true=>
     have HR:=aA (HY.out hq);rw [hq] at HCC;clear HY HN HALL hq
     go_wp2_with (go_at_call 69;refine HCC.out.mono ?_;rintro x w1 ⟨rfl,ok⟩)
     go_ret;exact ⟨Sc.aT HR.out.symm,aB HB.out ok⟩
    |false=>
     have HR:=aA (HN.out hq);rw [hq] at HCC;clear HY HN HALL hq
     go_wp2_with (go_at_call 69;refine HCC.out.mono ?_;rintro x w1 ⟨rfl,ok⟩)
     exact ⟨⟨k+1,by omega,by go_num,aB HB.out ok,HR.out⟩,by simp [intOf];omega⟩
  · have hke:k=L.length:=by omega
    subst hke;have HR:Hid (cE p L= -1):=fI fun j h1=>HALL.out j h1 h1
    clear hb
    go_wp2
    go_ret;exact ⟨Sc.aT HR.out.symm,HB.out⟩
set_option maxHeartbeats 1600000 in
theorem wW {L:List Nd} {v:Value} {w:World} {u1:Value} {p:Nd→Bool} (h:NodesAt w v L) (hz:L.length≤9223372036854775807) (hc:∀ w1,Below w.heap.size w w1→∀ x ∈ L,∀ vc ve,PinsAt w1 vc x.cx→EdgesAt w1 ve x.ed→Calls Tryz.prog 111 #[.agg #[.string x.nm,.int .i64 x.a,.int .i64 x.b,.int .i64 x.c,vc,ve],u1] w1 fun e w'=>e= .returned (.bool (p x))∧Below w1.heap.size w1 w'):
 Calls Tryz.prog 68 #[v,.func (.func 111) #[] #[u1]] w fun e w'=>e= .returned (.int .i64 (cE p L))∧Below w.heap.size w w':=by
 have HS:Hid (∀ w1,Below w.heap.size w w1→NodesAt w1 v L):=fun w1 hb=>h.below hb
 have HC:Hid (∀ w1,Below w.heap.size w w1→∀ x ∈ L,∀ vc ve,PinsAt w1 vc x.cx→EdgesAt w1 ve x.ed→Calls Tryz.prog 111 #[.agg #[.string x.nm,.int .i64 x.a,.int .i64 x.b,.int .i64 x.c,vc,ve],u1] w1 fun e w'=>e= .returned (.bool (p x))∧Below w1.heap.size w1 w'):=hc;obtain ⟨ad,cap,rfl⟩:=h.sl;clear h hc
 go_enter Tryz.func68,Tryz.ntmps68
 go_wp2_with fail
 go_loopw [8] (fun i wr=>∃ k:Nat,k≤L.length∧i= .int .i64 k∧Below w.heap.size w wr∧∀ j (_:j<k) (h1:j<L.length),p L[j]=false) (fun i _=>L.length - (intOf i).toNat)
 case atStart=>exact ⟨0,Nat.zero_le _,rfl,Below.refl _ _,fun j h=>by omega⟩
 case round=>
  obtain ⟨k,hk,rfl,hb,hall⟩:=hrel;have HALL:=aA hall;have HB:=aA hb;clear hall
  by_cases hlt:k<L.length
  · obtain ⟨ad',cap',e,_,hcs⟩:=HS.out wr hb
    cases e
    obtain ⟨g,o,rfl,hg,hcz⟩:∃ g o,ad=some ⟨g,o,none⟩∧g<wr.heap.size∧∀ i (h:i<L.length),∃ vc ve,NdIn wr g (o+i*6) L[i] vc ve:=by
     rcases hcs with h|h
     · rw [h] at hlt;simp at hlt
     · exact h
    clear hcs;obtain ⟨vc,ve,⟨c0,c1,c2,c3,c4,c5⟩,⟨hpn,hed⟩,hgg⟩:=hcz k hlt;have HCC:=aA (HC.out wr hb _ (List.getElem_mem hlt) vc ve hpn hed);have HY:Hid (p L[k]=true→cE p L=k):=fun h=>fH hlt h HALL.out
    have HN:Hid (p L[k]=false→∀ j (_:j<k+1) (h1:j<L.length),p L[j]=false):=fun h j hj h1=>by
     rcases Nat.lt_or_ge j k with hjk|hjk
     · exact HALL.out j hjk h1
     · obtain rfl:j=k:=by omega
       exact h
    obtain ⟨av,cv,rfl⟩:=hpn.sl;obtain ⟨ae,ce,rfl⟩:=hed.sl;clear hcz hb hpn hed;generalize L[k].cx.length=l1 at*;generalize L[k].ed.length=l2 at*;cases hq:p L[k] with
    |true=>
     have HR:=aA (HY.out hq);rw [hq] at HCC;clear HY HN HALL hq
     go_wp2_with (go_at_call 111;refine HCC.out.mono ?_;rintro x w1 ⟨rfl,ok⟩)
     go_ret;exact ⟨Sc.aT HR.out.symm,aB HB.out ok⟩
    |false=>
     have HR:=aA (HN.out hq);rw [hq] at HCC;clear HY HN HALL hq
     go_wp2_with (go_at_call 111;refine HCC.out.mono ?_;rintro x w1 ⟨rfl,ok⟩)
     exact ⟨⟨k+1,by omega,by go_num,aB HB.out ok,HR.out⟩,by simp [intOf];omega⟩
  · have hke:k=L.length:=by omega
    subst hke;have HR:Hid (cE p L= -1):=fI fun j h1=>HALL.out j h1 h1
    clear hb
    go_wp2
    go_ret;exact ⟨Sc.aT HR.out.symm,HB.out⟩
set_option maxHeartbeats 800000 in
theorem wX {L:List Nd} {v:Value} {w:World} {u1:Value} {p:Nd→Bool} (h:NodesAt w v L) (hz:L.length≤9223372036854775807) (hc:∀ w1,Below w.heap.size w w1→∀ x ∈ L,∀ vc ve,PinsAt w1 vc x.cx→EdgesAt w1 ve x.ed→Calls Tryz.prog 111 #[.agg #[.string x.nm,.int .i64 x.a,.int .i64 x.b,.int .i64 x.c,vc,ve],u1] w1 fun e w'=>e= .returned (.bool (p x))∧Below w1.heap.size w1 w'):
 Calls Tryz.prog 110 #[v,.func (.func 111) #[] #[u1]] w fun e w'=>e= .returned (.bool (L.any p))∧Below w.heap.size w w':=by
 have HC:=aA (wW h hz hc);obtain ⟨ad,cap,rfl⟩:=h.sl;clear h hc
 rcases iK p L with ⟨h1,h2⟩|⟨h1,h2⟩
 · have hd:decide (cE p L≥0)=true:=decide_eq_true h1
   rw [h2];generalize cE p L=r at*;clear h2
   go_enter Tryz.func110,Tryz.ntmps110
   go_wp2_with (go_at_call 68;refine HC.out.mono ?_;rintro x w1 ⟨rfl,ok⟩)
   go_ret;exact ⟨rfl,ok⟩
 · rw [h1] at HC
   rw [h2];clear h1 h2
   go_enter Tryz.func110,Tryz.ntmps110
   go_wp2_with (go_at_call 68;refine HC.out.mono ?_;rintro x w1 ⟨rfl,ok⟩)
   go_ret;exact ⟨rfl,ok⟩
theorem gE {x m:Nd} {vc ve uc ue:Value} {N:Nat} {w:World} (hc:PinsAt w vc x.cx) (he:EdgesAt w ve x.ed) (hb:BxNd w N m uc ue) (hd:PinsAt w uc m.cx) (hf:∃ ad k cap,ue= .slice ad k cap) (hz:x.cx.length≤9223372036854775807):
 Calls Tryz.prog 69 #[.agg #[.string x.nm,.int .i64 x.a,.int .i64 x.b,.int .i64 x.c,vc,ve],.pointer (some ⟨N,0,none⟩)] w fun e w'=>e= .returned (.bool (bW x m))∧Below w.heap.size w w':=by
 have HE:Hid (∀ w1,Below w.heap.size w w1→Calls Tryz.prog 70 #[.agg #[.string x.nm,.int .i64 x.a,.int .i64 x.b,.int .i64 x.c,vc,ve],.agg #[.string m.nm,.int .i64 m.a,.int .i64 m.b,.int .i64 m.c,uc,ue]] w1 fun e w'=>e= .returned (.bool (bW x m))∧Below w1.heap.size w1 w'):=fun w1 h=>gD (hc.below h) (let ⟨ad,cap,h⟩:=he.sl;⟨ad,_,cap,h⟩) (hd.below h) hf hz
 obtain ⟨av,cv,rfl⟩:=hc.sl;obtain ⟨ae,ce,rfl⟩:=he.sl;obtain ⟨bv,dv,rfl⟩:=hd.sl;obtain ⟨be,ke,de,rfl⟩:=hf;have HB:=aA (aJ _ _ _ _ _ _ hb (aD w (.cells #[.string x.nm,.int .i64 x.a,.int .i64 x.b,.int .i64 x.c,.slice av x.cx.length cv,.slice ae x.ed.length ce] 67)));obtain ⟨⟨k0,k1,k2,k3,k4,k5⟩,k6⟩:=HB.out;clear hc he hd hb hz HB;generalize x.cx.length=l1 at*;generalize x.ed.length=l2 at*;generalize m.cx.length=l3 at*
 go_enter Tryz.func69,Tryz.ntmps69
 go_wp2_with (go_at_call 70;refine (HE.out _ (aD _ _)).mono ?_;rintro e w1 ⟨rfl,ok⟩)
 go_ret;exact ⟨rfl,aB (aD _ _) ok⟩
theorem dU {x m:Nd} {vc ve uc ue:Value} {N:Nat} {w:World} (hc:PinsAt w vc x.cx) (he:EdgesAt w ve x.ed) (hb:BxNd w N m uc ue) (hd:PinsAt w uc m.cx) (hf:∃ ad k cap,ue= .slice ad k cap) (hz:x.cx.length≤9223372036854775807):
 Calls Tryz.prog 111 #[.agg #[.string x.nm,.int .i64 x.a,.int .i64 x.b,.int .i64 x.c,vc,ve],.pointer (some ⟨N,0,none⟩)] w fun e w'=>e= .returned (.bool (bW x m))∧Below w.heap.size w w':=by
 have HE:Hid (∀ w1,Below w.heap.size w w1→Calls Tryz.prog 70 #[.agg #[.string x.nm,.int .i64 x.a,.int .i64 x.b,.int .i64 x.c,vc,ve],.agg #[.string m.nm,.int .i64 m.a,.int .i64 m.b,.int .i64 m.c,uc,ue]] w1 fun e w'=>e= .returned (.bool (bW x m))∧Below w1.heap.size w1 w'):=fun w1 h=>gD (hc.below h) (let ⟨ad,cap,h⟩:=he.sl;⟨ad,_,cap,h⟩) (hd.below h) hf hz
 obtain ⟨av,cv,rfl⟩:=hc.sl;obtain ⟨ae,ce,rfl⟩:=he.sl;obtain ⟨bv,dv,rfl⟩:=hd.sl;obtain ⟨be,ke,de,rfl⟩:=hf;have HB:=aA (aJ _ _ _ _ _ _ hb (aD w (.cells #[.string x.nm,.int .i64 x.a,.int .i64 x.b,.int .i64 x.c,.slice av x.cx.length cv,.slice ae x.ed.length ce] 67)));obtain ⟨⟨k0,k1,k2,k3,k4,k5⟩,k6⟩:=HB.out;clear hc he hd hb hz HB;generalize x.cx.length=l1 at*;generalize x.ed.length=l2 at*;generalize m.cx.length=l3 at*
 go_enter Tryz.func111,Tryz.ntmps111
 go_wp2_with (go_at_call 70;refine (HE.out _ (aD _ _)).mono ?_;rintro e w1 ⟨rfl,ok⟩)
 go_ret;exact ⟨rfl,aB (aD _ _) ok⟩
end Go.Proofs.YtpfemjlhklnfoaaGreatDoor
