/- Rf1, Rf2, ScNm3, Rk4: their declarations that are needed, laid in one text, remarks and blanks left out. -/
import Derived.Test.YtpfemjlhklnfoaaGreatDoorMh09
namespace Go.Proofs.YtpfemjlhklnfoaaGreatDoor
open Go.RowKit
set_option maxRecDepth 100000
theorem fX (a b c:Int) (w:World):
 Calls Tryz.prog 101 #[.agg #[.int .i64 a,.int .i64 b,.int .i64 c]] w fun e w'=>e= .returned (.int .i64 (aH a b c))∧Below w.heap.size w w':=by
 have HR:Hid (∀ w1,Calls Tryz.prog 157 #[.agg #[.int .i64 a,.int .i64 b,.int .i64 c]] w1 fun e w'=>e= .returned (.tuple #[.int .i64 (aH a b c),.bool (aN a b c)])∧Below w1.heap.size w1 w'):=AK a b c
 go_enter Tryz.func101,Tryz.ntmps101
 go_wp2_with (go_at_call 157;refine (HR.out _).mono ?_;rintro e w1 ⟨rfl,hb⟩)
 go_ret;exact ⟨rfl,aB (aD _ _) hb⟩
theorem wT (a b c:Int):0≤aH a b c∧aH a b c<1000000000:=by
 cases h:aN a b c
 · have:aH a b c=0:=by unfold aH;rw [h];rfl
   omega
 · exact eO h
theorem nV {L:List Sp} {s:Sp} (h:L[0]? =some s):cS L 0=(aN s.a s.b s.c&&aN s.x s.y s.z&&decide (aH s.a s.b s.c≤aH s.x s.y s.z)):=by
 unfold cS;rw [h];simp only [Bool.and_true];rw [Bool.eq_iff_iff,cN,Bool.and_eq_true,Bool.and_eq_true,decide_eq_true_eq]
 constructor
 · rintro ⟨h1,h2,h3⟩;exact ⟨⟨h1,h2⟩,(iD h1 h2).1 h3⟩
 · rintro ⟨⟨h1,h2⟩,h3⟩;exact ⟨h1,h2,(iD h1 h2).2 h3⟩
theorem qF {L:List Sp} {j:Nat} {s p:Sp} (h:L[j+1]? =some s) (hp:L[j]? =some p) (hok:cS L j=true):
 cS L (j+1)=((aN s.a s.b s.c&&aN s.x s.y s.z&&decide (aH s.a s.b s.c≤aH s.x s.y s.z))&&decide (aH p.x p.y p.z+1<aH s.a s.b s.c)):=by
 have hpm:aN p.x p.y p.z=true:=by
  unfold cS at hok;rw [hp] at hok;simp only [Bool.and_eq_true] at hok;exact (cN.1 hok.1).2.1
 unfold cS;rw [h]
 simp only
 rw [hp]
 simp only
 rw [Bool.eq_iff_iff,Bool.and_eq_true,cN,Bool.and_eq_true,Bool.and_eq_true,Bool.and_eq_true,decide_eq_true_eq,decide_eq_true_eq]
 constructor
 · rintro ⟨⟨h1,h2,h3⟩,h4⟩
   have:=(jR hpm h1).1 h4
   exact ⟨⟨⟨h1,h2⟩,(iD h1 h2).1 h3⟩,by omega⟩
 · rintro ⟨⟨⟨h1,h2⟩,h3⟩,h4⟩
   exact ⟨⟨h1,h2,(iD h1 h2).2 h3⟩,(jR hpm h1).2 (by omega)⟩
set_option maxHeartbeats 6400000 in
theorem BW (L:List Sp) (g o cap:Nat) (w:World) (hlen:L.length≤64) (hg:g<w.heap.size) (hl:∀ i (h:i<L.length),SpAt w g (o+i*6) L[i]):
 Calls Tryz.prog 99 #[.slice (some ⟨g,o,none⟩) L.length cap] w fun e w'=>e= .returned (.bool (cJ L))∧Below w.heap.size w w':=by
 have HL:Hid (∀ w1,Below w.heap.size w w1→∀ i (h:i<L.length),kT w1 g (o+i*6) L[i]):=fun w1 hb i hi=>⟨(hl i hi).below hb hg,Nat.lt_of_lt_of_le hg hb.size⟩
 clear hl;have HT:Hid (cJ L=(List.range L.length).all (cS L)):=by unfold Hid cJ;simp [hlen]
 have h64:decide ((64:Int)<(L.length:Int))=false:=decide_eq_false (by omega)
 go_enter Tryz.func99,Tryz.ntmps99
 go_wp2_with fail
 go_loopw [3] (fun i wr=>∃ k:Nat,k≤L.length∧i= .int .i64 k∧Below w.heap.size w wr∧∀ j,j<k→cS L j=true) (fun i _=>L.length - (intOf i).toNat)
 case atStart=>exact ⟨0,Nat.zero_le _,rfl,Below.refl _ _,fun j hj=>by omega⟩
 case round=>
  obtain ⟨k,hk,rfl,hb,hok⟩:=hrel;have HOK:=aA hok;clear hok
  by_cases hlt:k<L.length
  · have HO:Hid (Below w.heap.size w wr∧kT wr g (o+k*6) L[k]):=⟨hb,HL.out wr hb k hlt⟩
    have HK:Hid (KeepP fun w1=>Below w.heap.size w w1∧kT w1 g (o+k*6) L[k]):=(aG w).and (mT _ _ _);have HS:Hid (L[k]? =some L[k]):=List.getElem?_eq_getElem hlt;generalize L[k]=s at*;obtain ⟨a,b,c,x,y,z⟩:=s;have HM1:Hid (∀ w1,Calls Tryz.prog 86 #[.agg #[.int .i64 a,.int .i64 b,.int .i64 c]] w1 fun e w'=>e= .returned (.bool (aN a b c))∧Below w1.heap.size w1 w'):=gN a b c;have HM2:Hid (∀ w1,Calls Tryz.prog 86 #[.agg #[.int .i64 x,.int .i64 y,.int .i64 z]] w1 fun e w'=>e= .returned (.bool (aN x y z))∧Below w1.heap.size w1 w'):=gN x y z;have HR1:Hid (∀ w1,Calls Tryz.prog 101 #[.agg #[.int .i64 a,.int .i64 b,.int .i64 c]] w1 fun e w'=>e= .returned (.int .i64 (aH a b c))∧Below w1.heap.size w1 w'):=fX a b c;have HR2:Hid (∀ w1,Calls Tryz.prog 101 #[.agg #[.int .i64 x,.int .i64 y,.int .i64 z]] w1 fun e w'=>e= .returned (.int .i64 (aH x y z))∧Below w1.heap.size w1 w'):=fX x y z
    have HOKs:Hid (∀ v:Bool,(cS L k=true→v=true)→(aN a b c&&aN x y z&&decide (aH a b c≤aH x y z))=false→cJ L=false):=fun v _ hf=>mU HT.out hlt (by
     cases k with
     |zero=>rw [nV HS.out];exact hf
     |succ j=>rw [qF HS.out (List.getElem?_eq_getElem (by omega)) (HOK.out j (by omega))];simp only;rw [hf];rfl)
    clear hb;cases m1:aN a b c
    · have HF:Hid (cJ L=false):=HOKs.out true (fun _=>rfl) (by rw [m1];rfl)
      rw [m1] at HM1;clear HOKs
      go_wp2_with fail
      refine bA HK (by kernel_rfl) (by kernel_rfl) (by first|exact HO.out|exact HK.out.drew HO.out) ?_;intro C HIN HOUT;clear HO
      repeat
       (with_reducible refine wpQuiet_step (fun K hK=> ?_)
        go_simp
        first
         |(refine hK _ ?_;clear hK K)
         |(apply Exists.intro;refine ⟨fun w1 hC=> ?_,hK _ ?_⟩;(focus ((first|(go_at_call 86;with_reducible exact aU HIN HOUT HK HM1.out w1 hC)|(exact rfl)|(obtain ⟨hb1,⟨p0,p1,p2,p3,p4,p5⟩,p6⟩:=HOUT.out w1 hC;clear hC;go_simp;first|done|exact rfl));done));clear hK K))
      refine wpQuiet_nil ?_;intro wn hC;have HO:=aA (HOUT.out _ hC);clear hC HIN HOUT C;obtain ⟨hb1,⟨p0,p1,p2,p3,p4,p5⟩,p6⟩:=HO.out
      go_wp2
      go_ret;exact ⟨aC HF.out.symm,HO.out.1⟩
    rw [m1] at HM1;cases m2:aN x y z
    · have HF:Hid (cJ L=false):=HOKs.out true (fun _=>rfl) (by rw [m1,m2];rfl)
      rw [m2] at HM2;clear HOKs
      go_wp2_with fail
      refine bA HK (by kernel_rfl) (by kernel_rfl) (by first|exact HO.out|exact HK.out.drew HO.out) ?_;intro C HIN HOUT;clear HO
      repeat
       (with_reducible refine wpQuiet_step (fun K hK=> ?_)
        go_simp
        first
         |(refine hK _ ?_;clear hK K)
         |(apply Exists.intro;refine ⟨fun w1 hC=> ?_,hK _ ?_⟩;(focus ((first|(go_at_call 86;with_reducible exact aU HIN HOUT HK HM1.out w1 hC)|(go_at_call 86;with_reducible exact aU HIN HOUT HK HM2.out w1 hC)|(exact rfl)|(obtain ⟨hb1,⟨p0,p1,p2,p3,p4,p5⟩,p6⟩:=HOUT.out w1 hC;clear hC;go_simp;first|done|exact rfl));done));clear hK K))
      refine wpQuiet_nil ?_;intro wn hC;have HO:=aA (HOUT.out _ hC);clear hC HIN HOUT C;obtain ⟨hb1,⟨p0,p1,p2,p3,p4,p5⟩,p6⟩:=HO.out
      go_wp2
      go_ret;exact ⟨aC HF.out.symm,HO.out.1⟩
    rw [m2] at HM2
    by_cases hr:aH x y z<aH a b c
    · have HF:Hid (cJ L=false):=HOKs.out true (fun _=>rfl) (by rw [m1,m2,decide_eq_false (by omega)];rfl)
      clear HOKs;generalize aH a b c=r1 at*;generalize aH x y z=r2 at*
      go_wp2_with fail
      refine bA HK (by kernel_rfl) (by kernel_rfl) (by first|exact HO.out|exact HK.out.drew HO.out) ?_;intro C HIN HOUT;clear HO
      repeat
       (with_reducible refine wpQuiet_step (fun K hK=> ?_)
        go_simp
        first
         |(refine hK _ ?_;clear hK K)
         |(apply Exists.intro;refine ⟨fun w1 hC=> ?_,hK _ ?_⟩;(focus ((first|(go_at_call 86;with_reducible exact aU HIN HOUT HK HM1.out w1 hC)|(go_at_call 86;with_reducible exact aU HIN HOUT HK HM2.out w1 hC)|(go_at_call 101;with_reducible exact aU HIN HOUT HK HR1.out w1 hC)|(go_at_call 101;with_reducible exact aU HIN HOUT HK HR2.out w1 hC)|(exact rfl)|(obtain ⟨hb1,⟨p0,p1,p2,p3,p4,p5⟩,p6⟩:=HOUT.out w1 hC;clear hC;go_simp;first|done|exact rfl));done));clear hK K))
      refine wpQuiet_nil ?_;intro wn hC;have HO:=aA (HOUT.out _ hC);clear hC HIN HOUT C;obtain ⟨hb1,⟨p0,p1,p2,p3,p4,p5⟩,p6⟩:=HO.out
      go_wp2
      go_ret;exact ⟨aC HF.out.symm,HO.out.1⟩
    · rcases Nat.eq_zero_or_pos k with h0|h0
      · have HF:Hid (cS L k=true):=by unfold Hid;subst h0;rw [nV HS.out];simp only;rw [m1,m2,decide_eq_true (by omega)];rfl
        have H0:=aA h0;have hk0:decide ((0:Int)<(k:Int))=false:=decide_eq_false (by omega);have hk1:decide (0<k)=false:=decide_eq_false (by omega);clear HOKs h0;generalize aH a b c=r1 at*;generalize aH x y z=r2 at*
        go_wp2_with fail
        refine bA HK (by kernel_rfl) (by kernel_rfl) (by first|exact HO.out|exact HK.out.drew HO.out) ?_;intro C HIN HOUT;clear HO
        repeat
         (with_reducible refine wpQuiet_step (fun K hK=> ?_)
          go_simp
          first
           |(refine hK _ ?_;clear hK K)
           |(apply Exists.intro;refine ⟨fun w1 hC=> ?_,hK _ ?_⟩;(focus ((first|(go_at_call 86;with_reducible exact aU HIN HOUT HK HM1.out w1 hC)|(go_at_call 86;with_reducible exact aU HIN HOUT HK HM2.out w1 hC)|(go_at_call 101;with_reducible exact aU HIN HOUT HK HR1.out w1 hC)|(go_at_call 101;with_reducible exact aU HIN HOUT HK HR2.out w1 hC)|(exact rfl)|(obtain ⟨hb1,⟨p0,p1,p2,p3,p4,p5⟩,p6⟩:=HOUT.out w1 hC;clear hC;go_simp;first|done|exact rfl));done));clear hK K))
        refine wpQuiet_nil ?_;intro wn hC;have HO:=aA (HOUT.out _ hC);clear hC HIN HOUT C;obtain ⟨hb1,⟨p0,p1,p2,p3,p4,p5⟩,p6⟩:=HO.out
        go_wp2_with fail
        clear hb1 p0 p1 p2 p3 p4 p5 p6;refine bA HK (by kernel_rfl) (by kernel_rfl) (by first|exact HO.out|exact HK.out.drew HO.out) ?_;intro C HIN HOUT;clear HO
        repeat
         (with_reducible refine wpQuiet_step (fun K hK=> ?_)
          go_simp
          first
           |(refine hK _ ?_;clear hK K)
           |(apply Exists.intro;refine ⟨fun w1 hC=> ?_,hK _ ?_⟩;(focus ((first|(exact rfl)|(obtain ⟨hb1,⟨p0,p1,p2,p3,p4,p5⟩,p6⟩:=HOUT.out w1 hC;clear hC;go_simp;first|done|exact rfl));done));clear hK K))
        refine wpQuiet_nil ?_;intro wm hC;have HO:=aA (HOUT.out _ hC);clear hC HIN HOUT C;obtain ⟨hb1,⟨p0,p1,p2,p3,p4,p5⟩,p6⟩:=HO.out
        go_wp2
        exact ⟨⟨k+1,by omega,by go_num,HO.out.1,fun j hj=>by rw [show j=k by have:=H0.out;omega];exact HF.out⟩,by simp [intOf];omega⟩
      · obtain ⟨j,hj⟩:∃ j,k=j+1:=⟨k - 1,by omega⟩
        have hjl:j<L.length:=by omega
        have HJ:=aA hj;have HPP:Hid (L[j]? =some L[j]):=List.getElem?_eq_getElem hjl;have HO2:Hid ((Below w.heap.size w wr∧kT wr g (o+k*6) ⟨a,b,c,x,y,z⟩)∧kT wr g (o+j*6) L[j]):=⟨HO.out,HL.out wr HO.out.1 j hjl⟩;have HK2:Hid (KeepP fun w1=>(Below w.heap.size w w1∧kT w1 g (o+k*6) ⟨a,b,c,x,y,z⟩)∧kT w1 g (o+j*6) L[j]):=HK.out.and (mT _ _ _)
        have HN:Hid (cS L k=((aN a b c&&aN x y z&&decide (aH a b c≤aH x y z))&&decide (aH L[j].x L[j].y L[j].z+1<aH a b c))):=by
         subst hj;exact qF HS.out HPP.out (HOK.out j (by omega))
        clear HO HK;have HO:=HO2;have HK:=HK2;clear HO2 HK2;generalize L[j]=p at*;obtain ⟨p,q,r,u,v,t⟩:=p;have HR3:Hid (∀ w1,Calls Tryz.prog 101 #[.agg #[.int .i64 u,.int .i64 v,.int .i64 t]] w1 fun e w'=>e= .returned (.int .i64 (aH u v t))∧Below w1.heap.size w1 w'):=fX u v t;have hk0:decide ((0:Int)<(k:Int))=true:=decide_eq_true (by omega);have hk1:decide (0<k)=true:=decide_eq_true (by omega);have hkj:(k:Int) - 1=(j:Int):=by omega
        have hj2:(j:Int)<(L.length:Int):=by omega
        have hwj:IntKind.i64.wrap (j:Int)=(j:Int):=iY (by omega) (by omega);have hsm:=wT u v t;have hwr:IntKind.i64.wrap (aH u v t+1)=aH u v t+1:=iY (by omega) (by omega);clear hj h0 hsm
        by_cases hp:aH a b c≤aH u v t+1
        · have HF:Hid (cJ L=false):=mU HT.out hlt (by rw [HN.out];rw [decide_eq_false (p:=aH u v t+1<aH a b c) (by omega),Bool.and_false])
          clear HOKs HN;generalize aH a b c=r1 at*;generalize aH x y z=r2 at*;generalize aH u v t=r3 at*
          go_wp2_with fail
          refine bA HK (by kernel_rfl) (by kernel_rfl) (by first|exact HO.out|exact HK.out.drew HO.out) ?_;intro C HIN HOUT;clear HO
          repeat
           (with_reducible refine wpQuiet_step (fun K hK=> ?_)
            go_simp
            first
             |(refine hK _ ?_;clear hK K)
             |(apply Exists.intro;refine ⟨fun w1 hC=> ?_,hK _ ?_⟩;(focus ((first|(go_at_call 86;with_reducible exact aU HIN HOUT HK HM1.out w1 hC)|(go_at_call 86;with_reducible exact aU HIN HOUT HK HM2.out w1 hC)|(go_at_call 101;with_reducible exact aU HIN HOUT HK HR1.out w1 hC)|(go_at_call 101;with_reducible exact aU HIN HOUT HK HR2.out w1 hC)|(exact rfl)|(obtain ⟨⟨hb1,⟨p0,p1,p2,p3,p4,p5⟩,p6⟩,⟨q0,q1,q2,q3,q4,q5⟩,q6⟩:=HOUT.out w1 hC;clear hC;go_simp;first|done|exact rfl));done));clear hK K))
          refine wpQuiet_nil ?_;intro wn hC;have HO:=aA (HOUT.out _ hC);clear hC HIN HOUT C;obtain ⟨⟨hb1,⟨p0,p1,p2,p3,p4,p5⟩,p6⟩,⟨q0,q1,q2,q3,q4,q5⟩,q6⟩:=HO.out
          go_wp2_with fail
          clear hb1 p0 p1 p2 p3 p4 p5 p6 q0 q1 q2 q3 q4 q5 q6;refine bA HK (by kernel_rfl) (by kernel_rfl) (by first|exact HO.out|exact HK.out.drew HO.out) ?_;intro C HIN HOUT;clear HO
          repeat
           (with_reducible refine wpQuiet_step (fun K hK=> ?_)
            go_simp
            first
             |(refine hK _ ?_;clear hK K)
             |(apply Exists.intro;refine ⟨fun w1 hC=> ?_,hK _ ?_⟩;(focus ((first|(go_at_call 101;with_reducible exact aU HIN HOUT HK HR1.out w1 hC)|(go_at_call 101;with_reducible exact aU HIN HOUT HK HR3.out w1 hC)|(exact rfl)|(obtain ⟨⟨hb1,⟨p0,p1,p2,p3,p4,p5⟩,p6⟩,⟨q0,q1,q2,q3,q4,q5⟩,q6⟩:=HOUT.out w1 hC;clear hC;go_simp;first|done|exact rfl));done));clear hK K))
          refine wpQuiet_nil ?_;intro wm hC;have HO:=aA (HOUT.out _ hC);clear hC HIN HOUT C;obtain ⟨⟨hb1,⟨p0,p1,p2,p3,p4,p5⟩,p6⟩,⟨q0,q1,q2,q3,q4,q5⟩,q6⟩:=HO.out
          go_wp2
          go_ret;exact ⟨aC HF.out.symm,HO.out.1.1⟩
        · have HF:Hid (cS L k=true):=by unfold Hid;rw [HN.out];rw [m1,m2,decide_eq_true (p:=aH u v t+1<aH a b c) (by omega),decide_eq_true (p:=aH a b c≤aH x y z) (by omega)];rfl
          clear HOKs HN;generalize aH a b c=r1 at*;generalize aH x y z=r2 at*;generalize aH u v t=r3 at*
          go_wp2_with fail
          refine bA HK (by kernel_rfl) (by kernel_rfl) (by first|exact HO.out|exact HK.out.drew HO.out) ?_;intro C HIN HOUT;clear HO
          repeat
           (with_reducible refine wpQuiet_step (fun K hK=> ?_)
            go_simp
            first
             |(refine hK _ ?_;clear hK K)
             |(apply Exists.intro;refine ⟨fun w1 hC=> ?_,hK _ ?_⟩;(focus ((first|(go_at_call 86;with_reducible exact aU HIN HOUT HK HM1.out w1 hC)|(go_at_call 86;with_reducible exact aU HIN HOUT HK HM2.out w1 hC)|(go_at_call 101;with_reducible exact aU HIN HOUT HK HR1.out w1 hC)|(go_at_call 101;with_reducible exact aU HIN HOUT HK HR2.out w1 hC)|(exact rfl)|(obtain ⟨⟨hb1,⟨p0,p1,p2,p3,p4,p5⟩,p6⟩,⟨q0,q1,q2,q3,q4,q5⟩,q6⟩:=HOUT.out w1 hC;clear hC;go_simp;first|done|exact rfl));done));clear hK K))
          refine wpQuiet_nil ?_;intro wn hC;have HO:=aA (HOUT.out _ hC);clear hC HIN HOUT C;obtain ⟨⟨hb1,⟨p0,p1,p2,p3,p4,p5⟩,p6⟩,⟨q0,q1,q2,q3,q4,q5⟩,q6⟩:=HO.out
          go_wp2_with fail
          clear hb1 p0 p1 p2 p3 p4 p5 p6 q0 q1 q2 q3 q4 q5 q6;refine bA HK (by kernel_rfl) (by kernel_rfl) (by first|exact HO.out|exact HK.out.drew HO.out) ?_;intro C HIN HOUT;clear HO
          repeat
           (with_reducible refine wpQuiet_step (fun K hK=> ?_)
            go_simp
            first
             |(refine hK _ ?_;clear hK K)
             |(apply Exists.intro;refine ⟨fun w1 hC=> ?_,hK _ ?_⟩;(focus ((first|(go_at_call 101;with_reducible exact aU HIN HOUT HK HR1.out w1 hC)|(go_at_call 101;with_reducible exact aU HIN HOUT HK HR3.out w1 hC)|(exact rfl)|(obtain ⟨⟨hb1,⟨p0,p1,p2,p3,p4,p5⟩,p6⟩,⟨q0,q1,q2,q3,q4,q5⟩,q6⟩:=HOUT.out w1 hC;clear hC;go_simp;first|done|exact rfl));done));clear hK K))
          refine wpQuiet_nil ?_;intro wm hC;have HO:=aA (HOUT.out _ hC);clear hC HIN HOUT C;obtain ⟨⟨hb1,⟨p0,p1,p2,p3,p4,p5⟩,p6⟩,⟨q0,q1,q2,q3,q4,q5⟩,q6⟩:=HO.out
          go_wp2
          refine ⟨⟨k+1,by omega,by go_num,HO.out.1.1,fun i hi=> ?_⟩,by simp [intOf];omega⟩
          rcases Nat.lt_or_ge i k with h|h
          · exact HOK.out i h
          · rw [show i=k by omega];exact HF.out
  · have hke:k=L.length:=by omega
    subst hke;have HF:Hid (cJ L=true):=yM HT.out HOK.out;have HB:=aA hb;clear hb
    go_wp2
    go_ret;exact ⟨aC HF.out.symm,HB.out⟩
theorem FE (ad:Option Addr) (cap:Nat) (w:World):
 Calls Tryz.prog 99 #[.slice ad 0 cap] w fun e w'=>e= .returned (.bool true)∧Below w.heap.size w w':=by
 go_enter Tryz.func99,Tryz.ntmps99
 go_wp2_with fail
 go_loop [3] (fun i=>i= .int .i64 0) (fun _=>0)
 case atStart=>rfl
 case round=>
  subst hrel
  go_wp2
  go_ret;exact ⟨rfl,Below.refl _ _⟩
theorem BX (ad:Option Addr) (n cap:Nat) (w:World) (h:64<n):
 Calls Tryz.prog 99 #[.slice ad n cap] w fun e w'=>e= .returned (.bool false)∧Below w.heap.size w w':=by
 have h1:(64:Int)<(n:Int):=by omega
 go_enter Tryz.func99,Tryz.ntmps99
 go_wp2
 go_ret;exact ⟨rfl,Below.refl _ _⟩
theorem lC {w:World} {v:Value} {L:List Sp} (h:SpansAt w v L):
 Calls Tryz.prog 99 #[v] w fun e w'=>e= .returned (.bool (cJ L))∧Below w.heap.size w w':=by
 obtain ⟨ad,cap,rfl,hl⟩:=h
 by_cases h64:L.length≤64
 · rcases hl with rfl|⟨g,o,rfl,hg,hs⟩
   · exact FE ad cap w
   · exact BW L g o cap w h64 hg hs
 · have:cJ L=false:=by unfold cJ;rw [decide_eq_false h64];rfl
   rw [this];exact BX ad _ cap w (by omega)
end Go.Proofs.YtpfemjlhklnfoaaGreatDoor
namespace Go.Proofs.YtpfemjlhklnfoaaGreatDoor.Sc
open Go.RowKit
set_option maxRecDepth 100000
theorem sB (b:UInt8):ltB b=true↔97≤b.toNat∧b.toNat≤122:=by simp [ltB]
theorem JX (b:UInt8):dgB b=true↔48≤b.toNat∧b.toNat≤57:=by simp [dgB]
theorem sC (b:UInt8):nmB b=true↔(97≤b.toNat∧b.toNat≤122)∨(48≤b.toNat∧b.toNat≤57)∨b.toNat=45:=by
 unfold nmB;rw [Bool.or_eq_true,Bool.or_eq_true,sB,JX,decide_eq_true_eq,or_assoc]
set_option maxHeartbeats 6400000 in
theorem qG (s:ByteArray) (hs:s.size≤9223372036854775807) (w:World):Calls Tryz.prog 85 #[.string s] w fun e w'=>e= .returned (.bool (aQ s.data.toList))∧w'=w:=by
 go_enter Tryz.func85,Tryz.ntmps85
 go_wp2
 go_loop [3] (fun i=>∃ k:Nat,k≤s.size∧i= .int .i64 k∧(s.data.toList.take k).all nmB=true∧(k=0∨pS s.data.toList=true)) (fun i=>s.size - (intOf i).toNat)
 case atStart=>exact ⟨0,Nat.zero_le _,rfl,rfl,Or.inl rfl⟩
 case round=>
  obtain ⟨k,hk,rfl,hal,hhd⟩:=hrel;have HA:=aA hal;have HH:=aA hhd;clear hal hhd
  by_cases hlt:k<s.size
  · by_cases h1:97≤s[k].toNat∧s[k].toNat≤122
    · have HA2:=aA (gQ hlt HA.out ((sC _).2 (Or.inl h1)))
      have HH2:Hid (k+1=0∨pS s.data.toList=true):=by
       rcases HH.out with rfl|h
       · exact Or.inr (by rw [rO hlt];exact (sB _).2 h1)
       · exact Or.inr h
      obtain ⟨a1,a2⟩:=h1;have b2:decide ((s[k].toNat:Int)≤122)=true:=decide_eq_true (by omega);have b4:decide ((s[k].toNat:Int)≤57)=false:=decide_eq_false (by omega)
      go_wp2
      exact ⟨⟨k+1,by omega,by go_num,HA2.out,HH2.out⟩,by simp [intOf];omega⟩
    · by_cases hz:k=0
      · have HR:Hid (aQ s.data.toList=false):=by
         unfold Hid aQ;subst hz;rw [rO hlt]
         have:ltB s[0]=false:=by rw [Bool.eq_false_iff];intro h;exact h1 ((sB _).1 h)
         rw [this];rfl
        have ez:((k:Int)==0)=true:=by rw [hz];rfl
        by_cases h2:97≤s[k].toNat
        · have h3:122<s[k].toNat:=by omega
          have b2:decide ((s[k].toNat:Int)≤122)=false:=decide_eq_false (by omega);have b4:decide ((s[k].toNat:Int)≤57)=false:=decide_eq_false (by omega);clear h1 hz
          go_wp2
          go_ret;exact ⟨aC HR.out.symm,rfl⟩
        · clear h1 hz
          by_cases d1:48≤s[k].toNat
          · by_cases d2:s[k].toNat≤57
            · have b4:decide ((s[k].toNat:Int)≤57)=true:=decide_eq_true (by omega)
              go_wp2
              go_ret;exact ⟨aC HR.out.symm,rfl⟩
            · have b4:decide ((s[k].toNat:Int)≤57)=false:=decide_eq_false (by omega)
              go_wp2
              go_ret;exact ⟨aC HR.out.symm,rfl⟩
          · go_wp2
            all_goals
             go_ret;exact ⟨aC HR.out.symm,rfl⟩
      · have ez:((k:Int)==0)=false:=by rw [beq_eq_false_iff_ne];omega
        have HH2:Hid (k+1=0∨pS s.data.toList=true):=Or.inr (HH.out.resolve_left hz)
        by_cases h2:(48≤s[k].toNat∧s[k].toNat≤57)∨s[k].toNat=45
        · have HA2:=aA (gQ hlt HA.out ((sC _).2 (Or.inr h2)))
          by_cases hm:s[k].toNat=45
          · have em:((s[k].toNat:Int)==45)=true:=by rw [beq_iff_eq];omega
            have c1:¬ 97≤s[k].toNat:=by omega
            have c2:¬ 48≤s[k].toNat:=by omega
            clear h1 h2 hz hm
            go_wp2
            exact ⟨⟨k+1,by omega,by go_num,HA2.out,HH2.out⟩,by simp [intOf];omega⟩
          · obtain ⟨d1,d2⟩:=h2.resolve_right hm
            have c1:¬ 97≤s[k].toNat:=by omega
            have b4:decide ((s[k].toNat:Int)≤57)=true:=decide_eq_true (by omega);clear h1 h2 hz hm
            go_wp2
            exact ⟨⟨k+1,by omega,by go_num,HA2.out,HH2.out⟩,by simp [intOf];omega⟩
        · have hn:nmB s[k]=false:=by rw [Bool.eq_false_iff];intro h;rcases (sC _).1 h with h|h;exact h1 h;exact h2 h
          have HR:Hid (aQ s.data.toList=false):=by unfold Hid aQ;rw [yX hlt hn];simp
          have em:((s[k].toNat:Int)==45)=false:=by rw [beq_eq_false_iff_ne];omega
          by_cases c1:97≤s[k].toNat
          · have c2:122<s[k].toNat:=by omega
            have b2:decide ((s[k].toNat:Int)≤122)=false:=decide_eq_false (by omega);have b4:decide ((s[k].toNat:Int)≤57)=false:=decide_eq_false (by omega);clear h1 h2 hz hn
            go_wp2
            go_ret;exact ⟨aC HR.out.symm,rfl⟩
          · by_cases d1:48≤s[k].toNat
            · have d2:57<s[k].toNat:=by omega
              have b4:decide ((s[k].toNat:Int)≤57)=false:=decide_eq_false (by omega);clear h1 h2 hz hn
              go_wp2
              go_ret;exact ⟨aC HR.out.symm,rfl⟩
            · clear h1 h2 hz hn
              go_wp2
              go_ret;exact ⟨aC HR.out.symm,rfl⟩
  · have hke:k=s.size:=by omega
    subst hke;cases he:s.toList.isEmpty
    · have h0:=tO he
      have hh:=HH.out.resolve_left (by omega)
      by_cases h16:s.size≤16
      · have HR:Hid (aQ s.data.toList=true):=by unfold Hid aQ;rw [hh,yY HA.out,aX,decide_eq_true h16];rfl
        clear hh
        go_wp2
        go_ret;exact ⟨aC ((decide_eq_true (by omega)).trans HR.out.symm),rfl⟩
      · have HR:Hid (aQ s.data.toList=false):=by unfold Hid aQ;rw [aX,decide_eq_false h16];simp
        clear hh
        go_wp2
        go_ret;exact ⟨aC ((decide_eq_false (by omega)).trans HR.out.symm),rfl⟩
    · have HR:Hid (aQ s.data.toList=false):=lU (by rw [←nL];exact he)
      go_wp2
      go_ret;exact ⟨aC HR.out.symm,rfl⟩
end Go.Proofs.YtpfemjlhklnfoaaGreatDoor.Sc
namespace Go.Proofs.YtpfemjlhklnfoaaGreatDoor
open Go.RowKit
set_option maxRecDepth 100000
theorem wU {L:List Dp} {j:Nat} (h:j<L.length):cP (L.take (j+1))=some L[j].nm:=gD h
set_option maxHeartbeats 6400000 in
theorem wV (L:List Dp) (hz:L.length≤9223372036854775807) (g o cap:Nat) (w:World) (hs:∀ i (h:i<L.length),∃ u,DpIn w g (o+i*2) L[i] u) (hnm:∀ d ∈ L,d.nm.size≤9223372036854775807):
 Calls Tryz.prog 87 #[.slice (some ⟨g,o,none⟩) L.length cap] w fun e w'=>e= .returned (.bool (aM L))∧Below w.heap.size w w':=by
 have HL:Hid (∀ w1,Below w.heap.size w w1→∀ i (h:i<L.length),∃ u,DpIn w1 g (o+i*2) L[i] u):=fun w1 hb i hi=>(hs i hi).imp fun u h=>h.below hb
 have HN:Hid (∀ (i:Nat) (h:i<L.length) w1,Calls Tryz.prog 85 #[.string L[i].nm] w1 fun e w'=>e= .returned (.bool (Sc.aQ L[i].nm.data.toList))∧Below w1.heap.size w1 w'):=fun i hi w1=>(Sc.qG L[i].nm (hnm _ (List.getElem_mem hi)) w1).mono fun e w' ⟨h1,h2⟩=>⟨h1,by rw [h2];exact Below.refl _ _⟩
 have HMD:Hid (aM L=(decide (L.length≤16)&&bW none L)):=rfl;clear hs hnm
 go_enter Tryz.func87,Tryz.ntmps87
 go_wp2_with fail
 go_loopw [3] (fun i wr=>∃ k:Nat,k≤L.length∧i= .int .i64 k∧Below w.heap.size w wr∧bW none L=bW (cP (L.take k)) (L.drop k)∧∀ q,cP (L.take k)=some q→q.size≤16) (fun i _=>L.length - (intOf i).toNat)
 case atStart=>exact ⟨0,Nat.zero_le _,rfl,Below.refl _ _,rfl,fun q h=>by cases h⟩
 case round=>
  obtain ⟨k,hk,rfl,hb,hall,hq16⟩:=hrel;have HALL:=aA hall;have HQ:=aA hq16;have HB:=aA hb;clear hall hq16
  by_cases hlt:k<L.length
  · have hdr:L.drop k=L[k]::L.drop (k+1):=List.drop_eq_getElem_cons hlt
    have HST:Hid (bW none L=(bX (cP (L.take k)) L[k].nm&&bS L[k].rg&&bW (cP (L.take (k+1))) (L.drop (k+1)))):=by
     unfold Hid;rw [HALL.out,hdr,gD hlt];rfl
    have HQN:Hid (Sc.aQ L[k].nm.data.toList=true→∀ q,cP (L.take (k+1))=some q→q.size≤16):=fun hn q hq=>by
     rw [gD hlt] at hq;cases hq;unfold Sc.aQ at hn;rw [Bool.and_eq_true,decide_eq_true_eq,aX] at hn;exact hn.2
    have HSZ:Hid (Sc.aQ L[k].nm.data.toList=true→L[k].nm.size≤16):=fun hn=>by
     unfold Sc.aQ at hn;rw [Bool.and_eq_true,decide_eq_true_eq,aX] at hn;exact hn.2
    have HFO:Hid (bX (cP (L.take k)) L[k].nm=(Sc.aQ L[k].nm.data.toList&&(match cP (L.take k) with
     |none=>true
     |some p=>ltS p L[k].nm))):=rfl
    have HRB:Hid (bS L[k].rg=(decide (0<L[k].rg.length)&&cJ L[k].rg)):=rfl;clear hdr HALL
    rcases Nat.eq_zero_or_pos k with hk0|hk0
    · subst hk0
      obtain ⟨u,hu⟩:=HL.out wr hb 0 hlt;have HO:Hid (Below w.heap.size w wr∧DpIn wr g (o+0*2) L[0] u):=⟨hb,hu⟩;have HK:Hid (KeepP fun w1=>Below w.heap.size w w1∧DpIn w1 g (o+0*2) L[0] u):=(aG w).and (kW _ _ _ _);have HC1:Hid (∀ w1,Calls Tryz.prog 85 #[.string L[0].nm] w1 fun e w'=>e= .returned (.bool (Sc.aQ L[0].nm.data.toList))∧Below w1.heap.size w1 w'):=HN.out 0 hlt;have HC2:Hid (∀ w1,(Below w.heap.size w w1∧DpIn w1 g (o+0*2) L[0] u)→Calls Tryz.prog 99 #[u] w1 fun e w'=>e= .returned (.bool (cJ L[0].rg))∧Below w1.heap.size w1 w'):=fun w1 h=>lC h.2.2.2.1.1.1
      obtain ⟨au,cu,rfl⟩:=hu.2.2.1.1.1.sl;rw [Nat.zero_mul,Nat.add_zero] at HO HK HC2;have hlf:cP (L.take 0)=none:=rfl;rw [hlf] at HFO HST;clear hu hb HQ hlf;generalize bX none L[0].nm=fo at*;generalize bS L[0].rg=rb at*;generalize Sc.aQ L[0].nm.data.toList=b1 at*;generalize cJ L[0].rg=b2 at*;generalize L[0].rg.length=ln at*;generalize L[0]=d at*;cases b1
      · have HR:Hid (aM L=false):=by unfold Hid;rw [HMD.out,HST.out,HFO.out];simp
        clear HST HFO HRB HQN HSZ
        go_wp2_with fail
        refine bA HK (by kernel_rfl) (by kernel_rfl) (by first|exact HO.out|exact HK.out.drew HO.out) ?_;intro C HIN HOUT;clear HO
        repeat
         (with_reducible refine wpQuiet_step (fun K hK=> ?_)
          go_simp
          first
           |(refine hK _ ?_;clear hK K)
           |(apply Exists.intro;refine ⟨fun w1 hC=> ?_,hK _ ?_⟩;(focus ((first|(go_at_call 85;with_reducible exact aU HIN HOUT HK HC1.out w1 hC)|(exact rfl)|(obtain ⟨hb1,⟨p0,p1,ph,p3⟩⟩:=HOUT.out w1 hC;clear hC;go_simp;first|done|exact rfl));done));clear hK K))
        refine wpQuiet_nil ?_;intro wn hC;have HO:=aA (HOUT.out _ hC);clear hC HIN HOUT C;obtain ⟨hb1,⟨p0,p1,ph,p3⟩⟩:=HO.out
        go_wp2
        go_ret;exact ⟨aC HR.out.symm,HO.out.1⟩
      · cases b2
        · have HR:Hid (aM L=false):=by unfold Hid;rw [HMD.out,HST.out,HRB.out];simp
          clear HST HFO HRB HQN HSZ
          go_wp2_with fail
          refine bA HK (by kernel_rfl) (by kernel_rfl) (by first|exact HO.out|exact HK.out.drew HO.out) ?_;intro C HIN HOUT;clear HO
          repeat
           (with_reducible refine wpQuiet_step (fun K hK=> ?_)
            go_simp
            first
             |(refine hK _ ?_;clear hK K)
             |(apply Exists.intro;refine ⟨fun w1 hC=> ?_,hK _ ?_⟩;(focus ((first|(go_at_call 85;with_reducible exact aU HIN HOUT HK HC1.out w1 hC)|(go_at_call 99;with_reducible exact cI HIN HOUT HK HC2.out w1 hC)|(exact rfl)|(obtain ⟨hb1,⟨p0,p1,ph,p3⟩⟩:=HOUT.out w1 hC;clear hC;go_simp;first|done|exact rfl));done));clear hK K))
          refine wpQuiet_nil ?_;intro wn hC;have HO:=aA (HOUT.out _ hC);clear hC HIN HOUT C;obtain ⟨hb1,⟨p0,p1,ph,p3⟩⟩:=HO.out
          go_wp2
          go_ret;exact ⟨aC HR.out.symm,HO.out.1⟩
        · by_cases hl0:ln=0
          · have HR:Hid (aM L=false):=by unfold Hid;rw [HMD.out,HST.out,HRB.out];simp [hl0]
            clear HST HFO HRB HQN HSZ;have hl1:((ln:Int)==0)=true:=by rw [hl0];rfl
            subst hl0
            go_wp2_with fail
            refine bA HK (by kernel_rfl) (by kernel_rfl) (by first|exact HO.out|exact HK.out.drew HO.out) ?_;intro C HIN HOUT;clear HO
            repeat
             (with_reducible refine wpQuiet_step (fun K hK=> ?_)
              go_simp
              first
               |(refine hK _ ?_;clear hK K)
               |(apply Exists.intro;refine ⟨fun w1 hC=> ?_,hK _ ?_⟩;(focus ((first|(go_at_call 85;with_reducible exact aU HIN HOUT HK HC1.out w1 hC)|(go_at_call 99;with_reducible exact cI HIN HOUT HK HC2.out w1 hC)|(exact rfl)|(obtain ⟨hb1,⟨p0,p1,ph,p3⟩⟩:=HOUT.out w1 hC;clear hC;go_simp;first|done|exact rfl));done));clear hK K))
            refine wpQuiet_nil ?_;intro wn hC;have HO:=aA (HOUT.out _ hC);clear hC HIN HOUT C;obtain ⟨hb1,⟨p0,p1,ph,p3⟩⟩:=HO.out
            go_wp2
            go_ret;exact ⟨aC HR.out.symm,HO.out.1⟩
          · have hl1:((ln:Int)==0)=false:=by rw [beq_eq_false_iff_ne];omega
            have HR:Hid (bW none L=bW (cP (L.take 1)) (L.drop 1)):=by unfold Hid;rw [HST.out,HFO.out,HRB.out];simp;omega
            clear HST HFO HRB HSZ
            go_wp2_with fail
            refine bA HK (by kernel_rfl) (by kernel_rfl) (by first|exact HO.out|exact HK.out.drew HO.out) ?_;intro C HIN HOUT;clear HO
            repeat
             (with_reducible refine wpQuiet_step (fun K hK=> ?_)
              go_simp
              first
               |(refine hK _ ?_;clear hK K)
               |(apply Exists.intro;refine ⟨fun w1 hC=> ?_,hK _ ?_⟩;(focus ((first|(go_at_call 85;with_reducible exact aU HIN HOUT HK HC1.out w1 hC)|(go_at_call 99;with_reducible exact cI HIN HOUT HK HC2.out w1 hC)|(exact rfl)|(obtain ⟨hb1,⟨p0,p1,ph,p3⟩⟩:=HOUT.out w1 hC;clear hC;go_simp;first|done|exact rfl));done));clear hK K))
            refine wpQuiet_nil ?_;intro wn hC;have HO:=aA (HOUT.out _ hC);clear hC HIN HOUT C;obtain ⟨hb1,⟨p0,p1,ph,p3⟩⟩:=HO.out
            go_wp2
            exact ⟨⟨0+1,by omega,by go_num,HO.out.1,HR.out,HQN.out (by first|rfl|trivial)⟩,by simp [intOf];omega⟩
    · obtain ⟨j,hkj⟩:∃ j,k=j+1:=⟨k - 1,by omega⟩
      have hjl:j<L.length:=by omega
      obtain ⟨u,hu⟩:=HL.out wr hb k hlt;obtain ⟨u',hu'⟩:=HL.out wr hb j hjl;have hlf:cP (L.take k)=some L[j].nm:=by subst hkj;exact wU hjl
      have h16:=HQ.out _ hlf;rw [hlf] at HST;clear HFO;have HFO:Hid (bX (some L[j].nm) L[k].nm=(Sc.aQ L[k].nm.data.toList&&ltS L[j].nm L[k].nm)):=rfl;have HO:Hid (Below w.heap.size w wr∧DpIn wr g (o+k*2) L[k] u∧DpIn wr g (o+j*2) L[j] u'):=⟨hb,hu,hu'⟩;have HK:Hid (KeepP fun w1=>Below w.heap.size w w1∧DpIn w1 g (o+k*2) L[k] u∧DpIn w1 g (o+j*2) L[j] u'):=(aG w).and ((kW _ _ _ _).and (kW _ _ _ _));have HC1:Hid (∀ w1,Calls Tryz.prog 85 #[.string L[k].nm] w1 fun e w'=>e= .returned (.bool (Sc.aQ L[k].nm.data.toList))∧Below w1.heap.size w1 w'):=HN.out k hlt;have HC2:Hid (∀ w1,(Below w.heap.size w w1∧DpIn w1 g (o+k*2) L[k] u∧DpIn w1 g (o+j*2) L[j] u')→Calls Tryz.prog 99 #[u] w1 fun e w'=>e= .returned (.bool (cJ L[k].rg))∧Below w1.heap.size w1 w'):=fun w1 h=>lC h.2.1.2.2.1.1.1
      have HC3:Hid (Sc.aQ L[k].nm.data.toList=true→∀ w1,Calls Tryz.prog 140 #[.string L[j].nm,.string L[k].nm] w1 fun e w'=>e= .returned (.bool (ltS L[j].nm L[k].nm))∧Below w1.heap.size w1 w'):=fun _ w1=>qA _ _ w1 (by omega)
      obtain ⟨au,cu,rfl⟩:=hu.2.2.1.1.1.sl;have hw1:IntKind.i64.wrap ((k:Int) - 1)=(j:Int):=by rw [IntKind.wrap_i64];omega
      have hj1:(0:Int)<(k:Int):=by omega
      have hj2:decide ((0:Int)<(k:Int))=true:=decide_eq_true hj1;have hj3:decide (0<k)=true:=decide_eq_true hk0;have hji:(j:Int)<(L.length:Int):=by omega
      clear hu hu' hb HQ hlf h16 hkj;generalize bX (some L[j].nm) L[k].nm=fo at*;generalize bS L[k].rg=rb at*;generalize Sc.aQ L[k].nm.data.toList=b1 at*;generalize cJ L[k].rg=b2 at*;generalize ltS L[j].nm L[k].nm=b3 at*;generalize L[k].rg.length=ln at*;generalize L[k]=d at*;generalize L[j]=d' at*;cases b1
      · have HR:Hid (aM L=false):=by unfold Hid;rw [HMD.out,HST.out,HFO.out];simp
        clear HST HFO HRB HQN HSZ HC3
        go_wp2_with fail
        refine bA HK (by kernel_rfl) (by kernel_rfl) (by first|exact HO.out|exact HK.out.drew HO.out) ?_;intro C HIN HOUT;clear HO
        repeat
         (with_reducible refine wpQuiet_step (fun K hK=> ?_)
          go_simp
          first
           |(refine hK _ ?_;clear hK K)
           |(apply Exists.intro;refine ⟨fun w1 hC=> ?_,hK _ ?_⟩;(focus ((first|(go_at_call 85;with_reducible exact aU HIN HOUT HK HC1.out w1 hC)|(exact rfl)|(obtain ⟨hb1,⟨p0,p1,ph,p3⟩,⟨q0,q1,qh,q3⟩⟩:=HOUT.out w1 hC;clear hC;go_simp;first|done|exact rfl));done));clear hK K))
        refine wpQuiet_nil ?_;intro wn hC;have HO:=aA (HOUT.out _ hC);clear hC HIN HOUT C;obtain ⟨hb1,⟨p0,p1,ph,p3⟩,⟨q0,q1,qh,q3⟩⟩:=HO.out
        go_wp2
        go_ret;exact ⟨aC HR.out.symm,HO.out.1⟩
      · cases b2
        · have HR:Hid (aM L=false):=by unfold Hid;rw [HMD.out,HST.out,HRB.out];simp
          clear HST HFO HRB HQN HSZ HC3
          go_wp2_with fail
          refine bA HK (by kernel_rfl) (by kernel_rfl) (by first|exact HO.out|exact HK.out.drew HO.out) ?_;intro C HIN HOUT;clear HO
          repeat
           (with_reducible refine wpQuiet_step (fun K hK=> ?_)
            go_simp
            first
             |(refine hK _ ?_;clear hK K)
             |(apply Exists.intro;refine ⟨fun w1 hC=> ?_,hK _ ?_⟩;(focus ((first|(go_at_call 85;with_reducible exact aU HIN HOUT HK HC1.out w1 hC)|(go_at_call 99;with_reducible exact cI HIN HOUT HK HC2.out w1 hC)|(exact rfl)|(obtain ⟨hb1,⟨p0,p1,ph,p3⟩,⟨q0,q1,qh,q3⟩⟩:=HOUT.out w1 hC;clear hC;go_simp;first|done|exact rfl));done));clear hK K))
          refine wpQuiet_nil ?_;intro wn hC;have HO:=aA (HOUT.out _ hC);clear hC HIN HOUT C;obtain ⟨hb1,⟨p0,p1,ph,p3⟩,⟨q0,q1,qh,q3⟩⟩:=HO.out
          go_wp2
          go_ret;exact ⟨aC HR.out.symm,HO.out.1⟩
        · by_cases hl0:ln=0
          · have HR:Hid (aM L=false):=by unfold Hid;rw [HMD.out,HST.out,HRB.out];simp [hl0]
            clear HST HFO HRB HQN HSZ HC3;have hl1:((ln:Int)==0)=true:=by rw [hl0];rfl
            subst hl0
            go_wp2_with fail
            refine bA HK (by kernel_rfl) (by kernel_rfl) (by first|exact HO.out|exact HK.out.drew HO.out) ?_;intro C HIN HOUT;clear HO
            repeat
             (with_reducible refine wpQuiet_step (fun K hK=> ?_)
              go_simp
              first
               |(refine hK _ ?_;clear hK K)
               |(apply Exists.intro;refine ⟨fun w1 hC=> ?_,hK _ ?_⟩;(focus ((first|(go_at_call 85;with_reducible exact aU HIN HOUT HK HC1.out w1 hC)|(go_at_call 99;with_reducible exact cI HIN HOUT HK HC2.out w1 hC)|(exact rfl)|(obtain ⟨hb1,⟨p0,p1,ph,p3⟩,⟨q0,q1,qh,q3⟩⟩:=HOUT.out w1 hC;clear hC;go_simp;first|done|exact rfl));done));clear hK K))
            refine wpQuiet_nil ?_;intro wn hC;have HO:=aA (HOUT.out _ hC);clear hC HIN HOUT C;obtain ⟨hb1,⟨p0,p1,ph,p3⟩,⟨q0,q1,qh,q3⟩⟩:=HO.out
            go_wp2
            go_ret;exact ⟨aC HR.out.symm,HO.out.1⟩
          · have hl1:((ln:Int)==0)=false:=by rw [beq_eq_false_iff_ne];omega
            have HC4:=aA (HC3.out (by first|rfl|trivial));cases b3
            · have HR:Hid (aM L=false):=by unfold Hid;rw [HMD.out,HST.out,HFO.out];simp
              clear HST HFO HRB HQN HSZ HC3
              go_wp2_with fail
              refine bA HK (by kernel_rfl) (by kernel_rfl) (by first|exact HO.out|exact HK.out.drew HO.out) ?_;intro C HIN HOUT;clear HO
              repeat
               (with_reducible refine wpQuiet_step (fun K hK=> ?_)
                go_simp
                first
                 |(refine hK _ ?_;clear hK K)
                 |(apply Exists.intro;refine ⟨fun w1 hC=> ?_,hK _ ?_⟩;(focus ((first|(go_at_call 85;with_reducible exact aU HIN HOUT HK HC1.out w1 hC)|(go_at_call 99;with_reducible exact cI HIN HOUT HK HC2.out w1 hC)|(go_at_call 140;with_reducible exact aU HIN HOUT HK HC4.out w1 hC)|(exact rfl)|(obtain ⟨hb1,⟨p0,p1,ph,p3⟩,⟨q0,q1,qh,q3⟩⟩:=HOUT.out w1 hC;clear hC;go_simp;first|done|exact rfl));done));clear hK K))
              refine wpQuiet_nil ?_;intro wn hC;have HO:=aA (HOUT.out _ hC);clear hC HIN HOUT C;obtain ⟨hb1,⟨p0,p1,ph,p3⟩,⟨q0,q1,qh,q3⟩⟩:=HO.out
              go_wp2
              go_ret;exact ⟨aC HR.out.symm,HO.out.1⟩
            · have HR:Hid (bW none L=bW (cP (L.take (k+1))) (L.drop (k+1))):=by unfold Hid;rw [HST.out,HFO.out,HRB.out];simp;omega
              clear HST HFO HRB HSZ HC3
              go_wp2_with fail
              refine bA HK (by kernel_rfl) (by kernel_rfl) (by first|exact HO.out|exact HK.out.drew HO.out) ?_;intro C HIN HOUT;clear HO
              repeat
               (with_reducible refine wpQuiet_step (fun K hK=> ?_)
                go_simp
                first
                 |(refine hK _ ?_;clear hK K)
                 |(apply Exists.intro;refine ⟨fun w1 hC=> ?_,hK _ ?_⟩;(focus ((first|(go_at_call 85;with_reducible exact aU HIN HOUT HK HC1.out w1 hC)|(go_at_call 99;with_reducible exact cI HIN HOUT HK HC2.out w1 hC)|(go_at_call 140;with_reducible exact aU HIN HOUT HK HC4.out w1 hC)|(exact rfl)|(obtain ⟨hb1,⟨p0,p1,ph,p3⟩,⟨q0,q1,qh,q3⟩⟩:=HOUT.out w1 hC;clear hC;go_simp;first|done|exact rfl));done));clear hK K))
              refine wpQuiet_nil ?_;intro wn hC;have HO:=aA (HOUT.out _ hC);clear hC HIN HOUT C;obtain ⟨hb1,⟨p0,p1,ph,p3⟩,⟨q0,q1,qh,q3⟩⟩:=HO.out
              go_wp2
              exact ⟨⟨k+1,by omega,by go_num,HO.out.1,HR.out,HQN.out (by first|rfl|trivial)⟩,by simp [intOf];omega⟩
  · have hke:k=L.length:=by omega
    subst hke
    by_cases h16:L.length≤16
    · have HR:Hid (aM L=true):=by unfold Hid;rw [HMD.out,HALL.out,List.drop_length,decide_eq_true h16];rfl
      have hle:decide ((L.length:Int)≤16)=true:=decide_eq_true (by omega);clear hb
      go_wp2
      go_ret;exact ⟨aC HR.out.symm,HB.out⟩
    · have HR:Hid (aM L=false):=by unfold Hid;rw [HMD.out,decide_eq_false h16];rfl
      have hle:decide ((L.length:Int)≤16)=false:=decide_eq_false (by omega);clear hb
      go_wp2
      go_ret;exact ⟨aC HR.out.symm,HB.out⟩
theorem BZ (ad:Option Addr) (cap:Nat) (w:World):
 Calls Tryz.prog 87 #[.slice ad 0 cap] w fun e w'=>e= .returned (.bool true)∧Below w.heap.size w w':=by
 go_enter Tryz.func87,Tryz.ntmps87
 go_wp2_with fail
 go_loop [3] (fun i=>i= .int .i64 0) (fun _=>0)
 case atStart=>rfl
 case round=>
  subst hrel
  go_wp2
  go_ret;exact ⟨rfl,Below.refl _ _⟩
theorem lD {v:Value} {L:List Dp} {w:World} (h:DepsAt w v L) (hz:L.length≤9223372036854775807) (hnm:∀ d ∈ L,d.nm.size≤9223372036854775807):
 Calls Tryz.prog 87 #[v] w fun e w'=>e= .returned (.bool (aM L))∧Below w.heap.size w w':=by
 obtain ⟨ad,cap,rfl,hc,hs⟩:=h
 rcases hs with rfl|⟨g,o,rfl,hg,hs⟩
 · exact BZ _ _ w
 · exact wV L hz g o cap w hs hnm
end Go.Proofs.YtpfemjlhklnfoaaGreatDoor
