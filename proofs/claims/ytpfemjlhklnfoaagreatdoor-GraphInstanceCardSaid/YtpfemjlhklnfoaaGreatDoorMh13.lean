/- Wr2, Rk5: their declarations that are needed, laid in one text, remarks and blanks left out. -/
import Derived.Test.YtpfemjlhklnfoaaGreatDoorMh12
namespace Go.Proofs.YtpfemjlhklnfoaaGreatDoor
open Go.RowKit
set_option maxRecDepth 100000
def cQ (l:Rg):ByteArray:=⟨(Lib.join (l.map fun p=>(spT p).data.toList) [32,124,124,32]).toArray⟩
theorem NZ {l:List (List UInt8)} (h:l≠[]) (x sep:List UInt8):Lib.join (l++[x]) sep=Lib.join l sep++sep++x:=by
 cases l with
 |nil=>exact absurd rfl h
 |cons y l=>
  rw [List.cons_append,Lib.join_cons,Lib.join_cons];simp [Lib.joinTail]
theorem wW {A:Rg} (h:0<A.length):cQ (A.take (0+1))=spT A[0]:=by
 unfold cQ;rw [List.take_succ_eq_append_getElem h];simp only [List.take_zero,List.nil_append,List.map_cons,List.map_nil];rw [Lib.join_one,iR]
theorem wX {A:Rg} {k:Nat} (h:k<A.length) (h0:k≠0):cQ (A.take (k+1))=(cQ (A.take k)++⟨#[32,124,124,32]⟩)++spT A[k]:=by
 have hne:(A.take k).map (fun p=>(spT p).data.toList)≠[]:=by
  intro e
  have:=congrArg List.length e
  rw [List.length_map,List.length_take,List.length_nil] at this;omega
 refine fQ ?_;simp only [jY];unfold cQ;rw [List.take_succ_eq_append_getElem h,List.map_append];simp only [List.map_cons,List.map_nil];rw [NZ hne]
theorem wY {A:Rg} (hl:A.length≤64) (k:Nat):(cQ (A.take k)).size≤10000:=by
 unfold cQ;rw [nD];exact pO (by rw [List.length_take];omega)
theorem uH {A:Rg} (h:A≠[]):eT A=cQ A:=by
 cases A with
 |nil=>exact absurd rfl h
 |cons _ _=>rfl
theorem qH {lo hi:Int} (h1:okR lo) (h2:okR hi):(atA lo=atA hi∧atB lo=atB hi∧atC lo=atC hi)↔lo=hi:=by
 obtain ⟨m1,e1⟩:=eP h1.has;obtain ⟨m2,e2⟩:=eP h2.has
 constructor
 · rintro ⟨a,b,c⟩
   rw [←e1,←e2,a,b,c]
 · rintro rfl
   exact ⟨rfl,rfl,rfl⟩
theorem uI {lo:Int} (h1:okR lo):(atA lo=0∧atB lo=0∧atC lo=0)↔lo=0:=by
 obtain ⟨m1,e1⟩:=eP h1.has
 constructor
 · rintro ⟨a,b,c⟩
   rw [←e1,a,b,c];exact EU
 · rintro rfl
   decide+kernel
theorem uJ {hi:Int} (h1:okR hi):(atA hi=999∧atB hi=999∧atC hi=999)↔hi=999999999:=by
 obtain ⟨m1,e1⟩:=eP h1.has
 constructor
 · rintro ⟨a,b,c⟩
   rw [←e1,a,b,c];exact EV
 · rintro rfl
   decide+kernel
theorem MW {lo hi:Int} (h1:okR lo) (h2:okR hi):spT (lo,hi)=if lo=hi then aT (atA lo) (atB lo) (atC lo) else if lo=0∧hi=999999999 then ⟨#[42]⟩ else if lo=0 then ⟨#[60,61]⟩++aT (atA hi) (atB hi) (atC hi) else
 if hi=999999999 then ⟨#[62,61]⟩++aT (atA lo) (atB lo) (atC lo) else ((⟨#[62,61]⟩++aT (atA lo) (atB lo) (atC lo))++⟨#[32,60,61]⟩)++aT (atA hi) (atB hi) (atC hi):=by
 unfold spT eS;simp only [qH h1 h2,uI h1,uJ h2]
theorem FF {A:Rg} {k M:Int} (h:RiseR k M A) (hk:0≤k):∀ p ∈ A,0≤p.1∧p.1≤p.2∧p.2≤M:=by
 induction A generalizing k with
 |nil=>intro p hp;cases hp
 |cons q A ih=>
  obtain ⟨q1,q2,q3,q4⟩:=BH h;intro p hp
  rcases List.mem_cons.1 hp with rfl|hp
  · exact ⟨by omega,q2,q3⟩
  · exact ih q4 (by omega) p hp
set_option maxHeartbeats 12800000 in
theorem uK (A:Rg) (hA:RangeR A) (h0:A≠[]) (g o cap:Nat) (w:World) (hlen:A.length≤64) (hg:g<w.heap.size) (hl:∀ i (h:i<A.length),SpAt w g (o+i*6) (spR A[i]))
 (HMay:Hid (Calls Tryz.prog 99 #[.slice (some ⟨g,o,none⟩) A.length cap] w fun e w'=>e= .returned (.bool true)∧Below w.heap.size w w')):
 Calls Tryz.prog 203 #[.slice (some ⟨g,o,none⟩) A.length cap] w fun e w'=>e= .returned (.string (eT A))∧Below w.heap.size w w':=by
 have HL:Hid (∀ w1,Below w.heap.size w w1→∀ i (h:i<A.length),kT w1 g (o+i*6) (spR A[i])):=fun w1 hb i hi=>⟨(hl i hi).below hb hg,Nat.lt_of_lt_of_le hg hb.size⟩
 have HPJ:=aA (uH h0);have HRO:Hid (∀ p ∈ A,0≤p.1∧p.1≤p.2∧p.2≤999999999):=FF hA (Int.le_refl 0)
 have hl0:((A.length:Int)==0)=false:=by
  rw [beq_eq_false_iff_ne]
  have:=List.length_pos_iff.2 h0
  omega
 have hgd:=iW;clear hl hA
 go_enter Tryz.func203,Tryz.ntmps203
 go_wp2_with (go_at_call 99;refine HMay.out.mono ?_;rintro e w1 ⟨rfl,ok1⟩;have HO1:=aA ok1;clear ok1)
 go_loopw [3,4] (fun out i wr=>∃ k:Nat,k≤A.length∧i= .int .i64 k∧out= .string (cQ (A.take k))∧Below w.heap.size w wr) (fun _ i _=>A.length - (intOf i).toNat)
 case atStart=>exact ⟨0,Nat.zero_le _,rfl,by rw [List.take_zero];rfl,HO1.out⟩
 case round=>
  obtain ⟨k,hk,rfl,rfl,hb⟩:=hrel;have HB:=aA hb
  by_cases hlt:k<A.length
  · have hs:=HL.out wr hb k hlt
    obtain ⟨ok1,ok2,ok3⟩:=HRO.out _ (List.getElem_mem hlt);have hyz:=wY hlen k
    have HN0:Hid (k=0→cQ (A.take (k+1))=cQ (A.take k)++spT A[k]):=by
     intro e;subst e;rw [wW hlt];exact (BG _).symm
    have HN1:Hid (k≠0→cQ (A.take (k+1))=(cQ (A.take k)++⟨#[32,124,124,32]⟩)++spT A[k]):=wX hlt;have HO:Hid (Below w.heap.size w wr∧kT wr g (o+k*6) (spR A[k])):=⟨hb,hs⟩;have HK:Hid (KeepP fun w1=>Below w.heap.size w w1∧kT w1 g (o+k*6) (spR A[k])):=(aG w).and (mT _ _ _);clear hb;generalize A[k]=p at*;obtain ⟨lo,hi⟩:=p
    simp only at ok1 ok2 ok3
    have h1:okR lo:=⟨ok1,by omega⟩;have h2:okR hi:=⟨by omega,ok3⟩;have hsp:=MW h1 h2;obtain ⟨m1,q1⟩:=eP h1.has;obtain ⟨m2,q2⟩:=eP h2.has;have zL:=cB (atA lo) (atB lo) (atC lo);have zH:=cB (atA hi) (atB hi) (atC hi);have e1:=vX (atA lo) (atB lo) (atC lo) (atA hi) (atB hi) (atC hi);have HPL:Hid (∀ w1,Calls Tryz.prog 141 #[.agg #[.int .i64 (atA lo),.int .i64 (atB lo),.int .i64 (atC lo)]] w1 fun e w'=>e= .returned (.string (aT (atA lo) (atB lo) (atC lo)))∧Below w1.heap.size w1 w'):=jC _ _ _;have HPH:Hid (∀ w1,Calls Tryz.prog 141 #[.agg #[.int .i64 (atA hi),.int .i64 (atB hi),.int .i64 (atC hi)]] w1 fun e w'=>e= .returned (.string (aT (atA hi) (atB hi) (atC hi)))∧Below w1.heap.size w1 w'):=jC _ _ _
    have HRL:Hid (∀ w1,Calls Tryz.prog 101 #[.agg #[.int .i64 (atA lo),.int .i64 (atB lo),.int .i64 (atC lo)]] w1 fun e w'=>e= .returned (.int .i64 lo)∧Below w1.heap.size w1 w'):=fun w1=>by have:=fX (atA lo) (atB lo) (atC lo) w1;rw [q1] at this;exact this
    have HRH:Hid (∀ w1,Calls Tryz.prog 101 #[.agg #[.int .i64 (atA hi),.int .i64 (atB hi),.int .i64 (atC hi)]] w1 fun e w'=>e= .returned (.int .i64 hi)∧Below w1.heap.size w1 w'):=fun w1=>by have:=fX (atA hi) (atB hi) (atC hi) w1;rw [q2] at this;exact this
    simp only [qH h1 h2] at e1;simp only [spR] at HO HK hs;clear m1 m2 q1 q2 h1 h2;generalize aT (atA lo) (atB lo) (atC lo)=TL at*;generalize aT (atA hi) (atB hi) (atC hi)=TH at*;generalize cQ (A.take k)=y at*;generalize spT (lo,hi)=S at*;generalize atA lo=a at*;generalize atB lo=b at*;generalize atC lo=c at*;generalize atA hi=x at*;generalize atB hi=y' at*;generalize atC hi=z at*;obtain ⟨⟨p0,p1,p2,p3,p4,p5⟩,p6⟩:=hs
    simp only at p0 p1 p2 p3 p4 p5
    have z1:(⟨#[32,124,124,32]⟩:ByteArray).size=4:=rfl;have z2:(⟨#[60,61]⟩:ByteArray).size=2:=rfl;have z3:(⟨#[62,61]⟩:ByteArray).size=2:=rfl;have z4:(⟨#[42]⟩:ByteArray).size=1:=rfl;have z5:(⟨#[32]⟩:ByteArray).size=1:=rfl;have t1:True:=trivial;have t2:True:=trivial;have t3:True:=trivial;have t4:True:=trivial;have t5:True:=trivial
    by_cases c1:lo=hi
    · rw [decide_eq_true c1] at e1
      rw [if_pos c1] at hsp;clear c1
      by_cases hk0:k=0
      · have HX:Hid (y++TL=cQ (A.take (k+1))):=by
         unfold Hid;rw [HN0.out hk0,hsp]
        have hkk:¬ (0:Int)<(k:Int):=by omega
        clear hsp hk0 HN0 HN1
        go_wp2_with (first|(have _h:=t1;go_at_call 141;refine (HPL.out _).mono ?_;rintro e wz ⟨rfl,ok⟩;have HO9:=aA (HK.out _ _ HO.out ok);clear ok HO t1 p0 p1 p2 p3 p4 p5 p6;have HO:=HO9;clear HO9;obtain ⟨_,⟨p0,p1,p2,p3,p4,p5⟩,p6⟩:=HO.out)|(have _h:=t2;go_at_call 141;refine (HPH.out _).mono ?_;rintro e wz ⟨rfl,ok⟩;have HO9:=aA (HK.out _ _ HO.out ok);clear ok HO t2 p0 p1 p2 p3 p4 p5 p6;have HO:=HO9;clear HO9;obtain ⟨_,⟨p0,p1,p2,p3,p4,p5⟩,p6⟩:=HO.out)|(have _h:=t3;go_at_call 101;refine (HRL.out _).mono ?_;rintro e wz ⟨rfl,ok⟩;have HO9:=aA (HK.out _ _ HO.out ok);clear ok HO t3 p0 p1 p2 p3 p4 p5 p6;have HO:=HO9;clear HO9;obtain ⟨_,⟨p0,p1,p2,p3,p4,p5⟩,p6⟩:=HO.out)|(have _h:=t4;go_at_call 101;refine (HRH.out _).mono ?_;rintro e wz ⟨rfl,ok⟩;have HO9:=aA (HK.out _ _ HO.out ok);clear ok HO t4 p0 p1 p2 p3 p4 p5 p6;have HO:=HO9;clear HO9;obtain ⟨_,⟨p0,p1,p2,p3,p4,p5⟩,p6⟩:=HO.out))
        refine bA HK (by kernel_rfl) (by kernel_rfl) (by first|exact HO.out|exact HK.out.drew HO.out) ?_;intro C HIN HOUT;clear HO
        repeat
         (with_reducible refine wpQuiet_step (fun K hK=> ?_)
          go_simp
          first
           |(refine hK _ ?_;clear hK K)
           |(apply Exists.intro;refine ⟨fun w1 hC=> ?_,hK _ ?_⟩;(focus ((first|(exact rfl)|(obtain ⟨hb1,⟨p0,p1,p2,p3,p4,p5⟩,p6⟩:=HOUT.out w1 hC;clear hC;go_simp;first|done|exact rfl));done));clear hK K))
        refine wpQuiet_nil ?_;intro wn hC;have HO:=aA (HOUT.out _ hC);clear hC HIN HOUT C;obtain ⟨hb1,⟨p0,p1,p2,p3,p4,p5⟩,p6⟩:=HO.out
        go_wp2_with (have _h:=t5;go_at_call 141;refine (HPL.out _).mono ?_;rintro e wz ⟨rfl,ok⟩;have HO9:=aA (HK.out _ _ HO.out ok);clear ok HO t5 p0 p1 p2 p3 p4 p5 p6;have HO:=HO9;clear HO9;obtain ⟨_,⟨p0,p1,p2,p3,p4,p5⟩,p6⟩:=HO.out)
        exact ⟨⟨k+1,by omega,by go_num,by rw [HX.out],HO.out.1⟩,by simp [intOf];omega⟩
      · have HX:Hid ((y++⟨#[32,124,124,32]⟩)++TL=cQ (A.take (k+1))):=by
         unfold Hid;rw [HN1.out hk0,hsp]
        have hkk:(0:Int)<(k:Int):=by omega
        clear hsp hk0 HN0 HN1
        go_wp2_with (first|(have _h:=t1;go_at_call 141;refine (HPL.out _).mono ?_;rintro e wz ⟨rfl,ok⟩;have HO9:=aA (HK.out _ _ HO.out ok);clear ok HO t1 p0 p1 p2 p3 p4 p5 p6;have HO:=HO9;clear HO9;obtain ⟨_,⟨p0,p1,p2,p3,p4,p5⟩,p6⟩:=HO.out)|(have _h:=t2;go_at_call 141;refine (HPH.out _).mono ?_;rintro e wz ⟨rfl,ok⟩;have HO9:=aA (HK.out _ _ HO.out ok);clear ok HO t2 p0 p1 p2 p3 p4 p5 p6;have HO:=HO9;clear HO9;obtain ⟨_,⟨p0,p1,p2,p3,p4,p5⟩,p6⟩:=HO.out)|(have _h:=t3;go_at_call 101;refine (HRL.out _).mono ?_;rintro e wz ⟨rfl,ok⟩;have HO9:=aA (HK.out _ _ HO.out ok);clear ok HO t3 p0 p1 p2 p3 p4 p5 p6;have HO:=HO9;clear HO9;obtain ⟨_,⟨p0,p1,p2,p3,p4,p5⟩,p6⟩:=HO.out)|(have _h:=t4;go_at_call 101;refine (HRH.out _).mono ?_;rintro e wz ⟨rfl,ok⟩;have HO9:=aA (HK.out _ _ HO.out ok);clear ok HO t4 p0 p1 p2 p3 p4 p5 p6;have HO:=HO9;clear HO9;obtain ⟨_,⟨p0,p1,p2,p3,p4,p5⟩,p6⟩:=HO.out))
        refine bA HK (by kernel_rfl) (by kernel_rfl) (by first|exact HO.out|exact HK.out.drew HO.out) ?_;intro C HIN HOUT;clear HO
        repeat
         (with_reducible refine wpQuiet_step (fun K hK=> ?_)
          go_simp
          first
           |(refine hK _ ?_;clear hK K)
           |(apply Exists.intro;refine ⟨fun w1 hC=> ?_,hK _ ?_⟩;(focus ((first|(exact rfl)|(obtain ⟨hb1,⟨p0,p1,p2,p3,p4,p5⟩,p6⟩:=HOUT.out w1 hC;clear hC;go_simp;first|done|exact rfl));done));clear hK K))
        refine wpQuiet_nil ?_;intro wn hC;have HO:=aA (HOUT.out _ hC);clear hC HIN HOUT C;obtain ⟨hb1,⟨p0,p1,p2,p3,p4,p5⟩,p6⟩:=HO.out
        go_wp2_with (have _h:=t5;go_at_call 141;refine (HPL.out _).mono ?_;rintro e wz ⟨rfl,ok⟩;have HO9:=aA (HK.out _ _ HO.out ok);clear ok HO t5 p0 p1 p2 p3 p4 p5 p6;have HO:=HO9;clear HO9;obtain ⟨_,⟨p0,p1,p2,p3,p4,p5⟩,p6⟩:=HO.out)
        exact ⟨⟨k+1,by omega,by go_num,by rw [HX.out],HO.out.1⟩,by simp [intOf];omega⟩
    · rw [decide_eq_false c1] at e1
      rw [if_neg c1] at hsp;clear c1
      by_cases c2:lo=0
      · have f1:(lo==0)=true:=by rw [beq_iff_eq];exact c2
        by_cases c3:hi=999999999
        · have f2:(hi==999999999)=true:=by rw [beq_iff_eq];exact c3
          rw [if_pos ⟨c2,c3⟩] at hsp;clear c2 c3
          by_cases hk0:k=0
          · have HX:Hid (y++⟨#[42]⟩=cQ (A.take (k+1))):=by
             unfold Hid;rw [HN0.out hk0,hsp]
            have hkk:¬ (0:Int)<(k:Int):=by omega
            clear hsp hk0 HN0 HN1 t5
            go_wp2_with (first|(have _h:=t1;go_at_call 141;refine (HPL.out _).mono ?_;rintro e wz ⟨rfl,ok⟩;have HO9:=aA (HK.out _ _ HO.out ok);clear ok HO t1 p0 p1 p2 p3 p4 p5 p6;have HO:=HO9;clear HO9;obtain ⟨_,⟨p0,p1,p2,p3,p4,p5⟩,p6⟩:=HO.out)|(have _h:=t2;go_at_call 141;refine (HPH.out _).mono ?_;rintro e wz ⟨rfl,ok⟩;have HO9:=aA (HK.out _ _ HO.out ok);clear ok HO t2 p0 p1 p2 p3 p4 p5 p6;have HO:=HO9;clear HO9;obtain ⟨_,⟨p0,p1,p2,p3,p4,p5⟩,p6⟩:=HO.out)|(have _h:=t3;go_at_call 101;refine (HRL.out _).mono ?_;rintro e wz ⟨rfl,ok⟩;have HO9:=aA (HK.out _ _ HO.out ok);clear ok HO t3 p0 p1 p2 p3 p4 p5 p6;have HO:=HO9;clear HO9;obtain ⟨_,⟨p0,p1,p2,p3,p4,p5⟩,p6⟩:=HO.out)|(have _h:=t4;go_at_call 101;refine (HRH.out _).mono ?_;rintro e wz ⟨rfl,ok⟩;have HO9:=aA (HK.out _ _ HO.out ok);clear ok HO t4 p0 p1 p2 p3 p4 p5 p6;have HO:=HO9;clear HO9;obtain ⟨_,⟨p0,p1,p2,p3,p4,p5⟩,p6⟩:=HO.out))
            refine bA HK (by kernel_rfl) (by kernel_rfl) (by first|exact HO.out|exact HK.out.drew HO.out) ?_;intro C HIN HOUT;clear HO
            repeat
             (with_reducible refine wpQuiet_step (fun K hK=> ?_)
              go_simp
              first
               |(refine hK _ ?_;clear hK K)
               |(apply Exists.intro;refine ⟨fun w1 hC=> ?_,hK _ ?_⟩;(focus ((first|(exact rfl)|(obtain ⟨hb1,⟨p0,p1,p2,p3,p4,p5⟩,p6⟩:=HOUT.out w1 hC;clear hC;go_simp;first|done|exact rfl));done));clear hK K))
            refine wpQuiet_nil ?_;intro wn hC;have HO:=aA (HOUT.out _ hC);clear hC HIN HOUT C;obtain ⟨hb1,⟨p0,p1,p2,p3,p4,p5⟩,p6⟩:=HO.out
            go_wp2
            exact ⟨⟨k+1,by omega,by go_num,by rw [HX.out],HO.out.1⟩,by simp [intOf];omega⟩
          · have HX:Hid ((y++⟨#[32,124,124,32]⟩)++⟨#[42]⟩=cQ (A.take (k+1))):=by
             unfold Hid;rw [HN1.out hk0,hsp]
            have hkk:(0:Int)<(k:Int):=by omega
            clear hsp hk0 HN0 HN1 t5
            go_wp2_with (first|(have _h:=t1;go_at_call 141;refine (HPL.out _).mono ?_;rintro e wz ⟨rfl,ok⟩;have HO9:=aA (HK.out _ _ HO.out ok);clear ok HO t1 p0 p1 p2 p3 p4 p5 p6;have HO:=HO9;clear HO9;obtain ⟨_,⟨p0,p1,p2,p3,p4,p5⟩,p6⟩:=HO.out)|(have _h:=t2;go_at_call 141;refine (HPH.out _).mono ?_;rintro e wz ⟨rfl,ok⟩;have HO9:=aA (HK.out _ _ HO.out ok);clear ok HO t2 p0 p1 p2 p3 p4 p5 p6;have HO:=HO9;clear HO9;obtain ⟨_,⟨p0,p1,p2,p3,p4,p5⟩,p6⟩:=HO.out)|(have _h:=t3;go_at_call 101;refine (HRL.out _).mono ?_;rintro e wz ⟨rfl,ok⟩;have HO9:=aA (HK.out _ _ HO.out ok);clear ok HO t3 p0 p1 p2 p3 p4 p5 p6;have HO:=HO9;clear HO9;obtain ⟨_,⟨p0,p1,p2,p3,p4,p5⟩,p6⟩:=HO.out)|(have _h:=t4;go_at_call 101;refine (HRH.out _).mono ?_;rintro e wz ⟨rfl,ok⟩;have HO9:=aA (HK.out _ _ HO.out ok);clear ok HO t4 p0 p1 p2 p3 p4 p5 p6;have HO:=HO9;clear HO9;obtain ⟨_,⟨p0,p1,p2,p3,p4,p5⟩,p6⟩:=HO.out))
            refine bA HK (by kernel_rfl) (by kernel_rfl) (by first|exact HO.out|exact HK.out.drew HO.out) ?_;intro C HIN HOUT;clear HO
            repeat
             (with_reducible refine wpQuiet_step (fun K hK=> ?_)
              go_simp
              first
               |(refine hK _ ?_;clear hK K)
               |(apply Exists.intro;refine ⟨fun w1 hC=> ?_,hK _ ?_⟩;(focus ((first|(exact rfl)|(obtain ⟨hb1,⟨p0,p1,p2,p3,p4,p5⟩,p6⟩:=HOUT.out w1 hC;clear hC;go_simp;first|done|exact rfl));done));clear hK K))
            refine wpQuiet_nil ?_;intro wn hC;have HO:=aA (HOUT.out _ hC);clear hC HIN HOUT C;obtain ⟨hb1,⟨p0,p1,p2,p3,p4,p5⟩,p6⟩:=HO.out
            go_wp2
            exact ⟨⟨k+1,by omega,by go_num,by rw [HX.out],HO.out.1⟩,by simp [intOf];omega⟩
        · have f2:(hi==999999999)=false:=by rw [beq_eq_false_iff_ne];exact c3
          rw [if_neg (fun h=>c3 h.2),if_pos c2] at hsp;clear c2 c3
          by_cases hk0:k=0
          · have HX:Hid (y++(⟨#[60,61]⟩++TH)=cQ (A.take (k+1))):=by
             unfold Hid;rw [HN0.out hk0,hsp]
            have hkk:¬ (0:Int)<(k:Int):=by omega
            clear hsp hk0 HN0 HN1 t5
            go_wp2_with (first|(have _h:=t1;go_at_call 141;refine (HPL.out _).mono ?_;rintro e wz ⟨rfl,ok⟩;have HO9:=aA (HK.out _ _ HO.out ok);clear ok HO t1 p0 p1 p2 p3 p4 p5 p6;have HO:=HO9;clear HO9;obtain ⟨_,⟨p0,p1,p2,p3,p4,p5⟩,p6⟩:=HO.out)|(have _h:=t2;go_at_call 141;refine (HPH.out _).mono ?_;rintro e wz ⟨rfl,ok⟩;have HO9:=aA (HK.out _ _ HO.out ok);clear ok HO t2 p0 p1 p2 p3 p4 p5 p6;have HO:=HO9;clear HO9;obtain ⟨_,⟨p0,p1,p2,p3,p4,p5⟩,p6⟩:=HO.out)|(have _h:=t3;go_at_call 101;refine (HRL.out _).mono ?_;rintro e wz ⟨rfl,ok⟩;have HO9:=aA (HK.out _ _ HO.out ok);clear ok HO t3 p0 p1 p2 p3 p4 p5 p6;have HO:=HO9;clear HO9;obtain ⟨_,⟨p0,p1,p2,p3,p4,p5⟩,p6⟩:=HO.out)|(have _h:=t4;go_at_call 101;refine (HRH.out _).mono ?_;rintro e wz ⟨rfl,ok⟩;have HO9:=aA (HK.out _ _ HO.out ok);clear ok HO t4 p0 p1 p2 p3 p4 p5 p6;have HO:=HO9;clear HO9;obtain ⟨_,⟨p0,p1,p2,p3,p4,p5⟩,p6⟩:=HO.out))
            refine bA HK (by kernel_rfl) (by kernel_rfl) (by first|exact HO.out|exact HK.out.drew HO.out) ?_;intro C HIN HOUT;clear HO
            repeat
             (with_reducible refine wpQuiet_step (fun K hK=> ?_)
              go_simp
              first
               |(refine hK _ ?_;clear hK K)
               |(apply Exists.intro;refine ⟨fun w1 hC=> ?_,hK _ ?_⟩;(focus ((first|(exact rfl)|(obtain ⟨hb1,⟨p0,p1,p2,p3,p4,p5⟩,p6⟩:=HOUT.out w1 hC;clear hC;go_simp;first|done|exact rfl));done));clear hK K))
            refine wpQuiet_nil ?_;intro wn hC;have HO:=aA (HOUT.out _ hC);clear hC HIN HOUT C;obtain ⟨hb1,⟨p0,p1,p2,p3,p4,p5⟩,p6⟩:=HO.out
            go_wp2
            exact ⟨⟨k+1,by omega,by go_num,by rw [HX.out],HO.out.1⟩,by simp [intOf];omega⟩
          · have HX:Hid ((y++⟨#[32,124,124,32]⟩)++(⟨#[60,61]⟩++TH)=cQ (A.take (k+1))):=by
             unfold Hid;rw [HN1.out hk0,hsp]
            have hkk:(0:Int)<(k:Int):=by omega
            clear hsp hk0 HN0 HN1 t5
            go_wp2_with (first|(have _h:=t1;go_at_call 141;refine (HPL.out _).mono ?_;rintro e wz ⟨rfl,ok⟩;have HO9:=aA (HK.out _ _ HO.out ok);clear ok HO t1 p0 p1 p2 p3 p4 p5 p6;have HO:=HO9;clear HO9;obtain ⟨_,⟨p0,p1,p2,p3,p4,p5⟩,p6⟩:=HO.out)|(have _h:=t2;go_at_call 141;refine (HPH.out _).mono ?_;rintro e wz ⟨rfl,ok⟩;have HO9:=aA (HK.out _ _ HO.out ok);clear ok HO t2 p0 p1 p2 p3 p4 p5 p6;have HO:=HO9;clear HO9;obtain ⟨_,⟨p0,p1,p2,p3,p4,p5⟩,p6⟩:=HO.out)|(have _h:=t3;go_at_call 101;refine (HRL.out _).mono ?_;rintro e wz ⟨rfl,ok⟩;have HO9:=aA (HK.out _ _ HO.out ok);clear ok HO t3 p0 p1 p2 p3 p4 p5 p6;have HO:=HO9;clear HO9;obtain ⟨_,⟨p0,p1,p2,p3,p4,p5⟩,p6⟩:=HO.out)|(have _h:=t4;go_at_call 101;refine (HRH.out _).mono ?_;rintro e wz ⟨rfl,ok⟩;have HO9:=aA (HK.out _ _ HO.out ok);clear ok HO t4 p0 p1 p2 p3 p4 p5 p6;have HO:=HO9;clear HO9;obtain ⟨_,⟨p0,p1,p2,p3,p4,p5⟩,p6⟩:=HO.out))
            refine bA HK (by kernel_rfl) (by kernel_rfl) (by first|exact HO.out|exact HK.out.drew HO.out) ?_;intro C HIN HOUT;clear HO
            repeat
             (with_reducible refine wpQuiet_step (fun K hK=> ?_)
              go_simp
              first
               |(refine hK _ ?_;clear hK K)
               |(apply Exists.intro;refine ⟨fun w1 hC=> ?_,hK _ ?_⟩;(focus ((first|(exact rfl)|(obtain ⟨hb1,⟨p0,p1,p2,p3,p4,p5⟩,p6⟩:=HOUT.out w1 hC;clear hC;go_simp;first|done|exact rfl));done));clear hK K))
            refine wpQuiet_nil ?_;intro wn hC;have HO:=aA (HOUT.out _ hC);clear hC HIN HOUT C;obtain ⟨hb1,⟨p0,p1,p2,p3,p4,p5⟩,p6⟩:=HO.out
            go_wp2
            exact ⟨⟨k+1,by omega,by go_num,by rw [HX.out],HO.out.1⟩,by simp [intOf];omega⟩
      · have f1:(lo==0)=false:=by rw [beq_eq_false_iff_ne];exact c2
        by_cases c3:hi=999999999
        · have f2:(hi==999999999)=true:=by rw [beq_iff_eq];exact c3
          rw [if_neg (fun h=>c2 h.1),if_neg c2,if_pos c3] at hsp;clear c2 c3
          by_cases hk0:k=0
          · have HX:Hid (y++(⟨#[62,61]⟩++TL)=cQ (A.take (k+1))):=by
             unfold Hid;rw [HN0.out hk0,hsp]
            have hkk:¬ (0:Int)<(k:Int):=by omega
            clear hsp hk0 HN0 HN1 t5
            go_wp2_with (first|(have _h:=t1;go_at_call 141;refine (HPL.out _).mono ?_;rintro e wz ⟨rfl,ok⟩;have HO9:=aA (HK.out _ _ HO.out ok);clear ok HO t1 p0 p1 p2 p3 p4 p5 p6;have HO:=HO9;clear HO9;obtain ⟨_,⟨p0,p1,p2,p3,p4,p5⟩,p6⟩:=HO.out)|(have _h:=t2;go_at_call 141;refine (HPH.out _).mono ?_;rintro e wz ⟨rfl,ok⟩;have HO9:=aA (HK.out _ _ HO.out ok);clear ok HO t2 p0 p1 p2 p3 p4 p5 p6;have HO:=HO9;clear HO9;obtain ⟨_,⟨p0,p1,p2,p3,p4,p5⟩,p6⟩:=HO.out)|(have _h:=t3;go_at_call 101;refine (HRL.out _).mono ?_;rintro e wz ⟨rfl,ok⟩;have HO9:=aA (HK.out _ _ HO.out ok);clear ok HO t3 p0 p1 p2 p3 p4 p5 p6;have HO:=HO9;clear HO9;obtain ⟨_,⟨p0,p1,p2,p3,p4,p5⟩,p6⟩:=HO.out)|(have _h:=t4;go_at_call 101;refine (HRH.out _).mono ?_;rintro e wz ⟨rfl,ok⟩;have HO9:=aA (HK.out _ _ HO.out ok);clear ok HO t4 p0 p1 p2 p3 p4 p5 p6;have HO:=HO9;clear HO9;obtain ⟨_,⟨p0,p1,p2,p3,p4,p5⟩,p6⟩:=HO.out))
            refine bA HK (by kernel_rfl) (by kernel_rfl) (by first|exact HO.out|exact HK.out.drew HO.out) ?_;intro C HIN HOUT;clear HO
            repeat
             (with_reducible refine wpQuiet_step (fun K hK=> ?_)
              go_simp
              first
               |(refine hK _ ?_;clear hK K)
               |(apply Exists.intro;refine ⟨fun w1 hC=> ?_,hK _ ?_⟩;(focus ((first|(exact rfl)|(obtain ⟨hb1,⟨p0,p1,p2,p3,p4,p5⟩,p6⟩:=HOUT.out w1 hC;clear hC;go_simp;first|done|exact rfl));done));clear hK K))
            refine wpQuiet_nil ?_;intro wn hC;have HO:=aA (HOUT.out _ hC);clear hC HIN HOUT C;obtain ⟨hb1,⟨p0,p1,p2,p3,p4,p5⟩,p6⟩:=HO.out
            go_wp2
            exact ⟨⟨k+1,by omega,by go_num,by rw [HX.out],HO.out.1⟩,by simp [intOf];omega⟩
          · have HX:Hid ((y++⟨#[32,124,124,32]⟩)++(⟨#[62,61]⟩++TL)=cQ (A.take (k+1))):=by
             unfold Hid;rw [HN1.out hk0,hsp]
            have hkk:(0:Int)<(k:Int):=by omega
            clear hsp hk0 HN0 HN1 t5
            go_wp2_with (first|(have _h:=t1;go_at_call 141;refine (HPL.out _).mono ?_;rintro e wz ⟨rfl,ok⟩;have HO9:=aA (HK.out _ _ HO.out ok);clear ok HO t1 p0 p1 p2 p3 p4 p5 p6;have HO:=HO9;clear HO9;obtain ⟨_,⟨p0,p1,p2,p3,p4,p5⟩,p6⟩:=HO.out)|(have _h:=t2;go_at_call 141;refine (HPH.out _).mono ?_;rintro e wz ⟨rfl,ok⟩;have HO9:=aA (HK.out _ _ HO.out ok);clear ok HO t2 p0 p1 p2 p3 p4 p5 p6;have HO:=HO9;clear HO9;obtain ⟨_,⟨p0,p1,p2,p3,p4,p5⟩,p6⟩:=HO.out)|(have _h:=t3;go_at_call 101;refine (HRL.out _).mono ?_;rintro e wz ⟨rfl,ok⟩;have HO9:=aA (HK.out _ _ HO.out ok);clear ok HO t3 p0 p1 p2 p3 p4 p5 p6;have HO:=HO9;clear HO9;obtain ⟨_,⟨p0,p1,p2,p3,p4,p5⟩,p6⟩:=HO.out)|(have _h:=t4;go_at_call 101;refine (HRH.out _).mono ?_;rintro e wz ⟨rfl,ok⟩;have HO9:=aA (HK.out _ _ HO.out ok);clear ok HO t4 p0 p1 p2 p3 p4 p5 p6;have HO:=HO9;clear HO9;obtain ⟨_,⟨p0,p1,p2,p3,p4,p5⟩,p6⟩:=HO.out))
            refine bA HK (by kernel_rfl) (by kernel_rfl) (by first|exact HO.out|exact HK.out.drew HO.out) ?_;intro C HIN HOUT;clear HO
            repeat
             (with_reducible refine wpQuiet_step (fun K hK=> ?_)
              go_simp
              first
               |(refine hK _ ?_;clear hK K)
               |(apply Exists.intro;refine ⟨fun w1 hC=> ?_,hK _ ?_⟩;(focus ((first|(exact rfl)|(obtain ⟨hb1,⟨p0,p1,p2,p3,p4,p5⟩,p6⟩:=HOUT.out w1 hC;clear hC;go_simp;first|done|exact rfl));done));clear hK K))
            refine wpQuiet_nil ?_;intro wn hC;have HO:=aA (HOUT.out _ hC);clear hC HIN HOUT C;obtain ⟨hb1,⟨p0,p1,p2,p3,p4,p5⟩,p6⟩:=HO.out
            go_wp2
            exact ⟨⟨k+1,by omega,by go_num,by rw [HX.out],HO.out.1⟩,by simp [intOf];omega⟩
        · have f2:(hi==999999999)=false:=by rw [beq_eq_false_iff_ne];exact c3
          rw [if_neg (fun h=>c2 h.1),if_neg c2,if_neg c3] at hsp;clear c2 c3
          by_cases hk0:k=0
          · have HX:Hid (((y++(⟨#[62,61]⟩++TL))++⟨#[32]⟩)++(⟨#[60,61]⟩++TH)=cQ (A.take (k+1))):=by
             unfold Hid;rw [HN0.out hk0,hsp];refine fQ ?_;simp only [jY]
             simp
            have hkk:¬ (0:Int)<(k:Int):=by omega
            clear hsp hk0 HN0 HN1 t5
            go_wp2_with (first|(have _h:=t1;go_at_call 141;refine (HPL.out _).mono ?_;rintro e wz ⟨rfl,ok⟩;have HO9:=aA (HK.out _ _ HO.out ok);clear ok HO t1 p0 p1 p2 p3 p4 p5 p6;have HO:=HO9;clear HO9;obtain ⟨_,⟨p0,p1,p2,p3,p4,p5⟩,p6⟩:=HO.out)|(have _h:=t2;go_at_call 141;refine (HPH.out _).mono ?_;rintro e wz ⟨rfl,ok⟩;have HO9:=aA (HK.out _ _ HO.out ok);clear ok HO t2 p0 p1 p2 p3 p4 p5 p6;have HO:=HO9;clear HO9;obtain ⟨_,⟨p0,p1,p2,p3,p4,p5⟩,p6⟩:=HO.out)|(have _h:=t3;go_at_call 101;refine (HRL.out _).mono ?_;rintro e wz ⟨rfl,ok⟩;have HO9:=aA (HK.out _ _ HO.out ok);clear ok HO t3 p0 p1 p2 p3 p4 p5 p6;have HO:=HO9;clear HO9;obtain ⟨_,⟨p0,p1,p2,p3,p4,p5⟩,p6⟩:=HO.out)|(have _h:=t4;go_at_call 101;refine (HRH.out _).mono ?_;rintro e wz ⟨rfl,ok⟩;have HO9:=aA (HK.out _ _ HO.out ok);clear ok HO t4 p0 p1 p2 p3 p4 p5 p6;have HO:=HO9;clear HO9;obtain ⟨_,⟨p0,p1,p2,p3,p4,p5⟩,p6⟩:=HO.out))
            refine bA HK (by kernel_rfl) (by kernel_rfl) (by first|exact HO.out|exact HK.out.drew HO.out) ?_;intro C HIN HOUT;clear HO
            repeat
             (with_reducible refine wpQuiet_step (fun K hK=> ?_)
              go_simp
              first
               |(refine hK _ ?_;clear hK K)
               |(apply Exists.intro;refine ⟨fun w1 hC=> ?_,hK _ ?_⟩;(focus ((first|(exact rfl)|(obtain ⟨hb1,⟨p0,p1,p2,p3,p4,p5⟩,p6⟩:=HOUT.out w1 hC;clear hC;go_simp;first|done|exact rfl));done));clear hK K))
            refine wpQuiet_nil ?_;intro wn hC;have HO:=aA (HOUT.out _ hC);clear hC HIN HOUT C;obtain ⟨hb1,⟨p0,p1,p2,p3,p4,p5⟩,p6⟩:=HO.out
            go_wp2
            exact ⟨⟨k+1,by omega,by go_num,by rw [HX.out],HO.out.1⟩,by simp [intOf];omega⟩
          · have HX:Hid ((((y++⟨#[32,124,124,32]⟩)++(⟨#[62,61]⟩++TL))++⟨#[32]⟩)++(⟨#[60,61]⟩++TH)=cQ (A.take (k+1))):=by
             unfold Hid;rw [HN1.out hk0,hsp];refine fQ ?_;simp only [jY]
             simp
            have hkk:(0:Int)<(k:Int):=by omega
            clear hsp hk0 HN0 HN1 t5
            go_wp2_with (first|(have _h:=t1;go_at_call 141;refine (HPL.out _).mono ?_;rintro e wz ⟨rfl,ok⟩;have HO9:=aA (HK.out _ _ HO.out ok);clear ok HO t1 p0 p1 p2 p3 p4 p5 p6;have HO:=HO9;clear HO9;obtain ⟨_,⟨p0,p1,p2,p3,p4,p5⟩,p6⟩:=HO.out)|(have _h:=t2;go_at_call 141;refine (HPH.out _).mono ?_;rintro e wz ⟨rfl,ok⟩;have HO9:=aA (HK.out _ _ HO.out ok);clear ok HO t2 p0 p1 p2 p3 p4 p5 p6;have HO:=HO9;clear HO9;obtain ⟨_,⟨p0,p1,p2,p3,p4,p5⟩,p6⟩:=HO.out)|(have _h:=t3;go_at_call 101;refine (HRL.out _).mono ?_;rintro e wz ⟨rfl,ok⟩;have HO9:=aA (HK.out _ _ HO.out ok);clear ok HO t3 p0 p1 p2 p3 p4 p5 p6;have HO:=HO9;clear HO9;obtain ⟨_,⟨p0,p1,p2,p3,p4,p5⟩,p6⟩:=HO.out)|(have _h:=t4;go_at_call 101;refine (HRH.out _).mono ?_;rintro e wz ⟨rfl,ok⟩;have HO9:=aA (HK.out _ _ HO.out ok);clear ok HO t4 p0 p1 p2 p3 p4 p5 p6;have HO:=HO9;clear HO9;obtain ⟨_,⟨p0,p1,p2,p3,p4,p5⟩,p6⟩:=HO.out))
            refine bA HK (by kernel_rfl) (by kernel_rfl) (by first|exact HO.out|exact HK.out.drew HO.out) ?_;intro C HIN HOUT;clear HO
            repeat
             (with_reducible refine wpQuiet_step (fun K hK=> ?_)
              go_simp
              first
               |(refine hK _ ?_;clear hK K)
               |(apply Exists.intro;refine ⟨fun w1 hC=> ?_,hK _ ?_⟩;(focus ((first|(exact rfl)|(obtain ⟨hb1,⟨p0,p1,p2,p3,p4,p5⟩,p6⟩:=HOUT.out w1 hC;clear hC;go_simp;first|done|exact rfl));done));clear hK K))
            refine wpQuiet_nil ?_;intro wn hC;have HO:=aA (HOUT.out _ hC);clear hC HIN HOUT C;obtain ⟨hb1,⟨p0,p1,p2,p3,p4,p5⟩,p6⟩:=HO.out
            go_wp2
            exact ⟨⟨k+1,by omega,by go_num,by rw [HX.out],HO.out.1⟩,by simp [intOf];omega⟩
  · have hke:k=A.length:=by omega
    subst hke;have HX:Hid (cQ (A.take A.length)=eT A):=by unfold Hid;rw [List.take_length,HPJ.out]
    clear hb
    go_wp2
    go_ret;exact ⟨by rw [HX.out];rfl,HB.out⟩
theorem CA {L:List Sp} {u:Value} {w:World} (h:bS L=true) (hu:SpansC w u L):Calls Tryz.prog 203 #[u] w fun e w'=>e= .returned (.string (prS L))∧Below w.heap.size w w':=by
 have hmay:=lC hu.1;unfold bS at h;rw [Bool.and_eq_true,decide_eq_true_eq] at h;rw [h.2] at hmay;obtain ⟨A,rfl,hA,hl⟩:=jS.1 h.2;have hne:A≠[]:=by rintro rfl;simp at h
 unfold prS;rw [EW hA];obtain ⟨ad,cap,rfl,hc,hs⟩:=hu.rg
 rcases hs with rfl|⟨g,o,rfl,hg,hs⟩
 · exact absurd rfl hne
 · exact uK A hA hne g o cap w hl hg hs hmay
theorem OM (a b:ByteArray):(a++b).data.toList=a.data.toList++b.data.toList:=by simp
theorem cU (a b:ByteArray):(a++b).size=a.size+b.size:=by simp
set_option maxHeartbeats 3200000 in
theorem wZ {v:Value} {L:List Dp} {x:ByteArray} {w:World} (hd:DepsAt w v L) (hm:aM L=true) (hx:x.size≤16):
 Calls Tryz.prog 142 #[.string x,v] w fun e w'=>∃ T:ByteArray,e= .returned (.string T)∧T.data.toList=aV x L∧Below w.heap.size w w':=by
 have HD:Hid (∀ w',Below w.heap.size w w'→DepsAt w' v L):=fun w' hb=>hd.below hb
 have HAll:Hid (∀ d ∈ L,d.nm.size≤16∧bS d.rg=true):=by
  have:=hm
  unfold aM at this;rw [Bool.and_eq_true] at this;exact jZ this.2
 have HLN:=aA (cY hx hm);have h16:=(bH hm).1;obtain ⟨ad,cap,rfl⟩:=hd.sl;clear hd hm
 go_enter Tryz.func142,Tryz.ntmps142
 go_wp2_with fail
 go_loopw [5,6] (fun vt i wr=>∃ (k:Nat) (T:ByteArray),k≤L.length∧i= .int .i64 k∧vt= .string T∧T.data.toList=aV x (L.take k)∧Below w.heap.size w wr) (fun _ i _=>L.length - (intOf i).toNat)
 case atStart=>exact ⟨0,⟨#[]⟩,Nat.zero_le _,rfl,rfl,rfl,Below.refl _ _⟩
 case round=>
  obtain ⟨k,T,hk,rfl,rfl,hT,hb⟩:=hrel;have HT:=aA hT;have HB:=aA hb
  by_cases hlt:k<L.length
  · obtain ⟨ad',cap',e,_,hcs⟩:=HD.out wr hb
    cases e
    obtain ⟨g,o,rfl,hg,hcs⟩:∃ g o,ad=some ⟨g,o,none⟩∧g<wr.heap.size∧∀ i (h:i<L.length),∃ u,DpIn wr g (o+i*2) L[i] u:=by
     rcases hcs with h|h
     · rw [h] at hlt;simp at hlt
     · exact h
    obtain ⟨u,hu⟩:=hcs k hlt;obtain ⟨hn16,hrb⟩:=HAll.out _ (List.getElem_mem hlt);have hpz:=nP hrb;have HSN:=aA (nQ (x:=x) hlt);have hTz:T.size≤80000:=by rw [←aX,hT];exact HLN.out k
    have HO:Hid (Below w.heap.size w wr∧DpIn wr g (o+k*2) L[k] u):=⟨hb,hu⟩;have HK:Hid (KeepP fun w1=>Below w.heap.size w w1∧DpIn w1 g (o+k*2) L[k] u):=(aG w).and (kW _ _ _ _);have HC:Hid (∀ w1,(Below w.heap.size w w1∧DpIn w1 g (o+k*2) L[k] u)→Calls Tryz.prog 203 #[u] w1 fun e w'=>e= .returned (.string (prS L[k].rg))∧Below w1.heap.size w1 w'):=fun w1 h=>CA hrb h.2.2.2.1.1
    obtain ⟨au,cu,rfl⟩:=hu.2.2.1.1.1.sl;clear hcs hu hb hT hrb;generalize prS L[k].rg=rt at*;generalize L[k]=d at*;have z1:(⟨#[32]⟩:ByteArray).size=1:=rfl;have z2:(⟨#[10]⟩:ByteArray).size=1:=rfl;have e1:=fun W:World=>run_string_add_sum (P:=Tryz.prog) (w:=W) T x (by omega)
    have e2:=fun W:World=>run_string_add_sum (P:=Tryz.prog) (w:=W) (T++x) ⟨#[32]⟩ (by rw [cU];omega)
    have e3:=fun W:World=>run_string_add_sum (P:=Tryz.prog) (w:=W) (T++x++⟨#[32]⟩) d.nm (by rw [cU,cU];omega)
    have e4:=fun W:World=>run_string_add_sum (P:=Tryz.prog) (w:=W) (T++x++⟨#[32]⟩++d.nm) ⟨#[32]⟩ (by rw [cU,cU,cU];omega)
    have e5:=fun W:World=>run_string_add_sum (P:=Tryz.prog) (w:=W) (T++x++⟨#[32]⟩++d.nm++⟨#[32]⟩) rt (by rw [cU,cU,cU,cU];omega)
    have e6:=fun W:World=>run_string_add_sum (P:=Tryz.prog) (w:=W) (T++x++⟨#[32]⟩++d.nm++⟨#[32]⟩++rt) ⟨#[10]⟩ (by rw [cU,cU,cU,cU,cU];omega)
    clear z1 z2
    go_wp2_with fail
    refine bA HK (by kernel_rfl) (by kernel_rfl) (by first|exact HO.out|exact HK.out.drew HO.out) ?_;intro C HIN HOUT;clear HO
    repeat
     (with_reducible refine wpQuiet_step (fun K hK=> ?_)
      go_simp
      first
       |(refine hK _ ?_;clear hK K)
       |(apply Exists.intro;refine ⟨fun w1 hC=> ?_,hK _ ?_⟩;(focus ((first|(go_at_call 203;with_reducible exact cI HIN HOUT HK HC.out w1 hC)|(exact rfl)|(obtain ⟨hb1,⟨p0,p1,ph,p3⟩⟩:=HOUT.out w1 hC;clear hC;go_simp;first|done|exact rfl));done));clear hK K))
    refine wpQuiet_nil ?_;intro wn hC;have HO:=aA (HOUT.out _ hC);clear hC HIN HOUT C;obtain ⟨hb1,⟨p0,p1,ph,p3⟩⟩:=HO.out
    go_wp2
    refine ⟨⟨k+1,_,by omega,by go_num,rfl,?_,HO.out.1⟩,by simp [intOf];omega⟩;rw [HSN.out,←HT.out];unfold eW
    simp
  · obtain rfl:k=L.length:=by omega
    rw [List.take_length] at HT;clear hb hT
    go_wp2
    go_ret;exact ⟨T,rfl,HT.out,HB.out⟩
theorem lF {v:Value} {L:List Dp} {x:ByteArray} {w:World} (hd:DepsAt w v L) (hm:aM L=true) (hx:x.size≤16):
 Calls Tryz.prog 142 #[.string x,v] w fun e w'=>e= .returned (.string ⟨(aV x L).toArray⟩)∧Below w.heap.size w w':=by
 refine (wZ hd hm hx).mono ?_;rintro e w' ⟨T,rfl,hT,hb⟩;refine ⟨?_,hb⟩;rw [←hT]
theorem kF (l:Sc.Bs):(⟨l.toArray⟩:ByteArray).size=l.length:=by show l.toArray.size=_;simp
end Go.Proofs.YtpfemjlhklnfoaaGreatDoor
