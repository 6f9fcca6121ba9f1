/- Lo7, Lo8: their declarations that are needed, laid in one text, remarks and blanks left out. -/
import Derived.Test.YtlmpiohbmlddiaaGreatDoorMg27
namespace Go.Proofs.YtlmpiohbmlddiaaGreatDoor.Lo
open Go.ChangeShapes Go.WideShapes Go.ChangeAt Go.RowKit
set_option maxRecDepth 100000
open Go.RowKit
open Sc (KeepP aA aD Bs ba)
open Sc (KeepP aA aD Bs ba aQ cB aH cC aM sQ aP)
def NdZ (n:Nd):Prop:=n.nm.size≤9223372036854775807∧(n.cx.length≤9223372036854775807∧∀ d ∈ n.cx,d.nm.size≤9223372036854775807)∧n.ed.length≤9223372036854775807∧∀ d ∈ n.ed,d.lb.size≤9223372036854775807
def cI (n:Nat) (j:Nat) (x:Nd):Bool:=(if j=0 then fV x else dB x)&&bR n x.ed
theorem mV {G:List Nd}:cU G=true↔0<G.length∧G.length≤128∧∀ j (h:j<G.length),cI G.length j G[j]=true:=by
 cases G with
 |nil=>exact ⟨fun h=>(by cases h),fun h=>(by have:=h.1;simp at this)⟩
 |cons n r=>
  have ec:(((n::r).length:Nat):Int)=(r.length:Int)+1:=by simp
  unfold cU;simp only [Bool.and_eq_true,decide_eq_true_eq,List.all_eq_true]
  constructor
  · rintro ⟨⟨⟨h1,h2⟩,h3⟩,h4⟩
    refine ⟨by simp,by simpa using h1,fun j hj=> ?_⟩;unfold cI;rw [Bool.and_eq_true,ec];refine ⟨?_,h4 _ (List.getElem_mem hj)⟩;cases j with
    |zero=>exact h2
    |succ j=>exact h3 _ (by simp)
  · rintro ⟨_,h1,h2⟩
    have q:∀ j (h:j<(n::r).length),(if j=0 then fV (n::r)[j] else dB (n::r)[j])=true∧bR ((r.length:Int)+1) (n::r)[j].ed=true:=fun j h=>by
     have:=h2 j h
     unfold cI at this
     rwa [Bool.and_eq_true,ec] at this
    refine ⟨⟨⟨by simpa using h1,(q 0 (by simp)).1⟩,fun m hm=> ?_⟩,fun m hm=> ?_⟩
    · obtain ⟨i,hi,rfl⟩:=List.getElem_of_mem hm
      exact (q (i+1) (by simpa using hi)).1
    · obtain ⟨i,hi,rfl⟩:=List.getElem_of_mem hm
      exact (q i hi).2
def KM (w:World) (v:Value) (x:Nd) (vc ve:Value) (M:Nat) (W:World):Prop:=(Below w.heap.size w W∧BxG W w.heap.size v)∧BxNd W M x vc ve∧PinsAt W vc x.cx∧EdgesAt W ve x.ed
theorem uQ (w:World) (v:Value) (x:Nd) (vc ve:Value) (M:Nat):KeepP (KM w v x vc ve M):=fun _ _ ⟨⟨h1,h2⟩,h3,h4,h5⟩ hb=>⟨⟨aB h1 hb,kK _ _ _ _ h2 hb⟩,mO _ _ _ _ _ _ h3 hb,h4.below hb,h5.below hb⟩
set_option maxHeartbeats 12800000 in
theorem DO {G:List Nd} {ad:Option Addr} {cap:Nat} {w:World} (h:NodesAt w (.slice ad G.length cap) G) (hz:∀ n ∈ G,NdZ n) (h0:0<G.length) (h1:G.length≤128):
 Calls Tryz.prog 80 #[.agg #[.slice ad G.length cap]] w fun e w'=>e= .returned (.bool (cU G))∧Below w.heap.size w w':=by
 obtain ⟨ga,oa,rfl,hcs⟩:∃ ga oa,ad=some ⟨ga,oa,none⟩∧∀ W,Below w.heap.size w W→∀ i (h:i<G.length),∃ vc ve,NdIn W ga (oa+i*6) G[i] vc ve:=by
  obtain ⟨a1,c1,hv,_,hl⟩:=h;cases hv
  rcases hl with rfl|⟨g,o,rfl,_,hs⟩
  · cases h0
  · exact ⟨g,o,rfl,fun W hb i hi=>by obtain ⟨vc,ve,k⟩:=hs i hi;exact ⟨vc,ve,k.below hb⟩⟩
 have HCS:=aA hcs;have HZ:=aA hz
 have HMG:Hid (∀ k (h:k<G.length),cI G.length k G[k]=false→cU G=false):=fun k hk he=>by
  cases hm:cU G with
  |false=>rfl
  |true=>have:=(mV.1 hm).2.2 k hk;rw [he] at this;cases this
 have HMY:Hid ((∀ j (h:j<G.length),cI G.length j G[j]=true)→cU G=true):=fun hj=>mV.2 ⟨h0,h1,hj⟩
 have hl1:decide ((G.length:Int)<1)=false:=decide_eq_false (by omega);have hl2:decide ((128:Int)<(G.length:Int))=false:=decide_eq_false (by omega);have HB0:Hid (Below w.heap.size w (w.alloc (.cells #[.slice (some ⟨ga,oa,none⟩) G.length cap] 27))∧BxG (w.alloc (.cells #[.slice (some ⟨ga,oa,none⟩) G.length cap] 27)) w.heap.size (.slice (some ⟨ga,oa,none⟩) G.length cap)):=⟨aF _ _,BxG.new rfl _⟩;clear h hz hcs
 go_enter Tryz.func80,Tryz.ntmps80
 go_wp2_with fail
 go_loopw [4] (fun i wr=>∃ k:Nat,k≤G.length∧i= .int .i64 k∧(Below w.heap.size w wr∧BxG wr w.heap.size (.slice (some ⟨ga,oa,none⟩) G.length cap))∧∀ j (h:j<k) (h1:j<G.length),cI G.length j G[j]=true) (fun i _=>G.length - (intOf i).toNat)
 case atStart=>exact ⟨0,Nat.zero_le _,rfl,HB0.out,fun j h=>by omega⟩
 case round=>
  clear HB0;obtain ⟨k,hk,rfl,hb,hall⟩:=hrel;have HALL:=aA hall;have HB:=aA hb;obtain ⟨_,y0,y1⟩:=hb;clear hall
  by_cases hlt:k<G.length
  · obtain ⟨vc,ve,hx⟩:=HCS.out wr HB.out.1 k hlt
    have hzk:=HZ.out G[k] (List.getElem_mem hlt);have HNO:=aA (HMG.out k hlt)
    have HST:Hid (cI G.length k G[k]=true→∀ j (h:j<k+1) (h1:j<G.length),cI G.length j G[j]=true):=fun h j hj h1=>by
     rcases Nat.lt_or_ge j k with hjk|hjk
     · exact HALL.out j hjk h1
     · obtain rfl:j=k:=by omega
       exact h
    clear HALL HCS HZ HMG HMY;generalize G[k]=x at*;obtain ⟨av,cv,rfl⟩:=hx.2.1.1.sl;obtain ⟨ae,ce,rfl⟩:=hx.2.1.2.sl;have HX1:=aA (hx.below (aF wr (.cells #[.string x.nm,.int .i64 x.a,.int .i64 x.b,.int .i64 x.c,.slice av x.cx.length cv,.slice ae x.ed.length ce] 60)));have HKM:Hid (KM w (.slice (some ⟨ga,oa,none⟩) G.length cap) x (.slice av x.cx.length cv) (.slice ae x.ed.length ce) wr.heap.size (wr.alloc (.cells #[.string x.nm,.int .i64 x.a,.int .i64 x.b,.int .i64 x.c,.slice av x.cx.length cv,.slice ae x.ed.length ce] 60))):=⟨⟨aB HB.out.1 (aF _ _),kK _ _ _ _ HB.out.2 (aF _ _)⟩,BxNd.new rfl _ _ _,HX1.out.2.1.1,HX1.out.2.1.2⟩;have HKP:=aA (uQ w (.slice (some ⟨ga,oa,none⟩) G.length cap) x (.slice av x.cx.length cv) (.slice ae x.ed.length ce) wr.heap.size)
    have HPI:Hid (∀ W v,PinsAt W v x.cx→Calls Tryz.prog 134 #[v] W fun e w'=>e= .returned (.bool (dF x.cx))∧Below W.heap.size W w'):=fun W v hp=>KH hp hzk.2.1.1 hzk.2.1.2
    have HED:Hid (∀ W v,EdgesAt W v x.ed→Calls Tryz.prog 135 #[v,.int .i64 G.length] W fun e w'=>e= .returned (.bool (bR G.length x.ed))∧Below W.heap.size W w'):=fun W v hp=>DN _ hp hzk.2.2.1 hzk.2.2.2
    have HNM:Hid (∀ W,Calls Tryz.prog 82 #[.string x.nm] W fun e w'=>e= .returned (.bool (Sc.aH x.nm.data.toList))∧Below W.heap.size W w'):=fun W=>(Sc.eJ x.nm hzk.1 W).mono fun e w' ⟨h1,h2⟩=>⟨h1,by rw [h2];exact Below.refl _ _⟩
    have HMV:Hid (∀ W,Calls Tryz.prog 133 #[.agg #[.int .i64 x.a,.int .i64 x.b,.int .i64 x.c]] W fun e w'=>e= .returned (.bool (aU x.a x.b x.c))∧Below W.heap.size W w'):=fun W=>fG _ _ _ W
    obtain ⟨⟨x0,x1,x2,x3,x4,x5⟩,_,x6⟩:=hx;clear HX1 hzk;have hgd:=iX;obtain ⟨wa,rfl⟩:∃ q,q=wr:=⟨wr,rfl⟩
    rcases Nat.eq_zero_or_pos k with hk0|hk0
    · subst hk0
      have HOK:Hid (cI G.length 0 x=(x.nm.toList.isEmpty&&(decide (x.a=0∧x.b=0∧x.c=0))&&decide (x.cx.length=0)&&bR G.length x.ed)):=by
       unfold Hid cI fV
       have e:decide (x.nm.size=0)=x.nm.toList.isEmpty:=by
        rw [ByteArray.toList_eq,Bool.eq_iff_iff,decide_eq_true_eq,List.isEmpty_iff_length_eq_zero];rfl
       rw [e];rfl
      have HCX:Hid (x.cx.length=0→dF x.cx=true):=fun e=>by rw [List.eq_nil_of_length_eq_zero e];rfl
      have hv:=VA x.a x.b x.c 0 0 0;rw [show oa+0*6=oa by omega] at x0 x1 x2 x3 x4 x5;cases hx:x.nm.toList.isEmpty
      · have hx2:(x.nm.toList==[])=false:=by rw [←hx];cases x.nm.toList<;>rfl
        rw [hx] at HOK;clear hx HCX;have HR:=aA (HNO.out (by rw [HOK.out];simp));clear HST HNO HOK
        go_wp2
        go_ret;exact ⟨aC HR.out.symm,HKM.out.1.1⟩
      · have hx2:(x.nm.toList==[])=true:=by rw [←hx];cases x.nm.toList<;>rfl
        rw [hx] at HOK;clear hx;generalize decide (x.a=0∧x.b=0∧x.c=0)=xv at*;cases xv
        · clear HCX
          have HR:=aA (HNO.out (by rw [HOK.out];simp));clear HST HNO HOK
          go_wp2
          go_ret;exact ⟨aC HR.out.symm,HKM.out.1.1⟩
        · by_cases hl:x.cx.length=0
          · have HCY:=aA (HCX.out hl)
            have hl3:decide ((0:Int)<(x.cx.length:Int))=false:=decide_eq_false (by omega);have hl4:decide (0<x.cx.length)=false:=decide_eq_false (by omega);rw [decide_eq_true hl] at HOK;rw [HCY.out] at HPI;clear hl HCX;generalize bR G.length x.ed=b9 at*;cases b9
            · skip
              have HR:=aA (HNO.out (by rw [HOK.out];simp));clear HST HNO HOK
              go_wp2_with (first
               |(have _h:=HKM;go_at_call 134;refine (HPI.out _ _ HKM.out.2.2.1).mono ?_;rintro e z1 ⟨rfl,ok⟩;have HO1:=aA (HKP.out _ _ HKM.out ok);clear ok HKM;obtain ⟨⟨b0,b1,b2,b3,b4,b5⟩,b6⟩:=HO1.out.2.1)
               |(have _h:=HO1;go_at_call 135;refine (HED.out _ _ HO1.out.2.2.2).mono ?_;rintro e z2 ⟨rfl,ok⟩;have HO2:=aA (HKP.out _ _ HO1.out ok);clear ok HO1 b0 b1 b2 b3 b4 b5 b6;obtain ⟨⟨b0,b1,b2,b3,b4,b5⟩,b6⟩:=HO2.out.2.1))
              go_ret;exact ⟨aC HR.out.symm,HO2.out.1.1⟩
            · skip
              have HR:=aA (HST.out (by rw [HOK.out];simp));clear HST HNO HOK
              go_wp2_with (first
               |(have _h:=HKM;go_at_call 134;refine (HPI.out _ _ HKM.out.2.2.1).mono ?_;rintro e z1 ⟨rfl,ok⟩;have HO1:=aA (HKP.out _ _ HKM.out ok);clear ok HKM;obtain ⟨⟨b0,b1,b2,b3,b4,b5⟩,b6⟩:=HO1.out.2.1)
               |(have _h:=HO1;go_at_call 135;refine (HED.out _ _ HO1.out.2.2.2).mono ?_;rintro e z2 ⟨rfl,ok⟩;have HO2:=aA (HKP.out _ _ HO1.out ok);clear ok HO1 b0 b1 b2 b3 b4 b5 b6;obtain ⟨⟨b0,b1,b2,b3,b4,b5⟩,b6⟩:=HO2.out.2.1))
              exact ⟨⟨0+1,by omega,by go_num,HO2.out.1,HR.out⟩,by simp [intOf];omega⟩
          · have hl3:decide ((0:Int)<(x.cx.length:Int))=true:=decide_eq_true (by omega)
            have hl4:decide (0<x.cx.length)=true:=decide_eq_true (by omega);rw [decide_eq_false hl] at HOK;clear hl HCX;have HR:=aA (HNO.out (by rw [HOK.out];simp));clear HST HNO HOK
            go_wp2
            go_ret;exact ⟨aC HR.out.symm,HKM.out.1.1⟩
    · have hk1:((k:Int)==0)=false:=by rw [beq_eq_false_iff_ne];omega
      have hk2:decide ((0:Int)<(k:Int))=true:=decide_eq_true (by omega);have hk3:decide (0<k)=true:=decide_eq_true hk0
      have HOK:Hid (cI G.length k x=(Sc.aH x.nm.data.toList&&aU x.a x.b x.c&&dF x.cx&&bR G.length x.ed)):=by
       unfold Hid cI dB;rw [if_neg (by omega)]
      generalize Sc.aH x.nm.data.toList=c1 at*;generalize aU x.a x.b x.c=c2 at*;generalize dF x.cx=c3 at*;generalize bR G.length x.ed=c4 at*;cases c1
      · skip
        have HR:=aA (HNO.out (by rw [HOK.out];simp));clear HST HNO HOK
        go_wp2_with (first
         |(have _h:=HKM;go_at_call 82;refine (HNM.out _).mono ?_;rintro e z1 ⟨rfl,ok⟩;have HO1:=aA (HKP.out _ _ HKM.out ok);clear ok HKM;obtain ⟨⟨b0,b1,b2,b3,b4,b5⟩,b6⟩:=HO1.out.2.1))
        go_ret;exact ⟨aC HR.out.symm,HO1.out.1.1⟩
      · cases c2
        · skip
          have HR:=aA (HNO.out (by rw [HOK.out];simp));clear HST HNO HOK
          go_wp2_with (first
           |(have _h:=HKM;go_at_call 82;refine (HNM.out _).mono ?_;rintro e z1 ⟨rfl,ok⟩;have HO1:=aA (HKP.out _ _ HKM.out ok);clear ok HKM;obtain ⟨⟨b0,b1,b2,b3,b4,b5⟩,b6⟩:=HO1.out.2.1)
           |(have _h:=HO1;go_at_call 133;refine (HMV.out _).mono ?_;rintro e z2 ⟨rfl,ok⟩;have HO2:=aA (HKP.out _ _ HO1.out ok);clear ok HO1 b0 b1 b2 b3 b4 b5 b6;obtain ⟨⟨b0,b1,b2,b3,b4,b5⟩,b6⟩:=HO2.out.2.1))
          go_ret;exact ⟨aC HR.out.symm,HO2.out.1.1⟩
        · cases c3
          · skip
            have HR:=aA (HNO.out (by rw [HOK.out];simp));clear HST HNO HOK
            go_wp2_with (first
             |(have _h:=HKM;go_at_call 82;refine (HNM.out _).mono ?_;rintro e z1 ⟨rfl,ok⟩;have HO1:=aA (HKP.out _ _ HKM.out ok);clear ok HKM;obtain ⟨⟨b0,b1,b2,b3,b4,b5⟩,b6⟩:=HO1.out.2.1)
             |(have _h:=HO1;go_at_call 133;refine (HMV.out _).mono ?_;rintro e z2 ⟨rfl,ok⟩;have HO2:=aA (HKP.out _ _ HO1.out ok);clear ok HO1 b0 b1 b2 b3 b4 b5 b6;obtain ⟨⟨b0,b1,b2,b3,b4,b5⟩,b6⟩:=HO2.out.2.1)
             |(have _h:=HO2;go_at_call 134;refine (HPI.out _ _ HO2.out.2.2.1).mono ?_;rintro e z3 ⟨rfl,ok⟩;have HO3:=aA (HKP.out _ _ HO2.out ok);clear ok HO2 b0 b1 b2 b3 b4 b5 b6;obtain ⟨⟨b0,b1,b2,b3,b4,b5⟩,b6⟩:=HO3.out.2.1))
            go_ret;exact ⟨aC HR.out.symm,HO3.out.1.1⟩
          · cases c4
            · skip
              have HR:=aA (HNO.out (by rw [HOK.out];simp));clear HST HNO HOK
              go_wp2_with (first
               |(have _h:=HKM;go_at_call 82;refine (HNM.out _).mono ?_;rintro e z1 ⟨rfl,ok⟩;have HO1:=aA (HKP.out _ _ HKM.out ok);clear ok HKM;obtain ⟨⟨b0,b1,b2,b3,b4,b5⟩,b6⟩:=HO1.out.2.1)
               |(have _h:=HO1;go_at_call 133;refine (HMV.out _).mono ?_;rintro e z2 ⟨rfl,ok⟩;have HO2:=aA (HKP.out _ _ HO1.out ok);clear ok HO1 b0 b1 b2 b3 b4 b5 b6;obtain ⟨⟨b0,b1,b2,b3,b4,b5⟩,b6⟩:=HO2.out.2.1)
               |(have _h:=HO2;go_at_call 134;refine (HPI.out _ _ HO2.out.2.2.1).mono ?_;rintro e z3 ⟨rfl,ok⟩;have HO3:=aA (HKP.out _ _ HO2.out ok);clear ok HO2 b0 b1 b2 b3 b4 b5 b6;obtain ⟨⟨b0,b1,b2,b3,b4,b5⟩,b6⟩:=HO3.out.2.1)
               |(have _h:=HO3;go_at_call 135;refine (HED.out _ _ HO3.out.2.2.2).mono ?_;rintro e z4 ⟨rfl,ok⟩;have HO4:=aA (HKP.out _ _ HO3.out ok);clear ok HO3 b0 b1 b2 b3 b4 b5 b6;obtain ⟨⟨b0,b1,b2,b3,b4,b5⟩,b6⟩:=HO4.out.2.1))
              go_ret;exact ⟨aC HR.out.symm,HO4.out.1.1⟩
            · skip
              have HR:=aA (HST.out (by rw [HOK.out];simp));clear HST HNO HOK
              go_wp2_with (first
               |(have _h:=HKM;go_at_call 82;refine (HNM.out _).mono ?_;rintro e z1 ⟨rfl,ok⟩;have HO1:=aA (HKP.out _ _ HKM.out ok);clear ok HKM;obtain ⟨⟨b0,b1,b2,b3,b4,b5⟩,b6⟩:=HO1.out.2.1)
               |(have _h:=HO1;go_at_call 133;refine (HMV.out _).mono ?_;rintro e z2 ⟨rfl,ok⟩;have HO2:=aA (HKP.out _ _ HO1.out ok);clear ok HO1 b0 b1 b2 b3 b4 b5 b6;obtain ⟨⟨b0,b1,b2,b3,b4,b5⟩,b6⟩:=HO2.out.2.1)
               |(have _h:=HO2;go_at_call 134;refine (HPI.out _ _ HO2.out.2.2.1).mono ?_;rintro e z3 ⟨rfl,ok⟩;have HO3:=aA (HKP.out _ _ HO2.out ok);clear ok HO2 b0 b1 b2 b3 b4 b5 b6;obtain ⟨⟨b0,b1,b2,b3,b4,b5⟩,b6⟩:=HO3.out.2.1)
               |(have _h:=HO3;go_at_call 135;refine (HED.out _ _ HO3.out.2.2.2).mono ?_;rintro e z4 ⟨rfl,ok⟩;have HO4:=aA (HKP.out _ _ HO3.out ok);clear ok HO3 b0 b1 b2 b3 b4 b5 b6;obtain ⟨⟨b0,b1,b2,b3,b4,b5⟩,b6⟩:=HO4.out.2.1))
              exact ⟨⟨k+1,by omega,by go_num,HO4.out.1,HR.out⟩,by simp [intOf];omega⟩
  · obtain rfl:k=G.length:=by omega
    have HR:=aA (HMY.out fun j h=>HALL.out j h h);clear HALL HMY HMG
    go_wp2
    go_ret;exact ⟨aC HR.out.symm,HB.out.1⟩
theorem KI {G:List Nd} {v:Value} {w:World} (h:NodesAt w v G) (hz:∀ n ∈ G,NdZ n):
 Calls Tryz.prog 80 #[.agg #[v]] w fun e w'=>e= .returned (.bool (cU G))∧Below w.heap.size w w':=by
 obtain ⟨ad,cap,rfl,hc⟩:=h
 by_cases h0:0<G.length
 · by_cases h1:G.length≤128
   · exact DO ⟨ad,cap,rfl,hc⟩ hz h0 h1
   · have HR:Hid (cU G=false):=by
      unfold Hid;cases hm:cU G with
      |false=>rfl
      |true=>exact absurd (mV.1 hm).2.1 h1
     have hl1:decide ((G.length:Int)<1)=false:=decide_eq_false (by omega);have hl2:decide ((128:Int)<(G.length:Int))=true:=decide_eq_true (by omega);have HB0:Hid (Below w.heap.size w (w.alloc (.cells #[.slice ad G.length cap] 27))):=aF _ _;clear h0 h1 hc hz
     go_enter Tryz.func80,Tryz.ntmps80
     go_wp2
     go_ret;exact ⟨aC HR.out.symm,HB0.out⟩
 · have HR:Hid (cU G=false):=by
    unfold Hid;cases hm:cU G with
    |false=>rfl
    |true=>exact absurd (mV.1 hm).1 h0
   have hl1:decide ((G.length:Int)<1)=true:=decide_eq_true (by omega);have HB0:Hid (Below w.heap.size w (w.alloc (.cells #[.slice ad G.length cap] 27))):=aF _ _;clear h0 hc hz
   go_enter Tryz.func80,Tryz.ntmps80
   go_wp2
   go_ret;exact ⟨aC HR.out.symm,HB0.out⟩
theorem bF (a b:ByteArray):(a++b).size=a.size+b.size:=by simp
theorem fF (A B:List (List Bs)):aQ (A++B)=aQ A++aQ B:=by simp [aQ]
theorem tX (A B:List (List Bs)):(aQ A).length≤(aQ (A++B)).length:=by rw [fF,List.length_append];omega
def eR (G:List Nd) (k:Nat):List (List Bs):=[zO]::oW (G.take k)
def hdL (k:Nat) (x:Nd):List Bs:=if k=0 then [rP] else fP x
theorem tY {G:List Nd} {k:Nat} (h:k<G.length):eR G (k+1)=eR G k++(hdL k G[k]::cQ G[k]):=by
 unfold eR hdL;rw [List.take_succ_eq_append_getElem h]
 by_cases hk:k=0
 · subst hk
   simp [oW,fX]
 · have hne:G.take k≠[]:=fun e=>by
    have:=congrArg List.length e
    rw [List.length_take] at this;simp only [List.length_nil] at this;omega
   rw [kO hne,if_neg hk];rfl
theorem GM {G:List Nd}:∀ {k n:Nat},k≤n→n≤G.length→(aQ (eR G k)).length≤(aQ (eR G n)).length
 |k,0,h,_=>(by obtain rfl:k=0:=(by omega);exact Nat.le_refl _)
 |k,n+1,h,hn=>by
  rcases Nat.lt_or_ge k (n+1) with h1|h1
  · refine Nat.le_trans (GM (k:=k) (n:=n) (by omega) (by omega)) ?_
    rw [tY (by omega)];exact tX _ _
  · obtain rfl:k=n+1:=by omega
    exact Nat.le_refl _
theorem DP {G:List Nd} (h:cU G=true) {k:Nat} (hk:k≤G.length):(aQ (eR G k)).length≤1048576:=by
 refine Nat.le_trans (GM hk (Nat.le_refl _)) ?_;obtain ⟨_,h2⟩:=tR h;have hne:G≠[]:=by rintro rfl;cases h
 rw [lQ hne] at h2;unfold eR;rw [List.take_length];exact h2
theorem mW {α β:Type} (f:α→β) {L:List α} {m:Nat} (h:m<L.length):(L.take (m+1)).map f=(L.take m).map f++[f L[m]]:=by
 rw [List.take_succ_eq_append_getElem h,List.map_append];rfl
theorem kP {α β:Type} (f:α→β) (L:List α) (m:Nat):L.map f=(L.take m).map f++(L.drop m).map f:=by rw [←List.map_append,List.take_append_drop]
theorem DQ {s:ByteArray} (h:aH s.data.toList=true):s.size≤16:=by
 have:=mR h
 rwa [Sc.aK] at this
theorem GN (g o:Nat) (p:Pn):KeepP fun W=>PnIn W g o p:=fun _ _ h hb=>h.below hb
theorem GO (g o:Nat) (p:Eg):KeepP fun W=>EgIn W g o p:=fun _ _ h hb=>h.below hb
theorem rS {W:World} {ad:Option Addr} {n cap:Nat} {L:List Pn} (h:PinsAt W (.slice ad n cap) L) {m:Nat} (hm:m<L.length):∃ g o,ad=some ⟨g,o,none⟩∧PnIn W g (o+m*4) L[m]:=by
 obtain ⟨a1,c1,hv,hc,hl⟩:=h;cases hv
 rcases hl with rfl|⟨g,o,rfl,_,hs⟩
 · cases hm
 · exact ⟨g,o,rfl,hs m hm⟩
theorem oP {W:World} {ad:Option Addr} {n cap:Nat} {L:List Eg} (h:EdgesAt W (.slice ad n cap) L) {m:Nat} (hm:m<L.length):∃ g o,ad=some ⟨g,o,none⟩∧EgIn W g (o+m*2) L[m]:=by
 obtain ⟨a1,c1,hv,hc,hl⟩:=h;cases hv
 rcases hl with rfl|⟨g,o,rfl,_,hs⟩
 · cases hm
 · exact ⟨g,o,rfl,hs m hm⟩
theorem KJ (x y z:Bs):cB [x,y,z]=x++[32]++(y++[32]++(z++[10])):=rfl
theorem jV {T A B C:ByteArray} {x:Bs} (hA:A.data.toList=x++[32]):(T++A++B++⟨#[32]⟩++C++⟨#[10]⟩).data.toList=T.data.toList++cB [x,B.data.toList,C.data.toList]:=by
 rw [KJ];simp [hA]
end Go.Proofs.YtlmpiohbmlddiaaGreatDoor.Lo
namespace Go.Proofs.YtlmpiohbmlddiaaGreatDoor.Lo
open Go.RowKit
open Sc (KeepP aA aD Bs ba aQ cB aH cC aM sQ aP)
set_option maxRecDepth 100000
open Sc (KeepP aA aD Bs ba cC aM)
set_option maxHeartbeats 12800000 in
theorem zW {G:List Nd} {ad:Option Addr} {cap:Nat} {w:World} (h:NodesAt w (.slice ad G.length cap) G) (hm:cU G=true):
 Calls Tryz.prog 81 #[.agg #[.slice ad G.length cap]] w fun e w'=>e= .returned (.string (mP G))∧Below w.heap.size w w':=by
 obtain ⟨gl,g0,g3,g4⟩:=lN hm
 obtain ⟨ga,oa,rfl,hcs⟩:∃ ga oa,ad=some ⟨ga,oa,none⟩∧∀ W,Below w.heap.size w W→∀ i (h:i<G.length),∃ vc ve,NdIn W ga (oa+i*6) G[i] vc ve:=by
  obtain ⟨a1,c1,hv,_,hl⟩:=h;cases hv
  rcases hl with rfl|⟨g,o,rfl,_,hs⟩
  · cases hm
  · exact ⟨g,o,rfl,fun W hb i hi=>by obtain ⟨vc,ve,k⟩:=hs i hi;exact ⟨vc,ve,k.below hb⟩⟩
 have HCS:=aA hcs;have HG3:=aA g3;have HG4:=aA g4;have HSHORT:Hid (∀ k,k≤G.length→(aQ (eR G k)).length≤1048576):=fun k hk=>DP hm hk
 have HEND:Hid (∀ T:ByteArray,T.data.toList=aQ (eR G G.length)→T=mP G):=fun T hT=>by
  have hne:G≠[]:=by rintro rfl;cases hm
  unfold mP;rw [lQ hne,←Sc.sP T,hT];unfold eR;rw [List.take_length]
 have HB0:Hid (Below w.heap.size w (w.alloc (.cells #[.slice (some ⟨ga,oa,none⟩) G.length cap] 27))∧BxG (w.alloc (.cells #[.slice (some ⟨ga,oa,none⟩) G.length cap] 27)) w.heap.size (.slice (some ⟨ga,oa,none⟩) G.length cap)):=⟨aF _ _,BxG.new rfl _⟩;clear h hm hcs g3 g4 g0
 go_enter Tryz.func81,Tryz.ntmps81
 go_wp2_with fail
 go_loopw [3,4] (fun vt i wr=>∃ (k:Nat) (T:ByteArray),k≤G.length∧i= .int .i64 k∧vt= .string T∧T.data.toList=aQ (eR G k)∧Below w.heap.size w wr∧BxG wr w.heap.size (.slice (some ⟨ga,oa,none⟩) G.length cap)) (fun _ i _=>G.length - (intOf i).toNat)
 case atStart=>exact ⟨0,⟨#[108,111,99,107,10]⟩,Nat.zero_le _,rfl,rfl,rfl,HB0.out⟩
 case round=>
  clear HB0;obtain ⟨k,T,hk,rfl,rfl,hT,hb⟩:=hrel;have HT:=aA hT;have HB:=aA hb;obtain ⟨_,y0,y1⟩:=hb;clear hT
  by_cases hlt:k<G.length
  · obtain ⟨vc,ve,hx⟩:=HCS.out wr HB.out.1 k hlt
    have HNP:Hid (∀ p ∈ G[k].cx,p.nm.size≤16∧aU p.a p.b p.c=true):=fun p hp=>⟨DQ ((HG3.out _ (List.getElem_mem hlt)).1.2 p hp).1,((HG3.out _ (List.getElem_mem hlt)).1.2 p hp).2⟩
    have HNE:Hid (∀ e ∈ G[k].ed,e.lb.size≤16∧0≤e.to∧e.to≤999):=fun p hp=>⟨DQ ((HG3.out _ (List.getElem_mem hlt)).2.2 p hp).1,((HG3.out _ (List.getElem_mem hlt)).2.2 p hp).2⟩
    have hl1:=(HG3.out _ (List.getElem_mem hlt)).1.1;have hl2:=(HG3.out _ (List.getElem_mem hlt)).2.1;have HNN:Hid (0<k→G[k].nm.size≤16∧aU G[k].a G[k].b G[k].c=true):=fun h=>⟨DQ (HG4.out k hlt h).1,(HG4.out k hlt h).2⟩
    have HPS:=aA (tY hlt);have hTz:T.size≤1048576:=by rw [←Sc.aK,HT.out];exact HSHORT.out k hk
    have HS1:Hid (∀ A B,eR G k++(hdL k G[k]::cQ G[k])=A++B→(aQ A).length≤1048576):=fun A B e=>by
     have:=HSHORT.out (k+1) hlt
     rw [HPS.out,e] at this;exact Nat.le_trans (tX A B) this
    clear HCS HG3 HG4 HSHORT HEND;generalize G[k]=x at*;obtain ⟨av,cv,rfl⟩:=hx.2.1.1.sl;obtain ⟨ae,ce,rfl⟩:=hx.2.1.2.sl;have HX1:=aA (hx.below (aF wr (.cells #[.string x.nm,.int .i64 x.a,.int .i64 x.b,.int .i64 x.c,.slice av x.cx.length cv,.slice ae x.ed.length ce] 60)));have HKM:Hid (KM w (.slice (some ⟨ga,oa,none⟩) G.length cap) x (.slice av x.cx.length cv) (.slice ae x.ed.length ce) wr.heap.size (wr.alloc (.cells #[.string x.nm,.int .i64 x.a,.int .i64 x.b,.int .i64 x.c,.slice av x.cx.length cv,.slice ae x.ed.length ce] 60))):=⟨⟨aB HB.out.1 (aF _ _),kK _ _ _ _ HB.out.2 (aF _ _)⟩,BxNd.new rfl _ _ _,HX1.out.2.1.1,HX1.out.2.1.2⟩;have HKP:=aA (uQ w (.slice (some ⟨ga,oa,none⟩) G.length cap) x (.slice av x.cx.length cv) (.slice ae x.ed.length ce) wr.heap.size);obtain ⟨⟨x0,x1,x2,x3,x4,x5⟩,_,x6⟩:=hx;clear HX1;obtain ⟨wa,rfl⟩:∃ q,q=wr:=⟨wr,rfl⟩
    rcases Nat.eq_zero_or_pos k with hk0|hk0
    · have hk1:((k:Int)==0)=true:=by rw [hk0];rfl
      have z0:(⟨#[114,111,111,116,10]⟩:ByteArray).size=5:=rfl;have e0:=fun W:World=>run_string_add_sum (P:=Tryz.prog) (w:=W) T ⟨#[114,111,111,116,10]⟩ (by omega)
      have HT1:Hid ((T++⟨#[114,111,111,116,10]⟩).data.toList=aQ (eR G k++[hdL k x])):=by
       unfold Hid;rw [fF,←HT.out]
       have:(T++⟨#[114,111,111,116,10]⟩).data.toList=T.data.toList++[114,111,111,116,10]:=by simp
       rw [this];unfold hdL;rw [if_pos hk0];rfl
      clear z0 HNN HT hk0
      go_wp2_with fail
      generalize T++⟨#[114,111,111,116,10]⟩=T1 at*;clear e0 x0 x1 x2 x3 x4 x5 x6 hTz
      go_loopw [3,6] (fun vt j wq=>∃ (m:Nat) (T2:ByteArray),m≤x.cx.length∧j= .int .i64 m∧vt= .string T2∧T2.data.toList=aQ (eR G k++[hdL k x]++(x.cx.take m).map dH)∧KM w (.slice (some ⟨ga,oa,none⟩) G.length cap) x (.slice av x.cx.length cv) (.slice ae x.ed.length ce) wa.heap.size wq) (fun _ j _=>x.cx.length - (intOf j).toNat)
      case atStart=>exact ⟨0,T1,Nat.zero_le _,rfl,rfl,by rw [HT1.out];simp,HKM.out⟩
      case round=>
       clear HKM HT1;obtain ⟨m,T2,hm,rfl,rfl,hT2,hkm⟩:=hrel;have HT2:=aA hT2;have HKM:=aA hkm;obtain ⟨_,⟨⟨b0,b1,b2,b3,b4,b5⟩,b6⟩,_,_⟩:=hkm;clear hT2
       by_cases hml:m<x.cx.length
       · obtain ⟨gp,op,rfl,hpi⟩:=rS HKM.out.2.2.1 hml
         have hT2z:T2.size≤1048576:=by
          rw [←Sc.aK,HT2.out]
          exact HS1.out _ ((x.cx.drop m).map dH++x.ed.map dY) (by
           unfold cQ;rw [kP dH x.cx m];simp only [List.append_assoc,List.cons_append,List.nil_append])
         have HSN:Hid ((x.cx.take (m+1)).map dH=(x.cx.take m).map dH++[dH x.cx[m]]):=mW _ hml;have hpz:=HNP.out _ (List.getElem_mem hml);have HO:Hid (KM w (.slice (some ⟨ga,oa,none⟩) G.length cap) x (.slice (some ⟨gp,op,none⟩) x.cx.length cv) (.slice ae x.ed.length ce) wa.heap.size wr∧PnIn wr gp (op+m*4) x.cx[m]):=⟨HKM.out,hpi⟩;have HK:Hid (KeepP fun W=>KM w (.slice (some ⟨ga,oa,none⟩) G.length cap) x (.slice (some ⟨gp,op,none⟩) x.cx.length cv) (.slice ae x.ed.length ce) wa.heap.size W∧PnIn W gp (op+m*4) x.cx[m]):=HKP.out.and (GN _ _ _);clear HKM hpi;generalize x.cx[m]=p at*
         have HT3:Hid ((T2++⟨#[119,105,116,104,32]⟩++p.nm++⟨#[32]⟩++aS p.a p.b p.c++⟨#[10]⟩).data.toList=aQ (eR G k++[hdL k x]++(x.cx.take (m+1)).map dH)):=by
          unfold Hid;rw [HSN.out,←List.append_assoc,fF,←HT2.out,jV (x:=zM) rfl];simp [aQ,dH,bsV,zM]
         have hvz:(aS p.a p.b p.c).size≤11:=by have:=mS hpz.2;unfold bsV at this;rwa [Sc.aK] at this
         have HC:Hid (∀ W,Calls Tryz.prog 136 #[.agg #[.int .i64 p.a,.int .i64 p.b,.int .i64 p.c]] W fun e w'=>e= .returned (.string (aS p.a p.b p.c))∧Below W.heap.size W w'):=fun W=>eW _ _ _ W
         generalize aS p.a p.b p.c=pt at*;have z1:(⟨#[32]⟩:ByteArray).size=1:=rfl;have z2:(⟨#[10]⟩:ByteArray).size=1:=rfl;have z3:(⟨#[119,105,116,104,32]⟩:ByteArray).size=5:=rfl;have hpn:=hpz.1;have e1:=fun W:World=>run_string_add_sum (P:=Tryz.prog) (w:=W) T2 ⟨#[119,105,116,104,32]⟩ (by omega)
         have e2:=fun W:World=>run_string_add_sum (P:=Tryz.prog) (w:=W) (T2++⟨#[119,105,116,104,32]⟩) p.nm (by rw [bF];omega)
         have e3:=fun W:World=>run_string_add_sum (P:=Tryz.prog) (w:=W) (T2++⟨#[119,105,116,104,32]⟩++p.nm) ⟨#[32]⟩ (by rw [bF,bF];omega)
         have e4:=fun W:World=>run_string_add_sum (P:=Tryz.prog) (w:=W) (T2++⟨#[119,105,116,104,32]⟩++p.nm++⟨#[32]⟩) pt (by rw [bF,bF,bF];omega)
         have e5:=fun W:World=>run_string_add_sum (P:=Tryz.prog) (w:=W) (T2++⟨#[119,105,116,104,32]⟩++p.nm++⟨#[32]⟩++pt) ⟨#[10]⟩ (by rw [bF,bF,bF,bF];omega)
         clear z1 z2 z3 hpn hpz hvz hT2z HT2 HSN
         go_wp2_with fail
         clear b0 b1 b2 b3 b4 b5 b6;refine aM HK (by kernel_rfl) (by kernel_rfl) (by first|exact HO.out|exact HK.out.drew HO.out) ?_;intro C HIN HOUT;clear HO
         repeat
          (with_reducible refine wpQuiet_step (fun K hK=> ?_)
           go_simp
           first
            |(refine hK _ ?_;clear hK K)
            |(apply Exists.intro;refine ⟨fun w1 hC=> ?_,hK _ ?_⟩;(focus ((first|(go_at_call 136;with_reducible exact aP HIN HOUT HK HC.out w1 hC)|(exact rfl)|(obtain ⟨⟨⟨hb1,hg1⟩,⟨⟨b0,b1,b2,b3,b4,b5⟩,b6⟩,hp1,hq1⟩,⟨⟨p0,p1,p2,p3⟩,p4⟩⟩:=HOUT.out w1 hC;clear hC;go_simp;first|done|exact rfl));done));clear hK K))
         refine wpQuiet_nil ?_;intro wn hC;have HO:=aA (HOUT.out _ hC);clear hC HIN HOUT C;obtain ⟨⟨⟨hb1,hg1⟩,⟨⟨b0,b1,b2,b3,b4,b5⟩,b6⟩,hp1,hq1⟩,⟨⟨p0,p1,p2,p3⟩,p4⟩⟩:=HO.out
         go_wp2
         exact ⟨⟨m+1,_,by omega,by go_num,rfl,HT3.out,HO.out.1⟩,by simp [intOf];omega⟩
       · have hme:m=x.cx.length:=by omega
         have HT4:Hid (T2.data.toList=aQ (eR G k++[hdL k x]++x.cx.map dH)):=by
          unfold Hid;rw [HT2.out,hme,List.take_length]
         subst hme;clear HT2;obtain ⟨wb,rfl⟩:∃ q,q=wr:=⟨wr,rfl⟩
         go_wp2_with fail
         clear b0 b1 b2 b3 b4 b5 b6
         go_loopw [3,7] (fun vt j wq=>∃ (m:Nat) (T2:ByteArray),m≤x.ed.length∧j= .int .i64 m∧vt= .string T2∧T2.data.toList=aQ (eR G k++[hdL k x]++x.cx.map dH++(x.ed.take m).map dY)∧KM w (.slice (some ⟨ga,oa,none⟩) G.length cap) x (.slice av x.cx.length cv) (.slice ae x.ed.length ce) wa.heap.size wq) (fun _ j _=>x.ed.length - (intOf j).toNat)
         case atStart=>exact ⟨0,T2,Nat.zero_le _,rfl,rfl,by rw [HT4.out];simp,HKM.out⟩
         case round=>
          clear HKM HT4;obtain ⟨m,T2,hm,rfl,rfl,hT2,hkm⟩:=hrel;have HT2:=aA hT2;have HKM:=aA hkm;obtain ⟨_,⟨⟨b0,b1,b2,b3,b4,b5⟩,b6⟩,_,_⟩:=hkm;clear hT2
          by_cases hml:m<x.ed.length
          · obtain ⟨gp,op,rfl,hpi⟩:=oP HKM.out.2.2.2 hml
            have hT2z:T2.size≤1048576:=by
             rw [←Sc.aK,HT2.out]
             exact HS1.out _ ((x.ed.drop m).map dY) (by
              unfold cQ;rw [kP dY x.ed m];simp only [List.append_assoc,List.cons_append,List.nil_append])
            have HSN:Hid ((x.ed.take (m+1)).map dY=(x.ed.take m).map dY++[dY x.ed[m]]):=mW _ hml;have hpz:=HNE.out _ (List.getElem_mem hml);have HO:Hid (KM w (.slice (some ⟨ga,oa,none⟩) G.length cap) x (.slice av x.cx.length cv) (.slice (some ⟨gp,op,none⟩) x.ed.length ce) wa.heap.size wr∧EgIn wr gp (op+m*2) x.ed[m]):=⟨HKM.out,hpi⟩;have HK:Hid (KeepP fun W=>KM w (.slice (some ⟨ga,oa,none⟩) G.length cap) x (.slice av x.cx.length cv) (.slice (some ⟨gp,op,none⟩) x.ed.length ce) wa.heap.size W∧EgIn W gp (op+m*2) x.ed[m]):=HKP.out.and (GO _ _ _);clear HKM hpi;generalize x.ed[m]=p at*
            have HT3:Hid ((T2++⟨#[116,111,32]⟩++p.lb++⟨#[32]⟩++(⟨(Lib.itoa p.to).toArray⟩:ByteArray)++⟨#[10]⟩).data.toList=aQ (eR G k++[hdL k x]++x.cx.map dH++(x.ed.take (m+1)).map dY)):=by
             unfold Hid;rw [HSN.out,←List.append_assoc,fF,←HT2.out,jV (x:=wTo) rfl];simp [aQ,dY,wTo]
            have hvz:(⟨(Lib.itoa p.to).toArray⟩:ByteArray).size≤11:=by
             have:=iS hpz.2.1 hpz.2.2
             show (Lib.itoa p.to).toArray.size≤11;rw [List.size_toArray];omega
            have HC:Hid (∀ W,Calls Tryz.prog 137 #[.int .i64 p.to] W fun e w'=>e= .returned (.string ⟨(Lib.itoa p.to).toArray⟩)∧Below W.heap.size W w'):=fun W=>gN _ hpz.2.1 hpz.2.2 W
            generalize (⟨(Lib.itoa p.to).toArray⟩:ByteArray)=pt at*;have z1:(⟨#[32]⟩:ByteArray).size=1:=rfl;have z2:(⟨#[10]⟩:ByteArray).size=1:=rfl;have z3:(⟨#[116,111,32]⟩:ByteArray).size=3:=rfl;have hpn:=hpz.1;have e1:=fun W:World=>run_string_add_sum (P:=Tryz.prog) (w:=W) T2 ⟨#[116,111,32]⟩ (by omega)
            have e2:=fun W:World=>run_string_add_sum (P:=Tryz.prog) (w:=W) (T2++⟨#[116,111,32]⟩) p.lb (by rw [bF];omega)
            have e3:=fun W:World=>run_string_add_sum (P:=Tryz.prog) (w:=W) (T2++⟨#[116,111,32]⟩++p.lb) ⟨#[32]⟩ (by rw [bF,bF];omega)
            have e4:=fun W:World=>run_string_add_sum (P:=Tryz.prog) (w:=W) (T2++⟨#[116,111,32]⟩++p.lb++⟨#[32]⟩) pt (by rw [bF,bF,bF];omega)
            have e5:=fun W:World=>run_string_add_sum (P:=Tryz.prog) (w:=W) (T2++⟨#[116,111,32]⟩++p.lb++⟨#[32]⟩++pt) ⟨#[10]⟩ (by rw [bF,bF,bF,bF];omega)
            clear z1 z2 z3 hpn hpz hvz hT2z HT2 HSN
            go_wp2_with fail
            clear b0 b1 b2 b3 b4 b5 b6;refine aM HK (by kernel_rfl) (by kernel_rfl) (by first|exact HO.out|exact HK.out.drew HO.out) ?_;intro C HIN HOUT;clear HO
            repeat
             (with_reducible refine wpQuiet_step (fun K hK=> ?_)
              go_simp
              first
               |(refine hK _ ?_;clear hK K)
               |(apply Exists.intro;refine ⟨fun w1 hC=> ?_,hK _ ?_⟩;(focus ((first|(go_at_call 137;with_reducible exact aP HIN HOUT HK HC.out w1 hC)|(exact rfl)|(obtain ⟨⟨⟨hb1,hg1⟩,⟨⟨b0,b1,b2,b3,b4,b5⟩,b6⟩,hp1,hq1⟩,⟨⟨p0,p1⟩,p4⟩⟩:=HOUT.out w1 hC;clear hC;go_simp;first|done|exact rfl));done));clear hK K))
            refine wpQuiet_nil ?_;intro wn hC;have HO:=aA (HOUT.out _ hC);clear hC HIN HOUT C;obtain ⟨⟨⟨hb1,hg1⟩,⟨⟨b0,b1,b2,b3,b4,b5⟩,b6⟩,hp1,hq1⟩,⟨⟨p0,p1⟩,p4⟩⟩:=HO.out
            go_wp2
            exact ⟨⟨m+1,_,by omega,by go_num,rfl,HT3.out,HO.out.1⟩,by simp [intOf];omega⟩
          · have hme:m=x.ed.length:=by omega
            have HT4:Hid (T2.data.toList=aQ (eR G k++[hdL k x]++x.cx.map dH++x.ed.map dY)):=by
             unfold Hid;rw [HT2.out,hme,List.take_length]
            subst hme;clear HT2
            have HR:Hid (T2.data.toList=aQ (eR G (k+1))):=by
             unfold Hid;rw [HT4.out,HPS.out];unfold cQ
             simp
            clear HT4 HPS HS1
            go_wp2
            exact ⟨⟨k+1,T2,by omega,by go_num,rfl,HR.out,HKM.out.1⟩,by simp [intOf];omega⟩
    · have hk1:((k:Int)==0)=false:=by rw [beq_eq_false_iff_ne];omega
      obtain ⟨hn1,hn2⟩:=HNN.out hk0;have hvz:(aS x.a x.b x.c).size≤11:=by have:=mS hn2;unfold bsV at this;rwa [Sc.aK] at this
      have HC:Hid (∀ W,Calls Tryz.prog 136 #[.agg #[.int .i64 x.a,.int .i64 x.b,.int .i64 x.c]] W fun e w'=>e= .returned (.string (aS x.a x.b x.c))∧Below W.heap.size W w'):=fun W=>eW _ _ _ W
      have HT1:Hid ((T++⟨#[110,111,100,101,32]⟩++x.nm++⟨#[32]⟩++aS x.a x.b x.c++⟨#[10]⟩).data.toList=aQ (eR G k++[hdL k x])):=by
       unfold Hid;rw [fF,←HT.out,jV (x:=GG) rfl];unfold hdL;rw [if_neg (by omega)];simp [aQ,fP,bsV,GG]
      generalize aS x.a x.b x.c=pt at*;have z1:(⟨#[32]⟩:ByteArray).size=1:=rfl;have z2:(⟨#[10]⟩:ByteArray).size=1:=rfl;have z3:(⟨#[110,111,100,101,32]⟩:ByteArray).size=5:=rfl;have e1:=fun W:World=>run_string_add_sum (P:=Tryz.prog) (w:=W) T ⟨#[110,111,100,101,32]⟩ (by omega)
      have e2:=fun W:World=>run_string_add_sum (P:=Tryz.prog) (w:=W) (T++⟨#[110,111,100,101,32]⟩) x.nm (by rw [bF];omega)
      have e3:=fun W:World=>run_string_add_sum (P:=Tryz.prog) (w:=W) (T++⟨#[110,111,100,101,32]⟩++x.nm) ⟨#[32]⟩ (by rw [bF,bF];omega)
      have e4:=fun W:World=>run_string_add_sum (P:=Tryz.prog) (w:=W) (T++⟨#[110,111,100,101,32]⟩++x.nm++⟨#[32]⟩) pt (by rw [bF,bF,bF];omega)
      have e5:=fun W:World=>run_string_add_sum (P:=Tryz.prog) (w:=W) (T++⟨#[110,111,100,101,32]⟩++x.nm++⟨#[32]⟩++pt) ⟨#[10]⟩ (by rw [bF,bF,bF,bF];omega)
      have HO:=HKM;have HK:=HKP;clear z1 z2 z3 HNN HT HKM hn1 hn2 hvz hTz
      go_wp2_with fail
      clear x0 x1 x2 x3 x4 x5 x6;refine aM HK (by kernel_rfl) (by kernel_rfl) (by first|exact HO.out|exact HK.out.drew HO.out) ?_;intro C HIN HOUT;clear HO
      repeat
       (with_reducible refine wpQuiet_step (fun K hK=> ?_)
        go_simp
        first
         |(refine hK _ ?_;clear hK K)
         |(apply Exists.intro;refine ⟨fun w1 hC=> ?_,hK _ ?_⟩;(focus ((first|(go_at_call 136;with_reducible exact aP HIN HOUT HK HC.out w1 hC)|(exact rfl)|(obtain ⟨⟨hb1,hg1⟩,⟨⟨b0,b1,b2,b3,b4,b5⟩,b6⟩,hp1,hq1⟩:=HOUT.out w1 hC;clear hC;go_simp;first|done|exact rfl));done));clear hK K))
      refine wpQuiet_nil ?_;intro wn hC;have HO:=aA (HOUT.out _ hC);clear hC HIN HOUT C;obtain ⟨⟨hb1,hg1⟩,⟨⟨b0,b1,b2,b3,b4,b5⟩,b6⟩,hp1,hq1⟩:=HO.out;have HKM:=HO;clear HO hb1 hg1 hp1 hq1 HK HC
      go_wp2_with fail
      generalize T++⟨#[110,111,100,101,32]⟩++x.nm++⟨#[32]⟩++pt++⟨#[10]⟩=T1 at*;clear e1 e2 e3 e4 e5 b0 b1 b2 b3 b4 b5 b6
      go_loopw [3,6] (fun vt j wq=>∃ (m:Nat) (T2:ByteArray),m≤x.cx.length∧j= .int .i64 m∧vt= .string T2∧T2.data.toList=aQ (eR G k++[hdL k x]++(x.cx.take m).map dH)∧KM w (.slice (some ⟨ga,oa,none⟩) G.length cap) x (.slice av x.cx.length cv) (.slice ae x.ed.length ce) wa.heap.size wq) (fun _ j _=>x.cx.length - (intOf j).toNat)
      case atStart=>exact ⟨0,T1,Nat.zero_le _,rfl,rfl,by rw [HT1.out];simp,HKM.out⟩
      case round=>
       clear HKM HT1;obtain ⟨m,T2,hm,rfl,rfl,hT2,hkm⟩:=hrel;have HT2:=aA hT2;have HKM:=aA hkm;obtain ⟨_,⟨⟨b0,b1,b2,b3,b4,b5⟩,b6⟩,_,_⟩:=hkm;clear hT2
       by_cases hml:m<x.cx.length
       · obtain ⟨gp,op,rfl,hpi⟩:=rS HKM.out.2.2.1 hml
         have hT2z:T2.size≤1048576:=by
          rw [←Sc.aK,HT2.out]
          exact HS1.out _ ((x.cx.drop m).map dH++x.ed.map dY) (by
           unfold cQ;rw [kP dH x.cx m];simp only [List.append_assoc,List.cons_append,List.nil_append])
         have HSN:Hid ((x.cx.take (m+1)).map dH=(x.cx.take m).map dH++[dH x.cx[m]]):=mW _ hml;have hpz:=HNP.out _ (List.getElem_mem hml);have HO:Hid (KM w (.slice (some ⟨ga,oa,none⟩) G.length cap) x (.slice (some ⟨gp,op,none⟩) x.cx.length cv) (.slice ae x.ed.length ce) wa.heap.size wr∧PnIn wr gp (op+m*4) x.cx[m]):=⟨HKM.out,hpi⟩;have HK:Hid (KeepP fun W=>KM w (.slice (some ⟨ga,oa,none⟩) G.length cap) x (.slice (some ⟨gp,op,none⟩) x.cx.length cv) (.slice ae x.ed.length ce) wa.heap.size W∧PnIn W gp (op+m*4) x.cx[m]):=HKP.out.and (GN _ _ _);clear HKM hpi;generalize x.cx[m]=p at*
         have HT3:Hid ((T2++⟨#[119,105,116,104,32]⟩++p.nm++⟨#[32]⟩++aS p.a p.b p.c++⟨#[10]⟩).data.toList=aQ (eR G k++[hdL k x]++(x.cx.take (m+1)).map dH)):=by
          unfold Hid;rw [HSN.out,←List.append_assoc,fF,←HT2.out,jV (x:=zM) rfl];simp [aQ,dH,bsV,zM]
         have hvz:(aS p.a p.b p.c).size≤11:=by have:=mS hpz.2;unfold bsV at this;rwa [Sc.aK] at this
         have HC:Hid (∀ W,Calls Tryz.prog 136 #[.agg #[.int .i64 p.a,.int .i64 p.b,.int .i64 p.c]] W fun e w'=>e= .returned (.string (aS p.a p.b p.c))∧Below W.heap.size W w'):=fun W=>eW _ _ _ W
         generalize aS p.a p.b p.c=pt at*;have z1:(⟨#[32]⟩:ByteArray).size=1:=rfl;have z2:(⟨#[10]⟩:ByteArray).size=1:=rfl;have z3:(⟨#[119,105,116,104,32]⟩:ByteArray).size=5:=rfl;have hpn:=hpz.1;have e1:=fun W:World=>run_string_add_sum (P:=Tryz.prog) (w:=W) T2 ⟨#[119,105,116,104,32]⟩ (by omega)
         have e2:=fun W:World=>run_string_add_sum (P:=Tryz.prog) (w:=W) (T2++⟨#[119,105,116,104,32]⟩) p.nm (by rw [bF];omega)
         have e3:=fun W:World=>run_string_add_sum (P:=Tryz.prog) (w:=W) (T2++⟨#[119,105,116,104,32]⟩++p.nm) ⟨#[32]⟩ (by rw [bF,bF];omega)
         have e4:=fun W:World=>run_string_add_sum (P:=Tryz.prog) (w:=W) (T2++⟨#[119,105,116,104,32]⟩++p.nm++⟨#[32]⟩) pt (by rw [bF,bF,bF];omega)
         have e5:=fun W:World=>run_string_add_sum (P:=Tryz.prog) (w:=W) (T2++⟨#[119,105,116,104,32]⟩++p.nm++⟨#[32]⟩++pt) ⟨#[10]⟩ (by rw [bF,bF,bF,bF];omega)
         clear z1 z2 z3 hpn hpz hvz hT2z HT2 HSN
         go_wp2_with fail
         clear b0 b1 b2 b3 b4 b5 b6;refine aM HK (by kernel_rfl) (by kernel_rfl) (by first|exact HO.out|exact HK.out.drew HO.out) ?_;intro C HIN HOUT;clear HO
         repeat
          (with_reducible refine wpQuiet_step (fun K hK=> ?_)
           go_simp
           first
            |(refine hK _ ?_;clear hK K)
            |(apply Exists.intro;refine ⟨fun w1 hC=> ?_,hK _ ?_⟩;(focus ((first|(go_at_call 136;with_reducible exact aP HIN HOUT HK HC.out w1 hC)|(exact rfl)|(obtain ⟨⟨⟨hb1,hg1⟩,⟨⟨b0,b1,b2,b3,b4,b5⟩,b6⟩,hp1,hq1⟩,⟨⟨p0,p1,p2,p3⟩,p4⟩⟩:=HOUT.out w1 hC;clear hC;go_simp;first|done|exact rfl));done));clear hK K))
         refine wpQuiet_nil ?_;intro wn hC;have HO:=aA (HOUT.out _ hC);clear hC HIN HOUT C;obtain ⟨⟨⟨hb1,hg1⟩,⟨⟨b0,b1,b2,b3,b4,b5⟩,b6⟩,hp1,hq1⟩,⟨⟨p0,p1,p2,p3⟩,p4⟩⟩:=HO.out
         go_wp2
         exact ⟨⟨m+1,_,by omega,by go_num,rfl,HT3.out,HO.out.1⟩,by simp [intOf];omega⟩
       · have hme:m=x.cx.length:=by omega
         have HT4:Hid (T2.data.toList=aQ (eR G k++[hdL k x]++x.cx.map dH)):=by
          unfold Hid;rw [HT2.out,hme,List.take_length]
         subst hme;clear HT2;obtain ⟨wb,rfl⟩:∃ q,q=wr:=⟨wr,rfl⟩
         go_wp2_with fail
         clear b0 b1 b2 b3 b4 b5 b6
         go_loopw [3,7] (fun vt j wq=>∃ (m:Nat) (T2:ByteArray),m≤x.ed.length∧j= .int .i64 m∧vt= .string T2∧T2.data.toList=aQ (eR G k++[hdL k x]++x.cx.map dH++(x.ed.take m).map dY)∧KM w (.slice (some ⟨ga,oa,none⟩) G.length cap) x (.slice av x.cx.length cv) (.slice ae x.ed.length ce) wa.heap.size wq) (fun _ j _=>x.ed.length - (intOf j).toNat)
         case atStart=>exact ⟨0,T2,Nat.zero_le _,rfl,rfl,by rw [HT4.out];simp,HKM.out⟩
         case round=>
          clear HKM HT4;obtain ⟨m,T2,hm,rfl,rfl,hT2,hkm⟩:=hrel;have HT2:=aA hT2;have HKM:=aA hkm;obtain ⟨_,⟨⟨b0,b1,b2,b3,b4,b5⟩,b6⟩,_,_⟩:=hkm;clear hT2
          by_cases hml:m<x.ed.length
          · obtain ⟨gp,op,rfl,hpi⟩:=oP HKM.out.2.2.2 hml
            have hT2z:T2.size≤1048576:=by
             rw [←Sc.aK,HT2.out]
             exact HS1.out _ ((x.ed.drop m).map dY) (by
              unfold cQ;rw [kP dY x.ed m];simp only [List.append_assoc,List.cons_append,List.nil_append])
            have HSN:Hid ((x.ed.take (m+1)).map dY=(x.ed.take m).map dY++[dY x.ed[m]]):=mW _ hml;have hpz:=HNE.out _ (List.getElem_mem hml);have HO:Hid (KM w (.slice (some ⟨ga,oa,none⟩) G.length cap) x (.slice av x.cx.length cv) (.slice (some ⟨gp,op,none⟩) x.ed.length ce) wa.heap.size wr∧EgIn wr gp (op+m*2) x.ed[m]):=⟨HKM.out,hpi⟩;have HK:Hid (KeepP fun W=>KM w (.slice (some ⟨ga,oa,none⟩) G.length cap) x (.slice av x.cx.length cv) (.slice (some ⟨gp,op,none⟩) x.ed.length ce) wa.heap.size W∧EgIn W gp (op+m*2) x.ed[m]):=HKP.out.and (GO _ _ _);clear HKM hpi;generalize x.ed[m]=p at*
            have HT3:Hid ((T2++⟨#[116,111,32]⟩++p.lb++⟨#[32]⟩++(⟨(Lib.itoa p.to).toArray⟩:ByteArray)++⟨#[10]⟩).data.toList=aQ (eR G k++[hdL k x]++x.cx.map dH++(x.ed.take (m+1)).map dY)):=by
             unfold Hid;rw [HSN.out,←List.append_assoc,fF,←HT2.out,jV (x:=wTo) rfl];simp [aQ,dY,wTo]
            have hvz:(⟨(Lib.itoa p.to).toArray⟩:ByteArray).size≤11:=by
             have:=iS hpz.2.1 hpz.2.2
             show (Lib.itoa p.to).toArray.size≤11;rw [List.size_toArray];omega
            have HC:Hid (∀ W,Calls Tryz.prog 137 #[.int .i64 p.to] W fun e w'=>e= .returned (.string ⟨(Lib.itoa p.to).toArray⟩)∧Below W.heap.size W w'):=fun W=>gN _ hpz.2.1 hpz.2.2 W
            generalize (⟨(Lib.itoa p.to).toArray⟩:ByteArray)=pt at*;have z1:(⟨#[32]⟩:ByteArray).size=1:=rfl;have z2:(⟨#[10]⟩:ByteArray).size=1:=rfl;have z3:(⟨#[116,111,32]⟩:ByteArray).size=3:=rfl;have hpn:=hpz.1;have e1:=fun W:World=>run_string_add_sum (P:=Tryz.prog) (w:=W) T2 ⟨#[116,111,32]⟩ (by omega)
            have e2:=fun W:World=>run_string_add_sum (P:=Tryz.prog) (w:=W) (T2++⟨#[116,111,32]⟩) p.lb (by rw [bF];omega)
            have e3:=fun W:World=>run_string_add_sum (P:=Tryz.prog) (w:=W) (T2++⟨#[116,111,32]⟩++p.lb) ⟨#[32]⟩ (by rw [bF,bF];omega)
            have e4:=fun W:World=>run_string_add_sum (P:=Tryz.prog) (w:=W) (T2++⟨#[116,111,32]⟩++p.lb++⟨#[32]⟩) pt (by rw [bF,bF,bF];omega)
            have e5:=fun W:World=>run_string_add_sum (P:=Tryz.prog) (w:=W) (T2++⟨#[116,111,32]⟩++p.lb++⟨#[32]⟩++pt) ⟨#[10]⟩ (by rw [bF,bF,bF,bF];omega)
            clear z1 z2 z3 hpn hpz hvz hT2z HT2 HSN
            go_wp2_with fail
            clear b0 b1 b2 b3 b4 b5 b6;refine aM HK (by kernel_rfl) (by kernel_rfl) (by first|exact HO.out|exact HK.out.drew HO.out) ?_;intro C HIN HOUT;clear HO
            repeat
             (with_reducible refine wpQuiet_step (fun K hK=> ?_)
              go_simp
              first
               |(refine hK _ ?_;clear hK K)
               |(apply Exists.intro;refine ⟨fun w1 hC=> ?_,hK _ ?_⟩;(focus ((first|(go_at_call 137;with_reducible exact aP HIN HOUT HK HC.out w1 hC)|(exact rfl)|(obtain ⟨⟨⟨hb1,hg1⟩,⟨⟨b0,b1,b2,b3,b4,b5⟩,b6⟩,hp1,hq1⟩,⟨⟨p0,p1⟩,p4⟩⟩:=HOUT.out w1 hC;clear hC;go_simp;first|done|exact rfl));done));clear hK K))
            refine wpQuiet_nil ?_;intro wn hC;have HO:=aA (HOUT.out _ hC);clear hC HIN HOUT C;obtain ⟨⟨⟨hb1,hg1⟩,⟨⟨b0,b1,b2,b3,b4,b5⟩,b6⟩,hp1,hq1⟩,⟨⟨p0,p1⟩,p4⟩⟩:=HO.out
            go_wp2
            exact ⟨⟨m+1,_,by omega,by go_num,rfl,HT3.out,HO.out.1⟩,by simp [intOf];omega⟩
          · have hme:m=x.ed.length:=by omega
            have HT4:Hid (T2.data.toList=aQ (eR G k++[hdL k x]++x.cx.map dH++x.ed.map dY)):=by
             unfold Hid;rw [HT2.out,hme,List.take_length]
            subst hme;clear HT2
            have HR:Hid (T2.data.toList=aQ (eR G (k+1))):=by
             unfold Hid;rw [HT4.out,HPS.out];unfold cQ
             simp
            clear HT4 HPS HS1
            go_wp2
            exact ⟨⟨k+1,T2,by omega,by go_num,rfl,HR.out,HKM.out.1⟩,by simp [intOf];omega⟩
  · obtain rfl:k=G.length:=by omega
    have HR:=aA (HEND.out T HT.out);clear HCS HEND HSHORT
    go_wp2
    go_ret;exact ⟨iY HR.out,HB.out.1⟩
theorem oQ {G:List Nd} {v:Value} {w:World} (h:NodesAt w v G) (hz:∀ n ∈ G,NdZ n):
 Calls Tryz.prog 28 #[.agg #[v]] w fun e w'=>e= .returned (.tuple #[.string (prT G),.int .i64 (prE G)])∧Below w.heap.size w w':=by
 have HM:Hid (∀ W,Below w.heap.size w W→Calls Tryz.prog 80 #[.agg #[v]] W fun e w'=>e= .returned (.bool (cU G))∧Below W.heap.size W w'):=fun W hb=>KI (h.below hb) hz
 have HX:Hid (cU G=true→∀ W,Below w.heap.size w W→Calls Tryz.prog 81 #[.agg #[v]] W fun e w'=>e= .returned (.string (mP G))∧Below W.heap.size W w'):=fun hm W hb=>by
  have hn:=h.below hb;obtain ⟨ad,cap,rfl,_⟩:=h;exact zW hn hm
 obtain ⟨ad,cap,rfl,kk⟩:=h;clear kk hz;have HB0:Hid (Below w.heap.size w (w.alloc (.cells #[.slice ad G.length cap] 27))∧BxG (w.alloc (.cells #[.slice ad G.length cap] 27)) w.heap.size (.slice ad G.length cap)):=⟨aF _ _,BxG.new rfl _⟩;unfold prT prE;cases hm:cU G
 · rw [hm] at HM
   clear HX
   go_enter Tryz.func28,Tryz.ntmps28
   go_wp2_with (go_at_call 80;refine (HM.out _ HB0.out.1).mono ?_;rintro e w1 ⟨rfl,ok⟩;have HB1:=aA (aB HB0.out.1 ok);clear ok)
   go_ret2;exact ⟨by simp,HB1.out⟩
 · rw [hm] at HM
   have HY:=aA (HX.out hm);clear HX hm
   go_enter Tryz.func28,Tryz.ntmps28
   go_wp2_with (first
    |(go_at_call 80;refine (HM.out _ HB0.out.1).mono ?_;rintro e w1 ⟨rfl,ok⟩;have HB1:=aA (aB HB0.out.1 ok);obtain ⟨y0,y1⟩:=kK _ _ _ _ HB0.out.2 ok;clear ok)
    |(go_at_call 81;refine (HY.out _ HB1.out).mono ?_;rintro e w2 ⟨rfl,ok⟩;have HB2:=aA (aB HB1.out ok);clear ok))
   go_ret2;exact ⟨by simp,HB2.out⟩
end Go.Proofs.YtlmpiohbmlddiaaGreatDoor.Lo
