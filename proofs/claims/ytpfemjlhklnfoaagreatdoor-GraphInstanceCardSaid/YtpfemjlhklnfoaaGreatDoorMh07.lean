/- Ps3, Ct5, Ct6: their declarations that are needed, laid in one text, remarks and blanks left out. -/
import Derived.Test.YtpfemjlhklnfoaaGreatDoorMh06
namespace Go.Proofs.YtpfemjlhklnfoaaGreatDoor
open Go.RowKit
set_option maxRecDepth 100000
def lwK:Nat→ByteArray
 |0=>⟨#[110,101,101,100,115]⟩
 |1=>⟨#[98,101,115,105,100,101]⟩
 |_=>⟨#[108,105,107,101,115]⟩
theorem dK (k:Nat):(lwK k).size≤16:=by
 match k with
 |0|1=>decide
 |_+2=>show (⟨#[108,105,107,101,115]⟩:ByteArray).size≤16;decide
def dT (P:Pg):Sc.Bs:=eW ⟨#[112,97,99,107,97,103,101]⟩ P.nm (aT P.a P.b P.c)++(aV (lwK 0) P.d++(aV (lwK 1) P.p++aV (lwK 2) P.o))
noncomputable def aI (P:Pg):Bool:=eV P&&decide ((dT P).length≤4096)
noncomputable def dP (P:Pg):ByteArray:=if aI P=true then ⟨(dT P).toArray⟩ else ⟨#[]⟩
def kX:Obj:= .cells #[.string (lwK 0),.string (lwK 1),.string (lwK 2)] 9 (0,0)
theorem pC (w:World):Calls Tryz.prog 133 #[] w fun e w'=>e= .returned (.slice (some ⟨w.heap.size,0,none⟩) 3 3)∧w'=w.alloc (.cells #[.string (lwK 0),.string (lwK 1),.string (lwK 2)] 9):=by
 go_enter Tryz.func133,Tryz.ntmps133
 go_wp2
 go_ret;exact ⟨rfl,rfl⟩
theorem dF (a b:ByteArray):(a++b).size=a.size+b.size:=by simp
def gS (P:Pg):Nat→Sc.Bs
 |0=>eW ⟨#[112,97,99,107,97,103,101]⟩ P.nm (aT P.a P.b P.c)
 |1=>eW ⟨#[112,97,99,107,97,103,101]⟩ P.nm (aT P.a P.b P.c)++aV (lwK 0) P.d
 |2=>eW ⟨#[112,97,99,107,97,103,101]⟩ P.nm (aT P.a P.b P.c)++aV (lwK 0) P.d++aV (lwK 1) P.p
 |_=>eW ⟨#[112,97,99,107,97,103,101]⟩ P.nm (aT P.a P.b P.c)++aV (lwK 0) P.d++aV (lwK 1) P.p++aV (lwK 2) P.o
theorem BL (P:Pg):gS P 3=dT P:=by unfold gS dT;simp
set_option maxHeartbeats 6400000 in
theorem pD {P:Pg} {v1 v2 v3:Value} {w:World} (h:PgAt w P v1 v2 v3) (he:Env w) (hf:FL w) (hsd:eV P=true):
 Calls Tryz.prog 83 #[.agg #[.string P.nm,.int .i64 P.a,.int .i64 P.b,.int .i64 P.c,v1,v2,v3]] w fun e w'=>e= .returned (.tuple #[.string (dP P),.bool (aI P)])∧Below w.heap.size w w':=by
 have HSO:Hid (∀ w1,Below w.heap.size w w1→Calls Tryz.prog 130 #[.agg #[.string P.nm,.int .i64 P.a,.int .i64 P.b,.int .i64 P.c,v1,v2,v3]] w1 fun e w'=>e= .returned (.bool true)∧Below w1.heap.size w1 w'):=fun w1 hb=>by have:=pV (h.below hb);rw [hsd] at this;exact this
 have hs:=hsd;unfold eV at hs;simp only [Bool.and_eq_true] at hs;obtain ⟨⟨⟨hnm,hmv⟩,hd,hp,ho⟩,_⟩:=hs;have hnz:P.nm.size≤16:=by unfold Sc.aQ at hnm;rw [Bool.and_eq_true,decide_eq_true_eq,aX] at hnm;exact hnm.2
 have hvz:=cB P.a P.b P.c;have HPR:Hid (∀ w1,Below w.heap.size w w1→Calls Tryz.prog 132 #[.agg #[.int .i64 P.a,.int .i64 P.b,.int .i64 P.c]] w1 fun e w'=>e= .returned (.string (aT P.a P.b P.c))∧Below w1.heap.size w1 w'):=fun w1 hb=>jU he.tab _ _ _ w1 hb
 have HPG:Hid (∀ w1,Below w.heap.size w w1→PgAt w1 P v1 v2 v3):=fun w1 hb=>h.below hb
 have HMD:Hid (aM P.d=true∧aM P.p=true∧aM P.o=true):=⟨hd,hp,ho⟩;have HLN:Hid ((∀ k,(aV (lwK 0) (P.d.take k)).length≤80000)∧(∀ k,(aV (lwK 1) (P.p.take k)).length≤80000)∧(∀ k,(aV (lwK 2) (P.o.take k)).length≤80000)):=⟨cY (dK 0) hd,cY (dK 1) hp,cY (dK 2) ho⟩;have hll:(eW ⟨#[112,97,99,107,97,103,101]⟩ P.nm (aT P.a P.b P.c)).length≤5000:=tX (by decide) hnz (by omega);have HF0:=aA (HLN.out.1 P.d.length);have HF1:=aA (HLN.out.2.1 P.p.length);rw [List.take_length] at HF0 HF1;have HSZ:Hid ((P.d.length≤16∧P.p.length≤16)∧P.o.length≤16):=⟨⟨(bH hd).1,(bH hp).1⟩,(bH ho).1⟩;obtain ⟨⟨z1,z2⟩,z3⟩:=HSZ.out;have HWB:Hid (aI P=decide ((dT P).length≤4096)):=by unfold Hid aI;rw [hsd];rfl
 have HPT:=aA (BL P);obtain ⟨a1,c1,rfl,q1⟩:=h.1.len;obtain ⟨a2,c2,rfl,q2⟩:=h.2.1.len;obtain ⟨a3,c3,rfl,q3⟩:=h.2.2.len;have HLI:Hid (∀ w1,Calls Tryz.prog 134 #[.agg #[.string P.nm,.int .i64 P.a,.int .i64 P.b,.int .i64 P.c,.slice a1 P.d.length c1,.slice a2 P.p.length c2,.slice a3 P.o.length c3]] w1 fun e w'=>e= .returned (.agg #[.slice a1 P.d.length c1,.slice a2 P.p.length c2,.slice a3 P.o.length c3])∧Below w1.heap.size w1 w'):=pT _ _ _ _ _ _ _ _ _ _ _ _ _;have HLE:Hid (∀ w1 l w',TW w1 l w'→Calls Tryz.prog 136 #[.pointer (some ⟨w1.heap.size,0,none⟩)] w' fun e w2=>e= .returned (.int .i64 l.length)∧w2=w'):=fun w1 l w' h=>yZ h.1
 have HST:Hid (∀ w1 l w',TW w1 l w'→Calls Tryz.prog 137 #[.pointer (some ⟨w1.heap.size,0,none⟩)] w' fun e w2=>e= .returned (.string ⟨l.toArray⟩)∧Below w1.heap.size w' w2):=fun w1 l w' h=>Tryz.Builder_String_any _ _ l w' h.1 h.2.size
 have HWR:Hid (∀ w1,Below w.heap.size w w1→∀ (l:Sc.Bs) wz (x:ByteArray) v L,TW w1 l wz→DepsAt w1 v L→aM L=true→x.size≤16→l.length≤1000000→Calls Tryz.prog 135 #[.pointer (some ⟨w1.heap.size,0,none⟩),.string x,v] wz fun e w'=>e= .returned (.tuple #[])∧TW w1 (l++aV x L) w'∧FarB w1.heap.size wz w'):=fun w1 hb l wz x v L h1 h2 h3 h4 h5=>pW h1 h2 h3 (he.below hb) (hf.below hb) h4 h5
 have HPU:Hid (∀ w1 (l:Sc.Bs) wz (s:ByteArray),TW w1 l wz→l.length≤1000000→s.size≤1000000→Calls Tryz.prog 131 #[.pointer (some ⟨w1.heap.size,0,none⟩),.string s] wz fun e w'=>e= .returned (.tuple #[.int .i64 s.size,.nilIface])∧TW w1 (l++s.data.toList) w'∧FarB w1.heap.size wz w'):=fun w1 l wz s h1 h2 h3=>h1.put s (by omega) h3
 have HHD:Hid ([]++(⟨#[112,97,99,107,97,103,101,32]⟩++P.nm++⟨#[32]⟩++aT P.a P.b P.c++⟨#[10]⟩:ByteArray).data.toList=gS P 0∧(⟨#[112,97,99,107,97,103,101,32]⟩++P.nm++⟨#[32]⟩++aT P.a P.b P.c++⟨#[10]⟩:ByteArray).size≤1000000):=by
  refine ⟨by unfold gS eW;simp,?_⟩;rw [dF,dF,dF,dF];have e1:(⟨#[112,97,99,107,97,103,101,32]⟩:ByteArray).size=8:=rfl;have e2:(⟨#[32]⟩:ByteArray).size=1:=rfl;have e3:(⟨#[10]⟩:ByteArray).size=1:=rfl;omega
 have ix0:=tS;have ix1:=tT;have ix2:=tU;clear h he hf hsd hnm hmv hd hp ho;have HBX:Hid (BxP (w.alloc (.cells #[.string P.nm,.int .i64 P.a,.int .i64 P.b,.int .i64 P.c,.slice a1 P.d.length c1,.slice a2 P.p.length c2,.slice a3 P.o.length c3] 34)) w.heap.size P.nm P.a P.b P.c (.slice a1 P.d.length c1) (.slice a2 P.p.length c2) (.slice a3 P.o.length c3)):=BxP.new rfl _ _ _ _ _ _ _;have HKB:Hid (KeepP fun w1=>BxP w1 w.heap.size P.nm P.a P.b P.c (.slice a1 P.d.length c1) (.slice a2 P.p.length c2) (.slice a3 P.o.length c3)):=bF _ _ _ _ _ _ _ _
 go_enter Tryz.func83,Tryz.ntmps83
 go_wp2_with (go_at_call 130;refine (HSO.out _ (aD _ _)).mono ?_;rintro e w1 ⟨rfl,ok⟩;have HO1:Hid (Below w.heap.size w w1∧BxP w1 w.heap.size P.nm P.a P.b P.c (.slice a1 P.d.length c1) (.slice a2 P.p.length c2) (.slice a3 P.o.length c3)):=⟨aB (aD _ _) ok,HKB.out _ _ HBX.out ok⟩;clear ok HBX)
 have e1:=fun W:World=>run_string_add_sum (P:=Tryz.prog) (w:=W) ⟨#[112,97,99,107,97,103,101,32]⟩ P.nm (by rw [show (⟨#[112,97,99,107,97,103,101,32]⟩:ByteArray).size=8 from rfl];omega)
 have e2:=fun W:World=>run_string_add_sum (P:=Tryz.prog) (w:=W) (⟨#[112,97,99,107,97,103,101,32]⟩++P.nm) ⟨#[32]⟩ (by rw [dF,show (⟨#[112,97,99,107,97,103,101,32]⟩:ByteArray).size=8 from rfl,show (⟨#[32]⟩:ByteArray).size=1 from rfl];omega)
 have e3:=fun W:World=>run_string_add_sum (P:=Tryz.prog) (w:=W) (⟨#[112,97,99,107,97,103,101,32]⟩++P.nm++⟨#[32]⟩) (aT P.a P.b P.c) (by rw [dF,dF,show (⟨#[112,97,99,107,97,103,101,32]⟩:ByteArray).size=8 from rfl,show (⟨#[32]⟩:ByteArray).size=1 from rfl];omega)
 have e4:=fun W:World=>run_string_add_sum (P:=Tryz.prog) (w:=W) (⟨#[112,97,99,107,97,103,101,32]⟩++P.nm++⟨#[32]⟩++aT P.a P.b P.c) ⟨#[10]⟩ (by rw [dF,dF,dF,show (⟨#[112,97,99,107,97,103,101,32]⟩:ByteArray).size=8 from rfl,show (⟨#[32]⟩:ByteArray).size=1 from rfl,show (⟨#[10]⟩:ByteArray).size=1 from rfl];omega)
 have HT0:Hid (TW w1 [] (w1.alloc (.cells #[.pointer none,.slice none 0 0] 173))):=TW.new w1;have HBP:Hid (∀ w',Below w1.heap.size w1 w'→BxP w' w.heap.size P.nm P.a P.b P.c (.slice a1 P.d.length c1) (.slice a2 P.p.length c2) (.slice a3 P.o.length c3)):=fun w' hb=>HKB.out _ _ HO1.out.2 hb
 obtain ⟨k0,k1,k2,k3,k4,k5,k6,k7⟩:=HBP.out _ HT0.out.2
 go_region_held3 (fun w'=>w'.cell? ⟨w.heap.size,0,none⟩=some (.string P.nm)∧w'.cell? ⟨w.heap.size,1,none⟩=some (.int .i64 P.a)∧w'.cell? ⟨w.heap.size,2,none⟩=some (.int .i64 P.b)∧w'.cell? ⟨w.heap.size,3,none⟩=some (.int .i64 P.c)) (go_keep)
  (first
    |(have _h:=HT0;go_at_call 132;refine (HPR.out _ (aB HO1.out.1 (aD _ _).drew)).mono ?_;rintro e w2 ⟨rfl,ok⟩;have HT2:=aA (eX _ _ _ _ ((eX _ _).drew HT0.out) ok);clear ok HT0 k0 k1 k2 k3 k4 k5 k6 k7;obtain ⟨k0,k1,k2,k3,k4,k5,k6,k7⟩:=HBP.out _ HT2.out.2)
    |(have _h:=HT2;go_at_call 131;refine (HPU.out w1 [] _ _ HT2.out (by decide) HHD.out.2).mono ?_;rintro e w3 ⟨rfl,ok,_⟩;have HT3:Hid (TW w1 (gS P 0) w3):=(by have h3:=ok;rw [HHD.out.1] at h3;exact h3);clear ok HT2 k0 k1 k2 k3 k4 k5 k6 k7;obtain ⟨k0,k1,k2,k3,k4,k5,k6,k7⟩:=HBP.out _ HT3.out.2))
 go_wp2_with (first
  |(go_at_call 133;refine (pC _).mono ?_;rintro e w3b ⟨rfl,hw3b⟩;have HT3b:Hid (TW w1 (gS P 0) w3b∧w3b.heap[w3.heap.size]? =some kX∧w1.heap.size<w3.heap.size):=(by rw [hw3b];exact ⟨eX _ _ _ _ HT3.out (aD _ _),(by show (w3.heap.push _)[w3.heap.size]? =_;rw [Array.getElem?_push,if_pos rfl];rfl),HT3.out.far⟩);clear hw3b k0 k1 k2 k3 k4 k5 k6 k7;obtain ⟨k0,k1,k2,k3,k4,k5,k6,k7⟩:=HBP.out _ HT3b.out.1.2)
  |(go_at_call 134;refine (HLI.out _).mono ?_;rintro e w4 ⟨rfl,ok⟩;have HT4:Hid (TW w1 (gS P 0) w4∧w4.heap[w3.heap.size]? =some kX∧w1.heap.size<w3.heap.size):=⟨eX _ _ _ _ HT3b.out.1 ok,(ok.block _ (Array.getElem?_eq_some_iff.1 HT3b.out.2.1).1).trans HT3b.out.2.1,HT3b.out.2.2⟩;clear ok HT3b))
 clear k0 k1 k2 k3 k4 k5 k6 k7
 go_loopw [24] (fun i wr=>∃ k:Nat,k≤3∧i= .int .i64 k∧TW w1 (gS P k) wr∧wr.heap[w3.heap.size]? =some kX∧w1.heap.size<w3.heap.size) (fun i _=>3 - (intOf i).toNat)
 case atStart=>exact ⟨0,Nat.zero_le _,rfl,HT4.out⟩
 case round=>
  obtain ⟨k,hk,rfl,htw⟩:=hrel
  rcases (show k=0∨k=1∨k=2∨k=3 by omega) with rfl|rfl|rfl|rfl
  · have HTK:=aA htw
    clear htw;have g0:wr.cell? ⟨w3.heap.size,0,none⟩=some (.string (lwK 0)):=by rw [Lib.cell_of_heap HTK.out.2.1];rfl
    have hpl:(gS P 0).length≤1000000:=by
     have h2:=HF0.out;have h3:=HF1.out;simp only [gS] at*;omega
    go_wp2_with (go_at_call 135;refine (HWR.out w1 HO1.out.1 _ _ (lwK 0) _ P.d HTK.out.1 (HPG.out w1 HO1.out.1).1 HMD.out.1 (dK 0) hpl).mono ?_;rintro e w5 ⟨rfl,ok,far⟩;have HT5:Hid (TW w1 (gS P (0+1)) w5∧w5.heap[w3.heap.size]? =some kX∧w1.heap.size<w3.heap.size):=⟨ok,far _ _ _ _ HTK.out.2.1 (by decide) (by have:=HTK.out.2.2;omega),HTK.out.2.2⟩;clear ok far)
    exact ⟨⟨0+1,by omega,rfl,HT5.out⟩,by simp [intOf]⟩
  · have HTK:=aA htw
    clear htw;have g0:wr.cell? ⟨w3.heap.size,1,none⟩=some (.string (lwK 1)):=by rw [Lib.cell_of_heap HTK.out.2.1];rfl
    have hpl:(gS P 1).length≤1000000:=by
     have h2:=HF0.out;have h3:=HF1.out;simp only [gS,List.length_append] at*;omega
    go_wp2_with (go_at_call 135;refine (HWR.out w1 HO1.out.1 _ _ (lwK 1) _ P.p HTK.out.1 (HPG.out w1 HO1.out.1).2.1 HMD.out.2.1 (dK 1) hpl).mono ?_;rintro e w5 ⟨rfl,ok,far⟩;have HT5:Hid (TW w1 (gS P (1+1)) w5∧w5.heap[w3.heap.size]? =some kX∧w1.heap.size<w3.heap.size):=⟨ok,far _ _ _ _ HTK.out.2.1 (by decide) (by have:=HTK.out.2.2;omega),HTK.out.2.2⟩;clear ok far)
    exact ⟨⟨1+1,by omega,rfl,HT5.out⟩,by simp [intOf]⟩
  · have HTK:=aA htw
    clear htw;have g0:wr.cell? ⟨w3.heap.size,2,none⟩=some (.string (lwK 2)):=by rw [Lib.cell_of_heap HTK.out.2.1];rfl
    have hpl:(gS P 2).length≤1000000:=by
     have h2:=HF0.out;have h3:=HF1.out;simp only [gS,List.length_append] at*;omega
    go_wp2_with (go_at_call 135;refine (HWR.out w1 HO1.out.1 _ _ (lwK 2) _ P.o HTK.out.1 (HPG.out w1 HO1.out.1).2.2 HMD.out.2.2 (dK 2) hpl).mono ?_;rintro e w5 ⟨rfl,ok,far⟩;have HT5:Hid (TW w1 (gS P (2+1)) w5∧w5.heap[w3.heap.size]? =some kX∧w1.heap.size<w3.heap.size):=⟨ok,far _ _ _ _ HTK.out.2.1 (by decide) (by have:=HTK.out.2.2;omega),HTK.out.2.2⟩;clear ok far)
    exact ⟨⟨2+1,by omega,rfl,HT5.out⟩,by simp [intOf]⟩
  · have HTE:=aA htw.1
    rw [HPT.out] at HTE;clear htw
    by_cases hlen:(dT P).length≤4096
    · have HR:Hid (aI P=true∧dP P=⟨(dT P).toArray⟩):=by
       have:aI P=true:=by rw [HWB.out];exact decide_eq_true hlen
       exact ⟨this,by unfold dP;rw [if_pos this]⟩
      go_wp2_with (first
       |(go_at_call 136;refine (HLE.out _ _ _ HTE.out).mono ?_;rintro e w5 ⟨rfl,rfl⟩)
       |(go_at_call 137;refine (HST.out _ _ _ HTE.out).mono ?_;rintro e w6 ⟨rfl,ok⟩;have HB6:=aA (aB HO1.out.1 (HTE.out.2.trans ok));clear ok))
      go_ret2;exact ⟨by rw [HR.out.1,HR.out.2];rfl,HB6.out⟩
    · have HR:Hid (aI P=false∧dP P=⟨#[]⟩):=by
       have:aI P=false:=by rw [HWB.out];exact decide_eq_false hlen
       exact ⟨this,by unfold dP;rw [if_neg (by rw [this];simp)]⟩
      go_wp2_with (go_at_call 136;refine (HLE.out _ _ _ HTE.out).mono ?_;rintro e w5 ⟨rfl,rfl⟩)
      go_ret2;exact ⟨by rw [HR.out.1,HR.out.2];rfl,aB HO1.out.1 HTE.out.2⟩
theorem tY {P:Pg} {v1 v2 v3:Value} {w:World} (h:PgAt w P v1 v2 v3) (he:Env w) (hf:FL w):
 Calls Tryz.prog 83 #[.agg #[.string P.nm,.int .i64 P.a,.int .i64 P.b,.int .i64 P.c,v1,v2,v3]] w fun e w'=>e= .returned (.tuple #[.string (dP P),.bool (aI P)])∧Below w.heap.size w w':=by
 cases hsd:eV P
 · have HSO:Hid (∀ w1,Below w.heap.size w w1→Calls Tryz.prog 130 #[.agg #[.string P.nm,.int .i64 P.a,.int .i64 P.b,.int .i64 P.c,v1,v2,v3]] w1 fun e w'=>e= .returned (.bool false)∧Below w1.heap.size w1 w'):=fun w1 hb=>by have:=pV (h.below hb);rw [hsd] at this;exact this
   have HR:Hid (aI P=false∧dP P=⟨#[]⟩):=by
    have:aI P=false:=by unfold aI;rw [hsd];rfl
    exact ⟨this,by unfold dP;rw [if_neg (by rw [this];simp)]⟩
   obtain ⟨a1,c1,rfl⟩:=h.1.sl;obtain ⟨a2,c2,rfl⟩:=h.2.1.sl;obtain ⟨a3,c3,rfl⟩:=h.2.2.sl;clear h he hf hsd
   go_enter Tryz.func83,Tryz.ntmps83
   go_wp2_with (go_at_call 130;refine (HSO.out _ (aD _ _)).mono ?_;rintro e w1 ⟨rfl,ok⟩;have HO1:=aA (aB (aD _ _) ok);clear ok)
   go_ret2;exact ⟨by rw [HR.out.1,HR.out.2];rfl,HO1.out⟩
 · exact pD h he hf hsd
theorem kA {P:Pg} {v1 v2 v3:Value} {w:World} (h:PgAt w P v1 v2 v3) (he:Env w) (hf:FL w):
 Calls Tryz.prog 42 #[.agg #[.string P.nm,.int .i64 P.a,.int .i64 P.b,.int .i64 P.c,v1,v2,v3]] w fun e w'=>e= .returned (.bool (aI P))∧Below w.heap.size w w':=by
 have HW:Hid (∀ w1,Below w.heap.size w w1→Calls Tryz.prog 83 #[.agg #[.string P.nm,.int .i64 P.a,.int .i64 P.b,.int .i64 P.c,v1,v2,v3]] w1 fun e w'=>e= .returned (.tuple #[.string (dP P),.bool (aI P)])∧Below w1.heap.size w1 w'):=fun w1 hb=>tY (h.below hb) (he.below hb) (hf.below hb)
 obtain ⟨a1,c1,rfl⟩:=h.1.sl;obtain ⟨a2,c2,rfl⟩:=h.2.1.sl;obtain ⟨a3,c3,rfl⟩:=h.2.2.sl;clear h he hf
 go_enter Tryz.func42,Tryz.ntmps42
 go_wp2_with (go_at_call 83;refine (HW.out _ (aD _ _)).mono ?_;rintro e w1 ⟨rfl,ok⟩;have HO1:=aA (aB (aD _ _) ok);clear ok)
 go_ret;exact ⟨rfl,HO1.out⟩
end Go.Proofs.YtpfemjlhklnfoaaGreatDoor
namespace Go.Proofs.YtpfemjlhklnfoaaGreatDoor
open Go.RowKit Go.Maps Go.WideMaps
set_option maxRecDepth 100000
structure CV where
 pg:Pg
 u1:Value
 u2:Value
 u3:Value
def gT (x:CV):Lit:=gP x.pg.nm x.pg.a x.pg.b x.pg.c
def cvV (x:CV):Value:= .agg #[.string x.pg.nm,.int .i64 x.pg.a,.int .i64 x.pg.b,.int .i64 x.pg.c,x.u1,x.u2,x.u3]
def cvE (x:CV):Lit×DataW Value:=(gT x,.held (cvV x))
def bQ (s:ByteArray) (a b c:Int):Prop:=s.size≤maxLen∧I64 a∧I64 b∧I64 c
def eC (s:ByteArray) (a b c:Int) (x:CV):Bool:=decide (x.pg.nm=s∧x.pg.a=a∧x.pg.b=b∧x.pg.c=c)
def bJ (L:List CV) (s:ByteArray) (a b c:Int):Option CV:=L.find? (eC s a b c)
theorem EX {s s':ByteArray} {a b c a' b' c':Int} (h:bQ s a b c) (h':bQ s' a' b' c'):(gP s' a' b' c').sameKey (gP s a b c)=decide (s'=s∧a'=a∧b'=b∧c'=c):=by
 by_cases e:s'=s∧a'=a∧b'=b∧c'=c
 · obtain ⟨rfl,rfl,rfl,rfl⟩:=e
   simp [gP,Lit.sameKey]
 · rw [decide_eq_false e]
   have hne:gP s' a' b' c'≠gP s a b c:=fun q=>e (tN h'.1 h'.2.1 h'.2.2.1 h'.2.2.2 h.1 h.2.1 h.2.2.1 h.2.2.2 q)
   simp only [gP,Lit.sameKey];rw [beq_eq_false_iff_ne];exact fun q=>hne (by unfold gP;rw [q])
theorem rU {L:List CV} (hL:∀ x ∈ L,bQ x.pg.nm x.pg.a x.pg.b x.pg.c) {s:ByteArray} {a b c:Int} (h:bQ s a b c):∀ x ∈ L,(gT x).sameKey (gP s a b c)=eC s a b c x:=fun x hx=>EX h (hL x hx)
theorem nR {α:Type} {p q:α→Bool}:∀ {l:List α},(∀ x ∈ l,p x=q x)→l.find? p=l.find? q
 |[],_=>rfl
 |x::r,h=>by
  rw [List.find?_cons,List.find?_cons,h x List.mem_cons_self,nR fun y hy=>h y (List.mem_cons_of_mem _ hy)]
theorem pX {α:Type} {p q:α→Bool}:∀ {l:List α},(∀ x ∈ l,p x=q x)→l.any p=l.any q
 |[],_=>rfl
 |x::r,h=>by
  rw [List.any_cons,List.any_cons,h x List.mem_cons_self,pX fun y hy=>h y (List.mem_cons_of_mem _ hy)]
theorem MN {L:List CV} (hL:∀ x ∈ L,bQ x.pg.nm x.pg.a x.pg.b x.pg.c) {s:ByteArray} {a b c:Int} (h:bQ s a b c):Maps.has (.map (L.map cvE)) (gP s a b c)=(bJ L s a b c).isSome:=by
 rw [Maps.has_eq,List.any_map,bJ,List.isSome_find?];exact pX (fun x hx=>rU hL h x hx)
theorem MO {L:List CV} (hL:∀ x ∈ L,bQ x.pg.nm x.pg.a x.pg.b x.pg.c) {s:ByteArray} {a b c:Int} (h:bQ s a b c) (z:DataW Value):(DataW.map (L.map cvE)).atKey (gP s a b c) z=match bJ L s a b c with
 |some x=> .held (cvV x)
 |none=>z:=by
 have e:(L.map cvE).find? (fun p=>p.1.sameKey (gP s a b c))=(bJ L s a b c).map cvE:=by
  rw [List.find?_map,bJ];exact congrArg (Option.map cvE) (nR fun x hx=>rU hL h x hx)
 unfold DataW.atKey;simp only [e];cases bJ L s a b c<;>rfl
theorem pY (x:CV):∀ L:List CV,∃ L':List CV,DataW.insert (cvE x) (L.map cvE)=L'.map cvE∧L'.Perm (x::L)
 |[]=>⟨[x],rfl,List.Perm.refl _⟩
 |y::r=>by
  by_cases hb:(cvE x).1.before (cvE y).1=true
  · exact ⟨x::y::r,by rw [List.map_cons,DataW.insert,if_pos hb];rfl,List.Perm.refl _⟩
  · obtain ⟨L',h1,h2⟩:=pY x r
    refine ⟨y::L',?_,(List.Perm.cons y h2).trans (List.Perm.swap x y r)⟩;rw [List.map_cons,DataW.insert,if_neg hb,h1,List.map_cons]
theorem MP {L:List CV} (hL:∀ x ∈ L,bQ x.pg.nm x.pg.a x.pg.b x.pg.c) {x:CV} (h:bQ x.pg.nm x.pg.a x.pg.b x.pg.c) (hn:bJ L x.pg.nm x.pg.a x.pg.b x.pg.c=none):∃ L':List CV,(DataW.map (L.map cvE)).put (gT x) (.held (cvV x))= .map (L'.map cvE)∧L'.Perm (x::L):=by
 have e:(L.map cvE).filter (fun p=> !p.1.sameKey (gT x))=L.map cvE:=List.filter_eq_self.2 fun p hp=>by
  obtain ⟨y,hy,rfl⟩:=List.mem_map.1 hp;have q:=rU hL h y hy
  have r:eC x.pg.nm x.pg.a x.pg.b x.pg.c y=false:=by
   have:=List.find?_eq_none.1 hn y hy
   simpa using this
  show (!(gT y).sameKey (gP x.pg.nm x.pg.a x.pg.b x.pg.c))=true;rw [q,r];rfl
 obtain ⟨L',h1,h2⟩:=pY x L;refine ⟨L',?_,h2⟩;show DataW.map (DataW.insert (gT x,.held (cvV x)) ((L.map cvE).filter fun p=> !p.1.sameKey (gT x)))=_;rw [e];exact congrArg DataW.map h1
def CatAt (w:World) (B C M:Nat) (L:List CV):Prop:=(w.cell? ⟨C,0,none⟩=some (.map (some M))∧C<w.heap.size∧M≠C)∧w.ownsMap Tryz.prog 80 eU M L.length (.map (L.map cvE))∧(∀ x ∈ L,(OwnG w B x.pg x.u1 x.u2 x.u3∧aI x.pg=true)∧bQ x.pg.nm x.pg.a x.pg.b x.pg.c∧SmP x.pg)∧L.Pairwise fun x y=>gT x≠gT y
theorem nS {w w':World} {M n:Nat} {D:DataW Value} (h:w.ownsMap Tryz.prog 80 eU M n D) (hb:Below w.heap.size w w'):w'.ownsMap Tryz.prog 80 eU M n D:=by
 have hM:=h.lt;obtain ⟨es,cl,h1,r⟩:=h;exact ⟨es,cl,(hb.block M hM).trans h1,r⟩
theorem CatAt.below {w w':World} {B C M:Nat} {L:List CV} (h:CatAt w B C M L) (hb:Below w.heap.size w w'):CatAt w' B C M L:=by
 obtain ⟨⟨h1,h2,h3⟩,h4,h5,h6⟩:=h;exact ⟨⟨(hb.cell (p:=⟨C,0,none⟩) h2).trans h1,Nat.lt_of_lt_of_le h2 hb.size,h3⟩,nS h4 hb,fun x hx=>⟨⟨(h5 x hx).1.1.below hb,(h5 x hx).1.2⟩,(h5 x hx).2⟩,h6⟩
theorem CatAt.new (w:World) (B:Nat):CatAt ((w.alloc (.map #[] 0)).alloc (.cells #[.map (some w.heap.size)] 83)) B (w.heap.size+1) w.heap.size []:=by
 refine ⟨⟨?_,?_,by omega⟩,(World.ownsMap_made (H:=Value) w Tryz.prog 80 eU).alloc _,fun x hx=>(by cases hx),List.Pairwise.nil⟩
 · have:(w.alloc (.map #[] 0)).heap.size=w.heap.size+1:=by simp
   rw [←this]
   simp
 · simp
theorem CatAt.find {w:World} {B C M:Nat} {L:List CV} (h:CatAt w B C M L) {s:ByteArray} {a b c:Int} {x:CV} (hx:bJ L s a b c=some x):x ∈ L∧x.pg.nm=s∧x.pg.a=a∧x.pg.b=b∧x.pg.c=c∧OwnG w B x.pg x.u1 x.u2 x.u3∧aI x.pg=true∧SmP x.pg:=by
 have hm:=List.mem_of_find?_eq_some hx;have hp:=List.find?_some hx;have hq:x.pg.nm=s∧x.pg.a=a∧x.pg.b=b∧x.pg.c=c:=of_decide_eq_true hp;exact ⟨hm,hq.1,hq.2.1,hq.2.2.1,hq.2.2.2,(h.2.2.1 x hm).1.1,(h.2.2.1 x hm).1.2,(h.2.2.1 x hm).2.2⟩
def zPg:Value:= .agg #[.string ByteArray.empty,.int .i64 0,.int .i64 0,.int .i64 0,.slice none 0 0,.slice none 0 0,.slice none 0 0]
def iM (L:List CV) (s:ByteArray) (a b c:Int):Value:=match bJ L s a b c with
 |some x=>cvV x
 |none=>zPg
theorem CatAt.keys {w:World} {B C M:Nat} {L:List CV} (h:CatAt w B C M L):∀ x ∈ L,bQ x.pg.nm x.pg.a x.pg.b x.pg.c:=fun x hx=>(h.2.2.1 x hx).2.1
theorem eY {w:World} {B C M:Nat} {L:List CV} (h:CatAt w B C M L) {s:ByteArray} {a b c:Int} (hk:bQ s a b c):(Instr.lookup 81 (.map (some M)) (tK s a b c) true).run Tryz.prog w= .ok (.tuple #[iM L s a b c,.bool (bJ L s a b c).isSome]) w:=by
 obtain ⟨v,ps,h1,h2⟩:=h.2.1.look_ok nI Tryz.underlying81 (MJ w) (zd:= .held zPg) (zp:=[]) rfl (iE hk.1 hk.2.1 hk.2.2.1 hk.2.2.2);rw [MN h.keys hk] at h1;rw [MO h.keys hk] at h2
 have e:v=iM L s a b c:=by
  unfold iM;cases hc:bJ L s a b c with
  |none=>rw [hc] at h2;exact fP h2
  |some x=>rw [hc] at h2;exact fP h2
 rw [h1,e]
theorem JQ {w:World} {B C M:Nat} {L:List CV} (h:CatAt w B C M L):∃ es cl,w.heap[M]? =some (.map es cl)∧es.size=L.length:=by
 obtain ⟨es,cl,h1,h2,h3,h4⟩:=h.2.1;refine ⟨es,cl,h1,?_⟩;injection h4 with h4
 have:=congrArg List.length h4
 rw [List.length_map,length_sorted,List.length_map,Array.length_toList] at this;exact this.symm
set_option maxHeartbeats 3200000 in
theorem tZ {w:World} {B C M:Nat} {L:List CV} (h:CatAt w B C M L) {s:ByteArray} {a b c:Int} (hk:bQ s a b c) (hx:bJ L s a b c=none):Calls Tryz.prog 15 #[.pointer (some ⟨C,0,none⟩),.string s,.agg #[.int .i64 a,.int .i64 b,.int .i64 c]] w fun e w'=>e= .returned (.tuple #[zPg,.bool false])∧Below w.heap.size w w':=by
 have HW:Hid (Below w.heap.size w ((w.alloc (.cells #[.int .i64 a,.int .i64 b,.int .i64 c] 31)).alloc (.cells #[.string ⟨#[]⟩,.int .i64 0,.int .i64 0,.int .i64 0,.slice none 0 0,.slice none 0 0,.slice none 0 0] 34))):=aR _ _ _;have HC:=aA (h.below HW.out);have c0:((w.alloc (.cells #[.int .i64 a,.int .i64 b,.int .i64 c] 31)).alloc (.cells #[.string ⟨#[]⟩,.int .i64 0,.int .i64 0,.int .i64 0,.slice none 0 0,.slice none 0 0,.slice none 0 0] 34)).cell? ⟨w.heap.size,0,none⟩=some (.int .i64 a):=by simp
 have c1:((w.alloc (.cells #[.int .i64 a,.int .i64 b,.int .i64 c] 31)).alloc (.cells #[.string ⟨#[]⟩,.int .i64 0,.int .i64 0,.int .i64 0,.slice none 0 0,.slice none 0 0,.slice none 0 0] 34)).cell? ⟨w.heap.size,1,none⟩=some (.int .i64 b):=by simp
 have c2:((w.alloc (.cells #[.int .i64 a,.int .i64 b,.int .i64 c] 31)).alloc (.cells #[.string ⟨#[]⟩,.int .i64 0,.int .i64 0,.int .i64 0,.slice none 0 0,.slice none 0 0,.slice none 0 0] 34)).cell? ⟨w.heap.size,2,none⟩=some (.int .i64 c):=by simp
 have BR:=aA (BxPF.new (w:=w.alloc (.cells #[.int .i64 a,.int .i64 b,.int .i64 c] 31)) (N:=w.heap.size+1) (by simp) ⟨#[]⟩ 0 0 0 (.slice none 0 0) (.slice none 0 0) (.slice none 0 0));have hlt:w.heap.size<((w.alloc (.cells #[.int .i64 a,.int .i64 b,.int .i64 c] 31)).alloc (.cells #[.string ⟨#[]⟩,.int .i64 0,.int .i64 0,.int .i64 0,.slice none 0 0,.slice none 0 0,.slice none 0 0] 34)).heap.size:=by simp;omega
 have HFIN:Hid (∀ W2,Below ((w.alloc (.cells #[.int .i64 a,.int .i64 b,.int .i64 c] 31)).alloc (.cells #[.string ⟨#[]⟩,.int .i64 0,.int .i64 0,.int .i64 0,.slice none 0 0,.slice none 0 0,.slice none 0 0] 34)).heap.size ((w.alloc (.cells #[.int .i64 a,.int .i64 b,.int .i64 c] 31)).alloc (.cells #[.string ⟨#[]⟩,.int .i64 0,.int .i64 0,.int .i64 0,.slice none 0 0,.slice none 0 0,.slice none 0 0] 34)) W2→∀ u0 u1 u2 u3 u4 u5 u6,Ending.returned (.tuple #[.agg #[.string ByteArray.empty,.int .i64 0,.int .i64 0,.int .i64 0,.slice none 0 0,.slice none 0 0,.slice none 0 0],.bool false])= .returned (.tuple #[zPg,.bool false])∧Below w.heap.size w (((((((W2.setCell ⟨w.heap.size+1,0,none⟩ u0).setCell ⟨w.heap.size+1,1,none⟩ u1).setCell ⟨w.heap.size+1,2,none⟩ u2).setCell ⟨w.heap.size+1,3,none⟩ u3).setCell ⟨w.heap.size+1,4,none⟩ u4).setCell ⟨w.heap.size+1,5,none⟩ u5).setCell ⟨w.heap.size+1,6,none⟩ u6)):=fun W2 hb u0 u1 u2 u3 u4 u5 u6=>⟨rfl,dM (by omega) (aB HW.out hb)⟩
 go_enter Tryz.func15,Tryz.ntmps15
 go_wp2_with fail
 generalize ((w.alloc (.cells #[.int .i64 a,.int .i64 b,.int .i64 c] 31)).alloc (.cells #[.string ⟨#[]⟩,.int .i64 0,.int .i64 0,.int .i64 0,.slice none 0 0,.slice none 0 0,.slice none 0 0] 34))=W at*;obtain ⟨⟨k0,k1,k2⟩,_⟩:=HC.out;have l1:=eY (HC.out.below (Below.refl _ _).drew) hk;have l2:=eY ((HC.out.below (aD W (.cells #[.string ⟨#[]⟩,.int .i64 0,.int .i64 0,.int .i64 0,.slice none 0 0,.slice none 0 0,.slice none 0 0] 34))).below (Below.refl _ _).drew) hk;rw [iM,hx,tK] at l1 l2;simp only [Option.isSome,zPg] at l1 l2;have e0:=((aD W (.cells #[.string ⟨#[]⟩,.int .i64 0,.int .i64 0,.int .i64 0,.slice none 0 0,.slice none 0 0,.slice none 0 0] 34)).cell (p:=⟨w.heap.size,0,none⟩) hlt).trans c0;have e1:=((aD W (.cells #[.string ⟨#[]⟩,.int .i64 0,.int .i64 0,.int .i64 0,.slice none 0 0,.slice none 0 0,.slice none 0 0] 34)).cell (p:=⟨w.heap.size,1,none⟩) hlt).trans c1
 have e2:=((aD W (.cells #[.string ⟨#[]⟩,.int .i64 0,.int .i64 0,.int .i64 0,.slice none 0 0,.slice none 0 0,.slice none 0 0] 34)).cell (p:=⟨w.heap.size,2,none⟩) hlt).trans c2;have e3:=((aD W (.cells #[.string ⟨#[]⟩,.int .i64 0,.int .i64 0,.int .i64 0,.slice none 0 0,.slice none 0 0,.slice none 0 0] 34)).cell (p:=⟨C,0,none⟩) k1).trans k0
 go_region
 all_goals have HB2:Hid (Below W.heap.size W (W.alloc (.cells #[.string ByteArray.empty,.int .i64 0,.int .i64 0,.int .i64 0,.slice none 0 0,.slice none 0 0,.slice none 0 0] 34)).drew):=(aD _ _).drew
 all_goals generalize (W.alloc (.cells #[.string ByteArray.empty,.int .i64 0,.int .i64 0,.int .i64 0,.slice none 0 0,.slice none 0 0,.slice none 0 0] 34)).drew=W2 at*
 all_goals clear l1 l2 e0 e1 e2 e3 c0 c1 c2
 all_goals obtain ⟨⟨r0,r1,r2,r3,r4,r5,r6,r7⟩,hfz⟩:=cV _ _ _ _ _ _ _ _ _ _ BR.out HB2.out
 all_goals have f0:=hfz 0 (by decide)
 all_goals have f1:=hfz 1 (by decide)
 all_goals have f2:=hfz 2 (by decide)
 all_goals have f3:=hfz 3 (by decide)
 all_goals have f4:=hfz 4 (by decide)
 all_goals have f5:=hfz 5 (by decide)
 all_goals have f6:=hfz 6 (by decide)
 all_goals clear hfz
 all_goals have s7:=fun u0 u1 u2 u3 u4 u5 u6=>ET r0 r1 r2 r3 r4 r5 r6 u0 u1 u2 u3 u4 u5 u6
 all_goals go_wp2
 all_goals try simp only [Exit.inBlock,Exit.then]
 all_goals refine bodyPost_ret (by simp [results,Tryz.results15,s7,go_sem];try rfl) rfl ?_
 all_goals exact HFIN.out _ HB2.out _ _ _ _ _ _ _
theorem kB {w:World} {B:Nat} {P:Pg} {v1 v2 v3:Value} (h:OwnG w B P v1 v2 v3):∃ a n c,v1= .slice a n c:=by
 obtain ⟨q1,q2,q3,⟨d1,_⟩,_⟩:=h;obtain ⟨a,c,e⟩:=d1.len;exact ⟨a,_,c,e⟩
theorem mH {w:World} {B:Nat} {P:Pg} {v1 v2 v3:Value} (h:OwnG w B P v1 v2 v3):∃ a n c,v2= .slice a n c:=by
 obtain ⟨q1,q2,q3,_,⟨d1,_⟩,_⟩:=h;obtain ⟨a,c,e⟩:=d1.len;exact ⟨a,_,c,e⟩
theorem kC {w:World} {B:Nat} {P:Pg} {v1 v2 v3:Value} (h:OwnG w B P v1 v2 v3):∃ a n c,v3= .slice a n c:=by
 obtain ⟨q1,q2,q3,_,_,d1,_⟩:=h;obtain ⟨a,c,e⟩:=d1.len;exact ⟨a,_,c,e⟩
theorem OwnG.base {w:World} {B B':Nat} {P:Pg} {v1 v2 v3:Value} (h:OwnG w B P v1 v2 v3) (hB:B'≤B):OwnG w B' P v1 v2 v3:=by
 obtain ⟨q1,q2,q3,⟨d1,m1⟩,⟨d2,m2⟩,d3,m3⟩:=h;exact ⟨q1,q2,q3,⟨d1.base hB,m1⟩,⟨d2.base hB,m2⟩,d3.base hB,m3⟩
set_option maxHeartbeats 3200000 in
theorem uA {w:World} {B C M:Nat} {L:List CV} (h:CatAt w B C M L) {P:Pg} {v1 v2 v3:Value} (hx:bJ L P.nm P.a P.b P.c=some ⟨P,v1,v2,v3⟩):Calls Tryz.prog 15 #[.pointer (some ⟨C,0,none⟩),.string P.nm,.agg #[.int .i64 P.a,.int .i64 P.b,.int .i64 P.c]] w fun e w'=>∃ u1 u2 u3,e= .returned (.tuple #[.agg #[.string P.nm,.int .i64 P.a,.int .i64 P.b,.int .i64 P.c,u1,u2,u3],.bool true])∧OwnG w' w.heap.size P u1 u2 u3∧Below w.heap.size w w':=by
 have hk:bQ P.nm P.a P.b P.c:=h.keys _ (h.find hx).1;have HF:=aA (h.find hx);have HOG:=aA HF.out.2.2.2.2.2.1;have HSM:=aA HF.out.2.2.2.2.2.2.2;obtain ⟨a1,n1,c1,rfl⟩:=kB HOG.out;obtain ⟨a2,n2,c2,rfl⟩:=mH HOG.out;obtain ⟨a3,n3,c3,rfl⟩:=kC HOG.out;have HW:Hid (Below w.heap.size w ((w.alloc (.cells #[.int .i64 P.a,.int .i64 P.b,.int .i64 P.c] 31)).alloc (.cells #[.string ⟨#[]⟩,.int .i64 0,.int .i64 0,.int .i64 0,.slice none 0 0,.slice none 0 0,.slice none 0 0] 34))):=aR _ _ _;have HC:=aA (h.below HW.out);have c0:((w.alloc (.cells #[.int .i64 P.a,.int .i64 P.b,.int .i64 P.c] 31)).alloc (.cells #[.string ⟨#[]⟩,.int .i64 0,.int .i64 0,.int .i64 0,.slice none 0 0,.slice none 0 0,.slice none 0 0] 34)).cell? ⟨w.heap.size,0,none⟩=some (.int .i64 P.a):=by simp
 have c1':((w.alloc (.cells #[.int .i64 P.a,.int .i64 P.b,.int .i64 P.c] 31)).alloc (.cells #[.string ⟨#[]⟩,.int .i64 0,.int .i64 0,.int .i64 0,.slice none 0 0,.slice none 0 0,.slice none 0 0] 34)).cell? ⟨w.heap.size,1,none⟩=some (.int .i64 P.b):=by simp
 have c2':((w.alloc (.cells #[.int .i64 P.a,.int .i64 P.b,.int .i64 P.c] 31)).alloc (.cells #[.string ⟨#[]⟩,.int .i64 0,.int .i64 0,.int .i64 0,.slice none 0 0,.slice none 0 0,.slice none 0 0] 34)).cell? ⟨w.heap.size,2,none⟩=some (.int .i64 P.c):=by simp
 have BR:=aA (BxPF.new (w:=w.alloc (.cells #[.int .i64 P.a,.int .i64 P.b,.int .i64 P.c] 31)) (N:=w.heap.size+1) (by simp) ⟨#[]⟩ 0 0 0 (.slice none 0 0) (.slice none 0 0) (.slice none 0 0));have hlt:w.heap.size<((w.alloc (.cells #[.int .i64 P.a,.int .i64 P.b,.int .i64 P.c] 31)).alloc (.cells #[.string ⟨#[]⟩,.int .i64 0,.int .i64 0,.int .i64 0,.slice none 0 0,.slice none 0 0,.slice none 0 0] 34)).heap.size:=by simp;omega
 have hsz:Hid (((w.alloc (.cells #[.int .i64 P.a,.int .i64 P.b,.int .i64 P.c] 31)).alloc (.cells #[.string ⟨#[]⟩,.int .i64 0,.int .i64 0,.int .i64 0,.slice none 0 0,.slice none 0 0,.slice none 0 0] 34)).heap.size=w.heap.size+2):=by unfold Hid;simp
 have HCP:Hid (∀ W2,Below w.heap.size w W2→Calls Tryz.prog 44 #[.agg #[.string P.nm,.int .i64 P.a,.int .i64 P.b,.int .i64 P.c,.slice a1 n1 c1,.slice a2 n2 c2,.slice a3 n3 c3]] W2 fun e w'=>∃ u1 u2 u3,e= .returned (.agg #[.string P.nm,.int .i64 P.a,.int .i64 P.b,.int .i64 P.c,u1,u2,u3])∧OwnG w' W2.heap.size P u1 u2 u3∧Below W2.heap.size W2 w'):=fun W2 hb=>nJ (HOG.out.below hb).at HSM.out
 have HFIN:Hid (∀ W3 x1 y1 z1 x2 y2 z2 x3 y3 z3,OwnG W3 (w.heap.size+2) P (.slice x1 y1 z1) (.slice x2 y2 z2) (.slice x3 y3 z3)→Below w.heap.size w W3→∀ t0 t1 t2 t3 t4 t5 t6,∃ u1 u2 u3,Ending.returned (.tuple #[.agg #[.string P.nm,.int .i64 P.a,.int .i64 P.b,.int .i64 P.c,.slice x1 y1 z1,.slice x2 y2 z2,.slice x3 y3 z3],.bool true])= .returned (.tuple #[.agg #[.string P.nm,.int .i64 P.a,.int .i64 P.b,.int .i64 P.c,u1,u2,u3],.bool true])∧OwnG (((((((W3.setCell ⟨w.heap.size+1,0,none⟩ t0).setCell ⟨w.heap.size+1,1,none⟩ t1).setCell ⟨w.heap.size+1,2,none⟩ t2).setCell ⟨w.heap.size+1,3,none⟩ t3).setCell ⟨w.heap.size+1,4,none⟩ t4).setCell ⟨w.heap.size+1,5,none⟩ t5).setCell ⟨w.heap.size+1,6,none⟩ t6) w.heap.size P u1 u2 u3∧Below w.heap.size w (((((((W3.setCell ⟨w.heap.size+1,0,none⟩ t0).setCell ⟨w.heap.size+1,1,none⟩ t1).setCell ⟨w.heap.size+1,2,none⟩ t2).setCell ⟨w.heap.size+1,3,none⟩ t3).setCell ⟨w.heap.size+1,4,none⟩ t4).setCell ⟨w.heap.size+1,5,none⟩ t5).setCell ⟨w.heap.size+1,6,none⟩ t6)):=fun W3 x1 y1 z1 x2 y2 z2 x3 y3 z3 ho hb t0 t1 t2 t3 t4 t5 t6=>⟨_,_,_,rfl,by
  obtain ⟨q1,q2,q3,⟨d1,m1⟩,⟨d2,m2⟩,d3,m3⟩:=ho;exact ⟨q1,q2,q3,⟨(d1.of fun g hg _=>pR (by omega)).base (by omega),m1⟩,⟨(d2.of fun g hg _=>pR (by omega)).base (by omega),m2⟩,(d3.of fun g hg _=>pR (by omega)).base (by omega),m3⟩,dM (by omega) hb⟩
 clear h
 go_enter Tryz.func15,Tryz.ntmps15
 go_wp2_with fail
 generalize ((w.alloc (.cells #[.int .i64 P.a,.int .i64 P.b,.int .i64 P.c] 31)).alloc (.cells #[.string ⟨#[]⟩,.int .i64 0,.int .i64 0,.int .i64 0,.slice none 0 0,.slice none 0 0,.slice none 0 0] 34))=W at*;obtain ⟨⟨k0,k1,k2⟩,_⟩:=HC.out;have l1:=eY (HC.out.below (Below.refl _ _).drew) hk;have l2:=eY ((HC.out.below (aD W (.cells #[.string ⟨#[]⟩,.int .i64 0,.int .i64 0,.int .i64 0,.slice none 0 0,.slice none 0 0,.slice none 0 0] 34))).below (Below.refl _ _).drew) hk;rw [iM,hx,tK] at l1 l2;simp only [Option.isSome,cvV] at l1 l2;have e0:=((aD W (.cells #[.string ⟨#[]⟩,.int .i64 0,.int .i64 0,.int .i64 0,.slice none 0 0,.slice none 0 0,.slice none 0 0] 34)).cell (p:=⟨w.heap.size,0,none⟩) hlt).trans c0;have e1:=((aD W (.cells #[.string ⟨#[]⟩,.int .i64 0,.int .i64 0,.int .i64 0,.slice none 0 0,.slice none 0 0,.slice none 0 0] 34)).cell (p:=⟨w.heap.size,1,none⟩) hlt).trans c1'
 have e2:=((aD W (.cells #[.string ⟨#[]⟩,.int .i64 0,.int .i64 0,.int .i64 0,.slice none 0 0,.slice none 0 0,.slice none 0 0] 34)).cell (p:=⟨w.heap.size,2,none⟩) hlt).trans c2';have e3:=((aD W (.cells #[.string ⟨#[]⟩,.int .i64 0,.int .i64 0,.int .i64 0,.slice none 0 0,.slice none 0 0,.slice none 0 0] 34)).cell (p:=⟨C,0,none⟩) k1).trans k0;clear hx
 go_region
 all_goals have HB2:Hid (Below W.heap.size W (W.alloc (.cells #[.string P.nm,.int .i64 P.a,.int .i64 P.b,.int .i64 P.c,.slice a1 n1 c1,.slice a2 n2 c2,.slice a3 n3 c3] 34)).drew):=(aD _ _).drew
 all_goals have HBX:Hid (BxP (W.alloc (.cells #[.string P.nm,.int .i64 P.a,.int .i64 P.b,.int .i64 P.c,.slice a1 n1 c1,.slice a2 n2 c2,.slice a3 n3 c3] 34)).drew W.heap.size P.nm P.a P.b P.c (.slice a1 n1 c1) (.slice a2 n2 c2) (.slice a3 n3 c3)):=bF _ _ _ _ _ _ _ _ _ _ (BxP.new rfl _ _ _ _ _ _ _) (Below.refl _ _).drew
 all_goals generalize (W.alloc (.cells #[.string P.nm,.int .i64 P.a,.int .i64 P.b,.int .i64 P.c,.slice a1 n1 c1,.slice a2 n2 c2,.slice a3 n3 c3] 34)).drew=W2 at*
 all_goals clear l1 l2 e0 e1 e2 e3 c0 c1' c2'
 all_goals obtain ⟨b0,b1,b2,b3,b4,b5,b6,b7⟩:=HBX.out
 all_goals go_wp2_with (go_at_call 44;refine (HCP.out W2 (aB HW.out HB2.out)).mono ?_;rintro e W3 ⟨u1,u2,u3,rfl,ho,hb3⟩;obtain ⟨x1,y1,z1,rfl⟩:∃ a n c,u1= .slice a n c:=kB ho;obtain ⟨x2,y2,z2,rfl⟩:∃ a n c,u2= .slice a n c:=mH ho;obtain ⟨x3,y3,z3,rfl⟩:∃ a n c,u3= .slice a n c:=kC ho;have HO3:Hid (OwnG W3 (w.heap.size+2) P (.slice x1 y1 z1) (.slice x2 y2 z2) (.slice x3 y3 z3)):=ho.base (hsz.out ▸ HB2.out.size);have HB3:Hid (Below w.heap.size w W3):=aB (aB HW.out HB2.out) hb3;obtain ⟨⟨r0,r1,r2,r3,r4,r5,r6,r7⟩,hfz⟩:=cV _ _ _ _ _ _ _ _ _ _ (cV _ _ _ _ _ _ _ _ _ _ BR.out HB2.out) hb3;have f0:=hfz 0 (by decide);have f1:=hfz 1 (by decide);have f2:=hfz 2 (by decide);have f3:=hfz 3 (by decide);have f4:=hfz 4 (by decide);have f5:=hfz 5 (by decide);have f6:=hfz 6 (by decide);clear hfz ho hb3;have s7:=fun u0 u1 u2 u3 u4 u5 u6=>ET r0 r1 r2 r3 r4 r5 r6 u0 u1 u2 u3 u4 u5 u6)
 all_goals try simp only [Exit.inBlock,Exit.then]
 all_goals refine bodyPost_ret (by simp [results,Tryz.results15,s7,go_sem];try rfl) rfl ?_
 all_goals exact HFIN.out _ _ _ _ _ _ _ _ _ _ HO3.out HB3.out _ _ _ _ _ _ _
end Go.Proofs.YtpfemjlhklnfoaaGreatDoor
