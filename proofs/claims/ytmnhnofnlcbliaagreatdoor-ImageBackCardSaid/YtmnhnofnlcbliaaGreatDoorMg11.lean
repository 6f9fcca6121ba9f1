/- Ps3, Tw6, Tw7, Tc1: their declarations that are needed, laid in one text, remarks and blanks left out. -/
import Derived.Test.YtmnhnofnlcbliaaGreatDoorMg10
namespace Go.Proofs.YtmnhnofnlcbliaaGreatDoor
open Go.RowKit
set_option maxRecDepth 100000
def lwK:Nat→ByteArray
 |0=>⟨#[110,101,101,100,115]⟩
 |1=>⟨#[98,101,115,105,100,101]⟩
 |_=>⟨#[108,105,107,101,115]⟩
theorem nG (k:Nat):(lwK k).size≤16:=by
 match k with
 |0|1=>decide
 |_+2=>show (⟨#[108,105,107,101,115]⟩:ByteArray).size≤16;decide
def kQ (P:Pg):Sc.Bs:=iE ⟨#[112,97,99,107,97,103,101]⟩ P.nm (aL P.a P.b P.c)++(bQ (lwK 0) P.d++(bQ (lwK 1) P.p++bQ (lwK 2) P.o))
noncomputable def aU (P:Pg):Bool:=gV P&&decide ((kQ P).length≤4096)
noncomputable def bA (P:Pg):ByteArray:=if aU P=true then ⟨(kQ P).toArray⟩ else ⟨#[]⟩
def rR:Obj:= .cells #[.string (lwK 0),.string (lwK 1),.string (lwK 2)] 9 (0,0)
theorem kC (w:World):Calls Tryz.prog 175 #[] w fun e w'=>e= .returned (.slice (some ⟨w.heap.size,0,none⟩) 3 3)∧w'=w.alloc (.cells #[.string (lwK 0),.string (lwK 1),.string (lwK 2)] 9):=by
 go_enter Tryz.func175,Tryz.ntmps175
 go_wp2
 go_ret;exact ⟨rfl,rfl⟩
theorem cG (a b:ByteArray):(a++b).data.toList=a.data.toList++b.data.toList:=by simp
theorem bP (a b:ByteArray):(a++b).size=a.size+b.size:=by simp
def mO (P:Pg):Nat→Sc.Bs
 |0=>iE ⟨#[112,97,99,107,97,103,101]⟩ P.nm (aL P.a P.b P.c)
 |1=>iE ⟨#[112,97,99,107,97,103,101]⟩ P.nm (aL P.a P.b P.c)++bQ (lwK 0) P.d
 |2=>iE ⟨#[112,97,99,107,97,103,101]⟩ P.nm (aL P.a P.b P.c)++bQ (lwK 0) P.d++bQ (lwK 1) P.p
 |_=>iE ⟨#[112,97,99,107,97,103,101]⟩ P.nm (aL P.a P.b P.c)++bQ (lwK 0) P.d++bQ (lwK 1) P.p++bQ (lwK 2) P.o
theorem SW (P:Pg):mO P 3=kQ P:=by unfold mO kQ;simp
set_option maxHeartbeats 6400000 in
theorem yI {P:Pg} {v1 v2 v3:Value} {w:World} (h:PgAt w P v1 v2 v3) (he:Env w) (hf:FL w) (hsd:gV P=true):
 Calls Tryz.prog 128 #[.agg #[.string P.nm,.int .i64 P.a,.int .i64 P.b,.int .i64 P.c,v1,v2,v3]] w fun e w'=>e= .returned (.tuple #[.string (bA P),.bool (aU P)])∧Below w.heap.size w w':=by
 have HSO:Hid (∀ w1,Below w.heap.size w w1→Calls Tryz.prog 174 #[.agg #[.string P.nm,.int .i64 P.a,.int .i64 P.b,.int .i64 P.c,v1,v2,v3]] w1 fun e w'=>e= .returned (.bool true)∧Below w1.heap.size w1 w'):=fun w1 hb=>by have:=zS (h.below hb);rw [hsd] at this;exact this
 have hs:=hsd;unfold gV at hs;simp only [Bool.and_eq_true] at hs;obtain ⟨⟨⟨hnm,hmv⟩,hd,hp,ho⟩,_⟩:=hs;have hnz:P.nm.size≤16:=by unfold Sc.aK at hnm;rw [Bool.and_eq_true,decide_eq_true_eq,aI] at hnm;exact hnm.2
 have hvz:=eV P.a P.b P.c;have HPR:Hid (∀ w1,Below w.heap.size w w1→Calls Tryz.prog 125 #[.agg #[.int .i64 P.a,.int .i64 P.b,.int .i64 P.c]] w1 fun e w'=>e= .returned (.string (aL P.a P.b P.c))∧Below w1.heap.size w1 w'):=fun w1 hb=>mI he.tab _ _ _ w1 hb
 have HPG:Hid (∀ w1,Below w.heap.size w w1→PgAt w1 P v1 v2 v3):=fun w1 hb=>h.below hb
 have HMD:Hid (bV P.d=true∧bV P.p=true∧bV P.o=true):=⟨hd,hp,ho⟩;have HLN:Hid ((∀ k,(bQ (lwK 0) (P.d.take k)).length≤80000)∧(∀ k,(bQ (lwK 1) (P.p.take k)).length≤80000)∧(∀ k,(bQ (lwK 2) (P.o.take k)).length≤80000)):=⟨jE (nG 0) hd,jE (nG 1) hp,jE (nG 2) ho⟩;have hll:(iE ⟨#[112,97,99,107,97,103,101]⟩ P.nm (aL P.a P.b P.c)).length≤5000:=FU (by decide) hnz (by omega);have HF0:=aB (HLN.out.1 P.d.length);have HF1:=aB (HLN.out.2.1 P.p.length);rw [List.take_length] at HF0 HF1;have HSZ:Hid ((P.d.length≤16∧P.p.length≤16)∧P.o.length≤16):=⟨⟨(eE hd).1,(eE hp).1⟩,(eE ho).1⟩;obtain ⟨⟨z1,z2⟩,z3⟩:=HSZ.out;have HWB:Hid (aU P=decide ((kQ P).length≤4096)):=by unfold Hid aU;rw [hsd];rfl
 have HPT:=aB (SW P);obtain ⟨a1,c1,rfl,q1⟩:=h.1.len;obtain ⟨a2,c2,rfl,q2⟩:=h.2.1.len;obtain ⟨a3,c3,rfl,q3⟩:=h.2.2.len;have HLI:Hid (∀ w1,Calls Tryz.prog 176 #[.agg #[.string P.nm,.int .i64 P.a,.int .i64 P.b,.int .i64 P.c,.slice a1 P.d.length c1,.slice a2 P.p.length c2,.slice a3 P.o.length c3]] w1 fun e w'=>e= .returned (.agg #[.slice a1 P.d.length c1,.slice a2 P.p.length c2,.slice a3 P.o.length c3])∧Below w1.heap.size w1 w'):=zR _ _ _ _ _ _ _ _ _ _ _ _ _;have HLE:Hid (∀ w1 l w',TW w1 l w'→Calls Tryz.prog 158 #[.pointer (some ⟨w1.heap.size,0,none⟩)] w' fun e w2=>e= .returned (.int .i64 l.length)∧w2=w'):=fun w1 l w' h=>PJ h.1
 have HST:Hid (∀ w1 l w',TW w1 l w'→Calls Tryz.prog 55 #[.pointer (some ⟨w1.heap.size,0,none⟩)] w' fun e w2=>e= .returned (.string ⟨l.toArray⟩)∧Below w1.heap.size w' w2):=fun w1 l w' h=>Tryz.Builder_String_any _ _ l w' h.1 h.2.size
 have HWR:Hid (∀ w1,Below w.heap.size w w1→∀ (l:Sc.Bs) wz (x:ByteArray) v L,TW w1 l wz→DepsAt w1 v L→bV L=true→x.size≤16→l.length≤1000000→Calls Tryz.prog 157 #[.pointer (some ⟨w1.heap.size,0,none⟩),.string x,v] wz fun e w'=>e= .returned (.tuple #[])∧TW w1 (l++bQ x L) w'∧FarB w1.heap.size wz w'):=fun w1 hb l wz x v L h1 h2 h3 h4 h5=>zV h1 h2 h3 (he.below hb) (hf.below hb) h4 h5
 have HPU:Hid (∀ w1 (l:Sc.Bs) wz (s:ByteArray),TW w1 l wz→l.length≤1000000→s.size≤1000000→Calls Tryz.prog 54 #[.pointer (some ⟨w1.heap.size,0,none⟩),.string s] wz fun e w'=>e= .returned (.tuple #[.int .i64 s.size,.nilIface])∧TW w1 (l++s.data.toList) w'∧FarB w1.heap.size wz w'):=fun w1 l wz s h1 h2 h3=>h1.put s (by omega) h3
 have HHD:Hid ([]++(⟨#[112,97,99,107,97,103,101,32]⟩++P.nm++⟨#[32]⟩++aL P.a P.b P.c++⟨#[10]⟩:ByteArray).data.toList=mO P 0∧(⟨#[112,97,99,107,97,103,101,32]⟩++P.nm++⟨#[32]⟩++aL P.a P.b P.c++⟨#[10]⟩:ByteArray).size≤1000000):=by
  refine ⟨by unfold mO iE;simp,?_⟩;rw [bP,bP,bP,bP];have e1:(⟨#[112,97,99,107,97,103,101,32]⟩:ByteArray).size=8:=rfl;have e2:(⟨#[32]⟩:ByteArray).size=1:=rfl;have e3:(⟨#[10]⟩:ByteArray).size=1:=rfl;omega
 have ix0:=FV;have ix1:=FW;have ix2:=FX;clear h he hf hsd hnm hmv hd hp ho;have HBX:Hid (BxP (w.alloc (.cells #[.string P.nm,.int .i64 P.a,.int .i64 P.b,.int .i64 P.c,.slice a1 P.d.length c1,.slice a2 P.p.length c2,.slice a3 P.o.length c3] 54)) w.heap.size P.nm P.a P.b P.c (.slice a1 P.d.length c1) (.slice a2 P.p.length c2) (.slice a3 P.o.length c3)):=BxP.new rfl _ _ _ _ _ _ _;have HKB:Hid (KeepP fun w1=>BxP w1 w.heap.size P.nm P.a P.b P.c (.slice a1 P.d.length c1) (.slice a2 P.p.length c2) (.slice a3 P.o.length c3)):=gE _ _ _ _ _ _ _ _
 go_enter Tryz.func128,Tryz.ntmps128
 go_wp2_with (go_at_call 174;refine (HSO.out _ (aC _ _)).mono ?_;rintro e w1 ⟨rfl,ok⟩;have HO1:Hid (Below w.heap.size w w1∧BxP w1 w.heap.size P.nm P.a P.b P.c (.slice a1 P.d.length c1) (.slice a2 P.p.length c2) (.slice a3 P.o.length c3)):=⟨aA (aC _ _) ok,HKB.out _ _ HBX.out ok⟩;clear ok HBX)
 have e1:=fun W:World=>run_string_add_sum (P:=Tryz.prog) (w:=W) ⟨#[112,97,99,107,97,103,101,32]⟩ P.nm (by rw [show (⟨#[112,97,99,107,97,103,101,32]⟩:ByteArray).size=8 from rfl];omega)
 have e2:=fun W:World=>run_string_add_sum (P:=Tryz.prog) (w:=W) (⟨#[112,97,99,107,97,103,101,32]⟩++P.nm) ⟨#[32]⟩ (by rw [bP,show (⟨#[112,97,99,107,97,103,101,32]⟩:ByteArray).size=8 from rfl,show (⟨#[32]⟩:ByteArray).size=1 from rfl];omega)
 have e3:=fun W:World=>run_string_add_sum (P:=Tryz.prog) (w:=W) (⟨#[112,97,99,107,97,103,101,32]⟩++P.nm++⟨#[32]⟩) (aL P.a P.b P.c) (by rw [bP,bP,show (⟨#[112,97,99,107,97,103,101,32]⟩:ByteArray).size=8 from rfl,show (⟨#[32]⟩:ByteArray).size=1 from rfl];omega)
 have e4:=fun W:World=>run_string_add_sum (P:=Tryz.prog) (w:=W) (⟨#[112,97,99,107,97,103,101,32]⟩++P.nm++⟨#[32]⟩++aL P.a P.b P.c) ⟨#[10]⟩ (by rw [bP,bP,bP,show (⟨#[112,97,99,107,97,103,101,32]⟩:ByteArray).size=8 from rfl,show (⟨#[32]⟩:ByteArray).size=1 from rfl,show (⟨#[10]⟩:ByteArray).size=1 from rfl];omega)
 have HT0:Hid (TW w1 [] (w1.alloc (.cells #[.pointer none,.slice none 0 0] 118))):=TW.new w1;have HBP:Hid (∀ w',Below w1.heap.size w1 w'→BxP w' w.heap.size P.nm P.a P.b P.c (.slice a1 P.d.length c1) (.slice a2 P.p.length c2) (.slice a3 P.o.length c3)):=fun w' hb=>HKB.out _ _ HO1.out.2 hb
 obtain ⟨k0,k1,k2,k3,k4,k5,k6,k7⟩:=HBP.out _ HT0.out.2
 go_region_held3 (fun w'=>w'.cell? ⟨w.heap.size,0,none⟩=some (.string P.nm)∧w'.cell? ⟨w.heap.size,1,none⟩=some (.int .i64 P.a)∧w'.cell? ⟨w.heap.size,2,none⟩=some (.int .i64 P.b)∧w'.cell? ⟨w.heap.size,3,none⟩=some (.int .i64 P.c)) (go_keep)
  (first
    |(have _h:=HT0;go_at_call 125;refine (HPR.out _ (aA HO1.out.1 (aC _ _).drew)).mono ?_;rintro e w2 ⟨rfl,ok⟩;have HT2:=aB (jF _ _ _ _ ((jF _ _).drew HT0.out) ok);clear ok HT0 k0 k1 k2 k3 k4 k5 k6 k7;obtain ⟨k0,k1,k2,k3,k4,k5,k6,k7⟩:=HBP.out _ HT2.out.2)
    |(have _h:=HT2;go_at_call 54;refine (HPU.out w1 [] _ _ HT2.out (by decide) HHD.out.2).mono ?_;rintro e w3 ⟨rfl,ok,_⟩;have HT3:Hid (TW w1 (mO P 0) w3):=(by have h3:=ok;rw [HHD.out.1] at h3;exact h3);clear ok HT2 k0 k1 k2 k3 k4 k5 k6 k7;obtain ⟨k0,k1,k2,k3,k4,k5,k6,k7⟩:=HBP.out _ HT3.out.2))
 go_wp2_with (first
  |(go_at_call 175;refine (kC _).mono ?_;rintro e w3b ⟨rfl,hw3b⟩;have HT3b:Hid (TW w1 (mO P 0) w3b∧w3b.heap[w3.heap.size]? =some rR∧w1.heap.size<w3.heap.size):=(by rw [hw3b];exact ⟨jF _ _ _ _ HT3.out (aC _ _),(by show (w3.heap.push _)[w3.heap.size]? =_;rw [Array.getElem?_push,if_pos rfl];rfl),HT3.out.far⟩);clear hw3b k0 k1 k2 k3 k4 k5 k6 k7;obtain ⟨k0,k1,k2,k3,k4,k5,k6,k7⟩:=HBP.out _ HT3b.out.1.2)
  |(go_at_call 176;refine (HLI.out _).mono ?_;rintro e w4 ⟨rfl,ok⟩;have HT4:Hid (TW w1 (mO P 0) w4∧w4.heap[w3.heap.size]? =some rR∧w1.heap.size<w3.heap.size):=⟨jF _ _ _ _ HT3b.out.1 ok,(ok.block _ (Array.getElem?_eq_some_iff.1 HT3b.out.2.1).1).trans HT3b.out.2.1,HT3b.out.2.2⟩;clear ok HT3b))
 clear k0 k1 k2 k3 k4 k5 k6 k7
 go_loopw [24] (fun i wr=>∃ k:Nat,k≤3∧i= .int .i64 k∧TW w1 (mO P k) wr∧wr.heap[w3.heap.size]? =some rR∧w1.heap.size<w3.heap.size) (fun i _=>3 - (intOf i).toNat)
 case atStart=>exact ⟨0,Nat.zero_le _,rfl,HT4.out⟩
 case round=>
  obtain ⟨k,hk,rfl,htw⟩:=hrel
  rcases (show k=0∨k=1∨k=2∨k=3 by omega) with rfl|rfl|rfl|rfl
  · have HTK:=aB htw
    clear htw;have g0:wr.cell? ⟨w3.heap.size,0,none⟩=some (.string (lwK 0)):=by rw [Lib.cell_of_heap HTK.out.2.1];rfl
    have hpl:(mO P 0).length≤1000000:=by
     have h2:=HF0.out;have h3:=HF1.out;simp only [mO] at*;omega
    go_wp2_with (go_at_call 157;refine (HWR.out w1 HO1.out.1 _ _ (lwK 0) _ P.d HTK.out.1 (HPG.out w1 HO1.out.1).1 HMD.out.1 (nG 0) hpl).mono ?_;rintro e w5 ⟨rfl,ok,far⟩;have HT5:Hid (TW w1 (mO P (0+1)) w5∧w5.heap[w3.heap.size]? =some rR∧w1.heap.size<w3.heap.size):=⟨ok,far _ _ _ _ HTK.out.2.1 (by decide) (by have:=HTK.out.2.2;omega),HTK.out.2.2⟩;clear ok far)
    exact ⟨⟨0+1,by omega,rfl,HT5.out⟩,by simp [intOf]⟩
  · have HTK:=aB htw
    clear htw;have g0:wr.cell? ⟨w3.heap.size,1,none⟩=some (.string (lwK 1)):=by rw [Lib.cell_of_heap HTK.out.2.1];rfl
    have hpl:(mO P 1).length≤1000000:=by
     have h2:=HF0.out;have h3:=HF1.out;simp only [mO,List.length_append] at*;omega
    go_wp2_with (go_at_call 157;refine (HWR.out w1 HO1.out.1 _ _ (lwK 1) _ P.p HTK.out.1 (HPG.out w1 HO1.out.1).2.1 HMD.out.2.1 (nG 1) hpl).mono ?_;rintro e w5 ⟨rfl,ok,far⟩;have HT5:Hid (TW w1 (mO P (1+1)) w5∧w5.heap[w3.heap.size]? =some rR∧w1.heap.size<w3.heap.size):=⟨ok,far _ _ _ _ HTK.out.2.1 (by decide) (by have:=HTK.out.2.2;omega),HTK.out.2.2⟩;clear ok far)
    exact ⟨⟨1+1,by omega,rfl,HT5.out⟩,by simp [intOf]⟩
  · have HTK:=aB htw
    clear htw;have g0:wr.cell? ⟨w3.heap.size,2,none⟩=some (.string (lwK 2)):=by rw [Lib.cell_of_heap HTK.out.2.1];rfl
    have hpl:(mO P 2).length≤1000000:=by
     have h2:=HF0.out;have h3:=HF1.out;simp only [mO,List.length_append] at*;omega
    go_wp2_with (go_at_call 157;refine (HWR.out w1 HO1.out.1 _ _ (lwK 2) _ P.o HTK.out.1 (HPG.out w1 HO1.out.1).2.2 HMD.out.2.2 (nG 2) hpl).mono ?_;rintro e w5 ⟨rfl,ok,far⟩;have HT5:Hid (TW w1 (mO P (2+1)) w5∧w5.heap[w3.heap.size]? =some rR∧w1.heap.size<w3.heap.size):=⟨ok,far _ _ _ _ HTK.out.2.1 (by decide) (by have:=HTK.out.2.2;omega),HTK.out.2.2⟩;clear ok far)
    exact ⟨⟨2+1,by omega,rfl,HT5.out⟩,by simp [intOf]⟩
  · have HTE:=aB htw.1
    rw [HPT.out] at HTE;clear htw
    by_cases hlen:(kQ P).length≤4096
    · have HR:Hid (aU P=true∧bA P=⟨(kQ P).toArray⟩):=by
       have:aU P=true:=by rw [HWB.out];exact decide_eq_true hlen
       exact ⟨this,by unfold bA;rw [if_pos this]⟩
      go_wp2_with (first
       |(go_at_call 158;refine (HLE.out _ _ _ HTE.out).mono ?_;rintro e w5 ⟨rfl,rfl⟩)
       |(go_at_call 55;refine (HST.out _ _ _ HTE.out).mono ?_;rintro e w6 ⟨rfl,ok⟩;have HB6:=aB (aA HO1.out.1 (HTE.out.2.trans ok));clear ok))
      go_ret2;exact ⟨by rw [HR.out.1,HR.out.2];rfl,HB6.out⟩
    · have HR:Hid (aU P=false∧bA P=⟨#[]⟩):=by
       have:aU P=false:=by rw [HWB.out];exact decide_eq_false hlen
       exact ⟨this,by unfold bA;rw [if_neg (by rw [this];simp)]⟩
      go_wp2_with (go_at_call 158;refine (HLE.out _ _ _ HTE.out).mono ?_;rintro e w5 ⟨rfl,rfl⟩)
      go_ret2;exact ⟨by rw [HR.out.1,HR.out.2];rfl,aA HO1.out.1 HTE.out.2⟩
theorem sR {P:Pg} {v1 v2 v3:Value} {w:World} (h:PgAt w P v1 v2 v3) (he:Env w) (hf:FL w):
 Calls Tryz.prog 128 #[.agg #[.string P.nm,.int .i64 P.a,.int .i64 P.b,.int .i64 P.c,v1,v2,v3]] w fun e w'=>e= .returned (.tuple #[.string (bA P),.bool (aU P)])∧Below w.heap.size w w':=by
 cases hsd:gV P
 · have HSO:Hid (∀ w1,Below w.heap.size w w1→Calls Tryz.prog 174 #[.agg #[.string P.nm,.int .i64 P.a,.int .i64 P.b,.int .i64 P.c,v1,v2,v3]] w1 fun e w'=>e= .returned (.bool false)∧Below w1.heap.size w1 w'):=fun w1 hb=>by have:=zS (h.below hb);rw [hsd] at this;exact this
   have HR:Hid (aU P=false∧bA P=⟨#[]⟩):=by
    have:aU P=false:=by unfold aU;rw [hsd];rfl
    exact ⟨this,by unfold bA;rw [if_neg (by rw [this];simp)]⟩
   obtain ⟨a1,c1,rfl⟩:=h.1.sl;obtain ⟨a2,c2,rfl⟩:=h.2.1.sl;obtain ⟨a3,c3,rfl⟩:=h.2.2.sl;clear h he hf hsd
   go_enter Tryz.func128,Tryz.ntmps128
   go_wp2_with (go_at_call 174;refine (HSO.out _ (aC _ _)).mono ?_;rintro e w1 ⟨rfl,ok⟩;have HO1:=aB (aA (aC _ _) ok);clear ok)
   go_ret2;exact ⟨by rw [HR.out.1,HR.out.2];rfl,HO1.out⟩
 · exact yI h he hf hsd
theorem FZ {P:Pg} {v1 v2 v3:Value} {w:World} (h:PgAt w P v1 v2 v3) (he:Env w) (hf:FL w):
 Calls Tryz.prog 188 #[.agg #[.string P.nm,.int .i64 P.a,.int .i64 P.b,.int .i64 P.c,v1,v2,v3]] w fun e w'=>e= .returned (.bool (aU P))∧Below w.heap.size w w':=by
 have HW:Hid (∀ w1,Below w.heap.size w w1→Calls Tryz.prog 128 #[.agg #[.string P.nm,.int .i64 P.a,.int .i64 P.b,.int .i64 P.c,v1,v2,v3]] w1 fun e w'=>e= .returned (.tuple #[.string (bA P),.bool (aU P)])∧Below w1.heap.size w1 w'):=fun w1 hb=>sR (h.below hb) (he.below hb) (hf.below hb)
 obtain ⟨a1,c1,rfl⟩:=h.1.sl;obtain ⟨a2,c2,rfl⟩:=h.2.1.sl;obtain ⟨a3,c3,rfl⟩:=h.2.2.sl;clear h he hf
 go_enter Tryz.func188,Tryz.ntmps188
 go_wp2_with (go_at_call 128;refine (HW.out _ (aC _ _)).mono ?_;rintro e w1 ⟨rfl,ok⟩;have HO1:=aB (aA (aC _ _) ok);clear ok)
 go_ret;exact ⟨rfl,HO1.out⟩
theorem vN {P:Pg} {v1 v2 v3:Value} {w:World} (h:PgAt w P v1 v2 v3) (he:Env w) (hf:FL w):
 Calls Tryz.prog 76 #[.agg #[.string P.nm,.int .i64 P.a,.int .i64 P.b,.int .i64 P.c,v1,v2,v3]] w fun e w'=>e= .returned (.tuple #[.string (bA P),.int .i64 (if aU P=true then 0 else 24)])∧Below w.heap.size w w':=by
 have HW:Hid (∀ w1,Below w.heap.size w w1→Calls Tryz.prog 128 #[.agg #[.string P.nm,.int .i64 P.a,.int .i64 P.b,.int .i64 P.c,v1,v2,v3]] w1 fun e w'=>e= .returned (.tuple #[.string (bA P),.bool (aU P)])∧Below w1.heap.size w1 w'):=fun w1 hb=>sR (h.below hb) (he.below hb) (hf.below hb)
 obtain ⟨a1,c1,rfl⟩:=h.1.sl;obtain ⟨a2,c2,rfl⟩:=h.2.1.sl;obtain ⟨a3,c3,rfl⟩:=h.2.2.sl;clear h he hf;have HWT:Hid (aU P=false→bA P=⟨#[]⟩):=fun hb=>by unfold bA;rw [if_neg (by rw [hb];simp)]
 cases hwb:aU P
 · rw [hwb] at HW
   have HT:=aB (HWT.out hwb);rw [HT.out] at HW ⊢
   go_enter Tryz.func76,Tryz.ntmps76
   go_wp2_with (go_at_call 128;refine (HW.out _ (aC _ _)).mono ?_;rintro e w1 ⟨rfl,ok⟩;have HO1:=aB (aA (aC _ _) ok);clear ok)
   go_ret2;exact ⟨rfl,HO1.out⟩
 · rw [hwb] at HW
   go_enter Tryz.func76,Tryz.ntmps76
   go_wp2_with (go_at_call 128;refine (HW.out _ (aC _ _)).mono ?_;rintro e w1 ⟨rfl,ok⟩;have HO1:=aB (aA (aC _ _) ok);clear ok)
   go_ret2;exact ⟨rfl,HO1.out⟩
def sS (L:List ByteArray):ByteArray:=L.getLastD ⟨#[]⟩
theorem XA {L:List ByteArray} (h:0<L.length):sS L=L[L.length - 1]'(by omega):=by
 unfold sS;rw [List.getLastD_eq_getLast?,List.getLast?_eq_getElem?,List.getElem?_eq_getElem (by omega)];rfl
theorem XB {L:List ByteArray} {v:Value} {w:World} (h:PathAt w v L) (h0:0<L.length) (hz:L.length≤9223372036854775807):
 Calls Tryz.prog 203 #[v] w fun e w'=>e= .returned (.string (sS L))∧Below w.heap.size w w':=by
 have HR:=aB (XA h0);obtain ⟨ad,cap,rfl,hc,hl⟩:=h
 obtain ⟨g,o,rfl,hs⟩:∃ g o,ad=some ⟨g,o,none⟩∧∀ i (h:i<L.length),StIn w g (o+i) L[i]:=by
  rcases hl with h|h
  · rw [h] at h0;simp at h0
  · exact h
 obtain ⟨c0,c1⟩:=hs (L.length - 1) (by omega);rw [←HR.out] at c0;clear hl hs;obtain ⟨k,hk⟩:∃ k,L.length=k+1:=⟨L.length - 1,by omega⟩;rw [hk] at c0 hc hz ⊢;rw [Nat.add_sub_cancel] at c0;clear h0 hk HR;generalize sS L=s at*
 go_enter Tryz.func203,Tryz.ntmps203
 go_wp2
 go_ret;exact ⟨rfl,Below.refl _ _⟩
theorem SX {ad:Option Addr} {n cap:Nat} (h0:0<n) (hc:n≤cap) (hz:n≤9223372036854775807) (w:World):
 Calls Tryz.prog 204 #[.slice ad n cap] w fun e w'=>e= .returned (.slice ad (n - 1) cap)∧Below w.heap.size w w':=by
 obtain ⟨k,rfl⟩:∃ k,n=k+1:=⟨n - 1,by omega⟩;have hk:k≤cap:=by omega
 rw [Nat.add_sub_cancel]
 go_enter Tryz.func204,Tryz.ntmps204
 go_wp2
 go_ret;exact ⟨rfl,Below.refl _ _⟩
def lM:Pg:=⟨⟨#[]⟩,0,0,0,[],[],[]⟩
theorem vO (w:World):DepsAt w (.slice none 0 0) []:=⟨none,0,rfl,Nat.le_refl _,Or.inl rfl⟩
theorem Az (w:World):PgAt w lM (.slice none 0 0) (.slice none 0 0) (.slice none 0 0):=⟨vO w,vO w,vO w⟩
def PgZ (P:Pg):Prop:=P.d.length≤9223372036854775807∧P.p.length≤9223372036854775807∧P.o.length≤9223372036854775807
noncomputable def nZ (d:Dr):Bool:=decide (d.pa.length=0)&&decide (d.nd=0)&&eqB d.pk lM
def BxDr (w:World) (N:Nat) (u:Value) (s:ByteArray) (a b c:Int) (v1 v2 v3:Value) (nd:Int):Prop:=
 (w.cell? ⟨N,0,none⟩=some u∧w.cell? ⟨N,1,none⟩=some (.string s)∧w.cell? ⟨N,2,none⟩=some (.int .i64 a)∧w.cell? ⟨N,3,none⟩=some (.int .i64 b)∧w.cell? ⟨N,4,none⟩=some (.int .i64 c)∧w.cell? ⟨N,5,none⟩=some v1∧w.cell? ⟨N,6,none⟩=some v2∧w.cell? ⟨N,7,none⟩=some v3∧w.cell? ⟨N,8,none⟩=some (.int .i64 nd))∧N<w.heap.size
theorem XC (N:Nat) (u:Value) (s:ByteArray) (a b c:Int) (v1 v2 v3:Value) (nd:Int):KeepP fun w1=>BxDr w1 N u s a b c v1 v2 v3 nd:=fun w w' h hb=>by
 obtain ⟨⟨h0,h1,h2,h3,h4,h5,h6,h7,h8⟩,hg⟩:=h;have q:∀ i,w'.cell? ⟨N,i,none⟩=w.cell? ⟨N,i,none⟩:=fun i=>hb.cell (p:=⟨N,i,none⟩) hg
 exact ⟨⟨by rw [q];exact h0,by rw [q];exact h1,by rw [q];exact h2,by rw [q];exact h3,by rw [q];exact h4,by rw [q];exact h5,by rw [q];exact h6,by rw [q];exact h7,by rw [q];exact h8⟩,Nat.lt_of_lt_of_le hg hb.size⟩
theorem BxDr.new {w:World} {N:Nat} (hN:w.heap.size=N) (u:Value) (s:ByteArray) (a b c:Int) (v1 v2 v3:Value) (nd:Int):BxDr (w.alloc (.cells #[u,.string s,.int .i64 a,.int .i64 b,.int .i64 c,v1,v2,v3,.int .i64 nd] 56)) N u s a b c v1 v2 v3 nd:=by
 subst hN;refine ⟨⟨?_,?_,?_,?_,?_,?_,?_,?_,?_⟩,?_⟩<;>simp
set_option maxHeartbeats 1600000 in
theorem CF {d:Dr} {u v1 v2 v3:Value} {w:World} (hu:PathAt w u d.pa) (hp:PgAt w d.pk v1 v2 v3) (hz:PgZ d.pk):
 Calls Tryz.prog 162 #[.agg #[u,.string d.pk.nm,.int .i64 d.pk.a,.int .i64 d.pk.b,.int .i64 d.pk.c,v1,v2,v3,.int .i64 d.nd]] w fun e w'=>e= .returned (.bool (nZ d))∧Below w.heap.size w w':=by
 have HS:Hid (∀ w1,Below w.heap.size w w1→Calls Tryz.prog 201 #[.agg #[.string d.pk.nm,.int .i64 d.pk.a,.int .i64 d.pk.b,.int .i64 d.pk.c,v1,v2,v3],.agg #[.string ⟨#[]⟩,.int .i64 0,.int .i64 0,.int .i64 0,.slice none 0 0,.slice none 0 0,.slice none 0 0]] w1 fun e w'=>e= .returned (.bool (eqB d.pk lM))∧Below w1.heap.size w1 w'):=fun w1 hb=>WI (hp.below hb) (Az w1) hz.1 hz.2.1 hz.2.2
 have HRB:Hid (nZ d=(decide (d.pa.length=0)&&decide (d.nd=0)&&eqB d.pk lM)):=rfl;obtain ⟨ua,uc,rfl⟩:=hu.sl;obtain ⟨a1,c1,rfl⟩:=hp.1.sl;obtain ⟨a2,c2,rfl⟩:=hp.2.1.sl;obtain ⟨a3,c3,rfl⟩:=hp.2.2.sl;clear hu hp hz;generalize nZ d=rb at*;generalize eqB d.pk lM=eb at*;generalize d.pk.d.length=l1 at*;generalize d.pk.p.length=l2 at*;generalize d.pk.o.length=l3 at*;generalize d.pa.length=n at*;generalize d.pk.nm=s at*;generalize d.pk.a=a at*;generalize d.pk.b=b at*;generalize d.pk.c=c at*;generalize d.nd=nd at*
 by_cases hn:n=0
 · subst hn
   by_cases hd:nd=0
   · subst hd
     go_enter Tryz.func162,Tryz.ntmps162
     go_wp2_with (go_at_call 201;refine (HS.out _ (aC _ _)).mono ?_;rintro e w1 ⟨rfl,ok⟩)
     go_ret;exact ⟨aD (by rw [HRB.out];simp),aA (aC _ _) ok⟩
   · have hdi:(nd==0)=false:=by rw [beq_eq_false_iff_ne];exact hd
     go_enter Tryz.func162,Tryz.ntmps162
     go_wp2
     go_ret;exact ⟨aD (by rw [HRB.out,decide_eq_false hd];simp),aC _ _⟩
 · have hni:((n:Int)==0)=false:=by rw [beq_eq_false_iff_ne];omega
   go_enter Tryz.func162,Tryz.ntmps162
   go_wp2
   go_ret;exact ⟨aD (by rw [HRB.out,decide_eq_false hn];simp),aC _ _⟩
noncomputable def vP (A:List Dr) (d:Dr):Bool:=fA d.pa&&decide (0<d.nd)&&eqB d.pk.nm (sS d.pa)&&aU d.pk&&decide (bT A d.pa<0)&&decide (0≤bT A (d.pa.take (d.pa.length - 1)))
theorem zW {L:List ByteArray} (h:fA L=true):0<L.length:=by
 unfold fA at h;simp only [Bool.and_eq_true,decide_eq_true_eq] at h;exact h.1.1
set_option maxHeartbeats 6400000 in
theorem vQ {A:List Dr} {va:Value} {d:Dr} {u v1 v2 v3:Value} {w:World} (hA:DirsAt w va A) (hAz:A.length≤9223372036854775807) (hAf:FitD A) (hu:PathAt w u d.pa) (huz:d.pa.length*16≤140737488355328) (hp:PgAt w d.pk v1 v2 v3) (he:Env w) (hf:FL w):
 Calls Tryz.prog 163 #[.agg #[va],.agg #[u,.string d.pk.nm,.int .i64 d.pk.a,.int .i64 d.pk.b,.int .i64 d.pk.c,v1,v2,v3,.int .i64 d.nd]] w fun e w'=>e= .returned (.bool (vP A d))∧Below w.heap.size w w':=by
 have HRB:Hid (vP A d=(fA d.pa&&decide (0<d.nd)&&eqB d.pk.nm (sS d.pa)&&aU d.pk&&decide (bT A d.pa<0)&&decide (0≤bT A (d.pa.take (d.pa.length - 1))))):=rfl;have HMP:Hid (∀ w1,Below w.heap.size w w1→Calls Tryz.prog 202 #[u] w1 fun e w'=>e= .returned (.bool (fA d.pa))∧Below w1.heap.size w1 w'):=fun w1 hb=>CE (hu.below hb) huz
 have HMY:Hid (∀ w1,Below w.heap.size w w1→Calls Tryz.prog 188 #[.agg #[.string d.pk.nm,.int .i64 d.pk.a,.int .i64 d.pk.b,.int .i64 d.pk.c,v1,v2,v3]] w1 fun e w'=>e= .returned (.bool (aU d.pk))∧Below w1.heap.size w1 w'):=fun w1 hb=>FZ (hp.below hb) (he.below hb) (hf.below hb)
 have HLA:Hid (fA d.pa=true→∀ w1,Below w.heap.size w w1→Calls Tryz.prog 203 #[u] w1 fun e w'=>e= .returned (.string (sS d.pa))∧Below w1.heap.size w1 w'):=fun h w1 hb=>XB (hu.below hb) (zW h) (by omega)
 have HF1:Hid (∀ w1,Below w.heap.size w w1→Calls Tryz.prog 57 #[.agg #[va],u] w1 fun e w'=>e= .returned (.int .i64 (bT A d.pa))∧Below w1.heap.size w1 w'):=fun w1 hb=>rK (hA.below hb) hAz hAf (hu.below hb)
 obtain ⟨ua,uc,rfl,huc,hus⟩:=hu;have HAB:Hid (fA d.pa=true→∀ w1,Calls Tryz.prog 204 #[.slice ua d.pa.length uc] w1 fun e w'=>e= .returned (.slice ua (d.pa.length - 1) uc)∧Below w1.heap.size w1 w'):=fun h w1=>SX (zW h) huc (by omega) w1
 have HF2:Hid (∀ w1,Below w.heap.size w w1→Calls Tryz.prog 57 #[.agg #[va],.slice ua (d.pa.length - 1) uc] w1 fun e w'=>e= .returned (.int .i64 (bT A (d.pa.take (d.pa.length - 1))))∧Below w1.heap.size w1 w'):=fun w1 hb=>rK (hA.below hb) hAz hAf ((PathAt.cut (n:=d.pa.length) ⟨_,_,rfl,huc,hus⟩ (Nat.sub_le _ _)).below hb)
 obtain ⟨aa,ac,rfl,hax⟩:=hA.sl;obtain ⟨a1,c1,rfl⟩:=hp.1.sl;obtain ⟨a2,c2,rfl⟩:=hp.2.1.sl;obtain ⟨a3,c3,rfl⟩:=hp.2.2.sl;have HG1:=aB (mL A d.pa);have HG2:=aB (mL A (d.pa.take (d.pa.length - 1)));clear hp he hf hA hAz hAf huz hax hus huc;generalize vP A d=rb at*;generalize bT A (d.pa.take (d.pa.length - 1))=f2 at*;generalize bT A d.pa=f1 at*;generalize aU d.pk=b4 at*;generalize fA d.pa=b1 at*;generalize sS d.pa=ls at*;generalize d.pk.d.length=l1 at*;generalize d.pk.p.length=l2 at*;generalize d.pk.o.length=l3 at*;generalize d.pa.length - 1=n1 at*;generalize d.pa.length=n at*;generalize d.pk.nm=s at*;generalize d.pk.a=a at*;generalize d.pk.b=b at*;generalize d.pk.c=c at*;generalize d.nd=nd at*;generalize A.length=m at*
 have HK:Hid (KeepP fun w1=>Below w.heap.size w w1∧BxT w1 w.heap.size (.slice aa m ac)∧BxDr w1 (w.heap.size+1) (.slice ua n uc) s a b c (.slice a1 l1 c1) (.slice a2 l2 c2) (.slice a3 l3 c3) nd):=(aG w).and ((cL _ _).and (XC _ _ _ _ _ _ _ _ _ _))
 have HO:Hid (Below w.heap.size w ((w.alloc (.cells #[.slice aa m ac] 30)).alloc (.cells #[.slice ua n uc,.string s,.int .i64 a,.int .i64 b,.int .i64 c,.slice a1 l1 c1,.slice a2 l2 c2,.slice a3 l3 c3,.int .i64 nd] 56))∧BxT ((w.alloc (.cells #[.slice aa m ac] 30)).alloc (.cells #[.slice ua n uc,.string s,.int .i64 a,.int .i64 b,.int .i64 c,.slice a1 l1 c1,.slice a2 l2 c2,.slice a3 l3 c3,.int .i64 nd] 56)) w.heap.size (.slice aa m ac)∧BxDr ((w.alloc (.cells #[.slice aa m ac] 30)).alloc (.cells #[.slice ua n uc,.string s,.int .i64 a,.int .i64 b,.int .i64 c,.slice a1 l1 c1,.slice a2 l2 c2,.slice a3 l3 c3,.int .i64 nd] 56)) (w.heap.size+1) (.slice ua n uc) s a b c (.slice a1 l1 c1) (.slice a2 l2 c2) (.slice a3 l3 c3) nd):=⟨aS _ _ _,cL _ _ _ _ (BxT.new _ _) (aC _ _),BxDr.new (by simp) _ _ _ _ _ _ _ _ _⟩;cases b1
 · have q1:True:=trivial
   go_enter Tryz.func163,Tryz.ntmps163
   go_wp2_with fail
   refine cE HK (by kernel_rfl) (by kernel_rfl) (by first|exact HO.out|exact HK.out.drew HO.out) ?_;intro C HIN HOUT;clear HO
   repeat
    (with_reducible refine wpQuiet_step (fun K hK=> ?_)
     go_simp
     first
      |(refine hK _ ?_;clear hK K)
      |(apply Exists.intro;refine ⟨fun w1 hC=> ?_,hK _ ?_⟩;(focus ((first|(go_at_call 202;with_reducible exact bJ HIN HOUT HK (fun w1 hk=>HMP.out w1 hk.1) w1 hC)|(go_at_call 188;with_reducible exact bJ HIN HOUT HK (fun w1 hk=>HMY.out w1 hk.1) w1 hC)|(go_at_call 57;with_reducible exact bJ HIN HOUT HK (fun w1 hk=>HF2.out w1 hk.1) w1 hC)|(go_at_call 57;with_reducible exact bJ HIN HOUT HK (fun w1 hk=>HF1.out w1 hk.1) w1 hC)|(exact rfl)|(obtain ⟨hb1,⟨x0,x1⟩,⟨⟨y0,y1,y2,y3,y4,y5,y6,y7,y8⟩,y9⟩⟩:=HOUT.out w1 hC;clear hC;go_simp;first|done|exact rfl));done));clear hK K))
   refine wpQuiet_nil ?_;intro wn hC;have HO:=aB (HOUT.out _ hC);clear hC HIN HOUT C;obtain ⟨hb1,⟨x0,x1⟩,⟨⟨y0,y1,y2,y3,y4,y5,y6,y7,y8⟩,y9⟩⟩:=HO.out
   go_wp2
   go_ret;exact ⟨aD (by rw [HRB.out];simp),HO.out.1⟩
 · have HLA2:=aB (HLA.out rfl)
   have HAB2:=aB (HAB.out rfl)
   by_cases hd:0<nd
   · have hd2:decide (nd>0)=true:=decide_eq_true hd
     by_cases h3:s=ls
     · have q3:(s.toList==ls.toList)=true:=by rw [h3];simp
       have q3b:(s.toList=ls.toList)=True:=by rw [h3];simp
       have HE3:Hid (eqB s ls=true):=aX h3;rw [HE3.out,decide_eq_true hd] at HRB;clear h3 HE3;cases b4
       · go_enter Tryz.func163,Tryz.ntmps163
         go_wp2_with fail
         refine cE HK (by kernel_rfl) (by kernel_rfl) (by first|exact HO.out|exact HK.out.drew HO.out) ?_;intro C HIN HOUT;clear HO
         repeat
          (with_reducible refine wpQuiet_step (fun K hK=> ?_)
           go_simp
           first
            |(refine hK _ ?_;clear hK K)
            |(apply Exists.intro;refine ⟨fun w1 hC=> ?_,hK _ ?_⟩;(focus ((first|(go_at_call 202;with_reducible exact bJ HIN HOUT HK (fun w1 hk=>HMP.out w1 hk.1) w1 hC)|(go_at_call 203;with_reducible exact bJ HIN HOUT HK (fun w1 hk=>HLA2.out w1 hk.1) w1 hC)|(go_at_call 188;with_reducible exact bJ HIN HOUT HK (fun w1 hk=>HMY.out w1 hk.1) w1 hC)|(go_at_call 204;with_reducible exact eJ HIN HOUT HK HAB2.out w1 hC)|(go_at_call 57;with_reducible exact bJ HIN HOUT HK (fun w1 hk=>HF2.out w1 hk.1) w1 hC)|(go_at_call 57;with_reducible exact bJ HIN HOUT HK (fun w1 hk=>HF1.out w1 hk.1) w1 hC)|(exact rfl)|(obtain ⟨hb1,⟨x0,x1⟩,⟨⟨y0,y1,y2,y3,y4,y5,y6,y7,y8⟩,y9⟩⟩:=HOUT.out w1 hC;clear hC;go_simp;first|done|exact rfl));done));clear hK K))
         refine wpQuiet_nil ?_;intro wn hC;have HO:=aB (HOUT.out _ hC);clear hC HIN HOUT C;obtain ⟨hb1,⟨x0,x1⟩,⟨⟨y0,y1,y2,y3,y4,y5,y6,y7,y8⟩,y9⟩⟩:=HO.out
         go_wp2
         go_ret;exact ⟨aD (by rw [HRB.out];simp),HO.out.1⟩
       · rcases (show f1= -1∨0≤f1 by have:=HG1.out;omega) with h5|h5
         · subst h5
           rcases (show f2= -1∨0≤f2 by have:=HG2.out;omega) with h6|h6
           · subst h6
             go_enter Tryz.func163,Tryz.ntmps163
             go_wp2_with fail
             refine cE HK (by kernel_rfl) (by kernel_rfl) (by first|exact HO.out|exact HK.out.drew HO.out) ?_;intro C HIN HOUT;clear HO
             repeat
              (with_reducible refine wpQuiet_step (fun K hK=> ?_)
               go_simp
               first
                |(refine hK _ ?_;clear hK K)
                |(apply Exists.intro;refine ⟨fun w1 hC=> ?_,hK _ ?_⟩;(focus ((first|(go_at_call 202;with_reducible exact bJ HIN HOUT HK (fun w1 hk=>HMP.out w1 hk.1) w1 hC)|(go_at_call 203;with_reducible exact bJ HIN HOUT HK (fun w1 hk=>HLA2.out w1 hk.1) w1 hC)|(go_at_call 188;with_reducible exact bJ HIN HOUT HK (fun w1 hk=>HMY.out w1 hk.1) w1 hC)|(go_at_call 204;with_reducible exact eJ HIN HOUT HK HAB2.out w1 hC)|(go_at_call 57;with_reducible exact bJ HIN HOUT HK (fun w1 hk=>HF2.out w1 hk.1) w1 hC)|(go_at_call 57;with_reducible exact bJ HIN HOUT HK (fun w1 hk=>HF1.out w1 hk.1) w1 hC)|(exact rfl)|(obtain ⟨hb1,⟨x0,x1⟩,⟨⟨y0,y1,y2,y3,y4,y5,y6,y7,y8⟩,y9⟩⟩:=HOUT.out w1 hC;clear hC;go_simp;first|done|exact rfl));done));clear hK K))
             refine wpQuiet_nil ?_;intro wn hC;have HO:=aB (HOUT.out _ hC);clear hC HIN HOUT C;obtain ⟨hb1,⟨x0,x1⟩,⟨⟨y0,y1,y2,y3,y4,y5,y6,y7,y8⟩,y9⟩⟩:=HO.out
             go_wp2
             go_ret;exact ⟨aD (by rw [HRB.out];simp),HO.out.1⟩
           · have q6:decide (f2≥0)=true:=decide_eq_true h6
             rw [decide_eq_true h6] at HRB
             go_enter Tryz.func163,Tryz.ntmps163
             go_wp2_with fail
             refine cE HK (by kernel_rfl) (by kernel_rfl) (by first|exact HO.out|exact HK.out.drew HO.out) ?_;intro C HIN HOUT;clear HO
             repeat
              (with_reducible refine wpQuiet_step (fun K hK=> ?_)
               go_simp
               first
                |(refine hK _ ?_;clear hK K)
                |(apply Exists.intro;refine ⟨fun w1 hC=> ?_,hK _ ?_⟩;(focus ((first|(go_at_call 202;with_reducible exact bJ HIN HOUT HK (fun w1 hk=>HMP.out w1 hk.1) w1 hC)|(go_at_call 203;with_reducible exact bJ HIN HOUT HK (fun w1 hk=>HLA2.out w1 hk.1) w1 hC)|(go_at_call 188;with_reducible exact bJ HIN HOUT HK (fun w1 hk=>HMY.out w1 hk.1) w1 hC)|(go_at_call 204;with_reducible exact eJ HIN HOUT HK HAB2.out w1 hC)|(go_at_call 57;with_reducible exact bJ HIN HOUT HK (fun w1 hk=>HF2.out w1 hk.1) w1 hC)|(go_at_call 57;with_reducible exact bJ HIN HOUT HK (fun w1 hk=>HF1.out w1 hk.1) w1 hC)|(exact rfl)|(obtain ⟨hb1,⟨x0,x1⟩,⟨⟨y0,y1,y2,y3,y4,y5,y6,y7,y8⟩,y9⟩⟩:=HOUT.out w1 hC;clear hC;go_simp;first|done|exact rfl));done));clear hK K))
             refine wpQuiet_nil ?_;intro wn hC;have HO:=aB (HOUT.out _ hC);clear hC HIN HOUT C;obtain ⟨hb1,⟨x0,x1⟩,⟨⟨y0,y1,y2,y3,y4,y5,y6,y7,y8⟩,y9⟩⟩:=HO.out
             go_wp2
             go_ret;exact ⟨aD (by rw [HRB.out];simp),HO.out.1⟩
         · have q5:decide (f1<0)=false:=decide_eq_false (by omega)
           have q5b:(f1<0)=False:=eq_false (by omega);rw [q5] at HRB
           go_enter Tryz.func163,Tryz.ntmps163
           go_wp2_with fail
           refine cE HK (by kernel_rfl) (by kernel_rfl) (by first|exact HO.out|exact HK.out.drew HO.out) ?_;intro C HIN HOUT;clear HO
           repeat
            (with_reducible refine wpQuiet_step (fun K hK=> ?_)
             go_simp
             first
              |(refine hK _ ?_;clear hK K)
              |(apply Exists.intro;refine ⟨fun w1 hC=> ?_,hK _ ?_⟩;(focus ((first|(go_at_call 202;with_reducible exact bJ HIN HOUT HK (fun w1 hk=>HMP.out w1 hk.1) w1 hC)|(go_at_call 203;with_reducible exact bJ HIN HOUT HK (fun w1 hk=>HLA2.out w1 hk.1) w1 hC)|(go_at_call 188;with_reducible exact bJ HIN HOUT HK (fun w1 hk=>HMY.out w1 hk.1) w1 hC)|(go_at_call 204;with_reducible exact eJ HIN HOUT HK HAB2.out w1 hC)|(go_at_call 57;with_reducible exact bJ HIN HOUT HK (fun w1 hk=>HF2.out w1 hk.1) w1 hC)|(go_at_call 57;with_reducible exact bJ HIN HOUT HK (fun w1 hk=>HF1.out w1 hk.1) w1 hC)|(exact rfl)|(obtain ⟨hb1,⟨x0,x1⟩,⟨⟨y0,y1,y2,y3,y4,y5,y6,y7,y8⟩,y9⟩⟩:=HOUT.out w1 hC;clear hC;go_simp;first|done|exact rfl));done));clear hK K))
           refine wpQuiet_nil ?_;intro wn hC;have HO:=aB (HOUT.out _ hC);clear hC HIN HOUT C;obtain ⟨hb1,⟨x0,x1⟩,⟨⟨y0,y1,y2,y3,y4,y5,y6,y7,y8⟩,y9⟩⟩:=HO.out
           go_wp2
           go_ret;exact ⟨aD (by rw [HRB.out];simp),HO.out.1⟩
     · have q3:(s.toList==ls.toList)=false:=by rw [beq_eq_false_iff_ne];exact fun e=>h3 (bC e)
       have q3b:(s.toList=ls.toList)=False:=eq_false fun e=>h3 (bC e)
       have HE3:Hid (eqB s ls=false):=bX h3;rw [HE3.out] at HRB;clear h3 HE3
       go_enter Tryz.func163,Tryz.ntmps163
       go_wp2_with fail
       refine cE HK (by kernel_rfl) (by kernel_rfl) (by first|exact HO.out|exact HK.out.drew HO.out) ?_;intro C HIN HOUT;clear HO
       repeat
        (with_reducible refine wpQuiet_step (fun K hK=> ?_)
         go_simp
         first
          |(refine hK _ ?_;clear hK K)
          |(apply Exists.intro;refine ⟨fun w1 hC=> ?_,hK _ ?_⟩;(focus ((first|(go_at_call 202;with_reducible exact bJ HIN HOUT HK (fun w1 hk=>HMP.out w1 hk.1) w1 hC)|(go_at_call 203;with_reducible exact bJ HIN HOUT HK (fun w1 hk=>HLA2.out w1 hk.1) w1 hC)|(go_at_call 188;with_reducible exact bJ HIN HOUT HK (fun w1 hk=>HMY.out w1 hk.1) w1 hC)|(go_at_call 204;with_reducible exact eJ HIN HOUT HK HAB2.out w1 hC)|(go_at_call 57;with_reducible exact bJ HIN HOUT HK (fun w1 hk=>HF2.out w1 hk.1) w1 hC)|(go_at_call 57;with_reducible exact bJ HIN HOUT HK (fun w1 hk=>HF1.out w1 hk.1) w1 hC)|(exact rfl)|(obtain ⟨hb1,⟨x0,x1⟩,⟨⟨y0,y1,y2,y3,y4,y5,y6,y7,y8⟩,y9⟩⟩:=HOUT.out w1 hC;clear hC;go_simp;first|done|exact rfl));done));clear hK K))
       refine wpQuiet_nil ?_;intro wn hC;have HO:=aB (HOUT.out _ hC);clear hC HIN HOUT C;obtain ⟨hb1,⟨x0,x1⟩,⟨⟨y0,y1,y2,y3,y4,y5,y6,y7,y8⟩,y9⟩⟩:=HO.out
       go_wp2
       go_ret;exact ⟨aD (by rw [HRB.out];simp),HO.out.1⟩
   · have hd2:decide (nd>0)=false:=decide_eq_false hd
     rw [decide_eq_false hd] at HRB
     go_enter Tryz.func163,Tryz.ntmps163
     go_wp2_with fail
     refine cE HK (by kernel_rfl) (by kernel_rfl) (by first|exact HO.out|exact HK.out.drew HO.out) ?_;intro C HIN HOUT;clear HO
     repeat
      (with_reducible refine wpQuiet_step (fun K hK=> ?_)
       go_simp
       first
        |(refine hK _ ?_;clear hK K)
        |(apply Exists.intro;refine ⟨fun w1 hC=> ?_,hK _ ?_⟩;(focus ((first|(go_at_call 202;with_reducible exact bJ HIN HOUT HK (fun w1 hk=>HMP.out w1 hk.1) w1 hC)|(go_at_call 203;with_reducible exact bJ HIN HOUT HK (fun w1 hk=>HLA2.out w1 hk.1) w1 hC)|(go_at_call 188;with_reducible exact bJ HIN HOUT HK (fun w1 hk=>HMY.out w1 hk.1) w1 hC)|(go_at_call 204;with_reducible exact eJ HIN HOUT HK HAB2.out w1 hC)|(go_at_call 57;with_reducible exact bJ HIN HOUT HK (fun w1 hk=>HF2.out w1 hk.1) w1 hC)|(go_at_call 57;with_reducible exact bJ HIN HOUT HK (fun w1 hk=>HF1.out w1 hk.1) w1 hC)|(exact rfl)|(obtain ⟨hb1,⟨x0,x1⟩,⟨⟨y0,y1,y2,y3,y4,y5,y6,y7,y8⟩,y9⟩⟩:=HOUT.out w1 hC;clear hC;go_simp;first|done|exact rfl));done));clear hK K))
     refine wpQuiet_nil ?_;intro wn hC;have HO:=aB (HOUT.out _ hC);clear hC HIN HOUT C;obtain ⟨hb1,⟨x0,x1⟩,⟨⟨y0,y1,y2,y3,y4,y5,y6,y7,y8⟩,y9⟩⟩:=HO.out
     go_wp2
     go_ret;exact ⟨aD (by rw [HRB.out];simp),HO.out.1⟩
noncomputable def lZ (L:List Dr) (i:Nat):Bool:=match L[i]? with
 |some d=>vP (L.take i) d
 |none=>true
theorem qA {L:List Dr} {i:Nat} (h:i<L.length):lZ L i=vP (L.take i) L[i]:=by
 unfold lZ;rw [List.getElem?_eq_getElem h]
noncomputable def GA:List Dr→Bool
 |[]=>false
 |d::_=>nZ d
theorem mP {L:List Dr} (h:0<L.length):GA L=nZ L[0]:=by
 cases L with
 |nil=>simp at h
 |cons d L=>rfl
noncomputable def cH (L:List Dr):Bool:=(decide (0<L.length)&&decide (L.length≤257))&&(GA L&&(List.range L.length).all fun i=>decide (i=0)||lZ L i)
theorem cZ {L:List Dr}:cH L=true↔(0<L.length∧L.length≤257)∧GA L=true∧∀ i,i<L.length→i≠0→lZ L i=true:=by
 unfold cH;simp only [Bool.and_eq_true,decide_eq_true_eq,List.all_eq_true,List.mem_range,Bool.or_eq_true];exact ⟨fun ⟨h1,h2,h3⟩=>⟨h1,h2,fun i hi h0=>(h3 i hi).resolve_left h0⟩,fun ⟨h1,h2,h3⟩=>⟨h1,h2,fun i hi=>(Nat.eq_zero_or_pos i).imp id fun h=>h3 i hi (by omega)⟩⟩
theorem nH {L:List Dr} (h:¬ ((0<L.length∧L.length≤257)∧GA L=true∧∀ i,i<L.length→i≠0→lZ L i=true)):cH L=false:=by
 cases hc:cH L with
 |false=>rfl
 |true=>exact absurd (cZ.1 hc) h
def qB (L:List Dr):Prop:=FitP1 L∧∀ d ∈ L,PgZ d.pk
theorem FitD.take {L:List Dr} (h:FitD L) (k:Nat):FitD (L.take k):=fun d hd=>h d (List.mem_of_mem_take hd)
def Ba:Bool→Int
 |true=>0
 |false=>42
set_option maxHeartbeats 6400000 in
theorem LQ {L:List Dr} {v:Value} {w:World} (h:DirsAt w v L) (hz:L.length≤9223372036854775807) (hk:qB L) (he:Env w) (hf:FL w):
 Calls Tryz.prog 115 #[.agg #[v]] w fun e w'=>e= .returned (.int .i64 (Ba (cH L)))∧Below w.heap.size w w':=by
 have HYE:Hid (cH L=true→Ba (cH L)=0):=fun e=>by rw [e];rfl
 have HNO:Hid (cH L=false→Ba (cH L)=42):=fun e=>by rw [e];rfl
 have HDA:Hid (∀ w1,Below w.heap.size w w1→DirsAt w1 v L):=fun w1 hb=>h.below hb
 obtain ⟨ad,cap,rfl,hc,hsl⟩:=h.sl;have HMR:Hid (∀ w1,Below w.heap.size w w1→∀ i (hi:i<L.length) u v1 v2 v3 g o,DrIn w1 g o L[i] u v1 v2 v3→Calls Tryz.prog 162 #[.agg #[u,.string L[i].pk.nm,.int .i64 L[i].pk.a,.int .i64 L[i].pk.b,.int .i64 L[i].pk.c,v1,v2,v3,.int .i64 L[i].nd]] w1 fun e w'=>e= .returned (.bool (nZ L[i]))∧Below w1.heap.size w1 w'):=fun w1 hb i hi u v1 v2 v3 g o hd=>CF hd.2.1.1 hd.2.1.2 (hk.2 _ (List.getElem_mem hi))
 have HMF:Hid (∀ w1,Below w.heap.size w w1→∀ i (hi:i<L.length) u v1 v2 v3 g o,DrIn w1 g o L[i] u v1 v2 v3→Calls Tryz.prog 163 #[.agg #[.slice ad i cap],.agg #[u,.string L[i].pk.nm,.int .i64 L[i].pk.a,.int .i64 L[i].pk.b,.int .i64 L[i].pk.c,v1,v2,v3,.int .i64 L[i].nd]] w1 fun e w'=>e= .returned (.bool (lZ L i))∧Below w1.heap.size w1 w'):=fun w1 hb i hi u v1 v2 v3 g o hd=>by
  rw [qA hi];exact vQ (DirsAt.cut (n:=L.length) (HDA.out w1 hb) (by omega)) (by rw [List.length_take];omega) (hk.1.fit.take i) hd.2.1.1 (hk.1 _ (List.getElem_mem hi)) hd.2.1.2 (he.below hb) (hf.below hb)
 have HS:Hid (∀ w1,Below w.heap.size w w1→∀ i (_:i<L.length),∃ g o,ad=some ⟨g,o,none⟩∧∃ u v1 v2 v3,DrIn w1 g (o+i*9) L[i] u v1 v2 v3):=fun w1 hb i hi=>by
  obtain ⟨g,o,e,u,v1,v2,v3,hd⟩:=hsl i hi;exact ⟨g,o,e,u,v1,v2,v3,hd.below hb⟩
 clear h hk he hf hsl
 by_cases h0:L.length=0
 · have HR:Hid (cH L=false):=nH fun h=>by omega
   rw [h0]
   go_enter Tryz.func115,Tryz.ntmps115
   go_wp2
   go_ret;exact ⟨cV (HNO.out HR.out).symm,aC _ _⟩
 · have hn0:((L.length:Int)==0)=false:=by rw [beq_eq_false_iff_ne];omega
   by_cases h1:257<L.length
   · have HR:Hid (cH L=false):=nH fun h=>by omega
     have hg1:decide ((L.length:Int)>257)=true:=decide_eq_true (by omega)
     go_enter Tryz.func115,Tryz.ntmps115
     go_wp2
     go_ret;exact ⟨cV (HNO.out HR.out).symm,aC _ _⟩
   · have hg1:decide ((L.length:Int)>257)=false:=decide_eq_false (by omega)
     have hpos:0<L.length:=by omega
     obtain ⟨g,o,rfl,u,v1,v2,v3,hd⟩:=HS.out _ (aC w (.cells #[.slice ad L.length cap] 30)) 0 hpos;have HC:=aB (HMR.out _ (aC w (.cells #[.slice (some ⟨g,o,none⟩) L.length cap] 30)) 0 hpos u v1 v2 v3 _ _ hd);have HRL:=aB (mP hpos);obtain ⟨⟨c0,c1,c2,c3,c4,c5,c6,c7,c8⟩,⟨hpa,hpk⟩,hg⟩:=hd;obtain ⟨ua,uc,rfl⟩:=hpa.sl;obtain ⟨x1,y1,rfl⟩:=hpk.1.sl;obtain ⟨x2,y2,rfl⟩:=hpk.2.1.sl;obtain ⟨x3,y3,rfl⟩:=hpk.2.2.sl;rw [Nat.zero_mul,Nat.add_zero] at c0 c1 c2 c3 c4 c5 c6 c7 c8;generalize L[0]=d at*;clear hpa hpk;cases hrb:nZ d
     · have HR:Hid (cH L=false):=nH fun h=>by rw [HRL.out,hrb] at h;cases h.2.1
       rw [hrb] at HC
       go_enter Tryz.func115,Tryz.ntmps115
       go_wp2_with (go_at_call 162;refine HC.out.mono ?_;rintro e w1 ⟨rfl,ok⟩)
       go_ret;exact ⟨cV (HNO.out HR.out).symm,aA (aC _ _) ok⟩
     · rw [hrb] at HC HRL
       go_enter Tryz.func115,Tryz.ntmps115
       go_wp2_with (go_at_call 162;refine HC.out.mono ?_;rintro e w1 ⟨rfl,ok⟩;have HB1:Hid (Below w.heap.size w w1∧BxT w1 w.heap.size (.slice (some ⟨g,o,none⟩) L.length cap)):=⟨aA (aC _ _) ok,cL _ _ _ _ (BxT.new _ _) ok⟩;obtain ⟨_,z0,z1⟩:=HB1.out;clear ok)
       clear c0 c1 c2 c3 c4 c5 c6 c7 c8 HC hrb z0 z1 hg
       go_loopw [25] (fun i wr=>∃ k:Nat,k≤L.length∧i= .int .i64 k∧(Below w.heap.size w wr∧BxT wr w.heap.size (.slice (some ⟨g,o,none⟩) L.length cap))∧∀ j,j<k→j≠0→lZ L j=true) (fun i _=>L.length - (intOf i).toNat)
       case atStart=>exact ⟨0,Nat.zero_le _,rfl,HB1.out,fun j h=>by omega⟩
       case round=>
        obtain ⟨k,hk,rfl,⟨hb,bx0,bx1⟩,hall⟩:=hrel;have HALL:=aB hall;have HBX:Hid (BxT wr w.heap.size (.slice (some ⟨g,o,none⟩) L.length cap)):=⟨bx0,bx1⟩;have HB:=aB hb;clear hall
        by_cases hlt:k<L.length
        · rcases Nat.eq_zero_or_pos k with hk0|hk0
          · subst hk0
            clear bx0 bx1 hb;have HK:Hid (KeepP fun w1=>Below w.heap.size w w1∧BxT w1 w.heap.size (.slice (some ⟨g,o,none⟩) L.length cap)):=(aG w).and (cL _ _);have HO:Hid (Below w.heap.size w wr∧BxT wr w.heap.size (.slice (some ⟨g,o,none⟩) L.length cap)):=⟨HB.out,HBX.out⟩
            go_wp2_with fail
            refine cE HK (by kernel_rfl) (by kernel_rfl) (by first|exact HO.out|exact HK.out.drew HO.out) ?_;intro C HIN HOUT;clear HO
            repeat
             (with_reducible refine wpQuiet_step (fun K hK=> ?_)
              go_simp
              first
               |(refine hK _ ?_;clear hK K)
               |(apply Exists.intro;refine ⟨fun w1 hC=> ?_,hK _ ?_⟩;(focus ((first|(exact rfl)|(obtain ⟨hb1,⟨b0,b1⟩⟩:=HOUT.out w1 hC;clear hC;go_simp;first|done|exact rfl));done));clear hK K))
            refine wpQuiet_nil ?_;intro wn hC;have HO:=aB (HOUT.out _ hC);clear hC HIN HOUT C;obtain ⟨hb1,⟨b0,b1⟩⟩:=HO.out
            go_wp2
            exact ⟨⟨0+1,by omega,by go_num,HO.out,fun j h h2=>by omega⟩,by simp [intOf];omega⟩
          · obtain ⟨g',o',eg,u,v1,v2,v3,hd⟩:=HS.out wr hb k hlt
            cases eg;have HMC:Hid (∀ w1,Below w.heap.size w w1→DrIn w1 g (o+k*9) L[k] u v1 v2 v3→Calls Tryz.prog 163 #[.agg #[.slice (some ⟨g,o,none⟩) k cap],.agg #[u,.string L[k].pk.nm,.int .i64 L[k].pk.a,.int .i64 L[k].pk.b,.int .i64 L[k].pk.c,v1,v2,v3,.int .i64 L[k].nd]] w1 fun e w'=>e= .returned (.bool (lZ L k))∧Below w1.heap.size w1 w'):=fun w1 hb hd=>HMF.out w1 hb k hlt u v1 v2 v3 g _ hd
            have HNX:Hid (lZ L k=true→∀ j,j<k+1→j≠0→lZ L j=true):=fun h j hj h2=>by
             rcases Nat.lt_or_ge j k with hjk|hjk
             · exact HALL.out j hjk h2
             · obtain rfl:j=k:=by omega
               exact h
            have HBD:Hid (lZ L k=false→cH L=false):=fun h=>nH fun hh=>by have:=hh.2.2 k hlt (by omega);rw [h] at this;cases this
            obtain ⟨ua',uc',rfl⟩:=hd.2.1.1.sl;obtain ⟨p1,q1,rfl⟩:=hd.2.1.2.1.sl;obtain ⟨p2,q2,rfl⟩:=hd.2.1.2.2.1.sl;obtain ⟨p3,q3,rfl⟩:=hd.2.1.2.2.2.sl;generalize L[k]=dk at*;have HK:Hid (KeepP fun w1=>Below w.heap.size w w1∧BxT w1 w.heap.size (.slice (some ⟨g,o,none⟩) L.length cap)∧DrIn w1 g (o+k*9) dk (.slice ua' dk.pa.length uc') (.slice p1 dk.pk.d.length q1) (.slice p2 dk.pk.p.length q2) (.slice p3 dk.pk.o.length q3)):=(aG w).and ((cL _ _).and (rJ _ _ _ _ _ _ _));have HO:Hid (Below w.heap.size w wr∧BxT wr w.heap.size (.slice (some ⟨g,o,none⟩) L.length cap)∧DrIn wr g (o+k*9) dk (.slice ua' dk.pa.length uc') (.slice p1 dk.pk.d.length q1) (.slice p2 dk.pk.p.length q2) (.slice p3 dk.pk.o.length q3)):=⟨HB.out,HBX.out,hd⟩;have hkc:k≤cap:=by omega
            have hki:((k:Int)>0)=True:=eq_true (by omega);have hki2:decide ((k:Int)>0)=true:=decide_eq_true (by omega);clear hd bx0 bx1 hb;cases hfo:lZ L k
            · have HR:=aB (HBD.out hfo)
              rw [hfo] at HMC;clear HNX HBD HALL
              go_wp2_with fail
              refine cE HK (by kernel_rfl) (by kernel_rfl) (by first|exact HO.out|exact HK.out.drew HO.out) ?_;intro C HIN HOUT;clear HO
              repeat
               (with_reducible refine wpQuiet_step (fun K hK=> ?_)
                go_simp
                first
                 |(refine hK _ ?_;clear hK K)
                 |(apply Exists.intro;refine ⟨fun w1 hC=> ?_,hK _ ?_⟩;(focus ((first|(go_at_call 163;with_reducible exact bJ HIN HOUT HK (fun w1 hk=>HMC.out w1 hk.1 hk.2.2) w1 hC)|(exact rfl)|(obtain ⟨hb1,⟨b0,b1⟩,⟨⟨d0,d1,d2,d3,d4,d5,d6,d7,d8⟩,_,dg⟩⟩:=HOUT.out w1 hC;clear hC;go_simp;first|done|exact rfl));done));clear hK K))
              refine wpQuiet_nil ?_;intro wn hC;have HO:=aB (HOUT.out _ hC);clear hC HIN HOUT C;obtain ⟨hb1,⟨b0,b1⟩,⟨⟨d0,d1,d2,d3,d4,d5,d6,d7,d8⟩,_,dg⟩⟩:=HO.out
              go_wp2
              go_ret;exact ⟨cV (HNO.out HR.out).symm,HO.out.1⟩
            · have HR:=aB (HNX.out hfo)
              rw [hfo] at HMC;clear HNX HBD HALL
              go_wp2_with fail
              refine cE HK (by kernel_rfl) (by kernel_rfl) (by first|exact HO.out|exact HK.out.drew HO.out) ?_;intro C HIN HOUT;clear HO
              repeat
               (with_reducible refine wpQuiet_step (fun K hK=> ?_)
                go_simp
                first
                 |(refine hK _ ?_;clear hK K)
                 |(apply Exists.intro;refine ⟨fun w1 hC=> ?_,hK _ ?_⟩;(focus ((first|(go_at_call 163;with_reducible exact bJ HIN HOUT HK (fun w1 hk=>HMC.out w1 hk.1 hk.2.2) w1 hC)|(exact rfl)|(obtain ⟨hb1,⟨b0,b1⟩,⟨⟨d0,d1,d2,d3,d4,d5,d6,d7,d8⟩,_,dg⟩⟩:=HOUT.out w1 hC;clear hC;go_simp;first|done|exact rfl));done));clear hK K))
              refine wpQuiet_nil ?_;intro wn hC;have HO:=aB (HOUT.out _ hC);clear hC HIN HOUT C;obtain ⟨hb1,⟨b0,b1⟩,⟨⟨d0,d1,d2,d3,d4,d5,d6,d7,d8⟩,_,dg⟩⟩:=HO.out
              go_wp2
              exact ⟨⟨k+1,by omega,by go_num,⟨HO.out.1,HO.out.2.1⟩,HR.out⟩,by simp [intOf];omega⟩
        · obtain rfl:k=L.length:=by omega
          have HR:Hid (cH L=true):=cZ.2 ⟨⟨hpos,by omega⟩,HRL.out,HALL.out⟩;clear hb
          go_wp2
          go_ret;exact ⟨cV (HYE.out HR.out).symm,HB.out⟩
end Go.Proofs.YtmnhnofnlcbliaaGreatDoor
namespace Go.Proofs.YtmnhnofnlcbliaaGreatDoor
open Go.Shelf Go.RowKit Go.Lib Go.Sort
set_option maxRecDepth 100000
structure Ord3 {α:Type} (f:α→α→Int):Prop where
 eq:∀ x y,f x y=0↔x=y
 anti:∀ x y,f x y<0↔0<f y x
 trans:∀ x y z,f x y<0→f y z<0→f x z<0
theorem Ord3.tri {α:Type} {f:α→α→Int} (h:Ord3 f) (x y:α):f x y<0∨x=y∨f y x<0:=by
 rcases Int.lt_trichotomy (f x y) 0 with q|q|q
 · exact Or.inl q
 · exact Or.inr (Or.inl ((h.eq _ _).1 q))
 · exact Or.inr (Or.inr ((h.anti _ _).2 q))
theorem Ord3.irr {α:Type} {f:α→α→Int} (h:Ord3 f) (x:α):f x x=0:=(h.eq x x).2 rfl
theorem Ord3.swo {α β:Type} {f:β→β→Int} (h:Ord3 f) (k:α→β):SWO (ltOf fun x y=>f (k x) (k y)) where
 irrefl x:=by show decide (f (k x) (k x)<0)=false;rw [h.irr];rfl
 trans x y z h1 h2:=by
  unfold ltOf at*;rw [decide_eq_true_iff] at*;exact h.trans _ _ _ h1 h2
 ntrans x y z h1 h2:=by
  unfold ltOf at*;rw [decide_eq_false_iff_not] at*;intro (q:f (k x) (k z)<0)
  rcases h.tri (k x) (k y) with p|p|p
  · exact h1 p
  · rw [p] at q
    exact h2 q
  · exact h2 (h.trans _ _ _ p q)
def eF (s t:ByteArray):Int:=Lib.compareBytes s.data.toList t.data.toList
theorem oK:∀ (a b:List UInt8),0<Lib.compareBytes a b↔Lib.compareBytes b a<0
 |[],[]=>by simp [Lib.compareBytes]
 |[],_::_=>by simp [Lib.compareBytes]
 |_::_,[]=>by simp [Lib.compareBytes]
 |a::ra,b::rb=>by
  have ih:=oK ra rb;unfold Lib.compareBytes
  by_cases h1:a<b
  · have h2:¬ b<a:=UInt8.not_lt.2 (UInt8.le_of_lt h1)
    rw [if_pos h1,if_neg h2,if_pos h1]
    simp
  · rw [if_neg h1]
    by_cases h2:b<a
    · rw [if_pos h2,if_pos h2]
      simp
    · rw [if_neg h2,if_neg h2,if_neg h1]
      exact ih
theorem Ej {s t:ByteArray} (h:s.data.toList=t.data.toList):s=t:=bC (by rw [ByteArray.toList_eq,ByteArray.toList_eq];exact h)
theorem tL:Ord3 eF where
 eq x y:=by
  unfold eF;rw [vA];exact ⟨Ej,fun e=>by rw [e]⟩
 anti x y:=by unfold eF;rw [oK]
 trans x y z h1 h2:=by
  unfold eF at*;rw [lJ] at*;exact WideShapes.bytes_trans _ _ _ h1 h2
theorem Bb (s t:ByteArray):eF s t=if bytesBefore s.data.toList t.data.toList=true then -1 else if bytesBefore t.data.toList s.data.toList=true then 1 else 0:=by
 have h:∀ a b:List UInt8,Lib.compareBytes a b= -1∨Lib.compareBytes a b=0∨Lib.compareBytes a b=1:=by
  intro a
  induction a with
  |nil=>intro b;cases b<;>simp [Lib.compareBytes]
  |cons x a ih=>
   intro b;cases b with
   |nil=>simp [Lib.compareBytes]
   |cons y b=>
    unfold Lib.compareBytes
    split
    · exact Or.inl rfl
    · split
      · exact Or.inr (Or.inr rfl)
      · exact ih b
 have h1:=lJ s.data.toList t.data.toList;have h2:=lJ t.data.toList s.data.toList;have h3:=oK s.data.toList t.data.toList;have h4:=h s.data.toList t.data.toList;unfold eF
 split
 · rename_i q
   have:=h1.2 q
   omega
 · rename_i q
   have q1:¬ Lib.compareBytes s.data.toList t.data.toList<0:=fun p=>q (h1.1 p)
   split
   · rename_i r
     have:=h3.2 (h2.2 r)
     omega
   · rename_i r
     have q2:¬ 0<Lib.compareBytes s.data.toList t.data.toList:=fun p=>r (h2.1 (h3.1 p))
     omega
end Go.Proofs.YtmnhnofnlcbliaaGreatDoor
