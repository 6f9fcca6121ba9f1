/- Mf2, Gt7: their declarations that are needed, laid in one text, remarks and blanks left out. -/
import Derived.Test.YtpfemjlhklnfoaaGreatDoorMh26
namespace Go.Proofs.YtpfemjlhklnfoaaGreatDoor
open Go.RowKit
set_option maxRecDepth 100000
def mwK:Nat→ByteArray
 |0=>⟨#[110,101,101,100,115]⟩
 |1=>⟨#[100,101,118]⟩
 |2=>⟨#[108,105,107,101,115]⟩
 |_=>⟨#[112,105,110,115]⟩
theorem sQ (k:Nat):(mwK k).size≤16:=by
 match k with
 |0|1|2=>decide
 |_+3=>show (⟨#[112,105,110,115]⟩:ByteArray).size≤16;decide
def gA (P:Mn):Nat→Sc.Bs
 |0=>[112,114,111,106,101,99,116,10]
 |1=>[112,114,111,106,101,99,116,10]++aV (mwK 0) P.d
 |2=>[112,114,111,106,101,99,116,10]++aV (mwK 0) P.d++aV (mwK 1) P.v
 |3=>[112,114,111,106,101,99,116,10]++aV (mwK 0) P.d++aV (mwK 1) P.v++aV (mwK 2) P.o
 |_=>[112,114,111,106,101,99,116,10]++aV (mwK 0) P.d++aV (mwK 1) P.v++aV (mwK 2) P.o++aV (mwK 3) P.p
def qY (P:Mn):Sc.Bs:=gA P 4
noncomputable def aO (P:Mn):Bool:=gK P&&decide ((qY P).length≤4096)
noncomputable def dD (P:Mn):ByteArray:=if aO P=true then ⟨(qY P).toArray⟩ else ⟨#[]⟩
set_option maxHeartbeats 6400000 in
theorem oO {P:Mn} {v1 v2 v3 v4:Value} {w:World} (h:MnAt w P v1 v2 v3 v4) (he:Env w) (hf:FL w) (hsd:gK P=true):
 Calls Tryz.prog 106 #[.agg #[v1,v2,v3,v4]] w fun e w'=>e= .returned (.tuple #[.string (dD P),.bool (aO P)])∧Below w.heap.size w w':=by
 have HSO:Hid (∀ w1,Below w.heap.size w w1→Calls Tryz.prog 160 #[.agg #[v1,v2,v3,v4]] w1 fun e w'=>e= .returned (.bool true)∧Below w1.heap.size w1 w'):=fun w1 hb=>by have:=vN (h.below hb);rw [hsd] at this;exact this
 have hs:=hsd;unfold gK at hs;simp only [Bool.and_eq_true] at hs;obtain ⟨⟨hd,hv,ho,hp⟩,_⟩:=hs;have HPG:Hid (∀ w1,Below w.heap.size w w1→MnAt w1 P v1 v2 v3 v4):=fun w1 hb=>h.below hb
 have HMD:Hid (aM P.d=true∧aM P.v=true∧aM P.o=true∧aM P.p=true):=⟨hd,hv,ho,hp⟩;have HF0:=aA (cY (sQ 0) hd P.d.length);have HF1:=aA (cY (sQ 1) hv P.v.length);have HF2:=aA (cY (sQ 2) ho P.o.length);rw [List.take_length] at HF0 HF1 HF2;have HWB:Hid (aO P=decide ((qY P).length≤4096)):=by unfold Hid aO;rw [hsd];rfl
 have HPT:Hid (gA P 4=qY P):=rfl;obtain ⟨a1,c1,rfl⟩:=h.1.sl;obtain ⟨a2,c2,rfl⟩:=h.2.1.sl;obtain ⟨a3,c3,rfl⟩:=h.2.2.1.sl;obtain ⟨a4,c4,rfl⟩:=h.2.2.2.sl;have HLI:Hid (∀ w1,Calls Tryz.prog 161 #[.agg #[.slice a1 P.d.length c1,.slice a2 P.v.length c2,.slice a3 P.o.length c3,.slice a4 P.p.length c4]] w1 fun e w'=>∃ g,e= .returned (.slice (some ⟨g,0,none⟩) 4 4)∧Below w1.heap.size w1 w'∧w1.heap.size≤g∧w'.heap[g]? =some (cA (.slice a1 P.d.length c1) (.slice a2 P.v.length c2) (.slice a3 P.o.length c3) (.slice a4 P.p.length c4))):=fun w1=>vM _ _ _ _ _ _ _ _ _ _ _ _ w1
 have HLE:Hid (∀ w1 l w',TW w1 l w'→Calls Tryz.prog 136 #[.pointer (some ⟨w1.heap.size,0,none⟩)] w' fun e w2=>e= .returned (.int .i64 l.length)∧w2=w'):=fun w1 l w' h=>yZ h.1
 have HST:Hid (∀ w1 l w',TW w1 l w'→Calls Tryz.prog 137 #[.pointer (some ⟨w1.heap.size,0,none⟩)] w' fun e w2=>e= .returned (.string ⟨l.toArray⟩)∧Below w1.heap.size w' w2):=fun w1 l w' h=>Tryz.Builder_String_any _ _ l w' h.1 h.2.size
 have HWR:Hid (∀ w1,Below w.heap.size w w1→∀ (l:Sc.Bs) wz (x:ByteArray) v L,TW w1 l wz→DepsAt w1 v L→aM L=true→x.size≤16→l.length≤1000000→Calls Tryz.prog 135 #[.pointer (some ⟨w1.heap.size,0,none⟩),.string x,v] wz fun e w'=>e= .returned (.tuple #[])∧TW w1 (l++aV x L) w'∧FarB w1.heap.size wz w'):=fun w1 hb l wz x v L h1 h2 h3 h4 h5=>pW h1 h2 h3 (he.below hb) (hf.below hb) h4 h5
 have HPU:Hid (∀ w1 (l:Sc.Bs) wz (s:ByteArray),TW w1 l wz→l.length≤1000000→s.size≤1000000→Calls Tryz.prog 131 #[.pointer (some ⟨w1.heap.size,0,none⟩),.string s] wz fun e w'=>e= .returned (.tuple #[.int .i64 s.size,.nilIface])∧TW w1 (l++s.data.toList) w'∧FarB w1.heap.size wz w'):=fun w1 l wz s h1 h2 h3=>h1.put s (by omega) h3
 clear h he hf hsd hd hv ho hp;have HBX:Hid (BxM (w.alloc (.cells #[.slice a1 P.d.length c1,.slice a2 P.v.length c2,.slice a3 P.o.length c3,.slice a4 P.p.length c4] 57)) w.heap.size (.slice a1 P.d.length c1) (.slice a2 P.v.length c2) (.slice a3 P.o.length c3) (.slice a4 P.p.length c4)):=BxM.new rfl _ _ _ _;have HKB:Hid (KeepP fun w1=>BxM w1 w.heap.size (.slice a1 P.d.length c1) (.slice a2 P.v.length c2) (.slice a3 P.o.length c3) (.slice a4 P.p.length c4)):=AB _ _ _ _ _
 go_enter Tryz.func106,Tryz.ntmps106
 go_wp2_with (first
  |(go_at_call 160;refine (HSO.out _ (aD _ _)).mono ?_;rintro e w1 ⟨rfl,ok⟩;have HO1:Hid (Below w.heap.size w w1∧BxM w1 w.heap.size (.slice a1 P.d.length c1) (.slice a2 P.v.length c2) (.slice a3 P.o.length c3) (.slice a4 P.p.length c4)):=⟨aB (aD _ _) ok,HKB.out _ _ HBX.out ok⟩;have HT0:Hid (TW w1 [] (w1.alloc (.cells #[.pointer none,.slice none 0 0] 173))):=TW.new w1;clear ok HBX)
  |(go_at_call 131;refine (HPU.out w1 [] _ ⟨#[112,114,111,106,101,99,116,10]⟩ HT0.out (by decide) (by decide)).mono ?_;rintro e w3 ⟨rfl,ok,_⟩;have HT3:Hid (TW w1 (gA P 0) w3):=ok;have HX3:=aA (HKB.out _ _ HO1.out.2 HT3.out.2);obtain ⟨k0,k1,k2,k3,k4⟩:=HX3.out;clear ok)
  |(go_at_call 161;refine (HLI.out _).mono ?_;rintro e w4 ⟨g,rfl,ok,hg,hgl⟩;have HT4:Hid (TW w1 (gA P 0) w4∧w4.heap[g]? =some (cA (.slice a1 P.d.length c1) (.slice a2 P.v.length c2) (.slice a3 P.o.length c3) (.slice a4 P.p.length c4))∧w1.heap.size<g):=⟨eX _ _ _ _ HT3.out ok,hgl,by have:=HT3.out.far;omega⟩;clear ok hg hgl k0 k1 k2 k3 k4))
 go_loopw [14] (fun i wr=>∃ k:Nat,k≤4∧i= .int .i64 k∧TW w1 (gA P k) wr∧wr.heap[g]? =some (cA (.slice a1 P.d.length c1) (.slice a2 P.v.length c2) (.slice a3 P.o.length c3) (.slice a4 P.p.length c4))∧w1.heap.size<g) (fun i _=>4 - (intOf i).toNat)
 case atStart=>exact ⟨0,Nat.zero_le _,rfl,HT4.out⟩
 case round=>
  clear HT4;obtain ⟨k,hk,rfl,htw⟩:=hrel
  rcases (show k=0∨k=1∨k=2∨k=3∨k=4 by omega) with rfl|rfl|rfl|rfl|rfl
  · have HTK:=aA htw
    clear htw;have q0:wr.cell? ⟨g,0,none⟩=some (.string ⟨#[110,101,101,100,115]⟩):=by rw [Lib.cell_of_heap HTK.out.2.1];rfl
    have q1:wr.cell? ⟨g,1,none⟩=some (.slice a1 P.d.length c1):=by rw [Lib.cell_of_heap HTK.out.2.1];rfl
    have hpl:(gA P 0).length≤1000000:=by
     have h2:=HF0.out;have h3:=HF1.out;have h4:=HF2.out;show 8≤1000000;decide
    have HTA:Hid (TW w1 (gA P 0) (wr.alloc (.cells #[.string ⟨#[110,101,101,100,115]⟩,.slice a1 P.d.length c1] 208))∧(wr.alloc (.cells #[.string ⟨#[110,101,101,100,115]⟩,.slice a1 P.d.length c1] 208)).heap[g]? =some (cA (.slice a1 P.d.length c1) (.slice a2 P.v.length c2) (.slice a3 P.o.length c3) (.slice a4 P.p.length c4))∧w1.heap.size<g):=⟨eX _ _ _ _ HTK.out.1 (aD _ _),((aD _ _).block g (Array.getElem?_eq_some_iff.1 HTK.out.2.1).1).trans HTK.out.2.1,HTK.out.2.2⟩
    go_wp2_with (go_at_call 135;refine (HWR.out w1 HO1.out.1 _ _ ⟨#[110,101,101,100,115]⟩ _ P.d HTA.out.1 (HPG.out w1 HO1.out.1).1 HMD.out.1 (by decide) hpl).mono ?_;rintro e w5 ⟨rfl,ok,far⟩;have HT5:Hid (TW w1 (gA P (0+1)) w5∧w5.heap[g]? =some (cA (.slice a1 P.d.length c1) (.slice a2 P.v.length c2) (.slice a3 P.o.length c3) (.slice a4 P.p.length c4))∧w1.heap.size<g):=⟨ok,far _ _ _ _ HTA.out.2.1 (by decide) (by have:=HTA.out.2.2;omega),HTA.out.2.2⟩;clear ok far)
    exact ⟨⟨0+1,by omega,rfl,HT5.out⟩,by simp [intOf]⟩
  · have HTK:=aA htw
    clear htw;have q0:wr.cell? ⟨g,2,none⟩=some (.string ⟨#[100,101,118]⟩):=by rw [Lib.cell_of_heap HTK.out.2.1];rfl
    have q1:wr.cell? ⟨g,3,none⟩=some (.slice a2 P.v.length c2):=by rw [Lib.cell_of_heap HTK.out.2.1];rfl
    have hpl:(gA P 1).length≤1000000:=by
     have h2:=HF0.out;have h3:=HF1.out;have h4:=HF2.out;simp only [gA,List.length_append,List.length_cons,List.length_nil] at*;omega
    have HTA:Hid (TW w1 (gA P 1) (wr.alloc (.cells #[.string ⟨#[100,101,118]⟩,.slice a2 P.v.length c2] 208))∧(wr.alloc (.cells #[.string ⟨#[100,101,118]⟩,.slice a2 P.v.length c2] 208)).heap[g]? =some (cA (.slice a1 P.d.length c1) (.slice a2 P.v.length c2) (.slice a3 P.o.length c3) (.slice a4 P.p.length c4))∧w1.heap.size<g):=⟨eX _ _ _ _ HTK.out.1 (aD _ _),((aD _ _).block g (Array.getElem?_eq_some_iff.1 HTK.out.2.1).1).trans HTK.out.2.1,HTK.out.2.2⟩
    go_wp2_with (go_at_call 135;refine (HWR.out w1 HO1.out.1 _ _ ⟨#[100,101,118]⟩ _ P.v HTA.out.1 (HPG.out w1 HO1.out.1).2.1 HMD.out.2.1 (by decide) hpl).mono ?_;rintro e w5 ⟨rfl,ok,far⟩;have HT5:Hid (TW w1 (gA P (1+1)) w5∧w5.heap[g]? =some (cA (.slice a1 P.d.length c1) (.slice a2 P.v.length c2) (.slice a3 P.o.length c3) (.slice a4 P.p.length c4))∧w1.heap.size<g):=⟨ok,far _ _ _ _ HTA.out.2.1 (by decide) (by have:=HTA.out.2.2;omega),HTA.out.2.2⟩;clear ok far)
    exact ⟨⟨1+1,by omega,rfl,HT5.out⟩,by simp [intOf]⟩
  · have HTK:=aA htw
    clear htw;have q0:wr.cell? ⟨g,4,none⟩=some (.string ⟨#[108,105,107,101,115]⟩):=by rw [Lib.cell_of_heap HTK.out.2.1];rfl
    have q1:wr.cell? ⟨g,5,none⟩=some (.slice a3 P.o.length c3):=by rw [Lib.cell_of_heap HTK.out.2.1];rfl
    have hpl:(gA P 2).length≤1000000:=by
     have h2:=HF0.out;have h3:=HF1.out;have h4:=HF2.out;simp only [gA,List.length_append,List.length_cons,List.length_nil] at*;omega
    have HTA:Hid (TW w1 (gA P 2) (wr.alloc (.cells #[.string ⟨#[108,105,107,101,115]⟩,.slice a3 P.o.length c3] 208))∧(wr.alloc (.cells #[.string ⟨#[108,105,107,101,115]⟩,.slice a3 P.o.length c3] 208)).heap[g]? =some (cA (.slice a1 P.d.length c1) (.slice a2 P.v.length c2) (.slice a3 P.o.length c3) (.slice a4 P.p.length c4))∧w1.heap.size<g):=⟨eX _ _ _ _ HTK.out.1 (aD _ _),((aD _ _).block g (Array.getElem?_eq_some_iff.1 HTK.out.2.1).1).trans HTK.out.2.1,HTK.out.2.2⟩
    go_wp2_with (go_at_call 135;refine (HWR.out w1 HO1.out.1 _ _ ⟨#[108,105,107,101,115]⟩ _ P.o HTA.out.1 (HPG.out w1 HO1.out.1).2.2.1 HMD.out.2.2.1 (by decide) hpl).mono ?_;rintro e w5 ⟨rfl,ok,far⟩;have HT5:Hid (TW w1 (gA P (2+1)) w5∧w5.heap[g]? =some (cA (.slice a1 P.d.length c1) (.slice a2 P.v.length c2) (.slice a3 P.o.length c3) (.slice a4 P.p.length c4))∧w1.heap.size<g):=⟨ok,far _ _ _ _ HTA.out.2.1 (by decide) (by have:=HTA.out.2.2;omega),HTA.out.2.2⟩;clear ok far)
    exact ⟨⟨2+1,by omega,rfl,HT5.out⟩,by simp [intOf]⟩
  · have HTK:=aA htw
    clear htw;have q0:wr.cell? ⟨g,6,none⟩=some (.string ⟨#[112,105,110,115]⟩):=by rw [Lib.cell_of_heap HTK.out.2.1];rfl
    have q1:wr.cell? ⟨g,7,none⟩=some (.slice a4 P.p.length c4):=by rw [Lib.cell_of_heap HTK.out.2.1];rfl
    have hpl:(gA P 3).length≤1000000:=by
     have h2:=HF0.out;have h3:=HF1.out;have h4:=HF2.out;simp only [gA,List.length_append,List.length_cons,List.length_nil] at*;omega
    have HTA:Hid (TW w1 (gA P 3) (wr.alloc (.cells #[.string ⟨#[112,105,110,115]⟩,.slice a4 P.p.length c4] 208))∧(wr.alloc (.cells #[.string ⟨#[112,105,110,115]⟩,.slice a4 P.p.length c4] 208)).heap[g]? =some (cA (.slice a1 P.d.length c1) (.slice a2 P.v.length c2) (.slice a3 P.o.length c3) (.slice a4 P.p.length c4))∧w1.heap.size<g):=⟨eX _ _ _ _ HTK.out.1 (aD _ _),((aD _ _).block g (Array.getElem?_eq_some_iff.1 HTK.out.2.1).1).trans HTK.out.2.1,HTK.out.2.2⟩
    go_wp2_with (go_at_call 135;refine (HWR.out w1 HO1.out.1 _ _ ⟨#[112,105,110,115]⟩ _ P.p HTA.out.1 (HPG.out w1 HO1.out.1).2.2.2 HMD.out.2.2.2 (by decide) hpl).mono ?_;rintro e w5 ⟨rfl,ok,far⟩;have HT5:Hid (TW w1 (gA P (3+1)) w5∧w5.heap[g]? =some (cA (.slice a1 P.d.length c1) (.slice a2 P.v.length c2) (.slice a3 P.o.length c3) (.slice a4 P.p.length c4))∧w1.heap.size<g):=⟨ok,far _ _ _ _ HTA.out.2.1 (by decide) (by have:=HTA.out.2.2;omega),HTA.out.2.2⟩;clear ok far)
    exact ⟨⟨3+1,by omega,rfl,HT5.out⟩,by simp [intOf]⟩
  · have HTE:=aA htw.1
    rw [HPT.out] at HTE;clear htw
    by_cases hlen:(qY P).length≤4096
    · have HR:Hid (aO P=true∧dD P=⟨(qY P).toArray⟩):=by
       have:aO P=true:=by rw [HWB.out];exact decide_eq_true hlen
       exact ⟨this,by unfold dD;rw [if_pos this]⟩
      go_wp2_with (first
       |(go_at_call 136;refine (HLE.out _ _ _ HTE.out).mono ?_;rintro e w5 ⟨rfl,rfl⟩)
       |(go_at_call 137;refine (HST.out _ _ _ HTE.out).mono ?_;rintro e w6 ⟨rfl,ok⟩;have HB6:=aA (aB HO1.out.1 (HTE.out.2.trans ok));clear ok))
      go_ret2;exact ⟨by rw [HR.out.1,HR.out.2];rfl,HB6.out⟩
    · have HR:Hid (aO P=false∧dD P=⟨#[]⟩):=by
       have:aO P=false:=by rw [HWB.out];exact decide_eq_false hlen
       exact ⟨this,by unfold dD;rw [if_neg (by rw [this];simp)]⟩
      go_wp2_with (go_at_call 136;refine (HLE.out _ _ _ HTE.out).mono ?_;rintro e w5 ⟨rfl,rfl⟩)
      go_ret2;exact ⟨by rw [HR.out.1,HR.out.2];rfl,aB HO1.out.1 HTE.out.2⟩
theorem sR {P:Mn} {v1 v2 v3 v4:Value} {w:World} (h:MnAt w P v1 v2 v3 v4) (he:Env w) (hf:FL w):
 Calls Tryz.prog 106 #[.agg #[v1,v2,v3,v4]] w fun e w'=>e= .returned (.tuple #[.string (dD P),.bool (aO P)])∧Below w.heap.size w w':=by
 cases hsd:gK P
 · have HSO:Hid (∀ w1,Below w.heap.size w w1→Calls Tryz.prog 160 #[.agg #[v1,v2,v3,v4]] w1 fun e w'=>e= .returned (.bool false)∧Below w1.heap.size w1 w'):=fun w1 hb=>by have:=vN (h.below hb);rw [hsd] at this;exact this
   have HR:Hid (aO P=false∧dD P=⟨#[]⟩):=by
    have:aO P=false:=by unfold aO;rw [hsd];rfl
    exact ⟨this,by unfold dD;rw [if_neg (by rw [this];simp)]⟩
   obtain ⟨a1,c1,rfl⟩:=h.1.sl;obtain ⟨a2,c2,rfl⟩:=h.2.1.sl;obtain ⟨a3,c3,rfl⟩:=h.2.2.1.sl;obtain ⟨a4,c4,rfl⟩:=h.2.2.2.sl;clear h he hf hsd
   go_enter Tryz.func106,Tryz.ntmps106
   go_wp2_with (go_at_call 160;refine (HSO.out _ (aD _ _)).mono ?_;rintro e w1 ⟨rfl,ok⟩;have HO1:=aA (aB (aD _ _) ok);clear ok)
   go_ret2;exact ⟨by rw [HR.out.1,HR.out.2];rfl,HO1.out⟩
 · exact oO h he hf hsd
theorem oP {P:Mn} {v1 v2 v3 v4:Value} {w:World} (h:MnAt w P v1 v2 v3 v4) (he:Env w) (hf:FL w):
 Calls Tryz.prog 58 #[.agg #[v1,v2,v3,v4]] w fun e w'=>e= .returned (.bool (aO P))∧Below w.heap.size w w':=by
 have HW:Hid (∀ w1,Below w.heap.size w w1→Calls Tryz.prog 106 #[.agg #[v1,v2,v3,v4]] w1 fun e w'=>e= .returned (.tuple #[.string (dD P),.bool (aO P)])∧Below w1.heap.size w1 w'):=fun w1 hb=>sR (h.below hb) (he.below hb) (hf.below hb)
 obtain ⟨a1,c1,rfl⟩:=h.1.sl;obtain ⟨a2,c2,rfl⟩:=h.2.1.sl;obtain ⟨a3,c3,rfl⟩:=h.2.2.1.sl;obtain ⟨a4,c4,rfl⟩:=h.2.2.2.sl;clear h he hf
 go_enter Tryz.func58,Tryz.ntmps58
 go_wp2_with (go_at_call 106;refine (HW.out _ (aD _ _)).mono ?_;rintro e w1 ⟨rfl,ok⟩;have HO1:=aA (aB (aD _ _) ok);clear ok)
 go_ret;exact ⟨rfl,HO1.out⟩
end Go.Proofs.YtpfemjlhklnfoaaGreatDoor
namespace Go.Proofs.YtpfemjlhklnfoaaGreatDoor
open Go.Shelf Go.RowKit Go.Maps Go.WideMaps
set_option maxRecDepth 100000
theorem LG {w:World} {B C Q:Nat} {L:List CV} (h:CatAt w B C Q L) {x:CV} {s:ByteArray} {a b c:Int} (hx:bJ L s a b c=some x):Calls Tryz.prog 15 #[.pointer (some ⟨C,0,none⟩),.string s,.agg #[.int .i64 a,.int .i64 b,.int .i64 c]] w fun e w'=>∃ p1 r1 p2 q2 r2 p3 r3,e= .returned (.tuple #[.agg #[.string x.pg.nm,.int .i64 x.pg.a,.int .i64 x.pg.b,.int .i64 x.pg.c,.slice p1 x.pg.d.length r1,.slice p2 q2 r2,.slice p3 x.pg.o.length r3],.bool true])∧(DepsAt w' (.slice p1 x.pg.d.length r1) x.pg.d∧DepsAt w' (.slice p3 x.pg.o.length r3) x.pg.o)∧Below w.heap.size w w':=by
 obtain ⟨_,h1,h2,h3,h4,_⟩:=h.find hx;obtain ⟨P,u1,u2,u3⟩:=x
 simp only at h1 h2 h3 h4
 subst h1 h2 h3 h4;refine (uA h hx).mono ?_;rintro e w' ⟨v1,v2,v3,rfl,ho,hb⟩;obtain ⟨hd1,hd2,hd3⟩:=ho.at;obtain ⟨p1,r1,rfl,_⟩:=hd1.el;obtain ⟨p2,r2,rfl,_⟩:=hd2.el;obtain ⟨p3,r3,rfl,_⟩:=hd3.el;exact ⟨p1,r1,p2,_,r2,p3,r3,rfl,⟨hd1,hd3⟩,hb⟩
def gM (L:List CV) (P:Mn) (dv:Bool) (k:Nat) (n:Nd):List (Dp×Int):=if k=0 then iT P.d (if dv=true then P.v else []) P.o else match bJ L n.nm n.a n.b n.c with
 |some x=>ofE x.pg.d x.pg.o
 |none=>ofE [] []
def jK (L:List CV) (k:Nat) (n:Nd):Bool:=if k=0 then true else (bJ L n.nm n.a n.b n.c).isSome
theorem oQ {P:Mn} (h:aO P=true):SmD P.d∧SmD P.v∧SmD P.o∧SmD P.p:=by
 unfold aO gK at h;simp only [Bool.and_eq_true] at h;exact ⟨dU h.1.1.1,dU h.1.1.2.1,dU h.1.1.2.2.1,dU h.1.1.2.2.2⟩
theorem oR {O ds:List Dp} (hO:SmD O) (h:SmD ds):lM O ds:=by
 refine ⟨Nat.le_trans h.1 (by decide),fun d hd=>⟨Nat.le_trans (h.2 d hd).1 (by decide),?_⟩⟩;unfold bV;cases hf:O.find? (isD d.nm) with
 |none=>dsimp only;have:=(h.2 d hd).2;omega
 |some o=>dsimp only;have:=(hO.2 o (List.mem_of_find?_eq_some hf)).2;omega
theorem oS:SmD []:=⟨by decide,fun d hd=>by cases hd⟩
set_option maxHeartbeats 6400000 in
theorem qZ {G:List Nd} {P:Mn} {ad x1 x2 x3 x4:Option Addr} {cap z1 z2 z3 z4 C B Q:Nat} {dv:Bool} {k:Nat} {L:List CV} {w:World} (hG:NodesAt w (.slice ad G.length cap) G) (hk:k<G.length)
 (hc:CatAt w B C Q L) (hM:MnAt w P (.slice x1 P.d.length z1) (.slice x2 P.v.length z2) (.slice x3 P.o.length z3) (.slice x4 P.p.length z4)) (hP:aO P=true) (hkn:bQ G[k].nm G[k].a G[k].b G[k].c):
 Calls Tryz.prog 112 #[.agg #[.slice ad G.length cap,.pointer (some ⟨C,0,none⟩),.slice x1 P.d.length z1,.slice x2 P.v.length z2,.slice x3 P.o.length z3,.slice x4 P.p.length z4,.bool dv],.int .i64 k] w fun e w'=>∃ v,e= .returned (.tuple #[v,.bool (jK L k G[k])])∧(∃ Y,dO P.p (gM L P dv k G[k]) w' w.heap.size v Y)∧Below w.heap.size w w':=by
 obtain ⟨s1,s2,s3,s4⟩:=oQ hP;have hO1:P.p.length≤9223372036854775807:=Nat.le_trans s4.1 (by decide);have hO2:∀ d ∈ P.p,d.nm.size≤9223372036854775807:=fun d hd=>Nat.le_trans (s4.2 d hd).1 (by decide)
 by_cases h0:k=0
 · subst h0
   have e1:jK L 0 G[0]=true:=if_pos rfl;have e2:gM L P dv 0 G[0]=iT P.d (if dv=true then P.v else []) P.o:=if_pos rfl;obtain ⟨dd,hdd⟩:∃ dd,dd=if dv=true then P.v else []:=⟨_,rfl⟩
   rw [e1,e2,←hdd];have HB:Hid (Below w.heap.size w (w.alloc (.cells #[.slice ad G.length cap,.pointer (some ⟨C,0,none⟩),.slice x1 P.d.length z1,.slice x2 P.v.length z2,.slice x3 P.o.length z3,.slice x4 P.p.length z4,.bool dv] 109))):=aD _ _
   have HOF:Hid (∀ W,Below w.heap.size w W→Calls Tryz.prog 165 #[.agg #[.slice x1 P.d.length z1,.slice x2 P.v.length z2,.slice x3 P.o.length z3,.slice x4 P.p.length z4],.bool dv] W fun e w'=>∃ v,e= .returned v∧(∃ ad n cap,v= .slice ad n cap)∧∃ Y,dO P.p (iT P.d dd P.o) w' W.heap.size v Y∧Below W.heap.size W w'):=fun W hb=>by
    refine (oI (hM.2.2.2.below hb) hO1 hO2 (hM.1.below hb) (hM.2.1.below hb) (hM.2.2.1.below hb) (oR s4 s1) (oR s4 s2) (oR s4 s3) (by have:=s1.1;have:=s2.1;have:=s3.1;omega) dv hdd).mono ?_;rintro e w' ⟨v,h1,Y,h2,h3⟩;obtain ⟨a,c,h4⟩:=h2.1.len;exact ⟨v,h1,⟨a,_,c,h4⟩,Y,h2,h3⟩
   clear hG hk hc hM hkn e1 e2 hdd;generalize P.d.length=l1 at*;generalize P.v.length=l2 at*;generalize P.o.length=l3 at*;generalize P.p.length=l4 at*;generalize G.length=lg at*
   go_enter Tryz.func112,Tryz.ntmps112
   go_wp2_with (go_at_call 165;refine (HOF.out _ HB.out).mono ?_;rintro e w1 ⟨v,rfl,⟨a,n,c,rfl⟩,Y,hY,ok⟩;have HY:=aA hY;clear hY)
   go_ret2;exact ⟨_,rfl,⟨Y,HY.out.1.base HB.out.size,HY.out.2⟩,aB HB.out ok⟩
 · have hk0:¬ (k:Int)=0:=by omega
   have hkz:((k:Int)==0)=false:=by simp;omega
   have e1:jK L k G[k]=(bJ L G[k].nm G[k].a G[k].b G[k].c).isSome:=if_neg h0
   have e2:gM L P dv k G[k]=match bJ L G[k].nm G[k].a G[k].b G[k].c with
    |some x=>ofE x.pg.d x.pg.o
    |none=>ofE [] []:=if_neg h0
   rw [e1,e2];clear e1 e2 h0;obtain ⟨ad',cap',e,_,hcs⟩:=hG;cases e
   obtain ⟨g,o,rfl,hg,hcz⟩:∃ g o,ad=some ⟨g,o,none⟩∧g<w.heap.size∧∀ i (h:i<G.length),∃ vc ve,NdIn w g (o+i*6) G[i] vc ve:=by
    rcases hcs with h|h
    · rw [h] at hk;simp at hk
    · exact h
   clear hcs;obtain ⟨vc,ve,hx⟩:=hcz k hk;clear hcz;obtain ⟨ac,cc,rfl⟩:=hx.2.1.1.sl;obtain ⟨ae,ce,rfl⟩:=hx.2.1.2.sl;have hki:(k:Int)<(G.length:Int):=by omega
   obtain ⟨⟨q0,q1,q2,q3,q4,q5⟩,qx,q6⟩:=hx.below (aD w (.cells #[.slice (some ⟨g,o,none⟩) G.length cap,.pointer (some ⟨C,0,none⟩),.slice x1 P.d.length z1,.slice x2 P.v.length z2,.slice x3 P.o.length z3,.slice x4 P.p.length z4,.bool dv] 109));clear qx
   have HOF:Hid (∀ W (s:ByteArray) (a b c:Int) (d o:List Dp) p1 r1 p2 q2 r2 p3 r3,Below w.heap.size w W→SmD d→SmD o→DepsAt W (.slice p1 d.length r1) d→DepsAt W (.slice p3 o.length r3) o→Calls Tryz.prog 166 #[.agg #[.string s,.int .i64 a,.int .i64 b,.int .i64 c,.slice p1 d.length r1,.slice p2 q2 r2,.slice p3 o.length r3],.agg #[.slice x1 P.d.length z1,.slice x2 P.v.length z2,.slice x3 P.o.length z3,.slice x4 P.p.length z4]] W fun e w'=>∃ v,e= .returned v∧(∃ ad n cap,v= .slice ad n cap)∧∃ Y,dO P.p (ofE d o) w' W.heap.size v Y∧Below W.heap.size W w'):=fun W s a b c d o p1 r1 p2 q2 r2 p3 r3 hb sd so h1 h3=>by
    refine (NF (hM.2.2.2.below hb) hO1 hO2 s a b c h1 h3 (oR s4 sd) (oR s4 so) (by have:=sd.1;have:=so.1;omega)).mono ?_;rintro e w' ⟨v,h1,Y,h2,h3⟩;obtain ⟨a,c,h4⟩:=h2.1.len;exact ⟨v,h1,⟨a,_,c,h4⟩,Y,h2,h3⟩
   obtain ⟨n,hn⟩:∃ n,n=G[k]:=⟨_,rfl⟩;rw [←hn] at q0 q1 q2 q3 q4 q5 hkn ⊢;clear hn hx
   have HB:Hid (Below w.heap.size w ((w.alloc (.cells #[.slice (some ⟨g,o,none⟩) G.length cap,.pointer (some ⟨C,0,none⟩),.slice x1 P.d.length z1,.slice x2 P.v.length z2,.slice x3 P.o.length z3,.slice x4 P.p.length z4,.bool dv] 109)).alloc (.cells #[.string n.nm,.int .i64 n.a,.int .i64 n.b,.int .i64 n.c,.slice ac n.cx.length cc,.slice ae n.ed.length ce] 67))∧BxSo ((w.alloc (.cells #[.slice (some ⟨g,o,none⟩) G.length cap,.pointer (some ⟨C,0,none⟩),.slice x1 P.d.length z1,.slice x2 P.v.length z2,.slice x3 P.o.length z3,.slice x4 P.p.length z4,.bool dv] 109)).alloc (.cells #[.string n.nm,.int .i64 n.a,.int .i64 n.b,.int .i64 n.c,.slice ac n.cx.length cc,.slice ae n.ed.length ce] 67)) w.heap.size (.slice (some ⟨g,o,none⟩) G.length cap) (.pointer (some ⟨C,0,none⟩)) (.slice x1 P.d.length z1) (.slice x2 P.v.length z2) (.slice x3 P.o.length z3) (.slice x4 P.p.length z4) (.bool dv)):=⟨aR _ _ _,bL _ _ _ _ _ _ _ _ _ _ (BxSo.new rfl _ _ _ _ _ _ _) (aD _ _)⟩
   obtain ⟨_,⟨k0,k1,k2,k3,k4,k5,k6⟩,k7⟩:=HB.out;cases hcat:bJ L n.nm n.a n.b n.c with
   |none=>
    have HGT:=aA (tZ (hc.below HB.out.1) hkn hcat);unfold zPg at HGT;clear hc hM hkn hcat;generalize P.d.length=l1 at*;generalize P.v.length=l2 at*;generalize P.o.length=l3 at*;generalize P.p.length=l4 at*;generalize G.length=lg at*;generalize n.cx.length=m1 at*;generalize n.ed.length=m2 at*
    go_enter Tryz.func112,Tryz.ntmps112
    go_wp2_with (first
     |(have _t:=HB1;go_at_call 166;refine (HOF.out _ ByteArray.empty 0 0 0 [] [] none 0 none 0 0 none 0 HB1.out.1 oS oS ⟨none,0,rfl,Nat.le_refl _,Or.inl rfl⟩ ⟨none,0,rfl,Nat.le_refl _,Or.inl rfl⟩).mono ?_;rintro e w2 ⟨v,rfl,⟨a,n,c,rfl⟩,Y,hY,ok⟩;have HY:=aA hY;clear hY)
     |(go_at_call 15;refine HGT.out.mono ?_;rintro e w1 ⟨rfl,ok⟩;have HB1:Hid (Below w.heap.size w (w1.alloc (.cells #[.string ByteArray.empty,.int .i64 0,.int .i64 0,.int .i64 0,.slice none 0 0,.slice none 0 0,.slice none 0 0] 34))∧BxSo (w1.alloc (.cells #[.string ByteArray.empty,.int .i64 0,.int .i64 0,.int .i64 0,.slice none 0 0,.slice none 0 0,.slice none 0 0] 34)) w.heap.size (.slice (some ⟨g,o,none⟩) lg cap) (.pointer (some ⟨C,0,none⟩)) (.slice x1 l1 z1) (.slice x2 l2 z2) (.slice x3 l3 z3) (.slice x4 l4 z4) (.bool dv)):=⟨aB (aB HB.out.1 ok) (aD _ _),bL _ _ _ _ _ _ _ _ _ _ (bL _ _ _ _ _ _ _ _ _ _ HB.out.2 ok) (aD _ _)⟩;obtain ⟨_,⟨b0,b1,b2,b3,b4,b5,b6⟩,b7⟩:=HB1.out;clear ok))
    go_ret2;exact ⟨_,rfl,⟨Y,HY.out.1.base HB1.out.1.size,HY.out.2⟩,aB HB1.out.1 ok⟩
   |some x=>
    have HSM:=aA ((hc.find hcat).2.2.2.2.2.2.2);have HGT:=aA (LG (hc.below HB.out.1) hcat);clear hc hM hkn hcat;generalize P.d.length=l1 at*;generalize P.v.length=l2 at*;generalize P.o.length=l3 at*;generalize P.p.length=l4 at*;generalize G.length=lg at*;generalize n.cx.length=m1 at*;generalize n.ed.length=m2 at*
    go_enter Tryz.func112,Tryz.ntmps112
    go_wp2_with (first
     |(have _t:=HB1;go_at_call 166;refine (HOF.out _ x.pg.nm x.pg.a x.pg.b x.pg.c x.pg.d x.pg.o p1 r1 p2 q2 r2 p3 r3 HB1.out.1 HSM.out.2.1 HSM.out.2.2.2 HDD.out.1 HDD.out.2).mono ?_;rintro e w2 ⟨v,rfl,⟨a,n,c,rfl⟩,Y,hY,ok⟩;have HY:=aA hY;clear hY)
     |(go_at_call 15;refine HGT.out.mono ?_;rintro e w1 ⟨p1,r1,p2,q2,r2,p3,r3,rfl,hdd,ok⟩;have HB1:Hid (Below w.heap.size w (w1.alloc (.cells #[.string x.pg.nm,.int .i64 x.pg.a,.int .i64 x.pg.b,.int .i64 x.pg.c,.slice p1 x.pg.d.length r1,.slice p2 q2 r2,.slice p3 x.pg.o.length r3] 34))∧BxSo (w1.alloc (.cells #[.string x.pg.nm,.int .i64 x.pg.a,.int .i64 x.pg.b,.int .i64 x.pg.c,.slice p1 x.pg.d.length r1,.slice p2 q2 r2,.slice p3 x.pg.o.length r3] 34)) w.heap.size (.slice (some ⟨g,o,none⟩) lg cap) (.pointer (some ⟨C,0,none⟩)) (.slice x1 l1 z1) (.slice x2 l2 z2) (.slice x3 l3 z3) (.slice x4 l4 z4) (.bool dv)):=⟨aB (aB HB.out.1 ok) (aD _ _),bL _ _ _ _ _ _ _ _ _ _ (bL _ _ _ _ _ _ _ _ _ _ HB.out.2 ok) (aD _ _)⟩;have HDD:=aA (⟨hdd.1.below (aD _ _),hdd.2.below (aD _ _)⟩:DepsAt (w1.alloc (.cells #[.string x.pg.nm,.int .i64 x.pg.a,.int .i64 x.pg.b,.int .i64 x.pg.c,.slice p1 x.pg.d.length r1,.slice p2 q2 r2,.slice p3 x.pg.o.length r3] 34)) (.slice p1 x.pg.d.length r1) x.pg.d∧DepsAt (w1.alloc (.cells #[.string x.pg.nm,.int .i64 x.pg.a,.int .i64 x.pg.b,.int .i64 x.pg.c,.slice p1 x.pg.d.length r1,.slice p2 q2 r2,.slice p3 x.pg.o.length r3] 34)) (.slice p3 x.pg.o.length r3) x.pg.o);obtain ⟨_,⟨b0,b1,b2,b3,b4,b5,b6⟩,b7⟩:=HB1.out;clear ok hdd))
    go_ret2;exact ⟨_,rfl,⟨Y,HY.out.1.base HB1.out.1.size,HY.out.2⟩,aB HB1.out.1 ok⟩
end Go.Proofs.YtpfemjlhklnfoaaGreatDoor
