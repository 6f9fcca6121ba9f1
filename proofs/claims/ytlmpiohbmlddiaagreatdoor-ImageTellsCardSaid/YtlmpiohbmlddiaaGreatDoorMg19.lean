/- Mf2, ScPl2, ScNu1, ScJo1, ScJo2: their declarations that are needed, laid in one text, remarks and blanks left out. -/
import Derived.Lib.AtoiAllCases
import Derived.Lib.ItoaMem
import Derived.Test.YtlmpiohbmlddiaaGreatDoorMg18
namespace Go.Proofs.YtlmpiohbmlddiaaGreatDoor
open Go.RowKit
set_option maxRecDepth 100000
def mwK:Nat→ByteArray
 |0=>⟨#[110,101,101,100,115]⟩
 |1=>⟨#[100,101,118]⟩
 |2=>⟨#[108,105,107,101,115]⟩
 |_=>⟨#[112,105,110,115]⟩
theorem vL (k:Nat):(mwK k).size≤16:=by
 match k with
 |0|1|2=>decide
 |_+3=>show (⟨#[112,105,110,115]⟩:ByteArray).size≤16;decide
def iG (P:Mn):Nat→Sc.Bs
 |0=>[112,114,111,106,101,99,116,10]
 |1=>[112,114,111,106,101,99,116,10]++aY (mwK 0) P.d
 |2=>[112,114,111,106,101,99,116,10]++aY (mwK 0) P.d++aY (mwK 1) P.v
 |3=>[112,114,111,106,101,99,116,10]++aY (mwK 0) P.d++aY (mwK 1) P.v++aY (mwK 2) P.o
 |_=>[112,114,111,106,101,99,116,10]++aY (mwK 0) P.d++aY (mwK 1) P.v++aY (mwK 2) P.o++aY (mwK 3) P.p
def fO (P:Mn):Sc.Bs:=iG P 4
noncomputable def aN (P:Mn):Bool:=gX P&&decide ((fO P).length≤4096)
noncomputable def aJ (P:Mn):ByteArray:=if aN P=true then ⟨(fO P).toArray⟩ else ⟨#[]⟩
set_option maxHeartbeats 6400000 in
theorem rE {P:Mn} {v1 v2 v3 v4:Value} {w:World} (h:MnAt w P v1 v2 v3 v4) (he:Env w) (hf:FL w) (hsd:gX P=true):
 Calls Tryz.prog 111 #[.agg #[v1,v2,v3,v4]] w fun e w'=>e= .returned (.tuple #[.string (aJ P),.bool (aN P)])∧Below w.heap.size w w':=by
 have HSO:Hid (∀ w1,Below w.heap.size w w1→Calls Tryz.prog 156 #[.agg #[v1,v2,v3,v4]] w1 fun e w'=>e= .returned (.bool true)∧Below w1.heap.size w1 w'):=fun w1 hb=>by have:=yG (h.below hb);rw [hsd] at this;exact this
 have hs:=hsd;unfold gX at hs;simp only [Bool.and_eq_true] at hs;obtain ⟨⟨hd,hv,ho,hp⟩,_⟩:=hs;have HPG:Hid (∀ w1,Below w.heap.size w w1→MnAt w1 P v1 v2 v3 v4):=fun w1 hb=>h.below hb
 have HMD:Hid (aO P.d=true∧aO P.v=true∧aO P.o=true∧aO P.p=true):=⟨hd,hv,ho,hp⟩;have HF0:=aA (cO (vL 0) hd P.d.length);have HF1:=aA (cO (vL 1) hv P.v.length);have HF2:=aA (cO (vL 2) ho P.o.length);rw [List.take_length] at HF0 HF1 HF2;have HWB:Hid (aN P=decide ((fO P).length≤4096)):=by unfold Hid aN;rw [hsd];rfl
 have HPT:Hid (iG P 4=fO P):=rfl;obtain ⟨a1,c1,rfl⟩:=h.1.sl;obtain ⟨a2,c2,rfl⟩:=h.2.1.sl;obtain ⟨a3,c3,rfl⟩:=h.2.2.1.sl;obtain ⟨a4,c4,rfl⟩:=h.2.2.2.sl;have HLI:Hid (∀ w1,Calls Tryz.prog 120 #[.agg #[.slice a1 P.d.length c1,.slice a2 P.v.length c2,.slice a3 P.o.length c3,.slice a4 P.p.length c4]] w1 fun e w'=>∃ g,e= .returned (.slice (some ⟨g,0,none⟩) 4 4)∧Below w1.heap.size w1 w'∧w1.heap.size≤g∧w'.heap[g]? =some (bT (.slice a1 P.d.length c1) (.slice a2 P.v.length c2) (.slice a3 P.o.length c3) (.slice a4 P.p.length c4))):=fun w1=>mL _ _ _ _ _ _ _ _ _ _ _ _ w1
 have HLE:Hid (∀ w1 l w',TW w1 l w'→Calls Tryz.prog 158 #[.pointer (some ⟨w1.heap.size,0,none⟩)] w' fun e w2=>e= .returned (.int .i64 l.length)∧w2=w'):=fun w1 l w' h=>FD h.1
 have HST:Hid (∀ w1 l w',TW w1 l w'→Calls Tryz.prog 55 #[.pointer (some ⟨w1.heap.size,0,none⟩)] w' fun e w2=>e= .returned (.string ⟨l.toArray⟩)∧Below w1.heap.size w' w2):=fun w1 l w' h=>Tryz.Builder_String_any _ _ l w' h.1 h.2.size
 have HWR:Hid (∀ w1,Below w.heap.size w w1→∀ (l:Sc.Bs) wz (x:ByteArray) v L,TW w1 l wz→DepsAt w1 v L→aO L=true→x.size≤16→l.length≤1000000→Calls Tryz.prog 157 #[.pointer (some ⟨w1.heap.size,0,none⟩),.string x,v] wz fun e w'=>e= .returned (.tuple #[])∧TW w1 (l++aY x L) w'∧FarB w1.heap.size wz w'):=fun w1 hb l wz x v L h1 h2 h3 h4 h5=>tF h1 h2 h3 (he.below hb) (hf.below hb) h4 h5
 have HPU:Hid (∀ w1 (l:Sc.Bs) wz (s:ByteArray),TW w1 l wz→l.length≤1000000→s.size≤1000000→Calls Tryz.prog 54 #[.pointer (some ⟨w1.heap.size,0,none⟩),.string s] wz fun e w'=>e= .returned (.tuple #[.int .i64 s.size,.nilIface])∧TW w1 (l++s.data.toList) w'∧FarB w1.heap.size wz w'):=fun w1 l wz s h1 h2 h3=>h1.put s (by omega) h3
 clear h he hf hsd hd hv ho hp;have HBX:Hid (BxM (w.alloc (.cells #[.slice a1 P.d.length c1,.slice a2 P.v.length c2,.slice a3 P.o.length c3,.slice a4 P.p.length c4] 24)) w.heap.size (.slice a1 P.d.length c1) (.slice a2 P.v.length c2) (.slice a3 P.o.length c3) (.slice a4 P.p.length c4)):=BxM.new rfl _ _ _ _;have HKB:Hid (KeepP fun w1=>BxM w1 w.heap.size (.slice a1 P.d.length c1) (.slice a2 P.v.length c2) (.slice a3 P.o.length c3) (.slice a4 P.p.length c4)):=bL _ _ _ _ _
 go_enter Tryz.func111,Tryz.ntmps111
 go_wp2_with (first
  |(go_at_call 156;refine (HSO.out _ (aF _ _)).mono ?_;rintro e w1 ⟨rfl,ok⟩;have HO1:Hid (Below w.heap.size w w1∧BxM w1 w.heap.size (.slice a1 P.d.length c1) (.slice a2 P.v.length c2) (.slice a3 P.o.length c3) (.slice a4 P.p.length c4)):=⟨aB (aF _ _) ok,HKB.out _ _ HBX.out ok⟩;have HT0:Hid (TW w1 [] (w1.alloc (.cells #[.pointer none,.slice none 0 0] 118))):=TW.new w1;clear ok HBX)
  |(go_at_call 54;refine (HPU.out w1 [] _ ⟨#[112,114,111,106,101,99,116,10]⟩ HT0.out (by decide) (by decide)).mono ?_;rintro e w3 ⟨rfl,ok,_⟩;have HT3:Hid (TW w1 (iG P 0) w3):=ok;have HX3:=aA (HKB.out _ _ HO1.out.2 HT3.out.2);obtain ⟨k0,k1,k2,k3,k4⟩:=HX3.out;clear ok)
  |(go_at_call 120;refine (HLI.out _).mono ?_;rintro e w4 ⟨g,rfl,ok,hg,hgl⟩;have HT4:Hid (TW w1 (iG P 0) w4∧w4.heap[g]? =some (bT (.slice a1 P.d.length c1) (.slice a2 P.v.length c2) (.slice a3 P.o.length c3) (.slice a4 P.p.length c4))∧w1.heap.size<g):=⟨gV _ _ _ _ HT3.out ok,hgl,by have:=HT3.out.far;omega⟩;clear ok hg hgl k0 k1 k2 k3 k4))
 go_loopw [14] (fun i wr=>∃ k:Nat,k≤4∧i= .int .i64 k∧TW w1 (iG P k) wr∧wr.heap[g]? =some (bT (.slice a1 P.d.length c1) (.slice a2 P.v.length c2) (.slice a3 P.o.length c3) (.slice a4 P.p.length c4))∧w1.heap.size<g) (fun i _=>4 - (intOf i).toNat)
 case atStart=>exact ⟨0,Nat.zero_le _,rfl,HT4.out⟩
 case round=>
  clear HT4;obtain ⟨k,hk,rfl,htw⟩:=hrel
  rcases (show k=0∨k=1∨k=2∨k=3∨k=4 by omega) with rfl|rfl|rfl|rfl|rfl
  · have HTK:=aA htw
    clear htw;have q0:wr.cell? ⟨g,0,none⟩=some (.string ⟨#[110,101,101,100,115]⟩):=by rw [Lib.cell_of_heap HTK.out.2.1];rfl
    have q1:wr.cell? ⟨g,1,none⟩=some (.slice a1 P.d.length c1):=by rw [Lib.cell_of_heap HTK.out.2.1];rfl
    have hpl:(iG P 0).length≤1000000:=by
     have h2:=HF0.out;have h3:=HF1.out;have h4:=HF2.out;show 8≤1000000;decide
    have HTA:Hid (TW w1 (iG P 0) (wr.alloc (.cells #[.string ⟨#[110,101,101,100,115]⟩,.slice a1 P.d.length c1] 180))∧(wr.alloc (.cells #[.string ⟨#[110,101,101,100,115]⟩,.slice a1 P.d.length c1] 180)).heap[g]? =some (bT (.slice a1 P.d.length c1) (.slice a2 P.v.length c2) (.slice a3 P.o.length c3) (.slice a4 P.p.length c4))∧w1.heap.size<g):=⟨gV _ _ _ _ HTK.out.1 (aF _ _),((aF _ _).block g (Array.getElem?_eq_some_iff.1 HTK.out.2.1).1).trans HTK.out.2.1,HTK.out.2.2⟩
    go_wp2_with (go_at_call 157;refine (HWR.out w1 HO1.out.1 _ _ ⟨#[110,101,101,100,115]⟩ _ P.d HTA.out.1 (HPG.out w1 HO1.out.1).1 HMD.out.1 (by decide) hpl).mono ?_;rintro e w5 ⟨rfl,ok,far⟩;have HT5:Hid (TW w1 (iG P (0+1)) w5∧w5.heap[g]? =some (bT (.slice a1 P.d.length c1) (.slice a2 P.v.length c2) (.slice a3 P.o.length c3) (.slice a4 P.p.length c4))∧w1.heap.size<g):=⟨ok,far _ _ _ _ HTA.out.2.1 (by decide) (by have:=HTA.out.2.2;omega),HTA.out.2.2⟩;clear ok far)
    exact ⟨⟨0+1,by omega,rfl,HT5.out⟩,by simp [intOf]⟩
  · have HTK:=aA htw
    clear htw;have q0:wr.cell? ⟨g,2,none⟩=some (.string ⟨#[100,101,118]⟩):=by rw [Lib.cell_of_heap HTK.out.2.1];rfl
    have q1:wr.cell? ⟨g,3,none⟩=some (.slice a2 P.v.length c2):=by rw [Lib.cell_of_heap HTK.out.2.1];rfl
    have hpl:(iG P 1).length≤1000000:=by
     have h2:=HF0.out;have h3:=HF1.out;have h4:=HF2.out;simp only [iG,List.length_append,List.length_cons,List.length_nil] at*;omega
    have HTA:Hid (TW w1 (iG P 1) (wr.alloc (.cells #[.string ⟨#[100,101,118]⟩,.slice a2 P.v.length c2] 180))∧(wr.alloc (.cells #[.string ⟨#[100,101,118]⟩,.slice a2 P.v.length c2] 180)).heap[g]? =some (bT (.slice a1 P.d.length c1) (.slice a2 P.v.length c2) (.slice a3 P.o.length c3) (.slice a4 P.p.length c4))∧w1.heap.size<g):=⟨gV _ _ _ _ HTK.out.1 (aF _ _),((aF _ _).block g (Array.getElem?_eq_some_iff.1 HTK.out.2.1).1).trans HTK.out.2.1,HTK.out.2.2⟩
    go_wp2_with (go_at_call 157;refine (HWR.out w1 HO1.out.1 _ _ ⟨#[100,101,118]⟩ _ P.v HTA.out.1 (HPG.out w1 HO1.out.1).2.1 HMD.out.2.1 (by decide) hpl).mono ?_;rintro e w5 ⟨rfl,ok,far⟩;have HT5:Hid (TW w1 (iG P (1+1)) w5∧w5.heap[g]? =some (bT (.slice a1 P.d.length c1) (.slice a2 P.v.length c2) (.slice a3 P.o.length c3) (.slice a4 P.p.length c4))∧w1.heap.size<g):=⟨ok,far _ _ _ _ HTA.out.2.1 (by decide) (by have:=HTA.out.2.2;omega),HTA.out.2.2⟩;clear ok far)
    exact ⟨⟨1+1,by omega,rfl,HT5.out⟩,by simp [intOf]⟩
  · have HTK:=aA htw
    clear htw;have q0:wr.cell? ⟨g,4,none⟩=some (.string ⟨#[108,105,107,101,115]⟩):=by rw [Lib.cell_of_heap HTK.out.2.1];rfl
    have q1:wr.cell? ⟨g,5,none⟩=some (.slice a3 P.o.length c3):=by rw [Lib.cell_of_heap HTK.out.2.1];rfl
    have hpl:(iG P 2).length≤1000000:=by
     have h2:=HF0.out;have h3:=HF1.out;have h4:=HF2.out;simp only [iG,List.length_append,List.length_cons,List.length_nil] at*;omega
    have HTA:Hid (TW w1 (iG P 2) (wr.alloc (.cells #[.string ⟨#[108,105,107,101,115]⟩,.slice a3 P.o.length c3] 180))∧(wr.alloc (.cells #[.string ⟨#[108,105,107,101,115]⟩,.slice a3 P.o.length c3] 180)).heap[g]? =some (bT (.slice a1 P.d.length c1) (.slice a2 P.v.length c2) (.slice a3 P.o.length c3) (.slice a4 P.p.length c4))∧w1.heap.size<g):=⟨gV _ _ _ _ HTK.out.1 (aF _ _),((aF _ _).block g (Array.getElem?_eq_some_iff.1 HTK.out.2.1).1).trans HTK.out.2.1,HTK.out.2.2⟩
    go_wp2_with (go_at_call 157;refine (HWR.out w1 HO1.out.1 _ _ ⟨#[108,105,107,101,115]⟩ _ P.o HTA.out.1 (HPG.out w1 HO1.out.1).2.2.1 HMD.out.2.2.1 (by decide) hpl).mono ?_;rintro e w5 ⟨rfl,ok,far⟩;have HT5:Hid (TW w1 (iG P (2+1)) w5∧w5.heap[g]? =some (bT (.slice a1 P.d.length c1) (.slice a2 P.v.length c2) (.slice a3 P.o.length c3) (.slice a4 P.p.length c4))∧w1.heap.size<g):=⟨ok,far _ _ _ _ HTA.out.2.1 (by decide) (by have:=HTA.out.2.2;omega),HTA.out.2.2⟩;clear ok far)
    exact ⟨⟨2+1,by omega,rfl,HT5.out⟩,by simp [intOf]⟩
  · have HTK:=aA htw
    clear htw;have q0:wr.cell? ⟨g,6,none⟩=some (.string ⟨#[112,105,110,115]⟩):=by rw [Lib.cell_of_heap HTK.out.2.1];rfl
    have q1:wr.cell? ⟨g,7,none⟩=some (.slice a4 P.p.length c4):=by rw [Lib.cell_of_heap HTK.out.2.1];rfl
    have hpl:(iG P 3).length≤1000000:=by
     have h2:=HF0.out;have h3:=HF1.out;have h4:=HF2.out;simp only [iG,List.length_append,List.length_cons,List.length_nil] at*;omega
    have HTA:Hid (TW w1 (iG P 3) (wr.alloc (.cells #[.string ⟨#[112,105,110,115]⟩,.slice a4 P.p.length c4] 180))∧(wr.alloc (.cells #[.string ⟨#[112,105,110,115]⟩,.slice a4 P.p.length c4] 180)).heap[g]? =some (bT (.slice a1 P.d.length c1) (.slice a2 P.v.length c2) (.slice a3 P.o.length c3) (.slice a4 P.p.length c4))∧w1.heap.size<g):=⟨gV _ _ _ _ HTK.out.1 (aF _ _),((aF _ _).block g (Array.getElem?_eq_some_iff.1 HTK.out.2.1).1).trans HTK.out.2.1,HTK.out.2.2⟩
    go_wp2_with (go_at_call 157;refine (HWR.out w1 HO1.out.1 _ _ ⟨#[112,105,110,115]⟩ _ P.p HTA.out.1 (HPG.out w1 HO1.out.1).2.2.2 HMD.out.2.2.2 (by decide) hpl).mono ?_;rintro e w5 ⟨rfl,ok,far⟩;have HT5:Hid (TW w1 (iG P (3+1)) w5∧w5.heap[g]? =some (bT (.slice a1 P.d.length c1) (.slice a2 P.v.length c2) (.slice a3 P.o.length c3) (.slice a4 P.p.length c4))∧w1.heap.size<g):=⟨ok,far _ _ _ _ HTA.out.2.1 (by decide) (by have:=HTA.out.2.2;omega),HTA.out.2.2⟩;clear ok far)
    exact ⟨⟨3+1,by omega,rfl,HT5.out⟩,by simp [intOf]⟩
  · have HTE:=aA htw.1
    rw [HPT.out] at HTE;clear htw
    by_cases hlen:(fO P).length≤4096
    · have HR:Hid (aN P=true∧aJ P=⟨(fO P).toArray⟩):=by
       have:aN P=true:=by rw [HWB.out];exact decide_eq_true hlen
       exact ⟨this,by unfold aJ;rw [if_pos this]⟩
      go_wp2_with (first
       |(go_at_call 158;refine (HLE.out _ _ _ HTE.out).mono ?_;rintro e w5 ⟨rfl,rfl⟩)
       |(go_at_call 55;refine (HST.out _ _ _ HTE.out).mono ?_;rintro e w6 ⟨rfl,ok⟩;have HB6:=aA (aB HO1.out.1 (HTE.out.2.trans ok));clear ok))
      go_ret2;exact ⟨by rw [HR.out.1,HR.out.2];rfl,HB6.out⟩
    · have HR:Hid (aN P=false∧aJ P=⟨#[]⟩):=by
       have:aN P=false:=by rw [HWB.out];exact decide_eq_false hlen
       exact ⟨this,by unfold aJ;rw [if_neg (by rw [this];simp)]⟩
      go_wp2_with (go_at_call 158;refine (HLE.out _ _ _ HTE.out).mono ?_;rintro e w5 ⟨rfl,rfl⟩)
      go_ret2;exact ⟨by rw [HR.out.1,HR.out.2];rfl,aB HO1.out.1 HTE.out.2⟩
theorem mM {P:Mn} {v1 v2 v3 v4:Value} {w:World} (h:MnAt w P v1 v2 v3 v4) (he:Env w) (hf:FL w):
 Calls Tryz.prog 111 #[.agg #[v1,v2,v3,v4]] w fun e w'=>e= .returned (.tuple #[.string (aJ P),.bool (aN P)])∧Below w.heap.size w w':=by
 cases hsd:gX P
 · have HSO:Hid (∀ w1,Below w.heap.size w w1→Calls Tryz.prog 156 #[.agg #[v1,v2,v3,v4]] w1 fun e w'=>e= .returned (.bool false)∧Below w1.heap.size w1 w'):=fun w1 hb=>by have:=yG (h.below hb);rw [hsd] at this;exact this
   have HR:Hid (aN P=false∧aJ P=⟨#[]⟩):=by
    have:aN P=false:=by unfold aN;rw [hsd];rfl
    exact ⟨this,by unfold aJ;rw [if_neg (by rw [this];simp)]⟩
   obtain ⟨a1,c1,rfl⟩:=h.1.sl;obtain ⟨a2,c2,rfl⟩:=h.2.1.sl;obtain ⟨a3,c3,rfl⟩:=h.2.2.1.sl;obtain ⟨a4,c4,rfl⟩:=h.2.2.2.sl;clear h he hf hsd
   go_enter Tryz.func111,Tryz.ntmps111
   go_wp2_with (go_at_call 156;refine (HSO.out _ (aF _ _)).mono ?_;rintro e w1 ⟨rfl,ok⟩;have HO1:=aA (aB (aF _ _) ok);clear ok)
   go_ret2;exact ⟨by rw [HR.out.1,HR.out.2];rfl,HO1.out⟩
 · exact rE h he hf hsd
theorem OE {P:Mn} {v1 v2 v3 v4:Value} {w:World} (h:MnAt w P v1 v2 v3 v4) (he:Env w) (hf:FL w):
 Calls Tryz.prog 61 #[.agg #[v1,v2,v3,v4]] w fun e w'=>e= .returned (.bool (aN P))∧Below w.heap.size w w':=by
 have HW:Hid (∀ w1,Below w.heap.size w w1→Calls Tryz.prog 111 #[.agg #[v1,v2,v3,v4]] w1 fun e w'=>e= .returned (.tuple #[.string (aJ P),.bool (aN P)])∧Below w1.heap.size w1 w'):=fun w1 hb=>mM (h.below hb) (he.below hb) (hf.below hb)
 obtain ⟨a1,c1,rfl⟩:=h.1.sl;obtain ⟨a2,c2,rfl⟩:=h.2.1.sl;obtain ⟨a3,c3,rfl⟩:=h.2.2.1.sl;obtain ⟨a4,c4,rfl⟩:=h.2.2.2.sl;clear h he hf
 go_enter Tryz.func61,Tryz.ntmps61
 go_wp2_with (go_at_call 111;refine (HW.out _ (aF _ _)).mono ?_;rintro e w1 ⟨rfl,ok⟩;have HO1:=aA (aB (aF _ _) ok);clear ok)
 go_ret;exact ⟨rfl,HO1.out⟩
theorem rF {P:Mn} {v1 v2 v3 v4:Value} {w:World} (h:MnAt w P v1 v2 v3 v4) (he:Env w) (hf:FL w):
 Calls Tryz.prog 74 #[.agg #[v1,v2,v3,v4]] w fun e w'=>e= .returned (.tuple #[.string (aJ P),.int .i64 (if aN P=true then 0 else 25)])∧Below w.heap.size w w':=by
 have HW:Hid (∀ w1,Below w.heap.size w w1→Calls Tryz.prog 111 #[.agg #[v1,v2,v3,v4]] w1 fun e w'=>e= .returned (.tuple #[.string (aJ P),.bool (aN P)])∧Below w1.heap.size w1 w'):=fun w1 hb=>mM (h.below hb) (he.below hb) (hf.below hb)
 obtain ⟨a1,c1,rfl⟩:=h.1.sl;obtain ⟨a2,c2,rfl⟩:=h.2.1.sl;obtain ⟨a3,c3,rfl⟩:=h.2.2.1.sl;obtain ⟨a4,c4,rfl⟩:=h.2.2.2.sl;clear h he hf;have HWT:Hid (aN P=false→aJ P=⟨#[]⟩):=fun hb=>by unfold aJ;rw [if_neg (by rw [hb];simp)]
 cases hwb:aN P
 · rw [hwb] at HW
   have HT:=aA (HWT.out hwb);rw [HT.out] at HW ⊢
   go_enter Tryz.func74,Tryz.ntmps74
   go_wp2_with (go_at_call 111;refine (HW.out _ (aF _ _)).mono ?_;rintro e w1 ⟨rfl,ok⟩;have HO1:=aA (aB (aF _ _) ok);clear ok)
   go_ret2;exact ⟨rfl,HO1.out⟩
 · rw [hwb] at HW
   go_enter Tryz.func74,Tryz.ntmps74
   go_wp2_with (go_at_call 111;refine (HW.out _ (aF _ _)).mono ?_;rintro e w1 ⟨rfl,ok⟩;have HO1:=aA (aB (aF _ _) ok);clear ok)
   go_ret2;exact ⟨rfl,HO1.out⟩
end Go.Proofs.YtlmpiohbmlddiaaGreatDoor
namespace Go.Proofs.YtlmpiohbmlddiaaGreatDoor.Sc
set_option maxRecDepth 100000
def dgP (d:UInt8):Prop:=48≤d.toNat∧d.toNat≤57
def TI (n d:Nat):Bool:=decide (n≤(9223372036854775807 - d) / 10)
theorem OG (n d:Nat):TI n d=true↔n≤(9223372036854775807 - d) / 10:=by unfold TI;rw [decide_eq_true_eq]
def OH:Nat→Bs→Option Nat
 |n,[]=>some n
 |n,b::r=>if 48≤b.toNat∧b.toNat≤57∧TI n (b.toNat - 48)=true then OH (10*n+(b.toNat - 48)) r else none
def yH (T:Bs):Option Nat:=if T=[]∨(T.head? =some 48∧1<T.length) then none else OH 0 T
def kJ (n:Nat) (l:Bs):Nat:=l.foldl (fun n d=>n*10+(d.toNat - 48)) n
theorem fZ (n:Nat) (d:UInt8) (l:Bs):kJ n (d::l)=kJ (n*10+(d.toNat - 48)) l:=by unfold kJ;rw [List.foldl_cons]
theorem tP:∀ (l:Bs) (n v:Nat),OH n l=some v→(∀ d ∈ l,dgP d)∧v=kJ n l∧(n≤9223372036854775807→v≤9223372036854775807)
 |[],n,v,h=>by simp only [OH,Option.some.injEq] at h;subst h;exact ⟨fun d hd=>(by cases hd),rfl,id⟩
 |b::r,n,v,h=>by
  unfold OH at h
  split at h
  · rename_i hc
    rw [OG] at hc;obtain ⟨h1,h2,h3⟩:=tP r _ v h;refine ⟨fun d hd=> ?_,?_,fun _=>h3 (by omega)⟩
    · rcases List.mem_cons.1 hd with rfl|hd
      · exact ⟨hc.1,hc.2.1⟩
      · exact h1 d hd
    · rw [h2,fZ,Nat.mul_comm 10 n]
  · cases h
theorem gD {k:Nat} (h:k<10):(UInt8.ofNat (48+k)).toNat=48+k:=by
 rw [UInt8.toNat_ofNat'];omega
theorem OI {u:Nat} {d:UInt8} (hd:dgP d) (hu:1≤u):Lib.decDigits (u*10+(d.toNat - 48))=Lib.decDigits u++[d]:=by
 unfold dgP at hd;rw [Lib.decDigits,dif_neg (by omega)];have e1:(u*10+(d.toNat - 48)) / 10=u:=by omega
 have e2:(u*10+(d.toNat - 48)) % 10=d.toNat - 48:=by omega
 rw [e1,e2]
 congr 2
 exact UInt8.toNat_inj.1 (by rw [gD (by omega)];omega)
theorem yI:∀ (l:Bs) (u:Nat),(∀ d ∈ l,dgP d)→1≤u→Lib.decDigits (kJ u l)=Lib.decDigits u++l
 |[],u,_,_=>by simp [kJ]
 |d::l,u,hd,hu=>by
  rw [fZ,yI l _ (fun x h=>hd x (List.mem_cons_of_mem _ h)) (by omega),OI (hd d List.mem_cons_self) hu]
  simp
theorem FV {d:UInt8} (hd:dgP d):Lib.decDigits (d.toNat - 48)=[d]:=by
 unfold dgP at hd;rw [Lib.decDigits,dif_pos (by omega)]
 congr 1
 exact UInt8.toNat_inj.1 (by rw [gD (by omega)];omega)
theorem OJ {T:Bs} {n:Nat} (h:yH T=some n):T=Lib.decDigits n∧n≤9223372036854775807:=by
 unfold yH at h
 split at h
 · cases h
 · rename_i hc
   obtain ⟨h1,h2,h3⟩:=tP T 0 n h;refine ⟨?_,h3 (by omega)⟩;cases T with
   |nil=>exact absurd (Or.inl rfl) hc
   |cons d r=>
    have hd:=h1 d List.mem_cons_self
    by_cases hz:d=48
    · cases r with
      |nil=>
       rw [h2,fZ];subst hz;show [48]=Lib.decDigits (0*10+((48:UInt8).toNat - 48));rw [Nat.zero_mul,Nat.zero_add];exact (FV hd).symm
      |cons e r=>exact absurd (Or.inr ⟨by rw [hz];rfl,by simp⟩) hc
    · rw [h2,fZ]
      have hne:d.toNat≠48:=fun e=>hz (UInt8.toNat_inj.1 e)
      unfold dgP at hd;rw [Nat.zero_mul,Nat.zero_add,yI r _ (fun x hx=>h1 x (List.mem_cons_of_mem _ hx)) (by omega),FV hd];rfl
end Go.Proofs.YtlmpiohbmlddiaaGreatDoor.Sc
namespace Go.Proofs.YtlmpiohbmlddiaaGreatDoor.Sc
open Go.RowKit
set_option maxRecDepth 100000
def yJ (T:Bs) (most:Int):Int:=match yH T with
 |some n=>if (n:Int)≤most then (n:Int) else 0
 |none=>0
def yK (T:Bs) (most:Int):Bool:=match yH T with
 |some n=>decide ((n:Int)≤most)
 |none=>false
theorem OK {T:Bs} (h:yH T=none) (most:Int):yJ T most=0∧yK T most=false:=by unfold yJ yK;rw [h];exact ⟨rfl,rfl⟩
theorem QW {T:Bs} {n:Nat} {most:Int} (h:yH T=some n) (hm:¬ (n:Int)≤most):yJ T most=0∧yK T most=false:=by unfold yJ yK;rw [h];simp only;rw [if_neg hm,decide_eq_false hm];exact ⟨rfl,rfl⟩
theorem TJ {T:Bs} {n:Nat} {most:Int} (h:yH T=some n) (hm:(n:Int)≤most):yJ T most=n∧yK T most=true:=by unfold yJ yK;rw [h];simp only;rw [if_pos hm,decide_eq_true hm];exact ⟨rfl,rfl⟩
set_option maxHeartbeats 1600000 in
theorem yL (s:ByteArray) (hs:s.size≤1000000000000) (w:World):Calls Tryz.prog 220 #[.string s] w fun e w'=>e= .returned (.bool (isW s.data.toList))∧w'=w:=by
 have HWB:Hid (∀ b:UInt8,∀ w1,Calls Tryz.prog 183 #[.int .u8 (b.toNat:Int)] w1 fun e w'=>e= .returned (.bool (wB b))∧w'=w1):=uI
 go_enter Tryz.func220,Tryz.ntmps220
 go_wp2
 go_loop [6] (fun i=>∃ k:Nat,k≤s.size∧i= .int .i64 k∧(s.data.toList.take k).all wB=true) (fun i=>s.size - (intOf i).toNat)
 case atStart=>exact ⟨0,Nat.zero_le _,rfl,rfl⟩
 case round=>
  obtain ⟨k,hk,rfl,hal⟩:=hrel;have HA:=aA hal;clear hal
  by_cases hlt:k<s.size
  · have HWk:=aA (HWB.out s[k])
    cases hw:wB s[k]
    · have HR:Hid (isW s.data.toList=false):=by unfold Hid isW;rw [uK hlt hw];rfl
      rw [hw] at HWk;clear hw
      go_wp2_with (go_at_call 183;refine (HWk.out _).mono ?_;rintro e w1 ⟨rfl,hw1⟩;subst hw1)
      go_ret;exact ⟨aC HR.out.symm,rfl⟩
    · have HA2:=aA (iL hlt HA.out hw)
      rw [hw] at HWk;clear hw
      go_wp2_with (go_at_call 183;refine (HWk.out _).mono ?_;rintro e w1 ⟨rfl,hw1⟩;subst hw1)
      exact ⟨⟨k+1,by omega,by go_num,HA2.out⟩,by simp [intOf];omega⟩
  · have hke:k=s.size:=by omega
    subst hke;have HR:Hid (isW s.data.toList= !s.toList.isEmpty):=by unfold Hid isW;rw [uL HA.out,mB];rfl
    cases he:s.toList.isEmpty
    · rw [he] at HR
      go_wp2
      go_ret;exact ⟨aC HR.out.symm,rfl⟩
    · rw [he] at HR
      go_wp2
      go_ret;exact ⟨aC HR.out.symm,rfl⟩
def VN (ws:List Bs):Prop:=ws.length≤1000000000∧∀ x ∈ ws,x.length≤1000000000
set_option maxHeartbeats 1600000 in
theorem yM {ws:List Bs} (hf:VN ws) {v:Value} {w:World} (hv:WordsAt w v ws):Calls Tryz.prog 171 #[v] w fun e w'=>e= .returned (.bool (isL ws))∧w'=w:=by
 have HMW:Hid (∀ x ∈ ws,∀ w1,Calls Tryz.prog 220 #[.string (ba x)] w1 fun e w'=>e= .returned (.bool (isW x))∧w'=w1):=by
  intro x hx w1
  have:=yL (ba x) (by rw [ES];have:=hf.2 x hx;omega) w1
  rw [dQ] at this;exact this
 have hlen:=hf.1;obtain ⟨ad,cap,rfl,hcap,hl⟩:=hv;have HL:=aA hl;clear hl hf
 go_enter Tryz.func171,Tryz.ntmps171
 go_wp2
 go_loop [7] (fun i=>∃ k:Nat,k≤ws.length∧i= .int .i64 k∧(ws.take k).all isW=true) (fun i=>ws.length - (intOf i).toNat)
 case atStart=>exact ⟨0,Nat.zero_le _,rfl,rfl⟩
 case round=>
  obtain ⟨k,hk,rfl,hal⟩:=hrel;have HA:=aA hal;clear hal
  by_cases hlt:k<ws.length
  · obtain ⟨g,o,rfl,hg,hc⟩:∃ g o,ad=some ⟨g,o,none⟩∧g<w.heap.size∧∀ i (h:i<ws.length),w.cell? ⟨g,o+i,none⟩=some (.string (ba ws[i])):=by
     rcases HL.out with rfl|h
     · simp at hlt
     · exact h
    have hcell:=hc k hlt;have HMk:=aA (HMW.out ws[k] (List.getElem_mem hlt));have htk:ws.take (k+1)=ws.take k++[ws[k]]:=List.take_succ_eq_append_getElem hlt;have hmem:=List.getElem_mem hlt;clear hc;cases hw:isW ws[k]
    · have HR:Hid (isL ws=false):=by
       unfold Hid isL
       have:ws.all isW=false:=by
        rw [Bool.eq_false_iff];intro h;rw [List.all_eq_true] at h
        have:=h _ hmem
        rw [hw] at this;cases this
       rw [this];rfl
      rw [hw] at HMk;clear hw htk hmem;generalize ba ws[k]=x at*
      go_wp2_with (go_at_call 220;refine (HMk.out _).mono ?_;rintro e w1 ⟨rfl,hw1⟩;subst hw1)
      go_ret;exact ⟨aC HR.out.symm,rfl⟩
    · have HA2:Hid ((ws.take (k+1)).all isW=true):=by unfold Hid;rw [htk,List.all_append,HA.out];simp [hw]
      rw [hw] at HMk;clear hw htk hmem;generalize ba ws[k]=x at*
      go_wp2_with (go_at_call 220;refine (HMk.out _).mono ?_;rintro e w1 ⟨rfl,hw1⟩;subst hw1)
      exact ⟨⟨k+1,by omega,by go_num,HA2.out⟩,by simp [intOf];omega⟩
  · have hke:k=ws.length:=by omega
    subst hke
    have HR:Hid (isL ws=decide (0<ws.length)):=by
     unfold Hid isL
     have:=HA.out
     rw [List.take_length] at this;rw [this];cases ws<;>simp
    go_wp2
    go_ret;refine ⟨aC ?_,rfl⟩;rw [HR.out]
theorem JT {ws:List Bs} (h:ws≠[]):Lib.join ws [32]++[10]=cB ws:=by
 induction ws with
 |nil=>exact absurd rfl h
 |cons x l ih=>
  cases l with
  |nil=>rw [Lib.join_one];rfl
  |cons y r=>
   have e:cB (x::y::r)=x++[32]++cB (y::r):=rfl;rw [e,←ih (by simp)];simp [Lib.join,List.intercalate]
theorem JU {ws:List Bs} (hne:ws≠[]) (hl:ws.length≤140737488355328) (hj:(Lib.join ws [32]).length≤140737488355328) {v:Value} {w:World} (hv:WordsAt w v ws):
 Calls Tryz.prog 172 #[v,.string ⟨#[32]⟩] w fun e w'=>e= .returned (.string (ba (Lib.join ws [32])))∧Below w.heap.size w w':=by
 obtain ⟨ad,cap,rfl,hcap,hh⟩:=hv;obtain ⟨g,o,rfl,hg,hc⟩:=hh.resolve_left hne
 have e1:(ws.map ba).map (fun x=>x.data.toList)=ws:=by
  rw [List.map_map]
  conv=>rhs;rw [←List.map_id ws]
  exact List.map_congr_left fun x _=>dQ x
 have e2:(⟨#[32]⟩:ByteArray).data.toList=[32]:=rfl
 have:=Tryz.strings_Join g o cap (ws.map ba) ⟨#[32]⟩ w (fun j x hx=>by
  rw [List.getElem?_map] at hx
  by_cases hj:j<ws.length
  · rw [List.getElem?_eq_getElem hj] at hx
    simp only [Option.map_some,Option.some.injEq] at hx;rw [←hx];exact hc j hj
  · rw [List.getElem?_eq_none (by omega)] at hx
    cases hx) hg (by rw [List.length_map];exact hl) (by rw [List.length_map];exact hcap) (by rw [e1,e2];exact hj)
 rw [e1,e2,List.length_map] at this;exact this
theorem nT:∀ (ws:List Bs),1≤(cB ws).length∧ws.length≤(cB ws).length∧∀ x ∈ ws,x.length≤(cB ws).length
 |[]=>⟨by simp [cB],by simp,fun x hx=>by cases hx⟩
 |[w]=>⟨by simp [cB],by simp [cB],fun x hx=>by rw [List.mem_singleton.1 hx];simp [cB]⟩
 |w::q::r=>by
  obtain ⟨h1,h2,h3⟩:=nT (q::r);have e:cB (w::q::r)=w++[32]++cB (q::r):=rfl;rw [e];simp only [List.length_append,List.length_cons,List.length_nil] at*;refine ⟨by omega,by omega,fun x hx=> ?_⟩
  rcases List.mem_cons.1 hx with rfl|hx
  · omega
  · have:=h3 x hx;omega
theorem rG (l:List Bs) (L:List (List Bs)):aQ (l::L)=cB l++aQ L:=by simp [aQ]
theorem nU:∀ (L:List (List Bs)),L.length≤(aQ L).length∧∀ l ∈ L,(cB l).length≤(aQ L).length
 |[]=>⟨by simp,fun l hl=>by cases hl⟩
 |l::L=>by
  obtain ⟨h1,h2⟩:=nU L
  have:=(nT l).1
  rw [rG];simp only [List.length_append,List.length_cons];refine ⟨by omega,fun x hx=> ?_⟩
  rcases List.mem_cons.1 hx with rfl|hx
  · omega
  · have:=h2 x hx;omega
theorem CX (L:List (List Bs)) (k:Nat):(aQ (L.take k)).length≤(aQ L).length:=by
 have:aQ L=aQ (L.take k)++aQ (L.drop k):=by
  unfold aQ;rw [←List.flatMap_append,List.take_append_drop]
 rw [this,List.length_append];omega
theorem CY {L:List (List Bs)} {k:Nat} (h:k<L.length):aQ (L.take (k+1))=aQ (L.take k)++cB L[k]:=by
 rw [List.take_succ_eq_append_getElem h,pJ]
def JV (L:List (List Bs)):ByteArray:=if L.all isL=true then ba (aQ L) else ⟨#[]⟩
def JW (L:List (List Bs)):Int:=if L.all isL=true then 0 else 22
theorem vM {L:List (List Bs)} (h:L.all isL=true):JV L=ba (aQ L)∧JW L=0:=by unfold JV JW;rw [if_pos h,if_pos h];exact ⟨rfl,rfl⟩
theorem TK {L:List (List Bs)} {l:List Bs} (hm:l ∈ L) (h:isL l=false):JV L=⟨#[]⟩∧JW L=22:=by
 have:L.all isL=false:=by
  rw [Bool.eq_false_iff];intro ha;rw [List.all_eq_true] at ha
  have:=ha l hm
  rw [h] at this;cases this
 unfold JV JW;rw [this];exact ⟨rfl,rfl⟩
theorem yN {a b:ByteArray} {x y:Int} (h1:a=b) (h2:x=y):Ending.returned (.tuple #[.string a,.int .i64 x])= .returned (.tuple #[.string b,.int .i64 y]):=by rw [h1,h2]
theorem Bld.new (w:World):Bld w.heap.size w.heap.size [] (w.alloc (.cells #[.pointer none,.slice none 0 0] 118)):=
 Or.inl ⟨Nat.le_refl _,.slice none 0 0,heap_alloc_new w _,⟨rfl,Or.inl ⟨rfl,rfl⟩⟩,by simp [Value.ownBlock]⟩
theorem Bld.below {B b:Nat} {l:Bs} {w w':World} (h:Bld B b l w) (hb:Below w.heap.size w w'):Bld B b l w':=by
 have key:∀ {p:Value},Lib.BuilderAt 118 5 B b p (Lib.byteCells l) w→Lib.BuilderAt 118 5 B b p (Lib.byteCells l) w':=by
  rintro p ⟨h1,v,h2,h3,h4⟩;refine ⟨h1,v,(hb.block b (Array.getElem?_eq_some_iff.1 h2).1).trans h2,⟨h3.1,?_⟩,h4⟩
  rcases h3.2 with hn|⟨g,cap,cur,hv,hB,hg,r⟩
  · exact Or.inl hn
  · exact Or.inr ⟨g,cap,cur,hv,hB,(hb.block g (Array.getElem?_eq_some_iff.1 hg).1).trans hg,r⟩
 exact h.imp key key
set_option maxHeartbeats 3200000 in
theorem OL {L:List (List Bs)} (hT:(aQ L).length≤4194304) {v:Value} {w:World} (hv:LinesAt w v L):
 Calls Tryz.prog 127 #[v] w fun e w'=>e= .returned (.tuple #[.string (JV L),.int .i64 (JW L)])∧Below w.heap.size w w':=by
 have hLl:=(nU L).1;have HV:=aA hv;obtain ⟨ad,cap,rfl,hcap,_⟩:=hv;have HN:=aA (Bld.new w)
 go_enter Tryz.func127,Tryz.ntmps127
 go_wp2
 go_loopw [9] (fun i wr=>∃ k:Nat,k≤L.length∧i= .int .i64 k∧(L.take k).all isL=true∧Bld w.heap.size w.heap.size (aQ (L.take k)) wr∧Below w.heap.size w wr) (fun i _=>L.length - (intOf i).toNat)
 case atStart=>exact ⟨0,Nat.zero_le _,rfl,rfl,HN.out,aF _ _⟩
 case round=>
  obtain ⟨k,hk,rfl,hal,hbd,hbe⟩:=hrel;have HA:=aA hal;have HB:=aA hbd;have HE:=aA hbe;clear hal hbd hbe HN;have hze:=HE.out.size
  by_cases hlt:k<L.length
  · obtain ⟨u,g,o,had,hg,hcell,hwu⟩:∃ u g o,ad=some ⟨g,o,none⟩∧g<wr.heap.size∧wr.cell? ⟨g,o+k,none⟩=some u∧WordsAt wr u L[k]:=by
     obtain ⟨ad',cap',hq,_,hl⟩:=HV.out.below HE.out;cases hq
     rcases hl with rfl|⟨g,o,h1,h2,h3⟩
     · simp at hlt
     · obtain ⟨u,h4,h5⟩:=h3 k hlt
       exact ⟨u,g,o,h1,h2,h4,h5⟩
    subst had;have hll:=nT L[k];have hlm:=(nU L).2 _ (List.getElem_mem hlt);have hmore:=CY hlt;have hml:=CX L (k+1);have HWU:=aA hwu;have HML:=aA (yM (w:=wr) ⟨by omega,fun x hx=>by have:=hll.2.2 x hx;omega⟩ hwu);have htk:L.take (k+1)=L.take k++[L[k]]:=List.take_succ_eq_append_getElem hlt;obtain ⟨bd,cap2,rfl,_,_⟩:=hwu;cases hw:isL L[k]
    · have HR:=aA (TK (List.getElem_mem hlt) hw)
      rw [hw] at HML;clear hw htk hmore hml hll hlm HWU
      go_wp2_with (go_at_call 171;refine HML.out.mono ?_;rintro e w1 ⟨rfl,hw1⟩;subst hw1)
      go_ret2;exact ⟨yN HR.out.1.symm HR.out.2.symm,HE.out⟩
    · have hne:L[k]≠[]:=by intro e;rw [e] at hw;cases hw
      have HA2:Hid ((L.take (k+1)).all isL=true):=by unfold Hid;rw [htk,List.all_append,HA.out];simp [hw]
      have hjl:=JT hne;have hjn:(Lib.join L[k] [32]).length+1=(cB L[k]).length:=by rw [←hjl];simp
      have hml2:(aQ (L.take k)).length+(cB L[k]).length≤4194304:=by rw [hmore,List.length_append] at hml;omega
      have HT:Hid (aQ (L.take (k+1))=aQ (L.take k)++Lib.join L[k] [32]++[10]):=by unfold Hid;rw [hmore,←hjl];simp
      have HJ:=aA (JU hne (by omega) (by omega) HWU.out)
      have HX:Hid (∀ w1:World,Bld w.heap.size w.heap.size (aQ (L.take k)) w1→w.heap.size≤w1.heap.size→Calls Tryz.prog 54 #[.pointer (some ⟨w.heap.size,0,none⟩),.string (ba (Lib.join L[k] [32]))] w1 fun e w'=>∃ n,e= .returned (.tuple #[.int .i64 n,.nilIface])∧Bld w.heap.size w.heap.size (aQ (L.take k)++Lib.join L[k] [32]) w'∧Below w.heap.size w1 w'):=by
       intro w1 h1 h2;refine (QI (ba (Lib.join L[k] [32])) h1 (by rw [ES];omega) h2).mono ?_;rintro e w' ⟨rfl,h3,h4⟩;rw [dQ] at h3;exact ⟨_,rfl,h3,h4⟩
      have HY:Hid (∀ w1:World,Bld w.heap.size w.heap.size (aQ (L.take k)++Lib.join L[k] [32]) w1→w.heap.size≤w1.heap.size→Calls Tryz.prog 173 #[.pointer (some ⟨w.heap.size,0,none⟩),.int .u8 10] w1 fun e w'=>e= .returned .nilIface∧Bld w.heap.size w.heap.size (aQ (L.take k)++Lib.join L[k] [32]++[10]) w'∧Below w.heap.size w1 w'):=by
       intro w1 h1 h2;exact QH 10 h1 (by rw [List.length_append];omega) h2
      rw [hw] at HML;clear hw htk hmore hml hll hlm HWU hjl hjn hml2 hne;generalize ba (Lib.join L[k] [32])=tx at*
      go_wp2_with (first
       |(go_at_call 171;refine HML.out.mono ?_;rintro e w1 ⟨rfl,hw1⟩;subst hw1)
       |(go_at_call 172;refine HJ.out.mono ?_;rintro e w3 ⟨rfl,hb3⟩;have HB3:=aA (HB.out.below hb3);have HE3:Hid (Below w.heap.size w w3):=aB HE.out hb3;clear hb3)
       |(go_at_call 54;refine (HX.out _ HB3.out HE3.out.size).mono ?_;rintro e w4 ⟨n4,rfl,hb4,he4⟩;have HB4:=aA hb4;have HE4:Hid (Below w.heap.size w w4):=HE3.out.trans he4;clear hb4 he4)
       |(go_at_call 173;refine (HY.out _ HB4.out HE4.out.size).mono ?_;rintro e w5 ⟨rfl,hb5,he5⟩;have HB5:=aA hb5;have HE5:Hid (Below w.heap.size w w5):=HE4.out.trans he5;clear hb5 he5))
      exact ⟨⟨k+1,by omega,by go_num,HA2.out,by rw [HT.out];exact HB5.out,HE5.out⟩,by simp [intOf];omega⟩
  · have hke:k=L.length:=by omega
    subst hke;have HR:Hid (JV L=ba (aQ L)∧JW L=0):=vM (by have:=HA.out;rw [List.take_length] at this;exact this)
    have HS:Hid (Calls Tryz.prog 55 #[.pointer (some ⟨w.heap.size,0,none⟩)] wr fun e w'=>e= .returned (.string (ba (aQ L)))∧Below w.heap.size wr w'):=by
     have:=HB.out
     rw [List.take_length] at this;exact Tryz.Builder_String_any w.heap.size w.heap.size (aQ L) wr this hze
    go_wp2_with (go_at_call 55;refine HS.out.mono ?_;rintro e w3 ⟨rfl,hb3⟩;have HE3:Hid (Below w.heap.size w w3):=HE.out.trans hb3;clear hb3)
    go_ret2;exact ⟨yN HR.out.1.symm HR.out.2.symm,HE3.out⟩
end Go.Proofs.YtlmpiohbmlddiaaGreatDoor.Sc
