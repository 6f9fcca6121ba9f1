/- Mf2, ScPl2, ScNu1, ScJo1, ScJo2: their declarations that are needed, laid in one text, remarks and blanks left out. -/
import Derived.Lib.AtoiAllCases
import Derived.Lib.ItoaMem
import Derived.Test.YtlmpiohbmlddiaaGreatDoorMd12
namespace Go.Proofs.YtlmpiohbmlddiaaGreatDoor
open Go.RowKit
set_option maxRecDepth 100000
def mwK:Nat→ByteArray
 |0=>⟨#[110,101,101,100,115]⟩
 |1=>⟨#[100,101,118]⟩
 |2=>⟨#[108,105,107,101,115]⟩
 |_=>⟨#[112,105,110,115]⟩
theorem tR (k:Nat):(mwK k).size≤16:=by
 match k with
 |0|1|2=>decide
 |_+3=>show (⟨#[112,105,110,115]⟩:ByteArray).size≤16;decide
def gF (P:Mn):Nat→Sc.Bs
 |0=>[112,114,111,106,101,99,116,10]
 |1=>[112,114,111,106,101,99,116,10]++bM (mwK 0) P.d
 |2=>[112,114,111,106,101,99,116,10]++bM (mwK 0) P.d++bM (mwK 1) P.v
 |3=>[112,114,111,106,101,99,116,10]++bM (mwK 0) P.d++bM (mwK 1) P.v++bM (mwK 2) P.o
 |_=>[112,114,111,106,101,99,116,10]++bM (mwK 0) P.d++bM (mwK 1) P.v++bM (mwK 2) P.o++bM (mwK 3) P.p
def mN (P:Mn):Sc.Bs:=gF P 4
noncomputable def aM (P:Mn):Bool:=gX P&&decide ((mN P).length≤4096)
noncomputable def aH (P:Mn):ByteArray:=if aM P=true then ⟨(mN P).toArray⟩ else ⟨#[]⟩
set_option maxHeartbeats 6400000 in
theorem pH {P:Mn} {v1 v2 v3 v4:Value} {w:World} (h:MnAt w P v1 v2 v3 v4) (he:Env w) (hf:FL w) (hsd:gX P=true):
 Calls Tryz.prog 111 #[.agg #[v1,v2,v3,v4]] w fun e w'=>e= .returned (.tuple #[.string (aH P),.bool (aM P)])∧Below w.heap.size w w':=by
 have HSO:Hid (∀ w1,Below w.heap.size w w1→Calls Tryz.prog 156 #[.agg #[v1,v2,v3,v4]] w1 fun e w'=>e= .returned (.bool true)∧Below w1.heap.size w1 w'):=fun w1 hb=>by have:=wP (h.below hb);rw [hsd] at this;exact this
 have hs:=hsd;unfold gX at hs;simp only [Bool.and_eq_true] at hs;obtain ⟨⟨hd,hv,ho,hp⟩,_⟩:=hs;have HPG:Hid (∀ w1,Below w.heap.size w w1→MnAt w1 P v1 v2 v3 v4):=fun w1 hb=>h.below hb
 have HMD:Hid (bN P.d=true∧bN P.v=true∧bN P.o=true∧bN P.p=true):=⟨hd,hv,ho,hp⟩;have HF0:=aB (fA (tR 0) hd P.d.length);have HF1:=aB (fA (tR 1) hv P.v.length);have HF2:=aB (fA (tR 2) ho P.o.length);rw [List.take_length] at HF0 HF1 HF2;have HWB:Hid (aM P=decide ((mN P).length≤4096)):=by unfold Hid aM;rw [hsd];rfl
 have HPT:Hid (gF P 4=mN P):=rfl;obtain ⟨a1,c1,rfl⟩:=h.1.sl;obtain ⟨a2,c2,rfl⟩:=h.2.1.sl;obtain ⟨a3,c3,rfl⟩:=h.2.2.1.sl;obtain ⟨a4,c4,rfl⟩:=h.2.2.2.sl;have HLI:Hid (∀ w1,Calls Tryz.prog 120 #[.agg #[.slice a1 P.d.length c1,.slice a2 P.v.length c2,.slice a3 P.o.length c3,.slice a4 P.p.length c4]] w1 fun e w'=>∃ g,e= .returned (.slice (some ⟨g,0,none⟩) 4 4)∧Below w1.heap.size w1 w'∧w1.heap.size≤g∧w'.heap[g]? =some (bI (.slice a1 P.d.length c1) (.slice a2 P.v.length c2) (.slice a3 P.o.length c3) (.slice a4 P.p.length c4))):=fun w1=>kW _ _ _ _ _ _ _ _ _ _ _ _ w1
 have HLE:Hid (∀ w1 l w',TW w1 l w'→Calls Tryz.prog 158 #[.pointer (some ⟨w1.heap.size,0,none⟩)] w' fun e w2=>e= .returned (.int .i64 l.length)∧w2=w'):=fun w1 l w' h=>CW h.1
 have HST:Hid (∀ w1 l w',TW w1 l w'→Calls Tryz.prog 55 #[.pointer (some ⟨w1.heap.size,0,none⟩)] w' fun e w2=>e= .returned (.string ⟨l.toArray⟩)∧Below w1.heap.size w' w2):=fun w1 l w' h=>Tryz.Builder_String_any _ _ l w' h.1 h.2.size
 have HWR:Hid (∀ w1,Below w.heap.size w w1→∀ (l:Sc.Bs) wz (x:ByteArray) v L,TW w1 l wz→DepsAt w1 v L→bN L=true→x.size≤16→l.length≤1000000→Calls Tryz.prog 157 #[.pointer (some ⟨w1.heap.size,0,none⟩),.string x,v] wz fun e w'=>e= .returned (.tuple #[])∧TW w1 (l++bM x L) w'∧FarB w1.heap.size wz w'):=fun w1 hb l wz x v L h1 h2 h3 h4 h5=>rV h1 h2 h3 (he.below hb) (hf.below hb) h4 h5
 have HPU:Hid (∀ w1 (l:Sc.Bs) wz (s:ByteArray),TW w1 l wz→l.length≤1000000→s.size≤1000000→Calls Tryz.prog 54 #[.pointer (some ⟨w1.heap.size,0,none⟩),.string s] wz fun e w'=>e= .returned (.tuple #[.int .i64 s.size,.nilIface])∧TW w1 (l++s.data.toList) w'∧FarB w1.heap.size wz w'):=fun w1 l wz s h1 h2 h3=>h1.put s (by omega) h3
 clear h he hf hsd hd hv ho hp;have HBX:Hid (BxM (w.alloc (.cells #[.slice a1 P.d.length c1,.slice a2 P.v.length c2,.slice a3 P.o.length c3,.slice a4 P.p.length c4] 24)) w.heap.size (.slice a1 P.d.length c1) (.slice a2 P.v.length c2) (.slice a3 P.o.length c3) (.slice a4 P.p.length c4)):=BxM.new rfl _ _ _ _;have HKB:Hid (KeepP fun w1=>BxM w1 w.heap.size (.slice a1 P.d.length c1) (.slice a2 P.v.length c2) (.slice a3 P.o.length c3) (.slice a4 P.p.length c4)):=kV _ _ _ _ _
 go_enter Tryz.func111,Tryz.ntmps111
 go_wp2_with (first
  |(go_at_call 156;refine (HSO.out _ (aD _ _)).mono ?_;rintro e w1 ⟨rfl,ok⟩;have HO1:Hid (Below w.heap.size w w1∧BxM w1 w.heap.size (.slice a1 P.d.length c1) (.slice a2 P.v.length c2) (.slice a3 P.o.length c3) (.slice a4 P.p.length c4)):=⟨aA (aD _ _) ok,HKB.out _ _ HBX.out ok⟩;have HT0:Hid (TW w1 [] (w1.alloc (.cells #[.pointer none,.slice none 0 0] 118))):=TW.new w1;clear ok HBX)
  |(go_at_call 54;refine (HPU.out w1 [] _ ⟨#[112,114,111,106,101,99,116,10]⟩ HT0.out (by decide) (by decide)).mono ?_;rintro e w3 ⟨rfl,ok,_⟩;have HT3:Hid (TW w1 (gF P 0) w3):=ok;have HX3:=aB (HKB.out _ _ HO1.out.2 HT3.out.2);obtain ⟨k0,k1,k2,k3,k4⟩:=HX3.out;clear ok)
  |(go_at_call 120;refine (HLI.out _).mono ?_;rintro e w4 ⟨g,rfl,ok,hg,hgl⟩;have HT4:Hid (TW w1 (gF P 0) w4∧w4.heap[g]? =some (bI (.slice a1 P.d.length c1) (.slice a2 P.v.length c2) (.slice a3 P.o.length c3) (.slice a4 P.p.length c4))∧w1.heap.size<g):=⟨fB _ _ _ _ HT3.out ok,hgl,by have:=HT3.out.far;omega⟩;clear ok hg hgl k0 k1 k2 k3 k4))
 go_loopw [14] (fun i wr=>∃ k:Nat,k≤4∧i= .int .i64 k∧TW w1 (gF P k) wr∧wr.heap[g]? =some (bI (.slice a1 P.d.length c1) (.slice a2 P.v.length c2) (.slice a3 P.o.length c3) (.slice a4 P.p.length c4))∧w1.heap.size<g) (fun i _=>4 - (intOf i).toNat)
 case atStart=>exact ⟨0,Nat.zero_le _,rfl,HT4.out⟩
 case round=>
  clear HT4;obtain ⟨k,hk,rfl,htw⟩:=hrel
  rcases (show k=0∨k=1∨k=2∨k=3∨k=4 by omega) with rfl|rfl|rfl|rfl|rfl
  · have HTK:=aB htw
    clear htw;have q0:wr.cell? ⟨g,0,none⟩=some (.string ⟨#[110,101,101,100,115]⟩):=by rw [Lib.cell_of_heap HTK.out.2.1];rfl
    have q1:wr.cell? ⟨g,1,none⟩=some (.slice a1 P.d.length c1):=by rw [Lib.cell_of_heap HTK.out.2.1];rfl
    have hpl:(gF P 0).length≤1000000:=by
     have h2:=HF0.out;have h3:=HF1.out;have h4:=HF2.out;show 8≤1000000;decide
    have HTA:Hid (TW w1 (gF P 0) (wr.alloc (.cells #[.string ⟨#[110,101,101,100,115]⟩,.slice a1 P.d.length c1] 180))∧(wr.alloc (.cells #[.string ⟨#[110,101,101,100,115]⟩,.slice a1 P.d.length c1] 180)).heap[g]? =some (bI (.slice a1 P.d.length c1) (.slice a2 P.v.length c2) (.slice a3 P.o.length c3) (.slice a4 P.p.length c4))∧w1.heap.size<g):=⟨fB _ _ _ _ HTK.out.1 (aD _ _),((aD _ _).block g (Array.getElem?_eq_some_iff.1 HTK.out.2.1).1).trans HTK.out.2.1,HTK.out.2.2⟩
    go_wp2_with (go_at_call 157;refine (HWR.out w1 HO1.out.1 _ _ ⟨#[110,101,101,100,115]⟩ _ P.d HTA.out.1 (HPG.out w1 HO1.out.1).1 HMD.out.1 (by decide) hpl).mono ?_;rintro e w5 ⟨rfl,ok,far⟩;have HT5:Hid (TW w1 (gF P (0+1)) w5∧w5.heap[g]? =some (bI (.slice a1 P.d.length c1) (.slice a2 P.v.length c2) (.slice a3 P.o.length c3) (.slice a4 P.p.length c4))∧w1.heap.size<g):=⟨ok,far _ _ _ _ HTA.out.2.1 (by decide) (by have:=HTA.out.2.2;omega),HTA.out.2.2⟩;clear ok far)
    exact ⟨⟨0+1,by omega,rfl,HT5.out⟩,by simp [intOf]⟩
  · have HTK:=aB htw
    clear htw;have q0:wr.cell? ⟨g,2,none⟩=some (.string ⟨#[100,101,118]⟩):=by rw [Lib.cell_of_heap HTK.out.2.1];rfl
    have q1:wr.cell? ⟨g,3,none⟩=some (.slice a2 P.v.length c2):=by rw [Lib.cell_of_heap HTK.out.2.1];rfl
    have hpl:(gF P 1).length≤1000000:=by
     have h2:=HF0.out;have h3:=HF1.out;have h4:=HF2.out;simp only [gF,List.length_append,List.length_cons,List.length_nil] at*;omega
    have HTA:Hid (TW w1 (gF P 1) (wr.alloc (.cells #[.string ⟨#[100,101,118]⟩,.slice a2 P.v.length c2] 180))∧(wr.alloc (.cells #[.string ⟨#[100,101,118]⟩,.slice a2 P.v.length c2] 180)).heap[g]? =some (bI (.slice a1 P.d.length c1) (.slice a2 P.v.length c2) (.slice a3 P.o.length c3) (.slice a4 P.p.length c4))∧w1.heap.size<g):=⟨fB _ _ _ _ HTK.out.1 (aD _ _),((aD _ _).block g (Array.getElem?_eq_some_iff.1 HTK.out.2.1).1).trans HTK.out.2.1,HTK.out.2.2⟩
    go_wp2_with (go_at_call 157;refine (HWR.out w1 HO1.out.1 _ _ ⟨#[100,101,118]⟩ _ P.v HTA.out.1 (HPG.out w1 HO1.out.1).2.1 HMD.out.2.1 (by decide) hpl).mono ?_;rintro e w5 ⟨rfl,ok,far⟩;have HT5:Hid (TW w1 (gF P (1+1)) w5∧w5.heap[g]? =some (bI (.slice a1 P.d.length c1) (.slice a2 P.v.length c2) (.slice a3 P.o.length c3) (.slice a4 P.p.length c4))∧w1.heap.size<g):=⟨ok,far _ _ _ _ HTA.out.2.1 (by decide) (by have:=HTA.out.2.2;omega),HTA.out.2.2⟩;clear ok far)
    exact ⟨⟨1+1,by omega,rfl,HT5.out⟩,by simp [intOf]⟩
  · have HTK:=aB htw
    clear htw;have q0:wr.cell? ⟨g,4,none⟩=some (.string ⟨#[108,105,107,101,115]⟩):=by rw [Lib.cell_of_heap HTK.out.2.1];rfl
    have q1:wr.cell? ⟨g,5,none⟩=some (.slice a3 P.o.length c3):=by rw [Lib.cell_of_heap HTK.out.2.1];rfl
    have hpl:(gF P 2).length≤1000000:=by
     have h2:=HF0.out;have h3:=HF1.out;have h4:=HF2.out;simp only [gF,List.length_append,List.length_cons,List.length_nil] at*;omega
    have HTA:Hid (TW w1 (gF P 2) (wr.alloc (.cells #[.string ⟨#[108,105,107,101,115]⟩,.slice a3 P.o.length c3] 180))∧(wr.alloc (.cells #[.string ⟨#[108,105,107,101,115]⟩,.slice a3 P.o.length c3] 180)).heap[g]? =some (bI (.slice a1 P.d.length c1) (.slice a2 P.v.length c2) (.slice a3 P.o.length c3) (.slice a4 P.p.length c4))∧w1.heap.size<g):=⟨fB _ _ _ _ HTK.out.1 (aD _ _),((aD _ _).block g (Array.getElem?_eq_some_iff.1 HTK.out.2.1).1).trans HTK.out.2.1,HTK.out.2.2⟩
    go_wp2_with (go_at_call 157;refine (HWR.out w1 HO1.out.1 _ _ ⟨#[108,105,107,101,115]⟩ _ P.o HTA.out.1 (HPG.out w1 HO1.out.1).2.2.1 HMD.out.2.2.1 (by decide) hpl).mono ?_;rintro e w5 ⟨rfl,ok,far⟩;have HT5:Hid (TW w1 (gF P (2+1)) w5∧w5.heap[g]? =some (bI (.slice a1 P.d.length c1) (.slice a2 P.v.length c2) (.slice a3 P.o.length c3) (.slice a4 P.p.length c4))∧w1.heap.size<g):=⟨ok,far _ _ _ _ HTA.out.2.1 (by decide) (by have:=HTA.out.2.2;omega),HTA.out.2.2⟩;clear ok far)
    exact ⟨⟨2+1,by omega,rfl,HT5.out⟩,by simp [intOf]⟩
  · have HTK:=aB htw
    clear htw;have q0:wr.cell? ⟨g,6,none⟩=some (.string ⟨#[112,105,110,115]⟩):=by rw [Lib.cell_of_heap HTK.out.2.1];rfl
    have q1:wr.cell? ⟨g,7,none⟩=some (.slice a4 P.p.length c4):=by rw [Lib.cell_of_heap HTK.out.2.1];rfl
    have hpl:(gF P 3).length≤1000000:=by
     have h2:=HF0.out;have h3:=HF1.out;have h4:=HF2.out;simp only [gF,List.length_append,List.length_cons,List.length_nil] at*;omega
    have HTA:Hid (TW w1 (gF P 3) (wr.alloc (.cells #[.string ⟨#[112,105,110,115]⟩,.slice a4 P.p.length c4] 180))∧(wr.alloc (.cells #[.string ⟨#[112,105,110,115]⟩,.slice a4 P.p.length c4] 180)).heap[g]? =some (bI (.slice a1 P.d.length c1) (.slice a2 P.v.length c2) (.slice a3 P.o.length c3) (.slice a4 P.p.length c4))∧w1.heap.size<g):=⟨fB _ _ _ _ HTK.out.1 (aD _ _),((aD _ _).block g (Array.getElem?_eq_some_iff.1 HTK.out.2.1).1).trans HTK.out.2.1,HTK.out.2.2⟩
    go_wp2_with (go_at_call 157;refine (HWR.out w1 HO1.out.1 _ _ ⟨#[112,105,110,115]⟩ _ P.p HTA.out.1 (HPG.out w1 HO1.out.1).2.2.2 HMD.out.2.2.2 (by decide) hpl).mono ?_;rintro e w5 ⟨rfl,ok,far⟩;have HT5:Hid (TW w1 (gF P (3+1)) w5∧w5.heap[g]? =some (bI (.slice a1 P.d.length c1) (.slice a2 P.v.length c2) (.slice a3 P.o.length c3) (.slice a4 P.p.length c4))∧w1.heap.size<g):=⟨ok,far _ _ _ _ HTA.out.2.1 (by decide) (by have:=HTA.out.2.2;omega),HTA.out.2.2⟩;clear ok far)
    exact ⟨⟨3+1,by omega,rfl,HT5.out⟩,by simp [intOf]⟩
  · have HTE:=aB htw.1
    rw [HPT.out] at HTE;clear htw
    by_cases hlen:(mN P).length≤4096
    · have HR:Hid (aM P=true∧aH P=⟨(mN P).toArray⟩):=by
       have:aM P=true:=by rw [HWB.out];exact decide_eq_true hlen
       exact ⟨this,by unfold aH;rw [if_pos this]⟩
      go_wp2_with (first
       |(go_at_call 158;refine (HLE.out _ _ _ HTE.out).mono ?_;rintro e w5 ⟨rfl,rfl⟩)
       |(go_at_call 55;refine (HST.out _ _ _ HTE.out).mono ?_;rintro e w6 ⟨rfl,ok⟩;have HB6:=aB (aA HO1.out.1 (HTE.out.2.trans ok));clear ok))
      go_ret2;exact ⟨by rw [HR.out.1,HR.out.2];rfl,HB6.out⟩
    · have HR:Hid (aM P=false∧aH P=⟨#[]⟩):=by
       have:aM P=false:=by rw [HWB.out];exact decide_eq_false hlen
       exact ⟨this,by unfold aH;rw [if_neg (by rw [this];simp)]⟩
      go_wp2_with (go_at_call 158;refine (HLE.out _ _ _ HTE.out).mono ?_;rintro e w5 ⟨rfl,rfl⟩)
      go_ret2;exact ⟨by rw [HR.out.1,HR.out.2];rfl,aA HO1.out.1 HTE.out.2⟩
theorem kX {P:Mn} {v1 v2 v3 v4:Value} {w:World} (h:MnAt w P v1 v2 v3 v4) (he:Env w) (hf:FL w):
 Calls Tryz.prog 111 #[.agg #[v1,v2,v3,v4]] w fun e w'=>e= .returned (.tuple #[.string (aH P),.bool (aM P)])∧Below w.heap.size w w':=by
 cases hsd:gX P
 · have HSO:Hid (∀ w1,Below w.heap.size w w1→Calls Tryz.prog 156 #[.agg #[v1,v2,v3,v4]] w1 fun e w'=>e= .returned (.bool false)∧Below w1.heap.size w1 w'):=fun w1 hb=>by have:=wP (h.below hb);rw [hsd] at this;exact this
   have HR:Hid (aM P=false∧aH P=⟨#[]⟩):=by
    have:aM P=false:=by unfold aM;rw [hsd];rfl
    exact ⟨this,by unfold aH;rw [if_neg (by rw [this];simp)]⟩
   obtain ⟨a1,c1,rfl⟩:=h.1.sl;obtain ⟨a2,c2,rfl⟩:=h.2.1.sl;obtain ⟨a3,c3,rfl⟩:=h.2.2.1.sl;obtain ⟨a4,c4,rfl⟩:=h.2.2.2.sl;clear h he hf hsd
   go_enter Tryz.func111,Tryz.ntmps111
   go_wp2_with (go_at_call 156;refine (HSO.out _ (aD _ _)).mono ?_;rintro e w1 ⟨rfl,ok⟩;have HO1:=aB (aA (aD _ _) ok);clear ok)
   go_ret2;exact ⟨by rw [HR.out.1,HR.out.2];rfl,HO1.out⟩
 · exact pH h he hf hsd
theorem KV {P:Mn} {v1 v2 v3 v4:Value} {w:World} (h:MnAt w P v1 v2 v3 v4) (he:Env w) (hf:FL w):
 Calls Tryz.prog 61 #[.agg #[v1,v2,v3,v4]] w fun e w'=>e= .returned (.bool (aM P))∧Below w.heap.size w w':=by
 have HW:Hid (∀ w1,Below w.heap.size w w1→Calls Tryz.prog 111 #[.agg #[v1,v2,v3,v4]] w1 fun e w'=>e= .returned (.tuple #[.string (aH P),.bool (aM P)])∧Below w1.heap.size w1 w'):=fun w1 hb=>kX (h.below hb) (he.below hb) (hf.below hb)
 obtain ⟨a1,c1,rfl⟩:=h.1.sl;obtain ⟨a2,c2,rfl⟩:=h.2.1.sl;obtain ⟨a3,c3,rfl⟩:=h.2.2.1.sl;obtain ⟨a4,c4,rfl⟩:=h.2.2.2.sl;clear h he hf
 go_enter Tryz.func61,Tryz.ntmps61
 go_wp2_with (go_at_call 111;refine (HW.out _ (aD _ _)).mono ?_;rintro e w1 ⟨rfl,ok⟩;have HO1:=aB (aA (aD _ _) ok);clear ok)
 go_ret;exact ⟨rfl,HO1.out⟩
theorem pI {P:Mn} {v1 v2 v3 v4:Value} {w:World} (h:MnAt w P v1 v2 v3 v4) (he:Env w) (hf:FL w):
 Calls Tryz.prog 74 #[.agg #[v1,v2,v3,v4]] w fun e w'=>e= .returned (.tuple #[.string (aH P),.int .i64 (if aM P=true then 0 else 25)])∧Below w.heap.size w w':=by
 have HW:Hid (∀ w1,Below w.heap.size w w1→Calls Tryz.prog 111 #[.agg #[v1,v2,v3,v4]] w1 fun e w'=>e= .returned (.tuple #[.string (aH P),.bool (aM P)])∧Below w1.heap.size w1 w'):=fun w1 hb=>kX (h.below hb) (he.below hb) (hf.below hb)
 obtain ⟨a1,c1,rfl⟩:=h.1.sl;obtain ⟨a2,c2,rfl⟩:=h.2.1.sl;obtain ⟨a3,c3,rfl⟩:=h.2.2.1.sl;obtain ⟨a4,c4,rfl⟩:=h.2.2.2.sl;clear h he hf;have HWT:Hid (aM P=false→aH P=⟨#[]⟩):=fun hb=>by unfold aH;rw [if_neg (by rw [hb];simp)]
 cases hwb:aM P
 · rw [hwb] at HW
   have HT:=aB (HWT.out hwb);rw [HT.out] at HW ⊢
   go_enter Tryz.func74,Tryz.ntmps74
   go_wp2_with (go_at_call 111;refine (HW.out _ (aD _ _)).mono ?_;rintro e w1 ⟨rfl,ok⟩;have HO1:=aB (aA (aD _ _) ok);clear ok)
   go_ret2;exact ⟨rfl,HO1.out⟩
 · rw [hwb] at HW
   go_enter Tryz.func74,Tryz.ntmps74
   go_wp2_with (go_at_call 111;refine (HW.out _ (aD _ _)).mono ?_;rintro e w1 ⟨rfl,ok⟩;have HO1:=aB (aA (aD _ _) ok);clear ok)
   go_ret2;exact ⟨rfl,HO1.out⟩
end Go.Proofs.YtlmpiohbmlddiaaGreatDoor
namespace Go.Proofs.YtlmpiohbmlddiaaGreatDoor.Sc
set_option maxRecDepth 100000
def dgP (d:UInt8):Prop:=48≤d.toNat∧d.toNat≤57
def RP (n d:Nat):Bool:=decide (n≤(9223372036854775807 - d) / 10)
theorem KW (n d:Nat):RP n d=true↔n≤(9223372036854775807 - d) / 10:=by unfold RP;rw [decide_eq_true_eq]
def KX:Nat→Bs→Option Nat
 |n,[]=>some n
 |n,b::r=>if 48≤b.toNat∧b.toNat≤57∧RP n (b.toNat - 48)=true then KX (10*n+(b.toNat - 48)) r else none
def wQ (T:Bs):Option Nat:=if T=[]∨(T.head? =some 48∧1<T.length) then none else KX 0 T
def iV (n:Nat) (l:Bs):Nat:=l.foldl (fun n d=>n*10+(d.toNat - 48)) n
theorem eP (n:Nat) (d:UInt8) (l:Bs):iV n (d::l)=iV (n*10+(d.toNat - 48)) l:=by unfold iV;rw [List.foldl_cons]
theorem rZ:∀ (l:Bs) (n v:Nat),KX n l=some v→(∀ d ∈ l,dgP d)∧v=iV n l∧(n≤9223372036854775807→v≤9223372036854775807)
 |[],n,v,h=>by simp only [KX,Option.some.injEq] at h;subst h;exact ⟨fun d hd=>(by cases hd),rfl,id⟩
 |b::r,n,v,h=>by
  unfold KX at h
  split at h
  · rename_i hc
    rw [KW] at hc;obtain ⟨h1,h2,h3⟩:=rZ r _ v h;refine ⟨fun d hd=> ?_,?_,fun _=>h3 (by omega)⟩
    · rcases List.mem_cons.1 hd with rfl|hd
      · exact ⟨hc.1,hc.2.1⟩
      · exact h1 d hd
    · rw [h2,eP,Nat.mul_comm 10 n]
  · cases h
theorem fY {k:Nat} (h:k<10):(UInt8.ofNat (48+k)).toNat=48+k:=by
 rw [UInt8.toNat_ofNat'];omega
theorem KY {u:Nat} {d:UInt8} (hd:dgP d) (hu:1≤u):Lib.decDigits (u*10+(d.toNat - 48))=Lib.decDigits u++[d]:=by
 unfold dgP at hd;rw [Lib.decDigits,dif_neg (by omega)];have e1:(u*10+(d.toNat - 48)) / 10=u:=by omega
 have e2:(u*10+(d.toNat - 48)) % 10=d.toNat - 48:=by omega
 rw [e1,e2]
 congr 2
 exact UInt8.toNat_inj.1 (by rw [fY (by omega)];omega)
theorem wR:∀ (l:Bs) (u:Nat),(∀ d ∈ l,dgP d)→1≤u→Lib.decDigits (iV u l)=Lib.decDigits u++l
 |[],u,_,_=>by simp [iV]
 |d::l,u,hd,hu=>by
  rw [eP,wR l _ (fun x h=>hd x (List.mem_cons_of_mem _ h)) (by omega),KY (hd d List.mem_cons_self) hu]
  simp
theorem DI {d:UInt8} (hd:dgP d):Lib.decDigits (d.toNat - 48)=[d]:=by
 unfold dgP at hd;rw [Lib.decDigits,dif_pos (by omega)]
 congr 1
 exact UInt8.toNat_inj.1 (by rw [fY (by omega)];omega)
theorem KZ {T:Bs} {n:Nat} (h:wQ T=some n):T=Lib.decDigits n∧n≤9223372036854775807:=by
 unfold wQ at h
 split at h
 · cases h
 · rename_i hc
   obtain ⟨h1,h2,h3⟩:=rZ T 0 n h;refine ⟨?_,h3 (by omega)⟩;cases T with
   |nil=>exact absurd (Or.inl rfl) hc
   |cons d r=>
    have hd:=h1 d List.mem_cons_self
    by_cases hz:d=48
    · cases r with
      |nil=>
       rw [h2,eP];subst hz;show [48]=Lib.decDigits (0*10+((48:UInt8).toNat - 48));rw [Nat.zero_mul,Nat.zero_add];exact (DI hd).symm
      |cons e r=>exact absurd (Or.inr ⟨by rw [hz];rfl,by simp⟩) hc
    · rw [h2,eP]
      have hne:d.toNat≠48:=fun e=>hz (UInt8.toNat_inj.1 e)
      unfold dgP at hd;rw [Nat.zero_mul,Nat.zero_add,wR r _ (fun x hx=>h1 x (List.mem_cons_of_mem _ hx)) (by omega),DI hd];rfl
end Go.Proofs.YtlmpiohbmlddiaaGreatDoor.Sc
namespace Go.Proofs.YtlmpiohbmlddiaaGreatDoor.Sc
open Go.RowKit
set_option maxRecDepth 100000
def wS (T:Bs) (most:Int):Int:=match wQ T with
 |some n=>if (n:Int)≤most then (n:Int) else 0
 |none=>0
def wT (T:Bs) (most:Int):Bool:=match wQ T with
 |some n=>decide ((n:Int)≤most)
 |none=>false
theorem LA {T:Bs} (h:wQ T=none) (most:Int):wS T most=0∧wT T most=false:=by unfold wS wT;rw [h];exact ⟨rfl,rfl⟩
theorem OO {T:Bs} {n:Nat} {most:Int} (h:wQ T=some n) (hm:¬ (n:Int)≤most):wS T most=0∧wT T most=false:=by unfold wS wT;rw [h];simp only;rw [if_neg hm,decide_eq_false hm];exact ⟨rfl,rfl⟩
theorem RQ {T:Bs} {n:Nat} {most:Int} (h:wQ T=some n) (hm:(n:Int)≤most):wS T most=n∧wT T most=true:=by unfold wS wT;rw [h];simp only;rw [if_pos hm,decide_eq_true hm];exact ⟨rfl,rfl⟩
set_option maxHeartbeats 1600000 in
theorem wU (s:ByteArray) (hs:s.size≤1000000000000) (w:World):Calls Tryz.prog 220 #[.string s] w fun e w'=>e= .returned (.bool (isW s.data.toList))∧w'=w:=by
 have HWB:Hid (∀ b:UInt8,∀ w1,Calls Tryz.prog 183 #[.int .u8 (b.toNat:Int)] w1 fun e w'=>e= .returned (.bool (wB b))∧w'=w1):=tB
 go_enter Tryz.func220,Tryz.ntmps220
 go_wp2
 go_loop [6] (fun i=>∃ k:Nat,k≤s.size∧i= .int .i64 k∧(s.data.toList.take k).all wB=true) (fun i=>s.size - (intOf i).toNat)
 case atStart=>exact ⟨0,Nat.zero_le _,rfl,rfl⟩
 case round=>
  obtain ⟨k,hk,rfl,hal⟩:=hrel;have HA:=aB hal;clear hal
  by_cases hlt:k<s.size
  · have HWk:=aB (HWB.out s[k])
    cases hw:wB s[k]
    · have HR:Hid (isW s.data.toList=false):=by unfold Hid isW;rw [CT hlt hw];rfl
      rw [hw] at HWk;clear hw
      go_wp2_with (go_at_call 183;refine (HWk.out _).mono ?_;rintro e w1 ⟨rfl,hw1⟩;subst hw1)
      go_ret;exact ⟨aC HR.out.symm,rfl⟩
    · have HA2:=aB (kJ hlt HA.out hw)
      rw [hw] at HWk;clear hw
      go_wp2_with (go_at_call 183;refine (HWk.out _).mono ?_;rintro e w1 ⟨rfl,hw1⟩;subst hw1)
      exact ⟨⟨k+1,by omega,by go_num,HA2.out⟩,by simp [intOf];omega⟩
  · have hke:k=s.size:=by omega
    subst hke;have HR:Hid (isW s.data.toList= !s.toList.isEmpty):=by unfold Hid isW;rw [CU HA.out,oH];rfl
    cases he:s.toList.isEmpty
    · rw [he] at HR
      go_wp2
      go_ret;exact ⟨aC HR.out.symm,rfl⟩
    · rw [he] at HR
      go_wp2
      go_ret;exact ⟨aC HR.out.symm,rfl⟩
def TX (ws:List Bs):Prop:=ws.length≤1000000000∧∀ x ∈ ws,x.length≤1000000000
set_option maxHeartbeats 1600000 in
theorem wV {ws:List Bs} (hf:TX ws) {v:Value} {w:World} (hv:WordsAt w v ws):Calls Tryz.prog 171 #[v] w fun e w'=>e= .returned (.bool (isL ws))∧w'=w:=by
 have HMW:Hid (∀ x ∈ ws,∀ w1,Calls Tryz.prog 220 #[.string (ba x)] w1 fun e w'=>e= .returned (.bool (isW x))∧w'=w1):=by
  intro x hx w1
  have:=wU (ba x) (by rw [sU];have:=hf.2 x hx;omega) w1
  rw [cR] at this;exact this
 have hlen:=hf.1;obtain ⟨ad,cap,rfl,hcap,hl⟩:=hv;have HL:=aB hl;clear hl hf
 go_enter Tryz.func171,Tryz.ntmps171
 go_wp2
 go_loop [7] (fun i=>∃ k:Nat,k≤ws.length∧i= .int .i64 k∧(ws.take k).all isW=true) (fun i=>ws.length - (intOf i).toNat)
 case atStart=>exact ⟨0,Nat.zero_le _,rfl,rfl⟩
 case round=>
  obtain ⟨k,hk,rfl,hal⟩:=hrel;have HA:=aB hal;clear hal
  by_cases hlt:k<ws.length
  · obtain ⟨g,o,rfl,hg,hc⟩:∃ g o,ad=some ⟨g,o,none⟩∧g<w.heap.size∧∀ i (h:i<ws.length),w.cell? ⟨g,o+i,none⟩=some (.string (ba ws[i])):=by
     rcases HL.out with rfl|h
     · simp at hlt
     · exact h
    have hcell:=hc k hlt;have HMk:=aB (HMW.out ws[k] (List.getElem_mem hlt));have htk:ws.take (k+1)=ws.take k++[ws[k]]:=List.take_succ_eq_append_getElem hlt;have hmem:=List.getElem_mem hlt;clear hc;cases hw:isW ws[k]
    · have HR:Hid (isL ws=false):=by
       unfold Hid isL
       have:ws.all isW=false:=by
        rw [Bool.eq_false_iff];intro h;rw [List.all_eq_true] at h
        have:=h _ hmem
        rw [hw] at this;cases this
       rw [this];rfl
      rw [hw] at HMk;clear hw htk hmem;generalize ba ws[k]=x at*
      go_wp2_with (go_at_call 220;refine (HMk.out _).mono ?_;rintro e w1 ⟨rfl,hw1⟩;subst hw1)
      go_ret;exact ⟨aC HR.out.symm,rfl⟩
    · have HA2:Hid ((ws.take (k+1)).all isW=true):=by unfold Hid;rw [htk,List.all_append,HA.out];simp [hw]
      rw [hw] at HMk;clear hw htk hmem;generalize ba ws[k]=x at*
      go_wp2_with (go_at_call 220;refine (HMk.out _).mono ?_;rintro e w1 ⟨rfl,hw1⟩;subst hw1)
      exact ⟨⟨k+1,by omega,by go_num,HA2.out⟩,by simp [intOf];omega⟩
  · have hke:k=ws.length:=by omega
    subst hke
    have HR:Hid (isL ws=decide (0<ws.length)):=by
     unfold Hid isL
     have:=HA.out
     rw [List.take_length] at this;rw [this];cases ws<;>simp
    go_wp2
    go_ret;refine ⟨aC ?_,rfl⟩;rw [HR.out]
theorem FT {ws:List Bs} (h:ws≠[]):Lib.join ws [32]++[10]=cA ws:=by
 induction ws with
 |nil=>exact absurd rfl h
 |cons x l ih=>
  cases l with
  |nil=>rw [Lib.join_one];rfl
  |cons y r=>
   have e:cA (x::y::r)=x++[32]++cA (y::r):=rfl;rw [e,←ih (by simp)];simp [Lib.join,List.intercalate]
theorem FU {ws:List Bs} (hne:ws≠[]) (hl:ws.length≤140737488355328) (hj:(Lib.join ws [32]).length≤140737488355328) {v:Value} {w:World} (hv:WordsAt w v ws):
 Calls Tryz.prog 172 #[v,.string ⟨#[32]⟩] w fun e w'=>e= .returned (.string (ba (Lib.join ws [32])))∧Below w.heap.size w w':=by
 obtain ⟨ad,cap,rfl,hcap,hh⟩:=hv;obtain ⟨g,o,rfl,hg,hc⟩:=hh.resolve_left hne
 have e1:(ws.map ba).map (fun x=>x.data.toList)=ws:=by
  rw [List.map_map]
  conv=>rhs;rw [←List.map_id ws]
  exact List.map_congr_left fun x _=>cR x
 have e2:(⟨#[32]⟩:ByteArray).data.toList=[32]:=rfl
 have:=Tryz.strings_Join g o cap (ws.map ba) ⟨#[32]⟩ w (fun j x hx=>by
  rw [List.getElem?_map] at hx
  by_cases hj:j<ws.length
  · rw [List.getElem?_eq_getElem hj] at hx
    simp only [Option.map_some,Option.some.injEq] at hx;rw [←hx];exact hc j hj
  · rw [List.getElem?_eq_none (by omega)] at hx
    cases hx) hg (by rw [List.length_map];exact hl) (by rw [List.length_map];exact hcap) (by rw [e1,e2];exact hj)
 rw [e1,e2,List.length_map] at this;exact this
theorem lR:∀ (ws:List Bs),1≤(cA ws).length∧ws.length≤(cA ws).length∧∀ x ∈ ws,x.length≤(cA ws).length
 |[]=>⟨by simp [cA],by simp,fun x hx=>by cases hx⟩
 |[w]=>⟨by simp [cA],by simp [cA],fun x hx=>by rw [List.mem_singleton.1 hx];simp [cA]⟩
 |w::q::r=>by
  obtain ⟨h1,h2,h3⟩:=lR (q::r);have e:cA (w::q::r)=w++[32]++cA (q::r):=rfl;rw [e];simp only [List.length_append,List.length_cons,List.length_nil] at*;refine ⟨by omega,by omega,fun x hx=> ?_⟩
  rcases List.mem_cons.1 hx with rfl|hx
  · omega
  · have:=h3 x hx;omega
theorem pJ (l:List Bs) (L:List (List Bs)):bG (l::L)=cA l++bG L:=by simp [bG]
theorem lS:∀ (L:List (List Bs)),L.length≤(bG L).length∧∀ l ∈ L,(cA l).length≤(bG L).length
 |[]=>⟨by simp,fun l hl=>by cases hl⟩
 |l::L=>by
  obtain ⟨h1,h2⟩:=lS L
  have:=(lR l).1
  rw [pJ];simp only [List.length_append,List.length_cons];refine ⟨by omega,fun x hx=> ?_⟩
  rcases List.mem_cons.1 hx with rfl|hx
  · omega
  · have:=h2 x hx;omega
theorem AP (L:List (List Bs)) (k:Nat):(bG (L.take k)).length≤(bG L).length:=by
 have:bG L=bG (L.take k)++bG (L.drop k):=by
  unfold bG;rw [←List.flatMap_append,List.take_append_drop]
 rw [this,List.length_append];omega
theorem AQ {L:List (List Bs)} {k:Nat} (h:k<L.length):bG (L.take (k+1))=bG (L.take k)++cA L[k]:=by
 rw [List.take_succ_eq_append_getElem h,nR]
def FV (L:List (List Bs)):ByteArray:=if L.all isL=true then ba (bG L) else ⟨#[]⟩
def FW (L:List (List Bs)):Int:=if L.all isL=true then 0 else 22
theorem tS {L:List (List Bs)} (h:L.all isL=true):FV L=ba (bG L)∧FW L=0:=by unfold FV FW;rw [if_pos h,if_pos h];exact ⟨rfl,rfl⟩
theorem RR {L:List (List Bs)} {l:List Bs} (hm:l ∈ L) (h:isL l=false):FV L=⟨#[]⟩∧FW L=22:=by
 have:L.all isL=false:=by
  rw [Bool.eq_false_iff];intro ha;rw [List.all_eq_true] at ha
  have:=ha l hm
  rw [h] at this;cases this
 unfold FV FW;rw [this];exact ⟨rfl,rfl⟩
theorem wW {a b:ByteArray} {x y:Int} (h1:a=b) (h2:x=y):Ending.returned (.tuple #[.string a,.int .i64 x])= .returned (.tuple #[.string b,.int .i64 y]):=by rw [h1,h2]
theorem Bld.new (w:World):Bld w.heap.size w.heap.size [] (w.alloc (.cells #[.pointer none,.slice none 0 0] 118)):=
 Or.inl ⟨Nat.le_refl _,.slice none 0 0,heap_alloc_new w _,⟨rfl,Or.inl ⟨rfl,rfl⟩⟩,by simp [Value.ownBlock]⟩
theorem Bld.below {B b:Nat} {l:Bs} {w w':World} (h:Bld B b l w) (hb:Below w.heap.size w w'):Bld B b l w':=by
 have key:∀ {p:Value},Lib.BuilderAt 118 5 B b p (Lib.byteCells l) w→Lib.BuilderAt 118 5 B b p (Lib.byteCells l) w':=by
  rintro p ⟨h1,v,h2,h3,h4⟩;refine ⟨h1,v,(hb.block b (Array.getElem?_eq_some_iff.1 h2).1).trans h2,⟨h3.1,?_⟩,h4⟩
  rcases h3.2 with hn|⟨g,cap,cur,hv,hB,hg,r⟩
  · exact Or.inl hn
  · exact Or.inr ⟨g,cap,cur,hv,hB,(hb.block g (Array.getElem?_eq_some_iff.1 hg).1).trans hg,r⟩
 exact h.imp key key
set_option maxHeartbeats 3200000 in
theorem LB {L:List (List Bs)} (hT:(bG L).length≤4194304) {v:Value} {w:World} (hv:LinesAt w v L):
 Calls Tryz.prog 127 #[v] w fun e w'=>e= .returned (.tuple #[.string (FV L),.int .i64 (FW L)])∧Below w.heap.size w w':=by
 have hLl:=(lS L).1;have HV:=aB hv;obtain ⟨ad,cap,rfl,hcap,_⟩:=hv;have HN:=aB (Bld.new w)
 go_enter Tryz.func127,Tryz.ntmps127
 go_wp2
 go_loopw [9] (fun i wr=>∃ k:Nat,k≤L.length∧i= .int .i64 k∧(L.take k).all isL=true∧Bld w.heap.size w.heap.size (bG (L.take k)) wr∧Below w.heap.size w wr) (fun i _=>L.length - (intOf i).toNat)
 case atStart=>exact ⟨0,Nat.zero_le _,rfl,rfl,HN.out,aD _ _⟩
 case round=>
  obtain ⟨k,hk,rfl,hal,hbd,hbe⟩:=hrel;have HA:=aB hal;have HB:=aB hbd;have HE:=aB hbe;clear hal hbd hbe HN;have hze:=HE.out.size
  by_cases hlt:k<L.length
  · obtain ⟨u,g,o,had,hg,hcell,hwu⟩:∃ u g o,ad=some ⟨g,o,none⟩∧g<wr.heap.size∧wr.cell? ⟨g,o+k,none⟩=some u∧WordsAt wr u L[k]:=by
     obtain ⟨ad',cap',hq,_,hl⟩:=HV.out.below HE.out;cases hq
     rcases hl with rfl|⟨g,o,h1,h2,h3⟩
     · simp at hlt
     · obtain ⟨u,h4,h5⟩:=h3 k hlt
       exact ⟨u,g,o,h1,h2,h4,h5⟩
    subst had;have hll:=lR L[k];have hlm:=(lS L).2 _ (List.getElem_mem hlt);have hmore:=AQ hlt;have hml:=AP L (k+1);have HWU:=aB hwu;have HML:=aB (wV (w:=wr) ⟨by omega,fun x hx=>by have:=hll.2.2 x hx;omega⟩ hwu);have htk:L.take (k+1)=L.take k++[L[k]]:=List.take_succ_eq_append_getElem hlt;obtain ⟨bd,cap2,rfl,_,_⟩:=hwu;cases hw:isL L[k]
    · have HR:=aB (RR (List.getElem_mem hlt) hw)
      rw [hw] at HML;clear hw htk hmore hml hll hlm HWU
      go_wp2_with (go_at_call 171;refine HML.out.mono ?_;rintro e w1 ⟨rfl,hw1⟩;subst hw1)
      go_ret2;exact ⟨wW HR.out.1.symm HR.out.2.symm,HE.out⟩
    · have hne:L[k]≠[]:=by intro e;rw [e] at hw;cases hw
      have HA2:Hid ((L.take (k+1)).all isL=true):=by unfold Hid;rw [htk,List.all_append,HA.out];simp [hw]
      have hjl:=FT hne;have hjn:(Lib.join L[k] [32]).length+1=(cA L[k]).length:=by rw [←hjl];simp
      have hml2:(bG (L.take k)).length+(cA L[k]).length≤4194304:=by rw [hmore,List.length_append] at hml;omega
      have HT:Hid (bG (L.take (k+1))=bG (L.take k)++Lib.join L[k] [32]++[10]):=by unfold Hid;rw [hmore,←hjl];simp
      have HJ:=aB (FU hne (by omega) (by omega) HWU.out)
      have HX:Hid (∀ w1:World,Bld w.heap.size w.heap.size (bG (L.take k)) w1→w.heap.size≤w1.heap.size→Calls Tryz.prog 54 #[.pointer (some ⟨w.heap.size,0,none⟩),.string (ba (Lib.join L[k] [32]))] w1 fun e w'=>∃ n,e= .returned (.tuple #[.int .i64 n,.nilIface])∧Bld w.heap.size w.heap.size (bG (L.take k)++Lib.join L[k] [32]) w'∧Below w.heap.size w1 w'):=by
       intro w1 h1 h2;refine (NX (ba (Lib.join L[k] [32])) h1 (by rw [sU];omega) h2).mono ?_;rintro e w' ⟨rfl,h3,h4⟩;rw [cR] at h3;exact ⟨_,rfl,h3,h4⟩
      have HY:Hid (∀ w1:World,Bld w.heap.size w.heap.size (bG (L.take k)++Lib.join L[k] [32]) w1→w.heap.size≤w1.heap.size→Calls Tryz.prog 173 #[.pointer (some ⟨w.heap.size,0,none⟩),.int .u8 10] w1 fun e w'=>e= .returned .nilIface∧Bld w.heap.size w.heap.size (bG (L.take k)++Lib.join L[k] [32]++[10]) w'∧Below w.heap.size w1 w'):=by
       intro w1 h1 h2;exact NW 10 h1 (by rw [List.length_append];omega) h2
      rw [hw] at HML;clear hw htk hmore hml hll hlm HWU hjl hjn hml2 hne;generalize ba (Lib.join L[k] [32])=tx at*
      go_wp2_with (first
       |(go_at_call 171;refine HML.out.mono ?_;rintro e w1 ⟨rfl,hw1⟩;subst hw1)
       |(go_at_call 172;refine HJ.out.mono ?_;rintro e w3 ⟨rfl,hb3⟩;have HB3:=aB (HB.out.below hb3);have HE3:Hid (Below w.heap.size w w3):=aA HE.out hb3;clear hb3)
       |(go_at_call 54;refine (HX.out _ HB3.out HE3.out.size).mono ?_;rintro e w4 ⟨n4,rfl,hb4,he4⟩;have HB4:=aB hb4;have HE4:Hid (Below w.heap.size w w4):=HE3.out.trans he4;clear hb4 he4)
       |(go_at_call 173;refine (HY.out _ HB4.out HE4.out.size).mono ?_;rintro e w5 ⟨rfl,hb5,he5⟩;have HB5:=aB hb5;have HE5:Hid (Below w.heap.size w w5):=HE4.out.trans he5;clear hb5 he5))
      exact ⟨⟨k+1,by omega,by go_num,HA2.out,by rw [HT.out];exact HB5.out,HE5.out⟩,by simp [intOf];omega⟩
  · have hke:k=L.length:=by omega
    subst hke;have HR:Hid (FV L=ba (bG L)∧FW L=0):=tS (by have:=HA.out;rw [List.take_length] at this;exact this)
    have HS:Hid (Calls Tryz.prog 55 #[.pointer (some ⟨w.heap.size,0,none⟩)] wr fun e w'=>e= .returned (.string (ba (bG L)))∧Below w.heap.size wr w'):=by
     have:=HB.out
     rw [List.take_length] at this;exact Tryz.Builder_String_any w.heap.size w.heap.size (bG L) wr this hze
    go_wp2_with (go_at_call 55;refine HS.out.mono ?_;rintro e w3 ⟨rfl,hb3⟩;have HE3:Hid (Below w.heap.size w w3):=HE.out.trans hb3;clear hb3)
    go_ret2;exact ⟨wW HR.out.1.symm HR.out.2.symm,HE3.out⟩
end Go.Proofs.YtlmpiohbmlddiaaGreatDoor.Sc
