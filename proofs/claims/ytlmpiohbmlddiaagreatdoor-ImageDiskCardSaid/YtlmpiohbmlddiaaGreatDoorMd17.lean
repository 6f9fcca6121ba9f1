/- Mf3, Im11, Im12, Im13, Pk9, Rd1, Mf4, Mf7, Lo3, Lo4, Lo5, Tw12: their declarations that are needed, laid in one text, remarks and blanks left out. -/
import Derived.Deep.RegionLaw
import Derived.Deep.CutRange
import Derived.Test.YtlmpiohbmlddiaaGreatDoorMd16
namespace Go.Proofs.YtlmpiohbmlddiaaGreatDoor
open Go.RowKit
set_option maxRecDepth 100000
theorem eQ {A B:List Dp} {u v:Value} {w:World} (x y:ByteArray) (hu:DepsAt w u A) (hv:DepsAt w v B) (hsz:A.length≤9223372036854775807):
 Calls Tryz.prog 121 #[.agg #[.string x,u],.agg #[.string y,v]] w fun e w'=>e= .returned (.bool (eqB A B))∧Below w.heap.size w w':=by
 have HE:Hid (∀ w1,Below w.heap.size w w1→Calls Tryz.prog 165 #[u,v] w1 fun x w'=>x= .returned (.bool (eqB A B))∧Below w1.heap.size w1 w'):=fun w1 h=>iQ (hu.below h) (hv.below h) hsz
 obtain ⟨ad,ca,rfl⟩:=hu.sl;obtain ⟨bd,cb,rfl⟩:=hv.sl;clear hu hv hsz
 go_enter Tryz.func121,Tryz.ntmps121
 go_wp2_with (go_at_call 165;refine (HE.out _ (aV _ _ _)).mono ?_;rintro x w1 ⟨rfl,ok⟩)
 go_ret;exact ⟨rfl,aA (aV _ _ _) ok⟩
theorem OR {P Q:Mn}:eqB P Q=(eqB P.d Q.d&&(eqB P.v Q.v&&(eqB P.o Q.o&&eqB P.p Q.p))):=by
 refine CR ?_;obtain ⟨d,v,o,p⟩:=P;obtain ⟨d',v',o',p'⟩:=Q;simp only [Bool.and_eq_true,eO,Mn.mk.injEq]
set_option maxHeartbeats 6400000 in
theorem tX {P Q:Mn} {ga gb:Nat} {w:World} {a1 a2 a3 a4:Option Addr} {ac1 ac2 ac3 ac4:Nat} {b1 b2 b3 b4:Option Addr} {bc1 bc2 bc3 bc4:Nat} (hp:MnAt w P (.slice a1 P.d.length ac1) (.slice a2 P.v.length ac2) (.slice a3 P.o.length ac3) (.slice a4 P.p.length ac4)) (hq:MnAt w Q (.slice b1 Q.d.length bc1) (.slice b2 Q.v.length bc2) (.slice b3 Q.o.length bc3) (.slice b4 Q.p.length bc4)) (ha:w.heap[ga]? =some (bI (.slice a1 P.d.length ac1) (.slice a2 P.v.length ac2) (.slice a3 P.o.length ac3) (.slice a4 P.p.length ac4))) (hb:w.heap[gb]? =some (bI (.slice b1 Q.d.length bc1) (.slice b2 Q.v.length bc2) (.slice b3 Q.o.length bc3) (.slice b4 Q.p.length bc4))) (hz:P.d.length≤9223372036854775807∧P.v.length≤9223372036854775807∧P.o.length≤9223372036854775807∧P.p.length≤9223372036854775807):
 Calls Tryz.prog 119 #[.slice (some ⟨ga,0,none⟩) 4 4,.slice (some ⟨gb,0,none⟩) 4 4,.func (.func 121) #[] #[]] w fun e w'=>e= .returned (.bool (eqB P Q))∧Below w.heap.size w w':=by
 have HC1:Hid (∀ w1,Below w.heap.size w w1→Calls Tryz.prog 121 #[.agg #[.string ⟨#[110,101,101,100,115]⟩,.slice a1 P.d.length ac1],.agg #[.string ⟨#[110,101,101,100,115]⟩,.slice b1 Q.d.length bc1]] w1 fun e w'=>e= .returned (.bool (eqB P.d Q.d))∧Below w1.heap.size w1 w'):=fun w1 h=>eQ _ _ (hp.1.below h) (hq.1.below h) hz.1
 have HC2:Hid (∀ w1,Below w.heap.size w w1→Calls Tryz.prog 121 #[.agg #[.string ⟨#[100,101,118]⟩,.slice a2 P.v.length ac2],.agg #[.string ⟨#[100,101,118]⟩,.slice b2 Q.v.length bc2]] w1 fun e w'=>e= .returned (.bool (eqB P.v Q.v))∧Below w1.heap.size w1 w'):=fun w1 h=>eQ _ _ (hp.2.1.below h) (hq.2.1.below h) hz.2.1
 have HC3:Hid (∀ w1,Below w.heap.size w w1→Calls Tryz.prog 121 #[.agg #[.string ⟨#[108,105,107,101,115]⟩,.slice a3 P.o.length ac3],.agg #[.string ⟨#[108,105,107,101,115]⟩,.slice b3 Q.o.length bc3]] w1 fun e w'=>e= .returned (.bool (eqB P.o Q.o))∧Below w1.heap.size w1 w'):=fun w1 h=>eQ _ _ (hp.2.2.1.below h) (hq.2.2.1.below h) hz.2.2.1
 have HC4:Hid (∀ w1,Below w.heap.size w w1→Calls Tryz.prog 121 #[.agg #[.string ⟨#[112,105,110,115]⟩,.slice a4 P.p.length ac4],.agg #[.string ⟨#[112,105,110,115]⟩,.slice b4 Q.p.length bc4]] w1 fun e w'=>e= .returned (.bool (eqB P.p Q.p))∧Below w1.heap.size w1 w'):=fun w1 h=>eQ _ _ (hp.2.2.2.below h) (hq.2.2.2.below h) hz.2.2.2
 have HA:Hid (∀ w1,Below w.heap.size w w1→w1.heap[ga]? =some (bI (.slice a1 P.d.length ac1) (.slice a2 P.v.length ac2) (.slice a3 P.o.length ac3) (.slice a4 P.p.length ac4))):=fun w1 h=>(h.block ga (Array.getElem?_eq_some_iff.1 ha).1).trans ha
 have HB:Hid (∀ w1,Below w.heap.size w w1→w1.heap[gb]? =some (bI (.slice b1 Q.d.length bc1) (.slice b2 Q.v.length bc2) (.slice b3 Q.o.length bc3) (.slice b4 Q.p.length bc4))):=fun w1 h=>(h.block gb (Array.getElem?_eq_some_iff.1 hb).1).trans hb
 have HE:=aB (OR (P:=P) (Q:=Q));clear hp hq ha hb hz;generalize eqB P Q=EE at*;generalize eqB P.d Q.d=x1 at*;generalize eqB P.v Q.v=x2 at*;generalize eqB P.o Q.o=x3 at*;generalize eqB P.p Q.p=x4 at*
 go_enter Tryz.func119,Tryz.ntmps119
 go_wp2_with fail
 go_loopw [17] (fun i wr=>∃ k:Nat,k≤4∧i= .int .i64 k∧Below w.heap.size w wr∧(1≤k→x1=true)∧(2≤k→x2=true)∧(3≤k→x3=true)∧(4≤k→x4=true)) (fun i _=>4 - (intOf i).toNat)
 case atStart=>exact ⟨0,Nat.zero_le _,rfl,Below.refl _ _,(fun h=>by omega),(fun h=>by omega),(fun h=>by omega),(fun h=>by omega)⟩
 case round=>
  obtain ⟨k,hk,rfl,hbw,e1,e2,e3,e4⟩:=hrel;have HBW:=aB hbw
  rcases (show k=0∨k=1∨k=2∨k=3∨k=4 by omega) with rfl|rfl|rfl|rfl|rfl
  · have q0:wr.cell? ⟨ga,0,none⟩=some (.string ⟨#[110,101,101,100,115]⟩):=by rw [Lib.cell_of_heap (HA.out wr hbw)];rfl
    have q1:wr.cell? ⟨ga,1,none⟩=some (.slice a1 P.d.length ac1):=by rw [Lib.cell_of_heap (HA.out wr hbw)];rfl
    have r0:(wr.alloc (.cells #[.string ⟨#[110,101,101,100,115]⟩,.slice a1 P.d.length ac1] 180)).cell? ⟨gb,0,none⟩=some (.string ⟨#[110,101,101,100,115]⟩):=by rw [Lib.cell_of_heap (HB.out _ (aA hbw (aD _ _)))];rfl
    have r1:(wr.alloc (.cells #[.string ⟨#[110,101,101,100,115]⟩,.slice a1 P.d.length ac1] 180)).cell? ⟨gb,1,none⟩=some (.slice b1 Q.d.length bc1):=by rw [Lib.cell_of_heap (HB.out _ (aA hbw (aD _ _)))];rfl
    clear hbw e1 e2 e3 e4;cases x1
    · have HR:Hid (EE=false):=by unfold Hid;rw [HE.out];simp
      go_wp2_with (go_at_call 121;refine (HC1.out _ (aA HBW.out (aV _ _ _))).mono ?_;rintro x w1 ⟨rfl,ok⟩;have HO1:=aB (aA (aA HBW.out (aV _ _ _)) ok);clear ok)
      go_ret;exact ⟨aC HR.out.symm,HO1.out⟩
    · go_wp2_with (go_at_call 121;refine (HC1.out _ (aA HBW.out (aV _ _ _))).mono ?_;rintro x w1 ⟨rfl,ok⟩;have HO1:=aB (aA (aA HBW.out (aV _ _ _)) ok);clear ok)
      exact ⟨⟨1,by omega,rfl,HO1.out,(fun _=>trivial),(fun h=>by omega),(fun h=>by omega),(fun h=>by omega)⟩,by simp [intOf]⟩
  · have e1':=e1 (by omega)
    subst e1';have q0:wr.cell? ⟨ga,2,none⟩=some (.string ⟨#[100,101,118]⟩):=by rw [Lib.cell_of_heap (HA.out wr hbw)];rfl
    have q1:wr.cell? ⟨ga,3,none⟩=some (.slice a2 P.v.length ac2):=by rw [Lib.cell_of_heap (HA.out wr hbw)];rfl
    have r0:(wr.alloc (.cells #[.string ⟨#[100,101,118]⟩,.slice a2 P.v.length ac2] 180)).cell? ⟨gb,2,none⟩=some (.string ⟨#[100,101,118]⟩):=by rw [Lib.cell_of_heap (HB.out _ (aA hbw (aD _ _)))];rfl
    have r1:(wr.alloc (.cells #[.string ⟨#[100,101,118]⟩,.slice a2 P.v.length ac2] 180)).cell? ⟨gb,3,none⟩=some (.slice b2 Q.v.length bc2):=by rw [Lib.cell_of_heap (HB.out _ (aA hbw (aD _ _)))];rfl
    clear hbw e1 e2 e3 e4;cases x2
    · have HR:Hid (EE=false):=by unfold Hid;rw [HE.out];simp
      go_wp2_with (go_at_call 121;refine (HC2.out _ (aA HBW.out (aV _ _ _))).mono ?_;rintro x w1 ⟨rfl,ok⟩;have HO1:=aB (aA (aA HBW.out (aV _ _ _)) ok);clear ok)
      go_ret;exact ⟨aC HR.out.symm,HO1.out⟩
    · go_wp2_with (go_at_call 121;refine (HC2.out _ (aA HBW.out (aV _ _ _))).mono ?_;rintro x w1 ⟨rfl,ok⟩;have HO1:=aB (aA (aA HBW.out (aV _ _ _)) ok);clear ok)
      exact ⟨⟨2,by omega,rfl,HO1.out,(fun _=>trivial),(fun _=>trivial),(fun h=>by omega),(fun h=>by omega)⟩,by simp [intOf]⟩
  · have e1':=e1 (by omega)
    have e2':=e2 (by omega);subst e1' e2';have q0:wr.cell? ⟨ga,4,none⟩=some (.string ⟨#[108,105,107,101,115]⟩):=by rw [Lib.cell_of_heap (HA.out wr hbw)];rfl
    have q1:wr.cell? ⟨ga,5,none⟩=some (.slice a3 P.o.length ac3):=by rw [Lib.cell_of_heap (HA.out wr hbw)];rfl
    have r0:(wr.alloc (.cells #[.string ⟨#[108,105,107,101,115]⟩,.slice a3 P.o.length ac3] 180)).cell? ⟨gb,4,none⟩=some (.string ⟨#[108,105,107,101,115]⟩):=by rw [Lib.cell_of_heap (HB.out _ (aA hbw (aD _ _)))];rfl
    have r1:(wr.alloc (.cells #[.string ⟨#[108,105,107,101,115]⟩,.slice a3 P.o.length ac3] 180)).cell? ⟨gb,5,none⟩=some (.slice b3 Q.o.length bc3):=by rw [Lib.cell_of_heap (HB.out _ (aA hbw (aD _ _)))];rfl
    clear hbw e1 e2 e3 e4;cases x3
    · have HR:Hid (EE=false):=by unfold Hid;rw [HE.out];simp
      go_wp2_with (go_at_call 121;refine (HC3.out _ (aA HBW.out (aV _ _ _))).mono ?_;rintro x w1 ⟨rfl,ok⟩;have HO1:=aB (aA (aA HBW.out (aV _ _ _)) ok);clear ok)
      go_ret;exact ⟨aC HR.out.symm,HO1.out⟩
    · go_wp2_with (go_at_call 121;refine (HC3.out _ (aA HBW.out (aV _ _ _))).mono ?_;rintro x w1 ⟨rfl,ok⟩;have HO1:=aB (aA (aA HBW.out (aV _ _ _)) ok);clear ok)
      exact ⟨⟨3,by omega,rfl,HO1.out,(fun _=>trivial),(fun _=>trivial),(fun _=>trivial),(fun h=>by omega)⟩,by simp [intOf]⟩
  · have e1':=e1 (by omega)
    have e2':=e2 (by omega);have e3':=e3 (by omega);subst e1' e2' e3';have q0:wr.cell? ⟨ga,6,none⟩=some (.string ⟨#[112,105,110,115]⟩):=by rw [Lib.cell_of_heap (HA.out wr hbw)];rfl
    have q1:wr.cell? ⟨ga,7,none⟩=some (.slice a4 P.p.length ac4):=by rw [Lib.cell_of_heap (HA.out wr hbw)];rfl
    have r0:(wr.alloc (.cells #[.string ⟨#[112,105,110,115]⟩,.slice a4 P.p.length ac4] 180)).cell? ⟨gb,6,none⟩=some (.string ⟨#[112,105,110,115]⟩):=by rw [Lib.cell_of_heap (HB.out _ (aA hbw (aD _ _)))];rfl
    have r1:(wr.alloc (.cells #[.string ⟨#[112,105,110,115]⟩,.slice a4 P.p.length ac4] 180)).cell? ⟨gb,7,none⟩=some (.slice b4 Q.p.length bc4):=by rw [Lib.cell_of_heap (HB.out _ (aA hbw (aD _ _)))];rfl
    clear hbw e1 e2 e3 e4;cases x4
    · have HR:Hid (EE=false):=by unfold Hid;rw [HE.out];simp
      go_wp2_with (go_at_call 121;refine (HC4.out _ (aA HBW.out (aV _ _ _))).mono ?_;rintro x w1 ⟨rfl,ok⟩;have HO1:=aB (aA (aA HBW.out (aV _ _ _)) ok);clear ok)
      go_ret;exact ⟨aC HR.out.symm,HO1.out⟩
    · go_wp2_with (go_at_call 121;refine (HC4.out _ (aA HBW.out (aV _ _ _))).mono ?_;rintro x w1 ⟨rfl,ok⟩;have HO1:=aB (aA (aA HBW.out (aV _ _ _)) ok);clear ok)
      exact ⟨⟨4,by omega,rfl,HO1.out,(fun _=>trivial),(fun _=>trivial),(fun _=>trivial),(fun _=>trivial)⟩,by simp [intOf]⟩
  · have e1':=e1 (by omega)
    have e2':=e2 (by omega);have e3':=e3 (by omega);have e4':=e4 (by omega);subst e1' e2' e3' e4';have HR:Hid (EE=true):=by unfold Hid;rw [HE.out];rfl
    clear hbw e1 e2 e3 e4
    go_wp2
    go_ret;exact ⟨aC HR.out.symm,HBW.out⟩
set_option maxHeartbeats 3200000 in
theorem GA {P Q:Mn} {v1 v2 v3 v4 u1 u2 u3 u4:Value} {w:World} (hp:MnAt w P v1 v2 v3 v4) (hq:MnAt w Q u1 u2 u3 u4) (hz:P.d.length≤9223372036854775807∧P.v.length≤9223372036854775807∧P.o.length≤9223372036854775807∧P.p.length≤9223372036854775807):
 Calls Tryz.prog 68 #[.agg #[v1,v2,v3,v4],.agg #[u1,u2,u3,u4]] w fun e w'=>e= .returned (.bool (eqB P Q))∧Below w.heap.size w w':=by
 obtain ⟨a1,ac1,rfl⟩:=hp.1.sl;obtain ⟨b1,bc1,rfl⟩:=hq.1.sl;obtain ⟨a2,ac2,rfl⟩:=hp.2.1.sl;obtain ⟨b2,bc2,rfl⟩:=hq.2.1.sl;obtain ⟨a3,ac3,rfl⟩:=hp.2.2.1.sl;obtain ⟨b3,bc3,rfl⟩:=hq.2.2.1.sl;obtain ⟨a4,ac4,rfl⟩:=hp.2.2.2.sl;obtain ⟨b4,bc4,rfl⟩:=hq.2.2.2.sl;have HLA:Hid (∀ w1,Calls Tryz.prog 120 #[.agg #[.slice a1 P.d.length ac1,.slice a2 P.v.length ac2,.slice a3 P.o.length ac3,.slice a4 P.p.length ac4]] w1 fun e w'=>∃ g,e= .returned (.slice (some ⟨g,0,none⟩) 4 4)∧Below w1.heap.size w1 w'∧w1.heap.size≤g∧w'.heap[g]? =some (bI (.slice a1 P.d.length ac1) (.slice a2 P.v.length ac2) (.slice a3 P.o.length ac3) (.slice a4 P.p.length ac4))):=fun w1=>kW _ _ _ _ _ _ _ _ _ _ _ _ w1
 have HLB:Hid (∀ w1,Calls Tryz.prog 120 #[.agg #[.slice b1 Q.d.length bc1,.slice b2 Q.v.length bc2,.slice b3 Q.o.length bc3,.slice b4 Q.p.length bc4]] w1 fun e w'=>∃ g,e= .returned (.slice (some ⟨g,0,none⟩) 4 4)∧Below w1.heap.size w1 w'∧w1.heap.size≤g∧w'.heap[g]? =some (bI (.slice b1 Q.d.length bc1) (.slice b2 Q.v.length bc2) (.slice b3 Q.o.length bc3) (.slice b4 Q.p.length bc4))):=fun w1=>kW _ _ _ _ _ _ _ _ _ _ _ _ w1
 have HEQ:Hid (∀ w1 ga gb,Below w.heap.size w w1→w1.heap[ga]? =some (bI (.slice a1 P.d.length ac1) (.slice a2 P.v.length ac2) (.slice a3 P.o.length ac3) (.slice a4 P.p.length ac4))→w1.heap[gb]? =some (bI (.slice b1 Q.d.length bc1) (.slice b2 Q.v.length bc2) (.slice b3 Q.o.length bc3) (.slice b4 Q.p.length bc4))→Calls Tryz.prog 119 #[.slice (some ⟨ga,0,none⟩) 4 4,.slice (some ⟨gb,0,none⟩) 4 4,.func (.func 121) #[] #[]] w1 fun e w'=>e= .returned (.bool (eqB P Q))∧Below w1.heap.size w1 w'):=fun w1 ga gb hb h1 h2=>tX (hp.below hb) (hq.below hb) h1 h2 hz
 clear hp hq hz;generalize eqB P Q=EE at*;have HBX:Hid (BxM ((w.alloc (.cells #[.slice a1 P.d.length ac1,.slice a2 P.v.length ac2,.slice a3 P.o.length ac3,.slice a4 P.p.length ac4] 24)).alloc (.cells #[.slice b1 Q.d.length bc1,.slice b2 Q.v.length bc2,.slice b3 Q.o.length bc3,.slice b4 Q.p.length bc4] 24)) w.heap.size (.slice a1 P.d.length ac1) (.slice a2 P.v.length ac2) (.slice a3 P.o.length ac3) (.slice a4 P.p.length ac4)∧BxM ((w.alloc (.cells #[.slice a1 P.d.length ac1,.slice a2 P.v.length ac2,.slice a3 P.o.length ac3,.slice a4 P.p.length ac4] 24)).alloc (.cells #[.slice b1 Q.d.length bc1,.slice b2 Q.v.length bc2,.slice b3 Q.o.length bc3,.slice b4 Q.p.length bc4] 24)) (w.heap.size+1) (.slice b1 Q.d.length bc1) (.slice b2 Q.v.length bc2) (.slice b3 Q.o.length bc3) (.slice b4 Q.p.length bc4)):=⟨kV _ _ _ _ _ _ _ (BxM.new rfl _ _ _ _) (aD _ _),BxM.new (by simp) _ _ _ _⟩
 have HKB:Hid (KeepP fun w1=>BxM w1 w.heap.size (.slice a1 P.d.length ac1) (.slice a2 P.v.length ac2) (.slice a3 P.o.length ac3) (.slice a4 P.p.length ac4)∧BxM w1 (w.heap.size+1) (.slice b1 Q.d.length bc1) (.slice b2 Q.v.length bc2) (.slice b3 Q.o.length bc3) (.slice b4 Q.p.length bc4)):=(kV _ _ _ _ _).and (kV _ _ _ _ _);obtain ⟨⟨k0,k1,k2,k3,k4⟩,⟨m0,m1,m2,m3,m4⟩⟩:=HBX.out;have t1:True:=trivial
 go_enter Tryz.func68,Tryz.ntmps68
 go_wp2_with fail
 go_region_held3 (fun w'=>(w'.cell? ⟨w.heap.size,0,none⟩=some (.slice a1 P.d.length ac1)∧w'.cell? ⟨w.heap.size,1,none⟩=some (.slice a2 P.v.length ac2)∧w'.cell? ⟨w.heap.size,2,none⟩=some (.slice a3 P.o.length ac3)∧w'.cell? ⟨w.heap.size,3,none⟩=some (.slice a4 P.p.length ac4))∧w'.cell? ⟨w.heap.size+1,0,none⟩=some (.slice b1 Q.d.length bc1)∧w'.cell? ⟨w.heap.size+1,1,none⟩=some (.slice b2 Q.v.length bc2)∧w'.cell? ⟨w.heap.size+1,2,none⟩=some (.slice b3 Q.o.length bc3)∧w'.cell? ⟨w.heap.size+1,3,none⟩=some (.slice b4 Q.p.length bc4)) (go_keep)
  (first
    |(have _t:=t1;go_at_call 120;refine (HLA.out _).mono ?_;rintro e w2 ⟨ga,rfl,ok,hg,hgl⟩;have HO2:Hid ((Below w.heap.size w w2∧w2.heap[ga]? =some (bI (.slice a1 P.d.length ac1) (.slice a2 P.v.length ac2) (.slice a3 P.o.length ac3) (.slice a4 P.p.length ac4)))∧(BxM w2 w.heap.size (.slice a1 P.d.length ac1) (.slice a2 P.v.length ac2) (.slice a3 P.o.length ac3) (.slice a4 P.p.length ac4)∧BxM w2 (w.heap.size+1) (.slice b1 Q.d.length bc1) (.slice b2 Q.v.length bc2) (.slice b3 Q.o.length bc3) (.slice b4 Q.p.length bc4))):=⟨⟨aA (aA (aV _ _ _) (Below.refl _ _).drew) ok,hgl⟩,HKB.out _ _ (HKB.out.drew HBX.out) ok⟩;clear ok hg hgl t1 k0 k1 k2 k3 k4 m0 m1 m2 m3 m4;obtain ⟨⟨k0,k1,k2,k3,k4⟩,⟨m0,m1,m2,m3,m4⟩⟩:=HO2.out.2)
    |(go_at_call 120;refine (HLB.out _).mono ?_;rintro e w3 ⟨gb,rfl,ok,hg,hgl⟩;have HO3:Hid ((Below w.heap.size w w3∧w3.heap[ga]? =some (bI (.slice a1 P.d.length ac1) (.slice a2 P.v.length ac2) (.slice a3 P.o.length ac3) (.slice a4 P.p.length ac4))∧w3.heap[gb]? =some (bI (.slice b1 Q.d.length bc1) (.slice b2 Q.v.length bc2) (.slice b3 Q.o.length bc3) (.slice b4 Q.p.length bc4)))∧(BxM w3 w.heap.size (.slice a1 P.d.length ac1) (.slice a2 P.v.length ac2) (.slice a3 P.o.length ac3) (.slice a4 P.p.length ac4)∧BxM w3 (w.heap.size+1) (.slice b1 Q.d.length bc1) (.slice b2 Q.v.length bc2) (.slice b3 Q.o.length bc3) (.slice b4 Q.p.length bc4))):=⟨⟨aA HO2.out.1.1 ok,(ok.block ga (Array.getElem?_eq_some_iff.1 HO2.out.1.2).1).trans HO2.out.1.2,hgl⟩,HKB.out _ _ HO2.out.2 ok⟩;clear ok hg hgl k0 k1 k2 k3 k4 m0 m1 m2 m3 m4;obtain ⟨⟨k0,k1,k2,k3,k4⟩,⟨m0,m1,m2,m3,m4⟩⟩:=HO3.out.2)
    |(go_at_call 119;refine (HEQ.out _ ga gb HO3.out.1.1 HO3.out.1.2.1 HO3.out.1.2.2).mono ?_;rintro e w4 ⟨rfl,ok⟩;have HO4:Hid (Below w.heap.size w w4∧(BxM w4 w.heap.size (.slice a1 P.d.length ac1) (.slice a2 P.v.length ac2) (.slice a3 P.o.length ac3) (.slice a4 P.p.length ac4)∧BxM w4 (w.heap.size+1) (.slice b1 Q.d.length bc1) (.slice b2 Q.v.length bc2) (.slice b3 Q.o.length bc3) (.slice b4 Q.p.length bc4))):=⟨aA HO3.out.1.1 ok,HKB.out _ _ HO3.out.2 ok⟩;clear ok k0 k1 k2 k3 k4 m0 m1 m2 m3 m4;obtain ⟨⟨k0,k1,k2,k3,k4⟩,⟨m0,m1,m2,m3,m4⟩⟩:=HO4.out.2))
 go_wp2
 go_ret;exact ⟨rfl,HO4.out.1⟩
def gI:Mn:=⟨[],[],[],[]⟩
noncomputable def eL (P:Mn) (G:List Nd) (L:List Dr) (pr:Bool):Bool:=eqB P gI&&(((G.length:Int)==1)&&(((L.length:Int)==1)&& !pr))
theorem OS (w:World):MnAt w gI (.slice none 0 0) (.slice none 0 0) (.slice none 0 0) (.slice none 0 0):=by
 have h:DepsAt w (.slice none 0 0) []:=⟨none,0,rfl,Nat.le_refl _,Or.inl rfl⟩;exact ⟨h,h,h,h⟩
set_option maxHeartbeats 3200000 in
theorem xI {P:Mn} {G:List Nd} {L:List Dr} {x1 x2 x3 x4:Value} {ag atr:Option Addr} {cg ct:Nat} {pr:Bool} {w:World} (hm:MnAt w P x1 x2 x3 x4) (hz:P.d.length≤9223372036854775807∧P.v.length≤9223372036854775807∧P.o.length≤9223372036854775807∧P.p.length≤9223372036854775807):
 Calls Tryz.prog 22 #[.agg #[x1,x2,x3,x4,.slice ag G.length cg,.slice atr L.length ct,.bool pr]] w fun e w'=>e= .returned (.bool (eL P G L pr))∧Below w.heap.size w w':=by
 have HS:Hid (∀ W,Below w.heap.size w W→Calls Tryz.prog 68 #[.agg #[x1,x2,x3,x4],.agg #[.slice none 0 0,.slice none 0 0,.slice none 0 0,.slice none 0 0]] W fun e w'=>e= .returned (.bool (eqB P gI))∧Below W.heap.size W w'):=fun W hb=>GA (hm.below hb) (OS W) hz
 obtain ⟨a1,c1,rfl⟩:=hm.1.sl;obtain ⟨a2,c2,rfl⟩:=hm.2.1.sl;obtain ⟨a3,c3,rfl⟩:=hm.2.2.1.sl;obtain ⟨a4,c4,rfl⟩:=hm.2.2.2.sl;have HS0:=aB (StB.new w (.slice a1 P.d.length c1) (.slice a2 P.v.length c2) (.slice a3 P.o.length c3) (.slice a4 P.p.length c4) (.slice ag G.length cg) (.slice atr L.length ct) pr);have HB0:Hid (Below w.heap.size w (w.alloc (stO (.slice a1 P.d.length c1) (.slice a2 P.v.length c2) (.slice a3 P.o.length c3) (.slice a4 P.p.length c4) (.slice ag G.length cg) (.slice atr L.length ct) pr))):=aD _ _;obtain ⟨⟨⟨s0,s1,s2,s3⟩,s4,s5,s6⟩,sl⟩:=HS0.out;clear sl hm hz;unfold eL;generalize eqB P gI=b1 at*;cases hg:((G.length:Int)==1)<;>cases hl:((L.length:Int)==1)<;>cases b1
 all_goals
  go_enter Tryz.func22,Tryz.ntmps22
  go_wp2_with (go_at_call 68;refine (HS.out _ HB0.out).mono ?_;rintro e W1 ⟨rfl,ok⟩;have HB1:=aB (aA HB0.out ok);clear s0 s1 s2 s3 s4 s5 s6;obtain ⟨⟨⟨s0,s1,s2,s3⟩,s4,s5,s6⟩,_⟩:=HS0.out.keep ok;clear ok)
  go_ret;exact ⟨by simp,HB1.out⟩
end Go.Proofs.YtlmpiohbmlddiaaGreatDoor
namespace Go.Proofs.YtlmpiohbmlddiaaGreatDoor
open Go.RowKit Go.Maps Go.WideMaps
set_option maxRecDepth 100000
theorem LH {P:Mn} {G:List Nd} {L:List Dr} {x1 x2 x3 x4 xg:Value} {g o cap:Nat} {w:World} (pr:Bool) (hm:MnAt w P x1 x2 x3 x4) (hg:NodesAt w xg G) (ht:DirsAt w (.slice (some ⟨g,o,none⟩) L.length cap) L) (hk:TrOk L) (he:Env w) (hf:FL w):
 Calls Tryz.prog 25 #[.agg #[x1,x2,x3,x4,xg,.slice (some ⟨g,o,none⟩) L.length cap,.bool pr]] w fun e w'=>e= .returned (.map (some (w.heap.size+1)))∧LdQ w (stO x1 x2 x3 x4 xg (.slice (some ⟨g,o,none⟩) L.length cap) pr) (gH (aH P) (Lo.prT G) pr L (L.length - 1)) 1000 w':=by
 cases pr
 · exact OP hm hg ht hk he hf
 · exact LF hm hg ht hk he hf
noncomputable def eM (P:Mn) (G:List Nd) (L:List Dr) (pr:Bool):List Fi:=if dN P G L=true∧eL P G L pr=false then fH (aH P) (Lo.prT G) pr L else []
noncomputable def erI (P:Mn) (G:List Nd) (L:List Dr):Int:=if dN P G L=true then 0 else 43
def OwnFi (w:World) (B:Nat) (v:Value) (fs:List Fi):Prop:=w.ownsRow B 45 3 v fs.length (fs.flatMap dG)
def LI (w:World) (fs:List Fi) (er:Int) (e:Ending) (w':World):Prop:=∃ v,e= .returned (.tuple #[v,.int .i64 er])∧OwnFi w' w.heap.size v fs∧Below w.heap.size w w'
theorem iW {P:Mn} {G:List Nd} {L:List Dr} (h:dN P G L=true):gU L G=0:=by
 unfold dN at h;simp only [Bool.and_eq_true,beq_iff_eq] at h;exact h.2.1
set_option maxHeartbeats 3200000 in
theorem LJ {P:Mn} {G:List Nd} {L:List Dr} {x1 x2 x3 x4 xg xt:Value} {pr:Bool} {w0 W:World} (hk:TrOk L) (h:LdQ w0 (stO x1 x2 x3 x4 xg xt pr) (gH (aH P) (Lo.prT G) pr L (L.length - 1)) 1000 W):
 Calls Tryz.prog 23 #[.func (.func 72) #[] #[.pointer (some ⟨W.heap.size,0,none⟩)]] (W.alloc (.cells #[.map (some (w0.heap.size+1))] 74)) fun e w'=>∃ v,e= .returned v∧OwnFi w' W.heap.size v (fH (aH P) (Lo.prT G) pr L)∧Below W.heap.size W w':=by
 obtain ⟨n,D,hn,ho,hD⟩:=h.own;have hall:=LE (aH P) (Lo.prT G) pr L;rw [hall] at hD
 have hlen:(((caP pr L).map (caF (aH P) (Lo.prT G))).foldl aR []).length≤1000000:=by
  have h1:=KN ((caP pr L).map (caF (aH P) (Lo.prT G))) _ (Nat.le_refl _);rw [List.take_length,List.length_map] at h1
  have h2:(caP pr L).length≤3+3*L.length:=by
   unfold caP gE;rw [List.length_append,List.length_flatMap]
   have e:((L.drop 1).map fun d=>([Ca.mod (upP d.pa),.dir d.pa,.pkg d]:List Ca).length).sum=3*(L.length - 1):=by
    have:((L.drop 1).map fun d=>([Ca.mod (upP d.pa),.dir d.pa,.pkg d]:List Ca).length)=(L.drop 1).map fun _=>3:=rfl
    rw [this,List.map_const',List.sum_replicate_nat,List.length_drop];omega
   rw [e];cases pr<;>simp<;>omega
  have:=hk.len
  omega
 have hcell:(W.alloc (.cells #[.map (some (w0.heap.size+1))] 74)).cell? ⟨W.heap.size,0,none⟩=some (.map (some (w0.heap.size+1))):=by
  rw [World.cell?_alloc_new];rfl
 have hs:=mI 72 #[.pointer (some ⟨W.heap.size,0,none⟩)] (enters_of Tryz.func72 (by kernel_rfl) rfl) (fun V=>V.Perm (((caP pr L).map (caF (aH P) (Lo.prT G))).foldl aR [])) _ hlen (fun V hV=>by have:=hV.length_eq;omega) (W.alloc (.cells #[.map (some (w0.heap.size+1))] 74)) (NI (zY 4 (by decide) W.heap.size (w0.heap.size+1) n hD _ (by simp) hcell (ho.alloc _)));refine hs.mono ?_;rintro e w' ⟨v,V,ts,rfl,hV,⟨hp,hsr⟩,hrow,hb⟩;have hts:=hp.trans hV;have hd:ts.Pairwise fun x y=>x.pa≠y.pa:=(hts.pairwise_iff (fun q e=>q e.symm)).2 hD.dist
 have e1:=AO hk pr _ _ hts hsr hd;subst e1;refine ⟨v,rfl,?_,aA (aD _ _) hb⟩;unfold OwnFi;exact cN hrow (by simp)
theorem OwnFi.nil (w:World) (B:Nat):OwnFi w B (.slice none 0 0) []:=⟨rfl,Or.inl ⟨rfl,rfl⟩⟩
theorem OwnFi.form {w:World} {B:Nat} {v:Value} {fs:List Fi} (h:OwnFi w B v fs):∃ a c,v= .slice a fs.length c:=by
 rcases h.2 with ⟨rfl,hn⟩|⟨g,cap,cur,rfl,_⟩
 · exact ⟨none,0,by rw [hn]⟩
 · exact ⟨_,_,rfl⟩
set_option maxHeartbeats 6400000 in
theorem lV {P:Mn} {G:List Nd} {L:List Dr} {x1 x2 x3 x4 xg xt:Value} {pr:Bool} {w:World} (hm:MnAt w P x1 x2 x3 x4) (hmz:P.d.length≤9223372036854775807∧P.v.length≤9223372036854775807∧P.o.length≤9223372036854775807∧P.p.length≤9223372036854775807) (hg:NodesAt w xg G) (ht:DirsAt w xt L) (hz:L.length≤9223372036854775807) (hk:kO L) (hgz:tL G) (hml:gU L G=0→(dQ L G).length=L.length) (he:Env w) (hf:FL w):
 Calls Tryz.prog 8 #[.agg #[x1,x2,x3,x4,xg,xt,.bool pr]] w (LI w (eM P G L pr) (erI P G L)):=by
 obtain ⟨at0,ct0,rfl,hct,hsl⟩:=ht.sl;obtain ⟨ag,cg,rfl⟩:∃ a c,xg= .slice a G.length c:=by obtain ⟨a,c,e,_⟩:=hg;exact ⟨a,c,e⟩
 have HMY:Hid (∀ W,Below w.heap.size w W→Calls Tryz.prog 21 #[.agg #[x1,x2,x3,x4,.slice ag G.length cg,.slice at0 L.length ct0,.bool pr]] W fun e w'=>e= .returned (.bool (dN P G L))∧Below W.heap.size W w'):=fun W hb=>LG (hm.below hb) (hg.below hb) (ht.below hb) hz hk hgz hml (he.below hb) (hf.below hb)
 have HEM:Hid (∀ W,Below w.heap.size w W→Calls Tryz.prog 22 #[.agg #[x1,x2,x3,x4,.slice ag G.length cg,.slice at0 L.length ct0,.bool pr]] W fun e w'=>e= .returned (.bool (eL P G L pr))∧Below W.heap.size W w'):=fun W hb=>xI (hm.below hb) hmz
 have HLA:Hid (dN P G L=true→∃ g o,at0=some ⟨g,o,none⟩∧TrOk L):=fun h=>by
  have hk:=OK (eT (iW h)).1;obtain ⟨g,o,e,_⟩:=hsl 0 hk.len.1;exact ⟨g,o,e,hk⟩
 have HLD:Hid (∀ W g o,at0=some ⟨g,o,none⟩→TrOk L→Below w.heap.size w W→Calls Tryz.prog 25 #[.agg #[x1,x2,x3,x4,.slice ag G.length cg,.slice at0 L.length ct0,.bool pr]] W fun e w'=>e= .returned (.map (some (W.heap.size+1)))∧LdQ W (stO x1 x2 x3 x4 (.slice ag G.length cg) (.slice at0 L.length ct0) pr) (gH (aH P) (Lo.prT G) pr L (L.length - 1)) 1000 w'):=fun W g o e hk hb=>by
  subst e;exact LH pr (hm.below hb) (hg.below hb) (ht.below hb) hk (he.below hb) (hf.below hb)
 have HQ:Hid (∀ v W er,erI P G L=er→OwnFi W w.heap.size v (eM P G L pr)→Below w.heap.size w W→LI w (eM P G L pr) (erI P G L) (.returned (.tuple #[v,.int .i64 er])) W):=fun v W er h1 h2 h3=>⟨v,by rw [h1],h2,h3⟩
 have HF0:Hid (dN P G L=false→eM P G L pr=[]∧erI P G L=43):=fun h=>by unfold eM erI;rw [h];simp
 have HF1:Hid (dN P G L=true→eL P G L pr=true→eM P G L pr=[]∧erI P G L=0):=fun h h2=>by unfold eM erI;rw [h,h2];simp
 have HF2:Hid (dN P G L=true→eL P G L pr=false→eM P G L pr=fH (aH P) (Lo.prT G) pr L∧erI P G L=0):=fun h h2=>by unfold eM erI;rw [h,h2];simp
 obtain ⟨a1,c1,rfl⟩:=hm.1.sl;obtain ⟨a2,c2,rfl⟩:=hm.2.1.sl;obtain ⟨a3,c3,rfl⟩:=hm.2.2.1.sl;obtain ⟨a4,c4,rfl⟩:=hm.2.2.2.sl;have HS0:=aB (StB.new w (.slice a1 P.d.length c1) (.slice a2 P.v.length c2) (.slice a3 P.o.length c3) (.slice a4 P.p.length c4) (.slice ag G.length cg) (.slice at0 L.length ct0) pr);have HB0:Hid (Below w.heap.size w (w.alloc (stO (.slice a1 P.d.length c1) (.slice a2 P.v.length c2) (.slice a3 P.o.length c3) (.slice a4 P.p.length c4) (.slice ag G.length cg) (.slice at0 L.length ct0) pr))):=aD _ _;obtain ⟨⟨⟨s0,s1,s2,s3⟩,s4,s5,s6⟩,sl⟩:=HS0.out;clear sl hm hmz hg ht hk hgz hml he hf hsl;generalize LI w (eM P G L pr) (erI P G L)=Q at*;cases hmy:dN P G L
 · obtain ⟨f1,f2⟩:=HF0.out hmy
   rw [hmy] at HMY;rw [f1] at HQ;have HE:=aB f2;clear HF0 HF1 HF2 HLA HLD HEM f1 f2 hmy
   go_enter Tryz.func8,Tryz.ntmps8
   go_wp2_with (go_at_call 21;refine (HMY.out _ HB0.out).mono ?_;rintro e W1 ⟨rfl,ok⟩;have HB1:=aB (aA HB0.out ok);clear ok)
   exact HQ.out _ _ _ HE.out (OwnFi.nil _ _) HB1.out
 · cases hem:eL P G L pr
   · obtain ⟨f1,f2⟩:=HF2.out hmy hem
     obtain ⟨g,o,eat,hk⟩:=HLA.out hmy;have HTK:=aB hk;have HAT:=aB eat;have HLC:=aB (fun W hb=>HLD.out W g o HAT.out HTK.out hb);rw [hmy] at HMY;rw [hem] at HEM;rw [f1] at HQ;have HE:=aB f2;clear HF0 HF1 HF2 HLA HLD f1 f2 hmy hem hk eat HAT
     go_enter Tryz.func8,Tryz.ntmps8
     go_wp2_with (first
      |(have _t:=HS0;go_at_call 21;refine (HMY.out _ HB0.out).mono ?_;rintro e W1 ⟨rfl,ok⟩;have HB1:=aB (aA HB0.out ok);have HS1:=aB (HS0.out.keep ok);clear s0 s1 s2 s3 s4 s5 s6 HS0;obtain ⟨⟨⟨s0,s1,s2,s3⟩,s4,s5,s6⟩,_⟩:=HS1.out;clear ok)
      |(have _t:=HS1;go_at_call 22;refine (HEM.out _ HB1.out).mono ?_;rintro e W2 ⟨rfl,ok⟩;have HB2:=aB (aA HB1.out ok);have HS2:=aB (HS1.out.keep ok);clear s0 s1 s2 s3 s4 s5 s6 HS1;obtain ⟨⟨⟨s0,s1,s2,s3⟩,s4,s5,s6⟩,_⟩:=HS2.out;clear ok)
      |(have _t:=HS2;go_at_call 25;refine (HLC.out _ HB2.out).mono ?_;rintro e W3 ⟨rfl,ok⟩;have HL3:=aB ok;have HB3:=aB (aA HB2.out ok.below);clear ok HS2 s0 s1 s2 s3 s4 s5 s6)
      |(have _t:=HL3;go_at_call 24;refine (vX _ _).mono ?_;rintro e W4 ⟨rfl,hw4⟩;subst hw4;have HT4:=aB (LJ HTK.out HL3.out);clear HL3)
      |(have _t:=HT4;go_at_call 23;refine HT4.out.mono ?_;rintro e W5 ⟨v5,rfl,ho5,ok⟩;have HO5:Hid (OwnFi W5 w.heap.size v5 (fH (aH P) (Lo.prT G) pr L)):=cN ho5 HB3.out.size;have HB5:=aB (aA HB3.out ok);obtain ⟨a5,c5,rfl⟩:=ho5.form;clear ok ho5 HT4))
     exact HQ.out _ _ _ HE.out HO5.out HB5.out
   · obtain ⟨f1,f2⟩:=HF1.out hmy hem
     rw [hmy] at HMY;rw [hem] at HEM;rw [f1] at HQ;have HE:=aB f2;clear HF0 HF1 HF2 HLA HLD f1 f2 hmy hem
     go_enter Tryz.func8,Tryz.ntmps8
     go_wp2_with (first
      |(have _t:=HS0;go_at_call 21;refine (HMY.out _ HB0.out).mono ?_;rintro e W1 ⟨rfl,ok⟩;have HB1:=aB (aA HB0.out ok);have HS1:=aB (HS0.out.keep ok);clear s0 s1 s2 s3 s4 s5 s6 HS0;obtain ⟨⟨⟨s0,s1,s2,s3⟩,s4,s5,s6⟩,_⟩:=HS1.out;clear ok)
      |(have _t:=HS1;go_at_call 22;refine (HEM.out _ HB1.out).mono ?_;rintro e W2 ⟨rfl,ok⟩;have HB2:=aB (aA HB1.out ok);clear ok))
     exact HQ.out _ _ _ HE.out (OwnFi.nil _ _) HB2.out
end Go.Proofs.YtlmpiohbmlddiaaGreatDoor
namespace Go.Proofs.YtlmpiohbmlddiaaGreatDoor
open Go.RowKit
set_option maxRecDepth 100000
def jnT (ws:List Sc.Bs):ByteArray:=⟨(Lib.join ws [32]).toArray⟩
def TA (q:Option ByteArray) (n:ByteArray) (ws:List Sc.Bs):Int:=if cS q n=true then (if TP (RE (jnT ws))=0∧cQ ((SR (RE (jnT ws))).map spR)=true then 0 else 21) else 23
def xJ:List Sc.Bs→Sc.Bs→Int
 |[],_=> -1
 |x::X,s=>if s=x then 0 else if xJ X s= -1 then -1 else xJ X s+1
def RT (ln:List Sc.Bs):Dp:=⟨Sc.ba (ln.getD 1 []),(SR (RE (jnT (ln.drop 2)))).map spR⟩
def jG (X:List Sc.Bs):Nat→List (List Dp)→List (List Sc.Bs)→Int×List (List Dp)
 |_,acc,[]=>(0,acc)
 |a,acc,ln::r=>
  if ln.length<3 then (22,[]) else
  if xJ X (ln.getD 0 [])<(a:Int) then (22,[]) else
  if TA (eY (acc.getD (xJ X (ln.getD 0 [])).toNat [])) (Sc.ba (ln.getD 1 [])) (ln.drop 2)=0 then
   jG X (xJ X (ln.getD 0 [])).toNat (acc.set (xJ X (ln.getD 0 [])).toNat (acc.getD (xJ X (ln.getD 0 [])).toNat []++[RT ln])) r
  else (TA (eY (acc.getD (xJ X (ln.getD 0 [])).toNat [])) (Sc.ba (ln.getD 1 [])) (ln.drop 2),[])
theorem cO {w:World} {N i j:Nat} {u x:Value} (h:i≠j) (hx:w.cell? ⟨N,j,none⟩=some x):(w.setCell ⟨N,i,none⟩ u).cell? ⟨N,j,none⟩=some x:=(World.cell?_setCell_other _ _ _ _ (fun e=>by cases e;exact h rfl)).trans hx
theorem TZ {w:World} {N:Nat} {x0 x1 x2 x3:Value} (j0:w.cell? ⟨N,0,none⟩=some x0) (j1:w.cell? ⟨N,1,none⟩=some x1) (j2:w.cell? ⟨N,2,none⟩=some x2) (j3:w.cell? ⟨N,3,none⟩=some x3) (u0 u1 u2 u3:Value):
 ((((w.setCell ⟨N,0,none⟩ u0).setCell ⟨N,1,none⟩ u1).setCell ⟨N,2,none⟩ u2).setCell ⟨N,3,none⟩ u3).cell? ⟨N,0,none⟩=some u0∧((((w.setCell ⟨N,0,none⟩ u0).setCell ⟨N,1,none⟩ u1).setCell ⟨N,2,none⟩ u2).setCell ⟨N,3,none⟩ u3).cell? ⟨N,1,none⟩=some u1∧((((w.setCell ⟨N,0,none⟩ u0).setCell ⟨N,1,none⟩ u1).setCell ⟨N,2,none⟩ u2).setCell ⟨N,3,none⟩ u3).cell? ⟨N,2,none⟩=some u2∧((((w.setCell ⟨N,0,none⟩ u0).setCell ⟨N,1,none⟩ u1).setCell ⟨N,2,none⟩ u2).setCell ⟨N,3,none⟩ u3).cell? ⟨N,3,none⟩=some u3:=by
 exact ⟨cO (by decide) (cO (by decide) (cO (by decide) (World.cell?_setCell_same _ _ _ (j0)))),cO (by decide) (cO (by decide) (World.cell?_setCell_same _ _ _ (cO (by decide) (j1)))),cO (by decide) (World.cell?_setCell_same _ _ _ (cO (by decide) (cO (by decide) (j2)))),World.cell?_setCell_same _ _ _ (cO (by decide) (cO (by decide) (cO (by decide) (j3))))⟩
def mfW:List Sc.Bs:=[[110,101,101,100,115],[100,101,118],[108,105,107,101,115],[112,105,110,115]]
def DN:List (List Sc.Bs)→Int
 |[]=>22
 |h::r=>if h=[[112,114,111,106,101,99,116]] then (jG mfW 0 [[],[],[],[]] r).1 else 22
def DO:List (List Sc.Bs)→Mn
 |[]=>⟨[],[],[],[]⟩
 |_::r=>⟨(jG mfW 0 [[],[],[],[]] r).2.getD 0 [],(jG mfW 0 [[],[],[],[]] r).2.getD 1 [],(jG mfW 0 [[],[],[],[]] r).2.getD 2 [],(jG mfW 0 [[],[],[],[]] r).2.getD 3 []⟩
def OwnM (w:World) (B:Nat) (P:Mn) (v1 v2 v3 v4:Value):Prop:=∃ q1 q2 q3 q4,(OwnD w B v1 q1∧q1.map (·.1)=P.d)∧(OwnD w B v2 q2∧q2.map (·.1)=P.v)∧(OwnD w B v3 q3∧q3.map (·.1)=P.o)∧(OwnD w B v4 q4∧q4.map (·.1)=P.p)
theorem OwnM.below {w w':World} {B:Nat} {P:Mn} {v1 v2 v3 v4:Value} (h:OwnM w B P v1 v2 v3 v4) (hb:Below w.heap.size w w'):OwnM w' B P v1 v2 v3 v4:=by
 obtain ⟨q1,q2,q3,q4,h1,h2,h3,h4⟩:=h;exact ⟨q1,q2,q3,q4,⟨h1.1.below hb,h1.2⟩,⟨h2.1.below hb,h2.2⟩,⟨h3.1.below hb,h3.2⟩,h4.1.below hb,h4.2⟩
theorem OwnM.base {w:World} {B C:Nat} {P:Mn} {v1 v2 v3 v4:Value} (h:OwnM w B P v1 v2 v3 v4) (hc:C≤B):OwnM w C P v1 v2 v3 v4:=by
 obtain ⟨q1,q2,q3,q4,h1,h2,h3,h4⟩:=h;exact ⟨q1,q2,q3,q4,⟨h1.1.base hc,h1.2⟩,⟨h2.1.base hc,h2.2⟩,⟨h3.1.base hc,h3.2⟩,h4.1.base hc,h4.2⟩
theorem OwnM.at {w:World} {B:Nat} {P:Mn} {v1 v2 v3 v4:Value} (h:OwnM w B P v1 v2 v3 v4):MnAt w P v1 v2 v3 v4:=by
 obtain ⟨q1,q2,q3,q4,h1,h2,h3,h4⟩:=h;exact ⟨h1.2 ▸ h1.1.at,h2.2 ▸ h2.1.at,h3.2 ▸ h3.1.at,h4.2 ▸ h4.1.at⟩
noncomputable def DP (t:ByteArray):Int:=if Sc.zZ t 4096=0 then (if DN (Sc.jO t 4096)=0 then (if aM (DO (Sc.jO t 4096))=true then 0 else 25) else DN (Sc.jO t 4096)) else Sc.zZ t 4096
def LK (t:ByteArray):Mn:=DO (Sc.jO t 4096)
end Go.Proofs.YtlmpiohbmlddiaaGreatDoor
namespace Go.Proofs.YtlmpiohbmlddiaaGreatDoor.Lo
open Go.RowKit
open Sc (KeepP aB aO Bs ba WordsAt)
set_option maxRecDepth 100000
structure NV where
 nd:Nd
 vc:Value
 ve:Value
def pnC (p:Pn):List Value:=[.string p.nm,.int .i64 p.a,.int .i64 p.b,.int .i64 p.c]
def egC (e:Eg):List Value:=[.string e.lb,.int .i64 e.to]
def ndC (x:NV):List Value:=[.string x.nd.nm,.int .i64 x.nd.a,.int .i64 x.nd.b,.int .i64 x.nd.c,x.vc,x.ve]
def OwnP (w:World) (B:Nat) (v:Value) (L:List Pn):Prop:=w.ownsRow B 129 4 v L.length (L.flatMap pnC)
def OwnE (w:World) (B:Nat) (v:Value) (L:List Eg):Prop:=w.ownsRow B 62 2 v L.length (L.flatMap egC)
def RA (w:World) (B:Nat) (v:Value) (all:List NV):Prop:=
 w.ownsRow B 60 6 v all.length (all.flatMap ndC)∧∀ x ∈ all,OwnP w B x.vc x.nd.cx∧OwnE w B x.ve x.nd.ed
def lA (f:Nd→Nd):List Nd→List Nd
 |[]=>[]
 |[l]=>[f l]
 |x::y::r=>x::lA f (y::r)
theorem gY (f:Nd→Nd) (l:Nd):∀ dn:List Nd,lA f (dn++[l])=dn++[f l]
 |[]=>rfl
 |[x]=>rfl
 |x::y::r=>by
  have:=gY f l (y::r)
  simp only [List.cons_append] at this ⊢;unfold lA;rw [this]
def UA (p:Pn) (n:Nd):Nd:=⟨n.nm,n.a,n.b,n.c,n.cx++[p],n.ed⟩
def UB (e:Eg) (n:Nd):Nd:=⟨n.nm,n.a,n.b,n.c,n.cx,n.ed++[e]⟩
def LM (st:List Nd):List Eg:=match st.getLast? with
 |some n=>n.ed
 |none=>[]
theorem BA (dn:List Nd) (l:Nd):LM (dn++[l])=l.ed:=by unfold LM;simp
def nd0:Nd:=⟨⟨#[]⟩,0,0,0,[],[]⟩
def LN (st:List Nd) (ws:List Bs):Option (List Nd):=if ws=[] then some (st++[nd0]) else none
def LO (st:List Nd) (ws:List Bs):Option (List Nd):=if (lU ws).2=true then some (st++[⟨(lU ws).1.nm,(lU ws).1.a,(lU ws).1.b,(lU ws).1.c,[],[]⟩]) else none
def QB (st:List Nd) (ws:List Bs):Option (List Nd):=if (lU ws).2=true∧LM st=[] then some (lA (UA (lU ws).1) st) else none
def LP (st:List Nd) (ws:List Bs):Option (List Nd):=if (FZ ws).2=true then some (lA (UB (FZ ws).1) st) else none
end Go.Proofs.YtlmpiohbmlddiaaGreatDoor.Lo
namespace Go.Proofs.YtlmpiohbmlddiaaGreatDoor.Lo
open Go.RowKit
open Sc (KeepP aB aO Bs ba WordsAt)
set_option maxRecDepth 100000
open Sc (KeepP aB aO Bs ba WordsAt LinesAt isL)
def sF:Bs:=[114,111,111,116]
def QC:Bs:=[110,111,100,101]
def TB:Bs:=[119,105,116,104]
def wTo:Bs:=[116,111]
def DQ (st:List Nd) (x:Bs) (ws:List Bs):Option (List Nd):=
 if x=sF then (if st=[] then LN st ws else none)
 else if st=[] then none
 else if x=QC then LO st ws else if x=TB then QB st ws else if x=wTo then LP st ws else none
def xK:List Nd→List (List Bs)→Option (List Nd)
 |st,[]=>some st
 |_,[]::_=>none
 |st,(x::ws)::r=>match DQ st x ws with
  |some st'=>xK st' r
  |none=>none
def DR:Bs:=[108,111,99,107]
def QD:List (List Bs)→Option (List Nd)
 |[]=>none
 |h::r=>if h=[DR] then xK [] r else none
end Go.Proofs.YtlmpiohbmlddiaaGreatDoor.Lo
namespace Go.Proofs.YtlmpiohbmlddiaaGreatDoor.Lo
open Go.RowKit
open Sc (KeepP aB aO Bs ba WordsAt LinesAt isL)
set_option maxRecDepth 100000
open Sc (KeepP aB aO Bs ba WordsAt LinesAt isL isW bG cA)
open Sc (Bs ba isW isL wB cA bG aG)
theorem nH {α β:Type} {f:α→List β} {k:Nat} (hf:∀ x,(f x).length=k):∀ (L:List α) (i c:Nat) (hi:i<L.length),c<k→(L.flatMap f)[i*k+c]? =(f L[i])[c]?
 |x::r,0,c,_,hc=>by
  rw [List.flatMap_cons,Nat.zero_mul,Nat.zero_add,List.getElem?_append_left (by rw [hf];exact hc)];rfl
 |x::r,i+1,c,hi,hc=>by
  have hi':i<r.length:=by simpa using hi
  have e:(i+1)*k+c=k+(i*k+c):=by rw [Nat.succ_mul];omega
  rw [List.flatMap_cons,e,List.getElem?_append_right (by rw [hf];omega),hf,Nat.add_sub_cancel_left,nH hf r i c hi' hc];rfl
theorem OwnP.at {w:World} {B:Nat} {v:Value} {L:List Pn} (h:OwnP w B v L):PinsAt w v L:=by
 have h0:=h
 rcases h.2 with ⟨rfl,hn⟩|⟨g,cap,cur,rfl,hB,hg,hc,_⟩
 · exact ⟨none,0,by rw [hn],by omega,Or.inl (List.eq_nil_of_length_eq_zero hn)⟩
 · refine ⟨_,cap,rfl,hc,Or.inr ⟨g,0,rfl,(Array.getElem?_eq_some_iff.1 hg).1,fun i hi=>⟨?_,(Array.getElem?_eq_some_iff.1 hg).1⟩⟩⟩
   have q:∀ c,c<4→w.cell? ⟨g,0+i*4+c,none⟩=(pnC L[i])[c]? :=fun c hc=>by
    rw [Nat.zero_add,World.ownsRow.cellAt h0 (i*4+c) (by omega)];exact nH (f:=pnC) (k:=4) (fun _=>rfl) L i c hi hc
   exact ⟨q 0 (by decide),q 1 (by decide),q 2 (by decide),q 3 (by decide)⟩
theorem OwnE.at {w:World} {B:Nat} {v:Value} {L:List Eg} (h:OwnE w B v L):EdgesAt w v L:=by
 have h0:=h
 rcases h.2 with ⟨rfl,hn⟩|⟨g,cap,cur,rfl,hB,hg,hc,_⟩
 · exact ⟨none,0,by rw [hn],by omega,Or.inl (List.eq_nil_of_length_eq_zero hn)⟩
 · refine ⟨_,cap,rfl,hc,Or.inr ⟨g,0,rfl,(Array.getElem?_eq_some_iff.1 hg).1,fun i hi=>⟨?_,(Array.getElem?_eq_some_iff.1 hg).1⟩⟩⟩
   have q:∀ c,c<2→w.cell? ⟨g,0+i*2+c,none⟩=(egC L[i])[c]? :=fun c hc=>by
    rw [Nat.zero_add,World.ownsRow.cellAt h0 (i*2+c) (by omega)];exact nH (f:=egC) (k:=2) (fun _=>rfl) L i c hi hc
   exact ⟨q 0 (by decide),q 1 (by decide)⟩
theorem RA.at {w:World} {B:Nat} {v:Value} {all:List NV} (h:RA w B v all):NodesAt w v (all.map NV.nd):=by
 have h0:=h.1
 rcases h.1.2 with ⟨rfl,hn⟩|⟨g,cap,cur,rfl,hB,hg,hc,_⟩
 · have:all=[]:=List.eq_nil_of_length_eq_zero hn
   subst this;exact ⟨none,0,rfl,Nat.le_refl _,Or.inl rfl⟩
 · refine ⟨_,cap,by rw [List.length_map],by rw [List.length_map];exact hc,Or.inr ⟨g,0,rfl,(Array.getElem?_eq_some_iff.1 hg).1,fun i hi=> ?_⟩⟩
   have hi':i<all.length:=by simpa using hi
   have q:∀ c,c<6→w.cell? ⟨g,0+i*6+c,none⟩=(ndC all[i])[c]? :=fun c hc=>by
    rw [Nat.zero_add,World.ownsRow.cellAt h0 (i*6+c) (by omega)];exact nH (f:=ndC) (k:=6) (fun _=>rfl) all i c hi' hc
   have hm:=h.2 _ (List.getElem_mem hi');rw [List.getElem_map];exact ⟨all[i].vc,all[i].ve,⟨q 0 (by decide),q 1 (by decide),q 2 (by decide),q 3 (by decide),q 4 (by decide),q 5 (by decide)⟩,⟨hm.1.at,hm.2.at⟩,(Array.getElem?_eq_some_iff.1 hg).1⟩
def BB (t:ByteArray):Option (List Nd):=if Sc.zZ t 1048576=0 then (match QD (Sc.jO t 1048576) with
    |some st=>if dM st=true then some st else none
    |none=>none) else none
theorem xL {t:ByteArray} (h:Sc.zZ t 1048576=0):(Sc.jO t 1048576).all isL=true∧bG (Sc.jO t 1048576)=t.data.toList∧t.size≤1048576:=by
 unfold Sc.zZ at h;unfold Sc.jO
 split at h
 · cases h
 · rename_i hs
   rw [if_neg hs];cases hr:Sc.kD t.data.toList [] [] [] with
   |error n=>rw [hr] at h;cases h
   |ok L=>
    obtain ⟨h1,h2⟩:=Sc.iN _ _ _ _ _ hr rfl rfl rfl;refine ⟨h1,?_,by omega⟩;show bG L=_
    simpa [Sc.sS,bG] using h2
def rA:List Nd→List (List Bs)
 |[]=>[]
 |n::r=>[sF]::(cZ n++fK r)
theorem BC {st:List Nd} (h:st≠[]):jW st=[DR]::rA st:=by
 cases st with
 |nil=>exact absurd rfl h
 |cons n r=>rfl
theorem lW {dn:List Nd} (h:dn≠[]) (n:Nd):rA (dn++[n])=rA dn++(fJ n::cZ n):=by
 cases dn with
 |nil=>exact absurd rfl h
 |cons m r=>
  show [sF]::(cZ m++fK (r++[n]))=[sF]::(cZ m++fK r)++(fJ n::cZ n);rw [pO]
  simp
theorem xM (dn:List Nd) {l l':Nd} {x:List Bs} (hn:fJ l'=fJ l) (hl:cZ l'=cZ l++[x]):rA (dn++[l'])=rA (dn++[l])++[x]:=by
 by_cases h:dn=[]
 · subst h
   show [sF]::(cZ l'++[])=[sF]::(cZ l++[])++[x];rw [hl]
   simp
 · rw [lW h,lW h,hn,hl]
   simp
theorem DS {st:List Nd} (h:st≠[]):∃ dn l,st=dn++[l]:=⟨st.dropLast,st.getLast h,(List.dropLast_concat_getLast h).symm⟩
theorem DT {ws:List Bs} (h:(lU ws).2=true):ws=[(lU ws).1.nm.data.toList,bsV (lU ws).1.a (lU ws).1.b (lU ws).1.c]:=by
 match ws,h with
 |[x,y],h=>
  have h1:okP (ba y)=true:=h;have h2:=(IY h1).2;show [x,y]=[(ba x).data.toList,bsV (zI (ba y)) (zJ (ba y)) (zK (ba y))];unfold bsV;rw [←h2,Sc.cR,Sc.cR]
theorem OT {ws:List Bs} (h:(FZ ws).2=true):ws=[(FZ ws).1.lb.data.toList,Lib.itoa (FZ ws).1.to]:=by
 match ws,h with
 |[x,y],h=>
  have h1:Sc.wT y 127=true:=h;show [x,y]=[(ba x).data.toList,Lib.itoa (Sc.wS y 127)];cases hr:Sc.wQ y with
  |none=>rw [(Sc.LA hr 127).2] at h1;cases h1
  |some n=>
   by_cases hm:(n:Int)≤127
   · rw [(Sc.RQ hr hm).1,Sc.cR,CQ (by omega),(Sc.KZ hr).1]
     simp
   · rw [(Sc.OO hr hm).2] at h1;cases h1
theorem LQ {st st':List Nd} {x:Bs} {ws:List Bs} (h:DQ st x ws=some st'):rA st'=rA st++[x::ws]∧st'≠[]:=by
 unfold DQ at h
 split at h
 · rename_i hx
   split at h
   · rename_i hs
     unfold LN at h
     split at h
     · rename_i hw
       cases h;subst hs hx hw;exact ⟨rfl,by simp⟩
     · cases h
   · cases h
 · split at h
   · cases h
   · rename_i hs
     split at h
     · rename_i hx
       unfold LO at h
       split at h
       · rename_i hp
         cases h;refine ⟨?_,by simp⟩;rw [lW hs,hx]
         have:=DT hp
         show rA st++([QC,_,_]::[])=_;rw [←this]
       · cases h
     · split at h
       · rename_i hx
         unfold QB at h
         split at h
         · rename_i hp
           cases h;obtain ⟨dn,l,rfl⟩:=DS hs;rw [BA] at hp;rw [gY];refine ⟨?_,by simp⟩;refine xM dn (l:=l) rfl ?_
           have:=DT hp.1
           show (l.cx++[(lU ws).1]).map jD++l.ed.map jV=(l.cx.map jD++l.ed.map jV)++[x::ws];rw [hp.2,hx,this];simp only [List.map_append,List.map_nil,List.append_nil,List.map_cons];rw [←this];show _++[jD _]=_;unfold jD;rw [←this];rfl
         · cases h
       · split at h
         · rename_i hx
           unfold LP at h
           split at h
           · rename_i hp
             cases h;obtain ⟨dn,l,rfl⟩:=DS hs;rw [gY];refine ⟨?_,by simp⟩;refine xM dn (l:=l) rfl ?_
             have:=OT hp
             show l.cx.map jD++(l.ed++[(FZ ws).1]).map jV=(l.cx.map jD++l.ed.map jV)++[x::ws];rw [hx];simp only [List.map_append,List.map_nil,List.map_cons,List.append_assoc];unfold jV;rw [←this];rfl
           · cases h
         · cases h
theorem xN:∀ {L:List (List Bs)} {st st':List Nd},xK st L=some st'→rA st'=rA st++L
 |[],st,st',h=>by cases h;simp
 |[]::L,st,st',h=>by cases h
 |(x::ws)::L,st,st',h=>by
  unfold xK at h;cases ht:DQ st x ws with
  |none=>rw [ht] at h;cases h
  |some s=>
   rw [ht] at h;rw [xN h,(LQ ht).1,List.append_assoc];rfl
theorem LR {t:ByteArray} {G:List Nd} (h:BB t=some G):dM G=true∧sA G=t:=by
 unfold BB at h
 split at h
 · rename_i hE
   obtain ⟨f1,f2,f3⟩:=xL hE;cases hr:QD (Sc.jO t 1048576) with
   |none=>rw [hr] at h;cases h
   |some st=>
    rw [hr] at h
    simp only at h
    split at h
    · rename_i hm
      obtain rfl:st=G:=Option.some.inj h;refine ⟨hm,?_⟩;have hne:st≠[]:=by rintro rfl;cases hm
      have hL:jW st=Sc.jO t 1048576:=by
       rw [BC hne];cases hl:Sc.jO t 1048576 with
       |nil=>rw [hl] at hr;cases hr
       |cons a r=>
        rw [hl] at hr;have hr':(if a=[DR] then xK [] r else none)=some st:=hr
        by_cases ha:a=[DR]
        · rw [if_pos ha] at hr'
          rw [xN hr',ha];rfl
        · rw [if_neg ha] at hr'
          cases hr'
      unfold sA;rw [hL,f2,Sc.uP]
    · cases h
 · cases h
end Go.Proofs.YtlmpiohbmlddiaaGreatDoor.Lo
namespace Go.Proofs.YtlmpiohbmlddiaaGreatDoor
open Go.RowKit
set_option maxRecDepth 100000
theorem GB:eZ [[],[],[]]=true:=by
 unfold eZ;refine @decide_eq_true _ (Classical.propDecidable _) ?_;have h:fT [[],[],[]]=[]:=rfl;rw [h];exact List.nodup_nil
end Go.Proofs.YtlmpiohbmlddiaaGreatDoor
