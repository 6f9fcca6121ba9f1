/- Mf3, Im11, Im12, Im13, Mr1, Pk9, Rd1, Rd3: their declarations that are needed, laid in one text, remarks and blanks left out. -/
import Derived.Deep.CutRange
import Derived.Deep.RegionLaw
import Derived.Test.YtlmpiohbmlddiaaGreatDoorMo17
namespace Go.Proofs.YtlmpiohbmlddiaaGreatDoor
open Go.RowKit
set_option maxRecDepth 100000
theorem fP {A B:List Dp} {u v:Value} {w:World} (x y:ByteArray) (hu:DepsAt w u A) (hv:DepsAt w v B) (hsz:A.length≤9223372036854775807):
 Calls Tryz.prog 121 #[.agg #[.string x,u],.agg #[.string y,v]] w fun e w'=>e= .returned (.bool (eqB A B))∧Below w.heap.size w w':=by
 have HE:Hid (∀ w1,Below w.heap.size w w1→Calls Tryz.prog 165 #[u,v] w1 fun x w'=>x= .returned (.bool (eqB A B))∧Below w1.heap.size w1 w'):=fun w1 h=>kC (hu.below h) (hv.below h) hsz
 obtain ⟨ad,ca,rfl⟩:=hu.sl;obtain ⟨bd,cb,rfl⟩:=hv.sl;clear hu hv hsz
 go_enter Tryz.func121,Tryz.ntmps121
 go_wp2_with (go_at_call 165;refine (HE.out _ (aN _ _ _)).mono ?_;rintro x w1 ⟨rfl,ok⟩)
 go_ret;exact ⟨rfl,aA (aN _ _ _) ok⟩
theorem FU {P Q:Mn}:eqB P Q=(eqB P.d Q.d&&(eqB P.v Q.v&&(eqB P.o Q.o&&eqB P.p Q.p))):=by
 refine vC ?_;obtain ⟨d,v,o,p⟩:=P;obtain ⟨d',v',o',p'⟩:=Q;simp only [Bool.and_eq_true,cH,Mn.mk.injEq]
set_option maxHeartbeats 6400000 in
theorem wC {P Q:Mn} {ga gb:Nat} {w:World} {a1 a2 a3 a4:Option Addr} {ac1 ac2 ac3 ac4:Nat} {b1 b2 b3 b4:Option Addr} {bc1 bc2 bc3 bc4:Nat} (hp:MnAt w P (.slice a1 P.d.length ac1) (.slice a2 P.v.length ac2) (.slice a3 P.o.length ac3) (.slice a4 P.p.length ac4)) (hq:MnAt w Q (.slice b1 Q.d.length bc1) (.slice b2 Q.v.length bc2) (.slice b3 Q.o.length bc3) (.slice b4 Q.p.length bc4)) (ha:w.heap[ga]? =some (bH (.slice a1 P.d.length ac1) (.slice a2 P.v.length ac2) (.slice a3 P.o.length ac3) (.slice a4 P.p.length ac4))) (hb:w.heap[gb]? =some (bH (.slice b1 Q.d.length bc1) (.slice b2 Q.v.length bc2) (.slice b3 Q.o.length bc3) (.slice b4 Q.p.length bc4))) (hz:P.d.length≤9223372036854775807∧P.v.length≤9223372036854775807∧P.o.length≤9223372036854775807∧P.p.length≤9223372036854775807):
 Calls Tryz.prog 119 #[.slice (some ⟨ga,0,none⟩) 4 4,.slice (some ⟨gb,0,none⟩) 4 4,.func (.func 121) #[] #[]] w fun e w'=>e= .returned (.bool (eqB P Q))∧Below w.heap.size w w':=by
 have HC1:Hid (∀ w1,Below w.heap.size w w1→Calls Tryz.prog 121 #[.agg #[.string ⟨#[110,101,101,100,115]⟩,.slice a1 P.d.length ac1],.agg #[.string ⟨#[110,101,101,100,115]⟩,.slice b1 Q.d.length bc1]] w1 fun e w'=>e= .returned (.bool (eqB P.d Q.d))∧Below w1.heap.size w1 w'):=fun w1 h=>fP _ _ (hp.1.below h) (hq.1.below h) hz.1
 have HC2:Hid (∀ w1,Below w.heap.size w w1→Calls Tryz.prog 121 #[.agg #[.string ⟨#[100,101,118]⟩,.slice a2 P.v.length ac2],.agg #[.string ⟨#[100,101,118]⟩,.slice b2 Q.v.length bc2]] w1 fun e w'=>e= .returned (.bool (eqB P.v Q.v))∧Below w1.heap.size w1 w'):=fun w1 h=>fP _ _ (hp.2.1.below h) (hq.2.1.below h) hz.2.1
 have HC3:Hid (∀ w1,Below w.heap.size w w1→Calls Tryz.prog 121 #[.agg #[.string ⟨#[108,105,107,101,115]⟩,.slice a3 P.o.length ac3],.agg #[.string ⟨#[108,105,107,101,115]⟩,.slice b3 Q.o.length bc3]] w1 fun e w'=>e= .returned (.bool (eqB P.o Q.o))∧Below w1.heap.size w1 w'):=fun w1 h=>fP _ _ (hp.2.2.1.below h) (hq.2.2.1.below h) hz.2.2.1
 have HC4:Hid (∀ w1,Below w.heap.size w w1→Calls Tryz.prog 121 #[.agg #[.string ⟨#[112,105,110,115]⟩,.slice a4 P.p.length ac4],.agg #[.string ⟨#[112,105,110,115]⟩,.slice b4 Q.p.length bc4]] w1 fun e w'=>e= .returned (.bool (eqB P.p Q.p))∧Below w1.heap.size w1 w'):=fun w1 h=>fP _ _ (hp.2.2.2.below h) (hq.2.2.2.below h) hz.2.2.2
 have HA:Hid (∀ w1,Below w.heap.size w w1→w1.heap[ga]? =some (bH (.slice a1 P.d.length ac1) (.slice a2 P.v.length ac2) (.slice a3 P.o.length ac3) (.slice a4 P.p.length ac4))):=fun w1 h=>(h.block ga (Array.getElem?_eq_some_iff.1 ha).1).trans ha
 have HB:Hid (∀ w1,Below w.heap.size w w1→w1.heap[gb]? =some (bH (.slice b1 Q.d.length bc1) (.slice b2 Q.v.length bc2) (.slice b3 Q.o.length bc3) (.slice b4 Q.p.length bc4))):=fun w1 h=>(h.block gb (Array.getElem?_eq_some_iff.1 hb).1).trans hb
 have HE:=aB (FU (P:=P) (Q:=Q));clear hp hq ha hb hz;generalize eqB P Q=EE at*;generalize eqB P.d Q.d=x1 at*;generalize eqB P.v Q.v=x2 at*;generalize eqB P.o Q.o=x3 at*;generalize eqB P.p Q.p=x4 at*
 go_enter Tryz.func119,Tryz.ntmps119
 go_wp2_with fail
 go_loopw [17] (fun i wr=>∃ k:Nat,k≤4∧i= .int .i64 k∧Below w.heap.size w wr∧(1≤k→x1=true)∧(2≤k→x2=true)∧(3≤k→x3=true)∧(4≤k→x4=true)) (fun i _=>4 - (intOf i).toNat)
 case atStart=>exact ⟨0,Nat.zero_le _,rfl,Below.refl _ _,(fun h=>by omega),(fun h=>by omega),(fun h=>by omega),(fun h=>by omega)⟩
 case round=>
  obtain ⟨k,hk,rfl,hbw,e1,e2,e3,e4⟩:=hrel;have HBW:=aB hbw
  rcases (show k=0∨k=1∨k=2∨k=3∨k=4 by omega) with rfl|rfl|rfl|rfl|rfl
  · have q0:wr.cell? ⟨ga,0,none⟩=some (.string ⟨#[110,101,101,100,115]⟩):=by rw [Lib.cell_of_heap (HA.out wr hbw)];rfl
    have q1:wr.cell? ⟨ga,1,none⟩=some (.slice a1 P.d.length ac1):=by rw [Lib.cell_of_heap (HA.out wr hbw)];rfl
    have r0:(wr.alloc (.cells #[.string ⟨#[110,101,101,100,115]⟩,.slice a1 P.d.length ac1] 180)).cell? ⟨gb,0,none⟩=some (.string ⟨#[110,101,101,100,115]⟩):=by rw [Lib.cell_of_heap (HB.out _ (aA hbw (aD _ _)))];rfl
    have r1:(wr.alloc (.cells #[.string ⟨#[110,101,101,100,115]⟩,.slice a1 P.d.length ac1] 180)).cell? ⟨gb,1,none⟩=some (.slice b1 Q.d.length bc1):=by rw [Lib.cell_of_heap (HB.out _ (aA hbw (aD _ _)))];rfl
    clear hbw e1 e2 e3 e4;cases x1
    · have HR:Hid (EE=false):=by unfold Hid;rw [HE.out];simp
      go_wp2_with (go_at_call 121;refine (HC1.out _ (aA HBW.out (aN _ _ _))).mono ?_;rintro x w1 ⟨rfl,ok⟩;have HO1:=aB (aA (aA HBW.out (aN _ _ _)) ok);clear ok)
      go_ret;exact ⟨aC HR.out.symm,HO1.out⟩
    · go_wp2_with (go_at_call 121;refine (HC1.out _ (aA HBW.out (aN _ _ _))).mono ?_;rintro x w1 ⟨rfl,ok⟩;have HO1:=aB (aA (aA HBW.out (aN _ _ _)) ok);clear ok)
      exact ⟨⟨1,by omega,rfl,HO1.out,(fun _=>trivial),(fun h=>by omega),(fun h=>by omega),(fun h=>by omega)⟩,by simp [intOf]⟩
  · have e1':=e1 (by omega)
    subst e1';have q0:wr.cell? ⟨ga,2,none⟩=some (.string ⟨#[100,101,118]⟩):=by rw [Lib.cell_of_heap (HA.out wr hbw)];rfl
    have q1:wr.cell? ⟨ga,3,none⟩=some (.slice a2 P.v.length ac2):=by rw [Lib.cell_of_heap (HA.out wr hbw)];rfl
    have r0:(wr.alloc (.cells #[.string ⟨#[100,101,118]⟩,.slice a2 P.v.length ac2] 180)).cell? ⟨gb,2,none⟩=some (.string ⟨#[100,101,118]⟩):=by rw [Lib.cell_of_heap (HB.out _ (aA hbw (aD _ _)))];rfl
    have r1:(wr.alloc (.cells #[.string ⟨#[100,101,118]⟩,.slice a2 P.v.length ac2] 180)).cell? ⟨gb,3,none⟩=some (.slice b2 Q.v.length bc2):=by rw [Lib.cell_of_heap (HB.out _ (aA hbw (aD _ _)))];rfl
    clear hbw e1 e2 e3 e4;cases x2
    · have HR:Hid (EE=false):=by unfold Hid;rw [HE.out];simp
      go_wp2_with (go_at_call 121;refine (HC2.out _ (aA HBW.out (aN _ _ _))).mono ?_;rintro x w1 ⟨rfl,ok⟩;have HO1:=aB (aA (aA HBW.out (aN _ _ _)) ok);clear ok)
      go_ret;exact ⟨aC HR.out.symm,HO1.out⟩
    · go_wp2_with (go_at_call 121;refine (HC2.out _ (aA HBW.out (aN _ _ _))).mono ?_;rintro x w1 ⟨rfl,ok⟩;have HO1:=aB (aA (aA HBW.out (aN _ _ _)) ok);clear ok)
      exact ⟨⟨2,by omega,rfl,HO1.out,(fun _=>trivial),(fun _=>trivial),(fun h=>by omega),(fun h=>by omega)⟩,by simp [intOf]⟩
  · have e1':=e1 (by omega)
    have e2':=e2 (by omega);subst e1' e2';have q0:wr.cell? ⟨ga,4,none⟩=some (.string ⟨#[108,105,107,101,115]⟩):=by rw [Lib.cell_of_heap (HA.out wr hbw)];rfl
    have q1:wr.cell? ⟨ga,5,none⟩=some (.slice a3 P.o.length ac3):=by rw [Lib.cell_of_heap (HA.out wr hbw)];rfl
    have r0:(wr.alloc (.cells #[.string ⟨#[108,105,107,101,115]⟩,.slice a3 P.o.length ac3] 180)).cell? ⟨gb,4,none⟩=some (.string ⟨#[108,105,107,101,115]⟩):=by rw [Lib.cell_of_heap (HB.out _ (aA hbw (aD _ _)))];rfl
    have r1:(wr.alloc (.cells #[.string ⟨#[108,105,107,101,115]⟩,.slice a3 P.o.length ac3] 180)).cell? ⟨gb,5,none⟩=some (.slice b3 Q.o.length bc3):=by rw [Lib.cell_of_heap (HB.out _ (aA hbw (aD _ _)))];rfl
    clear hbw e1 e2 e3 e4;cases x3
    · have HR:Hid (EE=false):=by unfold Hid;rw [HE.out];simp
      go_wp2_with (go_at_call 121;refine (HC3.out _ (aA HBW.out (aN _ _ _))).mono ?_;rintro x w1 ⟨rfl,ok⟩;have HO1:=aB (aA (aA HBW.out (aN _ _ _)) ok);clear ok)
      go_ret;exact ⟨aC HR.out.symm,HO1.out⟩
    · go_wp2_with (go_at_call 121;refine (HC3.out _ (aA HBW.out (aN _ _ _))).mono ?_;rintro x w1 ⟨rfl,ok⟩;have HO1:=aB (aA (aA HBW.out (aN _ _ _)) ok);clear ok)
      exact ⟨⟨3,by omega,rfl,HO1.out,(fun _=>trivial),(fun _=>trivial),(fun _=>trivial),(fun h=>by omega)⟩,by simp [intOf]⟩
  · have e1':=e1 (by omega)
    have e2':=e2 (by omega);have e3':=e3 (by omega);subst e1' e2' e3';have q0:wr.cell? ⟨ga,6,none⟩=some (.string ⟨#[112,105,110,115]⟩):=by rw [Lib.cell_of_heap (HA.out wr hbw)];rfl
    have q1:wr.cell? ⟨ga,7,none⟩=some (.slice a4 P.p.length ac4):=by rw [Lib.cell_of_heap (HA.out wr hbw)];rfl
    have r0:(wr.alloc (.cells #[.string ⟨#[112,105,110,115]⟩,.slice a4 P.p.length ac4] 180)).cell? ⟨gb,6,none⟩=some (.string ⟨#[112,105,110,115]⟩):=by rw [Lib.cell_of_heap (HB.out _ (aA hbw (aD _ _)))];rfl
    have r1:(wr.alloc (.cells #[.string ⟨#[112,105,110,115]⟩,.slice a4 P.p.length ac4] 180)).cell? ⟨gb,7,none⟩=some (.slice b4 Q.p.length bc4):=by rw [Lib.cell_of_heap (HB.out _ (aA hbw (aD _ _)))];rfl
    clear hbw e1 e2 e3 e4;cases x4
    · have HR:Hid (EE=false):=by unfold Hid;rw [HE.out];simp
      go_wp2_with (go_at_call 121;refine (HC4.out _ (aA HBW.out (aN _ _ _))).mono ?_;rintro x w1 ⟨rfl,ok⟩;have HO1:=aB (aA (aA HBW.out (aN _ _ _)) ok);clear ok)
      go_ret;exact ⟨aC HR.out.symm,HO1.out⟩
    · go_wp2_with (go_at_call 121;refine (HC4.out _ (aA HBW.out (aN _ _ _))).mono ?_;rintro x w1 ⟨rfl,ok⟩;have HO1:=aB (aA (aA HBW.out (aN _ _ _)) ok);clear ok)
      exact ⟨⟨4,by omega,rfl,HO1.out,(fun _=>trivial),(fun _=>trivial),(fun _=>trivial),(fun _=>trivial)⟩,by simp [intOf]⟩
  · have e1':=e1 (by omega)
    have e2':=e2 (by omega);have e3':=e3 (by omega);have e4':=e4 (by omega);subst e1' e2' e3' e4';have HR:Hid (EE=true):=by unfold Hid;rw [HE.out];rfl
    clear hbw e1 e2 e3 e4
    go_wp2
    go_ret;exact ⟨aC HR.out.symm,HBW.out⟩
set_option maxHeartbeats 3200000 in
theorem JT {P Q:Mn} {v1 v2 v3 v4 u1 u2 u3 u4:Value} {w:World} (hp:MnAt w P v1 v2 v3 v4) (hq:MnAt w Q u1 u2 u3 u4) (hz:P.d.length≤9223372036854775807∧P.v.length≤9223372036854775807∧P.o.length≤9223372036854775807∧P.p.length≤9223372036854775807):
 Calls Tryz.prog 68 #[.agg #[v1,v2,v3,v4],.agg #[u1,u2,u3,u4]] w fun e w'=>e= .returned (.bool (eqB P Q))∧Below w.heap.size w w':=by
 obtain ⟨a1,ac1,rfl⟩:=hp.1.sl;obtain ⟨b1,bc1,rfl⟩:=hq.1.sl;obtain ⟨a2,ac2,rfl⟩:=hp.2.1.sl;obtain ⟨b2,bc2,rfl⟩:=hq.2.1.sl;obtain ⟨a3,ac3,rfl⟩:=hp.2.2.1.sl;obtain ⟨b3,bc3,rfl⟩:=hq.2.2.1.sl;obtain ⟨a4,ac4,rfl⟩:=hp.2.2.2.sl;obtain ⟨b4,bc4,rfl⟩:=hq.2.2.2.sl;have HLA:Hid (∀ w1,Calls Tryz.prog 120 #[.agg #[.slice a1 P.d.length ac1,.slice a2 P.v.length ac2,.slice a3 P.o.length ac3,.slice a4 P.p.length ac4]] w1 fun e w'=>∃ g,e= .returned (.slice (some ⟨g,0,none⟩) 4 4)∧Below w1.heap.size w1 w'∧w1.heap.size≤g∧w'.heap[g]? =some (bH (.slice a1 P.d.length ac1) (.slice a2 P.v.length ac2) (.slice a3 P.o.length ac3) (.slice a4 P.p.length ac4))):=fun w1=>mC _ _ _ _ _ _ _ _ _ _ _ _ w1
 have HLB:Hid (∀ w1,Calls Tryz.prog 120 #[.agg #[.slice b1 Q.d.length bc1,.slice b2 Q.v.length bc2,.slice b3 Q.o.length bc3,.slice b4 Q.p.length bc4]] w1 fun e w'=>∃ g,e= .returned (.slice (some ⟨g,0,none⟩) 4 4)∧Below w1.heap.size w1 w'∧w1.heap.size≤g∧w'.heap[g]? =some (bH (.slice b1 Q.d.length bc1) (.slice b2 Q.v.length bc2) (.slice b3 Q.o.length bc3) (.slice b4 Q.p.length bc4))):=fun w1=>mC _ _ _ _ _ _ _ _ _ _ _ _ w1
 have HEQ:Hid (∀ w1 ga gb,Below w.heap.size w w1→w1.heap[ga]? =some (bH (.slice a1 P.d.length ac1) (.slice a2 P.v.length ac2) (.slice a3 P.o.length ac3) (.slice a4 P.p.length ac4))→w1.heap[gb]? =some (bH (.slice b1 Q.d.length bc1) (.slice b2 Q.v.length bc2) (.slice b3 Q.o.length bc3) (.slice b4 Q.p.length bc4))→Calls Tryz.prog 119 #[.slice (some ⟨ga,0,none⟩) 4 4,.slice (some ⟨gb,0,none⟩) 4 4,.func (.func 121) #[] #[]] w1 fun e w'=>e= .returned (.bool (eqB P Q))∧Below w1.heap.size w1 w'):=fun w1 ga gb hb h1 h2=>wC (hp.below hb) (hq.below hb) h1 h2 hz
 clear hp hq hz;generalize eqB P Q=EE at*;have HBX:Hid (BxM ((w.alloc (.cells #[.slice a1 P.d.length ac1,.slice a2 P.v.length ac2,.slice a3 P.o.length ac3,.slice a4 P.p.length ac4] 24)).alloc (.cells #[.slice b1 Q.d.length bc1,.slice b2 Q.v.length bc2,.slice b3 Q.o.length bc3,.slice b4 Q.p.length bc4] 24)) w.heap.size (.slice a1 P.d.length ac1) (.slice a2 P.v.length ac2) (.slice a3 P.o.length ac3) (.slice a4 P.p.length ac4)∧BxM ((w.alloc (.cells #[.slice a1 P.d.length ac1,.slice a2 P.v.length ac2,.slice a3 P.o.length ac3,.slice a4 P.p.length ac4] 24)).alloc (.cells #[.slice b1 Q.d.length bc1,.slice b2 Q.v.length bc2,.slice b3 Q.o.length bc3,.slice b4 Q.p.length bc4] 24)) (w.heap.size+1) (.slice b1 Q.d.length bc1) (.slice b2 Q.v.length bc2) (.slice b3 Q.o.length bc3) (.slice b4 Q.p.length bc4)):=⟨bW _ _ _ _ _ _ _ (BxM.new rfl _ _ _ _) (aD _ _),BxM.new (by simp) _ _ _ _⟩
 have HKB:Hid (KeepP fun w1=>BxM w1 w.heap.size (.slice a1 P.d.length ac1) (.slice a2 P.v.length ac2) (.slice a3 P.o.length ac3) (.slice a4 P.p.length ac4)∧BxM w1 (w.heap.size+1) (.slice b1 Q.d.length bc1) (.slice b2 Q.v.length bc2) (.slice b3 Q.o.length bc3) (.slice b4 Q.p.length bc4)):=(bW _ _ _ _ _).and (bW _ _ _ _ _);obtain ⟨⟨k0,k1,k2,k3,k4⟩,⟨m0,m1,m2,m3,m4⟩⟩:=HBX.out;have t1:True:=trivial
 go_enter Tryz.func68,Tryz.ntmps68
 go_wp2_with fail
 go_region_held3 (fun w'=>(w'.cell? ⟨w.heap.size,0,none⟩=some (.slice a1 P.d.length ac1)∧w'.cell? ⟨w.heap.size,1,none⟩=some (.slice a2 P.v.length ac2)∧w'.cell? ⟨w.heap.size,2,none⟩=some (.slice a3 P.o.length ac3)∧w'.cell? ⟨w.heap.size,3,none⟩=some (.slice a4 P.p.length ac4))∧w'.cell? ⟨w.heap.size+1,0,none⟩=some (.slice b1 Q.d.length bc1)∧w'.cell? ⟨w.heap.size+1,1,none⟩=some (.slice b2 Q.v.length bc2)∧w'.cell? ⟨w.heap.size+1,2,none⟩=some (.slice b3 Q.o.length bc3)∧w'.cell? ⟨w.heap.size+1,3,none⟩=some (.slice b4 Q.p.length bc4)) (go_keep)
  (first
    |(have _t:=t1;go_at_call 120;refine (HLA.out _).mono ?_;rintro e w2 ⟨ga,rfl,ok,hg,hgl⟩;have HO2:Hid ((Below w.heap.size w w2∧w2.heap[ga]? =some (bH (.slice a1 P.d.length ac1) (.slice a2 P.v.length ac2) (.slice a3 P.o.length ac3) (.slice a4 P.p.length ac4)))∧(BxM w2 w.heap.size (.slice a1 P.d.length ac1) (.slice a2 P.v.length ac2) (.slice a3 P.o.length ac3) (.slice a4 P.p.length ac4)∧BxM w2 (w.heap.size+1) (.slice b1 Q.d.length bc1) (.slice b2 Q.v.length bc2) (.slice b3 Q.o.length bc3) (.slice b4 Q.p.length bc4))):=⟨⟨aA (aA (aN _ _ _) (Below.refl _ _).drew) ok,hgl⟩,HKB.out _ _ (HKB.out.drew HBX.out) ok⟩;clear ok hg hgl t1 k0 k1 k2 k3 k4 m0 m1 m2 m3 m4;obtain ⟨⟨k0,k1,k2,k3,k4⟩,⟨m0,m1,m2,m3,m4⟩⟩:=HO2.out.2)
    |(go_at_call 120;refine (HLB.out _).mono ?_;rintro e w3 ⟨gb,rfl,ok,hg,hgl⟩;have HO3:Hid ((Below w.heap.size w w3∧w3.heap[ga]? =some (bH (.slice a1 P.d.length ac1) (.slice a2 P.v.length ac2) (.slice a3 P.o.length ac3) (.slice a4 P.p.length ac4))∧w3.heap[gb]? =some (bH (.slice b1 Q.d.length bc1) (.slice b2 Q.v.length bc2) (.slice b3 Q.o.length bc3) (.slice b4 Q.p.length bc4)))∧(BxM w3 w.heap.size (.slice a1 P.d.length ac1) (.slice a2 P.v.length ac2) (.slice a3 P.o.length ac3) (.slice a4 P.p.length ac4)∧BxM w3 (w.heap.size+1) (.slice b1 Q.d.length bc1) (.slice b2 Q.v.length bc2) (.slice b3 Q.o.length bc3) (.slice b4 Q.p.length bc4))):=⟨⟨aA HO2.out.1.1 ok,(ok.block ga (Array.getElem?_eq_some_iff.1 HO2.out.1.2).1).trans HO2.out.1.2,hgl⟩,HKB.out _ _ HO2.out.2 ok⟩;clear ok hg hgl k0 k1 k2 k3 k4 m0 m1 m2 m3 m4;obtain ⟨⟨k0,k1,k2,k3,k4⟩,⟨m0,m1,m2,m3,m4⟩⟩:=HO3.out.2)
    |(go_at_call 119;refine (HEQ.out _ ga gb HO3.out.1.1 HO3.out.1.2.1 HO3.out.1.2.2).mono ?_;rintro e w4 ⟨rfl,ok⟩;have HO4:Hid (Below w.heap.size w w4∧(BxM w4 w.heap.size (.slice a1 P.d.length ac1) (.slice a2 P.v.length ac2) (.slice a3 P.o.length ac3) (.slice a4 P.p.length ac4)∧BxM w4 (w.heap.size+1) (.slice b1 Q.d.length bc1) (.slice b2 Q.v.length bc2) (.slice b3 Q.o.length bc3) (.slice b4 Q.p.length bc4))):=⟨aA HO3.out.1.1 ok,HKB.out _ _ HO3.out.2 ok⟩;clear ok k0 k1 k2 k3 k4 m0 m1 m2 m3 m4;obtain ⟨⟨k0,k1,k2,k3,k4⟩,⟨m0,m1,m2,m3,m4⟩⟩:=HO4.out.2))
 go_wp2
 go_ret;exact ⟨rfl,HO4.out.1⟩
def iJ:Mn:=⟨[],[],[],[]⟩
noncomputable def eV (P:Mn) (G:List Nd) (L:List Dr) (pr:Bool):Bool:=eqB P iJ&&(((G.length:Int)==1)&&(((L.length:Int)==1)&& !pr))
theorem QT (w:World):MnAt w iJ (.slice none 0 0) (.slice none 0 0) (.slice none 0 0) (.slice none 0 0):=by
 have h:DepsAt w (.slice none 0 0) []:=⟨none,0,rfl,Nat.le_refl _,Or.inl rfl⟩;exact ⟨h,h,h,h⟩
set_option maxHeartbeats 3200000 in
theorem zJ {P:Mn} {G:List Nd} {L:List Dr} {x1 x2 x3 x4:Value} {ag atr:Option Addr} {cg ct:Nat} {pr:Bool} {w:World} (hm:MnAt w P x1 x2 x3 x4) (hz:P.d.length≤9223372036854775807∧P.v.length≤9223372036854775807∧P.o.length≤9223372036854775807∧P.p.length≤9223372036854775807):
 Calls Tryz.prog 22 #[.agg #[x1,x2,x3,x4,.slice ag G.length cg,.slice atr L.length ct,.bool pr]] w fun e w'=>e= .returned (.bool (eV P G L pr))∧Below w.heap.size w w':=by
 have HS:Hid (∀ W,Below w.heap.size w W→Calls Tryz.prog 68 #[.agg #[x1,x2,x3,x4],.agg #[.slice none 0 0,.slice none 0 0,.slice none 0 0,.slice none 0 0]] W fun e w'=>e= .returned (.bool (eqB P iJ))∧Below W.heap.size W w'):=fun W hb=>JT (hm.below hb) (QT W) hz
 obtain ⟨a1,c1,rfl⟩:=hm.1.sl;obtain ⟨a2,c2,rfl⟩:=hm.2.1.sl;obtain ⟨a3,c3,rfl⟩:=hm.2.2.1.sl;obtain ⟨a4,c4,rfl⟩:=hm.2.2.2.sl;have HS0:=aB (StB.new w (.slice a1 P.d.length c1) (.slice a2 P.v.length c2) (.slice a3 P.o.length c3) (.slice a4 P.p.length c4) (.slice ag G.length cg) (.slice atr L.length ct) pr);have HB0:Hid (Below w.heap.size w (w.alloc (stO (.slice a1 P.d.length c1) (.slice a2 P.v.length c2) (.slice a3 P.o.length c3) (.slice a4 P.p.length c4) (.slice ag G.length cg) (.slice atr L.length ct) pr))):=aD _ _;obtain ⟨⟨⟨s0,s1,s2,s3⟩,s4,s5,s6⟩,sl⟩:=HS0.out;clear sl hm hz;unfold eV;generalize eqB P iJ=b1 at*;cases hg:((G.length:Int)==1)<;>cases hl:((L.length:Int)==1)<;>cases b1
 all_goals
  go_enter Tryz.func22,Tryz.ntmps22
  go_wp2_with (go_at_call 68;refine (HS.out _ HB0.out).mono ?_;rintro e W1 ⟨rfl,ok⟩;have HB1:=aB (aA HB0.out ok);clear s0 s1 s2 s3 s4 s5 s6;obtain ⟨⟨⟨s0,s1,s2,s3⟩,s4,s5,s6⟩,_⟩:=HS0.out.keep ok;clear ok)
  go_ret;exact ⟨by simp,HB1.out⟩
end Go.Proofs.YtlmpiohbmlddiaaGreatDoor
namespace Go.Proofs.YtlmpiohbmlddiaaGreatDoor
open Go.RowKit Go.Maps Go.WideMaps
set_option maxRecDepth 100000
theorem NZ {P:Mn} {G:List Nd} {L:List Dr} {x1 x2 x3 x4 xg:Value} {g o cap:Nat} {w:World} (pr:Bool) (hm:MnAt w P x1 x2 x3 x4) (hg:NodesAt w xg G) (ht:DirsAt w (.slice (some ⟨g,o,none⟩) L.length cap) L) (hk:TrOk L) (he:Env w) (hf:FL w):
 Calls Tryz.prog 25 #[.agg #[x1,x2,x3,x4,xg,.slice (some ⟨g,o,none⟩) L.length cap,.bool pr]] w fun e w'=>e= .returned (.map (some (w.heap.size+1)))∧LdQ w (stO x1 x2 x3 x4 xg (.slice (some ⟨g,o,none⟩) L.length cap) pr) (iH (aF P) (Lo.prT G) pr L (L.length - 1)) 1000 w':=by
 cases pr
 · exact QR hm hg ht hk he hf
 · exact NX hm hg ht hk he hf
noncomputable def eF (P:Mn) (G:List Nd) (L:List Dr) (pr:Bool):List Fi:=if eE P G L=true∧eV P G L pr=false then cM (aF P) (Lo.prT G) pr L else []
noncomputable def erI (P:Mn) (G:List Nd) (L:List Dr):Int:=if eE P G L=true then 0 else 43
def OwnFi (w:World) (B:Nat) (v:Value) (fs:List Fi):Prop:=w.ownsRow B 45 3 v fs.length (fs.flatMap dT)
def JU (w:World) (fs:List Fi) (er:Int) (e:Ending) (w':World):Prop:=∃ v,e= .returned (.tuple #[v,.int .i64 er])∧OwnFi w' w.heap.size v fs∧Below w.heap.size w w'
theorem nQ {P:Mn} {G:List Nd} {L:List Dr} (h:eE P G L=true):iY L G=0:=by
 unfold eE at h;simp only [Bool.and_eq_true,beq_iff_eq] at h;exact h.2.1
set_option maxHeartbeats 3200000 in
theorem OA {P:Mn} {G:List Nd} {L:List Dr} {x1 x2 x3 x4 xg xt:Value} {pr:Bool} {w0 W:World} (hk:TrOk L) (h:LdQ w0 (stO x1 x2 x3 x4 xg xt pr) (iH (aF P) (Lo.prT G) pr L (L.length - 1)) 1000 W):
 Calls Tryz.prog 23 #[.func (.func 72) #[] #[.pointer (some ⟨W.heap.size,0,none⟩)]] (W.alloc (.cells #[.map (some (w0.heap.size+1))] 74)) fun e w'=>∃ v,e= .returned v∧OwnFi w' W.heap.size v (cM (aF P) (Lo.prT G) pr L)∧Below W.heap.size W w':=by
 obtain ⟨n,D,hn,ho,hD⟩:=h.own;have hall:=NW (aF P) (Lo.prT G) pr L;rw [hall] at hD
 have hlen:(((caP pr L).map (caF (aF P) (Lo.prT G))).foldl aY []).length≤1000000:=by
  have h1:=NG ((caP pr L).map (caF (aF P) (Lo.prT G))) _ (Nat.le_refl _);rw [List.take_length,List.length_map] at h1
  have h2:(caP pr L).length≤3+3*L.length:=by
   unfold caP fL;rw [List.length_append,List.length_flatMap]
   have e:((L.drop 1).map fun d=>([Ca.mod (upP d.pa),.dir d.pa,.pkg d]:List Ca).length).sum=3*(L.length - 1):=by
    have:((L.drop 1).map fun d=>([Ca.mod (upP d.pa),.dir d.pa,.pkg d]:List Ca).length)=(L.drop 1).map fun _=>3:=rfl
    rw [this,List.map_const',List.sum_replicate_nat,List.length_drop];omega
   rw [e];cases pr<;>simp<;>omega
  have:=hk.len
  omega
 have hcell:(W.alloc (.cells #[.map (some (w0.heap.size+1))] 74)).cell? ⟨W.heap.size,0,none⟩=some (.map (some (w0.heap.size+1))):=by
  rw [World.cell?_alloc_new];rfl
 have hs:=oA 72 #[.pointer (some ⟨W.heap.size,0,none⟩)] (enters_of Tryz.func72 (by kernel_rfl) rfl) (fun V=>V.Perm (((caP pr L).map (caF (aF P) (Lo.prT G))).foldl aY [])) _ hlen (fun V hV=>by have:=hV.length_eq;omega) (W.alloc (.cells #[.map (some (w0.heap.size+1))] 74)) (PG (BZ 4 (by decide) W.heap.size (w0.heap.size+1) n hD _ (by simp) hcell (ho.alloc _)));refine hs.mono ?_;rintro e w' ⟨v,V,ts,rfl,hV,⟨hp,hsr⟩,hrow,hb⟩;have hts:=hp.trans hV;have hd:ts.Pairwise fun x y=>x.pa≠y.pa:=(hts.pairwise_iff (fun q e=>q e.symm)).2 hD.dist
 have e1:=CR hk pr _ _ hts hsr hd;subst e1;refine ⟨v,rfl,?_,aA (aD _ _) hb⟩;unfold OwnFi;exact dB hrow (by simp)
theorem OwnFi.nil (w:World) (B:Nat):OwnFi w B (.slice none 0 0) []:=⟨rfl,Or.inl ⟨rfl,rfl⟩⟩
theorem OwnFi.form {w:World} {B:Nat} {v:Value} {fs:List Fi} (h:OwnFi w B v fs):∃ a c,v= .slice a fs.length c:=by
 rcases h.2 with ⟨rfl,hn⟩|⟨g,cap,cur,rfl,_⟩
 · exact ⟨none,0,by rw [hn]⟩
 · exact ⟨_,_,rfl⟩
set_option maxHeartbeats 6400000 in
theorem kG {P:Mn} {G:List Nd} {L:List Dr} {x1 x2 x3 x4 xg xt:Value} {pr:Bool} {w:World} (hm:MnAt w P x1 x2 x3 x4) (hmz:P.d.length≤9223372036854775807∧P.v.length≤9223372036854775807∧P.o.length≤9223372036854775807∧P.p.length≤9223372036854775807) (hg:NodesAt w xg G) (ht:DirsAt w xt L) (hz:L.length≤9223372036854775807) (hk:kR L) (hgz:sP G) (hml:iY L G=0→(eH L G).length=L.length) (he:Env w) (hf:FL w):
 Calls Tryz.prog 8 #[.agg #[x1,x2,x3,x4,xg,xt,.bool pr]] w (JU w (eF P G L pr) (erI P G L)):=by
 obtain ⟨at0,ct0,rfl,hct,hsl⟩:=ht.sl;obtain ⟨ag,cg,rfl⟩:∃ a c,xg= .slice a G.length c:=by obtain ⟨a,c,e,_⟩:=hg;exact ⟨a,c,e⟩
 have HMY:Hid (∀ W,Below w.heap.size w W→Calls Tryz.prog 21 #[.agg #[x1,x2,x3,x4,.slice ag G.length cg,.slice at0 L.length ct0,.bool pr]] W fun e w'=>e= .returned (.bool (eE P G L))∧Below W.heap.size W w'):=fun W hb=>NY (hm.below hb) (hg.below hb) (ht.below hb) hz hk hgz hml (he.below hb) (hf.below hb)
 have HEM:Hid (∀ W,Below w.heap.size w W→Calls Tryz.prog 22 #[.agg #[x1,x2,x3,x4,.slice ag G.length cg,.slice at0 L.length ct0,.bool pr]] W fun e w'=>e= .returned (.bool (eV P G L pr))∧Below W.heap.size W w'):=fun W hb=>zJ (hm.below hb) hmz
 have HLA:Hid (eE P G L=true→∃ g o,at0=some ⟨g,o,none⟩∧TrOk L):=fun h=>by
  have hk:=QK (iI (nQ h)).1;obtain ⟨g,o,e,_⟩:=hsl 0 hk.len.1;exact ⟨g,o,e,hk⟩
 have HLD:Hid (∀ W g o,at0=some ⟨g,o,none⟩→TrOk L→Below w.heap.size w W→Calls Tryz.prog 25 #[.agg #[x1,x2,x3,x4,.slice ag G.length cg,.slice at0 L.length ct0,.bool pr]] W fun e w'=>e= .returned (.map (some (W.heap.size+1)))∧LdQ W (stO x1 x2 x3 x4 (.slice ag G.length cg) (.slice at0 L.length ct0) pr) (iH (aF P) (Lo.prT G) pr L (L.length - 1)) 1000 w'):=fun W g o e hk hb=>by
  subst e;exact NZ pr (hm.below hb) (hg.below hb) (ht.below hb) hk (he.below hb) (hf.below hb)
 have HQ:Hid (∀ v W er,erI P G L=er→OwnFi W w.heap.size v (eF P G L pr)→Below w.heap.size w W→JU w (eF P G L pr) (erI P G L) (.returned (.tuple #[v,.int .i64 er])) W):=fun v W er h1 h2 h3=>⟨v,by rw [h1],h2,h3⟩
 have HF0:Hid (eE P G L=false→eF P G L pr=[]∧erI P G L=43):=fun h=>by unfold eF erI;rw [h];simp
 have HF1:Hid (eE P G L=true→eV P G L pr=true→eF P G L pr=[]∧erI P G L=0):=fun h h2=>by unfold eF erI;rw [h,h2];simp
 have HF2:Hid (eE P G L=true→eV P G L pr=false→eF P G L pr=cM (aF P) (Lo.prT G) pr L∧erI P G L=0):=fun h h2=>by unfold eF erI;rw [h,h2];simp
 obtain ⟨a1,c1,rfl⟩:=hm.1.sl;obtain ⟨a2,c2,rfl⟩:=hm.2.1.sl;obtain ⟨a3,c3,rfl⟩:=hm.2.2.1.sl;obtain ⟨a4,c4,rfl⟩:=hm.2.2.2.sl;have HS0:=aB (StB.new w (.slice a1 P.d.length c1) (.slice a2 P.v.length c2) (.slice a3 P.o.length c3) (.slice a4 P.p.length c4) (.slice ag G.length cg) (.slice at0 L.length ct0) pr);have HB0:Hid (Below w.heap.size w (w.alloc (stO (.slice a1 P.d.length c1) (.slice a2 P.v.length c2) (.slice a3 P.o.length c3) (.slice a4 P.p.length c4) (.slice ag G.length cg) (.slice at0 L.length ct0) pr))):=aD _ _;obtain ⟨⟨⟨s0,s1,s2,s3⟩,s4,s5,s6⟩,sl⟩:=HS0.out;clear sl hm hmz hg ht hk hgz hml he hf hsl;generalize JU w (eF P G L pr) (erI P G L)=Q at*;cases hmy:eE P G L
 · obtain ⟨f1,f2⟩:=HF0.out hmy
   rw [hmy] at HMY;rw [f1] at HQ;have HE:=aB f2;clear HF0 HF1 HF2 HLA HLD HEM f1 f2 hmy
   go_enter Tryz.func8,Tryz.ntmps8
   go_wp2_with (go_at_call 21;refine (HMY.out _ HB0.out).mono ?_;rintro e W1 ⟨rfl,ok⟩;have HB1:=aB (aA HB0.out ok);clear ok)
   exact HQ.out _ _ _ HE.out (OwnFi.nil _ _) HB1.out
 · cases hem:eV P G L pr
   · obtain ⟨f1,f2⟩:=HF2.out hmy hem
     obtain ⟨g,o,eat,hk⟩:=HLA.out hmy;have HTK:=aB hk;have HAT:=aB eat;have HLC:=aB (fun W hb=>HLD.out W g o HAT.out HTK.out hb);rw [hmy] at HMY;rw [hem] at HEM;rw [f1] at HQ;have HE:=aB f2;clear HF0 HF1 HF2 HLA HLD f1 f2 hmy hem hk eat HAT
     go_enter Tryz.func8,Tryz.ntmps8
     go_wp2_with (first
      |(have _t:=HS0;go_at_call 21;refine (HMY.out _ HB0.out).mono ?_;rintro e W1 ⟨rfl,ok⟩;have HB1:=aB (aA HB0.out ok);have HS1:=aB (HS0.out.keep ok);clear s0 s1 s2 s3 s4 s5 s6 HS0;obtain ⟨⟨⟨s0,s1,s2,s3⟩,s4,s5,s6⟩,_⟩:=HS1.out;clear ok)
      |(have _t:=HS1;go_at_call 22;refine (HEM.out _ HB1.out).mono ?_;rintro e W2 ⟨rfl,ok⟩;have HB2:=aB (aA HB1.out ok);have HS2:=aB (HS1.out.keep ok);clear s0 s1 s2 s3 s4 s5 s6 HS1;obtain ⟨⟨⟨s0,s1,s2,s3⟩,s4,s5,s6⟩,_⟩:=HS2.out;clear ok)
      |(have _t:=HS2;go_at_call 25;refine (HLC.out _ HB2.out).mono ?_;rintro e W3 ⟨rfl,ok⟩;have HL3:=aB ok;have HB3:=aB (aA HB2.out ok.below);clear ok HS2 s0 s1 s2 s3 s4 s5 s6)
      |(have _t:=HL3;go_at_call 24;refine (yD _ _).mono ?_;rintro e W4 ⟨rfl,hw4⟩;subst hw4;have HT4:=aB (OA HTK.out HL3.out);clear HL3)
      |(have _t:=HT4;go_at_call 23;refine HT4.out.mono ?_;rintro e W5 ⟨v5,rfl,ho5,ok⟩;have HO5:Hid (OwnFi W5 w.heap.size v5 (cM (aF P) (Lo.prT G) pr L)):=dB ho5 HB3.out.size;have HB5:=aB (aA HB3.out ok);obtain ⟨a5,c5,rfl⟩:=ho5.form;clear ok ho5 HT4))
     exact HQ.out _ _ _ HE.out HO5.out HB5.out
   · obtain ⟨f1,f2⟩:=HF1.out hmy hem
     rw [hmy] at HMY;rw [hem] at HEM;rw [f1] at HQ;have HE:=aB f2;clear HF0 HF1 HF2 HLA HLD f1 f2 hmy hem
     go_enter Tryz.func8,Tryz.ntmps8
     go_wp2_with (first
      |(have _t:=HS0;go_at_call 21;refine (HMY.out _ HB0.out).mono ?_;rintro e W1 ⟨rfl,ok⟩;have HB1:=aB (aA HB0.out ok);have HS1:=aB (HS0.out.keep ok);clear s0 s1 s2 s3 s4 s5 s6 HS0;obtain ⟨⟨⟨s0,s1,s2,s3⟩,s4,s5,s6⟩,_⟩:=HS1.out;clear ok)
      |(have _t:=HS1;go_at_call 22;refine (HEM.out _ HB1.out).mono ?_;rintro e W2 ⟨rfl,ok⟩;have HB2:=aB (aA HB1.out ok);clear ok))
     exact HQ.out _ _ _ HE.out (OwnFi.nil _ _) HB2.out
end Go.Proofs.YtlmpiohbmlddiaaGreatDoor
namespace Go.Proofs.YtlmpiohbmlddiaaGreatDoor
open Go.RowKit
set_option maxRecDepth 100000
set_option maxHeartbeats 3200000 in
theorem DD {P Q:Mn} {v1 v2 v3 v4 u1 u2 u3 u4:Value} {w:World} (h:MnAt w P v1 v2 v3 v4) (hq:MnAt w Q u1 u2 u3 u4) (hz:P.d.length≤9223372036854775807∧P.v.length≤9223372036854775807∧P.o.length≤9223372036854775807∧P.p.length≤9223372036854775807):
 Calls Tryz.prog 20 #[.agg #[v1,v2,v3,v4],.agg #[u1,u2,u3,u4]] w fun x w'=>x= .returned (.bool (eqB P Q))∧Below w.heap.size w w':=by
 have H1:Hid (∀ w1,Below w.heap.size w w1→Calls Tryz.prog 60 #[v1,u1] w1 fun e w'=>e= .returned (.bool (eqB P.d Q.d))∧Below w1.heap.size w1 w'):=fun w1 hb=>eS (h.1.below hb) (hq.1.below hb) hz.1
 have H2:Hid (∀ w1,Below w.heap.size w w1→Calls Tryz.prog 60 #[v2,u2] w1 fun e w'=>e= .returned (.bool (eqB P.v Q.v))∧Below w1.heap.size w1 w'):=fun w1 hb=>eS (h.2.1.below hb) (hq.2.1.below hb) hz.2.1
 have H3:Hid (∀ w1,Below w.heap.size w w1→Calls Tryz.prog 60 #[v3,u3] w1 fun e w'=>e= .returned (.bool (eqB P.o Q.o))∧Below w1.heap.size w1 w'):=fun w1 hb=>eS (h.2.2.1.below hb) (hq.2.2.1.below hb) hz.2.2.1
 have H4:Hid (∀ w1,Below w.heap.size w w1→Calls Tryz.prog 60 #[v4,u4] w1 fun e w'=>e= .returned (.bool (eqB P.p Q.p))∧Below w1.heap.size w1 w'):=fun w1 hb=>eS (h.2.2.2.below hb) (hq.2.2.2.below hb) hz.2.2.2
 have HE:=aB (FU (P:=P) (Q:=Q));obtain ⟨a1,c1,rfl⟩:=h.1.sl;obtain ⟨a2,c2,rfl⟩:=h.2.1.sl;obtain ⟨a3,c3,rfl⟩:=h.2.2.1.sl;obtain ⟨a4,c4,rfl⟩:=h.2.2.2.sl;obtain ⟨b1,d1,rfl⟩:=hq.1.sl;obtain ⟨b2,d2,rfl⟩:=hq.2.1.sl;obtain ⟨b3,d3,rfl⟩:=hq.2.2.1.sl;obtain ⟨b4,d4,rfl⟩:=hq.2.2.2.sl;clear h hq hz;generalize eqB P Q=EE at*;generalize eqB P.d Q.d=x1 at*;generalize eqB P.v Q.v=x2 at*;generalize eqB P.o Q.o=x3 at*;generalize eqB P.p Q.p=x4 at*;cases x1
 · skip
   have HR:Hid (EE=false):=by unfold Hid;rw [HE.out];simp
   have HK0:Hid (KeepP fun w1=>((Below w.heap.size w w1)∧BxM w1 w.heap.size (.slice a1 P.d.length c1) (.slice a2 P.v.length c2) (.slice a3 P.o.length c3) (.slice a4 P.p.length c4))∧BxM w1 (w.heap.size+1) (.slice b1 Q.d.length d1) (.slice b2 Q.v.length d2) (.slice b3 Q.o.length d3) (.slice b4 Q.p.length d4)):=(KeepP.and ((KeepP.and (aH w) (bW _ _ _ _ _))) (bW _ _ _ _ _))
   have HO0:Hid (((Below w.heap.size w ((w.alloc (.cells #[.slice a1 P.d.length c1,.slice a2 P.v.length c2,.slice a3 P.o.length c3,.slice a4 P.p.length c4] 24)).alloc (.cells #[.slice b1 Q.d.length d1,.slice b2 Q.v.length d2,.slice b3 Q.o.length d3,.slice b4 Q.p.length d4] 24)))∧BxM ((w.alloc (.cells #[.slice a1 P.d.length c1,.slice a2 P.v.length c2,.slice a3 P.o.length c3,.slice a4 P.p.length c4] 24)).alloc (.cells #[.slice b1 Q.d.length d1,.slice b2 Q.v.length d2,.slice b3 Q.o.length d3,.slice b4 Q.p.length d4] 24)) w.heap.size (.slice a1 P.d.length c1) (.slice a2 P.v.length c2) (.slice a3 P.o.length c3) (.slice a4 P.p.length c4))∧BxM ((w.alloc (.cells #[.slice a1 P.d.length c1,.slice a2 P.v.length c2,.slice a3 P.o.length c3,.slice a4 P.p.length c4] 24)).alloc (.cells #[.slice b1 Q.d.length d1,.slice b2 Q.v.length d2,.slice b3 Q.o.length d3,.slice b4 Q.p.length d4] 24)) (w.heap.size+1) (.slice b1 Q.d.length d1) (.slice b2 Q.v.length d2) (.slice b3 Q.o.length d3) (.slice b4 Q.p.length d4)):=⟨⟨aN _ _ _,bW _ _ _ _ _ _ _ (BxM.new rfl _ _ _ _) (aD _ _)⟩,BxM.new (by simp) _ _ _ _⟩
   obtain ⟨p0,p1,p2,p3,p4⟩:=HO0.out.1.2;obtain ⟨q0,q1,q2,q3,q4⟩:=HO0.out.2
   go_enter Tryz.func20,Tryz.ntmps20
   go_wp2_with (first
    |(have _h:=HO0;go_at_call 60;refine (H1.out _ (HO0.out.1.1)).mono ?_;rintro e y1 ⟨rfl,ok⟩;have HO1:Hid (((Below w.heap.size w y1)∧BxM y1 w.heap.size (.slice a1 P.d.length c1) (.slice a2 P.v.length c2) (.slice a3 P.o.length c3) (.slice a4 P.p.length c4))∧BxM y1 (w.heap.size+1) (.slice b1 Q.d.length d1) (.slice b2 Q.v.length d2) (.slice b3 Q.o.length d3) (.slice b4 Q.p.length d4)):=HK0.out _ _ HO0.out ok;clear ok HO0 p0 p1 p2 p3 p4 q0 q1 q2 q3 q4;obtain ⟨p0,p1,p2,p3,p4⟩:=HO1.out.1.2;obtain ⟨q0,q1,q2,q3,q4⟩:=HO1.out.2))
   go_ret;exact ⟨aC HR.out.symm,HO1.out.1.1⟩
 · cases x2
   · skip
     have HR:Hid (EE=false):=by unfold Hid;rw [HE.out];simp
     have HK0:Hid (KeepP fun w1=>((Below w.heap.size w w1)∧BxM w1 w.heap.size (.slice a1 P.d.length c1) (.slice a2 P.v.length c2) (.slice a3 P.o.length c3) (.slice a4 P.p.length c4))∧BxM w1 (w.heap.size+1) (.slice b1 Q.d.length d1) (.slice b2 Q.v.length d2) (.slice b3 Q.o.length d3) (.slice b4 Q.p.length d4)):=(KeepP.and ((KeepP.and (aH w) (bW _ _ _ _ _))) (bW _ _ _ _ _))
     have HO0:Hid (((Below w.heap.size w ((w.alloc (.cells #[.slice a1 P.d.length c1,.slice a2 P.v.length c2,.slice a3 P.o.length c3,.slice a4 P.p.length c4] 24)).alloc (.cells #[.slice b1 Q.d.length d1,.slice b2 Q.v.length d2,.slice b3 Q.o.length d3,.slice b4 Q.p.length d4] 24)))∧BxM ((w.alloc (.cells #[.slice a1 P.d.length c1,.slice a2 P.v.length c2,.slice a3 P.o.length c3,.slice a4 P.p.length c4] 24)).alloc (.cells #[.slice b1 Q.d.length d1,.slice b2 Q.v.length d2,.slice b3 Q.o.length d3,.slice b4 Q.p.length d4] 24)) w.heap.size (.slice a1 P.d.length c1) (.slice a2 P.v.length c2) (.slice a3 P.o.length c3) (.slice a4 P.p.length c4))∧BxM ((w.alloc (.cells #[.slice a1 P.d.length c1,.slice a2 P.v.length c2,.slice a3 P.o.length c3,.slice a4 P.p.length c4] 24)).alloc (.cells #[.slice b1 Q.d.length d1,.slice b2 Q.v.length d2,.slice b3 Q.o.length d3,.slice b4 Q.p.length d4] 24)) (w.heap.size+1) (.slice b1 Q.d.length d1) (.slice b2 Q.v.length d2) (.slice b3 Q.o.length d3) (.slice b4 Q.p.length d4)):=⟨⟨aN _ _ _,bW _ _ _ _ _ _ _ (BxM.new rfl _ _ _ _) (aD _ _)⟩,BxM.new (by simp) _ _ _ _⟩
     obtain ⟨p0,p1,p2,p3,p4⟩:=HO0.out.1.2;obtain ⟨q0,q1,q2,q3,q4⟩:=HO0.out.2
     go_enter Tryz.func20,Tryz.ntmps20
     go_wp2_with (first
      |(have _h:=HO0;go_at_call 60;refine (H1.out _ (HO0.out.1.1)).mono ?_;rintro e y1 ⟨rfl,ok⟩;have HO1:Hid (((Below w.heap.size w y1)∧BxM y1 w.heap.size (.slice a1 P.d.length c1) (.slice a2 P.v.length c2) (.slice a3 P.o.length c3) (.slice a4 P.p.length c4))∧BxM y1 (w.heap.size+1) (.slice b1 Q.d.length d1) (.slice b2 Q.v.length d2) (.slice b3 Q.o.length d3) (.slice b4 Q.p.length d4)):=HK0.out _ _ HO0.out ok;clear ok HO0 p0 p1 p2 p3 p4 q0 q1 q2 q3 q4;obtain ⟨p0,p1,p2,p3,p4⟩:=HO1.out.1.2;obtain ⟨q0,q1,q2,q3,q4⟩:=HO1.out.2)
      |(have _h:=HO1;go_at_call 60;refine (H2.out _ (HO1.out.1.1)).mono ?_;rintro e y2 ⟨rfl,ok⟩;have HO2:Hid (((Below w.heap.size w y2)∧BxM y2 w.heap.size (.slice a1 P.d.length c1) (.slice a2 P.v.length c2) (.slice a3 P.o.length c3) (.slice a4 P.p.length c4))∧BxM y2 (w.heap.size+1) (.slice b1 Q.d.length d1) (.slice b2 Q.v.length d2) (.slice b3 Q.o.length d3) (.slice b4 Q.p.length d4)):=HK0.out _ _ HO1.out ok;clear ok HO1 p0 p1 p2 p3 p4 q0 q1 q2 q3 q4;obtain ⟨p0,p1,p2,p3,p4⟩:=HO2.out.1.2;obtain ⟨q0,q1,q2,q3,q4⟩:=HO2.out.2))
     go_ret;exact ⟨aC HR.out.symm,HO2.out.1.1⟩
   · cases x3
     · skip
       have HR:Hid (EE=false):=by unfold Hid;rw [HE.out];simp
       have HK0:Hid (KeepP fun w1=>((Below w.heap.size w w1)∧BxM w1 w.heap.size (.slice a1 P.d.length c1) (.slice a2 P.v.length c2) (.slice a3 P.o.length c3) (.slice a4 P.p.length c4))∧BxM w1 (w.heap.size+1) (.slice b1 Q.d.length d1) (.slice b2 Q.v.length d2) (.slice b3 Q.o.length d3) (.slice b4 Q.p.length d4)):=(KeepP.and ((KeepP.and (aH w) (bW _ _ _ _ _))) (bW _ _ _ _ _))
       have HO0:Hid (((Below w.heap.size w ((w.alloc (.cells #[.slice a1 P.d.length c1,.slice a2 P.v.length c2,.slice a3 P.o.length c3,.slice a4 P.p.length c4] 24)).alloc (.cells #[.slice b1 Q.d.length d1,.slice b2 Q.v.length d2,.slice b3 Q.o.length d3,.slice b4 Q.p.length d4] 24)))∧BxM ((w.alloc (.cells #[.slice a1 P.d.length c1,.slice a2 P.v.length c2,.slice a3 P.o.length c3,.slice a4 P.p.length c4] 24)).alloc (.cells #[.slice b1 Q.d.length d1,.slice b2 Q.v.length d2,.slice b3 Q.o.length d3,.slice b4 Q.p.length d4] 24)) w.heap.size (.slice a1 P.d.length c1) (.slice a2 P.v.length c2) (.slice a3 P.o.length c3) (.slice a4 P.p.length c4))∧BxM ((w.alloc (.cells #[.slice a1 P.d.length c1,.slice a2 P.v.length c2,.slice a3 P.o.length c3,.slice a4 P.p.length c4] 24)).alloc (.cells #[.slice b1 Q.d.length d1,.slice b2 Q.v.length d2,.slice b3 Q.o.length d3,.slice b4 Q.p.length d4] 24)) (w.heap.size+1) (.slice b1 Q.d.length d1) (.slice b2 Q.v.length d2) (.slice b3 Q.o.length d3) (.slice b4 Q.p.length d4)):=⟨⟨aN _ _ _,bW _ _ _ _ _ _ _ (BxM.new rfl _ _ _ _) (aD _ _)⟩,BxM.new (by simp) _ _ _ _⟩
       obtain ⟨p0,p1,p2,p3,p4⟩:=HO0.out.1.2;obtain ⟨q0,q1,q2,q3,q4⟩:=HO0.out.2
       go_enter Tryz.func20,Tryz.ntmps20
       go_wp2_with (first
        |(have _h:=HO0;go_at_call 60;refine (H1.out _ (HO0.out.1.1)).mono ?_;rintro e y1 ⟨rfl,ok⟩;have HO1:Hid (((Below w.heap.size w y1)∧BxM y1 w.heap.size (.slice a1 P.d.length c1) (.slice a2 P.v.length c2) (.slice a3 P.o.length c3) (.slice a4 P.p.length c4))∧BxM y1 (w.heap.size+1) (.slice b1 Q.d.length d1) (.slice b2 Q.v.length d2) (.slice b3 Q.o.length d3) (.slice b4 Q.p.length d4)):=HK0.out _ _ HO0.out ok;clear ok HO0 p0 p1 p2 p3 p4 q0 q1 q2 q3 q4;obtain ⟨p0,p1,p2,p3,p4⟩:=HO1.out.1.2;obtain ⟨q0,q1,q2,q3,q4⟩:=HO1.out.2)
        |(have _h:=HO1;go_at_call 60;refine (H2.out _ (HO1.out.1.1)).mono ?_;rintro e y2 ⟨rfl,ok⟩;have HO2:Hid (((Below w.heap.size w y2)∧BxM y2 w.heap.size (.slice a1 P.d.length c1) (.slice a2 P.v.length c2) (.slice a3 P.o.length c3) (.slice a4 P.p.length c4))∧BxM y2 (w.heap.size+1) (.slice b1 Q.d.length d1) (.slice b2 Q.v.length d2) (.slice b3 Q.o.length d3) (.slice b4 Q.p.length d4)):=HK0.out _ _ HO1.out ok;clear ok HO1 p0 p1 p2 p3 p4 q0 q1 q2 q3 q4;obtain ⟨p0,p1,p2,p3,p4⟩:=HO2.out.1.2;obtain ⟨q0,q1,q2,q3,q4⟩:=HO2.out.2)
        |(have _h:=HO2;go_at_call 60;refine (H3.out _ (HO2.out.1.1)).mono ?_;rintro e y3 ⟨rfl,ok⟩;have HO3:Hid (((Below w.heap.size w y3)∧BxM y3 w.heap.size (.slice a1 P.d.length c1) (.slice a2 P.v.length c2) (.slice a3 P.o.length c3) (.slice a4 P.p.length c4))∧BxM y3 (w.heap.size+1) (.slice b1 Q.d.length d1) (.slice b2 Q.v.length d2) (.slice b3 Q.o.length d3) (.slice b4 Q.p.length d4)):=HK0.out _ _ HO2.out ok;clear ok HO2 p0 p1 p2 p3 p4 q0 q1 q2 q3 q4;obtain ⟨p0,p1,p2,p3,p4⟩:=HO3.out.1.2;obtain ⟨q0,q1,q2,q3,q4⟩:=HO3.out.2))
       go_ret;exact ⟨aC HR.out.symm,HO3.out.1.1⟩
     · cases x4
       · skip
         have HR:Hid (EE=false):=by unfold Hid;rw [HE.out];simp
         have HK0:Hid (KeepP fun w1=>((Below w.heap.size w w1)∧BxM w1 w.heap.size (.slice a1 P.d.length c1) (.slice a2 P.v.length c2) (.slice a3 P.o.length c3) (.slice a4 P.p.length c4))∧BxM w1 (w.heap.size+1) (.slice b1 Q.d.length d1) (.slice b2 Q.v.length d2) (.slice b3 Q.o.length d3) (.slice b4 Q.p.length d4)):=(KeepP.and ((KeepP.and (aH w) (bW _ _ _ _ _))) (bW _ _ _ _ _))
         have HO0:Hid (((Below w.heap.size w ((w.alloc (.cells #[.slice a1 P.d.length c1,.slice a2 P.v.length c2,.slice a3 P.o.length c3,.slice a4 P.p.length c4] 24)).alloc (.cells #[.slice b1 Q.d.length d1,.slice b2 Q.v.length d2,.slice b3 Q.o.length d3,.slice b4 Q.p.length d4] 24)))∧BxM ((w.alloc (.cells #[.slice a1 P.d.length c1,.slice a2 P.v.length c2,.slice a3 P.o.length c3,.slice a4 P.p.length c4] 24)).alloc (.cells #[.slice b1 Q.d.length d1,.slice b2 Q.v.length d2,.slice b3 Q.o.length d3,.slice b4 Q.p.length d4] 24)) w.heap.size (.slice a1 P.d.length c1) (.slice a2 P.v.length c2) (.slice a3 P.o.length c3) (.slice a4 P.p.length c4))∧BxM ((w.alloc (.cells #[.slice a1 P.d.length c1,.slice a2 P.v.length c2,.slice a3 P.o.length c3,.slice a4 P.p.length c4] 24)).alloc (.cells #[.slice b1 Q.d.length d1,.slice b2 Q.v.length d2,.slice b3 Q.o.length d3,.slice b4 Q.p.length d4] 24)) (w.heap.size+1) (.slice b1 Q.d.length d1) (.slice b2 Q.v.length d2) (.slice b3 Q.o.length d3) (.slice b4 Q.p.length d4)):=⟨⟨aN _ _ _,bW _ _ _ _ _ _ _ (BxM.new rfl _ _ _ _) (aD _ _)⟩,BxM.new (by simp) _ _ _ _⟩
         obtain ⟨p0,p1,p2,p3,p4⟩:=HO0.out.1.2;obtain ⟨q0,q1,q2,q3,q4⟩:=HO0.out.2
         go_enter Tryz.func20,Tryz.ntmps20
         go_wp2_with (first
          |(have _h:=HO0;go_at_call 60;refine (H1.out _ (HO0.out.1.1)).mono ?_;rintro e y1 ⟨rfl,ok⟩;have HO1:Hid (((Below w.heap.size w y1)∧BxM y1 w.heap.size (.slice a1 P.d.length c1) (.slice a2 P.v.length c2) (.slice a3 P.o.length c3) (.slice a4 P.p.length c4))∧BxM y1 (w.heap.size+1) (.slice b1 Q.d.length d1) (.slice b2 Q.v.length d2) (.slice b3 Q.o.length d3) (.slice b4 Q.p.length d4)):=HK0.out _ _ HO0.out ok;clear ok HO0 p0 p1 p2 p3 p4 q0 q1 q2 q3 q4;obtain ⟨p0,p1,p2,p3,p4⟩:=HO1.out.1.2;obtain ⟨q0,q1,q2,q3,q4⟩:=HO1.out.2)
          |(have _h:=HO1;go_at_call 60;refine (H2.out _ (HO1.out.1.1)).mono ?_;rintro e y2 ⟨rfl,ok⟩;have HO2:Hid (((Below w.heap.size w y2)∧BxM y2 w.heap.size (.slice a1 P.d.length c1) (.slice a2 P.v.length c2) (.slice a3 P.o.length c3) (.slice a4 P.p.length c4))∧BxM y2 (w.heap.size+1) (.slice b1 Q.d.length d1) (.slice b2 Q.v.length d2) (.slice b3 Q.o.length d3) (.slice b4 Q.p.length d4)):=HK0.out _ _ HO1.out ok;clear ok HO1 p0 p1 p2 p3 p4 q0 q1 q2 q3 q4;obtain ⟨p0,p1,p2,p3,p4⟩:=HO2.out.1.2;obtain ⟨q0,q1,q2,q3,q4⟩:=HO2.out.2)
          |(have _h:=HO2;go_at_call 60;refine (H3.out _ (HO2.out.1.1)).mono ?_;rintro e y3 ⟨rfl,ok⟩;have HO3:Hid (((Below w.heap.size w y3)∧BxM y3 w.heap.size (.slice a1 P.d.length c1) (.slice a2 P.v.length c2) (.slice a3 P.o.length c3) (.slice a4 P.p.length c4))∧BxM y3 (w.heap.size+1) (.slice b1 Q.d.length d1) (.slice b2 Q.v.length d2) (.slice b3 Q.o.length d3) (.slice b4 Q.p.length d4)):=HK0.out _ _ HO2.out ok;clear ok HO2 p0 p1 p2 p3 p4 q0 q1 q2 q3 q4;obtain ⟨p0,p1,p2,p3,p4⟩:=HO3.out.1.2;obtain ⟨q0,q1,q2,q3,q4⟩:=HO3.out.2)
          |(have _h:=HO3;go_at_call 60;refine (H4.out _ (HO3.out.1.1)).mono ?_;rintro e y4 ⟨rfl,ok⟩;have HO4:Hid (((Below w.heap.size w y4)∧BxM y4 w.heap.size (.slice a1 P.d.length c1) (.slice a2 P.v.length c2) (.slice a3 P.o.length c3) (.slice a4 P.p.length c4))∧BxM y4 (w.heap.size+1) (.slice b1 Q.d.length d1) (.slice b2 Q.v.length d2) (.slice b3 Q.o.length d3) (.slice b4 Q.p.length d4)):=HK0.out _ _ HO3.out ok;clear ok HO3 p0 p1 p2 p3 p4 q0 q1 q2 q3 q4;obtain ⟨p0,p1,p2,p3,p4⟩:=HO4.out.1.2;obtain ⟨q0,q1,q2,q3,q4⟩:=HO4.out.2))
         go_ret;exact ⟨aC HR.out.symm,HO4.out.1.1⟩
       · skip
         have HR:Hid (EE=true):=by unfold Hid;rw [HE.out];simp
         have HK0:Hid (KeepP fun w1=>((Below w.heap.size w w1)∧BxM w1 w.heap.size (.slice a1 P.d.length c1) (.slice a2 P.v.length c2) (.slice a3 P.o.length c3) (.slice a4 P.p.length c4))∧BxM w1 (w.heap.size+1) (.slice b1 Q.d.length d1) (.slice b2 Q.v.length d2) (.slice b3 Q.o.length d3) (.slice b4 Q.p.length d4)):=(KeepP.and ((KeepP.and (aH w) (bW _ _ _ _ _))) (bW _ _ _ _ _))
         have HO0:Hid (((Below w.heap.size w ((w.alloc (.cells #[.slice a1 P.d.length c1,.slice a2 P.v.length c2,.slice a3 P.o.length c3,.slice a4 P.p.length c4] 24)).alloc (.cells #[.slice b1 Q.d.length d1,.slice b2 Q.v.length d2,.slice b3 Q.o.length d3,.slice b4 Q.p.length d4] 24)))∧BxM ((w.alloc (.cells #[.slice a1 P.d.length c1,.slice a2 P.v.length c2,.slice a3 P.o.length c3,.slice a4 P.p.length c4] 24)).alloc (.cells #[.slice b1 Q.d.length d1,.slice b2 Q.v.length d2,.slice b3 Q.o.length d3,.slice b4 Q.p.length d4] 24)) w.heap.size (.slice a1 P.d.length c1) (.slice a2 P.v.length c2) (.slice a3 P.o.length c3) (.slice a4 P.p.length c4))∧BxM ((w.alloc (.cells #[.slice a1 P.d.length c1,.slice a2 P.v.length c2,.slice a3 P.o.length c3,.slice a4 P.p.length c4] 24)).alloc (.cells #[.slice b1 Q.d.length d1,.slice b2 Q.v.length d2,.slice b3 Q.o.length d3,.slice b4 Q.p.length d4] 24)) (w.heap.size+1) (.slice b1 Q.d.length d1) (.slice b2 Q.v.length d2) (.slice b3 Q.o.length d3) (.slice b4 Q.p.length d4)):=⟨⟨aN _ _ _,bW _ _ _ _ _ _ _ (BxM.new rfl _ _ _ _) (aD _ _)⟩,BxM.new (by simp) _ _ _ _⟩
         obtain ⟨p0,p1,p2,p3,p4⟩:=HO0.out.1.2;obtain ⟨q0,q1,q2,q3,q4⟩:=HO0.out.2
         go_enter Tryz.func20,Tryz.ntmps20
         go_wp2_with (first
          |(have _h:=HO0;go_at_call 60;refine (H1.out _ (HO0.out.1.1)).mono ?_;rintro e y1 ⟨rfl,ok⟩;have HO1:Hid (((Below w.heap.size w y1)∧BxM y1 w.heap.size (.slice a1 P.d.length c1) (.slice a2 P.v.length c2) (.slice a3 P.o.length c3) (.slice a4 P.p.length c4))∧BxM y1 (w.heap.size+1) (.slice b1 Q.d.length d1) (.slice b2 Q.v.length d2) (.slice b3 Q.o.length d3) (.slice b4 Q.p.length d4)):=HK0.out _ _ HO0.out ok;clear ok HO0 p0 p1 p2 p3 p4 q0 q1 q2 q3 q4;obtain ⟨p0,p1,p2,p3,p4⟩:=HO1.out.1.2;obtain ⟨q0,q1,q2,q3,q4⟩:=HO1.out.2)
          |(have _h:=HO1;go_at_call 60;refine (H2.out _ (HO1.out.1.1)).mono ?_;rintro e y2 ⟨rfl,ok⟩;have HO2:Hid (((Below w.heap.size w y2)∧BxM y2 w.heap.size (.slice a1 P.d.length c1) (.slice a2 P.v.length c2) (.slice a3 P.o.length c3) (.slice a4 P.p.length c4))∧BxM y2 (w.heap.size+1) (.slice b1 Q.d.length d1) (.slice b2 Q.v.length d2) (.slice b3 Q.o.length d3) (.slice b4 Q.p.length d4)):=HK0.out _ _ HO1.out ok;clear ok HO1 p0 p1 p2 p3 p4 q0 q1 q2 q3 q4;obtain ⟨p0,p1,p2,p3,p4⟩:=HO2.out.1.2;obtain ⟨q0,q1,q2,q3,q4⟩:=HO2.out.2)
          |(have _h:=HO2;go_at_call 60;refine (H3.out _ (HO2.out.1.1)).mono ?_;rintro e y3 ⟨rfl,ok⟩;have HO3:Hid (((Below w.heap.size w y3)∧BxM y3 w.heap.size (.slice a1 P.d.length c1) (.slice a2 P.v.length c2) (.slice a3 P.o.length c3) (.slice a4 P.p.length c4))∧BxM y3 (w.heap.size+1) (.slice b1 Q.d.length d1) (.slice b2 Q.v.length d2) (.slice b3 Q.o.length d3) (.slice b4 Q.p.length d4)):=HK0.out _ _ HO2.out ok;clear ok HO2 p0 p1 p2 p3 p4 q0 q1 q2 q3 q4;obtain ⟨p0,p1,p2,p3,p4⟩:=HO3.out.1.2;obtain ⟨q0,q1,q2,q3,q4⟩:=HO3.out.2)
          |(have _h:=HO3;go_at_call 60;refine (H4.out _ (HO3.out.1.1)).mono ?_;rintro e y4 ⟨rfl,ok⟩;have HO4:Hid (((Below w.heap.size w y4)∧BxM y4 w.heap.size (.slice a1 P.d.length c1) (.slice a2 P.v.length c2) (.slice a3 P.o.length c3) (.slice a4 P.p.length c4))∧BxM y4 (w.heap.size+1) (.slice b1 Q.d.length d1) (.slice b2 Q.v.length d2) (.slice b3 Q.o.length d3) (.slice b4 Q.p.length d4)):=HK0.out _ _ HO3.out ok;clear ok HO3 p0 p1 p2 p3 p4 q0 q1 q2 q3 q4;obtain ⟨p0,p1,p2,p3,p4⟩:=HO4.out.1.2;obtain ⟨q0,q1,q2,q3,q4⟩:=HO4.out.2))
         go_ret;exact ⟨aC HR.out.symm,HO4.out.1.1⟩
def jnT (ws:List Sc.Bs):ByteArray:=⟨(Lib.join ws [32]).toArray⟩
def OB (q:Option ByteArray) (n:ByteArray) (ws:List Sc.Bs):Int:=if cV q n=true then (if SE (sM (jnT ws))=0∧bT ((LF (sM (jnT ws))).map spR)=true then 0 else 21) else 23
def sS:List Sc.Bs→Sc.Bs→Int
 |[],_=> -1
 |x::X,s=>if s=x then 0 else if sS X s= -1 then -1 else sS X s+1
def DE (ln:List Sc.Bs):Dp:=⟨Sc.ba (ln.getD 1 []),(LF (sM (jnT (ln.drop 2)))).map spR⟩
def eA (X:List Sc.Bs):Nat→List (List Dp)→List (List Sc.Bs)→Int×List (List Dp)
 |_,acc,[]=>(0,acc)
 |a,acc,ln::r=>
  if ln.length<3 then (22,[]) else
  if sS X (ln.getD 0 [])<(a:Int) then (22,[]) else
  if OB (dZ (acc.getD (sS X (ln.getD 0 [])).toNat [])) (Sc.ba (ln.getD 1 [])) (ln.drop 2)=0 then
   eA X (sS X (ln.getD 0 [])).toNat (acc.set (sS X (ln.getD 0 [])).toNat (acc.getD (sS X (ln.getD 0 [])).toNat []++[DE ln])) r
  else (OB (dZ (acc.getD (sS X (ln.getD 0 [])).toNat [])) (Sc.ba (ln.getD 1 [])) (ln.drop 2),[])
theorem DF {X:List Sc.Bs} {a:Nat} {acc:List (List Dp)} {ln:List Sc.Bs} {r:List (List Sc.Bs)} {k:Nat} (h:¬ ln.length<3) (h2:sS X (ln.getD 0 [])=(k:Int)) (h3:a≤k) (h4:OB (dZ (acc.getD k [])) (Sc.ba (ln.getD 1 [])) (ln.drop 2)=0):eA X a acc (ln::r)=eA X k (acc.set k (acc.getD k []++[DE ln])) r:=by
 conv=>lhs;unfold eA
 rw [if_neg h,h2,if_neg (by omega),Int.toNat_natCast,if_pos h4]
end Go.Proofs.YtlmpiohbmlddiaaGreatDoor
