/- Mf3, Im11, Im12, Im13, Pk9, Pk10, Rd1, Rd2: their declarations that are needed, laid in one text, remarks and blanks left out. -/
import Derived.Deep.RegionLaw
import Derived.Test.YtmnhnofnlcbliaaGreatDoorMg20
namespace Go.Proofs.YtmnhnofnlcbliaaGreatDoor
open Go.RowKit
set_option maxRecDepth 100000
theorem iT {A B:List Dp} {u v:Value} {w:World} (x y:ByteArray) (hu:DepsAt w u A) (hv:DepsAt w v B) (hsz:A.length≤9223372036854775807):
 Calls Tryz.prog 121 #[.agg #[.string x,u],.agg #[.string y,v]] w fun e w'=>e= .returned (.bool (eqB A B))∧Below w.heap.size w w':=by
 have HE:Hid (∀ w1,Below w.heap.size w w1→Calls Tryz.prog 165 #[u,v] w1 fun x w'=>x= .returned (.bool (eqB A B))∧Below w1.heap.size w1 w'):=fun w1 h=>nF (hu.below h) (hv.below h) hsz
 obtain ⟨ad,ca,rfl⟩:=hu.sl;obtain ⟨bd,cb,rfl⟩:=hv.sl;clear hu hv hsz
 go_enter Tryz.func121,Tryz.ntmps121
 go_wp2_with (go_at_call 165;refine (HE.out _ (aS _ _ _)).mono ?_;rintro x w1 ⟨rfl,ok⟩)
 go_ret;exact ⟨rfl,aA (aS _ _ _) ok⟩
theorem Bz {P Q:Mn}:eqB P Q=(eqB P.d Q.d&&(eqB P.v Q.v&&(eqB P.o Q.o&&eqB P.p Q.p))):=by
 refine BS ?_;obtain ⟨d,v,o,p⟩:=P;obtain ⟨d',v',o',p'⟩:=Q;simp only [Bool.and_eq_true,eW,Mn.mk.injEq]
set_option maxHeartbeats 6400000 in
theorem CV {P Q:Mn} {ga gb:Nat} {w:World} {a1 a2 a3 a4:Option Addr} {ac1 ac2 ac3 ac4:Nat} {b1 b2 b3 b4:Option Addr} {bc1 bc2 bc3 bc4:Nat} (hp:MnAt w P (.slice a1 P.d.length ac1) (.slice a2 P.v.length ac2) (.slice a3 P.o.length ac3) (.slice a4 P.p.length ac4)) (hq:MnAt w Q (.slice b1 Q.d.length bc1) (.slice b2 Q.v.length bc2) (.slice b3 Q.o.length bc3) (.slice b4 Q.p.length bc4)) (ha:w.heap[ga]? =some (bM (.slice a1 P.d.length ac1) (.slice a2 P.v.length ac2) (.slice a3 P.o.length ac3) (.slice a4 P.p.length ac4))) (hb:w.heap[gb]? =some (bM (.slice b1 Q.d.length bc1) (.slice b2 Q.v.length bc2) (.slice b3 Q.o.length bc3) (.slice b4 Q.p.length bc4))) (hz:P.d.length≤9223372036854775807∧P.v.length≤9223372036854775807∧P.o.length≤9223372036854775807∧P.p.length≤9223372036854775807):
 Calls Tryz.prog 119 #[.slice (some ⟨ga,0,none⟩) 4 4,.slice (some ⟨gb,0,none⟩) 4 4,.func (.func 121) #[] #[]] w fun e w'=>e= .returned (.bool (eqB P Q))∧Below w.heap.size w w':=by
 have HC1:Hid (∀ w1,Below w.heap.size w w1→Calls Tryz.prog 121 #[.agg #[.string ⟨#[110,101,101,100,115]⟩,.slice a1 P.d.length ac1],.agg #[.string ⟨#[110,101,101,100,115]⟩,.slice b1 Q.d.length bc1]] w1 fun e w'=>e= .returned (.bool (eqB P.d Q.d))∧Below w1.heap.size w1 w'):=fun w1 h=>iT _ _ (hp.1.below h) (hq.1.below h) hz.1
 have HC2:Hid (∀ w1,Below w.heap.size w w1→Calls Tryz.prog 121 #[.agg #[.string ⟨#[100,101,118]⟩,.slice a2 P.v.length ac2],.agg #[.string ⟨#[100,101,118]⟩,.slice b2 Q.v.length bc2]] w1 fun e w'=>e= .returned (.bool (eqB P.v Q.v))∧Below w1.heap.size w1 w'):=fun w1 h=>iT _ _ (hp.2.1.below h) (hq.2.1.below h) hz.2.1
 have HC3:Hid (∀ w1,Below w.heap.size w w1→Calls Tryz.prog 121 #[.agg #[.string ⟨#[108,105,107,101,115]⟩,.slice a3 P.o.length ac3],.agg #[.string ⟨#[108,105,107,101,115]⟩,.slice b3 Q.o.length bc3]] w1 fun e w'=>e= .returned (.bool (eqB P.o Q.o))∧Below w1.heap.size w1 w'):=fun w1 h=>iT _ _ (hp.2.2.1.below h) (hq.2.2.1.below h) hz.2.2.1
 have HC4:Hid (∀ w1,Below w.heap.size w w1→Calls Tryz.prog 121 #[.agg #[.string ⟨#[112,105,110,115]⟩,.slice a4 P.p.length ac4],.agg #[.string ⟨#[112,105,110,115]⟩,.slice b4 Q.p.length bc4]] w1 fun e w'=>e= .returned (.bool (eqB P.p Q.p))∧Below w1.heap.size w1 w'):=fun w1 h=>iT _ _ (hp.2.2.2.below h) (hq.2.2.2.below h) hz.2.2.2
 have HA:Hid (∀ w1,Below w.heap.size w w1→w1.heap[ga]? =some (bM (.slice a1 P.d.length ac1) (.slice a2 P.v.length ac2) (.slice a3 P.o.length ac3) (.slice a4 P.p.length ac4))):=fun w1 h=>(h.block ga (Array.getElem?_eq_some_iff.1 ha).1).trans ha
 have HB:Hid (∀ w1,Below w.heap.size w w1→w1.heap[gb]? =some (bM (.slice b1 Q.d.length bc1) (.slice b2 Q.v.length bc2) (.slice b3 Q.o.length bc3) (.slice b4 Q.p.length bc4))):=fun w1 h=>(h.block gb (Array.getElem?_eq_some_iff.1 hb).1).trans hb
 have HE:=aB (Bz (P:=P) (Q:=Q));clear hp hq ha hb hz;generalize eqB P Q=EE at*;generalize eqB P.d Q.d=x1 at*;generalize eqB P.v Q.v=x2 at*;generalize eqB P.o Q.o=x3 at*;generalize eqB P.p Q.p=x4 at*
 go_enter Tryz.func119,Tryz.ntmps119
 go_wp2_with fail
 go_loopw [17] (fun i wr=>∃ k:Nat,k≤4∧i= .int .i64 k∧Below w.heap.size w wr∧(1≤k→x1=true)∧(2≤k→x2=true)∧(3≤k→x3=true)∧(4≤k→x4=true)) (fun i _=>4 - (intOf i).toNat)
 case atStart=>exact ⟨0,Nat.zero_le _,rfl,Below.refl _ _,(fun h=>by omega),(fun h=>by omega),(fun h=>by omega),(fun h=>by omega)⟩
 case round=>
  obtain ⟨k,hk,rfl,hbw,e1,e2,e3,e4⟩:=hrel;have HBW:=aB hbw
  rcases (show k=0∨k=1∨k=2∨k=3∨k=4 by omega) with rfl|rfl|rfl|rfl|rfl
  · have q0:wr.cell? ⟨ga,0,none⟩=some (.string ⟨#[110,101,101,100,115]⟩):=by rw [Lib.cell_of_heap (HA.out wr hbw)];rfl
    have q1:wr.cell? ⟨ga,1,none⟩=some (.slice a1 P.d.length ac1):=by rw [Lib.cell_of_heap (HA.out wr hbw)];rfl
    have r0:(wr.alloc (.cells #[.string ⟨#[110,101,101,100,115]⟩,.slice a1 P.d.length ac1] 180)).cell? ⟨gb,0,none⟩=some (.string ⟨#[110,101,101,100,115]⟩):=by rw [Lib.cell_of_heap (HB.out _ (aA hbw (aC _ _)))];rfl
    have r1:(wr.alloc (.cells #[.string ⟨#[110,101,101,100,115]⟩,.slice a1 P.d.length ac1] 180)).cell? ⟨gb,1,none⟩=some (.slice b1 Q.d.length bc1):=by rw [Lib.cell_of_heap (HB.out _ (aA hbw (aC _ _)))];rfl
    clear hbw e1 e2 e3 e4;cases x1
    · have HR:Hid (EE=false):=by unfold Hid;rw [HE.out];simp
      go_wp2_with (go_at_call 121;refine (HC1.out _ (aA HBW.out (aS _ _ _))).mono ?_;rintro x w1 ⟨rfl,ok⟩;have HO1:=aB (aA (aA HBW.out (aS _ _ _)) ok);clear ok)
      go_ret;exact ⟨aD HR.out.symm,HO1.out⟩
    · go_wp2_with (go_at_call 121;refine (HC1.out _ (aA HBW.out (aS _ _ _))).mono ?_;rintro x w1 ⟨rfl,ok⟩;have HO1:=aB (aA (aA HBW.out (aS _ _ _)) ok);clear ok)
      exact ⟨⟨1,by omega,rfl,HO1.out,(fun _=>trivial),(fun h=>by omega),(fun h=>by omega),(fun h=>by omega)⟩,by simp [intOf]⟩
  · have e1':=e1 (by omega)
    subst e1';have q0:wr.cell? ⟨ga,2,none⟩=some (.string ⟨#[100,101,118]⟩):=by rw [Lib.cell_of_heap (HA.out wr hbw)];rfl
    have q1:wr.cell? ⟨ga,3,none⟩=some (.slice a2 P.v.length ac2):=by rw [Lib.cell_of_heap (HA.out wr hbw)];rfl
    have r0:(wr.alloc (.cells #[.string ⟨#[100,101,118]⟩,.slice a2 P.v.length ac2] 180)).cell? ⟨gb,2,none⟩=some (.string ⟨#[100,101,118]⟩):=by rw [Lib.cell_of_heap (HB.out _ (aA hbw (aC _ _)))];rfl
    have r1:(wr.alloc (.cells #[.string ⟨#[100,101,118]⟩,.slice a2 P.v.length ac2] 180)).cell? ⟨gb,3,none⟩=some (.slice b2 Q.v.length bc2):=by rw [Lib.cell_of_heap (HB.out _ (aA hbw (aC _ _)))];rfl
    clear hbw e1 e2 e3 e4;cases x2
    · have HR:Hid (EE=false):=by unfold Hid;rw [HE.out];simp
      go_wp2_with (go_at_call 121;refine (HC2.out _ (aA HBW.out (aS _ _ _))).mono ?_;rintro x w1 ⟨rfl,ok⟩;have HO1:=aB (aA (aA HBW.out (aS _ _ _)) ok);clear ok)
      go_ret;exact ⟨aD HR.out.symm,HO1.out⟩
    · go_wp2_with (go_at_call 121;refine (HC2.out _ (aA HBW.out (aS _ _ _))).mono ?_;rintro x w1 ⟨rfl,ok⟩;have HO1:=aB (aA (aA HBW.out (aS _ _ _)) ok);clear ok)
      exact ⟨⟨2,by omega,rfl,HO1.out,(fun _=>trivial),(fun _=>trivial),(fun h=>by omega),(fun h=>by omega)⟩,by simp [intOf]⟩
  · have e1':=e1 (by omega)
    have e2':=e2 (by omega);subst e1' e2';have q0:wr.cell? ⟨ga,4,none⟩=some (.string ⟨#[108,105,107,101,115]⟩):=by rw [Lib.cell_of_heap (HA.out wr hbw)];rfl
    have q1:wr.cell? ⟨ga,5,none⟩=some (.slice a3 P.o.length ac3):=by rw [Lib.cell_of_heap (HA.out wr hbw)];rfl
    have r0:(wr.alloc (.cells #[.string ⟨#[108,105,107,101,115]⟩,.slice a3 P.o.length ac3] 180)).cell? ⟨gb,4,none⟩=some (.string ⟨#[108,105,107,101,115]⟩):=by rw [Lib.cell_of_heap (HB.out _ (aA hbw (aC _ _)))];rfl
    have r1:(wr.alloc (.cells #[.string ⟨#[108,105,107,101,115]⟩,.slice a3 P.o.length ac3] 180)).cell? ⟨gb,5,none⟩=some (.slice b3 Q.o.length bc3):=by rw [Lib.cell_of_heap (HB.out _ (aA hbw (aC _ _)))];rfl
    clear hbw e1 e2 e3 e4;cases x3
    · have HR:Hid (EE=false):=by unfold Hid;rw [HE.out];simp
      go_wp2_with (go_at_call 121;refine (HC3.out _ (aA HBW.out (aS _ _ _))).mono ?_;rintro x w1 ⟨rfl,ok⟩;have HO1:=aB (aA (aA HBW.out (aS _ _ _)) ok);clear ok)
      go_ret;exact ⟨aD HR.out.symm,HO1.out⟩
    · go_wp2_with (go_at_call 121;refine (HC3.out _ (aA HBW.out (aS _ _ _))).mono ?_;rintro x w1 ⟨rfl,ok⟩;have HO1:=aB (aA (aA HBW.out (aS _ _ _)) ok);clear ok)
      exact ⟨⟨3,by omega,rfl,HO1.out,(fun _=>trivial),(fun _=>trivial),(fun _=>trivial),(fun h=>by omega)⟩,by simp [intOf]⟩
  · have e1':=e1 (by omega)
    have e2':=e2 (by omega);have e3':=e3 (by omega);subst e1' e2' e3';have q0:wr.cell? ⟨ga,6,none⟩=some (.string ⟨#[112,105,110,115]⟩):=by rw [Lib.cell_of_heap (HA.out wr hbw)];rfl
    have q1:wr.cell? ⟨ga,7,none⟩=some (.slice a4 P.p.length ac4):=by rw [Lib.cell_of_heap (HA.out wr hbw)];rfl
    have r0:(wr.alloc (.cells #[.string ⟨#[112,105,110,115]⟩,.slice a4 P.p.length ac4] 180)).cell? ⟨gb,6,none⟩=some (.string ⟨#[112,105,110,115]⟩):=by rw [Lib.cell_of_heap (HB.out _ (aA hbw (aC _ _)))];rfl
    have r1:(wr.alloc (.cells #[.string ⟨#[112,105,110,115]⟩,.slice a4 P.p.length ac4] 180)).cell? ⟨gb,7,none⟩=some (.slice b4 Q.p.length bc4):=by rw [Lib.cell_of_heap (HB.out _ (aA hbw (aC _ _)))];rfl
    clear hbw e1 e2 e3 e4;cases x4
    · have HR:Hid (EE=false):=by unfold Hid;rw [HE.out];simp
      go_wp2_with (go_at_call 121;refine (HC4.out _ (aA HBW.out (aS _ _ _))).mono ?_;rintro x w1 ⟨rfl,ok⟩;have HO1:=aB (aA (aA HBW.out (aS _ _ _)) ok);clear ok)
      go_ret;exact ⟨aD HR.out.symm,HO1.out⟩
    · go_wp2_with (go_at_call 121;refine (HC4.out _ (aA HBW.out (aS _ _ _))).mono ?_;rintro x w1 ⟨rfl,ok⟩;have HO1:=aB (aA (aA HBW.out (aS _ _ _)) ok);clear ok)
      exact ⟨⟨4,by omega,rfl,HO1.out,(fun _=>trivial),(fun _=>trivial),(fun _=>trivial),(fun _=>trivial)⟩,by simp [intOf]⟩
  · have e1':=e1 (by omega)
    have e2':=e2 (by omega);have e3':=e3 (by omega);have e4':=e4 (by omega);subst e1' e2' e3' e4';have HR:Hid (EE=true):=by unfold Hid;rw [HE.out];rfl
    clear hbw e1 e2 e3 e4
    go_wp2
    go_ret;exact ⟨aD HR.out.symm,HBW.out⟩
set_option maxHeartbeats 3200000 in
theorem TX {P Q:Mn} {v1 v2 v3 v4 u1 u2 u3 u4:Value} {w:World} (hp:MnAt w P v1 v2 v3 v4) (hq:MnAt w Q u1 u2 u3 u4) (hz:P.d.length≤9223372036854775807∧P.v.length≤9223372036854775807∧P.o.length≤9223372036854775807∧P.p.length≤9223372036854775807):
 Calls Tryz.prog 68 #[.agg #[v1,v2,v3,v4],.agg #[u1,u2,u3,u4]] w fun e w'=>e= .returned (.bool (eqB P Q))∧Below w.heap.size w w':=by
 obtain ⟨a1,ac1,rfl⟩:=hp.1.sl;obtain ⟨b1,bc1,rfl⟩:=hq.1.sl;obtain ⟨a2,ac2,rfl⟩:=hp.2.1.sl;obtain ⟨b2,bc2,rfl⟩:=hq.2.1.sl;obtain ⟨a3,ac3,rfl⟩:=hp.2.2.1.sl;obtain ⟨b3,bc3,rfl⟩:=hq.2.2.1.sl;obtain ⟨a4,ac4,rfl⟩:=hp.2.2.2.sl;obtain ⟨b4,bc4,rfl⟩:=hq.2.2.2.sl;have HLA:Hid (∀ w1,Calls Tryz.prog 120 #[.agg #[.slice a1 P.d.length ac1,.slice a2 P.v.length ac2,.slice a3 P.o.length ac3,.slice a4 P.p.length ac4]] w1 fun e w'=>∃ g,e= .returned (.slice (some ⟨g,0,none⟩) 4 4)∧Below w1.heap.size w1 w'∧w1.heap.size≤g∧w'.heap[g]? =some (bM (.slice a1 P.d.length ac1) (.slice a2 P.v.length ac2) (.slice a3 P.o.length ac3) (.slice a4 P.p.length ac4))):=fun w1=>kT _ _ _ _ _ _ _ _ _ _ _ _ w1
 have HLB:Hid (∀ w1,Calls Tryz.prog 120 #[.agg #[.slice b1 Q.d.length bc1,.slice b2 Q.v.length bc2,.slice b3 Q.o.length bc3,.slice b4 Q.p.length bc4]] w1 fun e w'=>∃ g,e= .returned (.slice (some ⟨g,0,none⟩) 4 4)∧Below w1.heap.size w1 w'∧w1.heap.size≤g∧w'.heap[g]? =some (bM (.slice b1 Q.d.length bc1) (.slice b2 Q.v.length bc2) (.slice b3 Q.o.length bc3) (.slice b4 Q.p.length bc4))):=fun w1=>kT _ _ _ _ _ _ _ _ _ _ _ _ w1
 have HEQ:Hid (∀ w1 ga gb,Below w.heap.size w w1→w1.heap[ga]? =some (bM (.slice a1 P.d.length ac1) (.slice a2 P.v.length ac2) (.slice a3 P.o.length ac3) (.slice a4 P.p.length ac4))→w1.heap[gb]? =some (bM (.slice b1 Q.d.length bc1) (.slice b2 Q.v.length bc2) (.slice b3 Q.o.length bc3) (.slice b4 Q.p.length bc4))→Calls Tryz.prog 119 #[.slice (some ⟨ga,0,none⟩) 4 4,.slice (some ⟨gb,0,none⟩) 4 4,.func (.func 121) #[] #[]] w1 fun e w'=>e= .returned (.bool (eqB P Q))∧Below w1.heap.size w1 w'):=fun w1 ga gb hb h1 h2=>CV (hp.below hb) (hq.below hb) h1 h2 hz
 clear hp hq hz;generalize eqB P Q=EE at*;have HBX:Hid (BxM ((w.alloc (.cells #[.slice a1 P.d.length ac1,.slice a2 P.v.length ac2,.slice a3 P.o.length ac3,.slice a4 P.p.length ac4] 24)).alloc (.cells #[.slice b1 Q.d.length bc1,.slice b2 Q.v.length bc2,.slice b3 Q.o.length bc3,.slice b4 Q.p.length bc4] 24)) w.heap.size (.slice a1 P.d.length ac1) (.slice a2 P.v.length ac2) (.slice a3 P.o.length ac3) (.slice a4 P.p.length ac4)∧BxM ((w.alloc (.cells #[.slice a1 P.d.length ac1,.slice a2 P.v.length ac2,.slice a3 P.o.length ac3,.slice a4 P.p.length ac4] 24)).alloc (.cells #[.slice b1 Q.d.length bc1,.slice b2 Q.v.length bc2,.slice b3 Q.o.length bc3,.slice b4 Q.p.length bc4] 24)) (w.heap.size+1) (.slice b1 Q.d.length bc1) (.slice b2 Q.v.length bc2) (.slice b3 Q.o.length bc3) (.slice b4 Q.p.length bc4)):=⟨jU _ _ _ _ _ _ _ (BxM.new rfl _ _ _ _) (aC _ _),BxM.new (by simp) _ _ _ _⟩
 have HKB:Hid (KeepP fun w1=>BxM w1 w.heap.size (.slice a1 P.d.length ac1) (.slice a2 P.v.length ac2) (.slice a3 P.o.length ac3) (.slice a4 P.p.length ac4)∧BxM w1 (w.heap.size+1) (.slice b1 Q.d.length bc1) (.slice b2 Q.v.length bc2) (.slice b3 Q.o.length bc3) (.slice b4 Q.p.length bc4)):=(jU _ _ _ _ _).and (jU _ _ _ _ _);obtain ⟨⟨k0,k1,k2,k3,k4⟩,⟨m0,m1,m2,m3,m4⟩⟩:=HBX.out;have t1:True:=trivial
 go_enter Tryz.func68,Tryz.ntmps68
 go_wp2_with fail
 go_region_held3 (fun w'=>(w'.cell? ⟨w.heap.size,0,none⟩=some (.slice a1 P.d.length ac1)∧w'.cell? ⟨w.heap.size,1,none⟩=some (.slice a2 P.v.length ac2)∧w'.cell? ⟨w.heap.size,2,none⟩=some (.slice a3 P.o.length ac3)∧w'.cell? ⟨w.heap.size,3,none⟩=some (.slice a4 P.p.length ac4))∧w'.cell? ⟨w.heap.size+1,0,none⟩=some (.slice b1 Q.d.length bc1)∧w'.cell? ⟨w.heap.size+1,1,none⟩=some (.slice b2 Q.v.length bc2)∧w'.cell? ⟨w.heap.size+1,2,none⟩=some (.slice b3 Q.o.length bc3)∧w'.cell? ⟨w.heap.size+1,3,none⟩=some (.slice b4 Q.p.length bc4)) (go_keep)
  (first
    |(have _t:=t1;go_at_call 120;refine (HLA.out _).mono ?_;rintro e w2 ⟨ga,rfl,ok,hg,hgl⟩;have HO2:Hid ((Below w.heap.size w w2∧w2.heap[ga]? =some (bM (.slice a1 P.d.length ac1) (.slice a2 P.v.length ac2) (.slice a3 P.o.length ac3) (.slice a4 P.p.length ac4)))∧(BxM w2 w.heap.size (.slice a1 P.d.length ac1) (.slice a2 P.v.length ac2) (.slice a3 P.o.length ac3) (.slice a4 P.p.length ac4)∧BxM w2 (w.heap.size+1) (.slice b1 Q.d.length bc1) (.slice b2 Q.v.length bc2) (.slice b3 Q.o.length bc3) (.slice b4 Q.p.length bc4))):=⟨⟨aA (aA (aS _ _ _) (Below.refl _ _).drew) ok,hgl⟩,HKB.out _ _ (HKB.out.drew HBX.out) ok⟩;clear ok hg hgl t1 k0 k1 k2 k3 k4 m0 m1 m2 m3 m4;obtain ⟨⟨k0,k1,k2,k3,k4⟩,⟨m0,m1,m2,m3,m4⟩⟩:=HO2.out.2)
    |(go_at_call 120;refine (HLB.out _).mono ?_;rintro e w3 ⟨gb,rfl,ok,hg,hgl⟩;have HO3:Hid ((Below w.heap.size w w3∧w3.heap[ga]? =some (bM (.slice a1 P.d.length ac1) (.slice a2 P.v.length ac2) (.slice a3 P.o.length ac3) (.slice a4 P.p.length ac4))∧w3.heap[gb]? =some (bM (.slice b1 Q.d.length bc1) (.slice b2 Q.v.length bc2) (.slice b3 Q.o.length bc3) (.slice b4 Q.p.length bc4)))∧(BxM w3 w.heap.size (.slice a1 P.d.length ac1) (.slice a2 P.v.length ac2) (.slice a3 P.o.length ac3) (.slice a4 P.p.length ac4)∧BxM w3 (w.heap.size+1) (.slice b1 Q.d.length bc1) (.slice b2 Q.v.length bc2) (.slice b3 Q.o.length bc3) (.slice b4 Q.p.length bc4))):=⟨⟨aA HO2.out.1.1 ok,(ok.block ga (Array.getElem?_eq_some_iff.1 HO2.out.1.2).1).trans HO2.out.1.2,hgl⟩,HKB.out _ _ HO2.out.2 ok⟩;clear ok hg hgl k0 k1 k2 k3 k4 m0 m1 m2 m3 m4;obtain ⟨⟨k0,k1,k2,k3,k4⟩,⟨m0,m1,m2,m3,m4⟩⟩:=HO3.out.2)
    |(go_at_call 119;refine (HEQ.out _ ga gb HO3.out.1.1 HO3.out.1.2.1 HO3.out.1.2.2).mono ?_;rintro e w4 ⟨rfl,ok⟩;have HO4:Hid (Below w.heap.size w w4∧(BxM w4 w.heap.size (.slice a1 P.d.length ac1) (.slice a2 P.v.length ac2) (.slice a3 P.o.length ac3) (.slice a4 P.p.length ac4)∧BxM w4 (w.heap.size+1) (.slice b1 Q.d.length bc1) (.slice b2 Q.v.length bc2) (.slice b3 Q.o.length bc3) (.slice b4 Q.p.length bc4))):=⟨aA HO3.out.1.1 ok,HKB.out _ _ HO3.out.2 ok⟩;clear ok k0 k1 k2 k3 k4 m0 m1 m2 m3 m4;obtain ⟨⟨k0,k1,k2,k3,k4⟩,⟨m0,m1,m2,m3,m4⟩⟩:=HO4.out.2))
 go_wp2
 go_ret;exact ⟨rfl,HO4.out.1⟩
def lA:Mn:=⟨[],[],[],[]⟩
noncomputable def fM (P:Mn) (G:List Nd) (L:List Dr) (pr:Bool):Bool:=eqB P lA&&(((G.length:Int)==1)&&(((L.length:Int)==1)&& !pr))
theorem Cb (w:World):MnAt w lA (.slice none 0 0) (.slice none 0 0) (.slice none 0 0) (.slice none 0 0):=by
 have h:DepsAt w (.slice none 0 0) []:=⟨none,0,rfl,Nat.le_refl _,Or.inl rfl⟩;exact ⟨h,h,h,h⟩
set_option maxHeartbeats 3200000 in
theorem IK {P:Mn} {G:List Nd} {L:List Dr} {x1 x2 x3 x4:Value} {ag atr:Option Addr} {cg ct:Nat} {pr:Bool} {w:World} (hm:MnAt w P x1 x2 x3 x4) (hz:P.d.length≤9223372036854775807∧P.v.length≤9223372036854775807∧P.o.length≤9223372036854775807∧P.p.length≤9223372036854775807):
 Calls Tryz.prog 22 #[.agg #[x1,x2,x3,x4,.slice ag G.length cg,.slice atr L.length ct,.bool pr]] w fun e w'=>e= .returned (.bool (fM P G L pr))∧Below w.heap.size w w':=by
 have HS:Hid (∀ W,Below w.heap.size w W→Calls Tryz.prog 68 #[.agg #[x1,x2,x3,x4],.agg #[.slice none 0 0,.slice none 0 0,.slice none 0 0,.slice none 0 0]] W fun e w'=>e= .returned (.bool (eqB P lA))∧Below W.heap.size W w'):=fun W hb=>TX (hm.below hb) (Cb W) hz
 obtain ⟨a1,c1,rfl⟩:=hm.1.sl;obtain ⟨a2,c2,rfl⟩:=hm.2.1.sl;obtain ⟨a3,c3,rfl⟩:=hm.2.2.1.sl;obtain ⟨a4,c4,rfl⟩:=hm.2.2.2.sl;have HS0:=aB (StB.new w (.slice a1 P.d.length c1) (.slice a2 P.v.length c2) (.slice a3 P.o.length c3) (.slice a4 P.p.length c4) (.slice ag G.length cg) (.slice atr L.length ct) pr);have HB0:Hid (Below w.heap.size w (w.alloc (stO (.slice a1 P.d.length c1) (.slice a2 P.v.length c2) (.slice a3 P.o.length c3) (.slice a4 P.p.length c4) (.slice ag G.length cg) (.slice atr L.length ct) pr))):=aC _ _;obtain ⟨⟨⟨s0,s1,s2,s3⟩,s4,s5,s6⟩,sl⟩:=HS0.out;clear sl hm hz;unfold fM;generalize eqB P lA=b1 at*;cases hg:((G.length:Int)==1)<;>cases hl:((L.length:Int)==1)<;>cases b1
 all_goals
  go_enter Tryz.func22,Tryz.ntmps22
  go_wp2_with (go_at_call 68;refine (HS.out _ HB0.out).mono ?_;rintro e W1 ⟨rfl,ok⟩;have HB1:=aB (aA HB0.out ok);clear s0 s1 s2 s3 s4 s5 s6;obtain ⟨⟨⟨s0,s1,s2,s3⟩,s4,s5,s6⟩,_⟩:=HS0.out.keep ok;clear ok)
  go_ret;exact ⟨by simp,HB1.out⟩
end Go.Proofs.YtmnhnofnlcbliaaGreatDoor
namespace Go.Proofs.YtmnhnofnlcbliaaGreatDoor
open Go.RowKit Go.Maps Go.WideMaps
set_option maxRecDepth 100000
theorem YN {P:Mn} {G:List Nd} {L:List Dr} {x1 x2 x3 x4 xg:Value} {g o cap:Nat} {w:World} (pr:Bool) (hm:MnAt w P x1 x2 x3 x4) (hg:NodesAt w xg G) (ht:DirsAt w (.slice (some ⟨g,o,none⟩) L.length cap) L) (hk:TrOk L) (he:Env w) (hf:FL w):
 Calls Tryz.prog 25 #[.agg #[x1,x2,x3,x4,xg,.slice (some ⟨g,o,none⟩) L.length cap,.bool pr]] w fun e w'=>e= .returned (.map (some (w.heap.size+1)))∧LdQ w (stO x1 x2 x3 x4 xg (.slice (some ⟨g,o,none⟩) L.length cap) pr) (kY (aF P) (Lo.prT G) pr L (L.length - 1)) 1000 w':=by
 cases pr
 · exact Bv hm hg ht hk he hf
 · exact YL hm hg ht hk he hf
noncomputable def dJ (P:Mn) (G:List Nd) (L:List Dr) (pr:Bool):List Fi:=if fW P G L=true∧fM P G L pr=false then aQ (aF P) (Lo.prT G) pr L else []
noncomputable def erI (P:Mn) (G:List Nd) (L:List Dr):Int:=if fW P G L=true then 0 else 43
def OwnFi (w:World) (B:Nat) (v:Value) (fs:List Fi):Prop:=w.ownsRow B 45 3 v fs.length (fs.flatMap dY)
def TY (w:World) (fs:List Fi) (er:Int) (e:Ending) (w':World):Prop:=∃ v,e= .returned (.tuple #[v,.int .i64 er])∧OwnFi w' w.heap.size v fs∧Below w.heap.size w w'
theorem rZ {P:Mn} {G:List Nd} {L:List Dr} (h:fW P G L=true):lQ L G=0:=by
 unfold fW at h;simp only [Bool.and_eq_true,beq_iff_eq] at h;exact h.2.1
set_option maxHeartbeats 3200000 in
theorem YO {P:Mn} {G:List Nd} {L:List Dr} {x1 x2 x3 x4 xg xt:Value} {pr:Bool} {w0 W:World} (hk:TrOk L) (h:LdQ w0 (stO x1 x2 x3 x4 xg xt pr) (kY (aF P) (Lo.prT G) pr L (L.length - 1)) 1000 W):
 Calls Tryz.prog 23 #[.func (.func 72) #[] #[.pointer (some ⟨W.heap.size,0,none⟩)]] (W.alloc (.cells #[.map (some (w0.heap.size+1))] 74)) fun e w'=>∃ v,e= .returned v∧OwnFi w' W.heap.size v (aQ (aF P) (Lo.prT G) pr L)∧Below W.heap.size W w':=by
 obtain ⟨n,D,hn,ho,hD⟩:=h.own;have hall:=YK (aF P) (Lo.prT G) pr L;rw [hall] at hD
 have hlen:(((caP pr L).map (caF (aF P) (Lo.prT G))).foldl aR []).length≤1000000:=by
  have h1:=XV ((caP pr L).map (caF (aF P) (Lo.prT G))) _ (Nat.le_refl _);rw [List.take_length,List.length_map] at h1
  have h2:(caP pr L).length≤3+3*L.length:=by
   unfold caP gN;rw [List.length_append,List.length_flatMap]
   have e:((L.drop 1).map fun d=>([Ca.mod (upP d.pa),.dir d.pa,.pkg d]:List Ca).length).sum=3*(L.length - 1):=by
    have:((L.drop 1).map fun d=>([Ca.mod (upP d.pa),.dir d.pa,.pkg d]:List Ca).length)=(L.drop 1).map fun _=>3:=rfl
    rw [this,List.map_const',List.sum_replicate_nat,List.length_drop];omega
   rw [e];cases pr<;>simp<;>omega
  have:=hk.len
  omega
 have hcell:(W.alloc (.cells #[.map (some (w0.heap.size+1))] 74)).cell? ⟨W.heap.size,0,none⟩=some (.map (some (w0.heap.size+1))):=by
  rw [World.cell?_alloc_new];rfl
 have hs:=sT 72 #[.pointer (some ⟨W.heap.size,0,none⟩)] (enters_of Tryz.func72 (by kernel_rfl) rfl) (fun V=>V.Perm (((caP pr L).map (caF (aF P) (Lo.prT G))).foldl aR [])) _ hlen (fun V hV=>by have:=hV.length_eq;omega) (W.alloc (.cells #[.map (some (w0.heap.size+1))] 74)) (Ad (LT 4 (by decide) W.heap.size (w0.heap.size+1) n hD _ (by simp) hcell (ho.alloc _)));refine hs.mono ?_;rintro e w' ⟨v,V,ts,rfl,hV,⟨hp,hsr⟩,hrow,hb⟩;have hts:=hp.trans hV;have hd:ts.Pairwise fun x y=>x.pa≠y.pa:=(hts.pairwise_iff (fun q e=>q e.symm)).2 hD.dist
 have e1:=ML hk pr _ _ hts hsr hd;subst e1;refine ⟨v,rfl,?_,aA (aC _ _) hb⟩;unfold OwnFi;exact eB hrow (by simp)
theorem OwnFi.nil (w:World) (B:Nat):OwnFi w B (.slice none 0 0) []:=⟨rfl,Or.inl ⟨rfl,rfl⟩⟩
theorem OwnFi.form {w:World} {B:Nat} {v:Value} {fs:List Fi} (h:OwnFi w B v fs):∃ a c,v= .slice a fs.length c:=by
 rcases h.2 with ⟨rfl,hn⟩|⟨g,cap,cur,rfl,_⟩
 · exact ⟨none,0,by rw [hn]⟩
 · exact ⟨_,_,rfl⟩
set_option maxHeartbeats 6400000 in
theorem nK {P:Mn} {G:List Nd} {L:List Dr} {x1 x2 x3 x4 xg xt:Value} {pr:Bool} {w:World} (hm:MnAt w P x1 x2 x3 x4) (hmz:P.d.length≤9223372036854775807∧P.v.length≤9223372036854775807∧P.o.length≤9223372036854775807∧P.p.length≤9223372036854775807) (hg:NodesAt w xg G) (ht:DirsAt w xt L) (hz:L.length≤9223372036854775807) (hk:qB L) (hgz:CJ G) (hml:lQ L G=0→(fV L G).length=L.length) (he:Env w) (hf:FL w):
 Calls Tryz.prog 8 #[.agg #[x1,x2,x3,x4,xg,xt,.bool pr]] w (TY w (dJ P G L pr) (erI P G L)):=by
 obtain ⟨at0,ct0,rfl,hct,hsl⟩:=ht.sl;obtain ⟨ag,cg,rfl⟩:∃ a c,xg= .slice a G.length c:=by obtain ⟨a,c,e,_⟩:=hg;exact ⟨a,c,e⟩
 have HMY:Hid (∀ W,Below w.heap.size w W→Calls Tryz.prog 21 #[.agg #[x1,x2,x3,x4,.slice ag G.length cg,.slice at0 L.length ct0,.bool pr]] W fun e w'=>e= .returned (.bool (fW P G L))∧Below W.heap.size W w'):=fun W hb=>YM (hm.below hb) (hg.below hb) (ht.below hb) hz hk hgz hml (he.below hb) (hf.below hb)
 have HEM:Hid (∀ W,Below w.heap.size w W→Calls Tryz.prog 22 #[.agg #[x1,x2,x3,x4,.slice ag G.length cg,.slice at0 L.length ct0,.bool pr]] W fun e w'=>e= .returned (.bool (fM P G L pr))∧Below W.heap.size W w'):=fun W hb=>IK (hm.below hb) hmz
 have HLA:Hid (fW P G L=true→∃ g o,at0=some ⟨g,o,none⟩∧TrOk L):=fun h=>by
  have hk:=Bn (kZ (rZ h)).1;obtain ⟨g,o,e,_⟩:=hsl 0 hk.len.1;exact ⟨g,o,e,hk⟩
 have HLD:Hid (∀ W g o,at0=some ⟨g,o,none⟩→TrOk L→Below w.heap.size w W→Calls Tryz.prog 25 #[.agg #[x1,x2,x3,x4,.slice ag G.length cg,.slice at0 L.length ct0,.bool pr]] W fun e w'=>e= .returned (.map (some (W.heap.size+1)))∧LdQ W (stO x1 x2 x3 x4 (.slice ag G.length cg) (.slice at0 L.length ct0) pr) (kY (aF P) (Lo.prT G) pr L (L.length - 1)) 1000 w'):=fun W g o e hk hb=>by
  subst e;exact YN pr (hm.below hb) (hg.below hb) (ht.below hb) hk (he.below hb) (hf.below hb)
 have HQ:Hid (∀ v W er,erI P G L=er→OwnFi W w.heap.size v (dJ P G L pr)→Below w.heap.size w W→TY w (dJ P G L pr) (erI P G L) (.returned (.tuple #[v,.int .i64 er])) W):=fun v W er h1 h2 h3=>⟨v,by rw [h1],h2,h3⟩
 have HF0:Hid (fW P G L=false→dJ P G L pr=[]∧erI P G L=43):=fun h=>by unfold dJ erI;rw [h];simp
 have HF1:Hid (fW P G L=true→fM P G L pr=true→dJ P G L pr=[]∧erI P G L=0):=fun h h2=>by unfold dJ erI;rw [h,h2];simp
 have HF2:Hid (fW P G L=true→fM P G L pr=false→dJ P G L pr=aQ (aF P) (Lo.prT G) pr L∧erI P G L=0):=fun h h2=>by unfold dJ erI;rw [h,h2];simp
 obtain ⟨a1,c1,rfl⟩:=hm.1.sl;obtain ⟨a2,c2,rfl⟩:=hm.2.1.sl;obtain ⟨a3,c3,rfl⟩:=hm.2.2.1.sl;obtain ⟨a4,c4,rfl⟩:=hm.2.2.2.sl;have HS0:=aB (StB.new w (.slice a1 P.d.length c1) (.slice a2 P.v.length c2) (.slice a3 P.o.length c3) (.slice a4 P.p.length c4) (.slice ag G.length cg) (.slice at0 L.length ct0) pr);have HB0:Hid (Below w.heap.size w (w.alloc (stO (.slice a1 P.d.length c1) (.slice a2 P.v.length c2) (.slice a3 P.o.length c3) (.slice a4 P.p.length c4) (.slice ag G.length cg) (.slice at0 L.length ct0) pr))):=aC _ _;obtain ⟨⟨⟨s0,s1,s2,s3⟩,s4,s5,s6⟩,sl⟩:=HS0.out;clear sl hm hmz hg ht hk hgz hml he hf hsl;generalize TY w (dJ P G L pr) (erI P G L)=Q at*;cases hmy:fW P G L
 · obtain ⟨f1,f2⟩:=HF0.out hmy
   rw [hmy] at HMY;rw [f1] at HQ;have HE:=aB f2;clear HF0 HF1 HF2 HLA HLD HEM f1 f2 hmy
   go_enter Tryz.func8,Tryz.ntmps8
   go_wp2_with (go_at_call 21;refine (HMY.out _ HB0.out).mono ?_;rintro e W1 ⟨rfl,ok⟩;have HB1:=aB (aA HB0.out ok);clear ok)
   exact HQ.out _ _ _ HE.out (OwnFi.nil _ _) HB1.out
 · cases hem:fM P G L pr
   · obtain ⟨f1,f2⟩:=HF2.out hmy hem
     obtain ⟨g,o,eat,hk⟩:=HLA.out hmy;have HTK:=aB hk;have HAT:=aB eat;have HLC:=aB (fun W hb=>HLD.out W g o HAT.out HTK.out hb);rw [hmy] at HMY;rw [hem] at HEM;rw [f1] at HQ;have HE:=aB f2;clear HF0 HF1 HF2 HLA HLD f1 f2 hmy hem hk eat HAT
     go_enter Tryz.func8,Tryz.ntmps8
     go_wp2_with (first
      |(have _t:=HS0;go_at_call 21;refine (HMY.out _ HB0.out).mono ?_;rintro e W1 ⟨rfl,ok⟩;have HB1:=aB (aA HB0.out ok);have HS1:=aB (HS0.out.keep ok);clear s0 s1 s2 s3 s4 s5 s6 HS0;obtain ⟨⟨⟨s0,s1,s2,s3⟩,s4,s5,s6⟩,_⟩:=HS1.out;clear ok)
      |(have _t:=HS1;go_at_call 22;refine (HEM.out _ HB1.out).mono ?_;rintro e W2 ⟨rfl,ok⟩;have HB2:=aB (aA HB1.out ok);have HS2:=aB (HS1.out.keep ok);clear s0 s1 s2 s3 s4 s5 s6 HS1;obtain ⟨⟨⟨s0,s1,s2,s3⟩,s4,s5,s6⟩,_⟩:=HS2.out;clear ok)
      |(have _t:=HS2;go_at_call 25;refine (HLC.out _ HB2.out).mono ?_;rintro e W3 ⟨rfl,ok⟩;have HL3:=aB ok;have HB3:=aB (aA HB2.out ok.below);clear ok HS2 s0 s1 s2 s3 s4 s5 s6)
      |(have _t:=HL3;go_at_call 24;refine (GB _ _).mono ?_;rintro e W4 ⟨rfl,hw4⟩;subst hw4;have HT4:=aB (YO HTK.out HL3.out);clear HL3)
      |(have _t:=HT4;go_at_call 23;refine HT4.out.mono ?_;rintro e W5 ⟨v5,rfl,ho5,ok⟩;have HO5:Hid (OwnFi W5 w.heap.size v5 (aQ (aF P) (Lo.prT G) pr L)):=eB ho5 HB3.out.size;have HB5:=aB (aA HB3.out ok);obtain ⟨a5,c5,rfl⟩:=ho5.form;clear ok ho5 HT4))
     exact HQ.out _ _ _ HE.out HO5.out HB5.out
   · obtain ⟨f1,f2⟩:=HF1.out hmy hem
     rw [hmy] at HMY;rw [hem] at HEM;rw [f1] at HQ;have HE:=aB f2;clear HF0 HF1 HF2 HLA HLD f1 f2 hmy hem
     go_enter Tryz.func8,Tryz.ntmps8
     go_wp2_with (first
      |(have _t:=HS0;go_at_call 21;refine (HMY.out _ HB0.out).mono ?_;rintro e W1 ⟨rfl,ok⟩;have HB1:=aB (aA HB0.out ok);have HS1:=aB (HS0.out.keep ok);clear s0 s1 s2 s3 s4 s5 s6 HS0;obtain ⟨⟨⟨s0,s1,s2,s3⟩,s4,s5,s6⟩,_⟩:=HS1.out;clear ok)
      |(have _t:=HS1;go_at_call 22;refine (HEM.out _ HB1.out).mono ?_;rintro e W2 ⟨rfl,ok⟩;have HB2:=aB (aA HB1.out ok);clear ok))
     exact HQ.out _ _ _ HE.out (OwnFi.nil _ _) HB2.out
end Go.Proofs.YtmnhnofnlcbliaaGreatDoor
namespace Go.Proofs.YtmnhnofnlcbliaaGreatDoor
open Go.RowKit
set_option maxRecDepth 100000
theorem iY (l:Sc.Bs):(Sc.ba l).toList=l:=by rw [ByteArray.toList_eq];simp [Sc.ba]
def jnT (ws:List Sc.Bs):ByteArray:=⟨(Lib.join ws [32]).toArray⟩
theorem NA {w:World} {v:Value} {ws:List Sc.Bs} (h:Sc.WordsAt w v ws) (hne:ws≠[]) (hl:ws.length≤1000000) (hj:(Lib.join ws [32]).length≤1000000):
 Calls Tryz.prog 172 #[v,.string ⟨#[32]⟩] w fun e w'=>e= .returned (.string (jnT ws))∧Below w.heap.size w w':=by
 obtain ⟨ad,cap,rfl,hc,hs⟩:=h
 rcases hs with hs|⟨g,o,rfl,hg,hs⟩
 · exact (hne hs).elim
 · have e1:(ws.map Sc.ba).map (·.data.toList)=ws:=by
    rw [List.map_map]
    conv=>rhs;rw [←List.map_id ws]
    exact List.map_congr_left fun x _=>by simp [Sc.ba]
   have:=Tryz.strings_Join g o cap (ws.map Sc.ba) ⟨#[32]⟩ w (fun j x hx=>by
    rw [List.getElem?_map] at hx;cases hw:ws[j]? with
    |none=>rw [hw] at hx;cases hx
    |some y=>
     rw [hw] at hx;obtain ⟨hlt,rfl⟩:=List.getElem?_eq_some_iff.1 hw;cases hx;exact hs j hlt) hg (by rw [List.length_map];omega) (by rw [List.length_map];exact hc) (by rw [e1];show (Lib.join ws [32]).length≤_;omega)
   rw [List.length_map,e1] at this;exact this
def oU (q:Option ByteArray) (n:ByteArray) (ws:List Sc.Bs):Int:=if dD q n=true then (if EQ (iL (jnT ws))=0∧bZ ((nS (iL (jnT ws))).map spR)=true then 0 else 21) else 23
def DepQ (w:World) (n:ByteArray) (ws:List Sc.Bs) (er:Int) (e:Ending) (w':World):Prop:=∃ nm ad len cap,e= .returned (.tuple #[.agg #[.string nm,.slice ad len cap],.int .i64 er])∧Below w.heap.size w w'∧(er=0→nm=n∧OwnS w' w.heap.size (.slice ad len cap) ((nS (iL (jnT ws))).map spR))∧(er≠0→nm=⟨#[]⟩∧ad=none∧len=0∧cap=0)
def BxDF (w:World) (N:Nat) (s:ByteArray) (u:Value):Prop:=BxD w N s u∧w.frozen? ⟨N,0,none⟩=false∧w.frozen? ⟨N,1,none⟩=false
theorem wU (N:Nat) (s:ByteArray) (u:Value):KeepP fun w1=>BxDF w1 N s u:=fun _ _ h hb=>
 ⟨PA _ _ _ _ _ h.1 hb,(hb.frozen (p:=⟨N,0,none⟩) h.1.2.2).trans h.2.1,(hb.frozen (p:=⟨N,1,none⟩) h.1.2.2).trans h.2.2⟩
theorem BxDF.new {w:World} {N:Nat} (hN:w.heap.size=N) (s:ByteArray) (u:Value):BxDF (w.alloc (.cells #[.string s,u] 170)) N s u:=by
 refine ⟨BxD.new hN _ _,?_,?_⟩<;>subst hN<;>simp
theorem MW {w:World} {N:Nat} {x y:Value} (j0:w.cell? ⟨N,0,none⟩=some x) (j1:w.cell? ⟨N,1,none⟩=some y):
 (∀ u,(w.setCell ⟨N,0,none⟩ u).cell? ⟨N,0,none⟩=some u)∧(∀ u,(w.setCell ⟨N,0,none⟩ u).cell? ⟨N,1,none⟩=some y)∧(∀ u v,((w.setCell ⟨N,0,none⟩ u).setCell ⟨N,1,none⟩ v).cell? ⟨N,0,none⟩=some u)∧(∀ u v,((w.setCell ⟨N,0,none⟩ u).setCell ⟨N,1,none⟩ v).cell? ⟨N,1,none⟩=some v):=by
 have k1:∀ u,(w.setCell ⟨N,0,none⟩ u).cell? ⟨N,1,none⟩=some y:=fun u=>(World.cell?_setCell_other _ _ _ _ (by simp)).trans j1
 have k0:∀ u,(w.setCell ⟨N,0,none⟩ u).cell? ⟨N,0,none⟩=some u:=fun u=>World.cell?_setCell_same _ _ _ j0
 exact ⟨k0,k1,fun u v=>(World.cell?_setCell_other _ _ _ _ (by simp)).trans (k0 u),fun u v=>World.cell?_setCell_same _ _ _ (k1 u)⟩
theorem fL {w w':World} {N B:Nat} {x y:Value} (hN:B≤N) (h:Below B w w'):Below B w ((w'.setCell ⟨N,0,none⟩ x).setCell ⟨N,1,none⟩ y):=(h.setCell (p:=⟨N,0,none⟩) hN _).setCell (p:=⟨N,1,none⟩) hN _
theorem DepQ.err {w w':World} {n:ByteArray} {ws:List Sc.Bs} {er:Int} (h:er≠0) (hb:Below w.heap.size w w'):DepQ w n ws er (.returned (.tuple #[.agg #[.string ⟨#[]⟩,.slice none 0 0],.int .i64 er])) w':=⟨⟨#[]⟩,none,0,0,rfl,hb,fun e=>absurd e h,fun _=>⟨rfl,rfl,rfl,rfl⟩⟩
theorem DepQ.ok {w w':World} {n:ByteArray} {ws:List Sc.Bs} {ad:Option Addr} {len cap:Nat} (hb:Below w.heap.size w w') (h:OwnS w' w.heap.size (.slice ad len cap) ((nS (iL (jnT ws))).map spR)):DepQ w n ws 0 (.returned (.tuple #[.agg #[.string n,.slice ad len cap],.int .i64 0])) w':=⟨n,ad,len,cap,rfl,hb,fun _=>⟨rfl,h⟩,fun e=>absurd rfl e⟩
set_option maxHeartbeats 1000000 in
theorem IL {n:ByteArray} {vw va:Value} {ws:List Sc.Bs} {A:List Dp} {w:World} (hw:Sc.WordsAt w vw ws) (hne:ws≠[]) (hl:ws.length≤1000000) (hj:(Lib.join ws [32]).length≤1000000) (ha:DepsAt w va A) (hal:A.length≤1000000000000) (he:Env w) (hf:FL w):
 Calls Tryz.prog 224 #[.string n,vw,va] w (DepQ w n ws (oU (cU A) n ws)):=by
 have HFO:Hid (∀ w1,Below w.heap.size w w1→Calls Tryz.prog 239 #[va,.string n] w1 fun e w'=>e= .returned (.bool (dD (cU A) n))∧w'=w1):=fun w1 hb=>nY (ha.below hb) hal n
 have HJO:Hid (∀ w1,Below w.heap.size w w1→Calls Tryz.prog 172 #[vw,.string ⟨#[32]⟩] w1 fun e w'=>e= .returned (.string (jnT ws))∧Below w1.heap.size w1 w'):=fun w1 hb=>NA (hw.below hb) hne hl hj
 have HPA:Hid (∀ w1,Below w.heap.size w w1→Calls Tryz.prog 252 #[.string (jnT ws)] w1 fun e w'=>∃ v,e= .returned (.tuple #[v,.int .i64 (EQ (iL (jnT ws)))])∧OwnS w' w1.heap.size v ((nS (iL (jnT ws))).map spR)∧Below w1.heap.size w1 w'):=fun w1 hb=>LJ _ w1 (he.below hb) (hf.below hb)
 have HRA:Hid (∀ w1 B v,OwnS w1 B v ((nS (iL (jnT ws))).map spR)→Calls Tryz.prog 240 #[v] w1 fun e w'=>e= .returned (.bool (bZ ((nS (iL (jnT ws))).map spR)))∧Below w1.heap.size w1 w'):=fun w1 B v h=>pW h.spans.at
 have HB0:Hid (BxDF (w.alloc (.cells #[.string ⟨#[]⟩,.slice none 0 0] 170)) w.heap.size ⟨#[]⟩ (.slice none 0 0)):=BxDF.new rfl _ _;have HKB:Hid (KeepP fun w1=>BxDF w1 w.heap.size ⟨#[]⟩ (.slice none 0 0)):=wU _ _ _;have HE:Hid (oU (cU A) n ws=if dD (cU A) n=true then (if EQ (iL (jnT ws))=0∧bZ ((nS (iL (jnT ws))).map spR)=true then 0 else 21) else 23):=rfl;have HER:Hid (∀ (er:Int) w',er≠0→Below w.heap.size w w'→DepQ w n ws er (.returned (.tuple #[.agg #[.string ⟨#[]⟩,.slice none 0 0],.int .i64 er])) w'):=fun er w' h hb=>DepQ.err h hb
 have HOK:Hid (∀ ad len cap w',Below w.heap.size w w'→OwnS w' w.heap.size (.slice ad len cap) ((nS (iL (jnT ws))).map spR)→DepQ w n ws 0 (.returned (.tuple #[.agg #[.string n,.slice ad len cap],.int .i64 0])) w'):=fun ad len cap w' hb h=>DepQ.ok hb h
 clear hw ha he hf hne hl hj hal;generalize dD (cU A) n=fo at*;generalize oU (cU A) n ws=de at*;generalize hQ:DepQ w n ws=DQ at*;clear hQ;generalize (nS (iL (jnT ws))).map spR=X at*;generalize EQ (iL (jnT ws))=er at*;generalize jnT ws=tx at*;generalize bZ X=rb at*;cases fo
 · obtain rfl:de=23:=by rw [HE.out];rfl
   go_enter Tryz.func224,Tryz.ntmps224
   go_wp2_with (go_at_call 239;refine (HFO.out _ (aC _ _)).mono ?_;rintro e w1 ⟨rfl,rfl⟩)
   try simp only [Exit.inBlock,Exit.then]
   refine bodyPost_ret (by simp [results,Tryz.results224,go_sem];try rfl) rfl ?_;exact HER.out 23 _ (by decide) (aC _ _)
 · by_cases hpe:er=0
   · subst hpe
     cases rb
     · obtain rfl:de=21:=by rw [HE.out];rfl
       go_enter Tryz.func224,Tryz.ntmps224
       go_wp2_with (first
        |(go_at_call 239;refine (HFO.out _ (aC _ _)).mono ?_;rintro e w1 ⟨rfl,rfl⟩)
        |(go_at_call 172;refine (HJO.out _ (aC _ _)).mono ?_;rintro e w2 ⟨rfl,ok⟩;have HO2:Hid (Below w.heap.size w w2∧BxDF w2 w.heap.size ⟨#[]⟩ (.slice none 0 0)):=⟨aA (aC _ _) ok,HKB.out _ _ HB0.out ok⟩;clear ok)
        |(go_at_call 252;refine (HPA.out _ HO2.out.1).mono ?_;rintro e w3 ⟨v3,rfl,h1,ok⟩;have HO3:Hid ((Below w.heap.size w w3∧BxDF w3 w.heap.size ⟨#[]⟩ (.slice none 0 0))∧OwnS w3 w2.heap.size v3 X):=⟨⟨aA HO2.out.1 ok,HKB.out _ _ HO2.out.2 ok⟩,h1⟩;clear ok h1)
        |(go_at_call 240;refine (HRA.out _ _ _ HO3.out.2).mono ?_;rintro e w4 ⟨rfl,ok⟩;have HO4:Hid (Below w.heap.size w w4∧BxDF w4 w.heap.size ⟨#[]⟩ (.slice none 0 0)):=⟨aA HO3.out.1.1 ok,HKB.out _ _ HO3.out.1.2 ok⟩;obtain ⟨⟨b0,b1,b2⟩,b3,b4⟩:=HO4.out.2;obtain ⟨s0,s1,s2,s3⟩:=MW b0 b1;clear ok))
       try simp only [Exit.inBlock,Exit.then]
       refine bodyPost_ret (by simp [results,Tryz.results224,s2,s3,go_sem];try rfl) rfl ?_;exact HER.out 21 _ (by decide) (fL (Nat.le_refl _) HO4.out.1)
     · obtain rfl:de=0:=by rw [HE.out];rfl
       go_enter Tryz.func224,Tryz.ntmps224
       go_wp2_with (first
        |(go_at_call 239;refine (HFO.out _ (aC _ _)).mono ?_;rintro e w1 ⟨rfl,rfl⟩)
        |(go_at_call 172;refine (HJO.out _ (aC _ _)).mono ?_;rintro e w2 ⟨rfl,ok⟩;have HO2:Hid (Below w.heap.size w w2∧BxDF w2 w.heap.size ⟨#[]⟩ (.slice none 0 0)):=⟨aA (aC _ _) ok,HKB.out _ _ HB0.out ok⟩;clear ok)
        |(go_at_call 252;refine (HPA.out _ HO2.out.1).mono ?_;rintro e w3 ⟨v3,rfl,h1,ok⟩;obtain ⟨ad3,cap3,rfl,_⟩:=h1.sp;have HO3:Hid ((Below w.heap.size w w3∧BxDF w3 w.heap.size ⟨#[]⟩ (.slice none 0 0))∧OwnS w3 w2.heap.size (.slice ad3 X.length cap3) X):=⟨⟨aA HO2.out.1 ok,HKB.out _ _ HO2.out.2 ok⟩,h1⟩;clear ok h1)
        |(go_at_call 240;refine (HRA.out _ _ _ HO3.out.2).mono ?_;rintro e w4 ⟨rfl,ok⟩;have HO4:Hid ((Below w.heap.size w w4∧BxDF w4 w.heap.size ⟨#[]⟩ (.slice none 0 0))∧OwnS w4 w2.heap.size (.slice ad3 X.length cap3) X):=⟨⟨aA HO3.out.1.1 ok,HKB.out _ _ HO3.out.1.2 ok⟩,HO3.out.2.below ok⟩;obtain ⟨⟨b0,b1,b2⟩,b3,b4⟩:=HO4.out.1.2;obtain ⟨s0,s1,s2,s3⟩:=MW b0 b1;clear ok))
       try simp only [Exit.inBlock,Exit.then]
       refine bodyPost_ret (by simp [results,Tryz.results224,s2,s3,go_sem];try rfl) rfl ?_;have hg2:w.heap.size<w2.heap.size:=HO2.out.2.1.2.2
       have hne:(Value.slice ad3 X.length cap3).ownBlock≠some w.heap.size:=fun e=>by
        have:=(HO4.out.2.lt e).2
        omega
       exact HOK.out ad3 X.length cap3 _ (fL (Nat.le_refl _) HO4.out.1.1) (((HO4.out.2.base HO2.out.1.size).set hne 0 _).set hne 1 _)
   · obtain rfl:de=21:=by rw [HE.out,if_pos rfl,if_neg (fun h=>hpe h.1)]
     have hpe':(er==0)=false:=beq_eq_false_iff_ne.2 hpe
     go_enter Tryz.func224,Tryz.ntmps224
     go_wp2_with (first
      |(go_at_call 239;refine (HFO.out _ (aC _ _)).mono ?_;rintro e w1 ⟨rfl,rfl⟩)
      |(go_at_call 172;refine (HJO.out _ (aC _ _)).mono ?_;rintro e w2 ⟨rfl,ok⟩;have HO2:Hid (Below w.heap.size w w2∧BxDF w2 w.heap.size ⟨#[]⟩ (.slice none 0 0)):=⟨aA (aC _ _) ok,HKB.out _ _ HB0.out ok⟩;clear ok)
      |(go_at_call 252;refine (HPA.out _ HO2.out.1).mono ?_;rintro e w3 ⟨v3,rfl,h1,ok⟩;have HO3:Hid (Below w.heap.size w w3∧BxDF w3 w.heap.size ⟨#[]⟩ (.slice none 0 0)):=⟨aA HO2.out.1 ok,HKB.out _ _ HO2.out.2 ok⟩;obtain ⟨⟨b0,b1,b2⟩,b3,b4⟩:=HO3.out.2;obtain ⟨s0,s1,s2,s3⟩:=MW b0 b1;clear ok h1))
     try simp only [Exit.inBlock,Exit.then]
     refine bodyPost_ret (by simp [results,Tryz.results224,s2,s3,go_sem];try rfl) rfl ?_;exact HER.out 21 _ (by decide) (fL (Nat.le_refl _) HO3.out.1)
def RD (w:World) (B N:Nat) (rows:List (Value×List (Dp×Value))):Prop:=
 w.ownsRow B 22 1 (.slice (some ⟨N,0,none⟩) rows.length rows.length) rows.length (rows.map (·.1))∧(∀ r ∈ rows,OwnD w B r.1 r.2)∧
 ∀ i j (hi:i<rows.length) (hj:j<rows.length),i≠j→rows[i].1.ownBlock=rows[j].1.ownBlock→rows[i].1.ownBlock=none
theorem RD.below {w w':World} {B N:Nat} {rows:List (Value×List (Dp×Value))} (h:RD w B N rows) (hb:Below w.heap.size w w'):RD w' B N rows:=⟨zG h.1 hb,fun r hr=>(h.2.1 r hr).below hb,h.2.2⟩
theorem Ex (B N:Nat) (rows:List (Value×List (Dp×Value))):KeepP fun w1=>RD w1 B N rows:=fun _ _ h hb=>h.below hb
theorem RD.start {w:World} {B N n:Nat} (h:w.ownsRow B 22 1 (.slice (some ⟨N,0,none⟩) n n) n (List.replicate n (.slice none 0 0))):RD w B N (List.replicate n (.slice none 0 0,[])):=by
 refine ⟨?_,?_,?_⟩
 · rw [List.length_replicate,List.map_replicate];exact h
 · intro r hr
   obtain ⟨_,rfl⟩:=List.mem_replicate.1 hr;exact OwnD.nil _ _
 · intro i j hi hj _ _
   simp [Value.ownBlock]
theorem RD.size {w:World} {B N:Nat} {rows:List (Value×List (Dp×Value))} (h:RD w B N rows):B≤N∧N<w.heap.size:=h.1.lt N rfl
theorem RD.cell {w:World} {B N:Nat} {rows:List (Value×List (Dp×Value))} (h:RD w B N rows) (k:Nat) (hk:k<rows.length):w.cell? ⟨N,k,none⟩=some rows[k].1:=by
 rw [World.ownsRow.cellAt h.1 k (by omega)];simp [hk]
theorem RD.frozen {w:World} {B N:Nat} {rows:List (Value×List (Dp×Value))} (h:RD w B N rows) (k:Nat):w.frozen? ⟨N,k,none⟩=false:=World.ownsRow.frozenAt h.1 k
theorem RD.app {w w1:World} {B N:Nat} {rows:List (Value×List (Dp×Value))} (h:RD w B N rows) (k:Nat) (hk:k<rows.length) {d:Dp} {u v':Value} (hu:OwnS w B u d.rg)
 (ho:w1.ownsRow B 170 2 v' (rows[k].2.length+1) (fK rows[k].2++[.string d.nm,u])) (hg:w.grownBy w1 rows[k].1.ownBlock) (hat:v'.ownBlock=rows[k].1.ownBlock∨v'.ownBlock=some w.heap.size):
 RD (w1.setCell ⟨N,k,none⟩ v') B N (rows.set k (v',rows[k].2++[(d,u)])):=by
 obtain ⟨h1,h2,h3⟩:=h;have hrow:=h2 _ (List.getElem_mem hk);have k1:w1.ownsRow B 22 1 (.slice (some ⟨N,0,none⟩) rows.length rows.length) rows.length (rows.map (·.1)):=h1.kept hg (Or.inr fun e=>lI h1 hrow.1 (by decide) rfl e.symm);obtain ⟨k2,_⟩:=k1.stored k v'
 have far:∀ {v:Value} {e:TypeId} {z n:Nat} {xs:List Value},w1.ownsRow B e z v n xs→e≠22→(w1.setCell ⟨N,k,none⟩ v').ownsRow B e z v n xs:=by
  intro v e z n xs hv hne;exact mK hv fun g hg2=>Below.heap_setCell _ _ _ _ fun e2=>lI hv k1 hne hg2 (by rw [e2];rfl)
 have spn:∀ {v:Value} {L:List Sp},OwnS w B v L→OwnS (w1.setCell ⟨N,k,none⟩ v') B v L:=by
  intro v L hv;refine far (World.ownsRow.kept hv hg ?_) (by decide);cases hb:v.ownBlock with
  |none=>exact Or.inl rfl
  |some g=>exact Or.inr fun e=>lI hv hrow.1 (by decide) hb e.symm
 refine ⟨?_,?_,?_⟩
 · rw [List.length_set,List.map_set];exact k2
 · intro r hr
   obtain ⟨i,hi,rfl⟩:=List.getElem_of_mem hr;rw [List.length_set] at hi
   by_cases hik:i=k
   · subst hik
     rw [List.getElem_set_self];refine ⟨?_,?_⟩
     · show (w1.setCell ⟨N,i,none⟩ v').ownsRow B 170 2 v' (rows[i].2++[(d,u)]).length (fK (rows[i].2++[(d,u)]))
       rw [BT,List.length_append];exact far ho (by decide)
     · intro p hp
       rcases List.mem_append.1 hp with hp|hp
       · exact spn (hrow.2 p hp)
       · obtain rfl:p=(d,u):=by simpa using hp
         exact spn hu
   · rw [List.getElem_set_ne (fun e=>hik e.symm)]
     have hri:=h2 _ (List.getElem_mem hi);refine ⟨far (hri.1.kept hg ?_) (by decide),fun p hp=>spn (hri.2 p hp)⟩;cases hb:rows[i].1.ownBlock with
     |none=>exact Or.inl rfl
     |some g=>
      refine Or.inr fun e=> ?_
      have:=h3 i k hi hk hik (by rw [hb,←e])
      rw [hb] at this;cases this
 · intro i j hi0 hj0 hij he
   have hi:i<rows.length:=by rw [List.length_set] at hi0;exact hi0
   have hj:j<rows.length:=by rw [List.length_set] at hj0;exact hj0
   have old:∀ m (hm:m<rows.length),∀ g,rows[m].1.ownBlock=some g→g<w.heap.size:=fun m hm g hg2=>((h2 _ (List.getElem_mem hm)).1.lt g hg2).2
   by_cases hik:i=k
   · subst hik
     have hji:i≠j:=hij;rw [List.getElem_set_self] at he ⊢;rw [List.getElem_set_ne hji] at he
     rcases hat with e|e
     · rw [show ((v',rows[i].2++[(d,u)]):Value×List (Dp×Value)).1=v' from rfl,e] at he ⊢
       exact h3 i j hi hj hij he
     · rw [show ((v',rows[i].2++[(d,u)]):Value×List (Dp×Value)).1=v' from rfl,e] at he
       have:=old j hj _ he.symm
       omega
   · rw [List.getElem_set_ne (fun e=>hik e.symm)] at he ⊢
     by_cases hjk:j=k
     · subst hjk
       rw [List.getElem_set_self] at he
       rcases hat with e|e
       · rw [show ((v',rows[j].2++[(d,u)]):Value×List (Dp×Value)).1=v' from rfl,e] at he
         exact h3 i j hi hj hij he
       · rw [show ((v',rows[j].2++[(d,u)]):Value×List (Dp×Value)).1=v' from rfl,e] at he
         have:=old i hi _ he
         omega
     · rw [List.getElem_set_ne (fun e=>hjk e.symm)] at he
       exact h3 i j hi hj hij he
def cJ (rows:List (Value×List (Dp×Value))):List (List Dp):=rows.map fun r=>r.2.map (·.1)
def fB:List Sc.Bs→Sc.Bs→Int
 |[],_=> -1
 |x::X,s=>if s=x then 0 else if fB X s= -1 then -1 else fB X s+1
def mQ (ln:List Sc.Bs):Dp:=⟨Sc.ba (ln.getD 1 []),(nS (iL (jnT (ln.drop 2)))).map spR⟩
def aV (X:List Sc.Bs):Nat→List (List Dp)→List (List Sc.Bs)→Int×List (List Dp)
 |_,acc,[]=>(0,acc)
 |a,acc,ln::r=>
  if ln.length<3 then (22,[]) else
  if fB X (ln.getD 0 [])<(a:Int) then (22,[]) else
  if oU (cU (acc.getD (fB X (ln.getD 0 [])).toNat [])) (Sc.ba (ln.getD 1 [])) (ln.drop 2)=0 then
   aV X (fB X (ln.getD 0 [])).toNat (acc.set (fB X (ln.getD 0 [])).toNat (acc.getD (fB X (ln.getD 0 [])).toNat []++[mQ ln])) r
  else (oU (cU (acc.getD (fB X (ln.getD 0 [])).toNat [])) (Sc.ba (ln.getD 1 [])) (ln.drop 2),[])
theorem CW:∀ (X:List Sc.Bs) (s:Sc.Bs),fB X s<(X.length:Int)∧ -1≤fB X s
 |[],_=>by simp [fB]
 |x::X,s=>by
  have:=CW X s
  unfold fB;simp only [List.length_cons]
  split
  · omega
  · split<;>omega
def yL (X:List Sc.Bs) (s:Sc.Bs) (k:Nat):Prop:=fB X s=if fB (X.drop k) s= -1 then -1 else fB (X.drop k) s+(k:Int)
theorem TZ (X:List Sc.Bs) (s:Sc.Bs):yL X s 0:=by
 unfold yL;rw [List.drop_zero]
 split
 · assumption
 · simp
theorem AM (x:Sc.Bs) (X:List Sc.Bs) (s:Sc.Bs):fB (x::X) s=if s=x then 0 else if fB X s= -1 then -1 else fB X s+1:=rfl
theorem YP {X:List Sc.Bs} {s:Sc.Bs} {k:Nat} (h:yL X s k) (hk:k<X.length) (e:s=X[k]):fB X s=(k:Int):=by
 unfold yL at h;rw [List.drop_eq_getElem_cons hk,AM,if_pos e] at h;rw [h,if_neg (by omega)];omega
theorem UA {X:List Sc.Bs} {s:Sc.Bs} {k:Nat} (h:yL X s k) (hk:k<X.length) (e:s≠X[k]):yL X s (k+1):=by
 unfold yL at h ⊢;rw [List.drop_eq_getElem_cons hk,AM,if_neg e] at h;rw [h];have hb:=(CW (X.drop (k+1)) s).2
 by_cases h1:fB (X.drop (k+1)) s= -1
 · rw [if_pos h1,if_pos h1,if_pos rfl]
 · rw [if_neg h1,if_neg h1,if_neg (by omega)]
   omega
theorem YQ {X:List Sc.Bs} {s:Sc.Bs} (h:yL X s X.length):fB X s= -1:=by
 unfold yL at h;rw [List.drop_length] at h
 simpa [fB] using h
set_option maxHeartbeats 1600000 in
theorem UB {X:List Sc.Bs} {v:Value} {w:World} (h:Sc.WordsAt w v X) (hl:X.length≤1000000) (s:Sc.Bs):
 Calls Tryz.prog 223 #[v,.string (Sc.ba s)] w fun e w'=>e= .returned (.int .i64 (fB X s))∧w'=w:=by
 obtain ⟨ad,cap,rfl,hc,hs⟩:=h;have HS:=aB hs;clear hs;have hts:=iY s;have HI0:=aB (TZ X s)
 go_enter Tryz.func223,Tryz.ntmps223
 go_wp2_with fail
 go_loopw [8] (fun i wr=>∃ k:Nat,k≤X.length∧i= .int .i64 k∧wr=w∧yL X s k) (fun i _=>X.length - (intOf i).toNat)
 case atStart=>exact ⟨0,Nat.zero_le _,rfl,rfl,HI0.out⟩
 case round=>
  obtain ⟨k,hk,rfl,rfl,hip⟩:=hrel;have HIP:=aB hip;clear hip
  by_cases hlt:k<X.length
  · obtain ⟨g,o,rfl,hg,hcs⟩:∃ g o,ad=some ⟨g,o,none⟩∧g<wr.heap.size∧∀ i (h:i<X.length),wr.cell? ⟨g,o+i,none⟩=some (.string (Sc.ba X[i])):=by
     rcases HS.out with h|h
     · rw [h] at hlt;simp at hlt
     · exact h
    have c0:=hcs k hlt;have htk:=iY X[k];clear hcs
    by_cases e:s=X[k]
    · have HR:=aB (YP HIP.out hlt e)
      have hq:((Sc.ba s).toList==(Sc.ba X[k]).toList)=true:=by rw [e];simp
      clear hts htk
      go_wp2
      go_ret;exact ⟨by rw [HR.out];rfl,rfl⟩
    · have HR:=aB (UA HIP.out hlt e)
      have hq:((Sc.ba s).toList==(Sc.ba X[k]).toList)=false:=by rw [hts,htk];simpa using e
      clear hts htk
      go_wp2
      exact ⟨⟨k+1,by omega,by go_num,by first|rfl|trivial,HR.out⟩,by simp [intOf];omega⟩
  · obtain rfl:k=X.length:=by omega
    have HR:=aB (YQ HIP.out)
    go_wp2
    go_ret;exact ⟨by rw [HR.out];rfl,rfl⟩
def KX (w:World) (N:Nat) (rows:List (Value×List (Dp×Value))) (w1:World):Prop:=Below w.heap.size w w1∧RD w1 w.heap.size N rows
theorem NB (w:World) (N:Nat) (rows:List (Value×List (Dp×Value))):KeepP (KX w N rows):=(aG w).and (Ex _ _ _)
theorem Cc:(Tryz.prog.info? 170).map (fun i=>(i.zero,i.size,i.bytes))=some (some (.agg #[.string ⟨#[]⟩,.slice none 0 0]),2,40):=by kernel_rfl
theorem YR:(Tryz.prog.info? 22).map (fun i=>(i.zero,i.size,i.bytes))=some (some (.slice none 0 0),1,24):=by kernel_rfl
def Gq (w:World) (N:Nat) (rows:List (Value×List (Dp×Value))) (k:Nat) (d:Dp) (u v1:Value) (w1:World):Prop:=
 KX w N (rows.set k (v1,rows[k]!.2++[(d,u)])) (w1.setCell ⟨N,k,none⟩ v1)∧w1.cell? ⟨N,k,none⟩=some rows[k]!.1∧w1.frozen? ⟨N,k,none⟩=false∧∃ ad n cap,v1= .slice ad n cap
theorem UC {w wx:World} {N:Nat} {rows:List (Value×List (Dp×Value))} {k:Nat} {d:Dp} {u:Value} {ops:Array Oper} {o:Oper} {f:Act} {K:Act→World→Prop} {Q:Exit→Act→World→Prop} {E:Prop} (hgd:o.guard=none) (s t:Operand)
 (ho:o.op= .call { callee:= .builtin .append,args:= #[s,t],argTypes:= #[22,22] }) {vk:Value} (hs:f.eval s=vk) (hk:k<rows.length) (hvk:rows[k]!.1=vk)
 (hK:KX w N rows wx) (hu:OwnS wx w.heap.size u d.rg) {nm:ByteArray} (hnm:d.nm=nm) {M:Nat} (hM:wx.heap.size=M) (hx:f.eval t= .slice (some ⟨M,0,none⟩) 1 1) (hlen:rows[k]!.2.length≤1000000)
 (h:∀ v1 w1,Gq w N rows k d u v1 w1→K (f.put o.dst v1) w1):
 if Region.wanted o (yielded ops f.tmps)=true then Oper.wp Tryz.prog o f (wx.alloc (.cells #[.string nm,u] 170)) K Q else E:=by
 have hw:Region.wanted o (yielded ops f.tmps)=true:=by simp [Region.wanted,hgd]
 rw [if_pos hw];subst hM hnm;have erk:rows[k]! =rows[k]:=getElem!_pos rows k hk;rw [erk] at hvk hlen;obtain ⟨i0,hi,hz0,hz1,hz2⟩:=Sc.bK Cc;have hKa:=NB w N rows _ _ hK (aC wx (.cells #[.string d.nm,u] 170));have hua:=hu.below (aC wx (.cells #[.string d.nm,u] 170));have hrow:=hKa.2.2.1 _ (List.getElem_mem hk);have hsz:(wx.alloc (.cells #[.string d.nm,u] 170)).heap.size=wx.heap.size+1:=by simp
 have hwx:=hK.1.size
 obtain ⟨au,lu,cu,hus⟩:∃ au lu cu,u= .slice au lu cu:=by
  obtain ⟨ad,cap,rfl,_⟩:=hu.sp;exact ⟨_,_,_,rfl⟩
 have hown:=hrow.1;rw [hvk] at hown
 obtain ⟨v1,w1,hr,hown1,hg1,_,hat⟩:=run_append_own_at (P:=Tryz.prog) (wx.alloc (.cells #[.string d.nm,u] 170)) w.heap.size 22 o.type 170 i0 _ 2 40 Tryz.underlying22 hi hz0 hz1 hz2 rfl (by decide) vk _ _ hown ⟨wx.heap.size,0,none⟩ 1 1 [.string d.nm,u] rfl
  (World.news_of_block (cs:= #[.string d.nm,u]) (t:=170) (fr:=(0,0)) (by show (wx.heap.push _)[wx.heap.size]? =_;rw [Array.getElem?_push,if_pos rfl])) (by rw [hus];simp [Value.oneCell']) (by unfold maxLen;omega) (by omega) (by omega)
 unfold Oper.wp execOp;simp only [ho,resolve,invoke,builtin,Sem.run_bind,Sem.run_pure,Result.andThen_ok,List.map_toArray,List.map_cons,List.map_nil,hs,hx,hr];rw [←hvk] at hg1 hat;have hN:=hKa.2.size;have hNe:some N≠rows[k].1.ownBlock:=fun e=>lI hKa.2.1 hrow.1 (by decide) rfl e.symm
 have hblk:=hg1.block N hN.2 hNe;refine h v1 w1 ⟨⟨?_,?_⟩,?_,?_,?_⟩
 · exact (hKa.1.grown hg1 (by omega) (fun q hq=>(hrow.1.lt q hq).1)).setCell (p:=⟨N,k,none⟩) hN.1 _
 · rw [erk]
   exact hKa.2.app k hk hua hown1 hg1 hat
 · rw [erk,World.cell?_of_block (a:=⟨N,k,none⟩) hblk]
   exact hKa.2.cell k hk
 · rw [World.frozen?_of_block (a:=⟨N,k,none⟩) hblk]
   exact hKa.2.frozen k
 · rcases hown1.2 with ⟨e,_⟩|⟨g,cap,cur,e,_⟩
   · exact ⟨_,_,_,e⟩
   · exact ⟨_,_,_,e⟩
end Go.Proofs.YtmnhnofnlcbliaaGreatDoor
