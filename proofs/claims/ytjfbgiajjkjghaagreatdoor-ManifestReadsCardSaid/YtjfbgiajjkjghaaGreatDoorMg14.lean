/- Mf3, MfK, laid in one text. -/
import Derived.Deep.RegionHeld3
import Derived.Test.YtjfbgiajjkjghaaGreatDoorMg13
namespace Go.Proofs.YtjfbgiajjkjghaaGreatDoor
open Go.RowKit
set_option maxRecDepth 100000

theorem sameList_any {A B : List Dp} {u v : Value} {w : World} (x y : ByteArray) (hu : DepsAt w u A) (hv : DepsAt w v B) (hsz : A.length ≤ 9223372036854775807) :
    Calls Tryz.prog 23 #[.agg #[.string x, u], .agg #[.string y, v]] w fun e w' => e = .returned (.bool (eqB A B)) ∧ Below w.heap.size w w' := by
  have HE : Hid (∀ w1, Below w.heap.size w w1 → Calls Tryz.prog 38 #[u, v] w1 fun x w' => x = .returned (.bool (eqB A B)) ∧ Below w1.heap.size w1 w') := fun w1 h => dSame_any (hu.below h) (hv.below h) hsz
  obtain ⟨ad, ca, rfl⟩ := hu.sl
  obtain ⟨bd, cb, rfl⟩ := hv.sl
  clear hu hv hsz
  go_enter Tryz.func23, Tryz.ntmps23
  go_wp2_with (go_at_call 38; refine (HE.out _ (boxB2 _ _ _)).mono ?_; rintro x w1 ⟨rfl, ok⟩)
  go_ret
  exact ⟨rfl, below_then (boxB2 _ _ _) ok⟩
theorem eqM_iff {P Q : Mn} : eqB P Q = (eqB P.d Q.d && (eqB P.v Q.v && (eqB P.o Q.o && eqB P.p Q.p))) := by
  refine eqB_and ?_
  obtain ⟨d, v, o, p⟩ := P
  obtain ⟨d', v', o', p'⟩ := Q
  simp only [Bool.and_eq_true, eqB_iff, Mn.mk.injEq]

set_option maxHeartbeats 6400000 in
theorem EqualFunc_mf {P Q : Mn} {ga gb : Nat} {w : World} {a1 a2 a3 a4 : Option Addr} {ac1 ac2 ac3 ac4 : Nat} {b1 b2 b3 b4 : Option Addr} {bc1 bc2 bc3 bc4 : Nat} (hp : MnAt w P (.slice a1 P.d.length ac1) (.slice a2 P.v.length ac2) (.slice a3 P.o.length ac3) (.slice a4 P.p.length ac4)) (hq : MnAt w Q (.slice b1 Q.d.length bc1) (.slice b2 Q.v.length bc2) (.slice b3 Q.o.length bc3) (.slice b4 Q.p.length bc4)) (ha : w.heap[ga]? = some (listsO (.slice a1 P.d.length ac1) (.slice a2 P.v.length ac2) (.slice a3 P.o.length ac3) (.slice a4 P.p.length ac4))) (hb : w.heap[gb]? = some (listsO (.slice b1 Q.d.length bc1) (.slice b2 Q.v.length bc2) (.slice b3 Q.o.length bc3) (.slice b4 Q.p.length bc4))) (hz : P.d.length ≤ 9223372036854775807 ∧ P.v.length ≤ 9223372036854775807 ∧ P.o.length ≤ 9223372036854775807 ∧ P.p.length ≤ 9223372036854775807) :
    Calls Tryz.prog 21 #[.slice (some ⟨ga, 0, none⟩) 4 4, .slice (some ⟨gb, 0, none⟩) 4 4, .func (.func 23) #[] #[]] w fun e w' => e = .returned (.bool (eqB P Q)) ∧ Below w.heap.size w w' := by
  have HC1 : Hid (∀ w1, Below w.heap.size w w1 → Calls Tryz.prog 23 #[.agg #[.string ⟨#[110, 101, 101, 100, 115]⟩, .slice a1 P.d.length ac1], .agg #[.string ⟨#[110, 101, 101, 100, 115]⟩, .slice b1 Q.d.length bc1]] w1 fun e w' => e = .returned (.bool (eqB P.d Q.d)) ∧ Below w1.heap.size w1 w') := fun w1 h => sameList_any _ _ (hp.1.below h) (hq.1.below h) hz.1
  have HC2 : Hid (∀ w1, Below w.heap.size w w1 → Calls Tryz.prog 23 #[.agg #[.string ⟨#[100, 101, 118]⟩, .slice a2 P.v.length ac2], .agg #[.string ⟨#[100, 101, 118]⟩, .slice b2 Q.v.length bc2]] w1 fun e w' => e = .returned (.bool (eqB P.v Q.v)) ∧ Below w1.heap.size w1 w') := fun w1 h => sameList_any _ _ (hp.2.1.below h) (hq.2.1.below h) hz.2.1
  have HC3 : Hid (∀ w1, Below w.heap.size w w1 → Calls Tryz.prog 23 #[.agg #[.string ⟨#[108, 105, 107, 101, 115]⟩, .slice a3 P.o.length ac3], .agg #[.string ⟨#[108, 105, 107, 101, 115]⟩, .slice b3 Q.o.length bc3]] w1 fun e w' => e = .returned (.bool (eqB P.o Q.o)) ∧ Below w1.heap.size w1 w') := fun w1 h => sameList_any _ _ (hp.2.2.1.below h) (hq.2.2.1.below h) hz.2.2.1
  have HC4 : Hid (∀ w1, Below w.heap.size w w1 → Calls Tryz.prog 23 #[.agg #[.string ⟨#[112, 105, 110, 115]⟩, .slice a4 P.p.length ac4], .agg #[.string ⟨#[112, 105, 110, 115]⟩, .slice b4 Q.p.length bc4]] w1 fun e w' => e = .returned (.bool (eqB P.p Q.p)) ∧ Below w1.heap.size w1 w') := fun w1 h => sameList_any _ _ (hp.2.2.2.below h) (hq.2.2.2.below h) hz.2.2.2
  have HA : Hid (∀ w1, Below w.heap.size w w1 → w1.heap[ga]? = some (listsO (.slice a1 P.d.length ac1) (.slice a2 P.v.length ac2) (.slice a3 P.o.length ac3) (.slice a4 P.p.length ac4))) := fun w1 h => (h.block ga (Array.getElem?_eq_some_iff.1 ha).1).trans ha
  have HB : Hid (∀ w1, Below w.heap.size w w1 → w1.heap[gb]? = some (listsO (.slice b1 Q.d.length bc1) (.slice b2 Q.v.length bc2) (.slice b3 Q.o.length bc3) (.slice b4 Q.p.length bc4))) := fun w1 h => (h.block gb (Array.getElem?_eq_some_iff.1 hb).1).trans hb
  have HE := hide3 (eqM_iff (P := P) (Q := Q))
  clear hp hq ha hb hz
  generalize eqB P Q = EE at *
  generalize eqB P.d Q.d = x1 at *
  generalize eqB P.v Q.v = x2 at *
  generalize eqB P.o Q.o = x3 at *
  generalize eqB P.p Q.p = x4 at *
  go_enter Tryz.func21, Tryz.ntmps21
  go_wp2_with fail
  go_loopw [17] (fun i wr => ∃ k : Nat, k ≤ 4 ∧ i = .int .i64 k ∧ Below w.heap.size w wr ∧ (1 ≤ k → x1 = true) ∧ (2 ≤ k → x2 = true) ∧ (3 ≤ k → x3 = true) ∧ (4 ≤ k → x4 = true)) (fun i _ => 4 - (intOf i).toNat)
  case atStart => exact ⟨0, Nat.zero_le _, rfl, Below.refl _ _, (fun h => by omega), (fun h => by omega), (fun h => by omega), (fun h => by omega)⟩
  case round =>
    obtain ⟨k, hk, rfl, hbw, e1, e2, e3, e4⟩ := hrel
    have HBW := hide3 hbw
    rcases (show k = 0 ∨ k = 1 ∨ k = 2 ∨ k = 3 ∨ k = 4 by omega) with rfl | rfl | rfl | rfl | rfl
    · have q0 : wr.cell? ⟨ga, 0, none⟩ = some (.string ⟨#[110, 101, 101, 100, 115]⟩) := by rw [Lib.cell_of_heap (HA.out wr hbw)]; rfl
      have q1 : wr.cell? ⟨ga, 1, none⟩ = some (.slice a1 P.d.length ac1) := by rw [Lib.cell_of_heap (HA.out wr hbw)]; rfl
      have r0 : (wr.alloc (.cells #[.string ⟨#[110, 101, 101, 100, 115]⟩, .slice a1 P.d.length ac1] 49)).cell? ⟨gb, 0, none⟩ = some (.string ⟨#[110, 101, 101, 100, 115]⟩) := by rw [Lib.cell_of_heap (HB.out _ (below_then hbw (boxB _ _)))]; rfl
      have r1 : (wr.alloc (.cells #[.string ⟨#[110, 101, 101, 100, 115]⟩, .slice a1 P.d.length ac1] 49)).cell? ⟨gb, 1, none⟩ = some (.slice b1 Q.d.length bc1) := by rw [Lib.cell_of_heap (HB.out _ (below_then hbw (boxB _ _)))]; rfl
      clear hbw e1 e2 e3 e4
      cases x1
      · have HR : Hid (EE = false) := by unfold Hid; rw [HE.out]; simp
        go_wp2_with (go_at_call 23; refine (HC1.out _ (below_then HBW.out (boxB2 _ _ _))).mono ?_; rintro x w1 ⟨rfl, ok⟩; have HO1 := hide3 (below_then (below_then HBW.out (boxB2 _ _ _)) ok); clear ok)
        go_ret
        exact ⟨ret_bool HR.out.symm, HO1.out⟩
      · go_wp2_with (go_at_call 23; refine (HC1.out _ (below_then HBW.out (boxB2 _ _ _))).mono ?_; rintro x w1 ⟨rfl, ok⟩; have HO1 := hide3 (below_then (below_then HBW.out (boxB2 _ _ _)) ok); clear ok)
        exact ⟨⟨1, by omega, rfl, HO1.out, (fun _ => trivial), (fun h => by omega), (fun h => by omega), (fun h => by omega)⟩, by simp [intOf]⟩
    · have e1' := e1 (by omega)
      subst e1'
      have q0 : wr.cell? ⟨ga, 2, none⟩ = some (.string ⟨#[100, 101, 118]⟩) := by rw [Lib.cell_of_heap (HA.out wr hbw)]; rfl
      have q1 : wr.cell? ⟨ga, 3, none⟩ = some (.slice a2 P.v.length ac2) := by rw [Lib.cell_of_heap (HA.out wr hbw)]; rfl
      have r0 : (wr.alloc (.cells #[.string ⟨#[100, 101, 118]⟩, .slice a2 P.v.length ac2] 49)).cell? ⟨gb, 2, none⟩ = some (.string ⟨#[100, 101, 118]⟩) := by rw [Lib.cell_of_heap (HB.out _ (below_then hbw (boxB _ _)))]; rfl
      have r1 : (wr.alloc (.cells #[.string ⟨#[100, 101, 118]⟩, .slice a2 P.v.length ac2] 49)).cell? ⟨gb, 3, none⟩ = some (.slice b2 Q.v.length bc2) := by rw [Lib.cell_of_heap (HB.out _ (below_then hbw (boxB _ _)))]; rfl
      clear hbw e1 e2 e3 e4
      cases x2
      · have HR : Hid (EE = false) := by unfold Hid; rw [HE.out]; simp
        go_wp2_with (go_at_call 23; refine (HC2.out _ (below_then HBW.out (boxB2 _ _ _))).mono ?_; rintro x w1 ⟨rfl, ok⟩; have HO1 := hide3 (below_then (below_then HBW.out (boxB2 _ _ _)) ok); clear ok)
        go_ret
        exact ⟨ret_bool HR.out.symm, HO1.out⟩
      · go_wp2_with (go_at_call 23; refine (HC2.out _ (below_then HBW.out (boxB2 _ _ _))).mono ?_; rintro x w1 ⟨rfl, ok⟩; have HO1 := hide3 (below_then (below_then HBW.out (boxB2 _ _ _)) ok); clear ok)
        exact ⟨⟨2, by omega, rfl, HO1.out, (fun _ => trivial), (fun _ => trivial), (fun h => by omega), (fun h => by omega)⟩, by simp [intOf]⟩
    · have e1' := e1 (by omega)
      have e2' := e2 (by omega)
      subst e1' e2'
      have q0 : wr.cell? ⟨ga, 4, none⟩ = some (.string ⟨#[108, 105, 107, 101, 115]⟩) := by rw [Lib.cell_of_heap (HA.out wr hbw)]; rfl
      have q1 : wr.cell? ⟨ga, 5, none⟩ = some (.slice a3 P.o.length ac3) := by rw [Lib.cell_of_heap (HA.out wr hbw)]; rfl
      have r0 : (wr.alloc (.cells #[.string ⟨#[108, 105, 107, 101, 115]⟩, .slice a3 P.o.length ac3] 49)).cell? ⟨gb, 4, none⟩ = some (.string ⟨#[108, 105, 107, 101, 115]⟩) := by rw [Lib.cell_of_heap (HB.out _ (below_then hbw (boxB _ _)))]; rfl
      have r1 : (wr.alloc (.cells #[.string ⟨#[108, 105, 107, 101, 115]⟩, .slice a3 P.o.length ac3] 49)).cell? ⟨gb, 5, none⟩ = some (.slice b3 Q.o.length bc3) := by rw [Lib.cell_of_heap (HB.out _ (below_then hbw (boxB _ _)))]; rfl
      clear hbw e1 e2 e3 e4
      cases x3
      · have HR : Hid (EE = false) := by unfold Hid; rw [HE.out]; simp
        go_wp2_with (go_at_call 23; refine (HC3.out _ (below_then HBW.out (boxB2 _ _ _))).mono ?_; rintro x w1 ⟨rfl, ok⟩; have HO1 := hide3 (below_then (below_then HBW.out (boxB2 _ _ _)) ok); clear ok)
        go_ret
        exact ⟨ret_bool HR.out.symm, HO1.out⟩
      · go_wp2_with (go_at_call 23; refine (HC3.out _ (below_then HBW.out (boxB2 _ _ _))).mono ?_; rintro x w1 ⟨rfl, ok⟩; have HO1 := hide3 (below_then (below_then HBW.out (boxB2 _ _ _)) ok); clear ok)
        exact ⟨⟨3, by omega, rfl, HO1.out, (fun _ => trivial), (fun _ => trivial), (fun _ => trivial), (fun h => by omega)⟩, by simp [intOf]⟩
    · have e1' := e1 (by omega)
      have e2' := e2 (by omega)
      have e3' := e3 (by omega)
      subst e1' e2' e3'
      have q0 : wr.cell? ⟨ga, 6, none⟩ = some (.string ⟨#[112, 105, 110, 115]⟩) := by rw [Lib.cell_of_heap (HA.out wr hbw)]; rfl
      have q1 : wr.cell? ⟨ga, 7, none⟩ = some (.slice a4 P.p.length ac4) := by rw [Lib.cell_of_heap (HA.out wr hbw)]; rfl
      have r0 : (wr.alloc (.cells #[.string ⟨#[112, 105, 110, 115]⟩, .slice a4 P.p.length ac4] 49)).cell? ⟨gb, 6, none⟩ = some (.string ⟨#[112, 105, 110, 115]⟩) := by rw [Lib.cell_of_heap (HB.out _ (below_then hbw (boxB _ _)))]; rfl
      have r1 : (wr.alloc (.cells #[.string ⟨#[112, 105, 110, 115]⟩, .slice a4 P.p.length ac4] 49)).cell? ⟨gb, 7, none⟩ = some (.slice b4 Q.p.length bc4) := by rw [Lib.cell_of_heap (HB.out _ (below_then hbw (boxB _ _)))]; rfl
      clear hbw e1 e2 e3 e4
      cases x4
      · have HR : Hid (EE = false) := by unfold Hid; rw [HE.out]; simp
        go_wp2_with (go_at_call 23; refine (HC4.out _ (below_then HBW.out (boxB2 _ _ _))).mono ?_; rintro x w1 ⟨rfl, ok⟩; have HO1 := hide3 (below_then (below_then HBW.out (boxB2 _ _ _)) ok); clear ok)
        go_ret
        exact ⟨ret_bool HR.out.symm, HO1.out⟩
      · go_wp2_with (go_at_call 23; refine (HC4.out _ (below_then HBW.out (boxB2 _ _ _))).mono ?_; rintro x w1 ⟨rfl, ok⟩; have HO1 := hide3 (below_then (below_then HBW.out (boxB2 _ _ _)) ok); clear ok)
        exact ⟨⟨4, by omega, rfl, HO1.out, (fun _ => trivial), (fun _ => trivial), (fun _ => trivial), (fun _ => trivial)⟩, by simp [intOf]⟩
    · have e1' := e1 (by omega)
      have e2' := e2 (by omega)
      have e3' := e3 (by omega)
      have e4' := e4 (by omega)
      subst e1' e2' e3' e4'
      have HR : Hid (EE = true) := by unfold Hid; rw [HE.out]; rfl
      clear hbw e1 e2 e3 e4
      go_wp2
      go_ret
      exact ⟨ret_bool HR.out.symm, HBW.out⟩

set_option maxHeartbeats 3200000 in
theorem mSame_any {P Q : Mn} {v1 v2 v3 v4 u1 u2 u3 u4 : Value} {w : World} (hp : MnAt w P v1 v2 v3 v4) (hq : MnAt w Q u1 u2 u3 u4) (hz : P.d.length ≤ 9223372036854775807 ∧ P.v.length ≤ 9223372036854775807 ∧ P.o.length ≤ 9223372036854775807 ∧ P.p.length ≤ 9223372036854775807) :
    Calls Tryz.prog 10 #[.agg #[v1, v2, v3, v4], .agg #[u1, u2, u3, u4]] w fun e w' => e = .returned (.bool (eqB P Q)) ∧ Below w.heap.size w w' := by
  obtain ⟨a1, ac1, rfl⟩ := hp.1.sl
  obtain ⟨b1, bc1, rfl⟩ := hq.1.sl
  obtain ⟨a2, ac2, rfl⟩ := hp.2.1.sl
  obtain ⟨b2, bc2, rfl⟩ := hq.2.1.sl
  obtain ⟨a3, ac3, rfl⟩ := hp.2.2.1.sl
  obtain ⟨b3, bc3, rfl⟩ := hq.2.2.1.sl
  obtain ⟨a4, ac4, rfl⟩ := hp.2.2.2.sl
  obtain ⟨b4, bc4, rfl⟩ := hq.2.2.2.sl
  have HLA : Hid (∀ w1, Calls Tryz.prog 22 #[.agg #[.slice a1 P.d.length ac1, .slice a2 P.v.length ac2, .slice a3 P.o.length ac3, .slice a4 P.p.length ac4]] w1 fun e w' => ∃ g, e = .returned (.slice (some ⟨g, 0, none⟩) 4 4) ∧ Below w1.heap.size w1 w' ∧ w1.heap.size ≤ g ∧ w'.heap[g]? = some (listsO (.slice a1 P.d.length ac1) (.slice a2 P.v.length ac2) (.slice a3 P.o.length ac3) (.slice a4 P.p.length ac4))) := fun w1 => lists_mf _ _ _ _ _ _ _ _ _ _ _ _ w1
  have HLB : Hid (∀ w1, Calls Tryz.prog 22 #[.agg #[.slice b1 Q.d.length bc1, .slice b2 Q.v.length bc2, .slice b3 Q.o.length bc3, .slice b4 Q.p.length bc4]] w1 fun e w' => ∃ g, e = .returned (.slice (some ⟨g, 0, none⟩) 4 4) ∧ Below w1.heap.size w1 w' ∧ w1.heap.size ≤ g ∧ w'.heap[g]? = some (listsO (.slice b1 Q.d.length bc1) (.slice b2 Q.v.length bc2) (.slice b3 Q.o.length bc3) (.slice b4 Q.p.length bc4))) := fun w1 => lists_mf _ _ _ _ _ _ _ _ _ _ _ _ w1
  have HEQ : Hid (∀ w1 ga gb, Below w.heap.size w w1 → w1.heap[ga]? = some (listsO (.slice a1 P.d.length ac1) (.slice a2 P.v.length ac2) (.slice a3 P.o.length ac3) (.slice a4 P.p.length ac4)) → w1.heap[gb]? = some (listsO (.slice b1 Q.d.length bc1) (.slice b2 Q.v.length bc2) (.slice b3 Q.o.length bc3) (.slice b4 Q.p.length bc4)) → Calls Tryz.prog 21 #[.slice (some ⟨ga, 0, none⟩) 4 4, .slice (some ⟨gb, 0, none⟩) 4 4, .func (.func 23) #[] #[]] w1 fun e w' => e = .returned (.bool (eqB P Q)) ∧ Below w1.heap.size w1 w') := fun w1 ga gb hb h1 h2 => EqualFunc_mf (hp.below hb) (hq.below hb) h1 h2 hz
  clear hp hq hz
  generalize eqB P Q = EE at *
  have HBX : Hid (BxM ((w.alloc (.cells #[.slice a1 P.d.length ac1, .slice a2 P.v.length ac2, .slice a3 P.o.length ac3, .slice a4 P.p.length ac4] 24)).alloc (.cells #[.slice b1 Q.d.length bc1, .slice b2 Q.v.length bc2, .slice b3 Q.o.length bc3, .slice b4 Q.p.length bc4] 24)) w.heap.size (.slice a1 P.d.length ac1) (.slice a2 P.v.length ac2) (.slice a3 P.o.length ac3) (.slice a4 P.p.length ac4) ∧ BxM ((w.alloc (.cells #[.slice a1 P.d.length ac1, .slice a2 P.v.length ac2, .slice a3 P.o.length ac3, .slice a4 P.p.length ac4] 24)).alloc (.cells #[.slice b1 Q.d.length bc1, .slice b2 Q.v.length bc2, .slice b3 Q.o.length bc3, .slice b4 Q.p.length bc4] 24)) (w.heap.size + 1) (.slice b1 Q.d.length bc1) (.slice b2 Q.v.length bc2) (.slice b3 Q.o.length bc3) (.slice b4 Q.p.length bc4)) := ⟨keepBxM _ _ _ _ _ _ _ (BxM.new rfl _ _ _ _) (boxB _ _), BxM.new (by simp) _ _ _ _⟩
  have HKB : Hid (KeepP fun w1 => BxM w1 w.heap.size (.slice a1 P.d.length ac1) (.slice a2 P.v.length ac2) (.slice a3 P.o.length ac3) (.slice a4 P.p.length ac4) ∧ BxM w1 (w.heap.size + 1) (.slice b1 Q.d.length bc1) (.slice b2 Q.v.length bc2) (.slice b3 Q.o.length bc3) (.slice b4 Q.p.length bc4)) := (keepBxM _ _ _ _ _).and (keepBxM _ _ _ _ _)
  obtain ⟨⟨k0, k1, k2, k3, k4⟩, ⟨m0, m1, m2, m3, m4⟩⟩ := HBX.out
  have t1 : True := trivial
  go_enter Tryz.func10, Tryz.ntmps10
  go_wp2_with fail
  go_region_held3 (fun w' => (w'.cell? ⟨w.heap.size, 0, none⟩ = some (.slice a1 P.d.length ac1) ∧ w'.cell? ⟨w.heap.size, 1, none⟩ = some (.slice a2 P.v.length ac2) ∧ w'.cell? ⟨w.heap.size, 2, none⟩ = some (.slice a3 P.o.length ac3) ∧ w'.cell? ⟨w.heap.size, 3, none⟩ = some (.slice a4 P.p.length ac4)) ∧ w'.cell? ⟨w.heap.size + 1, 0, none⟩ = some (.slice b1 Q.d.length bc1) ∧ w'.cell? ⟨w.heap.size + 1, 1, none⟩ = some (.slice b2 Q.v.length bc2) ∧ w'.cell? ⟨w.heap.size + 1, 2, none⟩ = some (.slice b3 Q.o.length bc3) ∧ w'.cell? ⟨w.heap.size + 1, 3, none⟩ = some (.slice b4 Q.p.length bc4)) (go_keep)
    (first
      | (have _t := t1; go_at_call 22; refine (HLA.out _).mono ?_; rintro e w2 ⟨ga, rfl, ok, hg, hgl⟩; have HO2 : Hid ((Below w.heap.size w w2 ∧ w2.heap[ga]? = some (listsO (.slice a1 P.d.length ac1) (.slice a2 P.v.length ac2) (.slice a3 P.o.length ac3) (.slice a4 P.p.length ac4))) ∧ (BxM w2 w.heap.size (.slice a1 P.d.length ac1) (.slice a2 P.v.length ac2) (.slice a3 P.o.length ac3) (.slice a4 P.p.length ac4) ∧ BxM w2 (w.heap.size + 1) (.slice b1 Q.d.length bc1) (.slice b2 Q.v.length bc2) (.slice b3 Q.o.length bc3) (.slice b4 Q.p.length bc4))) := ⟨⟨below_then (below_then (boxB2 _ _ _) (Below.refl _ _).drew) ok, hgl⟩, HKB.out _ _ (HKB.out.drew HBX.out) ok⟩; clear ok hg hgl t1 k0 k1 k2 k3 k4 m0 m1 m2 m3 m4; obtain ⟨⟨k0, k1, k2, k3, k4⟩, ⟨m0, m1, m2, m3, m4⟩⟩ := HO2.out.2)
      | (go_at_call 22; refine (HLB.out _).mono ?_; rintro e w3 ⟨gb, rfl, ok, hg, hgl⟩; have HO3 : Hid ((Below w.heap.size w w3 ∧ w3.heap[ga]? = some (listsO (.slice a1 P.d.length ac1) (.slice a2 P.v.length ac2) (.slice a3 P.o.length ac3) (.slice a4 P.p.length ac4)) ∧ w3.heap[gb]? = some (listsO (.slice b1 Q.d.length bc1) (.slice b2 Q.v.length bc2) (.slice b3 Q.o.length bc3) (.slice b4 Q.p.length bc4))) ∧ (BxM w3 w.heap.size (.slice a1 P.d.length ac1) (.slice a2 P.v.length ac2) (.slice a3 P.o.length ac3) (.slice a4 P.p.length ac4) ∧ BxM w3 (w.heap.size + 1) (.slice b1 Q.d.length bc1) (.slice b2 Q.v.length bc2) (.slice b3 Q.o.length bc3) (.slice b4 Q.p.length bc4))) := ⟨⟨below_then HO2.out.1.1 ok, (ok.block ga (Array.getElem?_eq_some_iff.1 HO2.out.1.2).1).trans HO2.out.1.2, hgl⟩, HKB.out _ _ HO2.out.2 ok⟩; clear ok hg hgl k0 k1 k2 k3 k4 m0 m1 m2 m3 m4; obtain ⟨⟨k0, k1, k2, k3, k4⟩, ⟨m0, m1, m2, m3, m4⟩⟩ := HO3.out.2)
      | (go_at_call 21; refine (HEQ.out _ ga gb HO3.out.1.1 HO3.out.1.2.1 HO3.out.1.2.2).mono ?_; rintro e w4 ⟨rfl, ok⟩; have HO4 : Hid (Below w.heap.size w w4 ∧ (BxM w4 w.heap.size (.slice a1 P.d.length ac1) (.slice a2 P.v.length ac2) (.slice a3 P.o.length ac3) (.slice a4 P.p.length ac4) ∧ BxM w4 (w.heap.size + 1) (.slice b1 Q.d.length bc1) (.slice b2 Q.v.length bc2) (.slice b3 Q.o.length bc3) (.slice b4 Q.p.length bc4))) := ⟨below_then HO3.out.1.1 ok, HKB.out _ _ HO3.out.2 ok⟩; clear ok k0 k1 k2 k3 k4 m0 m1 m2 m3 m4; obtain ⟨⟨k0, k1, k2, k3, k4⟩, ⟨m0, m1, m2, m3, m4⟩⟩ := HO4.out.2))
  go_wp2
  go_ret
  exact ⟨rfl, HO4.out.1⟩
end Go.Proofs.YtjfbgiajjkjghaaGreatDoor
namespace Go.Proofs.YtjfbgiajjkjghaaGreatDoor
open Go.RowKit
set_option maxRecDepth 100000

set_option maxHeartbeats 3200000 in
theorem known_mf {w : World} (he : Env w) (hf : FL w) : Calls Tryz.prog 12 #[] w fun e w' => e = .returned (.bool true) ∧ Below w.heap.size w w' := by
  have HPA : Hid (Calls Tryz.prog 15 #[.string kmT] w fun e w' => ∃ a1 ac1 a2 ac2 a3 ac3 a4 ac4, e = .returned (.tuple #[.agg #[.slice a1 1 ac1, .slice a2 0 ac2, .slice a3 0 ac3, .slice a4 1 ac4], .int .i64 0]) ∧ Below w.heap.size w w' ∧ MnAt w' kmP (.slice a1 1 ac1) (.slice a2 0 ac2) (.slice a3 0 ac3) (.slice a4 1 ac4)) := (Parse_mf kmT he hf).mono fun e w' h => by
    rw [km_par.1, km_par.2] at h
    obtain ⟨a1, k1, c1, a2, k2, c2, a3, k3, c3, a4, k4, c4, h1, h2, h3, _⟩ := h.sl
    obtain ⟨ho, e1, e2, e3, e4⟩ := h3 rfl
    subst e1 e2 e3 e4
    exact ⟨a1, c1, a2, c2, a3, c3, a4, c4, h1, h2, ho.at⟩
  have HPR : Hid (∀ w1 v1 v2 v3 v4, Below w.heap.size w w1 → MnAt w1 kmP v1 v2 v3 v4 → Calls Tryz.prog 13 #[.agg #[v1, v2, v3, v4]] w1 fun e w' => e = .returned (.tuple #[.string kmT, .int .i64 0]) ∧ Below w1.heap.size w1 w') := fun w1 v1 v2 v3 v4 hb h => by
    have := mPrint_any h (he.below hb) (hf.below hb)
    rw [km_w, km_t] at this
    exact this
  have HMA : Hid (∀ w1 v1 v2 v3 v4, Below w.heap.size w w1 → MnAt w1 kmP v1 v2 v3 v4 → Calls Tryz.prog 8 #[.agg #[v1, v2, v3, v4]] w1 fun e w' => e = .returned (.bool true) ∧ Below w1.heap.size w1 w') := fun w1 v1 v2 v3 v4 hb h => by
    have := mMay_any h (he.below hb) (hf.below hb)
    rw [km_w] at this
    exact this
  have HSA : Hid (∀ w1 v1 v2 v3 v4, MnAt w1 kmP v1 v2 v3 v4 → Calls Tryz.prog 10 #[.agg #[v1, v2, v3, v4], .agg #[v1, v2, v3, v4]] w1 fun e w' => e = .returned (.bool true) ∧ Below w1.heap.size w1 w') := fun w1 v1 v2 v3 v4 h => by
    have := mSame_any h h ⟨by decide, by decide, by decide, by decide⟩
    rw [eqB_yes rfl] at this
    exact this
  have hkT : kmT = ⟨#[112, 114, 111, 106, 101, 99, 116, 10, 110, 101, 101, 100, 115, 32, 97, 32, 49, 46, 48, 46, 48, 10, 112, 105, 110, 115, 32, 98, 32, 42, 10]⟩ := rfl
  have htO : kmT.toList = [112, 114, 111, 106, 101, 99, 116, 10, 110, 101, 101, 100, 115, 32, 97, 32, 49, 46, 48, 46, 48, 10, 112, 105, 110, 115, 32, 98, 32, 42, 10] := by rw [ByteArray.toList_eq]; rfl
  rw [hkT] at HPA
  clear he hf hkT
  go_enter Tryz.func12, Tryz.ntmps12
  go_wp2_with (first
    | (go_at_call 15; refine HPA.out.mono ?_; rintro e w1 ⟨a1, ac1, a2, ac2, a3, ac3, a4, ac4, rfl, hb1, hp1⟩; have HB1 : Hid (Below w.heap.size w (w1.alloc (.cells #[.slice a1 1 ac1, .slice a2 0 ac2, .slice a3 0 ac3, .slice a4 1 ac4] 24)) ∧ MnAt (w1.alloc (.cells #[.slice a1 1 ac1, .slice a2 0 ac2, .slice a3 0 ac3, .slice a4 1 ac4] 24)) kmP (.slice a1 1 ac1) (.slice a2 0 ac2) (.slice a3 0 ac3) (.slice a4 1 ac4)) := ⟨below_then hb1 (boxB _ _), hp1.below (boxB _ _)⟩; have HX1 : Hid (BxM (w1.alloc (.cells #[.slice a1 1 ac1, .slice a2 0 ac2, .slice a3 0 ac3, .slice a4 1 ac4] 24)) w1.heap.size (.slice a1 1 ac1) (.slice a2 0 ac2) (.slice a3 0 ac3) (.slice a4 1 ac4)) := BxM.new rfl _ _ _ _; clear hb1 hp1)
    | (go_at_call 13; (refine (HPR.out _ _ _ _ _ HB1.out.1 HB1.out.2).mono ?_; rintro e w2 ⟨rfl, ok⟩; have HB2 : Hid (Below w.heap.size w w2 ∧ MnAt w2 kmP (.slice a1 1 ac1) (.slice a2 0 ac2) (.slice a3 0 ac3) (.slice a4 1 ac4)) := ⟨below_then HB1.out.1 ok, HB1.out.2.below ok⟩; have HX2 := hide3 (keepBxM _ _ _ _ _ _ _ HX1.out ok); obtain ⟨y0, y1, y2, y3, y4⟩ := HX2.out; clear ok))
    | (go_at_call 8; refine (HMA.out _ _ _ _ _ HB2.out.1 HB2.out.2).mono ?_; rintro e w3 ⟨rfl, ok⟩; have HB3 : Hid (Below w.heap.size w w3 ∧ MnAt w3 kmP (.slice a1 1 ac1) (.slice a2 0 ac2) (.slice a3 0 ac3) (.slice a4 1 ac4)) := ⟨below_then HB2.out.1 ok, HB2.out.2.below ok⟩; have HX3 := hide3 (keepBxM _ _ _ _ _ _ _ HX2.out ok); clear y0 y1 y2 y3 y4; obtain ⟨y0, y1, y2, y3, y4⟩ := HX3.out; clear ok)
    | (go_at_call 10; refine (HSA.out _ _ _ _ _ HB3.out.2).mono ?_; rintro e w4 ⟨rfl, ok⟩; have HB4 := hide3 (below_then HB3.out.1 ok); clear ok))
  go_ret
  exact ⟨rfl, HB4.out⟩
end Go.Proofs.YtjfbgiajjkjghaaGreatDoor
