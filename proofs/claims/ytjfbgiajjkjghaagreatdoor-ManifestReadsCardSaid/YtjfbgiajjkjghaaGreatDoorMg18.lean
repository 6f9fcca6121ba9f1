/- Mr1, laid in one text. -/
import Derived.Test.YtjfbgiajjkjghaaGreatDoorMg17
namespace Go.Proofs.YtjfbgiajjkjghaaGreatDoor
open Go.RowKit
set_option maxRecDepth 100000

set_option maxHeartbeats 3200000 in
theorem rSameM_any {P Q : Mn} {v1 v2 v3 v4 u1 u2 u3 u4 : Value} {w : World} (h : MnAt w P v1 v2 v3 v4) (hq : MnAt w Q u1 u2 u3 u4) (hz : P.d.length ≤ 9223372036854775807 ∧ P.v.length ≤ 9223372036854775807 ∧ P.o.length ≤ 9223372036854775807 ∧ P.p.length ≤ 9223372036854775807) :
    Calls Tryz.prog 11 #[.agg #[v1, v2, v3, v4], .agg #[u1, u2, u3, u4]] w fun x w' => x = .returned (.bool (eqB P Q)) ∧ Below w.heap.size w w' := by
  have H1 : Hid (∀ w1, Below w.heap.size w w1 → Calls Tryz.prog 24 #[v1, u1] w1 fun e w' => e = .returned (.bool (eqB P.d Q.d)) ∧ Below w1.heap.size w1 w') := fun w1 hb => rDeps_any (h.1.below hb) (hq.1.below hb) hz.1
  have H2 : Hid (∀ w1, Below w.heap.size w w1 → Calls Tryz.prog 24 #[v2, u2] w1 fun e w' => e = .returned (.bool (eqB P.v Q.v)) ∧ Below w1.heap.size w1 w') := fun w1 hb => rDeps_any (h.2.1.below hb) (hq.2.1.below hb) hz.2.1
  have H3 : Hid (∀ w1, Below w.heap.size w w1 → Calls Tryz.prog 24 #[v3, u3] w1 fun e w' => e = .returned (.bool (eqB P.o Q.o)) ∧ Below w1.heap.size w1 w') := fun w1 hb => rDeps_any (h.2.2.1.below hb) (hq.2.2.1.below hb) hz.2.2.1
  have H4 : Hid (∀ w1, Below w.heap.size w w1 → Calls Tryz.prog 24 #[v4, u4] w1 fun e w' => e = .returned (.bool (eqB P.p Q.p)) ∧ Below w1.heap.size w1 w') := fun w1 hb => rDeps_any (h.2.2.2.below hb) (hq.2.2.2.below hb) hz.2.2.2
  have HE := hide3 (eqM_iff (P := P) (Q := Q))
  obtain ⟨a1, c1, rfl⟩ := h.1.sl
  obtain ⟨a2, c2, rfl⟩ := h.2.1.sl
  obtain ⟨a3, c3, rfl⟩ := h.2.2.1.sl
  obtain ⟨a4, c4, rfl⟩ := h.2.2.2.sl
  obtain ⟨b1, d1, rfl⟩ := hq.1.sl
  obtain ⟨b2, d2, rfl⟩ := hq.2.1.sl
  obtain ⟨b3, d3, rfl⟩ := hq.2.2.1.sl
  obtain ⟨b4, d4, rfl⟩ := hq.2.2.2.sl
  clear h hq hz
  generalize eqB P Q = EE at *
  generalize eqB P.d Q.d = x1 at *
  generalize eqB P.v Q.v = x2 at *
  generalize eqB P.o Q.o = x3 at *
  generalize eqB P.p Q.p = x4 at *
  cases x1
  · skip
    have HR : Hid (EE = false) := by unfold Hid; rw [HE.out]; simp
    have HK0 : Hid (KeepP fun w1 => ((Below w.heap.size w w1) ∧ BxM w1 w.heap.size (.slice a1 P.d.length c1) (.slice a2 P.v.length c2) (.slice a3 P.o.length c3) (.slice a4 P.p.length c4)) ∧ BxM w1 (w.heap.size + 1) (.slice b1 Q.d.length d1) (.slice b2 Q.v.length d2) (.slice b3 Q.o.length d3) (.slice b4 Q.p.length d4)) := (KeepP.and ((KeepP.and (keepBelow w) (keepBxM _ _ _ _ _))) (keepBxM _ _ _ _ _))
    have HO0 : Hid (((Below w.heap.size w ((w.alloc (.cells #[.slice a1 P.d.length c1, .slice a2 P.v.length c2, .slice a3 P.o.length c3, .slice a4 P.p.length c4] 24)).alloc (.cells #[.slice b1 Q.d.length d1, .slice b2 Q.v.length d2, .slice b3 Q.o.length d3, .slice b4 Q.p.length d4] 24))) ∧ BxM ((w.alloc (.cells #[.slice a1 P.d.length c1, .slice a2 P.v.length c2, .slice a3 P.o.length c3, .slice a4 P.p.length c4] 24)).alloc (.cells #[.slice b1 Q.d.length d1, .slice b2 Q.v.length d2, .slice b3 Q.o.length d3, .slice b4 Q.p.length d4] 24)) w.heap.size (.slice a1 P.d.length c1) (.slice a2 P.v.length c2) (.slice a3 P.o.length c3) (.slice a4 P.p.length c4)) ∧ BxM ((w.alloc (.cells #[.slice a1 P.d.length c1, .slice a2 P.v.length c2, .slice a3 P.o.length c3, .slice a4 P.p.length c4] 24)).alloc (.cells #[.slice b1 Q.d.length d1, .slice b2 Q.v.length d2, .slice b3 Q.o.length d3, .slice b4 Q.p.length d4] 24)) (w.heap.size + 1) (.slice b1 Q.d.length d1) (.slice b2 Q.v.length d2) (.slice b3 Q.o.length d3) (.slice b4 Q.p.length d4)) := ⟨⟨boxB2 _ _ _, keepBxM _ _ _ _ _ _ _ (BxM.new rfl _ _ _ _) (boxB _ _)⟩, BxM.new (by simp) _ _ _ _⟩
    obtain ⟨p0, p1, p2, p3, p4⟩ := HO0.out.1.2
    obtain ⟨q0, q1, q2, q3, q4⟩ := HO0.out.2
    go_enter Tryz.func11, Tryz.ntmps11
    go_wp2_with (first
      | (have _h := HO0; go_at_call 24; refine (H1.out _ (HO0.out.1.1)).mono ?_; rintro e y1 ⟨rfl, ok⟩; have HO1 : Hid (((Below w.heap.size w y1) ∧ BxM y1 w.heap.size (.slice a1 P.d.length c1) (.slice a2 P.v.length c2) (.slice a3 P.o.length c3) (.slice a4 P.p.length c4)) ∧ BxM y1 (w.heap.size + 1) (.slice b1 Q.d.length d1) (.slice b2 Q.v.length d2) (.slice b3 Q.o.length d3) (.slice b4 Q.p.length d4)) := HK0.out _ _ HO0.out ok; clear ok HO0 p0 p1 p2 p3 p4 q0 q1 q2 q3 q4; obtain ⟨p0, p1, p2, p3, p4⟩ := HO1.out.1.2; obtain ⟨q0, q1, q2, q3, q4⟩ := HO1.out.2))
    go_ret
    exact ⟨ret_bool HR.out.symm, HO1.out.1.1⟩
  · cases x2
    · skip
      have HR : Hid (EE = false) := by unfold Hid; rw [HE.out]; simp
      have HK0 : Hid (KeepP fun w1 => ((Below w.heap.size w w1) ∧ BxM w1 w.heap.size (.slice a1 P.d.length c1) (.slice a2 P.v.length c2) (.slice a3 P.o.length c3) (.slice a4 P.p.length c4)) ∧ BxM w1 (w.heap.size + 1) (.slice b1 Q.d.length d1) (.slice b2 Q.v.length d2) (.slice b3 Q.o.length d3) (.slice b4 Q.p.length d4)) := (KeepP.and ((KeepP.and (keepBelow w) (keepBxM _ _ _ _ _))) (keepBxM _ _ _ _ _))
      have HO0 : Hid (((Below w.heap.size w ((w.alloc (.cells #[.slice a1 P.d.length c1, .slice a2 P.v.length c2, .slice a3 P.o.length c3, .slice a4 P.p.length c4] 24)).alloc (.cells #[.slice b1 Q.d.length d1, .slice b2 Q.v.length d2, .slice b3 Q.o.length d3, .slice b4 Q.p.length d4] 24))) ∧ BxM ((w.alloc (.cells #[.slice a1 P.d.length c1, .slice a2 P.v.length c2, .slice a3 P.o.length c3, .slice a4 P.p.length c4] 24)).alloc (.cells #[.slice b1 Q.d.length d1, .slice b2 Q.v.length d2, .slice b3 Q.o.length d3, .slice b4 Q.p.length d4] 24)) w.heap.size (.slice a1 P.d.length c1) (.slice a2 P.v.length c2) (.slice a3 P.o.length c3) (.slice a4 P.p.length c4)) ∧ BxM ((w.alloc (.cells #[.slice a1 P.d.length c1, .slice a2 P.v.length c2, .slice a3 P.o.length c3, .slice a4 P.p.length c4] 24)).alloc (.cells #[.slice b1 Q.d.length d1, .slice b2 Q.v.length d2, .slice b3 Q.o.length d3, .slice b4 Q.p.length d4] 24)) (w.heap.size + 1) (.slice b1 Q.d.length d1) (.slice b2 Q.v.length d2) (.slice b3 Q.o.length d3) (.slice b4 Q.p.length d4)) := ⟨⟨boxB2 _ _ _, keepBxM _ _ _ _ _ _ _ (BxM.new rfl _ _ _ _) (boxB _ _)⟩, BxM.new (by simp) _ _ _ _⟩
      obtain ⟨p0, p1, p2, p3, p4⟩ := HO0.out.1.2
      obtain ⟨q0, q1, q2, q3, q4⟩ := HO0.out.2
      go_enter Tryz.func11, Tryz.ntmps11
      go_wp2_with (first
        | (have _h := HO0; go_at_call 24; refine (H1.out _ (HO0.out.1.1)).mono ?_; rintro e y1 ⟨rfl, ok⟩; have HO1 : Hid (((Below w.heap.size w y1) ∧ BxM y1 w.heap.size (.slice a1 P.d.length c1) (.slice a2 P.v.length c2) (.slice a3 P.o.length c3) (.slice a4 P.p.length c4)) ∧ BxM y1 (w.heap.size + 1) (.slice b1 Q.d.length d1) (.slice b2 Q.v.length d2) (.slice b3 Q.o.length d3) (.slice b4 Q.p.length d4)) := HK0.out _ _ HO0.out ok; clear ok HO0 p0 p1 p2 p3 p4 q0 q1 q2 q3 q4; obtain ⟨p0, p1, p2, p3, p4⟩ := HO1.out.1.2; obtain ⟨q0, q1, q2, q3, q4⟩ := HO1.out.2)
        | (have _h := HO1; go_at_call 24; refine (H2.out _ (HO1.out.1.1)).mono ?_; rintro e y2 ⟨rfl, ok⟩; have HO2 : Hid (((Below w.heap.size w y2) ∧ BxM y2 w.heap.size (.slice a1 P.d.length c1) (.slice a2 P.v.length c2) (.slice a3 P.o.length c3) (.slice a4 P.p.length c4)) ∧ BxM y2 (w.heap.size + 1) (.slice b1 Q.d.length d1) (.slice b2 Q.v.length d2) (.slice b3 Q.o.length d3) (.slice b4 Q.p.length d4)) := HK0.out _ _ HO1.out ok; clear ok HO1 p0 p1 p2 p3 p4 q0 q1 q2 q3 q4; obtain ⟨p0, p1, p2, p3, p4⟩ := HO2.out.1.2; obtain ⟨q0, q1, q2, q3, q4⟩ := HO2.out.2))
      go_ret
      exact ⟨ret_bool HR.out.symm, HO2.out.1.1⟩
    · cases x3
      · skip
        have HR : Hid (EE = false) := by unfold Hid; rw [HE.out]; simp
        have HK0 : Hid (KeepP fun w1 => ((Below w.heap.size w w1) ∧ BxM w1 w.heap.size (.slice a1 P.d.length c1) (.slice a2 P.v.length c2) (.slice a3 P.o.length c3) (.slice a4 P.p.length c4)) ∧ BxM w1 (w.heap.size + 1) (.slice b1 Q.d.length d1) (.slice b2 Q.v.length d2) (.slice b3 Q.o.length d3) (.slice b4 Q.p.length d4)) := (KeepP.and ((KeepP.and (keepBelow w) (keepBxM _ _ _ _ _))) (keepBxM _ _ _ _ _))
        have HO0 : Hid (((Below w.heap.size w ((w.alloc (.cells #[.slice a1 P.d.length c1, .slice a2 P.v.length c2, .slice a3 P.o.length c3, .slice a4 P.p.length c4] 24)).alloc (.cells #[.slice b1 Q.d.length d1, .slice b2 Q.v.length d2, .slice b3 Q.o.length d3, .slice b4 Q.p.length d4] 24))) ∧ BxM ((w.alloc (.cells #[.slice a1 P.d.length c1, .slice a2 P.v.length c2, .slice a3 P.o.length c3, .slice a4 P.p.length c4] 24)).alloc (.cells #[.slice b1 Q.d.length d1, .slice b2 Q.v.length d2, .slice b3 Q.o.length d3, .slice b4 Q.p.length d4] 24)) w.heap.size (.slice a1 P.d.length c1) (.slice a2 P.v.length c2) (.slice a3 P.o.length c3) (.slice a4 P.p.length c4)) ∧ BxM ((w.alloc (.cells #[.slice a1 P.d.length c1, .slice a2 P.v.length c2, .slice a3 P.o.length c3, .slice a4 P.p.length c4] 24)).alloc (.cells #[.slice b1 Q.d.length d1, .slice b2 Q.v.length d2, .slice b3 Q.o.length d3, .slice b4 Q.p.length d4] 24)) (w.heap.size + 1) (.slice b1 Q.d.length d1) (.slice b2 Q.v.length d2) (.slice b3 Q.o.length d3) (.slice b4 Q.p.length d4)) := ⟨⟨boxB2 _ _ _, keepBxM _ _ _ _ _ _ _ (BxM.new rfl _ _ _ _) (boxB _ _)⟩, BxM.new (by simp) _ _ _ _⟩
        obtain ⟨p0, p1, p2, p3, p4⟩ := HO0.out.1.2
        obtain ⟨q0, q1, q2, q3, q4⟩ := HO0.out.2
        go_enter Tryz.func11, Tryz.ntmps11
        go_wp2_with (first
          | (have _h := HO0; go_at_call 24; refine (H1.out _ (HO0.out.1.1)).mono ?_; rintro e y1 ⟨rfl, ok⟩; have HO1 : Hid (((Below w.heap.size w y1) ∧ BxM y1 w.heap.size (.slice a1 P.d.length c1) (.slice a2 P.v.length c2) (.slice a3 P.o.length c3) (.slice a4 P.p.length c4)) ∧ BxM y1 (w.heap.size + 1) (.slice b1 Q.d.length d1) (.slice b2 Q.v.length d2) (.slice b3 Q.o.length d3) (.slice b4 Q.p.length d4)) := HK0.out _ _ HO0.out ok; clear ok HO0 p0 p1 p2 p3 p4 q0 q1 q2 q3 q4; obtain ⟨p0, p1, p2, p3, p4⟩ := HO1.out.1.2; obtain ⟨q0, q1, q2, q3, q4⟩ := HO1.out.2)
          | (have _h := HO1; go_at_call 24; refine (H2.out _ (HO1.out.1.1)).mono ?_; rintro e y2 ⟨rfl, ok⟩; have HO2 : Hid (((Below w.heap.size w y2) ∧ BxM y2 w.heap.size (.slice a1 P.d.length c1) (.slice a2 P.v.length c2) (.slice a3 P.o.length c3) (.slice a4 P.p.length c4)) ∧ BxM y2 (w.heap.size + 1) (.slice b1 Q.d.length d1) (.slice b2 Q.v.length d2) (.slice b3 Q.o.length d3) (.slice b4 Q.p.length d4)) := HK0.out _ _ HO1.out ok; clear ok HO1 p0 p1 p2 p3 p4 q0 q1 q2 q3 q4; obtain ⟨p0, p1, p2, p3, p4⟩ := HO2.out.1.2; obtain ⟨q0, q1, q2, q3, q4⟩ := HO2.out.2)
          | (have _h := HO2; go_at_call 24; refine (H3.out _ (HO2.out.1.1)).mono ?_; rintro e y3 ⟨rfl, ok⟩; have HO3 : Hid (((Below w.heap.size w y3) ∧ BxM y3 w.heap.size (.slice a1 P.d.length c1) (.slice a2 P.v.length c2) (.slice a3 P.o.length c3) (.slice a4 P.p.length c4)) ∧ BxM y3 (w.heap.size + 1) (.slice b1 Q.d.length d1) (.slice b2 Q.v.length d2) (.slice b3 Q.o.length d3) (.slice b4 Q.p.length d4)) := HK0.out _ _ HO2.out ok; clear ok HO2 p0 p1 p2 p3 p4 q0 q1 q2 q3 q4; obtain ⟨p0, p1, p2, p3, p4⟩ := HO3.out.1.2; obtain ⟨q0, q1, q2, q3, q4⟩ := HO3.out.2))
        go_ret
        exact ⟨ret_bool HR.out.symm, HO3.out.1.1⟩
      · cases x4
        · skip
          have HR : Hid (EE = false) := by unfold Hid; rw [HE.out]; simp
          have HK0 : Hid (KeepP fun w1 => ((Below w.heap.size w w1) ∧ BxM w1 w.heap.size (.slice a1 P.d.length c1) (.slice a2 P.v.length c2) (.slice a3 P.o.length c3) (.slice a4 P.p.length c4)) ∧ BxM w1 (w.heap.size + 1) (.slice b1 Q.d.length d1) (.slice b2 Q.v.length d2) (.slice b3 Q.o.length d3) (.slice b4 Q.p.length d4)) := (KeepP.and ((KeepP.and (keepBelow w) (keepBxM _ _ _ _ _))) (keepBxM _ _ _ _ _))
          have HO0 : Hid (((Below w.heap.size w ((w.alloc (.cells #[.slice a1 P.d.length c1, .slice a2 P.v.length c2, .slice a3 P.o.length c3, .slice a4 P.p.length c4] 24)).alloc (.cells #[.slice b1 Q.d.length d1, .slice b2 Q.v.length d2, .slice b3 Q.o.length d3, .slice b4 Q.p.length d4] 24))) ∧ BxM ((w.alloc (.cells #[.slice a1 P.d.length c1, .slice a2 P.v.length c2, .slice a3 P.o.length c3, .slice a4 P.p.length c4] 24)).alloc (.cells #[.slice b1 Q.d.length d1, .slice b2 Q.v.length d2, .slice b3 Q.o.length d3, .slice b4 Q.p.length d4] 24)) w.heap.size (.slice a1 P.d.length c1) (.slice a2 P.v.length c2) (.slice a3 P.o.length c3) (.slice a4 P.p.length c4)) ∧ BxM ((w.alloc (.cells #[.slice a1 P.d.length c1, .slice a2 P.v.length c2, .slice a3 P.o.length c3, .slice a4 P.p.length c4] 24)).alloc (.cells #[.slice b1 Q.d.length d1, .slice b2 Q.v.length d2, .slice b3 Q.o.length d3, .slice b4 Q.p.length d4] 24)) (w.heap.size + 1) (.slice b1 Q.d.length d1) (.slice b2 Q.v.length d2) (.slice b3 Q.o.length d3) (.slice b4 Q.p.length d4)) := ⟨⟨boxB2 _ _ _, keepBxM _ _ _ _ _ _ _ (BxM.new rfl _ _ _ _) (boxB _ _)⟩, BxM.new (by simp) _ _ _ _⟩
          obtain ⟨p0, p1, p2, p3, p4⟩ := HO0.out.1.2
          obtain ⟨q0, q1, q2, q3, q4⟩ := HO0.out.2
          go_enter Tryz.func11, Tryz.ntmps11
          go_wp2_with (first
            | (have _h := HO0; go_at_call 24; refine (H1.out _ (HO0.out.1.1)).mono ?_; rintro e y1 ⟨rfl, ok⟩; have HO1 : Hid (((Below w.heap.size w y1) ∧ BxM y1 w.heap.size (.slice a1 P.d.length c1) (.slice a2 P.v.length c2) (.slice a3 P.o.length c3) (.slice a4 P.p.length c4)) ∧ BxM y1 (w.heap.size + 1) (.slice b1 Q.d.length d1) (.slice b2 Q.v.length d2) (.slice b3 Q.o.length d3) (.slice b4 Q.p.length d4)) := HK0.out _ _ HO0.out ok; clear ok HO0 p0 p1 p2 p3 p4 q0 q1 q2 q3 q4; obtain ⟨p0, p1, p2, p3, p4⟩ := HO1.out.1.2; obtain ⟨q0, q1, q2, q3, q4⟩ := HO1.out.2)
            | (have _h := HO1; go_at_call 24; refine (H2.out _ (HO1.out.1.1)).mono ?_; rintro e y2 ⟨rfl, ok⟩; have HO2 : Hid (((Below w.heap.size w y2) ∧ BxM y2 w.heap.size (.slice a1 P.d.length c1) (.slice a2 P.v.length c2) (.slice a3 P.o.length c3) (.slice a4 P.p.length c4)) ∧ BxM y2 (w.heap.size + 1) (.slice b1 Q.d.length d1) (.slice b2 Q.v.length d2) (.slice b3 Q.o.length d3) (.slice b4 Q.p.length d4)) := HK0.out _ _ HO1.out ok; clear ok HO1 p0 p1 p2 p3 p4 q0 q1 q2 q3 q4; obtain ⟨p0, p1, p2, p3, p4⟩ := HO2.out.1.2; obtain ⟨q0, q1, q2, q3, q4⟩ := HO2.out.2)
            | (have _h := HO2; go_at_call 24; refine (H3.out _ (HO2.out.1.1)).mono ?_; rintro e y3 ⟨rfl, ok⟩; have HO3 : Hid (((Below w.heap.size w y3) ∧ BxM y3 w.heap.size (.slice a1 P.d.length c1) (.slice a2 P.v.length c2) (.slice a3 P.o.length c3) (.slice a4 P.p.length c4)) ∧ BxM y3 (w.heap.size + 1) (.slice b1 Q.d.length d1) (.slice b2 Q.v.length d2) (.slice b3 Q.o.length d3) (.slice b4 Q.p.length d4)) := HK0.out _ _ HO2.out ok; clear ok HO2 p0 p1 p2 p3 p4 q0 q1 q2 q3 q4; obtain ⟨p0, p1, p2, p3, p4⟩ := HO3.out.1.2; obtain ⟨q0, q1, q2, q3, q4⟩ := HO3.out.2)
            | (have _h := HO3; go_at_call 24; refine (H4.out _ (HO3.out.1.1)).mono ?_; rintro e y4 ⟨rfl, ok⟩; have HO4 : Hid (((Below w.heap.size w y4) ∧ BxM y4 w.heap.size (.slice a1 P.d.length c1) (.slice a2 P.v.length c2) (.slice a3 P.o.length c3) (.slice a4 P.p.length c4)) ∧ BxM y4 (w.heap.size + 1) (.slice b1 Q.d.length d1) (.slice b2 Q.v.length d2) (.slice b3 Q.o.length d3) (.slice b4 Q.p.length d4)) := HK0.out _ _ HO3.out ok; clear ok HO3 p0 p1 p2 p3 p4 q0 q1 q2 q3 q4; obtain ⟨p0, p1, p2, p3, p4⟩ := HO4.out.1.2; obtain ⟨q0, q1, q2, q3, q4⟩ := HO4.out.2))
          go_ret
          exact ⟨ret_bool HR.out.symm, HO4.out.1.1⟩
        · skip
          have HR : Hid (EE = true) := by unfold Hid; rw [HE.out]; simp
          have HK0 : Hid (KeepP fun w1 => ((Below w.heap.size w w1) ∧ BxM w1 w.heap.size (.slice a1 P.d.length c1) (.slice a2 P.v.length c2) (.slice a3 P.o.length c3) (.slice a4 P.p.length c4)) ∧ BxM w1 (w.heap.size + 1) (.slice b1 Q.d.length d1) (.slice b2 Q.v.length d2) (.slice b3 Q.o.length d3) (.slice b4 Q.p.length d4)) := (KeepP.and ((KeepP.and (keepBelow w) (keepBxM _ _ _ _ _))) (keepBxM _ _ _ _ _))
          have HO0 : Hid (((Below w.heap.size w ((w.alloc (.cells #[.slice a1 P.d.length c1, .slice a2 P.v.length c2, .slice a3 P.o.length c3, .slice a4 P.p.length c4] 24)).alloc (.cells #[.slice b1 Q.d.length d1, .slice b2 Q.v.length d2, .slice b3 Q.o.length d3, .slice b4 Q.p.length d4] 24))) ∧ BxM ((w.alloc (.cells #[.slice a1 P.d.length c1, .slice a2 P.v.length c2, .slice a3 P.o.length c3, .slice a4 P.p.length c4] 24)).alloc (.cells #[.slice b1 Q.d.length d1, .slice b2 Q.v.length d2, .slice b3 Q.o.length d3, .slice b4 Q.p.length d4] 24)) w.heap.size (.slice a1 P.d.length c1) (.slice a2 P.v.length c2) (.slice a3 P.o.length c3) (.slice a4 P.p.length c4)) ∧ BxM ((w.alloc (.cells #[.slice a1 P.d.length c1, .slice a2 P.v.length c2, .slice a3 P.o.length c3, .slice a4 P.p.length c4] 24)).alloc (.cells #[.slice b1 Q.d.length d1, .slice b2 Q.v.length d2, .slice b3 Q.o.length d3, .slice b4 Q.p.length d4] 24)) (w.heap.size + 1) (.slice b1 Q.d.length d1) (.slice b2 Q.v.length d2) (.slice b3 Q.o.length d3) (.slice b4 Q.p.length d4)) := ⟨⟨boxB2 _ _ _, keepBxM _ _ _ _ _ _ _ (BxM.new rfl _ _ _ _) (boxB _ _)⟩, BxM.new (by simp) _ _ _ _⟩
          obtain ⟨p0, p1, p2, p3, p4⟩ := HO0.out.1.2
          obtain ⟨q0, q1, q2, q3, q4⟩ := HO0.out.2
          go_enter Tryz.func11, Tryz.ntmps11
          go_wp2_with (first
            | (have _h := HO0; go_at_call 24; refine (H1.out _ (HO0.out.1.1)).mono ?_; rintro e y1 ⟨rfl, ok⟩; have HO1 : Hid (((Below w.heap.size w y1) ∧ BxM y1 w.heap.size (.slice a1 P.d.length c1) (.slice a2 P.v.length c2) (.slice a3 P.o.length c3) (.slice a4 P.p.length c4)) ∧ BxM y1 (w.heap.size + 1) (.slice b1 Q.d.length d1) (.slice b2 Q.v.length d2) (.slice b3 Q.o.length d3) (.slice b4 Q.p.length d4)) := HK0.out _ _ HO0.out ok; clear ok HO0 p0 p1 p2 p3 p4 q0 q1 q2 q3 q4; obtain ⟨p0, p1, p2, p3, p4⟩ := HO1.out.1.2; obtain ⟨q0, q1, q2, q3, q4⟩ := HO1.out.2)
            | (have _h := HO1; go_at_call 24; refine (H2.out _ (HO1.out.1.1)).mono ?_; rintro e y2 ⟨rfl, ok⟩; have HO2 : Hid (((Below w.heap.size w y2) ∧ BxM y2 w.heap.size (.slice a1 P.d.length c1) (.slice a2 P.v.length c2) (.slice a3 P.o.length c3) (.slice a4 P.p.length c4)) ∧ BxM y2 (w.heap.size + 1) (.slice b1 Q.d.length d1) (.slice b2 Q.v.length d2) (.slice b3 Q.o.length d3) (.slice b4 Q.p.length d4)) := HK0.out _ _ HO1.out ok; clear ok HO1 p0 p1 p2 p3 p4 q0 q1 q2 q3 q4; obtain ⟨p0, p1, p2, p3, p4⟩ := HO2.out.1.2; obtain ⟨q0, q1, q2, q3, q4⟩ := HO2.out.2)
            | (have _h := HO2; go_at_call 24; refine (H3.out _ (HO2.out.1.1)).mono ?_; rintro e y3 ⟨rfl, ok⟩; have HO3 : Hid (((Below w.heap.size w y3) ∧ BxM y3 w.heap.size (.slice a1 P.d.length c1) (.slice a2 P.v.length c2) (.slice a3 P.o.length c3) (.slice a4 P.p.length c4)) ∧ BxM y3 (w.heap.size + 1) (.slice b1 Q.d.length d1) (.slice b2 Q.v.length d2) (.slice b3 Q.o.length d3) (.slice b4 Q.p.length d4)) := HK0.out _ _ HO2.out ok; clear ok HO2 p0 p1 p2 p3 p4 q0 q1 q2 q3 q4; obtain ⟨p0, p1, p2, p3, p4⟩ := HO3.out.1.2; obtain ⟨q0, q1, q2, q3, q4⟩ := HO3.out.2)
            | (have _h := HO3; go_at_call 24; refine (H4.out _ (HO3.out.1.1)).mono ?_; rintro e y4 ⟨rfl, ok⟩; have HO4 : Hid (((Below w.heap.size w y4) ∧ BxM y4 w.heap.size (.slice a1 P.d.length c1) (.slice a2 P.v.length c2) (.slice a3 P.o.length c3) (.slice a4 P.p.length c4)) ∧ BxM y4 (w.heap.size + 1) (.slice b1 Q.d.length d1) (.slice b2 Q.v.length d2) (.slice b3 Q.o.length d3) (.slice b4 Q.p.length d4)) := HK0.out _ _ HO3.out ok; clear ok HO3 p0 p1 p2 p3 p4 q0 q1 q2 q3 q4; obtain ⟨p0, p1, p2, p3, p4⟩ := HO4.out.1.2; obtain ⟨q0, q1, q2, q3, q4⟩ := HO4.out.2))
          go_ret
          exact ⟨ret_bool HR.out.symm, HO4.out.1.1⟩

set_option maxHeartbeats 3200000 in
theorem rTextM_any {P : Mn} {v1 v2 v3 v4 : Value} {w : World} (h : MnAt w P v1 v2 v3 v4) (hm : mayD P.d = true ∧ mayD P.v = true ∧ mayD P.o = true ∧ mayD P.p = true) :
    Calls Tryz.prog 20 #[.agg #[v1, v2, v3, v4]] w fun e w' => e = .returned (.string ⟨(textM P).toArray⟩) ∧ Below w.heap.size w w' := by
  have HL1 : Hid (∀ w1, Below w.heap.size w w1 → Calls Tryz.prog 37 #[.string (mwK 0), v1] w1 fun e w' => e = .returned (.string ⟨(listT (mwK 0) P.d).toArray⟩) ∧ Below w1.heap.size w1 w') := fun w1 hb => rLines_is (h.1.below hb) hm.1 (by decide)
  have HL2 : Hid (∀ w1, Below w.heap.size w w1 → Calls Tryz.prog 37 #[.string (mwK 1), v2] w1 fun e w' => e = .returned (.string ⟨(listT (mwK 1) P.v).toArray⟩) ∧ Below w1.heap.size w1 w') := fun w1 hb => rLines_is (h.2.1.below hb) hm.2.1 (by decide)
  have HL3 : Hid (∀ w1, Below w.heap.size w w1 → Calls Tryz.prog 37 #[.string (mwK 2), v3] w1 fun e w' => e = .returned (.string ⟨(listT (mwK 2) P.o).toArray⟩) ∧ Below w1.heap.size w1 w') := fun w1 hb => rLines_is (h.2.2.1.below hb) hm.2.2.1 (by decide)
  have HL4 : Hid (∀ w1, Below w.heap.size w w1 → Calls Tryz.prog 37 #[.string (mwK 3), v4] w1 fun e w' => e = .returned (.string ⟨(listT (mwK 3) P.p).toArray⟩) ∧ Below w1.heap.size w1 w') := fun w1 hb => rLines_is (h.2.2.2.below hb) hm.2.2.2 (by decide)
  have s1 : (⟨(listT (mwK 0) P.d).toArray⟩ : ByteArray).size ≤ 80000 := by have := list_len (x := mwK 0) (by decide) hm.1 P.d.length; rw [List.take_length] at this; rw [arr_size]; exact this
  have s2 : (⟨(listT (mwK 1) P.v).toArray⟩ : ByteArray).size ≤ 80000 := by have := list_len (x := mwK 1) (by decide) hm.2.1 P.v.length; rw [List.take_length] at this; rw [arr_size]; exact this
  have s3 : (⟨(listT (mwK 2) P.o).toArray⟩ : ByteArray).size ≤ 80000 := by have := list_len (x := mwK 2) (by decide) hm.2.2.1 P.o.length; rw [List.take_length] at this; rw [arr_size]; exact this
  have s4 : (⟨(listT (mwK 3) P.p).toArray⟩ : ByteArray).size ≤ 80000 := by have := list_len (x := mwK 3) (by decide) hm.2.2.2 P.p.length; rw [List.take_length] at this; rw [arr_size]; exact this
  have HTX : Hid ((⟨#[112, 114, 111, 106, 101, 99, 116, 10]⟩ ++ ⟨(listT (mwK 0) P.d).toArray⟩ ++ ⟨(listT (mwK 1) P.v).toArray⟩ ++ ⟨(listT (mwK 2) P.o).toArray⟩ ++ ⟨(listT (mwK 3) P.p).toArray⟩ : ByteArray) = ⟨(textM P).toArray⟩) := by
    refine same_list ?_
    simp only [catL]
    unfold textM preM
    simp
  have k0 : mwK 0 = ⟨#[110, 101, 101, 100, 115]⟩ := rfl
  have k1 : mwK 1 = ⟨#[100, 101, 118]⟩ := rfl
  have k2 : mwK 2 = ⟨#[108, 105, 107, 101, 115]⟩ := rfl
  have k3 : mwK 3 = ⟨#[112, 105, 110, 115]⟩ := rfl
  obtain ⟨a1, c1, rfl⟩ := h.1.sl
  obtain ⟨a2, c2, rfl⟩ := h.2.1.sl
  obtain ⟨a3, c3, rfl⟩ := h.2.2.1.sl
  obtain ⟨a4, c4, rfl⟩ := h.2.2.2.sl
  clear h hm
  generalize textM P = TP at *
  generalize (⟨(listT (mwK 0) P.d).toArray⟩ : ByteArray) = T1 at *
  generalize (⟨(listT (mwK 1) P.v).toArray⟩ : ByteArray) = T2 at *
  generalize (⟨(listT (mwK 2) P.o).toArray⟩ : ByteArray) = T3 at *
  generalize (⟨(listT (mwK 3) P.p).toArray⟩ : ByteArray) = T4 at *
  rw [k0] at HL1
  rw [k1] at HL2
  rw [k2] at HL3
  rw [k3] at HL4
  clear k0 k1 k2 k3
  have z0 : (⟨#[112, 114, 111, 106, 101, 99, 116, 10]⟩ : ByteArray).size = 8 := rfl
  have e1 := fun W : World => run_string_add_sum (P := Tryz.prog) (w := W) (⟨#[112, 114, 111, 106, 101, 99, 116, 10]⟩) T1 (by omega)
  have e2 := fun W : World => run_string_add_sum (P := Tryz.prog) (w := W) (⟨#[112, 114, 111, 106, 101, 99, 116, 10]⟩ ++ T1) T2 (by rw [catZ]; omega)
  have e3 := fun W : World => run_string_add_sum (P := Tryz.prog) (w := W) (⟨#[112, 114, 111, 106, 101, 99, 116, 10]⟩ ++ T1 ++ T2) T3 (by rw [catZ, catZ]; omega)
  have e4 := fun W : World => run_string_add_sum (P := Tryz.prog) (w := W) (⟨#[112, 114, 111, 106, 101, 99, 116, 10]⟩ ++ T1 ++ T2 ++ T3) T4 (by rw [catZ, catZ, catZ]; omega)
  clear z0 s1 s2 s3 s4
  have HO : Hid (Below w.heap.size w (w.alloc (.cells #[.slice a1 P.d.length c1, .slice a2 P.v.length c2, .slice a3 P.o.length c3, .slice a4 P.p.length c4] 24)) ∧ BxM (w.alloc (.cells #[.slice a1 P.d.length c1, .slice a2 P.v.length c2, .slice a3 P.o.length c3, .slice a4 P.p.length c4] 24)) w.heap.size (.slice a1 P.d.length c1) (.slice a2 P.v.length c2) (.slice a3 P.o.length c3) (.slice a4 P.p.length c4)) := ⟨boxB _ _, BxM.new rfl _ _ _ _⟩
  have HK : Hid (KeepP fun w1 => Below w.heap.size w w1 ∧ BxM w1 w.heap.size (.slice a1 P.d.length c1) (.slice a2 P.v.length c2) (.slice a3 P.o.length c3) (.slice a4 P.p.length c4)) := (keepBelow w).and (keepBxM _ _ _ _ _)
  have HC1 : Hid (∀ w1, (Below w.heap.size w w1 ∧ BxM w1 w.heap.size (.slice a1 P.d.length c1) (.slice a2 P.v.length c2) (.slice a3 P.o.length c3) (.slice a4 P.p.length c4)) → Calls Tryz.prog 37 #[.string ⟨#[110, 101, 101, 100, 115]⟩, .slice a1 P.d.length c1] w1 fun e w' => e = .returned (.string T1) ∧ Below w1.heap.size w1 w') := fun w1 hh => HL1.out w1 hh.1
  have HC2 : Hid (∀ w1, (Below w.heap.size w w1 ∧ BxM w1 w.heap.size (.slice a1 P.d.length c1) (.slice a2 P.v.length c2) (.slice a3 P.o.length c3) (.slice a4 P.p.length c4)) → Calls Tryz.prog 37 #[.string ⟨#[100, 101, 118]⟩, .slice a2 P.v.length c2] w1 fun e w' => e = .returned (.string T2) ∧ Below w1.heap.size w1 w') := fun w1 hh => HL2.out w1 hh.1
  have HC3 : Hid (∀ w1, (Below w.heap.size w w1 ∧ BxM w1 w.heap.size (.slice a1 P.d.length c1) (.slice a2 P.v.length c2) (.slice a3 P.o.length c3) (.slice a4 P.p.length c4)) → Calls Tryz.prog 37 #[.string ⟨#[108, 105, 107, 101, 115]⟩, .slice a3 P.o.length c3] w1 fun e w' => e = .returned (.string T3) ∧ Below w1.heap.size w1 w') := fun w1 hh => HL3.out w1 hh.1
  have HC4 : Hid (∀ w1, (Below w.heap.size w w1 ∧ BxM w1 w.heap.size (.slice a1 P.d.length c1) (.slice a2 P.v.length c2) (.slice a3 P.o.length c3) (.slice a4 P.p.length c4)) → Calls Tryz.prog 37 #[.string ⟨#[112, 105, 110, 115]⟩, .slice a4 P.p.length c4] w1 fun e w' => e = .returned (.string T4) ∧ Below w1.heap.size w1 w') := fun w1 hh => HL4.out w1 hh.1
  clear HL1 HL2 HL3 HL4
  go_enter Tryz.func20, Tryz.ntmps20
  go_wp2_with fail
  refine wp_region_keep HK.out (by kernel_rfl) (by kernel_rfl) (by first | exact HO.out | exact HK.out.drew HO.out) ?_
  intro C hin hout
  have HIN := hide3 hin
  have HOUT := hide3 hout
  clear hin hout HO
  repeat
    (with_reducible refine wpQuiet_step (fun K hK => ?_)
     go_simp
     first
       | (refine hK _ ?_; clear hK K)
       | (apply Exists.intro; refine ⟨fun w1 hC => ?_, hK _ ?_⟩; (focus ((first | (go_at_call 37; with_reducible exact callC' HIN.out HOUT.out HK.out HC1.out w1 hC) | (go_at_call 37; with_reducible exact callC' HIN.out HOUT.out HK.out HC2.out w1 hC) | (go_at_call 37; with_reducible exact callC' HIN.out HOUT.out HK.out HC3.out w1 hC) | (go_at_call 37; with_reducible exact callC' HIN.out HOUT.out HK.out HC4.out w1 hC) | (exact rfl) | (obtain ⟨hb1, ⟨y0, y1, y2, y3, y4⟩⟩ := HOUT.out w1 hC; clear hC; go_simp; first | done | exact rfl)); done)); clear hK K))
  refine wpQuiet_nil ?_
  intro wn hC
  have HO := hide3 (HOUT.out _ hC)
  clear hC HIN HOUT C
  obtain ⟨hb1, ⟨y0, y1, y2, y3, y4⟩⟩ := HO.out
  go_wp2
  go_ret
  exact ⟨congrArg (fun s => Ending.returned (.string s)) HTX.out, HO.out.1⟩

/-- A manifest may be, as the document says. -/
def docMB (P : Mn) : Bool := (mayD P.d && (mayD P.v && (mayD P.o && mayD P.p))) && (apartB P.d P.v && (apartB P.d P.o && apartB P.v P.o)) && decide ((textM P).length ≤ 4096)
theorem docM_is (P : Mn) : docMB P = writtenMB P := by
  unfold docMB writtenMB soundM
  cases hl : (mayD P.d && (mayD P.v && (mayD P.o && mayD P.p)))
  · simp
  · rw [Bool.and_eq_true, Bool.and_eq_true, Bool.and_eq_true] at hl
    have r : ∀ {L : List Dp}, mayD L = true → riseD none L = true := fun h => by unfold mayD at h; rw [Bool.and_eq_true] at h; exact h.2
    rw [once_apart (r hl.1) (r hl.2.1) (r hl.2.2.1)]

set_option maxHeartbeats 6400000 in
theorem rMayM_doc {P : Mn} {v1 v2 v3 v4 : Value} {w : World} (h : MnAt w P v1 v2 v3 v4) (hz : P.d.length ≤ 9223372036854775807 ∧ P.v.length ≤ 9223372036854775807 ∧ P.o.length ≤ 9223372036854775807 ∧ P.p.length ≤ 9223372036854775807) (hn : (∀ d ∈ P.d, d.nm.size ≤ 9223372036854775807) ∧ (∀ d ∈ P.v, d.nm.size ≤ 9223372036854775807) ∧ (∀ d ∈ P.o, d.nm.size ≤ 9223372036854775807) ∧ ∀ d ∈ P.p, d.nm.size ≤ 9223372036854775807) :
    Calls Tryz.prog 9 #[.agg #[v1, v2, v3, v4]] w fun e w' => e = .returned (.bool (docMB P)) ∧ Below w.heap.size w w' := by
  obtain ⟨a1, c1, rfl⟩ := h.1.sl
  obtain ⟨a2, c2, rfl⟩ := h.2.1.sl
  obtain ⟨a3, c3, rfl⟩ := h.2.2.1.sl
  obtain ⟨a4, c4, rfl⟩ := h.2.2.2.sl
  have H1 : Hid (∀ w1, Below w.heap.size w w1 → Calls Tryz.prog 18 #[.slice a1 P.d.length c1] w1 fun e w' => e = .returned (.bool (mayD P.d)) ∧ Below w1.heap.size w1 w') := fun w1 hb => rList_any (h.1.below hb) hz.1 hn.1
  have H2 : Hid (∀ w1, Below w.heap.size w w1 → Calls Tryz.prog 18 #[.slice a2 P.v.length c2] w1 fun e w' => e = .returned (.bool (mayD P.v)) ∧ Below w1.heap.size w1 w') := fun w1 hb => rList_any (h.2.1.below hb) hz.2.1 hn.2.1
  have H3 : Hid (∀ w1, Below w.heap.size w w1 → Calls Tryz.prog 18 #[.slice a3 P.o.length c3] w1 fun e w' => e = .returned (.bool (mayD P.o)) ∧ Below w1.heap.size w1 w') := fun w1 hb => rList_any (h.2.2.1.below hb) hz.2.2.1 hn.2.2.1
  have H4 : Hid (∀ w1, Below w.heap.size w w1 → Calls Tryz.prog 18 #[.slice a4 P.p.length c4] w1 fun e w' => e = .returned (.bool (mayD P.p)) ∧ Below w1.heap.size w1 w') := fun w1 hb => rList_any (h.2.2.2.below hb) hz.2.2.2 hn.2.2.2
  have A12 : Hid (mayD P.d = true → mayD P.v = true → ∀ w1, Below w.heap.size w w1 → Calls Tryz.prog 19 #[.slice a1 P.d.length c1, .slice a2 P.v.length c2] w1 fun e w' => e = .returned (.bool (apartB P.d P.v)) ∧ Below w1.heap.size w1 w') := fun g1 g2 w1 hb => rApart_any (h.1.below hb) (h.2.1.below hb) ⟨by have := (short_may g1).1; omega, by have := (short_may g2).1; omega⟩
  have A13 : Hid (mayD P.d = true → mayD P.o = true → ∀ w1, Below w.heap.size w w1 → Calls Tryz.prog 19 #[.slice a1 P.d.length c1, .slice a3 P.o.length c3] w1 fun e w' => e = .returned (.bool (apartB P.d P.o)) ∧ Below w1.heap.size w1 w') := fun g1 g2 w1 hb => rApart_any (h.1.below hb) (h.2.2.1.below hb) ⟨by have := (short_may g1).1; omega, by have := (short_may g2).1; omega⟩
  have A23 : Hid (mayD P.v = true → mayD P.o = true → ∀ w1, Below w.heap.size w w1 → Calls Tryz.prog 19 #[.slice a2 P.v.length c2, .slice a3 P.o.length c3] w1 fun e w' => e = .returned (.bool (apartB P.v P.o)) ∧ Below w1.heap.size w1 w') := fun g1 g2 w1 hb => rApart_any (h.2.1.below hb) (h.2.2.1.below hb) ⟨by have := (short_may g1).1; omega, by have := (short_may g2).1; omega⟩
  have HT : Hid (mayD P.d = true → mayD P.v = true → mayD P.o = true → mayD P.p = true → ∀ w1, Below w.heap.size w w1 → Calls Tryz.prog 20 #[.agg #[.slice a1 P.d.length c1, .slice a2 P.v.length c2, .slice a3 P.o.length c3, .slice a4 P.p.length c4]] w1 fun e w' => e = .returned (.string ⟨(textM P).toArray⟩) ∧ Below w1.heap.size w1 w') := fun g1 g2 g3 g4 w1 hb => rTextM_any (h.below hb) ⟨g1, g2, g3, g4⟩
  have HD : Hid (docMB P = ((mayD P.d && (mayD P.v && (mayD P.o && mayD P.p))) && (apartB P.d P.v && (apartB P.d P.o && apartB P.v P.o)) && decide ((textM P).length ≤ 4096))) := rfl
  have HZZ : Hid ((⟨(textM P).toArray⟩ : ByteArray).size = (textM P).length) := arr_size _
  clear h hz hn
  generalize docMB P = DB at *
  generalize mayD P.d = b1 at *
  generalize mayD P.v = b2 at *
  generalize mayD P.o = b3 at *
  generalize mayD P.p = b4 at *
  generalize apartB P.d P.v = p12 at *
  generalize apartB P.d P.o = p13 at *
  generalize apartB P.v P.o = p23 at *
  generalize (⟨(textM P).toArray⟩ : ByteArray) = TX at *
  generalize (textM P).length = tl at *
  cases b1
  · skip
    have HR : Hid (DB = false) := by unfold Hid; rw [HD.out]; simp
    have HK0 : Hid (KeepP fun w1 => (Below w.heap.size w w1) ∧ BxM w1 w.heap.size (.slice a1 P.d.length c1) (.slice a2 P.v.length c2) (.slice a3 P.o.length c3) (.slice a4 P.p.length c4)) := (KeepP.and (keepBelow w) (keepBxM _ _ _ _ _))
    have HO0 : Hid ((Below w.heap.size w (w.alloc (.cells #[.slice a1 P.d.length c1, .slice a2 P.v.length c2, .slice a3 P.o.length c3, .slice a4 P.p.length c4] 24))) ∧ BxM (w.alloc (.cells #[.slice a1 P.d.length c1, .slice a2 P.v.length c2, .slice a3 P.o.length c3, .slice a4 P.p.length c4] 24)) w.heap.size (.slice a1 P.d.length c1) (.slice a2 P.v.length c2) (.slice a3 P.o.length c3) (.slice a4 P.p.length c4)) := ⟨boxB _ _, BxM.new rfl _ _ _ _⟩
    obtain ⟨g0, g1, g2, g3, g4⟩ := HO0.out.2
    go_enter Tryz.func9, Tryz.ntmps9
    go_wp2_with (first
      | (have _h := HO0; go_at_call 18; refine (H1.out _ (HO0.out.1)).mono ?_; rintro e y1 ⟨rfl, ok⟩; have HO1 : Hid ((Below w.heap.size w y1) ∧ BxM y1 w.heap.size (.slice a1 P.d.length c1) (.slice a2 P.v.length c2) (.slice a3 P.o.length c3) (.slice a4 P.p.length c4)) := HK0.out _ _ HO0.out ok; clear ok HO0 g0 g1 g2 g3 g4; obtain ⟨g0, g1, g2, g3, g4⟩ := HO1.out.2))
    go_ret
    exact ⟨ret_bool HR.out.symm, HO1.out.1⟩
  · cases b2
    · skip
      have HR : Hid (DB = false) := by unfold Hid; rw [HD.out]; simp
      have HK0 : Hid (KeepP fun w1 => (Below w.heap.size w w1) ∧ BxM w1 w.heap.size (.slice a1 P.d.length c1) (.slice a2 P.v.length c2) (.slice a3 P.o.length c3) (.slice a4 P.p.length c4)) := (KeepP.and (keepBelow w) (keepBxM _ _ _ _ _))
      have HO0 : Hid ((Below w.heap.size w (w.alloc (.cells #[.slice a1 P.d.length c1, .slice a2 P.v.length c2, .slice a3 P.o.length c3, .slice a4 P.p.length c4] 24))) ∧ BxM (w.alloc (.cells #[.slice a1 P.d.length c1, .slice a2 P.v.length c2, .slice a3 P.o.length c3, .slice a4 P.p.length c4] 24)) w.heap.size (.slice a1 P.d.length c1) (.slice a2 P.v.length c2) (.slice a3 P.o.length c3) (.slice a4 P.p.length c4)) := ⟨boxB _ _, BxM.new rfl _ _ _ _⟩
      obtain ⟨g0, g1, g2, g3, g4⟩ := HO0.out.2
      go_enter Tryz.func9, Tryz.ntmps9
      go_wp2_with (first
        | (have _h := HO0; go_at_call 18; refine (H1.out _ (HO0.out.1)).mono ?_; rintro e y1 ⟨rfl, ok⟩; have HO1 : Hid ((Below w.heap.size w y1) ∧ BxM y1 w.heap.size (.slice a1 P.d.length c1) (.slice a2 P.v.length c2) (.slice a3 P.o.length c3) (.slice a4 P.p.length c4)) := HK0.out _ _ HO0.out ok; clear ok HO0 g0 g1 g2 g3 g4; obtain ⟨g0, g1, g2, g3, g4⟩ := HO1.out.2)
        | (have _h := HO1; go_at_call 18; refine (H2.out _ (HO1.out.1)).mono ?_; rintro e y2 ⟨rfl, ok⟩; have HO2 : Hid ((Below w.heap.size w y2) ∧ BxM y2 w.heap.size (.slice a1 P.d.length c1) (.slice a2 P.v.length c2) (.slice a3 P.o.length c3) (.slice a4 P.p.length c4)) := HK0.out _ _ HO1.out ok; clear ok HO1 g0 g1 g2 g3 g4; obtain ⟨g0, g1, g2, g3, g4⟩ := HO2.out.2))
      go_ret
      exact ⟨ret_bool HR.out.symm, HO2.out.1⟩
    · cases b3
      · skip
        have HR : Hid (DB = false) := by unfold Hid; rw [HD.out]; simp
        have HK0 : Hid (KeepP fun w1 => (Below w.heap.size w w1) ∧ BxM w1 w.heap.size (.slice a1 P.d.length c1) (.slice a2 P.v.length c2) (.slice a3 P.o.length c3) (.slice a4 P.p.length c4)) := (KeepP.and (keepBelow w) (keepBxM _ _ _ _ _))
        have HO0 : Hid ((Below w.heap.size w (w.alloc (.cells #[.slice a1 P.d.length c1, .slice a2 P.v.length c2, .slice a3 P.o.length c3, .slice a4 P.p.length c4] 24))) ∧ BxM (w.alloc (.cells #[.slice a1 P.d.length c1, .slice a2 P.v.length c2, .slice a3 P.o.length c3, .slice a4 P.p.length c4] 24)) w.heap.size (.slice a1 P.d.length c1) (.slice a2 P.v.length c2) (.slice a3 P.o.length c3) (.slice a4 P.p.length c4)) := ⟨boxB _ _, BxM.new rfl _ _ _ _⟩
        obtain ⟨g0, g1, g2, g3, g4⟩ := HO0.out.2
        go_enter Tryz.func9, Tryz.ntmps9
        go_wp2_with (first
          | (have _h := HO0; go_at_call 18; refine (H1.out _ (HO0.out.1)).mono ?_; rintro e y1 ⟨rfl, ok⟩; have HO1 : Hid ((Below w.heap.size w y1) ∧ BxM y1 w.heap.size (.slice a1 P.d.length c1) (.slice a2 P.v.length c2) (.slice a3 P.o.length c3) (.slice a4 P.p.length c4)) := HK0.out _ _ HO0.out ok; clear ok HO0 g0 g1 g2 g3 g4; obtain ⟨g0, g1, g2, g3, g4⟩ := HO1.out.2)
          | (have _h := HO1; go_at_call 18; refine (H2.out _ (HO1.out.1)).mono ?_; rintro e y2 ⟨rfl, ok⟩; have HO2 : Hid ((Below w.heap.size w y2) ∧ BxM y2 w.heap.size (.slice a1 P.d.length c1) (.slice a2 P.v.length c2) (.slice a3 P.o.length c3) (.slice a4 P.p.length c4)) := HK0.out _ _ HO1.out ok; clear ok HO1 g0 g1 g2 g3 g4; obtain ⟨g0, g1, g2, g3, g4⟩ := HO2.out.2)
          | (have _h := HO2; go_at_call 18; refine (H3.out _ (HO2.out.1)).mono ?_; rintro e y3 ⟨rfl, ok⟩; have HO3 : Hid ((Below w.heap.size w y3) ∧ BxM y3 w.heap.size (.slice a1 P.d.length c1) (.slice a2 P.v.length c2) (.slice a3 P.o.length c3) (.slice a4 P.p.length c4)) := HK0.out _ _ HO2.out ok; clear ok HO2 g0 g1 g2 g3 g4; obtain ⟨g0, g1, g2, g3, g4⟩ := HO3.out.2))
        go_ret
        exact ⟨ret_bool HR.out.symm, HO3.out.1⟩
      · cases b4
        · skip
          have HR : Hid (DB = false) := by unfold Hid; rw [HD.out]; simp
          have HK0 : Hid (KeepP fun w1 => (Below w.heap.size w w1) ∧ BxM w1 w.heap.size (.slice a1 P.d.length c1) (.slice a2 P.v.length c2) (.slice a3 P.o.length c3) (.slice a4 P.p.length c4)) := (KeepP.and (keepBelow w) (keepBxM _ _ _ _ _))
          have HO0 : Hid ((Below w.heap.size w (w.alloc (.cells #[.slice a1 P.d.length c1, .slice a2 P.v.length c2, .slice a3 P.o.length c3, .slice a4 P.p.length c4] 24))) ∧ BxM (w.alloc (.cells #[.slice a1 P.d.length c1, .slice a2 P.v.length c2, .slice a3 P.o.length c3, .slice a4 P.p.length c4] 24)) w.heap.size (.slice a1 P.d.length c1) (.slice a2 P.v.length c2) (.slice a3 P.o.length c3) (.slice a4 P.p.length c4)) := ⟨boxB _ _, BxM.new rfl _ _ _ _⟩
          obtain ⟨g0, g1, g2, g3, g4⟩ := HO0.out.2
          go_enter Tryz.func9, Tryz.ntmps9
          go_wp2_with (first
            | (have _h := HO0; go_at_call 18; refine (H1.out _ (HO0.out.1)).mono ?_; rintro e y1 ⟨rfl, ok⟩; have HO1 : Hid ((Below w.heap.size w y1) ∧ BxM y1 w.heap.size (.slice a1 P.d.length c1) (.slice a2 P.v.length c2) (.slice a3 P.o.length c3) (.slice a4 P.p.length c4)) := HK0.out _ _ HO0.out ok; clear ok HO0 g0 g1 g2 g3 g4; obtain ⟨g0, g1, g2, g3, g4⟩ := HO1.out.2)
            | (have _h := HO1; go_at_call 18; refine (H2.out _ (HO1.out.1)).mono ?_; rintro e y2 ⟨rfl, ok⟩; have HO2 : Hid ((Below w.heap.size w y2) ∧ BxM y2 w.heap.size (.slice a1 P.d.length c1) (.slice a2 P.v.length c2) (.slice a3 P.o.length c3) (.slice a4 P.p.length c4)) := HK0.out _ _ HO1.out ok; clear ok HO1 g0 g1 g2 g3 g4; obtain ⟨g0, g1, g2, g3, g4⟩ := HO2.out.2)
            | (have _h := HO2; go_at_call 18; refine (H3.out _ (HO2.out.1)).mono ?_; rintro e y3 ⟨rfl, ok⟩; have HO3 : Hid ((Below w.heap.size w y3) ∧ BxM y3 w.heap.size (.slice a1 P.d.length c1) (.slice a2 P.v.length c2) (.slice a3 P.o.length c3) (.slice a4 P.p.length c4)) := HK0.out _ _ HO2.out ok; clear ok HO2 g0 g1 g2 g3 g4; obtain ⟨g0, g1, g2, g3, g4⟩ := HO3.out.2)
            | (have _h := HO3; go_at_call 18; refine (H4.out _ (HO3.out.1)).mono ?_; rintro e y4 ⟨rfl, ok⟩; have HO4 : Hid ((Below w.heap.size w y4) ∧ BxM y4 w.heap.size (.slice a1 P.d.length c1) (.slice a2 P.v.length c2) (.slice a3 P.o.length c3) (.slice a4 P.p.length c4)) := HK0.out _ _ HO3.out ok; clear ok HO3 g0 g1 g2 g3 g4; obtain ⟨g0, g1, g2, g3, g4⟩ := HO4.out.2))
          go_ret
          exact ⟨ret_bool HR.out.symm, HO4.out.1⟩
        · have B12 := hide3 (A12.out (by first | rfl | trivial) (by first | rfl | trivial))
          have B13 := hide3 (A13.out (by first | rfl | trivial) (by first | rfl | trivial))
          have B23 := hide3 (A23.out (by first | rfl | trivial) (by first | rfl | trivial))
          have BT := hide3 (HT.out (by first | rfl | trivial) (by first | rfl | trivial) (by first | rfl | trivial) (by first | rfl | trivial))
          clear A12 A13 A23 HT
          cases p12
          · skip
            have HR : Hid (DB = false) := by unfold Hid; rw [HD.out]; simp
            have HK0 : Hid (KeepP fun w1 => (Below w.heap.size w w1) ∧ BxM w1 w.heap.size (.slice a1 P.d.length c1) (.slice a2 P.v.length c2) (.slice a3 P.o.length c3) (.slice a4 P.p.length c4)) := (KeepP.and (keepBelow w) (keepBxM _ _ _ _ _))
            have HO0 : Hid ((Below w.heap.size w (w.alloc (.cells #[.slice a1 P.d.length c1, .slice a2 P.v.length c2, .slice a3 P.o.length c3, .slice a4 P.p.length c4] 24))) ∧ BxM (w.alloc (.cells #[.slice a1 P.d.length c1, .slice a2 P.v.length c2, .slice a3 P.o.length c3, .slice a4 P.p.length c4] 24)) w.heap.size (.slice a1 P.d.length c1) (.slice a2 P.v.length c2) (.slice a3 P.o.length c3) (.slice a4 P.p.length c4)) := ⟨boxB _ _, BxM.new rfl _ _ _ _⟩
            obtain ⟨g0, g1, g2, g3, g4⟩ := HO0.out.2
            go_enter Tryz.func9, Tryz.ntmps9
            go_wp2_with (first
              | (have _h := HO0; go_at_call 18; refine (H1.out _ (HO0.out.1)).mono ?_; rintro e y1 ⟨rfl, ok⟩; have HO1 : Hid ((Below w.heap.size w y1) ∧ BxM y1 w.heap.size (.slice a1 P.d.length c1) (.slice a2 P.v.length c2) (.slice a3 P.o.length c3) (.slice a4 P.p.length c4)) := HK0.out _ _ HO0.out ok; clear ok HO0 g0 g1 g2 g3 g4; obtain ⟨g0, g1, g2, g3, g4⟩ := HO1.out.2)
              | (have _h := HO1; go_at_call 18; refine (H2.out _ (HO1.out.1)).mono ?_; rintro e y2 ⟨rfl, ok⟩; have HO2 : Hid ((Below w.heap.size w y2) ∧ BxM y2 w.heap.size (.slice a1 P.d.length c1) (.slice a2 P.v.length c2) (.slice a3 P.o.length c3) (.slice a4 P.p.length c4)) := HK0.out _ _ HO1.out ok; clear ok HO1 g0 g1 g2 g3 g4; obtain ⟨g0, g1, g2, g3, g4⟩ := HO2.out.2)
              | (have _h := HO2; go_at_call 18; refine (H3.out _ (HO2.out.1)).mono ?_; rintro e y3 ⟨rfl, ok⟩; have HO3 : Hid ((Below w.heap.size w y3) ∧ BxM y3 w.heap.size (.slice a1 P.d.length c1) (.slice a2 P.v.length c2) (.slice a3 P.o.length c3) (.slice a4 P.p.length c4)) := HK0.out _ _ HO2.out ok; clear ok HO2 g0 g1 g2 g3 g4; obtain ⟨g0, g1, g2, g3, g4⟩ := HO3.out.2)
              | (have _h := HO3; go_at_call 18; refine (H4.out _ (HO3.out.1)).mono ?_; rintro e y4 ⟨rfl, ok⟩; have HO4 : Hid ((Below w.heap.size w y4) ∧ BxM y4 w.heap.size (.slice a1 P.d.length c1) (.slice a2 P.v.length c2) (.slice a3 P.o.length c3) (.slice a4 P.p.length c4)) := HK0.out _ _ HO3.out ok; clear ok HO3 g0 g1 g2 g3 g4; obtain ⟨g0, g1, g2, g3, g4⟩ := HO4.out.2)
              | (have _h := HO4; go_at_call 19; refine (B12.out _ (HO4.out.1)).mono ?_; rintro e y5 ⟨rfl, ok⟩; have HO5 : Hid ((Below w.heap.size w y5) ∧ BxM y5 w.heap.size (.slice a1 P.d.length c1) (.slice a2 P.v.length c2) (.slice a3 P.o.length c3) (.slice a4 P.p.length c4)) := HK0.out _ _ HO4.out ok; clear ok HO4 g0 g1 g2 g3 g4; obtain ⟨g0, g1, g2, g3, g4⟩ := HO5.out.2))
            go_ret
            exact ⟨ret_bool HR.out.symm, HO5.out.1⟩
          · cases p13
            · skip
              have HR : Hid (DB = false) := by unfold Hid; rw [HD.out]; simp
              have HK0 : Hid (KeepP fun w1 => (Below w.heap.size w w1) ∧ BxM w1 w.heap.size (.slice a1 P.d.length c1) (.slice a2 P.v.length c2) (.slice a3 P.o.length c3) (.slice a4 P.p.length c4)) := (KeepP.and (keepBelow w) (keepBxM _ _ _ _ _))
              have HO0 : Hid ((Below w.heap.size w (w.alloc (.cells #[.slice a1 P.d.length c1, .slice a2 P.v.length c2, .slice a3 P.o.length c3, .slice a4 P.p.length c4] 24))) ∧ BxM (w.alloc (.cells #[.slice a1 P.d.length c1, .slice a2 P.v.length c2, .slice a3 P.o.length c3, .slice a4 P.p.length c4] 24)) w.heap.size (.slice a1 P.d.length c1) (.slice a2 P.v.length c2) (.slice a3 P.o.length c3) (.slice a4 P.p.length c4)) := ⟨boxB _ _, BxM.new rfl _ _ _ _⟩
              obtain ⟨g0, g1, g2, g3, g4⟩ := HO0.out.2
              go_enter Tryz.func9, Tryz.ntmps9
              go_wp2_with (first
                | (have _h := HO0; go_at_call 18; refine (H1.out _ (HO0.out.1)).mono ?_; rintro e y1 ⟨rfl, ok⟩; have HO1 : Hid ((Below w.heap.size w y1) ∧ BxM y1 w.heap.size (.slice a1 P.d.length c1) (.slice a2 P.v.length c2) (.slice a3 P.o.length c3) (.slice a4 P.p.length c4)) := HK0.out _ _ HO0.out ok; clear ok HO0 g0 g1 g2 g3 g4; obtain ⟨g0, g1, g2, g3, g4⟩ := HO1.out.2)
                | (have _h := HO1; go_at_call 18; refine (H2.out _ (HO1.out.1)).mono ?_; rintro e y2 ⟨rfl, ok⟩; have HO2 : Hid ((Below w.heap.size w y2) ∧ BxM y2 w.heap.size (.slice a1 P.d.length c1) (.slice a2 P.v.length c2) (.slice a3 P.o.length c3) (.slice a4 P.p.length c4)) := HK0.out _ _ HO1.out ok; clear ok HO1 g0 g1 g2 g3 g4; obtain ⟨g0, g1, g2, g3, g4⟩ := HO2.out.2)
                | (have _h := HO2; go_at_call 18; refine (H3.out _ (HO2.out.1)).mono ?_; rintro e y3 ⟨rfl, ok⟩; have HO3 : Hid ((Below w.heap.size w y3) ∧ BxM y3 w.heap.size (.slice a1 P.d.length c1) (.slice a2 P.v.length c2) (.slice a3 P.o.length c3) (.slice a4 P.p.length c4)) := HK0.out _ _ HO2.out ok; clear ok HO2 g0 g1 g2 g3 g4; obtain ⟨g0, g1, g2, g3, g4⟩ := HO3.out.2)
                | (have _h := HO3; go_at_call 18; refine (H4.out _ (HO3.out.1)).mono ?_; rintro e y4 ⟨rfl, ok⟩; have HO4 : Hid ((Below w.heap.size w y4) ∧ BxM y4 w.heap.size (.slice a1 P.d.length c1) (.slice a2 P.v.length c2) (.slice a3 P.o.length c3) (.slice a4 P.p.length c4)) := HK0.out _ _ HO3.out ok; clear ok HO3 g0 g1 g2 g3 g4; obtain ⟨g0, g1, g2, g3, g4⟩ := HO4.out.2)
                | (have _h := HO4; go_at_call 19; refine (B12.out _ (HO4.out.1)).mono ?_; rintro e y5 ⟨rfl, ok⟩; have HO5 : Hid ((Below w.heap.size w y5) ∧ BxM y5 w.heap.size (.slice a1 P.d.length c1) (.slice a2 P.v.length c2) (.slice a3 P.o.length c3) (.slice a4 P.p.length c4)) := HK0.out _ _ HO4.out ok; clear ok HO4 g0 g1 g2 g3 g4; obtain ⟨g0, g1, g2, g3, g4⟩ := HO5.out.2)
                | (have _h := HO5; go_at_call 19; refine (B13.out _ (HO5.out.1)).mono ?_; rintro e y6 ⟨rfl, ok⟩; have HO6 : Hid ((Below w.heap.size w y6) ∧ BxM y6 w.heap.size (.slice a1 P.d.length c1) (.slice a2 P.v.length c2) (.slice a3 P.o.length c3) (.slice a4 P.p.length c4)) := HK0.out _ _ HO5.out ok; clear ok HO5 g0 g1 g2 g3 g4; obtain ⟨g0, g1, g2, g3, g4⟩ := HO6.out.2))
              go_ret
              exact ⟨ret_bool HR.out.symm, HO6.out.1⟩
            · cases p23
              · skip
                have HR : Hid (DB = false) := by unfold Hid; rw [HD.out]; simp
                have HK0 : Hid (KeepP fun w1 => (Below w.heap.size w w1) ∧ BxM w1 w.heap.size (.slice a1 P.d.length c1) (.slice a2 P.v.length c2) (.slice a3 P.o.length c3) (.slice a4 P.p.length c4)) := (KeepP.and (keepBelow w) (keepBxM _ _ _ _ _))
                have HO0 : Hid ((Below w.heap.size w (w.alloc (.cells #[.slice a1 P.d.length c1, .slice a2 P.v.length c2, .slice a3 P.o.length c3, .slice a4 P.p.length c4] 24))) ∧ BxM (w.alloc (.cells #[.slice a1 P.d.length c1, .slice a2 P.v.length c2, .slice a3 P.o.length c3, .slice a4 P.p.length c4] 24)) w.heap.size (.slice a1 P.d.length c1) (.slice a2 P.v.length c2) (.slice a3 P.o.length c3) (.slice a4 P.p.length c4)) := ⟨boxB _ _, BxM.new rfl _ _ _ _⟩
                obtain ⟨g0, g1, g2, g3, g4⟩ := HO0.out.2
                go_enter Tryz.func9, Tryz.ntmps9
                go_wp2_with (first
                  | (have _h := HO0; go_at_call 18; refine (H1.out _ (HO0.out.1)).mono ?_; rintro e y1 ⟨rfl, ok⟩; have HO1 : Hid ((Below w.heap.size w y1) ∧ BxM y1 w.heap.size (.slice a1 P.d.length c1) (.slice a2 P.v.length c2) (.slice a3 P.o.length c3) (.slice a4 P.p.length c4)) := HK0.out _ _ HO0.out ok; clear ok HO0 g0 g1 g2 g3 g4; obtain ⟨g0, g1, g2, g3, g4⟩ := HO1.out.2)
                  | (have _h := HO1; go_at_call 18; refine (H2.out _ (HO1.out.1)).mono ?_; rintro e y2 ⟨rfl, ok⟩; have HO2 : Hid ((Below w.heap.size w y2) ∧ BxM y2 w.heap.size (.slice a1 P.d.length c1) (.slice a2 P.v.length c2) (.slice a3 P.o.length c3) (.slice a4 P.p.length c4)) := HK0.out _ _ HO1.out ok; clear ok HO1 g0 g1 g2 g3 g4; obtain ⟨g0, g1, g2, g3, g4⟩ := HO2.out.2)
                  | (have _h := HO2; go_at_call 18; refine (H3.out _ (HO2.out.1)).mono ?_; rintro e y3 ⟨rfl, ok⟩; have HO3 : Hid ((Below w.heap.size w y3) ∧ BxM y3 w.heap.size (.slice a1 P.d.length c1) (.slice a2 P.v.length c2) (.slice a3 P.o.length c3) (.slice a4 P.p.length c4)) := HK0.out _ _ HO2.out ok; clear ok HO2 g0 g1 g2 g3 g4; obtain ⟨g0, g1, g2, g3, g4⟩ := HO3.out.2)
                  | (have _h := HO3; go_at_call 18; refine (H4.out _ (HO3.out.1)).mono ?_; rintro e y4 ⟨rfl, ok⟩; have HO4 : Hid ((Below w.heap.size w y4) ∧ BxM y4 w.heap.size (.slice a1 P.d.length c1) (.slice a2 P.v.length c2) (.slice a3 P.o.length c3) (.slice a4 P.p.length c4)) := HK0.out _ _ HO3.out ok; clear ok HO3 g0 g1 g2 g3 g4; obtain ⟨g0, g1, g2, g3, g4⟩ := HO4.out.2)
                  | (have _h := HO4; go_at_call 19; refine (B12.out _ (HO4.out.1)).mono ?_; rintro e y5 ⟨rfl, ok⟩; have HO5 : Hid ((Below w.heap.size w y5) ∧ BxM y5 w.heap.size (.slice a1 P.d.length c1) (.slice a2 P.v.length c2) (.slice a3 P.o.length c3) (.slice a4 P.p.length c4)) := HK0.out _ _ HO4.out ok; clear ok HO4 g0 g1 g2 g3 g4; obtain ⟨g0, g1, g2, g3, g4⟩ := HO5.out.2)
                  | (have _h := HO5; go_at_call 19; refine (B13.out _ (HO5.out.1)).mono ?_; rintro e y6 ⟨rfl, ok⟩; have HO6 : Hid ((Below w.heap.size w y6) ∧ BxM y6 w.heap.size (.slice a1 P.d.length c1) (.slice a2 P.v.length c2) (.slice a3 P.o.length c3) (.slice a4 P.p.length c4)) := HK0.out _ _ HO5.out ok; clear ok HO5 g0 g1 g2 g3 g4; obtain ⟨g0, g1, g2, g3, g4⟩ := HO6.out.2)
                  | (have _h := HO6; go_at_call 19; refine (B23.out _ (HO6.out.1)).mono ?_; rintro e y7 ⟨rfl, ok⟩; have HO7 : Hid ((Below w.heap.size w y7) ∧ BxM y7 w.heap.size (.slice a1 P.d.length c1) (.slice a2 P.v.length c2) (.slice a3 P.o.length c3) (.slice a4 P.p.length c4)) := HK0.out _ _ HO6.out ok; clear ok HO6 g0 g1 g2 g3 g4; obtain ⟨g0, g1, g2, g3, g4⟩ := HO7.out.2))
                go_ret
                exact ⟨ret_bool HR.out.symm, HO7.out.1⟩
              · by_cases hlen : tl ≤ 4096
                · have hz1 : decide ((TX.size : Int) ≤ 4096) = true := decide_eq_true (by have := HZZ.out; omega)
                  have HR : Hid (DB = true) := by unfold Hid; rw [HD.out]; simp [hlen]
                  have hz2 : (TX.size : Int) ≤ 4096 := by have := HZZ.out; omega
                  have _ := hlen
                  have HK0 : Hid (KeepP fun w1 => (Below w.heap.size w w1) ∧ BxM w1 w.heap.size (.slice a1 P.d.length c1) (.slice a2 P.v.length c2) (.slice a3 P.o.length c3) (.slice a4 P.p.length c4)) := (KeepP.and (keepBelow w) (keepBxM _ _ _ _ _))
                  have HO0 : Hid ((Below w.heap.size w (w.alloc (.cells #[.slice a1 P.d.length c1, .slice a2 P.v.length c2, .slice a3 P.o.length c3, .slice a4 P.p.length c4] 24))) ∧ BxM (w.alloc (.cells #[.slice a1 P.d.length c1, .slice a2 P.v.length c2, .slice a3 P.o.length c3, .slice a4 P.p.length c4] 24)) w.heap.size (.slice a1 P.d.length c1) (.slice a2 P.v.length c2) (.slice a3 P.o.length c3) (.slice a4 P.p.length c4)) := ⟨boxB _ _, BxM.new rfl _ _ _ _⟩
                  obtain ⟨g0, g1, g2, g3, g4⟩ := HO0.out.2
                  go_enter Tryz.func9, Tryz.ntmps9
                  go_wp2_with (first
                    | (have _h := HO0; go_at_call 18; refine (H1.out _ (HO0.out.1)).mono ?_; rintro e y1 ⟨rfl, ok⟩; have HO1 : Hid ((Below w.heap.size w y1) ∧ BxM y1 w.heap.size (.slice a1 P.d.length c1) (.slice a2 P.v.length c2) (.slice a3 P.o.length c3) (.slice a4 P.p.length c4)) := HK0.out _ _ HO0.out ok; clear ok HO0 g0 g1 g2 g3 g4; obtain ⟨g0, g1, g2, g3, g4⟩ := HO1.out.2)
                    | (have _h := HO1; go_at_call 18; refine (H2.out _ (HO1.out.1)).mono ?_; rintro e y2 ⟨rfl, ok⟩; have HO2 : Hid ((Below w.heap.size w y2) ∧ BxM y2 w.heap.size (.slice a1 P.d.length c1) (.slice a2 P.v.length c2) (.slice a3 P.o.length c3) (.slice a4 P.p.length c4)) := HK0.out _ _ HO1.out ok; clear ok HO1 g0 g1 g2 g3 g4; obtain ⟨g0, g1, g2, g3, g4⟩ := HO2.out.2)
                    | (have _h := HO2; go_at_call 18; refine (H3.out _ (HO2.out.1)).mono ?_; rintro e y3 ⟨rfl, ok⟩; have HO3 : Hid ((Below w.heap.size w y3) ∧ BxM y3 w.heap.size (.slice a1 P.d.length c1) (.slice a2 P.v.length c2) (.slice a3 P.o.length c3) (.slice a4 P.p.length c4)) := HK0.out _ _ HO2.out ok; clear ok HO2 g0 g1 g2 g3 g4; obtain ⟨g0, g1, g2, g3, g4⟩ := HO3.out.2)
                    | (have _h := HO3; go_at_call 18; refine (H4.out _ (HO3.out.1)).mono ?_; rintro e y4 ⟨rfl, ok⟩; have HO4 : Hid ((Below w.heap.size w y4) ∧ BxM y4 w.heap.size (.slice a1 P.d.length c1) (.slice a2 P.v.length c2) (.slice a3 P.o.length c3) (.slice a4 P.p.length c4)) := HK0.out _ _ HO3.out ok; clear ok HO3 g0 g1 g2 g3 g4; obtain ⟨g0, g1, g2, g3, g4⟩ := HO4.out.2)
                    | (have _h := HO4; go_at_call 19; refine (B12.out _ (HO4.out.1)).mono ?_; rintro e y5 ⟨rfl, ok⟩; have HO5 : Hid ((Below w.heap.size w y5) ∧ BxM y5 w.heap.size (.slice a1 P.d.length c1) (.slice a2 P.v.length c2) (.slice a3 P.o.length c3) (.slice a4 P.p.length c4)) := HK0.out _ _ HO4.out ok; clear ok HO4 g0 g1 g2 g3 g4; obtain ⟨g0, g1, g2, g3, g4⟩ := HO5.out.2)
                    | (have _h := HO5; go_at_call 19; refine (B13.out _ (HO5.out.1)).mono ?_; rintro e y6 ⟨rfl, ok⟩; have HO6 : Hid ((Below w.heap.size w y6) ∧ BxM y6 w.heap.size (.slice a1 P.d.length c1) (.slice a2 P.v.length c2) (.slice a3 P.o.length c3) (.slice a4 P.p.length c4)) := HK0.out _ _ HO5.out ok; clear ok HO5 g0 g1 g2 g3 g4; obtain ⟨g0, g1, g2, g3, g4⟩ := HO6.out.2)
                    | (have _h := HO6; go_at_call 19; refine (B23.out _ (HO6.out.1)).mono ?_; rintro e y7 ⟨rfl, ok⟩; have HO7 : Hid ((Below w.heap.size w y7) ∧ BxM y7 w.heap.size (.slice a1 P.d.length c1) (.slice a2 P.v.length c2) (.slice a3 P.o.length c3) (.slice a4 P.p.length c4)) := HK0.out _ _ HO6.out ok; clear ok HO6 g0 g1 g2 g3 g4; obtain ⟨g0, g1, g2, g3, g4⟩ := HO7.out.2)
                    | (have _h := HO7; go_at_call 20; refine (BT.out _ (HO7.out.1)).mono ?_; rintro e y8 ⟨rfl, ok⟩; have HO8 : Hid ((Below w.heap.size w y8) ∧ BxM y8 w.heap.size (.slice a1 P.d.length c1) (.slice a2 P.v.length c2) (.slice a3 P.o.length c3) (.slice a4 P.p.length c4)) := HK0.out _ _ HO7.out ok; clear ok HO7 g0 g1 g2 g3 g4; obtain ⟨g0, g1, g2, g3, g4⟩ := HO8.out.2))
                  go_ret
                  exact ⟨ret_bool HR.out.symm, HO8.out.1⟩
                · have hz1 : decide ((TX.size : Int) ≤ 4096) = false := decide_eq_false (by have := HZZ.out; omega)
                  have HR : Hid (DB = false) := by unfold Hid; rw [HD.out]; simp [hlen]
                  have _ := hlen
                  have HK0 : Hid (KeepP fun w1 => (Below w.heap.size w w1) ∧ BxM w1 w.heap.size (.slice a1 P.d.length c1) (.slice a2 P.v.length c2) (.slice a3 P.o.length c3) (.slice a4 P.p.length c4)) := (KeepP.and (keepBelow w) (keepBxM _ _ _ _ _))
                  have HO0 : Hid ((Below w.heap.size w (w.alloc (.cells #[.slice a1 P.d.length c1, .slice a2 P.v.length c2, .slice a3 P.o.length c3, .slice a4 P.p.length c4] 24))) ∧ BxM (w.alloc (.cells #[.slice a1 P.d.length c1, .slice a2 P.v.length c2, .slice a3 P.o.length c3, .slice a4 P.p.length c4] 24)) w.heap.size (.slice a1 P.d.length c1) (.slice a2 P.v.length c2) (.slice a3 P.o.length c3) (.slice a4 P.p.length c4)) := ⟨boxB _ _, BxM.new rfl _ _ _ _⟩
                  obtain ⟨g0, g1, g2, g3, g4⟩ := HO0.out.2
                  go_enter Tryz.func9, Tryz.ntmps9
                  go_wp2_with (first
                    | (have _h := HO0; go_at_call 18; refine (H1.out _ (HO0.out.1)).mono ?_; rintro e y1 ⟨rfl, ok⟩; have HO1 : Hid ((Below w.heap.size w y1) ∧ BxM y1 w.heap.size (.slice a1 P.d.length c1) (.slice a2 P.v.length c2) (.slice a3 P.o.length c3) (.slice a4 P.p.length c4)) := HK0.out _ _ HO0.out ok; clear ok HO0 g0 g1 g2 g3 g4; obtain ⟨g0, g1, g2, g3, g4⟩ := HO1.out.2)
                    | (have _h := HO1; go_at_call 18; refine (H2.out _ (HO1.out.1)).mono ?_; rintro e y2 ⟨rfl, ok⟩; have HO2 : Hid ((Below w.heap.size w y2) ∧ BxM y2 w.heap.size (.slice a1 P.d.length c1) (.slice a2 P.v.length c2) (.slice a3 P.o.length c3) (.slice a4 P.p.length c4)) := HK0.out _ _ HO1.out ok; clear ok HO1 g0 g1 g2 g3 g4; obtain ⟨g0, g1, g2, g3, g4⟩ := HO2.out.2)
                    | (have _h := HO2; go_at_call 18; refine (H3.out _ (HO2.out.1)).mono ?_; rintro e y3 ⟨rfl, ok⟩; have HO3 : Hid ((Below w.heap.size w y3) ∧ BxM y3 w.heap.size (.slice a1 P.d.length c1) (.slice a2 P.v.length c2) (.slice a3 P.o.length c3) (.slice a4 P.p.length c4)) := HK0.out _ _ HO2.out ok; clear ok HO2 g0 g1 g2 g3 g4; obtain ⟨g0, g1, g2, g3, g4⟩ := HO3.out.2)
                    | (have _h := HO3; go_at_call 18; refine (H4.out _ (HO3.out.1)).mono ?_; rintro e y4 ⟨rfl, ok⟩; have HO4 : Hid ((Below w.heap.size w y4) ∧ BxM y4 w.heap.size (.slice a1 P.d.length c1) (.slice a2 P.v.length c2) (.slice a3 P.o.length c3) (.slice a4 P.p.length c4)) := HK0.out _ _ HO3.out ok; clear ok HO3 g0 g1 g2 g3 g4; obtain ⟨g0, g1, g2, g3, g4⟩ := HO4.out.2)
                    | (have _h := HO4; go_at_call 19; refine (B12.out _ (HO4.out.1)).mono ?_; rintro e y5 ⟨rfl, ok⟩; have HO5 : Hid ((Below w.heap.size w y5) ∧ BxM y5 w.heap.size (.slice a1 P.d.length c1) (.slice a2 P.v.length c2) (.slice a3 P.o.length c3) (.slice a4 P.p.length c4)) := HK0.out _ _ HO4.out ok; clear ok HO4 g0 g1 g2 g3 g4; obtain ⟨g0, g1, g2, g3, g4⟩ := HO5.out.2)
                    | (have _h := HO5; go_at_call 19; refine (B13.out _ (HO5.out.1)).mono ?_; rintro e y6 ⟨rfl, ok⟩; have HO6 : Hid ((Below w.heap.size w y6) ∧ BxM y6 w.heap.size (.slice a1 P.d.length c1) (.slice a2 P.v.length c2) (.slice a3 P.o.length c3) (.slice a4 P.p.length c4)) := HK0.out _ _ HO5.out ok; clear ok HO5 g0 g1 g2 g3 g4; obtain ⟨g0, g1, g2, g3, g4⟩ := HO6.out.2)
                    | (have _h := HO6; go_at_call 19; refine (B23.out _ (HO6.out.1)).mono ?_; rintro e y7 ⟨rfl, ok⟩; have HO7 : Hid ((Below w.heap.size w y7) ∧ BxM y7 w.heap.size (.slice a1 P.d.length c1) (.slice a2 P.v.length c2) (.slice a3 P.o.length c3) (.slice a4 P.p.length c4)) := HK0.out _ _ HO6.out ok; clear ok HO6 g0 g1 g2 g3 g4; obtain ⟨g0, g1, g2, g3, g4⟩ := HO7.out.2)
                    | (have _h := HO7; go_at_call 20; refine (BT.out _ (HO7.out.1)).mono ?_; rintro e y8 ⟨rfl, ok⟩; have HO8 : Hid ((Below w.heap.size w y8) ∧ BxM y8 w.heap.size (.slice a1 P.d.length c1) (.slice a2 P.v.length c2) (.slice a3 P.o.length c3) (.slice a4 P.p.length c4)) := HK0.out _ _ HO7.out ok; clear ok HO7 g0 g1 g2 g3 g4; obtain ⟨g0, g1, g2, g3, g4⟩ := HO8.out.2))
                  go_ret
                  exact ⟨ret_bool HR.out.symm, HO8.out.1⟩

theorem rMayM_any {P : Mn} {v1 v2 v3 v4 : Value} {w : World} (h : MnAt w P v1 v2 v3 v4) (hz : P.d.length ≤ 9223372036854775807 ∧ P.v.length ≤ 9223372036854775807 ∧ P.o.length ≤ 9223372036854775807 ∧ P.p.length ≤ 9223372036854775807) (hn : (∀ d ∈ P.d, d.nm.size ≤ 9223372036854775807) ∧ (∀ d ∈ P.v, d.nm.size ≤ 9223372036854775807) ∧ (∀ d ∈ P.o, d.nm.size ≤ 9223372036854775807) ∧ ∀ d ∈ P.p, d.nm.size ≤ 9223372036854775807) :
    Calls Tryz.prog 9 #[.agg #[v1, v2, v3, v4]] w fun e w' => e = .returned (.bool (writtenMB P)) ∧ Below w.heap.size w w' := by
  have := rMayM_doc h hz hn
  rw [docM_is] at this
  exact this
end Go.Proofs.YtjfbgiajjkjghaaGreatDoor
