/- Mr3, laid in one text. -/
import Derived.Test.YtjfbgiajjkjghaaGreatDoorMg18
namespace Go.Proofs.YtjfbgiajjkjghaaGreatDoor
open Go.RowKit
set_option maxRecDepth 100000

set_option maxHeartbeats 3200000 in
theorem rPrintM_any {P : Mn} {v1 v2 v3 v4 : Value} {w : World} (h : MnAt w P v1 v2 v3 v4) (hz : P.d.length ≤ 9223372036854775807 ∧ P.v.length ≤ 9223372036854775807 ∧ P.o.length ≤ 9223372036854775807 ∧ P.p.length ≤ 9223372036854775807) (hn : (∀ d ∈ P.d, d.nm.size ≤ 9223372036854775807) ∧ (∀ d ∈ P.v, d.nm.size ≤ 9223372036854775807) ∧ (∀ d ∈ P.o, d.nm.size ≤ 9223372036854775807) ∧ ∀ d ∈ P.p, d.nm.size ≤ 9223372036854775807) :
    Calls Tryz.prog 14 #[.agg #[v1, v2, v3, v4]] w fun e w' => e = .returned (.tuple #[.string (writtenMT P), .int .i64 (if writtenMB P = true then 0 else 25)]) ∧ Below w.heap.size w w' := by
  obtain ⟨a1, c1, rfl⟩ := h.1.sl
  obtain ⟨a2, c2, rfl⟩ := h.2.1.sl
  obtain ⟨a3, c3, rfl⟩ := h.2.2.1.sl
  obtain ⟨a4, c4, rfl⟩ := h.2.2.2.sl
  have HM : Hid (∀ w1, Below w.heap.size w w1 → Calls Tryz.prog 9 #[.agg #[.slice a1 P.d.length c1, .slice a2 P.v.length c2, .slice a3 P.o.length c3, .slice a4 P.p.length c4]] w1 fun e w' => e = .returned (.bool (writtenMB P)) ∧ Below w1.heap.size w1 w') := fun w1 hb => rMayM_any (h.below hb) hz hn
  cases hwb : writtenMB P
  · have HT : Hid (writtenMT P = ⟨#[]⟩) := by unfold Hid writtenMT; rw [if_neg (by rw [hwb]; simp)]
    rw [hwb] at HM
    rw [HT.out, if_neg (by simp)]
    clear h hz hn hwb
    have HK0 : Hid (KeepP fun w1 => (Below w.heap.size w w1) ∧ BxM w1 w.heap.size (.slice a1 P.d.length c1) (.slice a2 P.v.length c2) (.slice a3 P.o.length c3) (.slice a4 P.p.length c4)) := (KeepP.and (keepBelow w) (keepBxM _ _ _ _ _))
    have HO0 : Hid ((Below w.heap.size w (w.alloc (.cells #[.slice a1 P.d.length c1, .slice a2 P.v.length c2, .slice a3 P.o.length c3, .slice a4 P.p.length c4] 24))) ∧ BxM (w.alloc (.cells #[.slice a1 P.d.length c1, .slice a2 P.v.length c2, .slice a3 P.o.length c3, .slice a4 P.p.length c4] 24)) w.heap.size (.slice a1 P.d.length c1) (.slice a2 P.v.length c2) (.slice a3 P.o.length c3) (.slice a4 P.p.length c4)) := ⟨boxB _ _, BxM.new rfl _ _ _ _⟩
    obtain ⟨g0, g1, g2, g3, g4⟩ := HO0.out.2
    go_enter Tryz.func14, Tryz.ntmps14
    go_wp2_with (first
      | (have _h := HO0; go_at_call 9; refine (HM.out _ (HO0.out.1)).mono ?_; rintro e y1 ⟨rfl, ok⟩; have HO1 : Hid ((Below w.heap.size w y1) ∧ BxM y1 w.heap.size (.slice a1 P.d.length c1) (.slice a2 P.v.length c2) (.slice a3 P.o.length c3) (.slice a4 P.p.length c4)) := HK0.out _ _ HO0.out ok; clear ok HO0 g0 g1 g2 g3 g4; obtain ⟨g0, g1, g2, g3, g4⟩ := HO1.out.2))
    go_ret2
    exact ⟨rfl, HO1.out.1⟩
  · have hs := hwb
    unfold writtenMB at hs
    rw [Bool.and_eq_true] at hs
    have hs1 := hs.1
    unfold soundM at hs1
    simp only [Bool.and_eq_true] at hs1
    have HX : Hid (∀ w1, Below w.heap.size w w1 → Calls Tryz.prog 20 #[.agg #[.slice a1 P.d.length c1, .slice a2 P.v.length c2, .slice a3 P.o.length c3, .slice a4 P.p.length c4]] w1 fun e w' => e = .returned (.string (writtenMT P)) ∧ Below w1.heap.size w1 w') := fun w1 hb => by
      have := rTextM_any (h.below hb) hs1.1
      unfold writtenMT
      rw [if_pos hwb]
      exact this
    rw [hwb] at HM
    rw [if_pos rfl]
    clear h hz hn hwb hs hs1
    generalize writtenMT P = TX at *
    have HK0 : Hid (KeepP fun w1 => (Below w.heap.size w w1) ∧ BxM w1 w.heap.size (.slice a1 P.d.length c1) (.slice a2 P.v.length c2) (.slice a3 P.o.length c3) (.slice a4 P.p.length c4)) := (KeepP.and (keepBelow w) (keepBxM _ _ _ _ _))
    have HO0 : Hid ((Below w.heap.size w (w.alloc (.cells #[.slice a1 P.d.length c1, .slice a2 P.v.length c2, .slice a3 P.o.length c3, .slice a4 P.p.length c4] 24))) ∧ BxM (w.alloc (.cells #[.slice a1 P.d.length c1, .slice a2 P.v.length c2, .slice a3 P.o.length c3, .slice a4 P.p.length c4] 24)) w.heap.size (.slice a1 P.d.length c1) (.slice a2 P.v.length c2) (.slice a3 P.o.length c3) (.slice a4 P.p.length c4)) := ⟨boxB _ _, BxM.new rfl _ _ _ _⟩
    obtain ⟨g0, g1, g2, g3, g4⟩ := HO0.out.2
    go_enter Tryz.func14, Tryz.ntmps14
    go_wp2_with (first
      | (have _h := HO0; go_at_call 9; refine (HM.out _ (HO0.out.1)).mono ?_; rintro e y1 ⟨rfl, ok⟩; have HO1 : Hid ((Below w.heap.size w y1) ∧ BxM y1 w.heap.size (.slice a1 P.d.length c1) (.slice a2 P.v.length c2) (.slice a3 P.o.length c3) (.slice a4 P.p.length c4)) := HK0.out _ _ HO0.out ok; clear ok HO0 g0 g1 g2 g3 g4; obtain ⟨g0, g1, g2, g3, g4⟩ := HO1.out.2)
      | (have _h := HO1; go_at_call 20; refine (HX.out _ (HO1.out.1)).mono ?_; rintro e y2 ⟨rfl, ok⟩; have HO2 : Hid ((Below w.heap.size w y2) ∧ BxM y2 w.heap.size (.slice a1 P.d.length c1) (.slice a2 P.v.length c2) (.slice a3 P.o.length c3) (.slice a4 P.p.length c4)) := HK0.out _ _ HO1.out ok; clear ok HO1 g0 g1 g2 g3 g4; obtain ⟨g0, g1, g2, g3, g4⟩ := HO2.out.2))
    go_ret2
    exact ⟨rfl, HO2.out.1⟩

set_option maxHeartbeats 6400000 in
theorem manifestWrites_walk {P : Mn} {v1 v2 v3 v4 : Value} {w : World} (h : MnAt w P v1 v2 v3 v4) (hz : P.d.length ≤ 9223372036854775807 ∧ P.v.length ≤ 9223372036854775807 ∧ P.o.length ≤ 9223372036854775807 ∧ P.p.length ≤ 9223372036854775807) (hn : (∀ d ∈ P.d, d.nm.size ≤ 9223372036854775807) ∧ (∀ d ∈ P.v, d.nm.size ≤ 9223372036854775807) ∧ (∀ d ∈ P.o, d.nm.size ≤ 9223372036854775807) ∧ ∀ d ∈ P.p, d.nm.size ≤ 9223372036854775807) (hE : Env w ∧ FL w) :
    Calls Tryz.prog 4 #[.agg #[v1, v2, v3, v4]] w fun e w' => e = .returned (.bool true) ∧ Below w.heap.size w w' := by
  obtain ⟨he, hf⟩ := hE
  obtain ⟨a1, c1, rfl⟩ := h.1.sl
  obtain ⟨a2, c2, rfl⟩ := h.2.1.sl
  obtain ⟨a3, c3, rfl⟩ := h.2.2.1.sl
  obtain ⟨a4, c4, rfl⟩ := h.2.2.2.sl
  have HP : Hid (∀ w1, Below w.heap.size w w1 → Calls Tryz.prog 13 #[.agg #[.slice a1 P.d.length c1, .slice a2 P.v.length c2, .slice a3 P.o.length c3, .slice a4 P.p.length c4]] w1 fun e w' => e = .returned (.tuple #[.string (writtenMT P), .int .i64 (if writtenMB P = true then 0 else 25)]) ∧ Below w1.heap.size w1 w') := fun w1 hb => mPrint_any (h.below hb) (he.below hb) (hf.below hb)
  have HR : Hid (∀ w1, Below w.heap.size w w1 → Calls Tryz.prog 14 #[.agg #[.slice a1 P.d.length c1, .slice a2 P.v.length c2, .slice a3 P.o.length c3, .slice a4 P.p.length c4]] w1 fun e w' => e = .returned (.tuple #[.string (writtenMT P), .int .i64 (if writtenMB P = true then 0 else 25)]) ∧ Below w1.heap.size w1 w') := fun w1 hb => rPrintM_any (h.below hb) hz hn
  have HKN : Hid (∀ w1, Below w.heap.size w w1 → Calls Tryz.prog 12 #[] w1 fun e w' => e = .returned (.bool true) ∧ Below w1.heap.size w1 w') := fun w1 hb => known_mf (he.below hb) (hf.below hb)
  have HPA : Hid (writtenMB P = true → ∀ w1, Below w.heap.size w w1 → Calls Tryz.prog 15 #[.string (writtenMT P)] w1 fun e w' => ∃ q1 qc1 q2 qc2 q3 qc3 q4 qc4, e = .returned (.tuple #[.agg #[.slice q1 P.d.length qc1, .slice q2 P.v.length qc2, .slice q3 P.o.length qc3, .slice q4 P.p.length qc4], .int .i64 0]) ∧ Below w1.heap.size w1 w' ∧ MnAt w' P (.slice q1 P.d.length qc1) (.slice q2 P.v.length qc2) (.slice q3 P.o.length qc3) (.slice q4 P.p.length qc4)) := fun hw w1 hb => (Parse_mf (writtenMT P) (he.below hb) (hf.below hb)).mono fun e w' hq => by
    rw [(mn_back hw).1, (mn_back hw).2] at hq
    obtain ⟨a1, k1, c1, a2, k2, c2, a3, k3, c3, a4, k4, c4, h1, h2, h3, _⟩ := hq.sl
    obtain ⟨ho, e1, e2, e3, e4⟩ := h3 rfl
    subst e1 e2 e3 e4
    exact ⟨a1, c1, a2, c2, a3, c3, a4, c4, h1, h2, ho.at⟩
  have HSA : Hid (∀ w1 q1 qc1 q2 qc2 q3 qc3 q4 qc4, Below w.heap.size w w1 → MnAt w1 P (.slice q1 P.d.length qc1) (.slice q2 P.v.length qc2) (.slice q3 P.o.length qc3) (.slice q4 P.p.length qc4) → Calls Tryz.prog 11 #[.agg #[.slice a1 P.d.length c1, .slice a2 P.v.length c2, .slice a3 P.o.length c3, .slice a4 P.p.length c4], .agg #[.slice q1 P.d.length qc1, .slice q2 P.v.length qc2, .slice q3 P.o.length qc3, .slice q4 P.p.length qc4]] w1 fun e w' => e = .returned (.bool true) ∧ Below w1.heap.size w1 w') := fun w1 q1 qc1 q2 qc2 q3 qc3 q4 qc4 hb hq => by have := rSameM_any (h.below hb) hq hz; rw [eqB_yes rfl] at this; exact this
  cases hwb : writtenMB P
  · rw [hwb] at HP HR
    simp only [Bool.false_eq_true, if_false] at HP HR
    clear h hz hn he hf HPA HSA
    generalize writtenMT P = TX at *
    have HK0 : Hid (KeepP fun w1 => (Below w.heap.size w w1) ∧ BxM w1 w.heap.size (.slice a1 P.d.length c1) (.slice a2 P.v.length c2) (.slice a3 P.o.length c3) (.slice a4 P.p.length c4)) := (KeepP.and (keepBelow w) (keepBxM _ _ _ _ _))
    have HO0 : Hid ((Below w.heap.size w (w.alloc (.cells #[.slice a1 P.d.length c1, .slice a2 P.v.length c2, .slice a3 P.o.length c3, .slice a4 P.p.length c4] 24))) ∧ BxM (w.alloc (.cells #[.slice a1 P.d.length c1, .slice a2 P.v.length c2, .slice a3 P.o.length c3, .slice a4 P.p.length c4] 24)) w.heap.size (.slice a1 P.d.length c1) (.slice a2 P.v.length c2) (.slice a3 P.o.length c3) (.slice a4 P.p.length c4)) := ⟨boxB _ _, BxM.new rfl _ _ _ _⟩
    obtain ⟨g0, g1, g2, g3, g4⟩ := HO0.out.2
    go_enter Tryz.func4, Tryz.ntmps4
    go_wp2_with (first
      | (have _h := HO0; go_at_call 13; refine (HP.out _ (HO0.out.1)).mono ?_; rintro e y1 ⟨rfl, ok⟩; have HO1 : Hid ((Below w.heap.size w y1) ∧ BxM y1 w.heap.size (.slice a1 P.d.length c1) (.slice a2 P.v.length c2) (.slice a3 P.o.length c3) (.slice a4 P.p.length c4)) := HK0.out _ _ HO0.out ok; clear ok HO0 g0 g1 g2 g3 g4; obtain ⟨g0, g1, g2, g3, g4⟩ := HO1.out.2)
      | (have _h := HO1; go_at_call 14; refine (HR.out _ (HO1.out.1)).mono ?_; rintro e y2 ⟨rfl, ok⟩; have HO2 : Hid ((Below w.heap.size w y2) ∧ BxM y2 w.heap.size (.slice a1 P.d.length c1) (.slice a2 P.v.length c2) (.slice a3 P.o.length c3) (.slice a4 P.p.length c4)) := HK0.out _ _ HO1.out ok; clear ok HO1 g0 g1 g2 g3 g4; obtain ⟨g0, g1, g2, g3, g4⟩ := HO2.out.2)
      | (have _h := HO2; go_at_call 12; refine (HKN.out _ (HO2.out.1)).mono ?_; rintro e y3 ⟨rfl, ok⟩; have HO3 : Hid ((Below w.heap.size w y3) ∧ BxM y3 w.heap.size (.slice a1 P.d.length c1) (.slice a2 P.v.length c2) (.slice a3 P.o.length c3) (.slice a4 P.p.length c4)) := HK0.out _ _ HO2.out ok; clear ok HO2 g0 g1 g2 g3 g4; obtain ⟨g0, g1, g2, g3, g4⟩ := HO3.out.2))
    go_ret
    exact ⟨by first | rfl | simp, HO3.out.1⟩
  · have HPB := hide3 (HPA.out hwb)
    rw [hwb] at HP HR
    simp only [if_true] at HP HR
    clear h hz hn he hf HPA
    generalize writtenMT P = TX at *
    have HK0 : Hid (KeepP fun w1 => (Below w.heap.size w w1) ∧ BxM w1 w.heap.size (.slice a1 P.d.length c1) (.slice a2 P.v.length c2) (.slice a3 P.o.length c3) (.slice a4 P.p.length c4)) := (KeepP.and (keepBelow w) (keepBxM _ _ _ _ _))
    have HO0 : Hid ((Below w.heap.size w (w.alloc (.cells #[.slice a1 P.d.length c1, .slice a2 P.v.length c2, .slice a3 P.o.length c3, .slice a4 P.p.length c4] 24))) ∧ BxM (w.alloc (.cells #[.slice a1 P.d.length c1, .slice a2 P.v.length c2, .slice a3 P.o.length c3, .slice a4 P.p.length c4] 24)) w.heap.size (.slice a1 P.d.length c1) (.slice a2 P.v.length c2) (.slice a3 P.o.length c3) (.slice a4 P.p.length c4)) := ⟨boxB _ _, BxM.new rfl _ _ _ _⟩
    obtain ⟨g0, g1, g2, g3, g4⟩ := HO0.out.2
    go_enter Tryz.func4, Tryz.ntmps4
    go_wp2_with (first
      | (have _h := HO0; go_at_call 13; refine (HP.out _ (HO0.out.1)).mono ?_; rintro e y1 ⟨rfl, ok⟩; have HO1 : Hid ((Below w.heap.size w y1) ∧ BxM y1 w.heap.size (.slice a1 P.d.length c1) (.slice a2 P.v.length c2) (.slice a3 P.o.length c3) (.slice a4 P.p.length c4)) := HK0.out _ _ HO0.out ok; clear ok HO0 g0 g1 g2 g3 g4; obtain ⟨g0, g1, g2, g3, g4⟩ := HO1.out.2)
      | (have _h := HO1; go_at_call 14; refine (HR.out _ (HO1.out.1)).mono ?_; rintro e y2 ⟨rfl, ok⟩; have HO2 : Hid ((Below w.heap.size w y2) ∧ BxM y2 w.heap.size (.slice a1 P.d.length c1) (.slice a2 P.v.length c2) (.slice a3 P.o.length c3) (.slice a4 P.p.length c4)) := HK0.out _ _ HO1.out ok; clear ok HO1 g0 g1 g2 g3 g4; obtain ⟨g0, g1, g2, g3, g4⟩ := HO2.out.2)
      | (have _h := HO2; go_at_call 12; refine (HKN.out _ (HO2.out.1)).mono ?_; rintro e y3 ⟨rfl, ok⟩; have HO3 : Hid ((Below w.heap.size w y3) ∧ BxM y3 w.heap.size (.slice a1 P.d.length c1) (.slice a2 P.v.length c2) (.slice a3 P.o.length c3) (.slice a4 P.p.length c4)) := HK0.out _ _ HO2.out ok; clear ok HO2 g0 g1 g2 g3 g4; obtain ⟨g0, g1, g2, g3, g4⟩ := HO3.out.2)
      | (go_at_call 15; refine (HPB.out _ (HO3.out.1)).mono ?_; rintro e z4 ⟨q1, qc1, q2, qc2, q3, qc3, q4, qc4, rfl, ok, hpq⟩; have HZ5 : Hid (((Below w.heap.size w (z4.alloc (.cells #[.slice q1 P.d.length qc1, .slice q2 P.v.length qc2, .slice q3 P.o.length qc3, .slice q4 P.p.length qc4] 24))) ∧ BxM (z4.alloc (.cells #[.slice q1 P.d.length qc1, .slice q2 P.v.length qc2, .slice q3 P.o.length qc3, .slice q4 P.p.length qc4] 24)) w.heap.size (.slice a1 P.d.length c1) (.slice a2 P.v.length c2) (.slice a3 P.o.length c3) (.slice a4 P.p.length c4)) ∧ MnAt (z4.alloc (.cells #[.slice q1 P.d.length qc1, .slice q2 P.v.length qc2, .slice q3 P.o.length qc3, .slice q4 P.p.length qc4] 24)) P (.slice q1 P.d.length qc1) (.slice q2 P.v.length qc2) (.slice q3 P.o.length qc3) (.slice q4 P.p.length qc4)) := ⟨HK0.out _ _ (HK0.out _ _ HO3.out ok) (boxB _ _), hpq.below (boxB _ _)⟩; have HX5 : Hid (BxM (z4.alloc (.cells #[.slice q1 P.d.length qc1, .slice q2 P.v.length qc2, .slice q3 P.o.length qc3, .slice q4 P.p.length qc4] 24)) z4.heap.size (.slice q1 P.d.length qc1) (.slice q2 P.v.length qc2) (.slice q3 P.o.length qc3) (.slice q4 P.p.length qc4)) := BxM.new rfl _ _ _ _; clear ok hpq g0 g1 g2 g3 g4; obtain ⟨g0, g1, g2, g3, g4⟩ := HZ5.out.1.2; obtain ⟨f0, f1, f2, f3, f4⟩ := HX5.out)
      | (go_at_call 11; refine (HSA.out _ _ _ _ _ _ _ _ _ HZ5.out.1.1 HZ5.out.2).mono ?_; rintro e z6 ⟨rfl, ok⟩; have HBE := hide3 (below_then HZ5.out.1.1 ok); clear ok))
    go_ret
    exact ⟨by first | rfl | simp, HBE.out⟩
end Go.Proofs.YtjfbgiajjkjghaaGreatDoor
