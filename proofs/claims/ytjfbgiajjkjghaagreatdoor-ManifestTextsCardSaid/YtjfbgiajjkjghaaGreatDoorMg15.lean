/- ManifestTexts: of any arguments it answers true, and each argument reads as it read before (the tied card). Conditions: none but the row's own. -/
import Derived.Test.YtjfbgiajjkjghaaGreatDoorMg14
namespace Go.Proofs.YtjfbgiajjkjghaaGreatDoor
open Go.RowKit
set_option maxRecDepth 100000

set_option maxHeartbeats 6400000 in
theorem manifestTexts_walk {P Q : Mn} {v1 v2 v3 v4 u1 u2 u3 u4 : Value} {w : World} (hp : MnAt w P v1 v2 v3 v4) (hq : MnAt w Q u1 u2 u3 u4) (hd : P.d.length ≤ 9223372036854775807 ∧ P.v.length ≤ 9223372036854775807 ∧ P.o.length ≤ 9223372036854775807 ∧ P.p.length ≤ 9223372036854775807) (he : Env w) (hf : FL w) :
    Calls Tryz.prog 7 #[.agg #[v1, v2, v3, v4], .agg #[u1, u2, u3, u4]] w fun e w' => e = .returned (.bool true) ∧ Below w.heap.size w w' := by
  obtain ⟨a1, c1, rfl⟩ := hp.1.sl
  obtain ⟨a2, c2, rfl⟩ := hp.2.1.sl
  obtain ⟨a3, c3, rfl⟩ := hp.2.2.1.sl
  obtain ⟨a4, c4, rfl⟩ := hp.2.2.2.sl
  obtain ⟨b1, d1, rfl⟩ := hq.1.sl
  obtain ⟨b2, d2, rfl⟩ := hq.2.1.sl
  obtain ⟨b3, d3, rfl⟩ := hq.2.2.1.sl
  obtain ⟨b4, d4, rfl⟩ := hq.2.2.2.sl
  have HP : Hid (∀ w1, Below w.heap.size w w1 → Calls Tryz.prog 13 #[.agg #[.slice a1 P.d.length c1, .slice a2 P.v.length c2, .slice a3 P.o.length c3, .slice a4 P.p.length c4]] w1 fun e w' => e = .returned (.tuple #[.string (writtenMT P), .int .i64 (if writtenMB P = true then 0 else 25)]) ∧ Below w1.heap.size w1 w') := fun w1 hb => mPrint_any (hp.below hb) (he.below hb) (hf.below hb)
  have HQ : Hid (∀ w1, Below w.heap.size w w1 → Calls Tryz.prog 13 #[.agg #[.slice b1 Q.d.length d1, .slice b2 Q.v.length d2, .slice b3 Q.o.length d3, .slice b4 Q.p.length d4]] w1 fun e w' => e = .returned (.tuple #[.string (writtenMT Q), .int .i64 (if writtenMB Q = true then 0 else 25)]) ∧ Below w1.heap.size w1 w') := fun w1 hb => mPrint_any (hq.below hb) (he.below hb) (hf.below hb)
  have HMP : Hid (∀ w1, Below w.heap.size w w1 → Calls Tryz.prog 8 #[.agg #[.slice a1 P.d.length c1, .slice a2 P.v.length c2, .slice a3 P.o.length c3, .slice a4 P.p.length c4]] w1 fun e w' => e = .returned (.bool (writtenMB P)) ∧ Below w1.heap.size w1 w') := fun w1 hb => mMay_any (hp.below hb) (he.below hb) (hf.below hb)
  have HMQ : Hid (∀ w1, Below w.heap.size w w1 → Calls Tryz.prog 8 #[.agg #[.slice b1 Q.d.length d1, .slice b2 Q.v.length d2, .slice b3 Q.o.length d3, .slice b4 Q.p.length d4]] w1 fun e w' => e = .returned (.bool (writtenMB Q)) ∧ Below w1.heap.size w1 w') := fun w1 hb => mMay_any (hq.below hb) (he.below hb) (hf.below hb)
  have HKN : Hid (∀ w1, Below w.heap.size w w1 → Calls Tryz.prog 12 #[] w1 fun e w' => e = .returned (.bool true) ∧ Below w1.heap.size w1 w') := fun w1 hb => known_mf (he.below hb) (hf.below hb)
  have HSA : Hid (∀ w1, Below w.heap.size w w1 → Calls Tryz.prog 10 #[.agg #[.slice a1 P.d.length c1, .slice a2 P.v.length c2, .slice a3 P.o.length c3, .slice a4 P.p.length c4], .agg #[.slice b1 Q.d.length d1, .slice b2 Q.v.length d2, .slice b3 Q.o.length d3, .slice b4 Q.p.length d4]] w1 fun e w' => e = .returned (.bool (eqB P Q)) ∧ Below w1.heap.size w1 w') := fun w1 hb => mSame_any (hp.below hb) (hq.below hb) hd
  have HTX : Hid (writtenMB P = true → writtenMB Q = true → ((writtenMT P).toList == (writtenMT Q).toList) = eqB P Q) := fun h1 h2 => by
    by_cases e : P = Q
    · subst e
      rw [eqB_yes rfl]
      simp
    · rw [eqB_no e, beq_eq_false_iff_ne]
      exact fun h => e ((mn_one h1 h2).1 (bytes_same h))
  clear hp hq hd he hf
  cases hbp : writtenMB P
  · rw [hbp] at HP HMP
    cases hbq : writtenMB Q
    · rw [hbq] at HQ HMQ
      simp only [Bool.false_eq_true, if_false] at HP HQ
      clear HTX HSA
      have HK0 : Hid (KeepP fun w1 => ((Below w.heap.size w w1) ∧ BxM w1 w.heap.size (.slice a1 P.d.length c1) (.slice a2 P.v.length c2) (.slice a3 P.o.length c3) (.slice a4 P.p.length c4)) ∧ BxM w1 (w.heap.size + 1) (.slice b1 Q.d.length d1) (.slice b2 Q.v.length d2) (.slice b3 Q.o.length d3) (.slice b4 Q.p.length d4)) := (KeepP.and ((KeepP.and (keepBelow w) (keepBxM _ _ _ _ _))) (keepBxM _ _ _ _ _))
      have HO0 : Hid (((Below w.heap.size w ((w.alloc (.cells #[.slice a1 P.d.length c1, .slice a2 P.v.length c2, .slice a3 P.o.length c3, .slice a4 P.p.length c4] 24)).alloc (.cells #[.slice b1 Q.d.length d1, .slice b2 Q.v.length d2, .slice b3 Q.o.length d3, .slice b4 Q.p.length d4] 24))) ∧ BxM ((w.alloc (.cells #[.slice a1 P.d.length c1, .slice a2 P.v.length c2, .slice a3 P.o.length c3, .slice a4 P.p.length c4] 24)).alloc (.cells #[.slice b1 Q.d.length d1, .slice b2 Q.v.length d2, .slice b3 Q.o.length d3, .slice b4 Q.p.length d4] 24)) w.heap.size (.slice a1 P.d.length c1) (.slice a2 P.v.length c2) (.slice a3 P.o.length c3) (.slice a4 P.p.length c4)) ∧ BxM ((w.alloc (.cells #[.slice a1 P.d.length c1, .slice a2 P.v.length c2, .slice a3 P.o.length c3, .slice a4 P.p.length c4] 24)).alloc (.cells #[.slice b1 Q.d.length d1, .slice b2 Q.v.length d2, .slice b3 Q.o.length d3, .slice b4 Q.p.length d4] 24)) (w.heap.size + 1) (.slice b1 Q.d.length d1) (.slice b2 Q.v.length d2) (.slice b3 Q.o.length d3) (.slice b4 Q.p.length d4)) := ⟨⟨boxB2 _ _ _, keepBxM _ _ _ _ _ _ _ (BxM.new rfl _ _ _ _) (boxB _ _)⟩, BxM.new (by simp) _ _ _ _⟩
      obtain ⟨p0, p1, p2, p3, p4⟩ := HO0.out.1.2
      obtain ⟨q0, q1, q2, q3, q4⟩ := HO0.out.2
      go_enter Tryz.func7, Tryz.ntmps7
      go_wp2_with (first
        | (have _h := HO0; go_at_call 13; refine (HP.out _ (HO0.out.1.1)).mono ?_; rintro e y1 ⟨rfl, ok⟩; have HO1 : Hid (((Below w.heap.size w y1) ∧ BxM y1 w.heap.size (.slice a1 P.d.length c1) (.slice a2 P.v.length c2) (.slice a3 P.o.length c3) (.slice a4 P.p.length c4)) ∧ BxM y1 (w.heap.size + 1) (.slice b1 Q.d.length d1) (.slice b2 Q.v.length d2) (.slice b3 Q.o.length d3) (.slice b4 Q.p.length d4)) := HK0.out _ _ HO0.out ok; clear ok HO0 p0 p1 p2 p3 p4 q0 q1 q2 q3 q4; obtain ⟨p0, p1, p2, p3, p4⟩ := HO1.out.1.2; obtain ⟨q0, q1, q2, q3, q4⟩ := HO1.out.2)
        | (have _h := HO1; go_at_call 13; refine (HQ.out _ (HO1.out.1.1)).mono ?_; rintro e y2 ⟨rfl, ok⟩; have HO2 : Hid (((Below w.heap.size w y2) ∧ BxM y2 w.heap.size (.slice a1 P.d.length c1) (.slice a2 P.v.length c2) (.slice a3 P.o.length c3) (.slice a4 P.p.length c4)) ∧ BxM y2 (w.heap.size + 1) (.slice b1 Q.d.length d1) (.slice b2 Q.v.length d2) (.slice b3 Q.o.length d3) (.slice b4 Q.p.length d4)) := HK0.out _ _ HO1.out ok; clear ok HO1 p0 p1 p2 p3 p4 q0 q1 q2 q3 q4; obtain ⟨p0, p1, p2, p3, p4⟩ := HO2.out.1.2; obtain ⟨q0, q1, q2, q3, q4⟩ := HO2.out.2)
        | (have _h := HO2; go_at_call 12; refine (HKN.out _ (HO2.out.1.1)).mono ?_; rintro e y3 ⟨rfl, ok⟩; have HO3 : Hid (((Below w.heap.size w y3) ∧ BxM y3 w.heap.size (.slice a1 P.d.length c1) (.slice a2 P.v.length c2) (.slice a3 P.o.length c3) (.slice a4 P.p.length c4)) ∧ BxM y3 (w.heap.size + 1) (.slice b1 Q.d.length d1) (.slice b2 Q.v.length d2) (.slice b3 Q.o.length d3) (.slice b4 Q.p.length d4)) := HK0.out _ _ HO2.out ok; clear ok HO2 p0 p1 p2 p3 p4 q0 q1 q2 q3 q4; obtain ⟨p0, p1, p2, p3, p4⟩ := HO3.out.1.2; obtain ⟨q0, q1, q2, q3, q4⟩ := HO3.out.2)
        | (have _h := HO3; go_at_call 8; refine (HMP.out _ (HO3.out.1.1)).mono ?_; rintro e y4 ⟨rfl, ok⟩; have HO4 : Hid (((Below w.heap.size w y4) ∧ BxM y4 w.heap.size (.slice a1 P.d.length c1) (.slice a2 P.v.length c2) (.slice a3 P.o.length c3) (.slice a4 P.p.length c4)) ∧ BxM y4 (w.heap.size + 1) (.slice b1 Q.d.length d1) (.slice b2 Q.v.length d2) (.slice b3 Q.o.length d3) (.slice b4 Q.p.length d4)) := HK0.out _ _ HO3.out ok; clear ok HO3 p0 p1 p2 p3 p4 q0 q1 q2 q3 q4; obtain ⟨p0, p1, p2, p3, p4⟩ := HO4.out.1.2; obtain ⟨q0, q1, q2, q3, q4⟩ := HO4.out.2)
        | (have _h := HO4; go_at_call 8; refine (HMQ.out _ (HO4.out.1.1)).mono ?_; rintro e y5 ⟨rfl, ok⟩; have HO5 : Hid (((Below w.heap.size w y5) ∧ BxM y5 w.heap.size (.slice a1 P.d.length c1) (.slice a2 P.v.length c2) (.slice a3 P.o.length c3) (.slice a4 P.p.length c4)) ∧ BxM y5 (w.heap.size + 1) (.slice b1 Q.d.length d1) (.slice b2 Q.v.length d2) (.slice b3 Q.o.length d3) (.slice b4 Q.p.length d4)) := HK0.out _ _ HO4.out ok; clear ok HO4 p0 p1 p2 p3 p4 q0 q1 q2 q3 q4; obtain ⟨p0, p1, p2, p3, p4⟩ := HO5.out.1.2; obtain ⟨q0, q1, q2, q3, q4⟩ := HO5.out.2))
      go_ret
      exact ⟨by first | rfl | simp, HO5.out.1.1⟩
    · rw [hbq] at HQ HMQ
      simp only [Bool.false_eq_true, if_false, if_true] at HP HQ
      clear HTX HSA
      have HK0 : Hid (KeepP fun w1 => ((Below w.heap.size w w1) ∧ BxM w1 w.heap.size (.slice a1 P.d.length c1) (.slice a2 P.v.length c2) (.slice a3 P.o.length c3) (.slice a4 P.p.length c4)) ∧ BxM w1 (w.heap.size + 1) (.slice b1 Q.d.length d1) (.slice b2 Q.v.length d2) (.slice b3 Q.o.length d3) (.slice b4 Q.p.length d4)) := (KeepP.and ((KeepP.and (keepBelow w) (keepBxM _ _ _ _ _))) (keepBxM _ _ _ _ _))
      have HO0 : Hid (((Below w.heap.size w ((w.alloc (.cells #[.slice a1 P.d.length c1, .slice a2 P.v.length c2, .slice a3 P.o.length c3, .slice a4 P.p.length c4] 24)).alloc (.cells #[.slice b1 Q.d.length d1, .slice b2 Q.v.length d2, .slice b3 Q.o.length d3, .slice b4 Q.p.length d4] 24))) ∧ BxM ((w.alloc (.cells #[.slice a1 P.d.length c1, .slice a2 P.v.length c2, .slice a3 P.o.length c3, .slice a4 P.p.length c4] 24)).alloc (.cells #[.slice b1 Q.d.length d1, .slice b2 Q.v.length d2, .slice b3 Q.o.length d3, .slice b4 Q.p.length d4] 24)) w.heap.size (.slice a1 P.d.length c1) (.slice a2 P.v.length c2) (.slice a3 P.o.length c3) (.slice a4 P.p.length c4)) ∧ BxM ((w.alloc (.cells #[.slice a1 P.d.length c1, .slice a2 P.v.length c2, .slice a3 P.o.length c3, .slice a4 P.p.length c4] 24)).alloc (.cells #[.slice b1 Q.d.length d1, .slice b2 Q.v.length d2, .slice b3 Q.o.length d3, .slice b4 Q.p.length d4] 24)) (w.heap.size + 1) (.slice b1 Q.d.length d1) (.slice b2 Q.v.length d2) (.slice b3 Q.o.length d3) (.slice b4 Q.p.length d4)) := ⟨⟨boxB2 _ _ _, keepBxM _ _ _ _ _ _ _ (BxM.new rfl _ _ _ _) (boxB _ _)⟩, BxM.new (by simp) _ _ _ _⟩
      obtain ⟨p0, p1, p2, p3, p4⟩ := HO0.out.1.2
      obtain ⟨q0, q1, q2, q3, q4⟩ := HO0.out.2
      go_enter Tryz.func7, Tryz.ntmps7
      go_wp2_with (first
        | (have _h := HO0; go_at_call 13; refine (HP.out _ (HO0.out.1.1)).mono ?_; rintro e y1 ⟨rfl, ok⟩; have HO1 : Hid (((Below w.heap.size w y1) ∧ BxM y1 w.heap.size (.slice a1 P.d.length c1) (.slice a2 P.v.length c2) (.slice a3 P.o.length c3) (.slice a4 P.p.length c4)) ∧ BxM y1 (w.heap.size + 1) (.slice b1 Q.d.length d1) (.slice b2 Q.v.length d2) (.slice b3 Q.o.length d3) (.slice b4 Q.p.length d4)) := HK0.out _ _ HO0.out ok; clear ok HO0 p0 p1 p2 p3 p4 q0 q1 q2 q3 q4; obtain ⟨p0, p1, p2, p3, p4⟩ := HO1.out.1.2; obtain ⟨q0, q1, q2, q3, q4⟩ := HO1.out.2)
        | (have _h := HO1; go_at_call 13; refine (HQ.out _ (HO1.out.1.1)).mono ?_; rintro e y2 ⟨rfl, ok⟩; have HO2 : Hid (((Below w.heap.size w y2) ∧ BxM y2 w.heap.size (.slice a1 P.d.length c1) (.slice a2 P.v.length c2) (.slice a3 P.o.length c3) (.slice a4 P.p.length c4)) ∧ BxM y2 (w.heap.size + 1) (.slice b1 Q.d.length d1) (.slice b2 Q.v.length d2) (.slice b3 Q.o.length d3) (.slice b4 Q.p.length d4)) := HK0.out _ _ HO1.out ok; clear ok HO1 p0 p1 p2 p3 p4 q0 q1 q2 q3 q4; obtain ⟨p0, p1, p2, p3, p4⟩ := HO2.out.1.2; obtain ⟨q0, q1, q2, q3, q4⟩ := HO2.out.2)
        | (have _h := HO2; go_at_call 12; refine (HKN.out _ (HO2.out.1.1)).mono ?_; rintro e y3 ⟨rfl, ok⟩; have HO3 : Hid (((Below w.heap.size w y3) ∧ BxM y3 w.heap.size (.slice a1 P.d.length c1) (.slice a2 P.v.length c2) (.slice a3 P.o.length c3) (.slice a4 P.p.length c4)) ∧ BxM y3 (w.heap.size + 1) (.slice b1 Q.d.length d1) (.slice b2 Q.v.length d2) (.slice b3 Q.o.length d3) (.slice b4 Q.p.length d4)) := HK0.out _ _ HO2.out ok; clear ok HO2 p0 p1 p2 p3 p4 q0 q1 q2 q3 q4; obtain ⟨p0, p1, p2, p3, p4⟩ := HO3.out.1.2; obtain ⟨q0, q1, q2, q3, q4⟩ := HO3.out.2)
        | (have _h := HO3; go_at_call 8; refine (HMP.out _ (HO3.out.1.1)).mono ?_; rintro e y4 ⟨rfl, ok⟩; have HO4 : Hid (((Below w.heap.size w y4) ∧ BxM y4 w.heap.size (.slice a1 P.d.length c1) (.slice a2 P.v.length c2) (.slice a3 P.o.length c3) (.slice a4 P.p.length c4)) ∧ BxM y4 (w.heap.size + 1) (.slice b1 Q.d.length d1) (.slice b2 Q.v.length d2) (.slice b3 Q.o.length d3) (.slice b4 Q.p.length d4)) := HK0.out _ _ HO3.out ok; clear ok HO3 p0 p1 p2 p3 p4 q0 q1 q2 q3 q4; obtain ⟨p0, p1, p2, p3, p4⟩ := HO4.out.1.2; obtain ⟨q0, q1, q2, q3, q4⟩ := HO4.out.2)
        | (have _h := HO4; go_at_call 8; refine (HMQ.out _ (HO4.out.1.1)).mono ?_; rintro e y5 ⟨rfl, ok⟩; have HO5 : Hid (((Below w.heap.size w y5) ∧ BxM y5 w.heap.size (.slice a1 P.d.length c1) (.slice a2 P.v.length c2) (.slice a3 P.o.length c3) (.slice a4 P.p.length c4)) ∧ BxM y5 (w.heap.size + 1) (.slice b1 Q.d.length d1) (.slice b2 Q.v.length d2) (.slice b3 Q.o.length d3) (.slice b4 Q.p.length d4)) := HK0.out _ _ HO4.out ok; clear ok HO4 p0 p1 p2 p3 p4 q0 q1 q2 q3 q4; obtain ⟨p0, p1, p2, p3, p4⟩ := HO5.out.1.2; obtain ⟨q0, q1, q2, q3, q4⟩ := HO5.out.2))
      go_ret
      exact ⟨by first | rfl | simp, HO5.out.1.1⟩
  · rw [hbp] at HP HMP
    cases hbq : writtenMB Q
    · rw [hbq] at HQ HMQ
      simp only [Bool.false_eq_true, if_false, if_true] at HP HQ
      clear HTX HSA
      have HK0 : Hid (KeepP fun w1 => ((Below w.heap.size w w1) ∧ BxM w1 w.heap.size (.slice a1 P.d.length c1) (.slice a2 P.v.length c2) (.slice a3 P.o.length c3) (.slice a4 P.p.length c4)) ∧ BxM w1 (w.heap.size + 1) (.slice b1 Q.d.length d1) (.slice b2 Q.v.length d2) (.slice b3 Q.o.length d3) (.slice b4 Q.p.length d4)) := (KeepP.and ((KeepP.and (keepBelow w) (keepBxM _ _ _ _ _))) (keepBxM _ _ _ _ _))
      have HO0 : Hid (((Below w.heap.size w ((w.alloc (.cells #[.slice a1 P.d.length c1, .slice a2 P.v.length c2, .slice a3 P.o.length c3, .slice a4 P.p.length c4] 24)).alloc (.cells #[.slice b1 Q.d.length d1, .slice b2 Q.v.length d2, .slice b3 Q.o.length d3, .slice b4 Q.p.length d4] 24))) ∧ BxM ((w.alloc (.cells #[.slice a1 P.d.length c1, .slice a2 P.v.length c2, .slice a3 P.o.length c3, .slice a4 P.p.length c4] 24)).alloc (.cells #[.slice b1 Q.d.length d1, .slice b2 Q.v.length d2, .slice b3 Q.o.length d3, .slice b4 Q.p.length d4] 24)) w.heap.size (.slice a1 P.d.length c1) (.slice a2 P.v.length c2) (.slice a3 P.o.length c3) (.slice a4 P.p.length c4)) ∧ BxM ((w.alloc (.cells #[.slice a1 P.d.length c1, .slice a2 P.v.length c2, .slice a3 P.o.length c3, .slice a4 P.p.length c4] 24)).alloc (.cells #[.slice b1 Q.d.length d1, .slice b2 Q.v.length d2, .slice b3 Q.o.length d3, .slice b4 Q.p.length d4] 24)) (w.heap.size + 1) (.slice b1 Q.d.length d1) (.slice b2 Q.v.length d2) (.slice b3 Q.o.length d3) (.slice b4 Q.p.length d4)) := ⟨⟨boxB2 _ _ _, keepBxM _ _ _ _ _ _ _ (BxM.new rfl _ _ _ _) (boxB _ _)⟩, BxM.new (by simp) _ _ _ _⟩
      obtain ⟨p0, p1, p2, p3, p4⟩ := HO0.out.1.2
      obtain ⟨q0, q1, q2, q3, q4⟩ := HO0.out.2
      go_enter Tryz.func7, Tryz.ntmps7
      go_wp2_with (first
        | (have _h := HO0; go_at_call 13; refine (HP.out _ (HO0.out.1.1)).mono ?_; rintro e y1 ⟨rfl, ok⟩; have HO1 : Hid (((Below w.heap.size w y1) ∧ BxM y1 w.heap.size (.slice a1 P.d.length c1) (.slice a2 P.v.length c2) (.slice a3 P.o.length c3) (.slice a4 P.p.length c4)) ∧ BxM y1 (w.heap.size + 1) (.slice b1 Q.d.length d1) (.slice b2 Q.v.length d2) (.slice b3 Q.o.length d3) (.slice b4 Q.p.length d4)) := HK0.out _ _ HO0.out ok; clear ok HO0 p0 p1 p2 p3 p4 q0 q1 q2 q3 q4; obtain ⟨p0, p1, p2, p3, p4⟩ := HO1.out.1.2; obtain ⟨q0, q1, q2, q3, q4⟩ := HO1.out.2)
        | (have _h := HO1; go_at_call 13; refine (HQ.out _ (HO1.out.1.1)).mono ?_; rintro e y2 ⟨rfl, ok⟩; have HO2 : Hid (((Below w.heap.size w y2) ∧ BxM y2 w.heap.size (.slice a1 P.d.length c1) (.slice a2 P.v.length c2) (.slice a3 P.o.length c3) (.slice a4 P.p.length c4)) ∧ BxM y2 (w.heap.size + 1) (.slice b1 Q.d.length d1) (.slice b2 Q.v.length d2) (.slice b3 Q.o.length d3) (.slice b4 Q.p.length d4)) := HK0.out _ _ HO1.out ok; clear ok HO1 p0 p1 p2 p3 p4 q0 q1 q2 q3 q4; obtain ⟨p0, p1, p2, p3, p4⟩ := HO2.out.1.2; obtain ⟨q0, q1, q2, q3, q4⟩ := HO2.out.2)
        | (have _h := HO2; go_at_call 12; refine (HKN.out _ (HO2.out.1.1)).mono ?_; rintro e y3 ⟨rfl, ok⟩; have HO3 : Hid (((Below w.heap.size w y3) ∧ BxM y3 w.heap.size (.slice a1 P.d.length c1) (.slice a2 P.v.length c2) (.slice a3 P.o.length c3) (.slice a4 P.p.length c4)) ∧ BxM y3 (w.heap.size + 1) (.slice b1 Q.d.length d1) (.slice b2 Q.v.length d2) (.slice b3 Q.o.length d3) (.slice b4 Q.p.length d4)) := HK0.out _ _ HO2.out ok; clear ok HO2 p0 p1 p2 p3 p4 q0 q1 q2 q3 q4; obtain ⟨p0, p1, p2, p3, p4⟩ := HO3.out.1.2; obtain ⟨q0, q1, q2, q3, q4⟩ := HO3.out.2)
        | (have _h := HO3; go_at_call 8; refine (HMP.out _ (HO3.out.1.1)).mono ?_; rintro e y4 ⟨rfl, ok⟩; have HO4 : Hid (((Below w.heap.size w y4) ∧ BxM y4 w.heap.size (.slice a1 P.d.length c1) (.slice a2 P.v.length c2) (.slice a3 P.o.length c3) (.slice a4 P.p.length c4)) ∧ BxM y4 (w.heap.size + 1) (.slice b1 Q.d.length d1) (.slice b2 Q.v.length d2) (.slice b3 Q.o.length d3) (.slice b4 Q.p.length d4)) := HK0.out _ _ HO3.out ok; clear ok HO3 p0 p1 p2 p3 p4 q0 q1 q2 q3 q4; obtain ⟨p0, p1, p2, p3, p4⟩ := HO4.out.1.2; obtain ⟨q0, q1, q2, q3, q4⟩ := HO4.out.2)
        | (have _h := HO4; go_at_call 8; refine (HMQ.out _ (HO4.out.1.1)).mono ?_; rintro e y5 ⟨rfl, ok⟩; have HO5 : Hid (((Below w.heap.size w y5) ∧ BxM y5 w.heap.size (.slice a1 P.d.length c1) (.slice a2 P.v.length c2) (.slice a3 P.o.length c3) (.slice a4 P.p.length c4)) ∧ BxM y5 (w.heap.size + 1) (.slice b1 Q.d.length d1) (.slice b2 Q.v.length d2) (.slice b3 Q.o.length d3) (.slice b4 Q.p.length d4)) := HK0.out _ _ HO4.out ok; clear ok HO4 p0 p1 p2 p3 p4 q0 q1 q2 q3 q4; obtain ⟨p0, p1, p2, p3, p4⟩ := HO5.out.1.2; obtain ⟨q0, q1, q2, q3, q4⟩ := HO5.out.2))
      go_ret
      exact ⟨by first | rfl | simp, HO5.out.1.1⟩
    · rw [hbq] at HQ HMQ
      simp only [if_true] at HP HQ
      have htx := HTX.out hbp hbq
      clear HTX
      generalize eqB P Q = be at *
      cases be
      · skip
        have HK0 : Hid (KeepP fun w1 => ((Below w.heap.size w w1) ∧ BxM w1 w.heap.size (.slice a1 P.d.length c1) (.slice a2 P.v.length c2) (.slice a3 P.o.length c3) (.slice a4 P.p.length c4)) ∧ BxM w1 (w.heap.size + 1) (.slice b1 Q.d.length d1) (.slice b2 Q.v.length d2) (.slice b3 Q.o.length d3) (.slice b4 Q.p.length d4)) := (KeepP.and ((KeepP.and (keepBelow w) (keepBxM _ _ _ _ _))) (keepBxM _ _ _ _ _))
        have HO0 : Hid (((Below w.heap.size w ((w.alloc (.cells #[.slice a1 P.d.length c1, .slice a2 P.v.length c2, .slice a3 P.o.length c3, .slice a4 P.p.length c4] 24)).alloc (.cells #[.slice b1 Q.d.length d1, .slice b2 Q.v.length d2, .slice b3 Q.o.length d3, .slice b4 Q.p.length d4] 24))) ∧ BxM ((w.alloc (.cells #[.slice a1 P.d.length c1, .slice a2 P.v.length c2, .slice a3 P.o.length c3, .slice a4 P.p.length c4] 24)).alloc (.cells #[.slice b1 Q.d.length d1, .slice b2 Q.v.length d2, .slice b3 Q.o.length d3, .slice b4 Q.p.length d4] 24)) w.heap.size (.slice a1 P.d.length c1) (.slice a2 P.v.length c2) (.slice a3 P.o.length c3) (.slice a4 P.p.length c4)) ∧ BxM ((w.alloc (.cells #[.slice a1 P.d.length c1, .slice a2 P.v.length c2, .slice a3 P.o.length c3, .slice a4 P.p.length c4] 24)).alloc (.cells #[.slice b1 Q.d.length d1, .slice b2 Q.v.length d2, .slice b3 Q.o.length d3, .slice b4 Q.p.length d4] 24)) (w.heap.size + 1) (.slice b1 Q.d.length d1) (.slice b2 Q.v.length d2) (.slice b3 Q.o.length d3) (.slice b4 Q.p.length d4)) := ⟨⟨boxB2 _ _ _, keepBxM _ _ _ _ _ _ _ (BxM.new rfl _ _ _ _) (boxB _ _)⟩, BxM.new (by simp) _ _ _ _⟩
        obtain ⟨p0, p1, p2, p3, p4⟩ := HO0.out.1.2
        obtain ⟨q0, q1, q2, q3, q4⟩ := HO0.out.2
        go_enter Tryz.func7, Tryz.ntmps7
        go_wp2_with (first
          | (have _h := HO0; go_at_call 13; refine (HP.out _ (HO0.out.1.1)).mono ?_; rintro e y1 ⟨rfl, ok⟩; have HO1 : Hid (((Below w.heap.size w y1) ∧ BxM y1 w.heap.size (.slice a1 P.d.length c1) (.slice a2 P.v.length c2) (.slice a3 P.o.length c3) (.slice a4 P.p.length c4)) ∧ BxM y1 (w.heap.size + 1) (.slice b1 Q.d.length d1) (.slice b2 Q.v.length d2) (.slice b3 Q.o.length d3) (.slice b4 Q.p.length d4)) := HK0.out _ _ HO0.out ok; clear ok HO0 p0 p1 p2 p3 p4 q0 q1 q2 q3 q4; obtain ⟨p0, p1, p2, p3, p4⟩ := HO1.out.1.2; obtain ⟨q0, q1, q2, q3, q4⟩ := HO1.out.2)
          | (have _h := HO1; go_at_call 13; refine (HQ.out _ (HO1.out.1.1)).mono ?_; rintro e y2 ⟨rfl, ok⟩; have HO2 : Hid (((Below w.heap.size w y2) ∧ BxM y2 w.heap.size (.slice a1 P.d.length c1) (.slice a2 P.v.length c2) (.slice a3 P.o.length c3) (.slice a4 P.p.length c4)) ∧ BxM y2 (w.heap.size + 1) (.slice b1 Q.d.length d1) (.slice b2 Q.v.length d2) (.slice b3 Q.o.length d3) (.slice b4 Q.p.length d4)) := HK0.out _ _ HO1.out ok; clear ok HO1 p0 p1 p2 p3 p4 q0 q1 q2 q3 q4; obtain ⟨p0, p1, p2, p3, p4⟩ := HO2.out.1.2; obtain ⟨q0, q1, q2, q3, q4⟩ := HO2.out.2)
          | (have _h := HO2; go_at_call 12; refine (HKN.out _ (HO2.out.1.1)).mono ?_; rintro e y3 ⟨rfl, ok⟩; have HO3 : Hid (((Below w.heap.size w y3) ∧ BxM y3 w.heap.size (.slice a1 P.d.length c1) (.slice a2 P.v.length c2) (.slice a3 P.o.length c3) (.slice a4 P.p.length c4)) ∧ BxM y3 (w.heap.size + 1) (.slice b1 Q.d.length d1) (.slice b2 Q.v.length d2) (.slice b3 Q.o.length d3) (.slice b4 Q.p.length d4)) := HK0.out _ _ HO2.out ok; clear ok HO2 p0 p1 p2 p3 p4 q0 q1 q2 q3 q4; obtain ⟨p0, p1, p2, p3, p4⟩ := HO3.out.1.2; obtain ⟨q0, q1, q2, q3, q4⟩ := HO3.out.2)
          | (have _h := HO3; go_at_call 8; refine (HMP.out _ (HO3.out.1.1)).mono ?_; rintro e y4 ⟨rfl, ok⟩; have HO4 : Hid (((Below w.heap.size w y4) ∧ BxM y4 w.heap.size (.slice a1 P.d.length c1) (.slice a2 P.v.length c2) (.slice a3 P.o.length c3) (.slice a4 P.p.length c4)) ∧ BxM y4 (w.heap.size + 1) (.slice b1 Q.d.length d1) (.slice b2 Q.v.length d2) (.slice b3 Q.o.length d3) (.slice b4 Q.p.length d4)) := HK0.out _ _ HO3.out ok; clear ok HO3 p0 p1 p2 p3 p4 q0 q1 q2 q3 q4; obtain ⟨p0, p1, p2, p3, p4⟩ := HO4.out.1.2; obtain ⟨q0, q1, q2, q3, q4⟩ := HO4.out.2)
          | (have _h := HO4; go_at_call 8; refine (HMQ.out _ (HO4.out.1.1)).mono ?_; rintro e y5 ⟨rfl, ok⟩; have HO5 : Hid (((Below w.heap.size w y5) ∧ BxM y5 w.heap.size (.slice a1 P.d.length c1) (.slice a2 P.v.length c2) (.slice a3 P.o.length c3) (.slice a4 P.p.length c4)) ∧ BxM y5 (w.heap.size + 1) (.slice b1 Q.d.length d1) (.slice b2 Q.v.length d2) (.slice b3 Q.o.length d3) (.slice b4 Q.p.length d4)) := HK0.out _ _ HO4.out ok; clear ok HO4 p0 p1 p2 p3 p4 q0 q1 q2 q3 q4; obtain ⟨p0, p1, p2, p3, p4⟩ := HO5.out.1.2; obtain ⟨q0, q1, q2, q3, q4⟩ := HO5.out.2)
          | (have _h := HO5; go_at_call 10; refine (HSA.out _ (HO5.out.1.1)).mono ?_; rintro e y6 ⟨rfl, ok⟩; have HO6 : Hid (((Below w.heap.size w y6) ∧ BxM y6 w.heap.size (.slice a1 P.d.length c1) (.slice a2 P.v.length c2) (.slice a3 P.o.length c3) (.slice a4 P.p.length c4)) ∧ BxM y6 (w.heap.size + 1) (.slice b1 Q.d.length d1) (.slice b2 Q.v.length d2) (.slice b3 Q.o.length d3) (.slice b4 Q.p.length d4)) := HK0.out _ _ HO5.out ok; clear ok HO5 p0 p1 p2 p3 p4 q0 q1 q2 q3 q4; obtain ⟨p0, p1, p2, p3, p4⟩ := HO6.out.1.2; obtain ⟨q0, q1, q2, q3, q4⟩ := HO6.out.2))
        go_ret
        exact ⟨by first | rfl | simp, HO6.out.1.1⟩
      · skip
        have HK0 : Hid (KeepP fun w1 => ((Below w.heap.size w w1) ∧ BxM w1 w.heap.size (.slice a1 P.d.length c1) (.slice a2 P.v.length c2) (.slice a3 P.o.length c3) (.slice a4 P.p.length c4)) ∧ BxM w1 (w.heap.size + 1) (.slice b1 Q.d.length d1) (.slice b2 Q.v.length d2) (.slice b3 Q.o.length d3) (.slice b4 Q.p.length d4)) := (KeepP.and ((KeepP.and (keepBelow w) (keepBxM _ _ _ _ _))) (keepBxM _ _ _ _ _))
        have HO0 : Hid (((Below w.heap.size w ((w.alloc (.cells #[.slice a1 P.d.length c1, .slice a2 P.v.length c2, .slice a3 P.o.length c3, .slice a4 P.p.length c4] 24)).alloc (.cells #[.slice b1 Q.d.length d1, .slice b2 Q.v.length d2, .slice b3 Q.o.length d3, .slice b4 Q.p.length d4] 24))) ∧ BxM ((w.alloc (.cells #[.slice a1 P.d.length c1, .slice a2 P.v.length c2, .slice a3 P.o.length c3, .slice a4 P.p.length c4] 24)).alloc (.cells #[.slice b1 Q.d.length d1, .slice b2 Q.v.length d2, .slice b3 Q.o.length d3, .slice b4 Q.p.length d4] 24)) w.heap.size (.slice a1 P.d.length c1) (.slice a2 P.v.length c2) (.slice a3 P.o.length c3) (.slice a4 P.p.length c4)) ∧ BxM ((w.alloc (.cells #[.slice a1 P.d.length c1, .slice a2 P.v.length c2, .slice a3 P.o.length c3, .slice a4 P.p.length c4] 24)).alloc (.cells #[.slice b1 Q.d.length d1, .slice b2 Q.v.length d2, .slice b3 Q.o.length d3, .slice b4 Q.p.length d4] 24)) (w.heap.size + 1) (.slice b1 Q.d.length d1) (.slice b2 Q.v.length d2) (.slice b3 Q.o.length d3) (.slice b4 Q.p.length d4)) := ⟨⟨boxB2 _ _ _, keepBxM _ _ _ _ _ _ _ (BxM.new rfl _ _ _ _) (boxB _ _)⟩, BxM.new (by simp) _ _ _ _⟩
        obtain ⟨p0, p1, p2, p3, p4⟩ := HO0.out.1.2
        obtain ⟨q0, q1, q2, q3, q4⟩ := HO0.out.2
        go_enter Tryz.func7, Tryz.ntmps7
        go_wp2_with (first
          | (have _h := HO0; go_at_call 13; refine (HP.out _ (HO0.out.1.1)).mono ?_; rintro e y1 ⟨rfl, ok⟩; have HO1 : Hid (((Below w.heap.size w y1) ∧ BxM y1 w.heap.size (.slice a1 P.d.length c1) (.slice a2 P.v.length c2) (.slice a3 P.o.length c3) (.slice a4 P.p.length c4)) ∧ BxM y1 (w.heap.size + 1) (.slice b1 Q.d.length d1) (.slice b2 Q.v.length d2) (.slice b3 Q.o.length d3) (.slice b4 Q.p.length d4)) := HK0.out _ _ HO0.out ok; clear ok HO0 p0 p1 p2 p3 p4 q0 q1 q2 q3 q4; obtain ⟨p0, p1, p2, p3, p4⟩ := HO1.out.1.2; obtain ⟨q0, q1, q2, q3, q4⟩ := HO1.out.2)
          | (have _h := HO1; go_at_call 13; refine (HQ.out _ (HO1.out.1.1)).mono ?_; rintro e y2 ⟨rfl, ok⟩; have HO2 : Hid (((Below w.heap.size w y2) ∧ BxM y2 w.heap.size (.slice a1 P.d.length c1) (.slice a2 P.v.length c2) (.slice a3 P.o.length c3) (.slice a4 P.p.length c4)) ∧ BxM y2 (w.heap.size + 1) (.slice b1 Q.d.length d1) (.slice b2 Q.v.length d2) (.slice b3 Q.o.length d3) (.slice b4 Q.p.length d4)) := HK0.out _ _ HO1.out ok; clear ok HO1 p0 p1 p2 p3 p4 q0 q1 q2 q3 q4; obtain ⟨p0, p1, p2, p3, p4⟩ := HO2.out.1.2; obtain ⟨q0, q1, q2, q3, q4⟩ := HO2.out.2)
          | (have _h := HO2; go_at_call 12; refine (HKN.out _ (HO2.out.1.1)).mono ?_; rintro e y3 ⟨rfl, ok⟩; have HO3 : Hid (((Below w.heap.size w y3) ∧ BxM y3 w.heap.size (.slice a1 P.d.length c1) (.slice a2 P.v.length c2) (.slice a3 P.o.length c3) (.slice a4 P.p.length c4)) ∧ BxM y3 (w.heap.size + 1) (.slice b1 Q.d.length d1) (.slice b2 Q.v.length d2) (.slice b3 Q.o.length d3) (.slice b4 Q.p.length d4)) := HK0.out _ _ HO2.out ok; clear ok HO2 p0 p1 p2 p3 p4 q0 q1 q2 q3 q4; obtain ⟨p0, p1, p2, p3, p4⟩ := HO3.out.1.2; obtain ⟨q0, q1, q2, q3, q4⟩ := HO3.out.2)
          | (have _h := HO3; go_at_call 8; refine (HMP.out _ (HO3.out.1.1)).mono ?_; rintro e y4 ⟨rfl, ok⟩; have HO4 : Hid (((Below w.heap.size w y4) ∧ BxM y4 w.heap.size (.slice a1 P.d.length c1) (.slice a2 P.v.length c2) (.slice a3 P.o.length c3) (.slice a4 P.p.length c4)) ∧ BxM y4 (w.heap.size + 1) (.slice b1 Q.d.length d1) (.slice b2 Q.v.length d2) (.slice b3 Q.o.length d3) (.slice b4 Q.p.length d4)) := HK0.out _ _ HO3.out ok; clear ok HO3 p0 p1 p2 p3 p4 q0 q1 q2 q3 q4; obtain ⟨p0, p1, p2, p3, p4⟩ := HO4.out.1.2; obtain ⟨q0, q1, q2, q3, q4⟩ := HO4.out.2)
          | (have _h := HO4; go_at_call 8; refine (HMQ.out _ (HO4.out.1.1)).mono ?_; rintro e y5 ⟨rfl, ok⟩; have HO5 : Hid (((Below w.heap.size w y5) ∧ BxM y5 w.heap.size (.slice a1 P.d.length c1) (.slice a2 P.v.length c2) (.slice a3 P.o.length c3) (.slice a4 P.p.length c4)) ∧ BxM y5 (w.heap.size + 1) (.slice b1 Q.d.length d1) (.slice b2 Q.v.length d2) (.slice b3 Q.o.length d3) (.slice b4 Q.p.length d4)) := HK0.out _ _ HO4.out ok; clear ok HO4 p0 p1 p2 p3 p4 q0 q1 q2 q3 q4; obtain ⟨p0, p1, p2, p3, p4⟩ := HO5.out.1.2; obtain ⟨q0, q1, q2, q3, q4⟩ := HO5.out.2)
          | (have _h := HO5; go_at_call 10; refine (HSA.out _ (HO5.out.1.1)).mono ?_; rintro e y6 ⟨rfl, ok⟩; have HO6 : Hid (((Below w.heap.size w y6) ∧ BxM y6 w.heap.size (.slice a1 P.d.length c1) (.slice a2 P.v.length c2) (.slice a3 P.o.length c3) (.slice a4 P.p.length c4)) ∧ BxM y6 (w.heap.size + 1) (.slice b1 Q.d.length d1) (.slice b2 Q.v.length d2) (.slice b3 Q.o.length d3) (.slice b4 Q.p.length d4)) := HK0.out _ _ HO5.out ok; clear ok HO5 p0 p1 p2 p3 p4 q0 q1 q2 q3 q4; obtain ⟨p0, p1, p2, p3, p4⟩ := HO6.out.1.2; obtain ⟨q0, q1, q2, q3, q4⟩ := HO6.out.2))
        go_ret
        exact ⟨by first | rfl | simp, HO6.out.1.1⟩
end Go.Proofs.YtjfbgiajjkjghaaGreatDoor
namespace Go.Proofs.YtjfbgiajjkjghaaGreatDoor
open Go.ChangeShapes Go.WideShapes Go.ChangeAt Go.RowKit
set_option maxRecDepth 100000

theorem manifestTexts_lifted (os : Os) (started : os.Started) (H : Type) (enc : TypeId × Value → H) :
    ReturnsInHanded {} Tryz.checked os 7 .any (fun w args => (Rows.manifestTextsSpec.pre enc Tryz.prog Tryz.f7 [] false w args ∧ laidMetH Tryz.prog Rows.manifestTextsRow.laid w) ∧ sizedMet enc Tryz.prog Tryz.f7 (OpenSpec.ofChange Rows.manifestTextsSpec) false w args)
      (Rows.manifestTextsSpec.post enc Tryz.prog Tryz.f7 false true false false) := by
  refine wrap_laid (C := Tryz.checked) (l := Rows.manifestTextsRow.laid) own started (by kernel_rfl) Tryz.func7
    (ChangeSpec.witness_shaped (enc := enc) (C := Tryz.checked) (os := os) (X := fun w _ => laidMetH Tryz.prog Rows.manifestTextsRow.laid w) false (World.laidAll Tryz.prog os Rows.manifestTextsRow.laid) #[.agg #[.slice none 0 0, .slice none 0 0, .slice none 0 0, .slice none 0 0], .agg #[.slice none 0 0, .slice none 0 0, .slice none 0 0, .slice none 0 0]] 8 (World.laidAll_os _ _ _)
      (World.shaped_of_ZipB (by kernel_rfl) (by kernel_rfl)) (by kernel_rfl) (by kernel_rfl) (by kernel_rfl)
      (by rw [MakeChecks.laidMetH_plain _ _ _ (by kernel_rfl)]; exact laidMet_laidAll _ (by kernel_rfl) (by kernel_rfl))) ?_
  intro W base args ds gs before hval0 hW _ hsh hlaid
  have hval : ∀ (j : Nat) t v, Tryz.f7.params[j]? = some t → args[j]? = some v → Value.okWide Tryz.prog W .any base t v := hval0
  have hW' := hW
  obtain ⟨p, q, hA0, hV, rfl, _, _⟩ := hW
  have hA : DataW.TrodAll enc Tryz.prog W 0 (fun _ => true) true Tryz.f7.params.toList args.toList ds p := hA0
  rw [Tryz.params7] at hA hval
  rw [MakeChecks.laidMetH_plain _ _ _ (by kernel_rfl)] at hlaid
  obtain ⟨v0, vs0, d0, ds0, p0, q0, hargs, rfl, rfl, h0, r0⟩ := trodAll_cons hA
  obtain ⟨v1, vs1, d1, ds1, p1, q1, rfl, rfl, rfl, h1, r1⟩ := trodAll_cons r0
  obtain ⟨rfl, rfl, rfl⟩ := trodAll_nil r1
  obtain rfl : args = #[v0, v1] := by cases args; simp_all
  obtain ⟨rfl, rfl⟩ := trodVars_none hV
  have k0 := h0
  have lt0 : ∀ x ∈ p0, x.block < W.heap.size := by obtain ⟨m, hm⟩ := k0; exact DataW.trod_lt m _ _ _ hm
  obtain ⟨P0, x0, y0, z0, u0, rfl, hp0, hz0, hn0⟩ := open_man (hval 0 24 v0 rfl rfl) h0
  have k1 := h1
  have lt1 : ∀ x ∈ p1, x.block < W.heap.size := by obtain ⟨m, hm⟩ := k1; exact DataW.trod_lt m _ _ _ hm
  obtain ⟨P1, x1, y1, z1, u1, rfl, hp1, hz1, hn1⟩ := open_man (hval 1 24 v1 rfl rfl) h1
  clear hA0 hval0
  refine (manifestTexts_walk hp0 hp1 hz0 (env3_of hsh hlaid).1 (env3_of hsh hlaid).2).mono fun e W' ⟨he, bel⟩ => ?_
  subst he
  exact ⟨_, rfl, _, _, _, [], _, [], hW', trodAll_mk1 (shut_bool Tryz.underlying4 _), (trodAll_cons_mk (Below.trod laidOut (by kernel_rfl) (of_decide_eq_true (by kernel_rfl)) k0 bel lt0) (trodAll_cons_mk (Below.trod laidOut (by kernel_rfl) (of_decide_eq_true (by kernel_rfl)) k1 bel lt1) trodAll_mk0)), rfl, bel.frame _, fun h => by cases h⟩

theorem manifestTexts_said : Rows.ManifestTextsSaid :=
  OpenClaim.holds_of_wide 7 Tryz.f7 rfl rfl rfl rfl rfl rfl rfl ⟨rfl, rfl, rfl, rfl, rfl⟩ rfl rfl rfl rfl rfl (by kernel_rfl) Tryz.func7 (by kernel_rfl)
    (of_decide_eq_true (by kernel_rfl)) (by unfold Func.isWrapper; first | (rw [if_pos (by decide +kernel)]; kernel_rfl) | (rw [if_neg (by decide +kernel)]; exact ⟨rfl, rfl⟩))
    (fun os started H enc _ => manifestTexts_lifted os started H enc)

theorem manifestTexts_holds : Rows.ManifestTextsCardSaid :=
  Claim7.holds_tied_plain_at .later [] _ _ _ _ manifestTexts_said (fun _ h => by cases h) (by kernel_rfl) (fun _ h => by cases h) manifestTexts_row_tie rfl ⟨rfl, rfl⟩ (by kernel_rfl) rfl
    (fun f fn hf hfn => by
      obtain rfl : f = 7 := Option.some.inj ((show Tryz.prog.funcNamed Rows.manifestTextsRow.func = some 7 by kernel_rfl).symm.trans hf) |>.symm
      obtain rfl : fn = Tryz.f7 := (Option.some.inj (Tryz.func7.symm.trans hfn)).symm
      exact ⟨by kernel_rfl, fun j t ht => by
        rw [Tryz.params7] at ht
        have hm : t ∈ [24, 24] := by simpa using Array.mem_of_getElem? ht
        have hall : ([24, 24].all fun u => !Tryz.prog.wantsStandIn u) = true := by kernel_rfl
        exact (show Tryz.prog.wantsStandIn t = false by simpa using List.all_eq_true.1 hall t hm)⟩)
    (by kernel_rfl)
#print axioms manifestTexts_holds
end Go.Proofs.YtjfbgiajjkjghaaGreatDoor
