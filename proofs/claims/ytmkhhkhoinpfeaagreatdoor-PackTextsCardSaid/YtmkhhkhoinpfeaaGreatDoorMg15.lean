/- PackTexts: of any arguments it answers true, and each argument reads as it read before (the tied card). Conditions: none but the row's own. -/
import Derived.Test.YtmkhhkhoinpfeaaGreatDoorMg14
namespace Go.Proofs.YtmkhhkhoinpfeaaGreatDoor
open Go.RowKit
set_option maxRecDepth 100000

set_option maxHeartbeats 6400000 in
theorem packTexts_walk {P Q : Pg} {v1 v2 v3 u1 u2 u3 : Value} {w : World} (hp : PgAt w P v1 v2 v3) (hq : PgAt w Q u1 u2 u3) (hd : P.d.length ≤ 9223372036854775807 ∧ P.p.length ≤ 9223372036854775807 ∧ P.o.length ≤ 9223372036854775807) (he : Env w) (hf : FL w) :
    Calls Tryz.prog 8 #[.agg #[.string P.nm, .int .i64 P.a, .int .i64 P.b, .int .i64 P.c, v1, v2, v3], .agg #[.string Q.nm, .int .i64 Q.a, .int .i64 Q.b, .int .i64 Q.c, u1, u2, u3]] w fun e w' => e = .returned (.bool true) ∧ Below w.heap.size w w' := by
  obtain ⟨a1, c1, rfl⟩ := hp.1.sl
  obtain ⟨a2, c2, rfl⟩ := hp.2.1.sl
  obtain ⟨a3, c3, rfl⟩ := hp.2.2.sl
  obtain ⟨b1, d1, rfl⟩ := hq.1.sl
  obtain ⟨b2, d2, rfl⟩ := hq.2.1.sl
  obtain ⟨b3, d3, rfl⟩ := hq.2.2.sl
  have HP : Hid (∀ w1, Below w.heap.size w w1 → Calls Tryz.prog 14 #[.agg #[.string P.nm, .int .i64 P.a, .int .i64 P.b, .int .i64 P.c, .slice a1 P.d.length c1, .slice a2 P.p.length c2, .slice a3 P.o.length c3]] w1 fun e w' => e = .returned (.tuple #[.string (writtenT P), .int .i64 (if writtenB P = true then 0 else 24)]) ∧ Below w1.heap.size w1 w') := fun w1 hb => pPrint_any (hp.below hb) (he.below hb) (hf.below hb)
  have HQ : Hid (∀ w1, Below w.heap.size w w1 → Calls Tryz.prog 14 #[.agg #[.string Q.nm, .int .i64 Q.a, .int .i64 Q.b, .int .i64 Q.c, .slice b1 Q.d.length d1, .slice b2 Q.p.length d2, .slice b3 Q.o.length d3]] w1 fun e w' => e = .returned (.tuple #[.string (writtenT Q), .int .i64 (if writtenB Q = true then 0 else 24)]) ∧ Below w1.heap.size w1 w') := fun w1 hb => pPrint_any (hq.below hb) (he.below hb) (hf.below hb)
  have HMP : Hid (∀ w1, Below w.heap.size w w1 → Calls Tryz.prog 9 #[.agg #[.string P.nm, .int .i64 P.a, .int .i64 P.b, .int .i64 P.c, .slice a1 P.d.length c1, .slice a2 P.p.length c2, .slice a3 P.o.length c3]] w1 fun e w' => e = .returned (.bool (writtenB P)) ∧ Below w1.heap.size w1 w') := fun w1 hb => pMay_any (hp.below hb) (he.below hb) (hf.below hb)
  have HMQ : Hid (∀ w1, Below w.heap.size w w1 → Calls Tryz.prog 9 #[.agg #[.string Q.nm, .int .i64 Q.a, .int .i64 Q.b, .int .i64 Q.c, .slice b1 Q.d.length d1, .slice b2 Q.p.length d2, .slice b3 Q.o.length d3]] w1 fun e w' => e = .returned (.bool (writtenB Q)) ∧ Below w1.heap.size w1 w') := fun w1 hb => pMay_any (hq.below hb) (he.below hb) (hf.below hb)
  have HKN : Hid (∀ w1, Below w.heap.size w w1 → Calls Tryz.prog 13 #[] w1 fun e w' => e = .returned (.bool true) ∧ Below w1.heap.size w1 w') := fun w1 hb => known_pk (he.below hb) (hf.below hb)
  have HSA : Hid (∀ w1, Below w.heap.size w w1 → Calls Tryz.prog 11 #[.agg #[.string P.nm, .int .i64 P.a, .int .i64 P.b, .int .i64 P.c, .slice a1 P.d.length c1, .slice a2 P.p.length c2, .slice a3 P.o.length c3], .agg #[.string Q.nm, .int .i64 Q.a, .int .i64 Q.b, .int .i64 Q.c, .slice b1 Q.d.length d1, .slice b2 Q.p.length d2, .slice b3 Q.o.length d3]] w1 fun e w' => e = .returned (.bool (eqB P Q)) ∧ Below w1.heap.size w1 w') := fun w1 hb => Same_any (hp.below hb) (hq.below hb) hd.1 hd.2.1 hd.2.2
  have HTX : Hid (writtenB P = true → writtenB Q = true → ((writtenT P).toList == (writtenT Q).toList) = eqB P Q) := fun h1 h2 => by
    by_cases e : P = Q
    · subst e
      rw [eqB_yes rfl]
      simp
    · rw [eqB_no e, beq_eq_false_iff_ne]
      exact fun h => e ((pk_one h1 h2).1 (bytes_same h))
  clear hp hq hd he hf
  cases hbp : writtenB P
  · rw [hbp] at HP HMP
    cases hbq : writtenB Q
    · rw [hbq] at HQ HMQ
      simp only [Bool.false_eq_true, if_false] at HP HQ
      clear HTX HSA
      have HK0 : Hid (KeepP fun w1 => ((Below w.heap.size w w1) ∧ BxP w1 w.heap.size P.nm P.a P.b P.c (.slice a1 P.d.length c1) (.slice a2 P.p.length c2) (.slice a3 P.o.length c3)) ∧ BxP w1 (w.heap.size + 1) Q.nm Q.a Q.b Q.c (.slice b1 Q.d.length d1) (.slice b2 Q.p.length d2) (.slice b3 Q.o.length d3)) := (KeepP.and ((KeepP.and (keepBelow w) (keepBxP _ _ _ _ _ _ _ _))) (keepBxP _ _ _ _ _ _ _ _))
      have HO0 : Hid (((Below w.heap.size w ((w.alloc (.cells #[.string P.nm, .int .i64 P.a, .int .i64 P.b, .int .i64 P.c, .slice a1 P.d.length c1, .slice a2 P.p.length c2, .slice a3 P.o.length c3] 26)).alloc (.cells #[.string Q.nm, .int .i64 Q.a, .int .i64 Q.b, .int .i64 Q.c, .slice b1 Q.d.length d1, .slice b2 Q.p.length d2, .slice b3 Q.o.length d3] 26))) ∧ BxP ((w.alloc (.cells #[.string P.nm, .int .i64 P.a, .int .i64 P.b, .int .i64 P.c, .slice a1 P.d.length c1, .slice a2 P.p.length c2, .slice a3 P.o.length c3] 26)).alloc (.cells #[.string Q.nm, .int .i64 Q.a, .int .i64 Q.b, .int .i64 Q.c, .slice b1 Q.d.length d1, .slice b2 Q.p.length d2, .slice b3 Q.o.length d3] 26)) w.heap.size P.nm P.a P.b P.c (.slice a1 P.d.length c1) (.slice a2 P.p.length c2) (.slice a3 P.o.length c3)) ∧ BxP ((w.alloc (.cells #[.string P.nm, .int .i64 P.a, .int .i64 P.b, .int .i64 P.c, .slice a1 P.d.length c1, .slice a2 P.p.length c2, .slice a3 P.o.length c3] 26)).alloc (.cells #[.string Q.nm, .int .i64 Q.a, .int .i64 Q.b, .int .i64 Q.c, .slice b1 Q.d.length d1, .slice b2 Q.p.length d2, .slice b3 Q.o.length d3] 26)) (w.heap.size + 1) Q.nm Q.a Q.b Q.c (.slice b1 Q.d.length d1) (.slice b2 Q.p.length d2) (.slice b3 Q.o.length d3)) := ⟨⟨boxB2 _ _ _, keepBxP _ _ _ _ _ _ _ _ _ _ (BxP.new rfl _ _ _ _ _ _ _) (boxB _ _)⟩, BxP.new (by simp) _ _ _ _ _ _ _⟩
      obtain ⟨p0, p1, p2, p3, p4, p5, p6, p7⟩ := HO0.out.1.2
      obtain ⟨q0, q1, q2, q3, q4, q5, q6, q7⟩ := HO0.out.2
      go_enter Tryz.func8, Tryz.ntmps8
      go_wp2_with (first
        | (have _h := HO0; go_at_call 14; refine (HP.out _ (HO0.out.1.1)).mono ?_; rintro e y1 ⟨rfl, ok⟩; have HO1 : Hid (((Below w.heap.size w y1) ∧ BxP y1 w.heap.size P.nm P.a P.b P.c (.slice a1 P.d.length c1) (.slice a2 P.p.length c2) (.slice a3 P.o.length c3)) ∧ BxP y1 (w.heap.size + 1) Q.nm Q.a Q.b Q.c (.slice b1 Q.d.length d1) (.slice b2 Q.p.length d2) (.slice b3 Q.o.length d3)) := HK0.out _ _ HO0.out ok; clear ok HO0 p0 p1 p2 p3 p4 p5 p6 p7 q0 q1 q2 q3 q4 q5 q6 q7; obtain ⟨p0, p1, p2, p3, p4, p5, p6, p7⟩ := HO1.out.1.2; obtain ⟨q0, q1, q2, q3, q4, q5, q6, q7⟩ := HO1.out.2)
        | (have _h := HO1; go_at_call 14; refine (HQ.out _ (HO1.out.1.1)).mono ?_; rintro e y2 ⟨rfl, ok⟩; have HO2 : Hid (((Below w.heap.size w y2) ∧ BxP y2 w.heap.size P.nm P.a P.b P.c (.slice a1 P.d.length c1) (.slice a2 P.p.length c2) (.slice a3 P.o.length c3)) ∧ BxP y2 (w.heap.size + 1) Q.nm Q.a Q.b Q.c (.slice b1 Q.d.length d1) (.slice b2 Q.p.length d2) (.slice b3 Q.o.length d3)) := HK0.out _ _ HO1.out ok; clear ok HO1 p0 p1 p2 p3 p4 p5 p6 p7 q0 q1 q2 q3 q4 q5 q6 q7; obtain ⟨p0, p1, p2, p3, p4, p5, p6, p7⟩ := HO2.out.1.2; obtain ⟨q0, q1, q2, q3, q4, q5, q6, q7⟩ := HO2.out.2)
        | (have _h := HO2; go_at_call 13; refine (HKN.out _ (HO2.out.1.1)).mono ?_; rintro e y3 ⟨rfl, ok⟩; have HO3 : Hid (((Below w.heap.size w y3) ∧ BxP y3 w.heap.size P.nm P.a P.b P.c (.slice a1 P.d.length c1) (.slice a2 P.p.length c2) (.slice a3 P.o.length c3)) ∧ BxP y3 (w.heap.size + 1) Q.nm Q.a Q.b Q.c (.slice b1 Q.d.length d1) (.slice b2 Q.p.length d2) (.slice b3 Q.o.length d3)) := HK0.out _ _ HO2.out ok; clear ok HO2 p0 p1 p2 p3 p4 p5 p6 p7 q0 q1 q2 q3 q4 q5 q6 q7; obtain ⟨p0, p1, p2, p3, p4, p5, p6, p7⟩ := HO3.out.1.2; obtain ⟨q0, q1, q2, q3, q4, q5, q6, q7⟩ := HO3.out.2)
        | (have _h := HO3; go_at_call 9; refine (HMP.out _ (HO3.out.1.1)).mono ?_; rintro e y4 ⟨rfl, ok⟩; have HO4 : Hid (((Below w.heap.size w y4) ∧ BxP y4 w.heap.size P.nm P.a P.b P.c (.slice a1 P.d.length c1) (.slice a2 P.p.length c2) (.slice a3 P.o.length c3)) ∧ BxP y4 (w.heap.size + 1) Q.nm Q.a Q.b Q.c (.slice b1 Q.d.length d1) (.slice b2 Q.p.length d2) (.slice b3 Q.o.length d3)) := HK0.out _ _ HO3.out ok; clear ok HO3 p0 p1 p2 p3 p4 p5 p6 p7 q0 q1 q2 q3 q4 q5 q6 q7; obtain ⟨p0, p1, p2, p3, p4, p5, p6, p7⟩ := HO4.out.1.2; obtain ⟨q0, q1, q2, q3, q4, q5, q6, q7⟩ := HO4.out.2)
        | (have _h := HO4; go_at_call 9; refine (HMQ.out _ (HO4.out.1.1)).mono ?_; rintro e y5 ⟨rfl, ok⟩; have HO5 : Hid (((Below w.heap.size w y5) ∧ BxP y5 w.heap.size P.nm P.a P.b P.c (.slice a1 P.d.length c1) (.slice a2 P.p.length c2) (.slice a3 P.o.length c3)) ∧ BxP y5 (w.heap.size + 1) Q.nm Q.a Q.b Q.c (.slice b1 Q.d.length d1) (.slice b2 Q.p.length d2) (.slice b3 Q.o.length d3)) := HK0.out _ _ HO4.out ok; clear ok HO4 p0 p1 p2 p3 p4 p5 p6 p7 q0 q1 q2 q3 q4 q5 q6 q7; obtain ⟨p0, p1, p2, p3, p4, p5, p6, p7⟩ := HO5.out.1.2; obtain ⟨q0, q1, q2, q3, q4, q5, q6, q7⟩ := HO5.out.2))
      go_ret
      exact ⟨by first | rfl | simp, HO5.out.1.1⟩
    · rw [hbq] at HQ HMQ
      simp only [Bool.false_eq_true, if_false, if_true] at HP HQ
      clear HTX HSA
      have HK0 : Hid (KeepP fun w1 => ((Below w.heap.size w w1) ∧ BxP w1 w.heap.size P.nm P.a P.b P.c (.slice a1 P.d.length c1) (.slice a2 P.p.length c2) (.slice a3 P.o.length c3)) ∧ BxP w1 (w.heap.size + 1) Q.nm Q.a Q.b Q.c (.slice b1 Q.d.length d1) (.slice b2 Q.p.length d2) (.slice b3 Q.o.length d3)) := (KeepP.and ((KeepP.and (keepBelow w) (keepBxP _ _ _ _ _ _ _ _))) (keepBxP _ _ _ _ _ _ _ _))
      have HO0 : Hid (((Below w.heap.size w ((w.alloc (.cells #[.string P.nm, .int .i64 P.a, .int .i64 P.b, .int .i64 P.c, .slice a1 P.d.length c1, .slice a2 P.p.length c2, .slice a3 P.o.length c3] 26)).alloc (.cells #[.string Q.nm, .int .i64 Q.a, .int .i64 Q.b, .int .i64 Q.c, .slice b1 Q.d.length d1, .slice b2 Q.p.length d2, .slice b3 Q.o.length d3] 26))) ∧ BxP ((w.alloc (.cells #[.string P.nm, .int .i64 P.a, .int .i64 P.b, .int .i64 P.c, .slice a1 P.d.length c1, .slice a2 P.p.length c2, .slice a3 P.o.length c3] 26)).alloc (.cells #[.string Q.nm, .int .i64 Q.a, .int .i64 Q.b, .int .i64 Q.c, .slice b1 Q.d.length d1, .slice b2 Q.p.length d2, .slice b3 Q.o.length d3] 26)) w.heap.size P.nm P.a P.b P.c (.slice a1 P.d.length c1) (.slice a2 P.p.length c2) (.slice a3 P.o.length c3)) ∧ BxP ((w.alloc (.cells #[.string P.nm, .int .i64 P.a, .int .i64 P.b, .int .i64 P.c, .slice a1 P.d.length c1, .slice a2 P.p.length c2, .slice a3 P.o.length c3] 26)).alloc (.cells #[.string Q.nm, .int .i64 Q.a, .int .i64 Q.b, .int .i64 Q.c, .slice b1 Q.d.length d1, .slice b2 Q.p.length d2, .slice b3 Q.o.length d3] 26)) (w.heap.size + 1) Q.nm Q.a Q.b Q.c (.slice b1 Q.d.length d1) (.slice b2 Q.p.length d2) (.slice b3 Q.o.length d3)) := ⟨⟨boxB2 _ _ _, keepBxP _ _ _ _ _ _ _ _ _ _ (BxP.new rfl _ _ _ _ _ _ _) (boxB _ _)⟩, BxP.new (by simp) _ _ _ _ _ _ _⟩
      obtain ⟨p0, p1, p2, p3, p4, p5, p6, p7⟩ := HO0.out.1.2
      obtain ⟨q0, q1, q2, q3, q4, q5, q6, q7⟩ := HO0.out.2
      go_enter Tryz.func8, Tryz.ntmps8
      go_wp2_with (first
        | (have _h := HO0; go_at_call 14; refine (HP.out _ (HO0.out.1.1)).mono ?_; rintro e y1 ⟨rfl, ok⟩; have HO1 : Hid (((Below w.heap.size w y1) ∧ BxP y1 w.heap.size P.nm P.a P.b P.c (.slice a1 P.d.length c1) (.slice a2 P.p.length c2) (.slice a3 P.o.length c3)) ∧ BxP y1 (w.heap.size + 1) Q.nm Q.a Q.b Q.c (.slice b1 Q.d.length d1) (.slice b2 Q.p.length d2) (.slice b3 Q.o.length d3)) := HK0.out _ _ HO0.out ok; clear ok HO0 p0 p1 p2 p3 p4 p5 p6 p7 q0 q1 q2 q3 q4 q5 q6 q7; obtain ⟨p0, p1, p2, p3, p4, p5, p6, p7⟩ := HO1.out.1.2; obtain ⟨q0, q1, q2, q3, q4, q5, q6, q7⟩ := HO1.out.2)
        | (have _h := HO1; go_at_call 14; refine (HQ.out _ (HO1.out.1.1)).mono ?_; rintro e y2 ⟨rfl, ok⟩; have HO2 : Hid (((Below w.heap.size w y2) ∧ BxP y2 w.heap.size P.nm P.a P.b P.c (.slice a1 P.d.length c1) (.slice a2 P.p.length c2) (.slice a3 P.o.length c3)) ∧ BxP y2 (w.heap.size + 1) Q.nm Q.a Q.b Q.c (.slice b1 Q.d.length d1) (.slice b2 Q.p.length d2) (.slice b3 Q.o.length d3)) := HK0.out _ _ HO1.out ok; clear ok HO1 p0 p1 p2 p3 p4 p5 p6 p7 q0 q1 q2 q3 q4 q5 q6 q7; obtain ⟨p0, p1, p2, p3, p4, p5, p6, p7⟩ := HO2.out.1.2; obtain ⟨q0, q1, q2, q3, q4, q5, q6, q7⟩ := HO2.out.2)
        | (have _h := HO2; go_at_call 13; refine (HKN.out _ (HO2.out.1.1)).mono ?_; rintro e y3 ⟨rfl, ok⟩; have HO3 : Hid (((Below w.heap.size w y3) ∧ BxP y3 w.heap.size P.nm P.a P.b P.c (.slice a1 P.d.length c1) (.slice a2 P.p.length c2) (.slice a3 P.o.length c3)) ∧ BxP y3 (w.heap.size + 1) Q.nm Q.a Q.b Q.c (.slice b1 Q.d.length d1) (.slice b2 Q.p.length d2) (.slice b3 Q.o.length d3)) := HK0.out _ _ HO2.out ok; clear ok HO2 p0 p1 p2 p3 p4 p5 p6 p7 q0 q1 q2 q3 q4 q5 q6 q7; obtain ⟨p0, p1, p2, p3, p4, p5, p6, p7⟩ := HO3.out.1.2; obtain ⟨q0, q1, q2, q3, q4, q5, q6, q7⟩ := HO3.out.2)
        | (have _h := HO3; go_at_call 9; refine (HMP.out _ (HO3.out.1.1)).mono ?_; rintro e y4 ⟨rfl, ok⟩; have HO4 : Hid (((Below w.heap.size w y4) ∧ BxP y4 w.heap.size P.nm P.a P.b P.c (.slice a1 P.d.length c1) (.slice a2 P.p.length c2) (.slice a3 P.o.length c3)) ∧ BxP y4 (w.heap.size + 1) Q.nm Q.a Q.b Q.c (.slice b1 Q.d.length d1) (.slice b2 Q.p.length d2) (.slice b3 Q.o.length d3)) := HK0.out _ _ HO3.out ok; clear ok HO3 p0 p1 p2 p3 p4 p5 p6 p7 q0 q1 q2 q3 q4 q5 q6 q7; obtain ⟨p0, p1, p2, p3, p4, p5, p6, p7⟩ := HO4.out.1.2; obtain ⟨q0, q1, q2, q3, q4, q5, q6, q7⟩ := HO4.out.2)
        | (have _h := HO4; go_at_call 9; refine (HMQ.out _ (HO4.out.1.1)).mono ?_; rintro e y5 ⟨rfl, ok⟩; have HO5 : Hid (((Below w.heap.size w y5) ∧ BxP y5 w.heap.size P.nm P.a P.b P.c (.slice a1 P.d.length c1) (.slice a2 P.p.length c2) (.slice a3 P.o.length c3)) ∧ BxP y5 (w.heap.size + 1) Q.nm Q.a Q.b Q.c (.slice b1 Q.d.length d1) (.slice b2 Q.p.length d2) (.slice b3 Q.o.length d3)) := HK0.out _ _ HO4.out ok; clear ok HO4 p0 p1 p2 p3 p4 p5 p6 p7 q0 q1 q2 q3 q4 q5 q6 q7; obtain ⟨p0, p1, p2, p3, p4, p5, p6, p7⟩ := HO5.out.1.2; obtain ⟨q0, q1, q2, q3, q4, q5, q6, q7⟩ := HO5.out.2))
      go_ret
      exact ⟨by first | rfl | simp, HO5.out.1.1⟩
  · rw [hbp] at HP HMP
    cases hbq : writtenB Q
    · rw [hbq] at HQ HMQ
      simp only [Bool.false_eq_true, if_false, if_true] at HP HQ
      clear HTX HSA
      have HK0 : Hid (KeepP fun w1 => ((Below w.heap.size w w1) ∧ BxP w1 w.heap.size P.nm P.a P.b P.c (.slice a1 P.d.length c1) (.slice a2 P.p.length c2) (.slice a3 P.o.length c3)) ∧ BxP w1 (w.heap.size + 1) Q.nm Q.a Q.b Q.c (.slice b1 Q.d.length d1) (.slice b2 Q.p.length d2) (.slice b3 Q.o.length d3)) := (KeepP.and ((KeepP.and (keepBelow w) (keepBxP _ _ _ _ _ _ _ _))) (keepBxP _ _ _ _ _ _ _ _))
      have HO0 : Hid (((Below w.heap.size w ((w.alloc (.cells #[.string P.nm, .int .i64 P.a, .int .i64 P.b, .int .i64 P.c, .slice a1 P.d.length c1, .slice a2 P.p.length c2, .slice a3 P.o.length c3] 26)).alloc (.cells #[.string Q.nm, .int .i64 Q.a, .int .i64 Q.b, .int .i64 Q.c, .slice b1 Q.d.length d1, .slice b2 Q.p.length d2, .slice b3 Q.o.length d3] 26))) ∧ BxP ((w.alloc (.cells #[.string P.nm, .int .i64 P.a, .int .i64 P.b, .int .i64 P.c, .slice a1 P.d.length c1, .slice a2 P.p.length c2, .slice a3 P.o.length c3] 26)).alloc (.cells #[.string Q.nm, .int .i64 Q.a, .int .i64 Q.b, .int .i64 Q.c, .slice b1 Q.d.length d1, .slice b2 Q.p.length d2, .slice b3 Q.o.length d3] 26)) w.heap.size P.nm P.a P.b P.c (.slice a1 P.d.length c1) (.slice a2 P.p.length c2) (.slice a3 P.o.length c3)) ∧ BxP ((w.alloc (.cells #[.string P.nm, .int .i64 P.a, .int .i64 P.b, .int .i64 P.c, .slice a1 P.d.length c1, .slice a2 P.p.length c2, .slice a3 P.o.length c3] 26)).alloc (.cells #[.string Q.nm, .int .i64 Q.a, .int .i64 Q.b, .int .i64 Q.c, .slice b1 Q.d.length d1, .slice b2 Q.p.length d2, .slice b3 Q.o.length d3] 26)) (w.heap.size + 1) Q.nm Q.a Q.b Q.c (.slice b1 Q.d.length d1) (.slice b2 Q.p.length d2) (.slice b3 Q.o.length d3)) := ⟨⟨boxB2 _ _ _, keepBxP _ _ _ _ _ _ _ _ _ _ (BxP.new rfl _ _ _ _ _ _ _) (boxB _ _)⟩, BxP.new (by simp) _ _ _ _ _ _ _⟩
      obtain ⟨p0, p1, p2, p3, p4, p5, p6, p7⟩ := HO0.out.1.2
      obtain ⟨q0, q1, q2, q3, q4, q5, q6, q7⟩ := HO0.out.2
      go_enter Tryz.func8, Tryz.ntmps8
      go_wp2_with (first
        | (have _h := HO0; go_at_call 14; refine (HP.out _ (HO0.out.1.1)).mono ?_; rintro e y1 ⟨rfl, ok⟩; have HO1 : Hid (((Below w.heap.size w y1) ∧ BxP y1 w.heap.size P.nm P.a P.b P.c (.slice a1 P.d.length c1) (.slice a2 P.p.length c2) (.slice a3 P.o.length c3)) ∧ BxP y1 (w.heap.size + 1) Q.nm Q.a Q.b Q.c (.slice b1 Q.d.length d1) (.slice b2 Q.p.length d2) (.slice b3 Q.o.length d3)) := HK0.out _ _ HO0.out ok; clear ok HO0 p0 p1 p2 p3 p4 p5 p6 p7 q0 q1 q2 q3 q4 q5 q6 q7; obtain ⟨p0, p1, p2, p3, p4, p5, p6, p7⟩ := HO1.out.1.2; obtain ⟨q0, q1, q2, q3, q4, q5, q6, q7⟩ := HO1.out.2)
        | (have _h := HO1; go_at_call 14; refine (HQ.out _ (HO1.out.1.1)).mono ?_; rintro e y2 ⟨rfl, ok⟩; have HO2 : Hid (((Below w.heap.size w y2) ∧ BxP y2 w.heap.size P.nm P.a P.b P.c (.slice a1 P.d.length c1) (.slice a2 P.p.length c2) (.slice a3 P.o.length c3)) ∧ BxP y2 (w.heap.size + 1) Q.nm Q.a Q.b Q.c (.slice b1 Q.d.length d1) (.slice b2 Q.p.length d2) (.slice b3 Q.o.length d3)) := HK0.out _ _ HO1.out ok; clear ok HO1 p0 p1 p2 p3 p4 p5 p6 p7 q0 q1 q2 q3 q4 q5 q6 q7; obtain ⟨p0, p1, p2, p3, p4, p5, p6, p7⟩ := HO2.out.1.2; obtain ⟨q0, q1, q2, q3, q4, q5, q6, q7⟩ := HO2.out.2)
        | (have _h := HO2; go_at_call 13; refine (HKN.out _ (HO2.out.1.1)).mono ?_; rintro e y3 ⟨rfl, ok⟩; have HO3 : Hid (((Below w.heap.size w y3) ∧ BxP y3 w.heap.size P.nm P.a P.b P.c (.slice a1 P.d.length c1) (.slice a2 P.p.length c2) (.slice a3 P.o.length c3)) ∧ BxP y3 (w.heap.size + 1) Q.nm Q.a Q.b Q.c (.slice b1 Q.d.length d1) (.slice b2 Q.p.length d2) (.slice b3 Q.o.length d3)) := HK0.out _ _ HO2.out ok; clear ok HO2 p0 p1 p2 p3 p4 p5 p6 p7 q0 q1 q2 q3 q4 q5 q6 q7; obtain ⟨p0, p1, p2, p3, p4, p5, p6, p7⟩ := HO3.out.1.2; obtain ⟨q0, q1, q2, q3, q4, q5, q6, q7⟩ := HO3.out.2)
        | (have _h := HO3; go_at_call 9; refine (HMP.out _ (HO3.out.1.1)).mono ?_; rintro e y4 ⟨rfl, ok⟩; have HO4 : Hid (((Below w.heap.size w y4) ∧ BxP y4 w.heap.size P.nm P.a P.b P.c (.slice a1 P.d.length c1) (.slice a2 P.p.length c2) (.slice a3 P.o.length c3)) ∧ BxP y4 (w.heap.size + 1) Q.nm Q.a Q.b Q.c (.slice b1 Q.d.length d1) (.slice b2 Q.p.length d2) (.slice b3 Q.o.length d3)) := HK0.out _ _ HO3.out ok; clear ok HO3 p0 p1 p2 p3 p4 p5 p6 p7 q0 q1 q2 q3 q4 q5 q6 q7; obtain ⟨p0, p1, p2, p3, p4, p5, p6, p7⟩ := HO4.out.1.2; obtain ⟨q0, q1, q2, q3, q4, q5, q6, q7⟩ := HO4.out.2)
        | (have _h := HO4; go_at_call 9; refine (HMQ.out _ (HO4.out.1.1)).mono ?_; rintro e y5 ⟨rfl, ok⟩; have HO5 : Hid (((Below w.heap.size w y5) ∧ BxP y5 w.heap.size P.nm P.a P.b P.c (.slice a1 P.d.length c1) (.slice a2 P.p.length c2) (.slice a3 P.o.length c3)) ∧ BxP y5 (w.heap.size + 1) Q.nm Q.a Q.b Q.c (.slice b1 Q.d.length d1) (.slice b2 Q.p.length d2) (.slice b3 Q.o.length d3)) := HK0.out _ _ HO4.out ok; clear ok HO4 p0 p1 p2 p3 p4 p5 p6 p7 q0 q1 q2 q3 q4 q5 q6 q7; obtain ⟨p0, p1, p2, p3, p4, p5, p6, p7⟩ := HO5.out.1.2; obtain ⟨q0, q1, q2, q3, q4, q5, q6, q7⟩ := HO5.out.2))
      go_ret
      exact ⟨by first | rfl | simp, HO5.out.1.1⟩
    · rw [hbq] at HQ HMQ
      simp only [if_true] at HP HQ
      have htx := HTX.out hbp hbq
      clear HTX
      generalize eqB P Q = be at *
      cases be
      · skip
        have HK0 : Hid (KeepP fun w1 => ((Below w.heap.size w w1) ∧ BxP w1 w.heap.size P.nm P.a P.b P.c (.slice a1 P.d.length c1) (.slice a2 P.p.length c2) (.slice a3 P.o.length c3)) ∧ BxP w1 (w.heap.size + 1) Q.nm Q.a Q.b Q.c (.slice b1 Q.d.length d1) (.slice b2 Q.p.length d2) (.slice b3 Q.o.length d3)) := (KeepP.and ((KeepP.and (keepBelow w) (keepBxP _ _ _ _ _ _ _ _))) (keepBxP _ _ _ _ _ _ _ _))
        have HO0 : Hid (((Below w.heap.size w ((w.alloc (.cells #[.string P.nm, .int .i64 P.a, .int .i64 P.b, .int .i64 P.c, .slice a1 P.d.length c1, .slice a2 P.p.length c2, .slice a3 P.o.length c3] 26)).alloc (.cells #[.string Q.nm, .int .i64 Q.a, .int .i64 Q.b, .int .i64 Q.c, .slice b1 Q.d.length d1, .slice b2 Q.p.length d2, .slice b3 Q.o.length d3] 26))) ∧ BxP ((w.alloc (.cells #[.string P.nm, .int .i64 P.a, .int .i64 P.b, .int .i64 P.c, .slice a1 P.d.length c1, .slice a2 P.p.length c2, .slice a3 P.o.length c3] 26)).alloc (.cells #[.string Q.nm, .int .i64 Q.a, .int .i64 Q.b, .int .i64 Q.c, .slice b1 Q.d.length d1, .slice b2 Q.p.length d2, .slice b3 Q.o.length d3] 26)) w.heap.size P.nm P.a P.b P.c (.slice a1 P.d.length c1) (.slice a2 P.p.length c2) (.slice a3 P.o.length c3)) ∧ BxP ((w.alloc (.cells #[.string P.nm, .int .i64 P.a, .int .i64 P.b, .int .i64 P.c, .slice a1 P.d.length c1, .slice a2 P.p.length c2, .slice a3 P.o.length c3] 26)).alloc (.cells #[.string Q.nm, .int .i64 Q.a, .int .i64 Q.b, .int .i64 Q.c, .slice b1 Q.d.length d1, .slice b2 Q.p.length d2, .slice b3 Q.o.length d3] 26)) (w.heap.size + 1) Q.nm Q.a Q.b Q.c (.slice b1 Q.d.length d1) (.slice b2 Q.p.length d2) (.slice b3 Q.o.length d3)) := ⟨⟨boxB2 _ _ _, keepBxP _ _ _ _ _ _ _ _ _ _ (BxP.new rfl _ _ _ _ _ _ _) (boxB _ _)⟩, BxP.new (by simp) _ _ _ _ _ _ _⟩
        obtain ⟨p0, p1, p2, p3, p4, p5, p6, p7⟩ := HO0.out.1.2
        obtain ⟨q0, q1, q2, q3, q4, q5, q6, q7⟩ := HO0.out.2
        go_enter Tryz.func8, Tryz.ntmps8
        go_wp2_with (first
          | (have _h := HO0; go_at_call 14; refine (HP.out _ (HO0.out.1.1)).mono ?_; rintro e y1 ⟨rfl, ok⟩; have HO1 : Hid (((Below w.heap.size w y1) ∧ BxP y1 w.heap.size P.nm P.a P.b P.c (.slice a1 P.d.length c1) (.slice a2 P.p.length c2) (.slice a3 P.o.length c3)) ∧ BxP y1 (w.heap.size + 1) Q.nm Q.a Q.b Q.c (.slice b1 Q.d.length d1) (.slice b2 Q.p.length d2) (.slice b3 Q.o.length d3)) := HK0.out _ _ HO0.out ok; clear ok HO0 p0 p1 p2 p3 p4 p5 p6 p7 q0 q1 q2 q3 q4 q5 q6 q7; obtain ⟨p0, p1, p2, p3, p4, p5, p6, p7⟩ := HO1.out.1.2; obtain ⟨q0, q1, q2, q3, q4, q5, q6, q7⟩ := HO1.out.2)
          | (have _h := HO1; go_at_call 14; refine (HQ.out _ (HO1.out.1.1)).mono ?_; rintro e y2 ⟨rfl, ok⟩; have HO2 : Hid (((Below w.heap.size w y2) ∧ BxP y2 w.heap.size P.nm P.a P.b P.c (.slice a1 P.d.length c1) (.slice a2 P.p.length c2) (.slice a3 P.o.length c3)) ∧ BxP y2 (w.heap.size + 1) Q.nm Q.a Q.b Q.c (.slice b1 Q.d.length d1) (.slice b2 Q.p.length d2) (.slice b3 Q.o.length d3)) := HK0.out _ _ HO1.out ok; clear ok HO1 p0 p1 p2 p3 p4 p5 p6 p7 q0 q1 q2 q3 q4 q5 q6 q7; obtain ⟨p0, p1, p2, p3, p4, p5, p6, p7⟩ := HO2.out.1.2; obtain ⟨q0, q1, q2, q3, q4, q5, q6, q7⟩ := HO2.out.2)
          | (have _h := HO2; go_at_call 13; refine (HKN.out _ (HO2.out.1.1)).mono ?_; rintro e y3 ⟨rfl, ok⟩; have HO3 : Hid (((Below w.heap.size w y3) ∧ BxP y3 w.heap.size P.nm P.a P.b P.c (.slice a1 P.d.length c1) (.slice a2 P.p.length c2) (.slice a3 P.o.length c3)) ∧ BxP y3 (w.heap.size + 1) Q.nm Q.a Q.b Q.c (.slice b1 Q.d.length d1) (.slice b2 Q.p.length d2) (.slice b3 Q.o.length d3)) := HK0.out _ _ HO2.out ok; clear ok HO2 p0 p1 p2 p3 p4 p5 p6 p7 q0 q1 q2 q3 q4 q5 q6 q7; obtain ⟨p0, p1, p2, p3, p4, p5, p6, p7⟩ := HO3.out.1.2; obtain ⟨q0, q1, q2, q3, q4, q5, q6, q7⟩ := HO3.out.2)
          | (have _h := HO3; go_at_call 9; refine (HMP.out _ (HO3.out.1.1)).mono ?_; rintro e y4 ⟨rfl, ok⟩; have HO4 : Hid (((Below w.heap.size w y4) ∧ BxP y4 w.heap.size P.nm P.a P.b P.c (.slice a1 P.d.length c1) (.slice a2 P.p.length c2) (.slice a3 P.o.length c3)) ∧ BxP y4 (w.heap.size + 1) Q.nm Q.a Q.b Q.c (.slice b1 Q.d.length d1) (.slice b2 Q.p.length d2) (.slice b3 Q.o.length d3)) := HK0.out _ _ HO3.out ok; clear ok HO3 p0 p1 p2 p3 p4 p5 p6 p7 q0 q1 q2 q3 q4 q5 q6 q7; obtain ⟨p0, p1, p2, p3, p4, p5, p6, p7⟩ := HO4.out.1.2; obtain ⟨q0, q1, q2, q3, q4, q5, q6, q7⟩ := HO4.out.2)
          | (have _h := HO4; go_at_call 9; refine (HMQ.out _ (HO4.out.1.1)).mono ?_; rintro e y5 ⟨rfl, ok⟩; have HO5 : Hid (((Below w.heap.size w y5) ∧ BxP y5 w.heap.size P.nm P.a P.b P.c (.slice a1 P.d.length c1) (.slice a2 P.p.length c2) (.slice a3 P.o.length c3)) ∧ BxP y5 (w.heap.size + 1) Q.nm Q.a Q.b Q.c (.slice b1 Q.d.length d1) (.slice b2 Q.p.length d2) (.slice b3 Q.o.length d3)) := HK0.out _ _ HO4.out ok; clear ok HO4 p0 p1 p2 p3 p4 p5 p6 p7 q0 q1 q2 q3 q4 q5 q6 q7; obtain ⟨p0, p1, p2, p3, p4, p5, p6, p7⟩ := HO5.out.1.2; obtain ⟨q0, q1, q2, q3, q4, q5, q6, q7⟩ := HO5.out.2)
          | (have _h := HO5; go_at_call 11; refine (HSA.out _ (HO5.out.1.1)).mono ?_; rintro e y6 ⟨rfl, ok⟩; have HO6 : Hid (((Below w.heap.size w y6) ∧ BxP y6 w.heap.size P.nm P.a P.b P.c (.slice a1 P.d.length c1) (.slice a2 P.p.length c2) (.slice a3 P.o.length c3)) ∧ BxP y6 (w.heap.size + 1) Q.nm Q.a Q.b Q.c (.slice b1 Q.d.length d1) (.slice b2 Q.p.length d2) (.slice b3 Q.o.length d3)) := HK0.out _ _ HO5.out ok; clear ok HO5 p0 p1 p2 p3 p4 p5 p6 p7 q0 q1 q2 q3 q4 q5 q6 q7; obtain ⟨p0, p1, p2, p3, p4, p5, p6, p7⟩ := HO6.out.1.2; obtain ⟨q0, q1, q2, q3, q4, q5, q6, q7⟩ := HO6.out.2))
        go_ret
        exact ⟨by first | rfl | simp, HO6.out.1.1⟩
      · skip
        have HK0 : Hid (KeepP fun w1 => ((Below w.heap.size w w1) ∧ BxP w1 w.heap.size P.nm P.a P.b P.c (.slice a1 P.d.length c1) (.slice a2 P.p.length c2) (.slice a3 P.o.length c3)) ∧ BxP w1 (w.heap.size + 1) Q.nm Q.a Q.b Q.c (.slice b1 Q.d.length d1) (.slice b2 Q.p.length d2) (.slice b3 Q.o.length d3)) := (KeepP.and ((KeepP.and (keepBelow w) (keepBxP _ _ _ _ _ _ _ _))) (keepBxP _ _ _ _ _ _ _ _))
        have HO0 : Hid (((Below w.heap.size w ((w.alloc (.cells #[.string P.nm, .int .i64 P.a, .int .i64 P.b, .int .i64 P.c, .slice a1 P.d.length c1, .slice a2 P.p.length c2, .slice a3 P.o.length c3] 26)).alloc (.cells #[.string Q.nm, .int .i64 Q.a, .int .i64 Q.b, .int .i64 Q.c, .slice b1 Q.d.length d1, .slice b2 Q.p.length d2, .slice b3 Q.o.length d3] 26))) ∧ BxP ((w.alloc (.cells #[.string P.nm, .int .i64 P.a, .int .i64 P.b, .int .i64 P.c, .slice a1 P.d.length c1, .slice a2 P.p.length c2, .slice a3 P.o.length c3] 26)).alloc (.cells #[.string Q.nm, .int .i64 Q.a, .int .i64 Q.b, .int .i64 Q.c, .slice b1 Q.d.length d1, .slice b2 Q.p.length d2, .slice b3 Q.o.length d3] 26)) w.heap.size P.nm P.a P.b P.c (.slice a1 P.d.length c1) (.slice a2 P.p.length c2) (.slice a3 P.o.length c3)) ∧ BxP ((w.alloc (.cells #[.string P.nm, .int .i64 P.a, .int .i64 P.b, .int .i64 P.c, .slice a1 P.d.length c1, .slice a2 P.p.length c2, .slice a3 P.o.length c3] 26)).alloc (.cells #[.string Q.nm, .int .i64 Q.a, .int .i64 Q.b, .int .i64 Q.c, .slice b1 Q.d.length d1, .slice b2 Q.p.length d2, .slice b3 Q.o.length d3] 26)) (w.heap.size + 1) Q.nm Q.a Q.b Q.c (.slice b1 Q.d.length d1) (.slice b2 Q.p.length d2) (.slice b3 Q.o.length d3)) := ⟨⟨boxB2 _ _ _, keepBxP _ _ _ _ _ _ _ _ _ _ (BxP.new rfl _ _ _ _ _ _ _) (boxB _ _)⟩, BxP.new (by simp) _ _ _ _ _ _ _⟩
        obtain ⟨p0, p1, p2, p3, p4, p5, p6, p7⟩ := HO0.out.1.2
        obtain ⟨q0, q1, q2, q3, q4, q5, q6, q7⟩ := HO0.out.2
        go_enter Tryz.func8, Tryz.ntmps8
        go_wp2_with (first
          | (have _h := HO0; go_at_call 14; refine (HP.out _ (HO0.out.1.1)).mono ?_; rintro e y1 ⟨rfl, ok⟩; have HO1 : Hid (((Below w.heap.size w y1) ∧ BxP y1 w.heap.size P.nm P.a P.b P.c (.slice a1 P.d.length c1) (.slice a2 P.p.length c2) (.slice a3 P.o.length c3)) ∧ BxP y1 (w.heap.size + 1) Q.nm Q.a Q.b Q.c (.slice b1 Q.d.length d1) (.slice b2 Q.p.length d2) (.slice b3 Q.o.length d3)) := HK0.out _ _ HO0.out ok; clear ok HO0 p0 p1 p2 p3 p4 p5 p6 p7 q0 q1 q2 q3 q4 q5 q6 q7; obtain ⟨p0, p1, p2, p3, p4, p5, p6, p7⟩ := HO1.out.1.2; obtain ⟨q0, q1, q2, q3, q4, q5, q6, q7⟩ := HO1.out.2)
          | (have _h := HO1; go_at_call 14; refine (HQ.out _ (HO1.out.1.1)).mono ?_; rintro e y2 ⟨rfl, ok⟩; have HO2 : Hid (((Below w.heap.size w y2) ∧ BxP y2 w.heap.size P.nm P.a P.b P.c (.slice a1 P.d.length c1) (.slice a2 P.p.length c2) (.slice a3 P.o.length c3)) ∧ BxP y2 (w.heap.size + 1) Q.nm Q.a Q.b Q.c (.slice b1 Q.d.length d1) (.slice b2 Q.p.length d2) (.slice b3 Q.o.length d3)) := HK0.out _ _ HO1.out ok; clear ok HO1 p0 p1 p2 p3 p4 p5 p6 p7 q0 q1 q2 q3 q4 q5 q6 q7; obtain ⟨p0, p1, p2, p3, p4, p5, p6, p7⟩ := HO2.out.1.2; obtain ⟨q0, q1, q2, q3, q4, q5, q6, q7⟩ := HO2.out.2)
          | (have _h := HO2; go_at_call 13; refine (HKN.out _ (HO2.out.1.1)).mono ?_; rintro e y3 ⟨rfl, ok⟩; have HO3 : Hid (((Below w.heap.size w y3) ∧ BxP y3 w.heap.size P.nm P.a P.b P.c (.slice a1 P.d.length c1) (.slice a2 P.p.length c2) (.slice a3 P.o.length c3)) ∧ BxP y3 (w.heap.size + 1) Q.nm Q.a Q.b Q.c (.slice b1 Q.d.length d1) (.slice b2 Q.p.length d2) (.slice b3 Q.o.length d3)) := HK0.out _ _ HO2.out ok; clear ok HO2 p0 p1 p2 p3 p4 p5 p6 p7 q0 q1 q2 q3 q4 q5 q6 q7; obtain ⟨p0, p1, p2, p3, p4, p5, p6, p7⟩ := HO3.out.1.2; obtain ⟨q0, q1, q2, q3, q4, q5, q6, q7⟩ := HO3.out.2)
          | (have _h := HO3; go_at_call 9; refine (HMP.out _ (HO3.out.1.1)).mono ?_; rintro e y4 ⟨rfl, ok⟩; have HO4 : Hid (((Below w.heap.size w y4) ∧ BxP y4 w.heap.size P.nm P.a P.b P.c (.slice a1 P.d.length c1) (.slice a2 P.p.length c2) (.slice a3 P.o.length c3)) ∧ BxP y4 (w.heap.size + 1) Q.nm Q.a Q.b Q.c (.slice b1 Q.d.length d1) (.slice b2 Q.p.length d2) (.slice b3 Q.o.length d3)) := HK0.out _ _ HO3.out ok; clear ok HO3 p0 p1 p2 p3 p4 p5 p6 p7 q0 q1 q2 q3 q4 q5 q6 q7; obtain ⟨p0, p1, p2, p3, p4, p5, p6, p7⟩ := HO4.out.1.2; obtain ⟨q0, q1, q2, q3, q4, q5, q6, q7⟩ := HO4.out.2)
          | (have _h := HO4; go_at_call 9; refine (HMQ.out _ (HO4.out.1.1)).mono ?_; rintro e y5 ⟨rfl, ok⟩; have HO5 : Hid (((Below w.heap.size w y5) ∧ BxP y5 w.heap.size P.nm P.a P.b P.c (.slice a1 P.d.length c1) (.slice a2 P.p.length c2) (.slice a3 P.o.length c3)) ∧ BxP y5 (w.heap.size + 1) Q.nm Q.a Q.b Q.c (.slice b1 Q.d.length d1) (.slice b2 Q.p.length d2) (.slice b3 Q.o.length d3)) := HK0.out _ _ HO4.out ok; clear ok HO4 p0 p1 p2 p3 p4 p5 p6 p7 q0 q1 q2 q3 q4 q5 q6 q7; obtain ⟨p0, p1, p2, p3, p4, p5, p6, p7⟩ := HO5.out.1.2; obtain ⟨q0, q1, q2, q3, q4, q5, q6, q7⟩ := HO5.out.2)
          | (have _h := HO5; go_at_call 11; refine (HSA.out _ (HO5.out.1.1)).mono ?_; rintro e y6 ⟨rfl, ok⟩; have HO6 : Hid (((Below w.heap.size w y6) ∧ BxP y6 w.heap.size P.nm P.a P.b P.c (.slice a1 P.d.length c1) (.slice a2 P.p.length c2) (.slice a3 P.o.length c3)) ∧ BxP y6 (w.heap.size + 1) Q.nm Q.a Q.b Q.c (.slice b1 Q.d.length d1) (.slice b2 Q.p.length d2) (.slice b3 Q.o.length d3)) := HK0.out _ _ HO5.out ok; clear ok HO5 p0 p1 p2 p3 p4 p5 p6 p7 q0 q1 q2 q3 q4 q5 q6 q7; obtain ⟨p0, p1, p2, p3, p4, p5, p6, p7⟩ := HO6.out.1.2; obtain ⟨q0, q1, q2, q3, q4, q5, q6, q7⟩ := HO6.out.2))
        go_ret
        exact ⟨by first | rfl | simp, HO6.out.1.1⟩
end Go.Proofs.YtmkhhkhoinpfeaaGreatDoor
namespace Go.Proofs.YtmkhhkhoinpfeaaGreatDoor
open Go.RowKit
set_option maxRecDepth 100000

theorem rAll_rg (w : World) :
    Calls Tryz.prog 36 #[] w fun e w' => ∃ v, e = .returned v ∧ SpansR w' v allR ∧ Below w.heap.size w w' := by
  have H0 : Hid (∀ w1, Calls Tryz.prog 62 #[.int .i64 0] w1 fun e w' => e = .returned (.agg #[.int .i64 0, .int .i64 0, .int .i64 0]) ∧ Below w1.heap.size w1 w') := rat_any 0
  have H9 : Hid (∀ w1, Calls Tryz.prog 62 #[.int .i64 999999999] w1 fun e w' => e = .returned (.agg #[.int .i64 999, .int .i64 999, .int .i64 999]) ∧ Below w1.heap.size w1 w') := rat_any 999999999
  have HS : Hid (∀ w1, Below w.heap.size w w1 → SpansR (w1.alloc (.cells #[.int .i64 0, .int .i64 0, .int .i64 0, .int .i64 999, .int .i64 999, .int .i64 999] 40)) (.slice (some ⟨w1.heap.size, 0, none⟩) 1 1) allR ∧ Below w.heap.size w (w1.alloc (.cells #[.int .i64 0, .int .i64 0, .int .i64 0, .int .i64 999, .int .i64 999, .int .i64 999] 40))) := fun w1 hb => spans_one hb 0 999999999 rfl
  have t1 : True := trivial
  go_enter Tryz.func36, Tryz.ntmps36
  go_wp2_with (first
    | (have _t := t1; go_at_call 62; refine (H0.out _).mono ?_; rintro e w1 ⟨rfl, ok1⟩; clear t1; have HO1 := hide3 ok1; clear ok1)
    | (go_at_call 62; refine (H9.out _).mono ?_; rintro e w2 ⟨rfl, ok2⟩; have HO2 := hide3 (below_then HO1.out ok2); clear ok2))
  go_ret
  exact ⟨_, rfl, HS.out _ HO2.out⟩

theorem alt_known : altR ⟨#[94, 49, 46, 50, 46, 51]⟩ = some [(1002003, 1999999)] := by decide +kernel
theorem pieces_known : piecesB ⟨#[94, 49, 46, 50, 46, 51]⟩ ⟨#[124, 124]⟩ = [⟨#[94, 49, 46, 50, 46, 51]⟩] := by decide +kernel
theorem pieces_known2 : piecesB ⟨#[94, 49, 46, 50, 46, 51]⟩ ⟨#[32]⟩ = [⟨#[94, 49, 46, 50, 46, 51]⟩] := by decide +kernel
theorem print_known : printR [(1002003, 1999999)] = ⟨#[62, 61, 49, 46, 50, 46, 51, 32, 60, 61, 49, 46, 57, 57, 57, 46, 57, 57, 57]⟩ := by decide +kernel
theorem rg_known : RangeR [(1002003, 1999999)] := ⟨by decide, by decide, by decide, trivial⟩
theorem in_known : inL (([(1002003, 1999999)] : Rg).map spR) 1 9 0 = true := by
  rw [in_rg rg_known (by decide)]
  exact ⟨by decide, Or.inl (by decide)⟩
theorem ascii_of {l : List UInt8} (h : (l.all fun b => decide (b.toNat < 128)) = true) : ∀ (j : Nat) b, l[j]? = some b → b.toNat < 128 := by
  intro j b hj
  have := List.all_eq_true.1 h b (List.mem_of_getElem? hj)
  simpa using this
theorem plain_known : PlainT ⟨#[94, 49, 46, 50, 46, 51]⟩ := by
  unfold PlainT
  rw [pieces_known]
  intro a ha
  rw [List.mem_singleton] at ha
  subst ha
  rw [pieces_known2]
  intro p hp _
  rw [List.mem_singleton] at hp
  subst hp
  exact Or.inr (ascii_of (by decide))

end Go.Proofs.YtmkhhkhoinpfeaaGreatDoor
namespace Go.Proofs.YtmkhhkhoinpfeaaGreatDoor
open Go.ChangeShapes Go.WideShapes Go.ChangeAt Go.RowKit
set_option maxRecDepth 100000

theorem star : "*" ++ "errors.errorString" = "*errors.errorString" := by decide

theorem row_err (u : TypeId) (h : Tryz.prog.typeName? 3 u = some "*errors.errorString") : u = 177 :=
  typeName_ptr_named (nm := "errors.errorString") (by rw [star]; kernel_rfl) (by kernel_rfl) (by decide) u (by rw [star]; exact h)

theorem max_cell {W : World} (h : W.ShapedOpen Tryz.prog) : ∃ m, W.cell? ⟨3, 0, none⟩ = some (.int .i64 m) :=
  cell_of_shapedOpen_int (t := 3) (zero := #[.int .i64 0]) h (by decide +kernel) (by kernel_rfl) rfl (by kernel_rfl) (by kernel_rfl) Tryz.underlying3

theorem env_of {W : World} (hsh : W.ShapedOpen Tryz.prog) (h : laidMet Tryz.prog [("math/bits.deBruijn32tab", Rows.laid_math_bits_deBruijn32tab), ("math/bits.deBruijn64tab", Rows.laid_math_bits_deBruijn64tab), ("internal/strconv.uint64pow10", Rows.laid_internal_strconv_uint64pow10), ("strconv.ErrRange", Rows.laid_strconv_ErrRange), ("strconv.ErrSyntax", Rows.laid_strconv_ErrSyntax)] W) : Env W := by
  have hT := tab_is h
  have h3 := laidMet.tail (laidMet.tail (laidMet.tail h))
  have h4 := laidMet.tail h3
  obtain ⟨a1, s1, hv1, _⟩ := laid_sentinel h3 (g := 5) (ti := 75) (te := 179) (ts := 9) (by kernel_rfl) (by kernel_rfl) Tryz.underlying75 row_err Tryz.underlying177 Tryz.underlying179 rfl rfl Tryz.underlying9 (by kernel_rfl) (by kernel_rfl)
  obtain ⟨a2, s2, hv2, _⟩ := laid_sentinel h4 (g := 4) (ti := 75) (te := 179) (ts := 9) (by kernel_rfl) (by kernel_rfl) Tryz.underlying75 row_err Tryz.underlying177 Tryz.underlying179 rfl rfl Tryz.underlying9 (by kernel_rfl) (by kernel_rfl)
  have c1 := World.var?_cell (g := 5) (by kernel_rfl) hv1 0
  have c2 := World.var?_cell (g := 4) (by kernel_rfl) hv2 0
  exact { max := max_cell hsh, tab := hT, syn := ⟨_, _, by simpa using c2⟩, rng := ⟨_, _, by simpa using c1⟩ }
end Go.Proofs.YtmkhhkhoinpfeaaGreatDoor
namespace Go.Proofs.YtmkhhkhoinpfeaaGreatDoor
open Go.ChangeShapes Go.WideShapes Go.ChangeAt Go.RowKit
set_option maxRecDepth 100000

theorem cellsSp : Tryz.prog.cellsOf 40 = 6 := by kernel_rfl

theorem ints_of {H : Type} {enc : TypeId × Value → H} {W : World} {base : Nat} {spare : Nat → Bool} {held : Bool} {n : Nat} {cs : List Value} {x : DataW H × List MemPlace} (h : DataW.trod enc Tryz.prog W base spare held n 23 cs = some x) :
    ∃ a b c, cs[0]? = some (.int .i64 a) ∧ cs[1]? = some (.int .i64 b) ∧ cs[2]? = some (.int .i64 c) ∧ x.1 = .agg [.lit (.int .i64 a), .lit (.int .i64 b), .lit (.int .i64 c)] := by
  have hs : Tryz.prog.underlying 23 = some (.struct (Tryz.prog.fieldsOf 23)) := by kernel_rfl
  obtain ⟨xs, n', _, hx, _, hxl, hf⟩ := DataW.trod_struct hs h
  have hfz : (Tryz.prog.fieldsOf 23).size = 3 := by kernel_rfl
  have ints : ∀ i off, ((Tryz.prog.fieldsOf 23)[i]?).map (fun f => (f.type, f.offset)) = some (3, off) → i < 3 → ∃ k, cs[off]? = some (.int .i64 k) ∧ xs[i]? = some (.lit (.int .i64 k), []) := by
    intro i off hfd hi
    obtain ⟨f, h1, h2, h3⟩ := field_at hfd
    have hr := hf i f h1
    rw [h2, h3, cellsInt, List.getElem?_eq_getElem (by omega : i < xs.length)] at hr
    obtain ⟨k, e1, e2, wk⟩ := DataW.trod_int Tryz.underlying3 hr
    exact ⟨k, take_one e1, by rw [List.getElem?_eq_getElem (by omega : i < xs.length), e2]⟩
  obtain ⟨a, a0, x0⟩ := ints 0 0 (by kernel_rfl) (by decide)
  obtain ⟨b, a1, x1⟩ := ints 1 1 (by kernel_rfl) (by decide)
  obtain ⟨c, a2, x2⟩ := ints 2 2 (by kernel_rfl) (by decide)
  refine ⟨a, b, c, a0, a1, a2, ?_⟩
  rw [hx]
  obtain ⟨y0, y1, y2, rfl⟩ := list3 (l := xs) (by omega)
  simp at x0 x1 x2
  subst x0 x1 x2
  rfl

theorem span_read {H : Type} {enc : TypeId × Value → H} {W : World} {base : Nat} {spare : Nat → Bool} {held : Bool} {n : Nat} {g o : Nat} {cs : List Value} {x : DataW H × List MemPlace} (hc : W.cells? base ⟨g, o, none⟩ 6 = some cs) (h : DataW.trod enc Tryz.prog W base spare held n 40 cs = some x) : ∃ s, SpAt W g o s := by
  have hs : Tryz.prog.underlying 40 = some (.struct (Tryz.prog.fieldsOf 40)) := by kernel_rfl
  obtain ⟨xs, n', _, _, _, hxl, hf⟩ := DataW.trod_struct hs h
  have hsz : (Tryz.prog.fieldsOf 40).size = 2 := by kernel_rfl
  obtain ⟨_, _, hq⟩ := World.cells?_some hc
  have vers : ∀ i off, ((Tryz.prog.fieldsOf 40)[i]?).map (fun f => (f.type, f.offset)) = some (23, off) → i < 2 → ∃ a b c, cs[off]? = some (.int .i64 a) ∧ cs[off + 1]? = some (.int .i64 b) ∧ cs[off + 2]? = some (.int .i64 c) := by
    intro i off hfd hi
    obtain ⟨f, h1, h2, h3⟩ := field_at hfd
    have hr := hf i f h1
    rw [h2, h3, cellsVer, List.getElem?_eq_getElem (by omega : i < xs.length)] at hr
    obtain ⟨a, b, c, e0, e1, e2, _⟩ := ints_of hr
    simp at e0 e1 e2
    exact ⟨a, b, c, e0, e1, e2⟩
  obtain ⟨a, b, c, a0, a1, a2⟩ := vers 0 0 (by kernel_rfl) (by decide)
  obtain ⟨x, y, z, a3, a4, a5⟩ := vers 1 3 (by kernel_rfl) (by decide)
  have ad : ∀ i, (⟨g, o, none⟩ : Addr).add i = ⟨g, o + i, none⟩ := fun i => by unfold Addr.add; split <;> simp_all
  have q0 := hq 0 (by decide)
  have q1 := hq 1 (by decide)
  have q2 := hq 2 (by decide)
  have q3 := hq 3 (by decide)
  have q4 := hq 4 (by decide)
  have q5 := hq 5 (by decide)
  rw [ad] at q0 q1 q2 q3 q4 q5
  exact ⟨⟨a, b, c, x, y, z⟩, by rw [← a0, ← q0]; rfl, by rw [← a1, ← q1], by rw [← a2, ← q2], by rw [← a3, ← q3], by rw [← a4, ← q4], by rw [← a5, ← q5]⟩

theorem list_of {P : Nat → Sp → Prop} : ∀ {n : Nat}, (∀ i, i < n → ∃ s, P i s) → ∃ L : List Sp, L.length = n ∧ ∀ i (h : i < L.length), P i L[i]
  | 0, _ => ⟨[], rfl, fun i h => by simp at h⟩
  | n + 1, h => by
    obtain ⟨L, hl, hP⟩ := list_of (n := n) fun i hi => h i (by omega)
    obtain ⟨s, hs⟩ := h n (by omega)
    refine ⟨L ++ [s], by simp [hl], fun i hi => ?_⟩
    by_cases hin : i < L.length
    · rw [List.getElem_append_left hin]; exact hP i hin
    · have : i = n := by simp at hi; omega
      subst this
      simpa [hl] using hs

/-- A list of spans that came in. -/
theorem open_spans {H : Type} {enc : TypeId × Value → H} {W : World} {base fuel : Nat} {held : Bool} {a : Option Addr} {len cap : Nat} {x : DataW H × List MemPlace} (h : DataW.trod enc Tryz.prog W base (fun _ => true) held fuel 36 [.slice a len cap] = some x) :
    ∃ L : List Sp, SpansC W (.slice a len cap) L := by
  rcases Go.Deep.open_slice Tryz.underlying36 h with ⟨hcs, _⟩ | ⟨ad, l, c, m, n, D, Pl, hcs, _, hl, _, hm, hx, hel⟩
  · simp only [List.cons.injEq, Value.slice.injEq, and_true] at hcs
    obtain ⟨rfl, rfl, rfl⟩ := hcs
    exact ⟨[], ⟨_, _, rfl, Or.inl rfl⟩, _, _, _, rfl, Nat.le_refl _⟩
  · simp only [List.cons.injEq, Value.slice.injEq, and_true] at hcs
    obtain ⟨rfl, rfl, rfl⟩ := hcs
    rcases Nat.eq_zero_or_pos len with h0 | h0
    · subst h0
      exact ⟨[], ⟨_, _, rfl, Or.inl rfl⟩, _, _, _, rfl, hl⟩
    · have hmm : len ≤ m := by rw [hm]; simp; exact hl
      rw [cellsSp] at hel
      obtain ⟨g, off, spot⟩ := ad
      obtain ⟨cs0, hc0, _⟩ := hel 0 (by omega)
      obtain ⟨_, hln, hq⟩ := World.cells?_some hc0
      have hcell := hq 0 (by decide)
      rw [List.getElem?_eq_getElem (by omega : 0 < cs0.length)] at hcell
      have hspot : spot = none := by simpa [Addr.add] using World.cell?_spot hcell
      subst hspot
      have ad2 : ∀ o i, (⟨g, o, none⟩ : Addr).add i = ⟨g, o + i, none⟩ := fun o i => by unfold Addr.add; split <;> simp_all
      obtain ⟨L, hL, hP⟩ := list_of (P := fun i s => SpAt W g (off + i * 6) s) (n := len) fun i hi => by
        obtain ⟨cs, hc, ht⟩ := hel i (by omega)
        rw [ad2] at hc
        exact span_read hc ht
      subst hL
      refine ⟨L, ⟨_, _, rfl, Or.inr ⟨g, off, rfl, ?_, hP⟩⟩, _, _, _, rfl, hl⟩
      have := cell_in hcell
      rw [ad2, ad2] at this; exact this

/-- A variable of three ints that is listed first. -/
theorem ver_laid {W : World} {nm : String} {a b c : Int} {r : List (String × DataW Unit)} {g : Nat} (hg : Tryz.prog.globalNamed nm = some g) (hty : (Tryz.prog.globals[g]?).map (·.type) = some 23)
    (h : laidMet Tryz.prog ((nm, .agg [.lit (.int .i64 a), .lit (.int .i64 b), .lit (.int .i64 c)]) :: r) W) :
    W.cell? ⟨g, 0, none⟩ = some (.int .i64 a) ∧ W.cell? ⟨g, 1, none⟩ = some (.int .i64 b) ∧ W.cell? ⟨g, 2, none⟩ = some (.int .i64 c) := by
  obtain ⟨ps, ⟨g', t', cs, fuel, p, q, hg', ht', hvar, hd, _, _⟩, _⟩ := h
  obtain rfl := Option.some.inj (hg.symm.trans hg')
  obtain rfl := Option.some.inj (hty.symm.trans ht')
  obtain ⟨x, y, z, e0, e1, e2, hx⟩ := ints_of hd
  simp at hx
  obtain ⟨rfl, rfl, rfl⟩ := hx
  have c0 := World.var?_cell hg hvar 0
  have c1 := World.var?_cell hg hvar 1
  have c2 := World.var?_cell hg hvar 2
  exact ⟨by rw [c0]; simpa using e0, by rw [c1]; simpa using e1, by rw [c2]; simpa using e2⟩

/-- What the rows of this layer list. -/
abbrev laid3 : List (String × DataW Unit) := [("math/bits.deBruijn32tab", Rows.laid_math_bits_deBruijn32tab), ("math/bits.deBruijn64tab", Rows.laid_math_bits_deBruijn64tab), ("internal/strconv.uint64pow10", Rows.laid_internal_strconv_uint64pow10), ("unicode/utf8.acceptRanges", Rows.laid_unicode_utf8_acceptRanges), ("strconv.ErrRange", Rows.laid_strconv_ErrRange), ("strconv.ErrSyntax", Rows.laid_strconv_ErrSyntax), ("halyard/span.first", Rows.laid_halyard_span_first), ("halyard/span.last", Rows.laid_halyard_span_last), ("unicode/utf8.first", Rows.laid_unicode_utf8_first)]
theorem env3_of {W : World} (hsh : W.ShapedOpen Tryz.prog) (h : laidMet Tryz.prog laid3 W) : Env W ∧ FL W := by
  have hT := tab_is h
  have h3 := laidMet.tail (laidMet.tail (laidMet.tail (laidMet.tail h)))
  have h4 := laidMet.tail h3
  have h5 := laidMet.tail h4
  have h6 := laidMet.tail h5
  obtain ⟨a1, s1, hv1, _⟩ := laid_sentinel h3 (g := 5) (ti := 75) (te := 179) (ts := 9) (by kernel_rfl) (by kernel_rfl) Tryz.underlying75 row_err Tryz.underlying177 Tryz.underlying179 rfl rfl Tryz.underlying9 (by kernel_rfl) (by kernel_rfl)
  obtain ⟨a2, s2, hv2, _⟩ := laid_sentinel h4 (g := 4) (ti := 75) (te := 179) (ts := 9) (by kernel_rfl) (by kernel_rfl) Tryz.underlying75 row_err Tryz.underlying177 Tryz.underlying179 rfl rfl Tryz.underlying9 (by kernel_rfl) (by kernel_rfl)
  have c1 := World.var?_cell (g := 5) (by kernel_rfl) hv1 0
  have c2 := World.var?_cell (g := 4) (by kernel_rfl) hv2 0
  have f1 := ver_laid (g := 0) (by kernel_rfl) (by kernel_rfl) h5
  have f2 := ver_laid (g := 1) (by kernel_rfl) (by kernel_rfl) h6
  exact ⟨{ max := max_cell hsh, tab := hT, syn := ⟨_, _, by simpa using c2⟩, rng := ⟨_, _, by simpa using c1⟩ }, f1, f2, cell_in f1.1, cell_in f2.1⟩
end Go.Proofs.YtmkhhkhoinpfeaaGreatDoor
namespace Go.Proofs.YtmkhhkhoinpfeaaGreatDoor
open Go.ChangeShapes Go.WideShapes Go.ChangeAt Go.RowKit
set_option maxRecDepth 100000

theorem cellsStrD : Tryz.prog.cellsOf 9 = 1 := by kernel_rfl
theorem cellsSps : Tryz.prog.cellsOf 36 = 1 := by kernel_rfl
theorem cellsDep : Tryz.prog.cellsOf 38 = 2 := by kernel_rfl
theorem cellsDeps : Tryz.prog.cellsOf 24 = 1 := by kernel_rfl
theorem list_any {α : Type} {P : Nat → α → Prop} : ∀ {n : Nat}, (∀ i, i < n → ∃ s, P i s) → ∃ L : List α, L.length = n ∧ ∀ i (h : i < L.length), P i L[i]
  | 0, _ => ⟨[], rfl, fun i h => by simp at h⟩
  | n + 1, h => by
    obtain ⟨L, hl, hP⟩ := list_any (n := n) fun i hi => h i (by omega)
    obtain ⟨s, hs⟩ := h n (by omega)
    refine ⟨L ++ [s], by simp [hl], fun i hi => ?_⟩
    by_cases hin : i < L.length
    · rw [List.getElem_append_left hin]; exact hP i hin
    · have : i = n := by simp at hi; omega
      subst this
      simpa [hl] using hs
theorem take1 {cs : List Value} {o : Nat} {v : Value} (h : (cs.drop o).take 1 = [v]) : cs[o]? = some v := by
  have h0 : ((cs.drop o).take 1)[0]? = some v := by rw [h]; rfl
  simpa using h0

theorem spans_cs {H : Type} {enc : TypeId × Value → H} {W : World} {base fuel : Nat} {held : Bool} {cs : List Value} {x : DataW H × List MemPlace} (h : DataW.trod enc Tryz.prog W base (fun _ => true) held fuel 36 cs = some x) :
    ∃ v L, cs = [v] ∧ SpansC W v L ∧ L.length ≤ 9223372036854775807 := by
  rcases Go.Deep.open_slice Tryz.underlying36 h with ⟨rfl, _⟩ | ⟨ad, l, c, m, n, D, Pl, rfl, _, hl, hm, _⟩
  · obtain ⟨L, hL⟩ := open_spans h
    obtain ⟨a', c', e, _⟩ := hL.1
    cases L with
    | nil => exact ⟨_, [], rfl, hL, by simp⟩
    | cons s L => simp at e
  · obtain ⟨L, hL⟩ := open_spans h
    refine ⟨_, L, rfl, hL, ?_⟩
    obtain ⟨a', c', e, _⟩ := hL.1
    simp only [Value.slice.injEq] at e
    obtain ⟨_, rfl, _⟩ := e
    unfold maxLen at hm
    omega
theorem dep_read {H : Type} {enc : TypeId × Value → H} {W : World} {base : Nat} {held : Bool} {n : Nat} {g o : Nat} {cs : List Value} {x : DataW H × List MemPlace} (hc : W.cells? base ⟨g, o, none⟩ 2 = some cs) (h : DataW.trod enc Tryz.prog W base (fun _ => true) held n 38 cs = some x) : ∃ d u, DpIn W g o d u := by
  have hs : Tryz.prog.underlying 38 = some (.struct (Tryz.prog.fieldsOf 38)) := by kernel_rfl
  obtain ⟨xs, n', _, _, _, hxl, hf⟩ := DataW.trod_struct hs h
  have hsz : (Tryz.prog.fieldsOf 38).size = 2 := by kernel_rfl
  obtain ⟨_, hcl, hq⟩ := World.cells?_some hc
  obtain ⟨f0, i0, t0, o0⟩ := field_at (fs := Tryz.prog.fieldsOf 38) (i := 0) (ty := 9) (off := 0) (by kernel_rfl)
  obtain ⟨f1, i1, t1, o1⟩ := field_at (fs := Tryz.prog.fieldsOf 38) (i := 1) (ty := 36) (off := 1) (by kernel_rfl)
  have r0 := hf 0 f0 i0
  have r1 := hf 1 f1 i1
  rw [t0, o0, cellsStrD, List.getElem?_eq_getElem (by omega : 0 < xs.length)] at r0
  rw [t1, o1, cellsSps, List.getElem?_eq_getElem (by omega : 1 < xs.length)] at r1
  obtain ⟨s, e0, _, _⟩ := DataW.trod_string Tryz.underlying9 r0
  obtain ⟨v, L, e1, hL, hz⟩ := spans_cs r1
  have q0 := hq 0 (by decide)
  have q1 := hq 1 (by decide)
  have ad : ∀ i, (⟨g, o, none⟩ : Addr).add i = ⟨g, o + i, none⟩ := fun i => by unfold Addr.add; split <;> simp_all
  rw [ad, take1 e0] at q0
  rw [ad, take1 e1] at q1
  exact ⟨⟨s, L⟩, v, q0, q1, ⟨hL, hz⟩, cell_in q1⟩
/-- A list of dependencies that came in. -/
theorem deps_cs {H : Type} {enc : TypeId × Value → H} {W : World} {base fuel : Nat} {held : Bool} {cs : List Value} {x : DataW H × List MemPlace} (h : DataW.trod enc Tryz.prog W base (fun _ => true) held fuel 24 cs = some x) :
    ∃ v L, cs = [v] ∧ DepsAt W v L ∧ L.length ≤ 9223372036854775807 := by
  rcases Go.Deep.open_slice Tryz.underlying24 h with ⟨rfl, _⟩ | ⟨ad, len, cap, m, n, D, Pl, rfl, _, hl, hcm, hm, hx, hel⟩
  · exact ⟨_, [], rfl, ⟨none, 0, rfl, Nat.le_refl _, Or.inl rfl⟩, by simp⟩
  · have hz : len ≤ 9223372036854775807 := by unfold maxLen at hcm; omega
    rcases Nat.eq_zero_or_pos len with h0 | h0
    · subst h0
      exact ⟨_, [], rfl, ⟨_, _, rfl, Nat.zero_le _, Or.inl rfl⟩, by simp⟩
    · have hmm : len ≤ m := by rw [hm]; simp; exact hl
      rw [cellsDep] at hel
      obtain ⟨g, off, spot⟩ := ad
      obtain ⟨cs0, hc0, _⟩ := hel 0 (by omega)
      obtain ⟨_, hln, hq⟩ := World.cells?_some hc0
      have hcell := hq 0 (by decide)
      rw [List.getElem?_eq_getElem (by omega : 0 < cs0.length)] at hcell
      have hspot : spot = none := by simpa [Addr.add] using World.cell?_spot hcell
      subst hspot
      have ad2 : ∀ o i, (⟨g, o, none⟩ : Addr).add i = ⟨g, o + i, none⟩ := fun o i => by unfold Addr.add; split <;> simp_all
      obtain ⟨L, hL, hP⟩ := list_any (P := fun i d => ∃ u, DpIn W g (off + i * 2) d u) (n := len) fun i hi => by
        obtain ⟨cs, hc, ht⟩ := hel i (by omega)
        rw [ad2] at hc
        exact dep_read hc ht
      subst hL
      refine ⟨_, L, rfl, ⟨_, _, rfl, hl, Or.inr ⟨g, off, rfl, ?_, hP⟩⟩, hz⟩
      have := cell_in hcell
      rw [ad2, ad2] at this; exact this
end Go.Proofs.YtmkhhkhoinpfeaaGreatDoor
namespace Go.Proofs.YtmkhhkhoinpfeaaGreatDoor
open Go.ChangeShapes Go.WideShapes Go.ChangeAt Go.RowKit
set_option maxRecDepth 100000

theorem cellsPkg : Tryz.prog.cellsOf 26 = 7 := by kernel_rfl
theorem list7 {α : Type} {l : List α} (h : l.length = 7) : ∃ a b c d e f g, l = [a, b, c, d, e, f, g] := by
  match l, h with
  | [a, b, c, d, e, f, g], _ => exact ⟨a, b, c, d, e, f, g, rfl⟩
theorem open_pkg {H : Type} {enc : TypeId × Value → H} {W : World} {base b0 : Nat} {held : Bool} {v : Value} {d : DataW H} {p : List MemPlace} (hv : Value.okWide Tryz.prog W .any b0 26 v) (h : DataW.Trod enc Tryz.prog W base (fun _ => true) held 26 v d p) :
    ∃ (P : Pg) (v1 v2 v3 : Value), v = .agg #[.string P.nm, .int .i64 P.a, .int .i64 P.b, .int .i64 P.c, v1, v2, v3] ∧ PgAt W P v1 v2 v3 ∧ (P.d.length ≤ 9223372036854775807 ∧ P.p.length ≤ 9223372036854775807 ∧ P.o.length ≤ 9223372036854775807) := by
  have hs : Tryz.prog.underlying 26 = some (.struct (Tryz.prog.fieldsOf 26)) := by kernel_rfl
  obtain ⟨cs, rfl, hsz⟩ := okWide_struct hs hv
  obtain ⟨n, h⟩ := h
  obtain ⟨xs, n', _, _, _, hxl, hf⟩ := DataW.trod_struct hs h
  have hfz : (Tryz.prog.fieldsOf 26).size = 5 := by kernel_rfl
  rw [cellsPkg] at hsz
  obtain ⟨f0, i0, t0, o0⟩ := field_at (fs := Tryz.prog.fieldsOf 26) (i := 0) (ty := 9) (off := 0) (by kernel_rfl)
  obtain ⟨f1, i1, t1, o1⟩ := field_at (fs := Tryz.prog.fieldsOf 26) (i := 1) (ty := 23) (off := 1) (by kernel_rfl)
  obtain ⟨f2, i2, t2, o2⟩ := field_at (fs := Tryz.prog.fieldsOf 26) (i := 2) (ty := 24) (off := 4) (by kernel_rfl)
  obtain ⟨f3, i3, t3, o3⟩ := field_at (fs := Tryz.prog.fieldsOf 26) (i := 3) (ty := 24) (off := 5) (by kernel_rfl)
  obtain ⟨f4, i4, t4, o4⟩ := field_at (fs := Tryz.prog.fieldsOf 26) (i := 4) (ty := 24) (off := 6) (by kernel_rfl)
  have r0 := hf 0 f0 i0
  have r1 := hf 1 f1 i1
  have r2 := hf 2 f2 i2
  have r3 := hf 3 f3 i3
  have r4 := hf 4 f4 i4
  rw [t0, o0, cellsStrD, List.getElem?_eq_getElem (by omega : 0 < xs.length)] at r0
  rw [t1, o1, cellsVer, List.getElem?_eq_getElem (by omega : 1 < xs.length)] at r1
  rw [t2, o2, cellsDeps, List.getElem?_eq_getElem (by omega : 2 < xs.length)] at r2
  rw [t3, o3, cellsDeps, List.getElem?_eq_getElem (by omega : 3 < xs.length)] at r3
  rw [t4, o4, cellsDeps, List.getElem?_eq_getElem (by omega : 4 < xs.length)] at r4
  obtain ⟨s, e0, _, _⟩ := DataW.trod_string Tryz.underlying9 r0
  obtain ⟨a, b, c, ea, eb, ec, _⟩ := ints_of r1
  obtain ⟨v1, L1, e2, h1, z1⟩ := deps_cs r2
  obtain ⟨v2, L2, e3, h2, z2⟩ := deps_cs r3
  obtain ⟨v3, L3, e4, h3, z3⟩ := deps_cs r4
  have k0 : cs.toList[0]? = some (.string s) := take1 e0
  have k2 : cs.toList[4]? = some v1 := take1 e2
  have k3 : cs.toList[5]? = some v2 := take1 e3
  have k4 : cs.toList[6]? = some v3 := take1 e4
  have ka : ((cs.toList.drop 1).take 3)[0]? = some (.int .i64 a) := ea
  have kb : ((cs.toList.drop 1).take 3)[1]? = some (.int .i64 b) := eb
  have kc : ((cs.toList.drop 1).take 3)[2]? = some (.int .i64 c) := ec
  obtain ⟨l⟩ := cs
  obtain ⟨x0, x1, x2, x3, x4, x5, x6, rfl⟩ := list7 (l := l) (by simpa using hsz)
  simp at k0 k2 k3 k4 ka kb kc
  subst k0 k2 k3 k4 ka kb kc
  exact ⟨⟨s, a, b, c, L1, L2, L3⟩, _, _, _, rfl, ⟨h1, h2, h3⟩, z1, z2, z3⟩
end Go.Proofs.YtmkhhkhoinpfeaaGreatDoor
namespace Go.Proofs.YtmkhhkhoinpfeaaGreatDoor
open Go.ChangeShapes Go.WideShapes Go.ChangeAt Go.RowKit
set_option maxRecDepth 100000

theorem packTexts_lifted (os : Os) (started : os.Started) (H : Type) (enc : TypeId × Value → H) :
    ReturnsInHanded {} Tryz.checked os 8 .any (fun w args => (Rows.packTextsSpec.pre enc Tryz.prog Tryz.f8 [] false w args ∧ laidMetH Tryz.prog Rows.packTextsRow.laid w) ∧ sizedMet enc Tryz.prog Tryz.f8 (OpenSpec.ofChange Rows.packTextsSpec) false w args)
      (Rows.packTextsSpec.post enc Tryz.prog Tryz.f8 false true false false) := by
  refine wrap_laid (C := Tryz.checked) (l := Rows.packTextsRow.laid) own started (by kernel_rfl) Tryz.func8
    (ChangeSpec.witness_shaped (enc := enc) (C := Tryz.checked) (os := os) (X := fun w _ => laidMetH Tryz.prog Rows.packTextsRow.laid w) false (World.laidAll Tryz.prog os Rows.packTextsRow.laid) #[.agg #[.string ByteArray.empty, .int .i64 0, .int .i64 0, .int .i64 0, .slice none 0 0, .slice none 0 0, .slice none 0 0], .agg #[.string ByteArray.empty, .int .i64 0, .int .i64 0, .int .i64 0, .slice none 0 0, .slice none 0 0, .slice none 0 0]] 8 (World.laidAll_os _ _ _)
      (World.shaped_of_ZipB (by kernel_rfl) (by kernel_rfl)) (by kernel_rfl) (by kernel_rfl) (by kernel_rfl)
      (by rw [MakeChecks.laidMetH_plain _ _ _ (by kernel_rfl)]; exact laidMet_laidAll _ (by kernel_rfl) (by kernel_rfl))) ?_
  intro W base args ds gs before hval0 hW _ hsh hlaid
  have hval : ∀ (j : Nat) t v, Tryz.f8.params[j]? = some t → args[j]? = some v → Value.okWide Tryz.prog W .any base t v := hval0
  have hW' := hW
  obtain ⟨p, q, hA0, hV, rfl, _, _⟩ := hW
  have hA : DataW.TrodAll enc Tryz.prog W 0 (fun _ => true) true Tryz.f8.params.toList args.toList ds p := hA0
  rw [Tryz.params8] at hA hval
  rw [MakeChecks.laidMetH_plain _ _ _ (by kernel_rfl)] at hlaid
  obtain ⟨v0, vs0, d0, ds0, p0, q0, hargs, rfl, rfl, h0, r0⟩ := trodAll_cons hA
  obtain ⟨v1, vs1, d1, ds1, p1, q1, rfl, rfl, rfl, h1, r1⟩ := trodAll_cons r0
  obtain ⟨rfl, rfl, rfl⟩ := trodAll_nil r1
  obtain rfl : args = #[v0, v1] := by cases args; simp_all
  obtain ⟨rfl, rfl⟩ := trodVars_none hV
  have k0 := h0
  have lt0 : ∀ x ∈ p0, x.block < W.heap.size := by obtain ⟨m, hm⟩ := k0; exact DataW.trod_lt m _ _ _ hm
  obtain ⟨P0, x0, y0, z0, rfl, hp0, hz0⟩ := open_pkg (hval 0 26 v0 rfl rfl) h0
  have k1 := h1
  have lt1 : ∀ x ∈ p1, x.block < W.heap.size := by obtain ⟨m, hm⟩ := k1; exact DataW.trod_lt m _ _ _ hm
  obtain ⟨P1, x1, y1, z1, rfl, hp1, hz1⟩ := open_pkg (hval 1 26 v1 rfl rfl) h1
  clear hA0 hval0
  refine (packTexts_walk hp0 hp1 hz0 (env3_of hsh hlaid).1 (env3_of hsh hlaid).2).mono fun e W' ⟨he, bel⟩ => ?_
  subst he
  exact ⟨_, rfl, _, _, _, [], _, [], hW', trodAll_mk1 (shut_bool Tryz.underlying4 _), (trodAll_cons_mk (Below.trod laidOut (by kernel_rfl) (of_decide_eq_true (by kernel_rfl)) k0 bel lt0) (trodAll_cons_mk (Below.trod laidOut (by kernel_rfl) (of_decide_eq_true (by kernel_rfl)) k1 bel lt1) trodAll_mk0)), rfl, bel.frame _, fun h => by cases h⟩

theorem packTexts_said : Rows.PackTextsSaid :=
  OpenClaim.holds_of_wide 8 Tryz.f8 rfl rfl rfl rfl rfl rfl rfl ⟨rfl, rfl, rfl, rfl, rfl⟩ rfl rfl rfl rfl rfl (by kernel_rfl) Tryz.func8 (by kernel_rfl)
    (of_decide_eq_true (by kernel_rfl)) (by unfold Func.isWrapper; first | (rw [if_pos (by decide +kernel)]; kernel_rfl) | (rw [if_neg (by decide +kernel)]; exact ⟨rfl, rfl⟩))
    (fun os started H enc _ => packTexts_lifted os started H enc)

theorem packTexts_holds : Rows.PackTextsCardSaid :=
  Claim7.holds_tied_plain_at .later [] _ _ _ _ packTexts_said (fun _ h => by cases h) (by kernel_rfl) (fun _ h => by cases h) packTexts_row_tie rfl ⟨rfl, rfl⟩ (by kernel_rfl) rfl
    (fun f fn hf hfn => by
      obtain rfl : f = 8 := Option.some.inj ((show Tryz.prog.funcNamed Rows.packTextsRow.func = some 8 by kernel_rfl).symm.trans hf) |>.symm
      obtain rfl : fn = Tryz.f8 := (Option.some.inj (Tryz.func8.symm.trans hfn)).symm
      exact ⟨by kernel_rfl, fun j t ht => by
        rw [Tryz.params8] at ht
        have hm : t ∈ [26, 26] := by simpa using Array.mem_of_getElem? ht
        have hall : ([26, 26].all fun u => !Tryz.prog.wantsStandIn u) = true := by kernel_rfl
        exact (show Tryz.prog.wantsStandIn t = false by simpa using List.all_eq_true.1 hall t hm)⟩)
    (by kernel_rfl)
#print axioms packTexts_holds
end Go.Proofs.YtmkhhkhoinpfeaaGreatDoor
