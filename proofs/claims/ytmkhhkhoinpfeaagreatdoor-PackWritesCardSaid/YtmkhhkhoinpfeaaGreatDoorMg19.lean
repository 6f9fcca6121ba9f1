/- PackWrites: of any arguments it answers true, and each argument reads as it read before (the tied card). Conditions: none but the row's own. -/
import Derived.Test.YtmkhhkhoinpfeaaGreatDoorMg18
namespace Go.Proofs.YtmkhhkhoinpfeaaGreatDoor
open Go.RowKit
set_option maxRecDepth 100000

set_option maxHeartbeats 3200000 in
theorem rPrint_pk {P : Pg} {v1 v2 v3 : Value} {w : World} (h : PgAt w P v1 v2 v3) (hz : P.d.length ≤ 9223372036854775807 ∧ P.p.length ≤ 9223372036854775807 ∧ P.o.length ≤ 9223372036854775807) (hn : P.nm.size ≤ 9223372036854775807 ∧ (∀ d ∈ P.d, d.nm.size ≤ 9223372036854775807) ∧ (∀ d ∈ P.p, d.nm.size ≤ 9223372036854775807) ∧ ∀ d ∈ P.o, d.nm.size ≤ 9223372036854775807) :
    Calls Tryz.prog 15 #[.agg #[.string P.nm, .int .i64 P.a, .int .i64 P.b, .int .i64 P.c, v1, v2, v3]] w fun e w' => e = .returned (.tuple #[.string (writtenT P), .int .i64 (if writtenB P = true then 0 else 24)]) ∧ Below w.heap.size w w' := by
  obtain ⟨p1, pc1, rfl⟩ := h.1.sl
  obtain ⟨p2, pc2, rfl⟩ := h.2.1.sl
  obtain ⟨p3, pc3, rfl⟩ := h.2.2.sl
  have HM : Hid (∀ w1, Below w.heap.size w w1 → Calls Tryz.prog 10 #[.agg #[.string P.nm, .int .i64 P.a, .int .i64 P.b, .int .i64 P.c, .slice p1 P.d.length pc1, .slice p2 P.p.length pc2, .slice p3 P.o.length pc3]] w1 fun e w' => e = .returned (.bool (writtenB P)) ∧ Below w1.heap.size w1 w') := fun w1 hb => by have := rMay_pk (h.below hb) hz hn; rw [doc_is] at this; exact this
  cases hwb : writtenB P
  · have HT : Hid (writtenT P = ⟨#[]⟩) := by unfold Hid writtenT; rw [if_neg (by rw [hwb]; simp)]
    rw [hwb] at HM
    rw [HT.out, if_neg (by simp)]
    clear h hz hn hwb
    have HK0 : Hid (KeepP fun w1 => (Below w.heap.size w w1) ∧ BxP w1 w.heap.size P.nm P.a P.b P.c (.slice p1 P.d.length pc1) (.slice p2 P.p.length pc2) (.slice p3 P.o.length pc3)) := (KeepP.and (keepBelow w) (keepBxP _ _ _ _ _ _ _ _))
    have HO0 : Hid ((Below w.heap.size w (w.alloc (.cells #[.string P.nm, .int .i64 P.a, .int .i64 P.b, .int .i64 P.c, .slice p1 P.d.length pc1, .slice p2 P.p.length pc2, .slice p3 P.o.length pc3] 26))) ∧ BxP (w.alloc (.cells #[.string P.nm, .int .i64 P.a, .int .i64 P.b, .int .i64 P.c, .slice p1 P.d.length pc1, .slice p2 P.p.length pc2, .slice p3 P.o.length pc3] 26)) w.heap.size P.nm P.a P.b P.c (.slice p1 P.d.length pc1) (.slice p2 P.p.length pc2) (.slice p3 P.o.length pc3)) := ⟨boxB _ _, BxP.new rfl _ _ _ _ _ _ _⟩
    obtain ⟨g0, g1, g2, g3, g4, g5, g6, g7⟩ := HO0.out.2
    go_enter Tryz.func15, Tryz.ntmps15
    go_wp2_with (first
      | (have _h := HO0; go_at_call 10; refine (HM.out _ (HO0.out.1)).mono ?_; rintro e y1 ⟨rfl, ok⟩; have HO1 : Hid ((Below w.heap.size w y1) ∧ BxP y1 w.heap.size P.nm P.a P.b P.c (.slice p1 P.d.length pc1) (.slice p2 P.p.length pc2) (.slice p3 P.o.length pc3)) := HK0.out _ _ HO0.out ok; clear ok HO0 g0 g1 g2 g3 g4 g5 g6 g7; obtain ⟨g0, g1, g2, g3, g4, g5, g6, g7⟩ := HO1.out.2))
    go_ret2
    exact ⟨rfl, HO1.out.1⟩
  · have hs := hwb
    unfold writtenB at hs
    rw [Bool.and_eq_true] at hs
    have hs1 := hs.1
    unfold soundB at hs1
    simp only [Bool.and_eq_true] at hs1
    have HX : Hid (∀ w1, Below w.heap.size w w1 → Calls Tryz.prog 26 #[.agg #[.string P.nm, .int .i64 P.a, .int .i64 P.b, .int .i64 P.c, .slice p1 P.d.length pc1, .slice p2 P.p.length pc2, .slice p3 P.o.length pc3]] w1 fun e w' => e = .returned (.string (writtenT P)) ∧ Below w1.heap.size w1 w') := fun w1 hb => by
      have := rText_any (h.below hb) (by have g0 := hs1.1.1.1; unfold Sc.nameA at g0; rw [Bool.and_eq_true, decide_eq_true_eq, list_size] at g0; exact g0.2) hs1.1.2.1 hs1.1.2.2.1 hs1.1.2.2.2
      unfold writtenT
      rw [if_pos hwb]
      exact this
    rw [hwb] at HM
    rw [if_pos rfl]
    clear h hz hn hwb hs hs1
    generalize writtenT P = TX at *
    have HK0 : Hid (KeepP fun w1 => (Below w.heap.size w w1) ∧ BxP w1 w.heap.size P.nm P.a P.b P.c (.slice p1 P.d.length pc1) (.slice p2 P.p.length pc2) (.slice p3 P.o.length pc3)) := (KeepP.and (keepBelow w) (keepBxP _ _ _ _ _ _ _ _))
    have HO0 : Hid ((Below w.heap.size w (w.alloc (.cells #[.string P.nm, .int .i64 P.a, .int .i64 P.b, .int .i64 P.c, .slice p1 P.d.length pc1, .slice p2 P.p.length pc2, .slice p3 P.o.length pc3] 26))) ∧ BxP (w.alloc (.cells #[.string P.nm, .int .i64 P.a, .int .i64 P.b, .int .i64 P.c, .slice p1 P.d.length pc1, .slice p2 P.p.length pc2, .slice p3 P.o.length pc3] 26)) w.heap.size P.nm P.a P.b P.c (.slice p1 P.d.length pc1) (.slice p2 P.p.length pc2) (.slice p3 P.o.length pc3)) := ⟨boxB _ _, BxP.new rfl _ _ _ _ _ _ _⟩
    obtain ⟨g0, g1, g2, g3, g4, g5, g6, g7⟩ := HO0.out.2
    go_enter Tryz.func15, Tryz.ntmps15
    go_wp2_with (first
      | (have _h := HO0; go_at_call 10; refine (HM.out _ (HO0.out.1)).mono ?_; rintro e y1 ⟨rfl, ok⟩; have HO1 : Hid ((Below w.heap.size w y1) ∧ BxP y1 w.heap.size P.nm P.a P.b P.c (.slice p1 P.d.length pc1) (.slice p2 P.p.length pc2) (.slice p3 P.o.length pc3)) := HK0.out _ _ HO0.out ok; clear ok HO0 g0 g1 g2 g3 g4 g5 g6 g7; obtain ⟨g0, g1, g2, g3, g4, g5, g6, g7⟩ := HO1.out.2)
      | (have _h := HO1; go_at_call 26; refine (HX.out _ (HO1.out.1)).mono ?_; rintro e y2 ⟨rfl, ok⟩; have HO2 : Hid ((Below w.heap.size w y2) ∧ BxP y2 w.heap.size P.nm P.a P.b P.c (.slice p1 P.d.length pc1) (.slice p2 P.p.length pc2) (.slice p3 P.o.length pc3)) := HK0.out _ _ HO1.out ok; clear ok HO1 g0 g1 g2 g3 g4 g5 g6 g7; obtain ⟨g0, g1, g2, g3, g4, g5, g6, g7⟩ := HO2.out.2))
    go_ret2
    exact ⟨rfl, HO2.out.1⟩

set_option maxHeartbeats 6400000 in
theorem packWrites_walk {P : Pg} {v1 v2 v3 : Value} {w : World} (h : PgAt w P v1 v2 v3) (hz : P.d.length ≤ 9223372036854775807 ∧ P.p.length ≤ 9223372036854775807 ∧ P.o.length ≤ 9223372036854775807) (hn : P.nm.size ≤ 9223372036854775807 ∧ (∀ d ∈ P.d, d.nm.size ≤ 9223372036854775807) ∧ (∀ d ∈ P.p, d.nm.size ≤ 9223372036854775807) ∧ ∀ d ∈ P.o, d.nm.size ≤ 9223372036854775807) (hE : Env w ∧ FL w) :
    Calls Tryz.prog 4 #[.agg #[.string P.nm, .int .i64 P.a, .int .i64 P.b, .int .i64 P.c, v1, v2, v3]] w fun e w' => e = .returned (.bool true) ∧ Below w.heap.size w w' := by
  obtain ⟨he, hf⟩ := hE
  obtain ⟨p1, pc1, rfl⟩ := h.1.sl
  obtain ⟨p2, pc2, rfl⟩ := h.2.1.sl
  obtain ⟨p3, pc3, rfl⟩ := h.2.2.sl
  have HP : Hid (∀ w1, Below w.heap.size w w1 → Calls Tryz.prog 14 #[.agg #[.string P.nm, .int .i64 P.a, .int .i64 P.b, .int .i64 P.c, .slice p1 P.d.length pc1, .slice p2 P.p.length pc2, .slice p3 P.o.length pc3]] w1 fun e w' => e = .returned (.tuple #[.string (writtenT P), .int .i64 (if writtenB P = true then 0 else 24)]) ∧ Below w1.heap.size w1 w') := fun w1 hb => pPrint_any (h.below hb) (he.below hb) (hf.below hb)
  have HR : Hid (∀ w1, Below w.heap.size w w1 → Calls Tryz.prog 15 #[.agg #[.string P.nm, .int .i64 P.a, .int .i64 P.b, .int .i64 P.c, .slice p1 P.d.length pc1, .slice p2 P.p.length pc2, .slice p3 P.o.length pc3]] w1 fun e w' => e = .returned (.tuple #[.string (writtenT P), .int .i64 (if writtenB P = true then 0 else 24)]) ∧ Below w1.heap.size w1 w') := fun w1 hb => rPrint_pk (h.below hb) hz hn
  have HKN : Hid (∀ w1, Below w.heap.size w w1 → Calls Tryz.prog 13 #[] w1 fun e w' => e = .returned (.bool true) ∧ Below w1.heap.size w1 w') := fun w1 hb => known_pk (he.below hb) (hf.below hb)
  have HPA : Hid (writtenB P = true → ∀ w1, Below w.heap.size w w1 → Calls Tryz.prog 16 #[.string (writtenT P)] w1 fun e w' => ∃ q1 qc1 q2 qc2 q3 qc3, e = .returned (.tuple #[.agg #[.string P.nm, .int .i64 P.a, .int .i64 P.b, .int .i64 P.c, .slice q1 P.d.length qc1, .slice q2 P.p.length qc2, .slice q3 P.o.length qc3], .int .i64 0]) ∧ Below w1.heap.size w1 w' ∧ PgAt w' P (.slice q1 P.d.length qc1) (.slice q2 P.p.length qc2) (.slice q3 P.o.length qc3)) := fun hw w1 hb => (Parse_pk (writtenT P) (he.below hb) (hf.below hb)).mono fun e w' hq => by
    rw [(pk_back hw).1, (pk_back hw).2] at hq
    obtain ⟨s, a, b, c, x1, x2, x3, h1, h2, h3, _⟩ := hq
    obtain ⟨rfl, rfl, rfl, rfl, ho⟩ := h3 rfl
    have hp := ho.at
    obtain ⟨a1, c1, e1⟩ := hp.1.sl
    obtain ⟨a2, c2, e2⟩ := hp.2.1.sl
    obtain ⟨a3, c3, e3⟩ := hp.2.2.sl
    rw [e1, e2, e3] at h1 hp
    exact ⟨a1, c1, a2, c2, a3, c3, h1, h2, hp⟩
  have HSA : Hid (∀ w1 q1 qc1 q2 qc2 q3 qc3, Below w.heap.size w w1 → PgAt w1 P (.slice q1 P.d.length qc1) (.slice q2 P.p.length qc2) (.slice q3 P.o.length qc3) → Calls Tryz.prog 12 #[.agg #[.string P.nm, .int .i64 P.a, .int .i64 P.b, .int .i64 P.c, .slice p1 P.d.length pc1, .slice p2 P.p.length pc2, .slice p3 P.o.length pc3], .agg #[.string P.nm, .int .i64 P.a, .int .i64 P.b, .int .i64 P.c, .slice q1 P.d.length qc1, .slice q2 P.p.length qc2, .slice q3 P.o.length qc3]] w1 fun e w' => e = .returned (.bool true) ∧ Below w1.heap.size w1 w') := fun w1 q1 qc1 q2 qc2 q3 qc3 hb hq => by have := rSamePk_any (h.below hb) hq hz.1 hz.2.1 hz.2.2; rw [eqB_yes rfl] at this; exact this
  cases hwb : writtenB P
  · rw [hwb] at HP HR
    simp only [Bool.false_eq_true, if_false] at HP HR
    clear h hz hn he hf HPA HSA
    generalize writtenT P = TX at *
    have HK0 : Hid (KeepP fun w1 => (Below w.heap.size w w1) ∧ BxP w1 w.heap.size P.nm P.a P.b P.c (.slice p1 P.d.length pc1) (.slice p2 P.p.length pc2) (.slice p3 P.o.length pc3)) := (KeepP.and (keepBelow w) (keepBxP _ _ _ _ _ _ _ _))
    have HO0 : Hid ((Below w.heap.size w (w.alloc (.cells #[.string P.nm, .int .i64 P.a, .int .i64 P.b, .int .i64 P.c, .slice p1 P.d.length pc1, .slice p2 P.p.length pc2, .slice p3 P.o.length pc3] 26))) ∧ BxP (w.alloc (.cells #[.string P.nm, .int .i64 P.a, .int .i64 P.b, .int .i64 P.c, .slice p1 P.d.length pc1, .slice p2 P.p.length pc2, .slice p3 P.o.length pc3] 26)) w.heap.size P.nm P.a P.b P.c (.slice p1 P.d.length pc1) (.slice p2 P.p.length pc2) (.slice p3 P.o.length pc3)) := ⟨boxB _ _, BxP.new rfl _ _ _ _ _ _ _⟩
    obtain ⟨g0, g1, g2, g3, g4, g5, g6, g7⟩ := HO0.out.2
    go_enter Tryz.func4, Tryz.ntmps4
    go_wp2_with (first
      | (have _h := HO0; go_at_call 14; refine (HP.out _ (HO0.out.1)).mono ?_; rintro e y1 ⟨rfl, ok⟩; have HO1 : Hid ((Below w.heap.size w y1) ∧ BxP y1 w.heap.size P.nm P.a P.b P.c (.slice p1 P.d.length pc1) (.slice p2 P.p.length pc2) (.slice p3 P.o.length pc3)) := HK0.out _ _ HO0.out ok; clear ok HO0 g0 g1 g2 g3 g4 g5 g6 g7; obtain ⟨g0, g1, g2, g3, g4, g5, g6, g7⟩ := HO1.out.2)
      | (have _h := HO1; go_at_call 15; refine (HR.out _ (HO1.out.1)).mono ?_; rintro e y2 ⟨rfl, ok⟩; have HO2 : Hid ((Below w.heap.size w y2) ∧ BxP y2 w.heap.size P.nm P.a P.b P.c (.slice p1 P.d.length pc1) (.slice p2 P.p.length pc2) (.slice p3 P.o.length pc3)) := HK0.out _ _ HO1.out ok; clear ok HO1 g0 g1 g2 g3 g4 g5 g6 g7; obtain ⟨g0, g1, g2, g3, g4, g5, g6, g7⟩ := HO2.out.2)
      | (have _h := HO2; go_at_call 13; refine (HKN.out _ (HO2.out.1)).mono ?_; rintro e y3 ⟨rfl, ok⟩; have HO3 : Hid ((Below w.heap.size w y3) ∧ BxP y3 w.heap.size P.nm P.a P.b P.c (.slice p1 P.d.length pc1) (.slice p2 P.p.length pc2) (.slice p3 P.o.length pc3)) := HK0.out _ _ HO2.out ok; clear ok HO2 g0 g1 g2 g3 g4 g5 g6 g7; obtain ⟨g0, g1, g2, g3, g4, g5, g6, g7⟩ := HO3.out.2))
    go_ret
    exact ⟨by first | rfl | simp, HO3.out.1⟩
  · have HPB := hide3 (HPA.out hwb)
    rw [hwb] at HP HR
    simp only [if_true] at HP HR
    clear h hz hn he hf HPA
    generalize writtenT P = TX at *
    have HK0 : Hid (KeepP fun w1 => (Below w.heap.size w w1) ∧ BxP w1 w.heap.size P.nm P.a P.b P.c (.slice p1 P.d.length pc1) (.slice p2 P.p.length pc2) (.slice p3 P.o.length pc3)) := (KeepP.and (keepBelow w) (keepBxP _ _ _ _ _ _ _ _))
    have HO0 : Hid ((Below w.heap.size w (w.alloc (.cells #[.string P.nm, .int .i64 P.a, .int .i64 P.b, .int .i64 P.c, .slice p1 P.d.length pc1, .slice p2 P.p.length pc2, .slice p3 P.o.length pc3] 26))) ∧ BxP (w.alloc (.cells #[.string P.nm, .int .i64 P.a, .int .i64 P.b, .int .i64 P.c, .slice p1 P.d.length pc1, .slice p2 P.p.length pc2, .slice p3 P.o.length pc3] 26)) w.heap.size P.nm P.a P.b P.c (.slice p1 P.d.length pc1) (.slice p2 P.p.length pc2) (.slice p3 P.o.length pc3)) := ⟨boxB _ _, BxP.new rfl _ _ _ _ _ _ _⟩
    obtain ⟨g0, g1, g2, g3, g4, g5, g6, g7⟩ := HO0.out.2
    go_enter Tryz.func4, Tryz.ntmps4
    go_wp2_with (first
      | (have _h := HO0; go_at_call 14; refine (HP.out _ (HO0.out.1)).mono ?_; rintro e y1 ⟨rfl, ok⟩; have HO1 : Hid ((Below w.heap.size w y1) ∧ BxP y1 w.heap.size P.nm P.a P.b P.c (.slice p1 P.d.length pc1) (.slice p2 P.p.length pc2) (.slice p3 P.o.length pc3)) := HK0.out _ _ HO0.out ok; clear ok HO0 g0 g1 g2 g3 g4 g5 g6 g7; obtain ⟨g0, g1, g2, g3, g4, g5, g6, g7⟩ := HO1.out.2)
      | (have _h := HO1; go_at_call 15; refine (HR.out _ (HO1.out.1)).mono ?_; rintro e y2 ⟨rfl, ok⟩; have HO2 : Hid ((Below w.heap.size w y2) ∧ BxP y2 w.heap.size P.nm P.a P.b P.c (.slice p1 P.d.length pc1) (.slice p2 P.p.length pc2) (.slice p3 P.o.length pc3)) := HK0.out _ _ HO1.out ok; clear ok HO1 g0 g1 g2 g3 g4 g5 g6 g7; obtain ⟨g0, g1, g2, g3, g4, g5, g6, g7⟩ := HO2.out.2)
      | (have _h := HO2; go_at_call 13; refine (HKN.out _ (HO2.out.1)).mono ?_; rintro e y3 ⟨rfl, ok⟩; have HO3 : Hid ((Below w.heap.size w y3) ∧ BxP y3 w.heap.size P.nm P.a P.b P.c (.slice p1 P.d.length pc1) (.slice p2 P.p.length pc2) (.slice p3 P.o.length pc3)) := HK0.out _ _ HO2.out ok; clear ok HO2 g0 g1 g2 g3 g4 g5 g6 g7; obtain ⟨g0, g1, g2, g3, g4, g5, g6, g7⟩ := HO3.out.2)
      | (go_at_call 16; refine (HPB.out _ (HO3.out.1)).mono ?_; rintro e z4 ⟨q1, qc1, q2, qc2, q3, qc3, rfl, ok, hpq⟩; have HZ5 : Hid (((Below w.heap.size w (z4.alloc (.cells #[.string P.nm, .int .i64 P.a, .int .i64 P.b, .int .i64 P.c, .slice q1 P.d.length qc1, .slice q2 P.p.length qc2, .slice q3 P.o.length qc3] 26))) ∧ BxP (z4.alloc (.cells #[.string P.nm, .int .i64 P.a, .int .i64 P.b, .int .i64 P.c, .slice q1 P.d.length qc1, .slice q2 P.p.length qc2, .slice q3 P.o.length qc3] 26)) w.heap.size P.nm P.a P.b P.c (.slice p1 P.d.length pc1) (.slice p2 P.p.length pc2) (.slice p3 P.o.length pc3)) ∧ PgAt (z4.alloc (.cells #[.string P.nm, .int .i64 P.a, .int .i64 P.b, .int .i64 P.c, .slice q1 P.d.length qc1, .slice q2 P.p.length qc2, .slice q3 P.o.length qc3] 26)) P (.slice q1 P.d.length qc1) (.slice q2 P.p.length qc2) (.slice q3 P.o.length qc3)) := ⟨HK0.out _ _ (HK0.out _ _ HO3.out ok) (boxB _ _), hpq.below (boxB _ _)⟩; have HX5 : Hid (BxP (z4.alloc (.cells #[.string P.nm, .int .i64 P.a, .int .i64 P.b, .int .i64 P.c, .slice q1 P.d.length qc1, .slice q2 P.p.length qc2, .slice q3 P.o.length qc3] 26)) z4.heap.size P.nm P.a P.b P.c (.slice q1 P.d.length qc1) (.slice q2 P.p.length qc2) (.slice q3 P.o.length qc3)) := BxP.new rfl _ _ _ _ _ _ _; clear ok hpq g0 g1 g2 g3 g4 g5 g6 g7; obtain ⟨g0, g1, g2, g3, g4, g5, g6, g7⟩ := HZ5.out.1.2; obtain ⟨f0, f1, f2, f3, f4, f5, f6, f7⟩ := HX5.out)
      | (go_at_call 12; refine (HSA.out _ _ _ _ _ _ _ HZ5.out.1.1 HZ5.out.2).mono ?_; rintro e z6 ⟨rfl, ok⟩; have HBE := hide3 (below_then HZ5.out.1.1 ok); clear ok))
    go_ret
    exact ⟨by first | rfl | simp, HBE.out⟩
end Go.Proofs.YtmkhhkhoinpfeaaGreatDoor
namespace Go.Proofs.YtmkhhkhoinpfeaaGreatDoor
open Go.ChangeShapes Go.WideShapes Go.ChangeAt Go.RowKit
set_option maxRecDepth 100000

theorem star : "*" ++ "errors.errorString" = "*errors.errorString" := by decide

theorem row_err (u : TypeId) (h : Tryz.prog.typeName? 3 u = some "*errors.errorString") : u = 177 :=
  typeName_ptr_named (nm := "errors.errorString") (by rw [star]; kernel_rfl) (by kernel_rfl) (by decide) u (by rw [star]; exact h)

theorem max_cell {W : World} (h : W.ShapedOpen Tryz.prog) : ∃ m, W.cell? ⟨3, 0, none⟩ = some (.int .i64 m) :=
  cell_of_shapedOpen_int (t := 3) (zero := #[.int .i64 0]) h (by decide +kernel) (by kernel_rfl) rfl (by kernel_rfl) (by kernel_rfl) Tryz.underlying3

theorem env_of {W : World} (hsh : W.ShapedOpen Tryz.prog) (h : laidMet Tryz.prog [("math/bits.deBruijn32tab", Rows.laid_math_bits_deBruijn32tab), ("math/bits.deBruijn64tab", Rows.laid_math_bits_deBruijn64tab), ("internal/strconv.uint64pow10", Rows.laid_internal_strconv_uint64pow10), ("strconv.ErrRange", Rows.laid_strconv_ErrRange), ("strconv.ErrSyntax", Rows.laid_strconv_ErrSyntax)] W) : Env W := by
  have hT := tab_is h
  have h3 := laidMet.tail (laidMet.tail (laidMet.tail h))
  have h4 := laidMet.tail h3
  obtain ⟨a1, s1, hv1, _⟩ := laid_sentinel h3 (g := 5) (ti := 75) (te := 179) (ts := 9) (by kernel_rfl) (by kernel_rfl) Tryz.underlying75 row_err Tryz.underlying177 Tryz.underlying179 rfl rfl Tryz.underlying9 (by kernel_rfl) (by kernel_rfl)
  obtain ⟨a2, s2, hv2, _⟩ := laid_sentinel h4 (g := 4) (ti := 75) (te := 179) (ts := 9) (by kernel_rfl) (by kernel_rfl) Tryz.underlying75 row_err Tryz.underlying177 Tryz.underlying179 rfl rfl Tryz.underlying9 (by kernel_rfl) (by kernel_rfl)
  have c1 := World.var?_cell (g := 5) (by kernel_rfl) hv1 0
  have c2 := World.var?_cell (g := 4) (by kernel_rfl) hv2 0
  exact { max := max_cell hsh, tab := hT, syn := ⟨_, _, by simpa using c2⟩, rng := ⟨_, _, by simpa using c1⟩ }
end Go.Proofs.YtmkhhkhoinpfeaaGreatDoor
namespace Go.Proofs.YtmkhhkhoinpfeaaGreatDoor
open Go.ChangeShapes Go.WideShapes Go.ChangeAt Go.RowKit
set_option maxRecDepth 100000

theorem cellsSp : Tryz.prog.cellsOf 40 = 6 := by kernel_rfl

theorem ints_of {H : Type} {enc : TypeId × Value → H} {W : World} {base : Nat} {spare : Nat → Bool} {held : Bool} {n : Nat} {cs : List Value} {x : DataW H × List MemPlace} (h : DataW.trod enc Tryz.prog W base spare held n 23 cs = some x) :
    ∃ a b c, cs[0]? = some (.int .i64 a) ∧ cs[1]? = some (.int .i64 b) ∧ cs[2]? = some (.int .i64 c) ∧ x.1 = .agg [.lit (.int .i64 a), .lit (.int .i64 b), .lit (.int .i64 c)] := by
  have hs : Tryz.prog.underlying 23 = some (.struct (Tryz.prog.fieldsOf 23)) := by kernel_rfl
  obtain ⟨xs, n', _, hx, _, hxl, hf⟩ := DataW.trod_struct hs h
  have hfz : (Tryz.prog.fieldsOf 23).size = 3 := by kernel_rfl
  have ints : ∀ i off, ((Tryz.prog.fieldsOf 23)[i]?).map (fun f => (f.type, f.offset)) = some (3, off) → i < 3 → ∃ k, cs[off]? = some (.int .i64 k) ∧ xs[i]? = some (.lit (.int .i64 k), []) := by
    intro i off hfd hi
    obtain ⟨f, h1, h2, h3⟩ := field_at hfd
    have hr := hf i f h1
    rw [h2, h3, cellsInt, List.getElem?_eq_getElem (by omega : i < xs.length)] at hr
    obtain ⟨k, e1, e2, wk⟩ := DataW.trod_int Tryz.underlying3 hr
    exact ⟨k, take_one e1, by rw [List.getElem?_eq_getElem (by omega : i < xs.length), e2]⟩
  obtain ⟨a, a0, x0⟩ := ints 0 0 (by kernel_rfl) (by decide)
  obtain ⟨b, a1, x1⟩ := ints 1 1 (by kernel_rfl) (by decide)
  obtain ⟨c, a2, x2⟩ := ints 2 2 (by kernel_rfl) (by decide)
  refine ⟨a, b, c, a0, a1, a2, ?_⟩
  rw [hx]
  obtain ⟨y0, y1, y2, rfl⟩ := list3 (l := xs) (by omega)
  simp at x0 x1 x2
  subst x0 x1 x2
  rfl

theorem span_read {H : Type} {enc : TypeId × Value → H} {W : World} {base : Nat} {spare : Nat → Bool} {held : Bool} {n : Nat} {g o : Nat} {cs : List Value} {x : DataW H × List MemPlace} (hc : W.cells? base ⟨g, o, none⟩ 6 = some cs) (h : DataW.trod enc Tryz.prog W base spare held n 40 cs = some x) : ∃ s, SpAt W g o s := by
  have hs : Tryz.prog.underlying 40 = some (.struct (Tryz.prog.fieldsOf 40)) := by kernel_rfl
  obtain ⟨xs, n', _, _, _, hxl, hf⟩ := DataW.trod_struct hs h
  have hsz : (Tryz.prog.fieldsOf 40).size = 2 := by kernel_rfl
  obtain ⟨_, _, hq⟩ := World.cells?_some hc
  have vers : ∀ i off, ((Tryz.prog.fieldsOf 40)[i]?).map (fun f => (f.type, f.offset)) = some (23, off) → i < 2 → ∃ a b c, cs[off]? = some (.int .i64 a) ∧ cs[off + 1]? = some (.int .i64 b) ∧ cs[off + 2]? = some (.int .i64 c) := by
    intro i off hfd hi
    obtain ⟨f, h1, h2, h3⟩ := field_at hfd
    have hr := hf i f h1
    rw [h2, h3, cellsVer, List.getElem?_eq_getElem (by omega : i < xs.length)] at hr
    obtain ⟨a, b, c, e0, e1, e2, _⟩ := ints_of hr
    simp at e0 e1 e2
    exact ⟨a, b, c, e0, e1, e2⟩
  obtain ⟨a, b, c, a0, a1, a2⟩ := vers 0 0 (by kernel_rfl) (by decide)
  obtain ⟨x, y, z, a3, a4, a5⟩ := vers 1 3 (by kernel_rfl) (by decide)
  have ad : ∀ i, (⟨g, o, none⟩ : Addr).add i = ⟨g, o + i, none⟩ := fun i => by unfold Addr.add; split <;> simp_all
  have q0 := hq 0 (by decide)
  have q1 := hq 1 (by decide)
  have q2 := hq 2 (by decide)
  have q3 := hq 3 (by decide)
  have q4 := hq 4 (by decide)
  have q5 := hq 5 (by decide)
  rw [ad] at q0 q1 q2 q3 q4 q5
  exact ⟨⟨a, b, c, x, y, z⟩, by rw [← a0, ← q0]; rfl, by rw [← a1, ← q1], by rw [← a2, ← q2], by rw [← a3, ← q3], by rw [← a4, ← q4], by rw [← a5, ← q5]⟩

theorem list_of {P : Nat → Sp → Prop} : ∀ {n : Nat}, (∀ i, i < n → ∃ s, P i s) → ∃ L : List Sp, L.length = n ∧ ∀ i (h : i < L.length), P i L[i]
  | 0, _ => ⟨[], rfl, fun i h => by simp at h⟩
  | n + 1, h => by
    obtain ⟨L, hl, hP⟩ := list_of (n := n) fun i hi => h i (by omega)
    obtain ⟨s, hs⟩ := h n (by omega)
    refine ⟨L ++ [s], by simp [hl], fun i hi => ?_⟩
    by_cases hin : i < L.length
    · rw [List.getElem_append_left hin]; exact hP i hin
    · have : i = n := by simp at hi; omega
      subst this
      simpa [hl] using hs

/-- A list of spans that came in. -/
theorem open_spans {H : Type} {enc : TypeId × Value → H} {W : World} {base fuel : Nat} {held : Bool} {a : Option Addr} {len cap : Nat} {x : DataW H × List MemPlace} (h : DataW.trod enc Tryz.prog W base (fun _ => true) held fuel 36 [.slice a len cap] = some x) :
    ∃ L : List Sp, SpansC W (.slice a len cap) L := by
  rcases Go.Deep.open_slice Tryz.underlying36 h with ⟨hcs, _⟩ | ⟨ad, l, c, m, n, D, Pl, hcs, _, hl, _, hm, hx, hel⟩
  · simp only [List.cons.injEq, Value.slice.injEq, and_true] at hcs
    obtain ⟨rfl, rfl, rfl⟩ := hcs
    exact ⟨[], ⟨_, _, rfl, Or.inl rfl⟩, _, _, _, rfl, Nat.le_refl _⟩
  · simp only [List.cons.injEq, Value.slice.injEq, and_true] at hcs
    obtain ⟨rfl, rfl, rfl⟩ := hcs
    rcases Nat.eq_zero_or_pos len with h0 | h0
    · subst h0
      exact ⟨[], ⟨_, _, rfl, Or.inl rfl⟩, _, _, _, rfl, hl⟩
    · have hmm : len ≤ m := by rw [hm]; simp; exact hl
      rw [cellsSp] at hel
      obtain ⟨g, off, spot⟩ := ad
      obtain ⟨cs0, hc0, _⟩ := hel 0 (by omega)
      obtain ⟨_, hln, hq⟩ := World.cells?_some hc0
      have hcell := hq 0 (by decide)
      rw [List.getElem?_eq_getElem (by omega : 0 < cs0.length)] at hcell
      have hspot : spot = none := by simpa [Addr.add] using World.cell?_spot hcell
      subst hspot
      have ad2 : ∀ o i, (⟨g, o, none⟩ : Addr).add i = ⟨g, o + i, none⟩ := fun o i => by unfold Addr.add; split <;> simp_all
      obtain ⟨L, hL, hP⟩ := list_of (P := fun i s => SpAt W g (off + i * 6) s) (n := len) fun i hi => by
        obtain ⟨cs, hc, ht⟩ := hel i (by omega)
        rw [ad2] at hc
        exact span_read hc ht
      subst hL
      refine ⟨L, ⟨_, _, rfl, Or.inr ⟨g, off, rfl, ?_, hP⟩⟩, _, _, _, rfl, hl⟩
      have := cell_in hcell
      rw [ad2, ad2] at this; exact this

/-- A variable of three ints that is listed first. -/
theorem ver_laid {W : World} {nm : String} {a b c : Int} {r : List (String × DataW Unit)} {g : Nat} (hg : Tryz.prog.globalNamed nm = some g) (hty : (Tryz.prog.globals[g]?).map (·.type) = some 23)
    (h : laidMet Tryz.prog ((nm, .agg [.lit (.int .i64 a), .lit (.int .i64 b), .lit (.int .i64 c)]) :: r) W) :
    W.cell? ⟨g, 0, none⟩ = some (.int .i64 a) ∧ W.cell? ⟨g, 1, none⟩ = some (.int .i64 b) ∧ W.cell? ⟨g, 2, none⟩ = some (.int .i64 c) := by
  obtain ⟨ps, ⟨g', t', cs, fuel, p, q, hg', ht', hvar, hd, _, _⟩, _⟩ := h
  obtain rfl := Option.some.inj (hg.symm.trans hg')
  obtain rfl := Option.some.inj (hty.symm.trans ht')
  obtain ⟨x, y, z, e0, e1, e2, hx⟩ := ints_of hd
  simp at hx
  obtain ⟨rfl, rfl, rfl⟩ := hx
  have c0 := World.var?_cell hg hvar 0
  have c1 := World.var?_cell hg hvar 1
  have c2 := World.var?_cell hg hvar 2
  exact ⟨by rw [c0]; simpa using e0, by rw [c1]; simpa using e1, by rw [c2]; simpa using e2⟩

/-- What the rows of this layer list. -/
abbrev laid3 : List (String × DataW Unit) := [("math/bits.deBruijn32tab", Rows.laid_math_bits_deBruijn32tab), ("math/bits.deBruijn64tab", Rows.laid_math_bits_deBruijn64tab), ("internal/strconv.uint64pow10", Rows.laid_internal_strconv_uint64pow10), ("unicode/utf8.acceptRanges", Rows.laid_unicode_utf8_acceptRanges), ("strconv.ErrRange", Rows.laid_strconv_ErrRange), ("strconv.ErrSyntax", Rows.laid_strconv_ErrSyntax), ("halyard/span.first", Rows.laid_halyard_span_first), ("halyard/span.last", Rows.laid_halyard_span_last), ("unicode/utf8.first", Rows.laid_unicode_utf8_first)]
theorem env3_of {W : World} (hsh : W.ShapedOpen Tryz.prog) (h : laidMet Tryz.prog laid3 W) : Env W ∧ FL W := by
  have hT := tab_is h
  have h3 := laidMet.tail (laidMet.tail (laidMet.tail (laidMet.tail h)))
  have h4 := laidMet.tail h3
  have h5 := laidMet.tail h4
  have h6 := laidMet.tail h5
  obtain ⟨a1, s1, hv1, _⟩ := laid_sentinel h3 (g := 5) (ti := 75) (te := 179) (ts := 9) (by kernel_rfl) (by kernel_rfl) Tryz.underlying75 row_err Tryz.underlying177 Tryz.underlying179 rfl rfl Tryz.underlying9 (by kernel_rfl) (by kernel_rfl)
  obtain ⟨a2, s2, hv2, _⟩ := laid_sentinel h4 (g := 4) (ti := 75) (te := 179) (ts := 9) (by kernel_rfl) (by kernel_rfl) Tryz.underlying75 row_err Tryz.underlying177 Tryz.underlying179 rfl rfl Tryz.underlying9 (by kernel_rfl) (by kernel_rfl)
  have c1 := World.var?_cell (g := 5) (by kernel_rfl) hv1 0
  have c2 := World.var?_cell (g := 4) (by kernel_rfl) hv2 0
  have f1 := ver_laid (g := 0) (by kernel_rfl) (by kernel_rfl) h5
  have f2 := ver_laid (g := 1) (by kernel_rfl) (by kernel_rfl) h6
  exact ⟨{ max := max_cell hsh, tab := hT, syn := ⟨_, _, by simpa using c2⟩, rng := ⟨_, _, by simpa using c1⟩ }, f1, f2, cell_in f1.1, cell_in f2.1⟩
end Go.Proofs.YtmkhhkhoinpfeaaGreatDoor
namespace Go.Proofs.YtmkhhkhoinpfeaaGreatDoor
open Go.ChangeShapes Go.WideShapes Go.ChangeAt Go.RowKit
set_option maxRecDepth 100000

theorem cellsStrD : Tryz.prog.cellsOf 9 = 1 := by kernel_rfl
theorem cellsSps : Tryz.prog.cellsOf 36 = 1 := by kernel_rfl
theorem cellsDep : Tryz.prog.cellsOf 38 = 2 := by kernel_rfl
theorem cellsDeps : Tryz.prog.cellsOf 24 = 1 := by kernel_rfl
theorem list_any {α : Type} {P : Nat → α → Prop} : ∀ {n : Nat}, (∀ i, i < n → ∃ s, P i s) → ∃ L : List α, L.length = n ∧ ∀ i (h : i < L.length), P i L[i]
  | 0, _ => ⟨[], rfl, fun i h => by simp at h⟩
  | n + 1, h => by
    obtain ⟨L, hl, hP⟩ := list_any (n := n) fun i hi => h i (by omega)
    obtain ⟨s, hs⟩ := h n (by omega)
    refine ⟨L ++ [s], by simp [hl], fun i hi => ?_⟩
    by_cases hin : i < L.length
    · rw [List.getElem_append_left hin]; exact hP i hin
    · have : i = n := by simp at hi; omega
      subst this
      simpa [hl] using hs
theorem take1 {cs : List Value} {o : Nat} {v : Value} (h : (cs.drop o).take 1 = [v]) : cs[o]? = some v := by
  have h0 : ((cs.drop o).take 1)[0]? = some v := by rw [h]; rfl
  simpa using h0

theorem spans_cs {H : Type} {enc : TypeId × Value → H} {W : World} {base fuel : Nat} {held : Bool} {cs : List Value} {x : DataW H × List MemPlace} (h : DataW.trod enc Tryz.prog W base (fun _ => true) held fuel 36 cs = some x) :
    ∃ v L, cs = [v] ∧ SpansC W v L ∧ L.length ≤ 9223372036854775807 := by
  rcases Go.Deep.open_slice Tryz.underlying36 h with ⟨rfl, _⟩ | ⟨ad, l, c, m, n, D, Pl, rfl, _, hl, hm, _⟩
  · obtain ⟨L, hL⟩ := open_spans h
    obtain ⟨a', c', e, _⟩ := hL.1
    cases L with
    | nil => exact ⟨_, [], rfl, hL, by simp⟩
    | cons s L => simp at e
  · obtain ⟨L, hL⟩ := open_spans h
    refine ⟨_, L, rfl, hL, ?_⟩
    obtain ⟨a', c', e, _⟩ := hL.1
    simp only [Value.slice.injEq] at e
    obtain ⟨_, rfl, _⟩ := e
    unfold maxLen at hm
    omega
theorem dep_read {H : Type} {enc : TypeId × Value → H} {W : World} {base : Nat} {held : Bool} {n : Nat} {g o : Nat} {cs : List Value} {x : DataW H × List MemPlace} (hc : W.cells? base ⟨g, o, none⟩ 2 = some cs) (h : DataW.trod enc Tryz.prog W base (fun _ => true) held n 38 cs = some x) : ∃ d : Dp, (∃ u, DpIn W g o d u) ∧ d.nm.size ≤ 9223372036854775807 := by
  have hs : Tryz.prog.underlying 38 = some (.struct (Tryz.prog.fieldsOf 38)) := by kernel_rfl
  obtain ⟨xs, n', _, _, _, hxl, hf⟩ := DataW.trod_struct hs h
  have hsz : (Tryz.prog.fieldsOf 38).size = 2 := by kernel_rfl
  obtain ⟨_, hcl, hq⟩ := World.cells?_some hc
  obtain ⟨f0, i0, t0, o0⟩ := field_at (fs := Tryz.prog.fieldsOf 38) (i := 0) (ty := 9) (off := 0) (by kernel_rfl)
  obtain ⟨f1, i1, t1, o1⟩ := field_at (fs := Tryz.prog.fieldsOf 38) (i := 1) (ty := 36) (off := 1) (by kernel_rfl)
  have r0 := hf 0 f0 i0
  have r1 := hf 1 f1 i1
  rw [t0, o0, cellsStrD, List.getElem?_eq_getElem (by omega : 0 < xs.length)] at r0
  rw [t1, o1, cellsSps, List.getElem?_eq_getElem (by omega : 1 < xs.length)] at r1
  obtain ⟨s, e0, _, hs0⟩ := DataW.trod_string Tryz.underlying9 r0
  obtain ⟨v, L, e1, hL, hz⟩ := spans_cs r1
  have q0 := hq 0 (by decide)
  have q1 := hq 1 (by decide)
  have ad : ∀ i, (⟨g, o, none⟩ : Addr).add i = ⟨g, o + i, none⟩ := fun i => by unfold Addr.add; split <;> simp_all
  rw [ad, take1 e0] at q0
  rw [ad, take1 e1] at q1
  exact ⟨⟨s, L⟩, ⟨v, q0, q1, ⟨hL, hz⟩, cell_in q1⟩, by unfold maxLen at hs0; exact hs0⟩
/-- A list of dependencies that came in. -/
theorem deps_cs {H : Type} {enc : TypeId × Value → H} {W : World} {base fuel : Nat} {held : Bool} {cs : List Value} {x : DataW H × List MemPlace} (h : DataW.trod enc Tryz.prog W base (fun _ => true) held fuel 24 cs = some x) :
    ∃ v L, cs = [v] ∧ DepsAt W v L ∧ L.length ≤ 9223372036854775807 ∧ ∀ d ∈ L, d.nm.size ≤ 9223372036854775807 := by
  rcases Go.Deep.open_slice Tryz.underlying24 h with ⟨rfl, _⟩ | ⟨ad, len, cap, m, n, D, Pl, rfl, _, hl, hcm, hm, hx, hel⟩
  · exact ⟨_, [], rfl, ⟨none, 0, rfl, Nat.le_refl _, Or.inl rfl⟩, by simp, (fun d hd => by cases hd)⟩
  · have hz : len ≤ 9223372036854775807 := by unfold maxLen at hcm; omega
    rcases Nat.eq_zero_or_pos len with h0 | h0
    · subst h0
      exact ⟨_, [], rfl, ⟨_, _, rfl, Nat.zero_le _, Or.inl rfl⟩, by simp, (fun d hd => by cases hd)⟩
    · have hmm : len ≤ m := by rw [hm]; simp; exact hl
      rw [cellsDep] at hel
      obtain ⟨g, off, spot⟩ := ad
      obtain ⟨cs0, hc0, _⟩ := hel 0 (by omega)
      obtain ⟨_, hln, hq⟩ := World.cells?_some hc0
      have hcell := hq 0 (by decide)
      rw [List.getElem?_eq_getElem (by omega : 0 < cs0.length)] at hcell
      have hspot : spot = none := by simpa [Addr.add] using World.cell?_spot hcell
      subst hspot
      have ad2 : ∀ o i, (⟨g, o, none⟩ : Addr).add i = ⟨g, o + i, none⟩ := fun o i => by unfold Addr.add; split <;> simp_all
      obtain ⟨L, hL, hP⟩ := list_any (P := fun i (d : Dp) => (∃ u, DpIn W g (off + i * 2) d u) ∧ d.nm.size ≤ 9223372036854775807) (n := len) fun i hi => by
        obtain ⟨cs, hc, ht⟩ := hel i (by omega)
        rw [ad2] at hc
        exact dep_read hc ht
      subst hL
      refine ⟨_, L, rfl, ⟨_, _, rfl, hl, Or.inr ⟨g, off, rfl, ?_, fun i hi => (hP i hi).1⟩⟩, hz, ?_⟩
      · have := cell_in hcell
        rw [ad2, ad2] at this; exact this
      · intro d hd
        obtain ⟨i, hi, rfl⟩ := List.getElem_of_mem hd
        exact (hP i hi).2
end Go.Proofs.YtmkhhkhoinpfeaaGreatDoor
namespace Go.Proofs.YtmkhhkhoinpfeaaGreatDoor
open Go.ChangeShapes Go.WideShapes Go.ChangeAt Go.RowKit
set_option maxRecDepth 100000

theorem cellsPkg : Tryz.prog.cellsOf 26 = 7 := by kernel_rfl
theorem list7 {α : Type} {l : List α} (h : l.length = 7) : ∃ a b c d e f g, l = [a, b, c, d, e, f, g] := by
  match l, h with
  | [a, b, c, d, e, f, g], _ => exact ⟨a, b, c, d, e, f, g, rfl⟩
theorem open_pkg {H : Type} {enc : TypeId × Value → H} {W : World} {base b0 : Nat} {held : Bool} {v : Value} {d : DataW H} {p : List MemPlace} (hv : Value.okWide Tryz.prog W .any b0 26 v) (h : DataW.Trod enc Tryz.prog W base (fun _ => true) held 26 v d p) :
    ∃ (P : Pg) (v1 v2 v3 : Value), v = .agg #[.string P.nm, .int .i64 P.a, .int .i64 P.b, .int .i64 P.c, v1, v2, v3] ∧ PgAt W P v1 v2 v3 ∧ (P.d.length ≤ 9223372036854775807 ∧ P.p.length ≤ 9223372036854775807 ∧ P.o.length ≤ 9223372036854775807) ∧ (P.nm.size ≤ 9223372036854775807 ∧ (∀ d ∈ P.d, d.nm.size ≤ 9223372036854775807) ∧ (∀ d ∈ P.p, d.nm.size ≤ 9223372036854775807) ∧ ∀ d ∈ P.o, d.nm.size ≤ 9223372036854775807) := by
  have hs : Tryz.prog.underlying 26 = some (.struct (Tryz.prog.fieldsOf 26)) := by kernel_rfl
  obtain ⟨cs, rfl, hsz⟩ := okWide_struct hs hv
  obtain ⟨n, h⟩ := h
  obtain ⟨xs, n', _, _, _, hxl, hf⟩ := DataW.trod_struct hs h
  have hfz : (Tryz.prog.fieldsOf 26).size = 5 := by kernel_rfl
  rw [cellsPkg] at hsz
  obtain ⟨f0, i0, t0, o0⟩ := field_at (fs := Tryz.prog.fieldsOf 26) (i := 0) (ty := 9) (off := 0) (by kernel_rfl)
  obtain ⟨f1, i1, t1, o1⟩ := field_at (fs := Tryz.prog.fieldsOf 26) (i := 1) (ty := 23) (off := 1) (by kernel_rfl)
  obtain ⟨f2, i2, t2, o2⟩ := field_at (fs := Tryz.prog.fieldsOf 26) (i := 2) (ty := 24) (off := 4) (by kernel_rfl)
  obtain ⟨f3, i3, t3, o3⟩ := field_at (fs := Tryz.prog.fieldsOf 26) (i := 3) (ty := 24) (off := 5) (by kernel_rfl)
  obtain ⟨f4, i4, t4, o4⟩ := field_at (fs := Tryz.prog.fieldsOf 26) (i := 4) (ty := 24) (off := 6) (by kernel_rfl)
  have r0 := hf 0 f0 i0
  have r1 := hf 1 f1 i1
  have r2 := hf 2 f2 i2
  have r3 := hf 3 f3 i3
  have r4 := hf 4 f4 i4
  rw [t0, o0, cellsStrD, List.getElem?_eq_getElem (by omega : 0 < xs.length)] at r0
  rw [t1, o1, cellsVer, List.getElem?_eq_getElem (by omega : 1 < xs.length)] at r1
  rw [t2, o2, cellsDeps, List.getElem?_eq_getElem (by omega : 2 < xs.length)] at r2
  rw [t3, o3, cellsDeps, List.getElem?_eq_getElem (by omega : 3 < xs.length)] at r3
  rw [t4, o4, cellsDeps, List.getElem?_eq_getElem (by omega : 4 < xs.length)] at r4
  obtain ⟨s, e0, _, hs0⟩ := DataW.trod_string Tryz.underlying9 r0
  obtain ⟨a, b, c, ea, eb, ec, _⟩ := ints_of r1
  obtain ⟨v1, L1, e2, h1, z1, m1⟩ := deps_cs r2
  obtain ⟨v2, L2, e3, h2, z2, m2⟩ := deps_cs r3
  obtain ⟨v3, L3, e4, h3, z3, m3⟩ := deps_cs r4
  have k0 : cs.toList[0]? = some (.string s) := take1 e0
  have k2 : cs.toList[4]? = some v1 := take1 e2
  have k3 : cs.toList[5]? = some v2 := take1 e3
  have k4 : cs.toList[6]? = some v3 := take1 e4
  have ka : ((cs.toList.drop 1).take 3)[0]? = some (.int .i64 a) := ea
  have kb : ((cs.toList.drop 1).take 3)[1]? = some (.int .i64 b) := eb
  have kc : ((cs.toList.drop 1).take 3)[2]? = some (.int .i64 c) := ec
  obtain ⟨l⟩ := cs
  obtain ⟨x0, x1, x2, x3, x4, x5, x6, rfl⟩ := list7 (l := l) (by simpa using hsz)
  simp at k0 k2 k3 k4 ka kb kc
  subst k0 k2 k3 k4 ka kb kc
  exact ⟨⟨s, a, b, c, L1, L2, L3⟩, _, _, _, rfl, ⟨h1, h2, h3⟩, ⟨z1, z2, z3⟩, by unfold maxLen at hs0; exact hs0, m1, m2, m3⟩
end Go.Proofs.YtmkhhkhoinpfeaaGreatDoor
namespace Go.Proofs.YtmkhhkhoinpfeaaGreatDoor
open Go.ChangeShapes Go.WideShapes Go.ChangeAt Go.RowKit
set_option maxRecDepth 100000

theorem packWrites_lifted (os : Os) (started : os.Started) (H : Type) (enc : TypeId × Value → H) :
    ReturnsInHanded {} Tryz.checked os 4 .any (fun w args => (Rows.packWritesSpec.pre enc Tryz.prog Tryz.f4 [] false w args ∧ laidMetH Tryz.prog Rows.packWritesRow.laid w) ∧ sizedMet enc Tryz.prog Tryz.f4 (OpenSpec.ofChange Rows.packWritesSpec) false w args)
      (Rows.packWritesSpec.post enc Tryz.prog Tryz.f4 false true false false) := by
  refine wrap_laid (C := Tryz.checked) (l := Rows.packWritesRow.laid) own started (by kernel_rfl) Tryz.func4
    (ChangeSpec.witness_shaped (enc := enc) (C := Tryz.checked) (os := os) (X := fun w _ => laidMetH Tryz.prog Rows.packWritesRow.laid w) false (World.laidAll Tryz.prog os Rows.packWritesRow.laid) #[.agg #[.string ByteArray.empty, .int .i64 0, .int .i64 0, .int .i64 0, .slice none 0 0, .slice none 0 0, .slice none 0 0]] 8 (World.laidAll_os _ _ _)
      (World.shaped_of_ZipB (by kernel_rfl) (by kernel_rfl)) (by kernel_rfl) (by kernel_rfl) (by kernel_rfl)
      (by rw [MakeChecks.laidMetH_plain _ _ _ (by kernel_rfl)]; exact laidMet_laidAll _ (by kernel_rfl) (by kernel_rfl))) ?_
  intro W base args ds gs before hval0 hW _ hsh hlaid
  have hval : ∀ (j : Nat) t v, Tryz.f4.params[j]? = some t → args[j]? = some v → Value.okWide Tryz.prog W .any base t v := hval0
  have hW' := hW
  obtain ⟨p, q, hA0, hV, rfl, _, _⟩ := hW
  have hA : DataW.TrodAll enc Tryz.prog W 0 (fun _ => true) true Tryz.f4.params.toList args.toList ds p := hA0
  rw [Tryz.params4] at hA hval
  rw [MakeChecks.laidMetH_plain _ _ _ (by kernel_rfl)] at hlaid
  obtain ⟨v0, vs0, d0, ds0, p0, q0, hargs, rfl, rfl, h0, r0⟩ := trodAll_cons hA
  obtain ⟨rfl, rfl, rfl⟩ := trodAll_nil r0
  obtain rfl : args = #[v0] := by cases args; simp_all
  obtain ⟨rfl, rfl⟩ := trodVars_none hV
  have k0 := h0
  have lt0 : ∀ x ∈ p0, x.block < W.heap.size := by obtain ⟨m, hm⟩ := k0; exact DataW.trod_lt m _ _ _ hm
  obtain ⟨P0, x0, y0, z0, rfl, hp0, hz0, hn0⟩ := open_pkg (hval 0 26 v0 rfl rfl) h0
  clear hA0 hval0
  refine (packWrites_walk hp0 hz0 hn0 (env3_of hsh hlaid)).mono fun e W' ⟨he, bel⟩ => ?_
  subst he
  exact ⟨_, rfl, _, _, _, [], _, [], hW', trodAll_mk1 (shut_bool Tryz.underlying4 _), (trodAll_cons_mk (Below.trod laidOut (by kernel_rfl) (of_decide_eq_true (by kernel_rfl)) k0 bel lt0) trodAll_mk0), rfl, bel.frame _, fun h => by cases h⟩

theorem packWrites_said : Rows.PackWritesSaid :=
  OpenClaim.holds_of_wide 4 Tryz.f4 rfl rfl rfl rfl rfl rfl rfl ⟨rfl, rfl, rfl, rfl, rfl⟩ rfl rfl rfl rfl rfl (by kernel_rfl) Tryz.func4 (by kernel_rfl)
    (of_decide_eq_true (by kernel_rfl)) (by unfold Func.isWrapper; first | (rw [if_pos (by decide +kernel)]; kernel_rfl) | (rw [if_neg (by decide +kernel)]; exact ⟨rfl, rfl⟩))
    (fun os started H enc _ => packWrites_lifted os started H enc)

theorem packWrites_holds : Rows.PackWritesCardSaid :=
  Claim7.holds_tied_plain_at .later [] _ _ _ _ packWrites_said (fun _ h => by cases h) (by kernel_rfl) (fun _ h => by cases h) packWrites_row_tie rfl ⟨rfl, rfl⟩ (by kernel_rfl) rfl
    (fun f fn hf hfn => by
      obtain rfl : f = 4 := Option.some.inj ((show Tryz.prog.funcNamed Rows.packWritesRow.func = some 4 by kernel_rfl).symm.trans hf) |>.symm
      obtain rfl : fn = Tryz.f4 := (Option.some.inj (Tryz.func4.symm.trans hfn)).symm
      exact ⟨by kernel_rfl, fun j t ht => by
        rw [Tryz.params4] at ht
        have hm : t ∈ [26] := by simpa using Array.mem_of_getElem? ht
        have hall : ([26].all fun u => !Tryz.prog.wantsStandIn u) = true := by kernel_rfl
        exact (show Tryz.prog.wantsStandIn t = false by simpa using List.all_eq_true.1 hall t hm)⟩)
    (by kernel_rfl)
#print axioms packWrites_holds
end Go.Proofs.YtmkhhkhoinpfeaaGreatDoor
