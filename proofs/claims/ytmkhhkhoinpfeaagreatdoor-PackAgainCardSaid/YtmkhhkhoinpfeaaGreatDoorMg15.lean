/- PackAgain: of any arguments it answers true, and each argument reads as it read before (the tied card). Conditions: none but the row's own. -/
import Derived.Test.YtmkhhkhoinpfeaaGreatDoorMg14
namespace Go.Proofs.YtmkhhkhoinpfeaaGreatDoor
open Go.RowKit
set_option maxRecDepth 100000

theorem packAgain_no (t : ByteArray) {w : World} (he : Env w) (hf : FL w) (h : parPE t ≠ 0) : Calls Tryz.prog 6 #[.string t] w fun e w' => e = .returned (.bool true) ∧ Below w.heap.size w w' := by
  have HPA : Hid (Calls Tryz.prog 16 #[.string t] w fun e w' => e = .returned (.tuple #[.agg #[.string ⟨#[]⟩, .int .i64 0, .int .i64 0, .int .i64 0, .slice none 0 0, .slice none 0 0, .slice none 0 0], .int .i64 (parPE t)]) ∧ Below w.heap.size w w') := (Parse_pk t he hf).mono fun e w' hq => by
    obtain ⟨s, a, b, c, v1, v2, v3, h1, h2, _, h4⟩ := hq
    obtain ⟨rfl, rfl, rfl, rfl, rfl, rfl, rfl⟩ := h4 h
    exact ⟨h1, h2⟩
  have HKN : Hid (∀ w1, Below w.heap.size w w1 → Calls Tryz.prog 13 #[] w1 fun e w' => e = .returned (.bool true) ∧ Below w1.heap.size w1 w') := fun w1 hb => known_pk (he.below hb) (hf.below hb)
  have hre : (parPE t == 0) = false := by simpa using h
  clear he hf h
  generalize parPE t = er at *
  go_enter Tryz.func6, Tryz.ntmps6
  go_wp2_with (first
    | (go_at_call 16; refine HPA.out.mono ?_; rintro e w1 ⟨rfl, ok⟩; have HB1 : Hid (Below w.heap.size w (w1.alloc (.cells #[.string ⟨#[]⟩, .int .i64 0, .int .i64 0, .int .i64 0, .slice none 0 0, .slice none 0 0, .slice none 0 0] 26)) ∧ BxP (w1.alloc (.cells #[.string ⟨#[]⟩, .int .i64 0, .int .i64 0, .int .i64 0, .slice none 0 0, .slice none 0 0, .slice none 0 0] 26)) w1.heap.size ⟨#[]⟩ 0 0 0 (.slice none 0 0) (.slice none 0 0) (.slice none 0 0)) := ⟨below_then ok (boxB _ _), BxP.new rfl _ _ _ _ _ _ _⟩; clear ok)
    | (go_at_call 13; refine (HKN.out _ HB1.out.1).mono ?_; rintro e w2 ⟨rfl, ok⟩; have HB2 := hide3 (below_then HB1.out.1 ok); have HX2 := hide3 (keepBxP _ _ _ _ _ _ _ _ _ _ HB1.out.2 ok); obtain ⟨y0, y1, y2, y3, y4, y5, y6, y7⟩ := HX2.out; clear ok))
  go_ret
  exact ⟨rfl, HB2.out⟩

set_option maxHeartbeats 12800000 in
theorem packAgain_yes (t : ByteArray) {w : World} (he : Env w) (hf : FL w) (h : parPE t = 0) : Calls Tryz.prog 6 #[.string t] w fun e w' => e = .returned (.bool true) ∧ Below w.heap.size w w' := by
  have hwb := par_written h
  have HPG : Hid (∀ x, parPE x = 0 → parPP x = parPP t → ∀ w1, Below w.heap.size w w1 → Calls Tryz.prog 16 #[.string x] w1 fun e w' => ∃ p1 pc1 p2 pc2 p3 pc3, e = .returned (.tuple #[.agg #[.string (parPP t).nm, .int .i64 (parPP t).a, .int .i64 (parPP t).b, .int .i64 (parPP t).c, .slice p1 (parPP t).d.length pc1, .slice p2 (parPP t).p.length pc2, .slice p3 (parPP t).o.length pc3], .int .i64 0]) ∧ Below w1.heap.size w1 w' ∧ OwnP w' w1.heap.size (parPP t) (.slice p1 (parPP t).d.length pc1) (.slice p2 (parPP t).p.length pc2) (.slice p3 (parPP t).o.length pc3)) := fun x hx0 hxp w1 hb => (Parse_pk x (he.below hb) (hf.below hb)).mono fun e w' hq => by
    rw [hx0, hxp] at hq
    obtain ⟨s, a, b, c, v1, v2, v3, h1, h2, h3, _⟩ := hq
    obtain ⟨rfl, rfl, rfl, rfl, ho⟩ := h3 rfl
    have hp := ho.at
    obtain ⟨a1, c1, e1⟩ := hp.1.sl
    obtain ⟨a2, c2, e2⟩ := hp.2.1.sl
    obtain ⟨a3, c3, e3⟩ := hp.2.2.sl
    rw [e1, e2, e3] at h1 ho
    exact ⟨a1, c1, a2, c2, a3, c3, h1, h2, ho⟩
  have HP1 := hide3 (HPG.out t h rfl)
  have HP2 := hide3 (HPG.out (writtenT (parPP t)) (pk_back hwb).1 (pk_back hwb).2)
  have HKN : Hid (∀ w1, Below w.heap.size w w1 → Calls Tryz.prog 13 #[] w1 fun e w' => e = .returned (.bool true) ∧ Below w1.heap.size w1 w') := fun w1 hb => known_pk (he.below hb) (hf.below hb)
  have HMA : Hid (∀ w1 v1 v2 v3, Below w.heap.size w w1 → PgAt w1 (parPP t) v1 v2 v3 → Calls Tryz.prog 9 #[.agg #[.string (parPP t).nm, .int .i64 (parPP t).a, .int .i64 (parPP t).b, .int .i64 (parPP t).c, v1, v2, v3]] w1 fun e w' => e = .returned (.bool true) ∧ Below w1.heap.size w1 w') := fun w1 v1 v2 v3 hb hp => by have := pMay_any hp (he.below hb) (hf.below hb); rw [hwb] at this; exact this
  have HPR : Hid (∀ w1 v1 v2 v3, Below w.heap.size w w1 → PgAt w1 (parPP t) v1 v2 v3 → Calls Tryz.prog 14 #[.agg #[.string (parPP t).nm, .int .i64 (parPP t).a, .int .i64 (parPP t).b, .int .i64 (parPP t).c, v1, v2, v3]] w1 fun e w' => e = .returned (.tuple #[.string (writtenT (parPP t)), .int .i64 0]) ∧ Below w1.heap.size w1 w') := fun w1 v1 v2 v3 hb hp => by have := pPrint_any hp (he.below hb) (hf.below hb); rw [hwb, if_pos rfl] at this; exact this
  have hsh : (parPP t).d.length ≤ 16 ∧ (parPP t).p.length ≤ 16 ∧ (parPP t).o.length ≤ 16 := by
    have hs := hwb
    unfold writtenB soundB at hs
    simp only [Bool.and_eq_true] at hs
    exact ⟨(short_may hs.1.1.2.1).1, (short_may hs.1.1.2.2.1).1, (short_may hs.1.1.2.2.2).1⟩
  have HRG : Hid (∀ d ∈ (parPP t).d, d.rg.length ≤ 64) := fun d hd => by
    have hs := hwb
    unfold writtenB at hs
    rw [Bool.and_eq_true] at hs
    have hr := ((rise_names (sound_all hs.1).2.2.1) d hd).2
    unfold rangeB at hr
    rw [Bool.and_eq_true] at hr
    obtain ⟨A, e, _, hl⟩ := may_iff.1 hr.2
    rw [e, List.length_map]
    exact hl
  have HSA : Hid (∀ w1 v1 v2 v3 u1 u2 u3, PgAt w1 (parPP t) v1 v2 v3 → PgAt w1 (parPP t) u1 u2 u3 → Calls Tryz.prog 11 #[.agg #[.string (parPP t).nm, .int .i64 (parPP t).a, .int .i64 (parPP t).b, .int .i64 (parPP t).c, v1, v2, v3], .agg #[.string (parPP t).nm, .int .i64 (parPP t).a, .int .i64 (parPP t).b, .int .i64 (parPP t).c, u1, u2, u3]] w1 fun e w' => e = .returned (.bool true) ∧ Below w1.heap.size w1 w') := fun w1 v1 v2 v3 u1 u2 u3 hp hq => by have := Same_any hp hq (by omega) (by omega) (by omega); rw [eqB_yes rfl] at this; exact this
  obtain ⟨n16, _, _⟩ := hsh
  clear he hf h hwb HPG
  generalize writtenT (parPP t) = TX at *
  generalize parPP t = P at *
  have HKP : Hid (∀ (N : Nat) v1 v2 v3, KeepP fun w' => Below w.heap.size w w' ∧ BxP w' N P.nm P.a P.b P.c v1 v2 v3 ∧ PgAt w' P v1 v2 v3) := fun N v1 v2 v3 => (keepBelow w).and ((keepBxP _ _ _ _ _ _ _ _).and (keepPg _ _ _ _))
  have HKQ : Hid (∀ (N B : Nat) v1 v2 v3, KeepP fun w' => BxP w' N P.nm P.a P.b P.c v1 v2 v3 ∧ OwnP w' B P v1 v2 v3) := fun N B v1 v2 v3 => (keepBxP _ _ _ _ _ _ _ _).and (keepOwnP _ _ _ _ _)
  have t1 : True := trivial
  have t2 : True := trivial
  go_enter Tryz.func6, Tryz.ntmps6
  go_wp2_with (first
    | (have _t := t1; go_at_call 16; refine (HP1.out _ (Below.refl _ _)).mono ?_; rintro e w1 ⟨p1, pc1, p2, pc2, p3, pc3, rfl, ok, how⟩; have HK2 : Hid (Below w.heap.size w (w1.alloc (.cells #[.string P.nm, .int .i64 P.a, .int .i64 P.b, .int .i64 P.c, .slice p1 P.d.length pc1, .slice p2 P.p.length pc2, .slice p3 P.o.length pc3] 26)) ∧ BxP (w1.alloc (.cells #[.string P.nm, .int .i64 P.a, .int .i64 P.b, .int .i64 P.c, .slice p1 P.d.length pc1, .slice p2 P.p.length pc2, .slice p3 P.o.length pc3] 26)) w1.heap.size P.nm P.a P.b P.c (.slice p1 P.d.length pc1) (.slice p2 P.p.length pc2) (.slice p3 P.o.length pc3) ∧ PgAt (w1.alloc (.cells #[.string P.nm, .int .i64 P.a, .int .i64 P.b, .int .i64 P.c, .slice p1 P.d.length pc1, .slice p2 P.p.length pc2, .slice p3 P.o.length pc3] 26)) P (.slice p1 P.d.length pc1) (.slice p2 P.p.length pc2) (.slice p3 P.o.length pc3)) := ⟨below_then ok (boxB _ _), BxP.new rfl _ _ _ _ _ _ _, how.at.below (boxB _ _)⟩; clear ok how t1)
    | (go_at_call 13; refine (HKN.out _ HK2.out.1).mono ?_; rintro e w3 ⟨rfl, ok⟩; have HK3 : Hid (Below w.heap.size w w3 ∧ BxP w3 w1.heap.size P.nm P.a P.b P.c (.slice p1 P.d.length pc1) (.slice p2 P.p.length pc2) (.slice p3 P.o.length pc3) ∧ PgAt w3 P (.slice p1 P.d.length pc1) (.slice p2 P.p.length pc2) (.slice p3 P.o.length pc3)) := HKP.out _ _ _ _ _ _ HK2.out ok; obtain ⟨y0, y1, y2, y3, y4, y5, y6, y7⟩ := HK3.out.2.1; clear ok)
    | (go_at_call 9; refine (HMA.out _ _ _ _ HK3.out.1 HK3.out.2.2).mono ?_; rintro e w4 ⟨rfl, ok⟩; have HK4 : Hid (Below w.heap.size w w4 ∧ BxP w4 w1.heap.size P.nm P.a P.b P.c (.slice p1 P.d.length pc1) (.slice p2 P.p.length pc2) (.slice p3 P.o.length pc3) ∧ PgAt w4 P (.slice p1 P.d.length pc1) (.slice p2 P.p.length pc2) (.slice p3 P.o.length pc3)) := HKP.out _ _ _ _ _ _ HK3.out ok; clear ok y0 y1 y2 y3 y4 y5 y6 y7; obtain ⟨y0, y1, y2, y3, y4, y5, y6, y7⟩ := HK4.out.2.1)
    | (have _t := t2; go_at_call 14; refine (HPR.out _ _ _ _ HK4.out.1 HK4.out.2.2).mono ?_; rintro e w5 ⟨rfl, ok⟩; have HK5 : Hid (Below w.heap.size w w5 ∧ BxP w5 w1.heap.size P.nm P.a P.b P.c (.slice p1 P.d.length pc1) (.slice p2 P.p.length pc2) (.slice p3 P.o.length pc3) ∧ PgAt w5 P (.slice p1 P.d.length pc1) (.slice p2 P.p.length pc2) (.slice p3 P.o.length pc3)) := HKP.out _ _ _ _ _ _ HK4.out ok; clear ok y0 y1 y2 y3 y4 y5 y6 y7)
    | (have _t := t2; go_at_call 16; refine (HP2.out _ HK5.out.1).mono ?_; rintro e w6 ⟨q1, qc1, q2, qc2, q3, qc3, rfl, ok, how⟩; have HK7 : Hid (Below w.heap.size w (w6.alloc (.cells #[.string P.nm, .int .i64 P.a, .int .i64 P.b, .int .i64 P.c, .slice q1 P.d.length qc1, .slice q2 P.p.length qc2, .slice q3 P.o.length qc3] 26)) ∧ BxP (w6.alloc (.cells #[.string P.nm, .int .i64 P.a, .int .i64 P.b, .int .i64 P.c, .slice q1 P.d.length qc1, .slice q2 P.p.length qc2, .slice q3 P.o.length qc3] 26)) w1.heap.size P.nm P.a P.b P.c (.slice p1 P.d.length pc1) (.slice p2 P.p.length pc2) (.slice p3 P.o.length pc3) ∧ PgAt (w6.alloc (.cells #[.string P.nm, .int .i64 P.a, .int .i64 P.b, .int .i64 P.c, .slice q1 P.d.length qc1, .slice q2 P.p.length qc2, .slice q3 P.o.length qc3] 26)) P (.slice p1 P.d.length pc1) (.slice p2 P.p.length pc2) (.slice p3 P.o.length pc3)) := HKP.out _ _ _ _ _ _ (HKP.out _ _ _ _ _ _ HK5.out ok) (boxB _ _); have HQ7 : Hid ((BxP (w6.alloc (.cells #[.string P.nm, .int .i64 P.a, .int .i64 P.b, .int .i64 P.c, .slice q1 P.d.length qc1, .slice q2 P.p.length qc2, .slice q3 P.o.length qc3] 26)) w6.heap.size P.nm P.a P.b P.c (.slice q1 P.d.length qc1) (.slice q2 P.p.length qc2) (.slice q3 P.o.length qc3) ∧ OwnP (w6.alloc (.cells #[.string P.nm, .int .i64 P.a, .int .i64 P.b, .int .i64 P.c, .slice q1 P.d.length qc1, .slice q2 P.p.length qc2, .slice q3 P.o.length qc3] 26)) w5.heap.size P (.slice q1 P.d.length qc1) (.slice q2 P.p.length qc2) (.slice q3 P.o.length qc3)) ∧ (Below w5.heap.size w5 (w6.alloc (.cells #[.string P.nm, .int .i64 P.a, .int .i64 P.b, .int .i64 P.c, .slice q1 P.d.length qc1, .slice q2 P.p.length qc2, .slice q3 P.o.length qc3] 26)) ∧ w5.heap.size ≤ w6.heap.size)) := ⟨⟨BxP.new rfl _ _ _ _ _ _ _, how.below (boxB _ _)⟩, below_then ok (boxB _ _), ok.size⟩; have HLQ : Hid (OwnP w6 w5.heap.size P (.slice q1 P.d.length qc1) (.slice q2 P.p.length qc2) (.slice q3 P.o.length qc3)) := how; have HB67 : Hid (Below w6.heap.size w6 (w6.alloc (.cells #[.string P.nm, .int .i64 P.a, .int .i64 P.b, .int .i64 P.c, .slice q1 P.d.length qc1, .slice q2 P.p.length qc2, .slice q3 P.o.length qc3] 26))) := boxB _ _; obtain ⟨y0, y1, y2, y3, y4, y5, y6, y7⟩ := HK7.out.2.1; obtain ⟨z0, z1, z2, z3, z4, z5, z6, z7⟩ := HQ7.out.1.1; clear ok how t2)
    | (go_at_call 11; refine (HSA.out _ _ _ _ _ _ _ HK7.out.2.2 HQ7.out.1.2.at).mono ?_; rintro e w8 ⟨rfl, ok⟩; have HK8 : Hid (Below w.heap.size w w8 ∧ BxP w8 w1.heap.size P.nm P.a P.b P.c (.slice p1 P.d.length pc1) (.slice p2 P.p.length pc2) (.slice p3 P.o.length pc3) ∧ PgAt w8 P (.slice p1 P.d.length pc1) (.slice p2 P.p.length pc2) (.slice p3 P.o.length pc3)) := HKP.out _ _ _ _ _ _ HK7.out ok; have HQ8 : Hid ((BxP w8 w6.heap.size P.nm P.a P.b P.c (.slice q1 P.d.length qc1) (.slice q2 P.p.length qc2) (.slice q3 P.o.length qc3) ∧ OwnP w8 w5.heap.size P (.slice q1 P.d.length qc1) (.slice q2 P.p.length qc2) (.slice q3 P.o.length qc3)) ∧ Below w5.heap.size w5 w8) := ⟨HKQ.out _ _ _ _ _ _ _ HQ7.out.1 ok, below_then HQ7.out.2.1 ok⟩; have HB68 := hide3 (below_then HB67.out ok); clear ok y0 y1 y2 y3 y4 y5 y6 y7 z0 z1 z2 z3 z4 z5 z6 z7)
    | (go_at_call 16; refine (HP1.out _ HK8.out.1).mono ?_; rintro e w9 ⟨r1, rc1, r2, rc2, r3, rc3, rfl, ok, how⟩; have HK10 : Hid (Below w.heap.size w (w9.alloc (.cells #[.string P.nm, .int .i64 P.a, .int .i64 P.b, .int .i64 P.c, .slice r1 P.d.length rc1, .slice r2 P.p.length rc2, .slice r3 P.o.length rc3] 26)) ∧ BxP (w9.alloc (.cells #[.string P.nm, .int .i64 P.a, .int .i64 P.b, .int .i64 P.c, .slice r1 P.d.length rc1, .slice r2 P.p.length rc2, .slice r3 P.o.length rc3] 26)) w1.heap.size P.nm P.a P.b P.c (.slice p1 P.d.length pc1) (.slice p2 P.p.length pc2) (.slice p3 P.o.length pc3) ∧ PgAt (w9.alloc (.cells #[.string P.nm, .int .i64 P.a, .int .i64 P.b, .int .i64 P.c, .slice r1 P.d.length rc1, .slice r2 P.p.length rc2, .slice r3 P.o.length rc3] 26)) P (.slice p1 P.d.length pc1) (.slice p2 P.p.length pc2) (.slice p3 P.o.length pc3)) := HKP.out _ _ _ _ _ _ (HKP.out _ _ _ _ _ _ HK8.out ok) (boxB _ _); have HQ10 : Hid ((BxP (w9.alloc (.cells #[.string P.nm, .int .i64 P.a, .int .i64 P.b, .int .i64 P.c, .slice r1 P.d.length rc1, .slice r2 P.p.length rc2, .slice r3 P.o.length rc3] 26)) w6.heap.size P.nm P.a P.b P.c (.slice q1 P.d.length qc1) (.slice q2 P.p.length qc2) (.slice q3 P.o.length qc3) ∧ OwnP (w9.alloc (.cells #[.string P.nm, .int .i64 P.a, .int .i64 P.b, .int .i64 P.c, .slice r1 P.d.length rc1, .slice r2 P.p.length rc2, .slice r3 P.o.length rc3] 26)) w5.heap.size P (.slice q1 P.d.length qc1) (.slice q2 P.p.length qc2) (.slice q3 P.o.length qc3)) ∧ Below w5.heap.size w5 (w9.alloc (.cells #[.string P.nm, .int .i64 P.a, .int .i64 P.b, .int .i64 P.c, .slice r1 P.d.length rc1, .slice r2 P.p.length rc2, .slice r3 P.o.length rc3] 26))) := ⟨HKQ.out _ _ _ _ _ _ _ (HKQ.out _ _ _ _ _ _ _ HQ8.out.1 ok) (boxB _ _), below_then (below_then HQ8.out.2 ok) (boxB _ _)⟩; have HB69 : Hid (Below w6.heap.size w6 (w9.alloc (.cells #[.string P.nm, .int .i64 P.a, .int .i64 P.b, .int .i64 P.c, .slice r1 P.d.length rc1, .slice r2 P.p.length rc2, .slice r3 P.o.length rc3] 26))) := below_then (below_then HB68.out ok) (boxB _ _); have HR10 : Hid ((BxP (w9.alloc (.cells #[.string P.nm, .int .i64 P.a, .int .i64 P.b, .int .i64 P.c, .slice r1 P.d.length rc1, .slice r2 P.p.length rc2, .slice r3 P.o.length rc3] 26)) w9.heap.size P.nm P.a P.b P.c (.slice r1 P.d.length rc1) (.slice r2 P.p.length rc2) (.slice r3 P.o.length rc3) ∧ OwnP (w9.alloc (.cells #[.string P.nm, .int .i64 P.a, .int .i64 P.b, .int .i64 P.c, .slice r1 P.d.length rc1, .slice r2 P.p.length rc2, .slice r3 P.o.length rc3] 26)) w8.heap.size P (.slice r1 P.d.length rc1) (.slice r2 P.p.length rc2) (.slice r3 P.o.length rc3)) ∧ w8.heap.size ≤ w9.heap.size) := ⟨⟨BxP.new rfl _ _ _ _ _ _ _, how.below (boxB _ _)⟩, ok.size⟩; clear ok how))
  obtain ⟨ps, ⟨hown6, hps⟩⟩ : ∃ ps, OwnD w6 w5.heap.size (.slice q1 P.d.length qc1) ps ∧ ps.map (·.1) = P.d := by
    obtain ⟨x1, _, _, hx, _⟩ := HLQ.out
    exact ⟨x1, hx⟩
  have hown : OwnD (w9.alloc (.cells #[.string P.nm, .int .i64 P.a, .int .i64 P.b, .int .i64 P.c, .slice r1 P.d.length rc1, .slice r2 P.p.length rc2, .slice r3 P.o.length rc3] 26)) w5.heap.size (.slice q1 P.d.length qc1) ps := hown6.below (HB69.out)
  have HPL : Hid (ps.length = P.d.length) := by unfold Hid; rw [← hps, List.length_map]
  have HLT : Hid ((∀ g, (Value.slice q1 P.d.length qc1).ownBlock = some g → g < w6.heap.size) ∧ ∀ p ∈ ps, ∀ g, p.2.ownBlock = some g → g < w6.heap.size) := ⟨fun g hg => (hown6.1.lt g hg).2, fun p hp g hg => ((hown6.2 p hp).lt hg).1⟩
  have HNB : Hid (w6.heap.size < w8.heap.size) := HQ8.out.1.1.2.2.2.2.2.2.2
  have HRL : Hid (∀ i (h : i < ps.length), ps[i].1.rg.length ≤ 64) := fun i hi => HRG.out _ (by rw [← hps]; exact List.mem_map.2 ⟨_, List.getElem_mem hi, rfl⟩)
  have HI0 : Hid (InvQ w5 (w9.alloc (.cells #[.string P.nm, .int .i64 P.a, .int .i64 P.b, .int .i64 P.c, .slice r1 P.d.length rc1, .slice r2 P.p.length rc2, .slice r3 P.o.length rc3] 26)) w8.heap.size w6.heap.size P (.slice q1 P.d.length qc1) (.slice q2 P.p.length qc2) (.slice q3 P.o.length qc3) ps (w9.alloc (.cells #[.string P.nm, .int .i64 P.a, .int .i64 P.b, .int .i64 P.c, .slice r1 P.d.length rc1, .slice r2 P.p.length rc2, .slice r3 P.o.length rc3] 26))) := InvQ.start HQ10.out.2 HQ10.out.1.1 hown
  generalize hw10 : w9.alloc (.cells #[.string P.nm, .int .i64 P.a, .int .i64 P.b, .int .i64 P.c, .slice r1 P.d.length rc1, .slice r2 P.p.length rc2, .slice r3 P.o.length rc3] 26) = w10 at *
  clear hw10 hps hown hown6 HB67 HB68 HB69 HLQ HQ7 HQ8 HK2 HK3 HK4 HK7 HK8 HQ10 HMA HP1 HP2 HKN
  go_loopw [11] (fun i wr => ∃ k : Nat, k ≤ P.d.length ∧ i = .int .i64 k ∧ InvQ w5 w10 w8.heap.size w6.heap.size P (.slice q1 P.d.length qc1) (.slice q2 P.p.length qc2) (.slice q3 P.o.length qc3) ps wr) (fun i _ => P.d.length - (intOf i).toNat)
  case atStart => exact ⟨0, Nat.zero_le _, rfl, HI0.out⟩
  case round =>
    clear HI0
    obtain ⟨k, hk, rfl, hi⟩ := hrel
    have HI := hide3 hi
    obtain ⟨z0, z1, z2, z3, z4, z5, z6, z7⟩ := hi.2.1
    by_cases hlt : k < P.d.length
    · have hkp : k < ps.length := by have := HPL.out; omega
      obtain ⟨gD, capD, hu1, hBg, hrest⟩ := hi.cell hkp
      clear hrest hBg
      simp only [Value.slice.injEq] at hu1
      obtain ⟨rfl, hxx, rfl⟩ := hu1
      clear hxx
      obtain ⟨au, cu, hpv⟩ : ∃ au cu, ps[k].2 = .slice au ps[k].1.rg.length cu := by
        obtain ⟨xs, hx⟩ := hi.2.2.2 _ (List.getElem_mem hkp)
        rcases hx.2 with ⟨e, hn⟩ | ⟨g, cap, cur, e, _⟩
        · exact ⟨none, 0, by rw [e, hn]⟩
        · exact ⟨_, cap, e⟩
      have hl64 := HRL.out k hkp
      have hgD : gD < w6.heap.size := HLT.out.1 gD rfl
      have HPV := hide3 hpv
      clear hi hpv
      go_wp2_with fail
      go_loopw [12] (fun j wq => ∃ m : Nat, m ≤ ps[k].1.rg.length ∧ j = .int .i64 m ∧ InvQ w5 w10 w8.heap.size w6.heap.size P (.slice (some ⟨gD, 0, none⟩) P.d.length qc1) (.slice q2 P.p.length qc2) (.slice q3 P.o.length qc3) ps wq) (fun j _ => ps[k].1.rg.length - (intOf j).toNat)
      case atStart => exact ⟨0, Nat.zero_le _, rfl, HI.out⟩
      case round =>
        clear HI z0 z1 z2 z3 z4 z5 z6 z7
        obtain ⟨m, hm, rfl, hi⟩ := hrel
        have HI := hide3 hi
        obtain ⟨z0, z1, z2, z3, z4, z5, z6, z7⟩ := hi.2.1
        obtain ⟨gD', capD', hu1, _, ⟨s0, d0⟩, d1, df⟩ := hi.cell hkp
        simp only [Value.slice.injEq, Option.some.injEq, Addr.mk.injEq, and_true] at hu1
        obtain ⟨rfl, hxx, rfl⟩ := hu1
        clear hxx
        rw [HPV.out] at d1
        by_cases hml : m < ps[k].1.rg.length
        · obtain ⟨gS, capS, hpe, hcl⟩ := hi.span (List.getElem_mem hkp) hml
          have hgS : gS < w6.heap.size := HLT.out.2 _ (List.getElem_mem hkp) gS (by rw [hpe]; rfl)
          have HOB : Hid (ps[k].2.ownBlock = some gS) := by rw [hpe]; rfl
          rw [HPV.out] at hpe
          simp only [Value.slice.injEq] at hpe
          obtain ⟨rfl, hxx, rfl⟩ := hpe
          clear hxx
          obtain ⟨⟨x0, r0⟩, f0⟩ := hcl 0 (by decide)
          obtain ⟨⟨x1, r1⟩, f1⟩ := hcl 1 (by decide)
          obtain ⟨⟨x2, r2⟩, f2⟩ := hcl 2 (by decide)
          obtain ⟨⟨x3, r3⟩, f3⟩ := hcl 3 (by decide)
          obtain ⟨⟨x4, r4⟩, f4⟩ := hcl 4 (by decide)
          obtain ⟨⟨x5, r5⟩, f5⟩ := hcl 5 (by decide)
          rw [Nat.add_zero] at r0 f0
          have HMEM := hide3 (List.getElem_mem hkp)
          clear hi hcl HPV
          generalize ps[k].1.rg.length = lu at *
          go_wp2
          refine ⟨⟨m + 1, by omega, by go_num, ?_⟩, by simp [intOf]; omega⟩
          have st := fun (w' : World) (hw : InvQ w5 w10 w8.heap.size w6.heap.size P (.slice (some ⟨gD, 0, none⟩) P.d.length qc1) (.slice q2 P.p.length qc2) (.slice q3 P.o.length qc3) ps w') (j : Nat) (u : Value) => hw.setS HMEM.out HOB.out hgS HNB.out j u
          exact st _ (st _ (st _ (st _ (st _ (st _ HI.out _ _) _ _) _ _) _ _) _ _) _ _
        · have HN : Hid (InvQ w5 w10 w8.heap.size w6.heap.size P (.slice (some ⟨gD, 0, none⟩) P.d.length qc1) (.slice q2 P.p.length qc2) (.slice q3 P.o.length qc3) ps (wr.setCell ⟨gD, k * 2, none⟩ (.string ⟨#[63]⟩))) := HI.out.setN rfl hgD HNB.out hkp _
          have hme : m = ps[k].1.rg.length := by omega
          subst hme
          clear hi
          go_wp2
          exact ⟨⟨k + 1, by omega, by go_num, HN.out⟩, by simp [intOf]; omega⟩
    · obtain rfl : k = P.d.length := by omega
      have HKE : Hid (Below w.heap.size w wr ∧ BxP wr w1.heap.size P.nm P.a P.b P.c (.slice p1 P.d.length pc1) (.slice p2 P.p.length pc2) (.slice p3 P.o.length pc3) ∧ PgAt wr P (.slice p1 P.d.length pc1) (.slice p2 P.p.length pc2) (.slice p3 P.o.length pc3)) := HKP.out _ _ _ _ _ _ HK5.out HI.out.1.1
      have HRE : Hid (BxP wr w9.heap.size P.nm P.a P.b P.c (.slice r1 P.d.length rc1) (.slice r2 P.p.length rc2) (.slice r3 P.o.length rc3) ∧ PgAt wr P (.slice r1 P.d.length rc1) (.slice r2 P.p.length rc2) (.slice r3 P.o.length rc3)) := by
        have hq : ∀ i, wr.cell? ⟨w9.heap.size, i, none⟩ = w10.cell? ⟨w9.heap.size, i, none⟩ := fun i => World.cell?_of_block (a := ⟨w9.heap.size, i, none⟩) (HI.out.1.2.1 _ HR10.out.2)
        obtain ⟨h0, h1, h2, h3, h4, h5, h6, h7⟩ := HR10.out.1.1
        exact ⟨⟨by rw [hq]; exact h0, by rw [hq]; exact h1, by rw [hq]; exact h2, by rw [hq]; exact h3, by rw [hq]; exact h4, by rw [hq]; exact h5, by rw [hq]; exact h6, Nat.lt_of_lt_of_le h7 HI.out.1.2.2⟩, (HR10.out.1.2.of HI.out.1.2.1).at⟩
      clear hi HI
      obtain ⟨y0, y1, y2, y3, y4, y5, y6, y7⟩ := HKE.out.2.1
      go_wp2_with (first
        | (go_at_call 14; refine (HPR.out _ _ _ _ HKE.out.1 HKE.out.2.2).mono ?_; rintro e w11 ⟨rfl, ok⟩; have HK11 : Hid (Below w.heap.size w w11 ∧ BxP w11 w1.heap.size P.nm P.a P.b P.c (.slice p1 P.d.length pc1) (.slice p2 P.p.length pc2) (.slice p3 P.o.length pc3) ∧ PgAt w11 P (.slice p1 P.d.length pc1) (.slice p2 P.p.length pc2) (.slice p3 P.o.length pc3)) := HKP.out _ _ _ _ _ _ HKE.out ok; have HR11 : Hid (BxP w11 w9.heap.size P.nm P.a P.b P.c (.slice r1 P.d.length rc1) (.slice r2 P.p.length rc2) (.slice r3 P.o.length rc3) ∧ PgAt w11 P (.slice r1 P.d.length rc1) (.slice r2 P.p.length rc2) (.slice r3 P.o.length rc3)) := ⟨keepBxP _ _ _ _ _ _ _ _ _ _ HRE.out.1 ok, HRE.out.2.below ok⟩; clear ok y0 y1 y2 y3 y4 y5 y6 y7 z0 z1 z2 z3 z4 z5 z6 z7; obtain ⟨y0, y1, y2, y3, y4, y5, y6, y7⟩ := HK11.out.2.1; obtain ⟨z0, z1, z2, z3, z4, z5, z6, z7⟩ := HR11.out.1)
        | (go_at_call 11; refine (HSA.out _ _ _ _ _ _ _ HK11.out.2.2 HR11.out.2).mono ?_; rintro e w12 ⟨rfl, ok⟩; have HB12 := hide3 (below_then HK11.out.1 ok); clear ok))
      go_ret
      exact ⟨by first | rfl | simp, HB12.out⟩

theorem packAgain_walk (t : ByteArray) {w : World} (h : Env w ∧ FL w) : Calls Tryz.prog 6 #[.string t] w fun e w' => e = .returned (.bool true) ∧ Below w.heap.size w w' := by
  by_cases h0 : parPE t = 0
  · exact packAgain_yes t h.1 h.2 h0
  · exact packAgain_no t h.1 h.2 h0
end Go.Proofs.YtmkhhkhoinpfeaaGreatDoor
namespace Go.Proofs.YtmkhhkhoinpfeaaGreatDoor
open Go.RowKit
set_option maxRecDepth 100000

theorem rAll_rg (w : World) :
    Calls Tryz.prog 36 #[] w fun e w' => ∃ v, e = .returned v ∧ SpansR w' v allR ∧ Below w.heap.size w w' := by
  have H0 : Hid (∀ w1, Calls Tryz.prog 62 #[.int .i64 0] w1 fun e w' => e = .returned (.agg #[.int .i64 0, .int .i64 0, .int .i64 0]) ∧ Below w1.heap.size w1 w') := rat_any 0
  have H9 : Hid (∀ w1, Calls Tryz.prog 62 #[.int .i64 999999999] w1 fun e w' => e = .returned (.agg #[.int .i64 999, .int .i64 999, .int .i64 999]) ∧ Below w1.heap.size w1 w') := rat_any 999999999
  have HS : Hid (∀ w1, Below w.heap.size w w1 → SpansR (w1.alloc (.cells #[.int .i64 0, .int .i64 0, .int .i64 0, .int .i64 999, .int .i64 999, .int .i64 999] 40)) (.slice (some ⟨w1.heap.size, 0, none⟩) 1 1) allR ∧ Below w.heap.size w (w1.alloc (.cells #[.int .i64 0, .int .i64 0, .int .i64 0, .int .i64 999, .int .i64 999, .int .i64 999] 40))) := fun w1 hb => spans_one hb 0 999999999 rfl
  have t1 : True := trivial
  go_enter Tryz.func36, Tryz.ntmps36
  go_wp2_with (first
    | (have _t := t1; go_at_call 62; refine (H0.out _).mono ?_; rintro e w1 ⟨rfl, ok1⟩; clear t1; have HO1 := hide3 ok1; clear ok1)
    | (go_at_call 62; refine (H9.out _).mono ?_; rintro e w2 ⟨rfl, ok2⟩; have HO2 := hide3 (below_then HO1.out ok2); clear ok2))
  go_ret
  exact ⟨_, rfl, HS.out _ HO2.out⟩

theorem alt_known : altR ⟨#[94, 49, 46, 50, 46, 51]⟩ = some [(1002003, 1999999)] := by decide +kernel
theorem pieces_known : piecesB ⟨#[94, 49, 46, 50, 46, 51]⟩ ⟨#[124, 124]⟩ = [⟨#[94, 49, 46, 50, 46, 51]⟩] := by decide +kernel
theorem pieces_known2 : piecesB ⟨#[94, 49, 46, 50, 46, 51]⟩ ⟨#[32]⟩ = [⟨#[94, 49, 46, 50, 46, 51]⟩] := by decide +kernel
theorem print_known : printR [(1002003, 1999999)] = ⟨#[62, 61, 49, 46, 50, 46, 51, 32, 60, 61, 49, 46, 57, 57, 57, 46, 57, 57, 57]⟩ := by decide +kernel
theorem rg_known : RangeR [(1002003, 1999999)] := ⟨by decide, by decide, by decide, trivial⟩
theorem in_known : inL (([(1002003, 1999999)] : Rg).map spR) 1 9 0 = true := by
  rw [in_rg rg_known (by decide)]
  exact ⟨by decide, Or.inl (by decide)⟩
theorem ascii_of {l : List UInt8} (h : (l.all fun b => decide (b.toNat < 128)) = true) : ∀ (j : Nat) b, l[j]? = some b → b.toNat < 128 := by
  intro j b hj
  have := List.all_eq_true.1 h b (List.mem_of_getElem? hj)
  simpa using this
theorem plain_known : PlainT ⟨#[94, 49, 46, 50, 46, 51]⟩ := by
  unfold PlainT
  rw [pieces_known]
  intro a ha
  rw [List.mem_singleton] at ha
  subst ha
  rw [pieces_known2]
  intro p hp _
  rw [List.mem_singleton] at hp
  subst hp
  exact Or.inr (ascii_of (by decide))

end Go.Proofs.YtmkhhkhoinpfeaaGreatDoor
namespace Go.Proofs.YtmkhhkhoinpfeaaGreatDoor
open Go.ChangeShapes Go.WideShapes Go.ChangeAt Go.RowKit
set_option maxRecDepth 100000

theorem star : "*" ++ "errors.errorString" = "*errors.errorString" := by decide

theorem row_err (u : TypeId) (h : Tryz.prog.typeName? 3 u = some "*errors.errorString") : u = 177 :=
  typeName_ptr_named (nm := "errors.errorString") (by rw [star]; kernel_rfl) (by kernel_rfl) (by decide) u (by rw [star]; exact h)

theorem max_cell {W : World} (h : W.ShapedOpen Tryz.prog) : ∃ m, W.cell? ⟨3, 0, none⟩ = some (.int .i64 m) :=
  cell_of_shapedOpen_int (t := 3) (zero := #[.int .i64 0]) h (by decide +kernel) (by kernel_rfl) rfl (by kernel_rfl) (by kernel_rfl) Tryz.underlying3

theorem env_of {W : World} (hsh : W.ShapedOpen Tryz.prog) (h : laidMet Tryz.prog [("math/bits.deBruijn32tab", Rows.laid_math_bits_deBruijn32tab), ("math/bits.deBruijn64tab", Rows.laid_math_bits_deBruijn64tab), ("internal/strconv.uint64pow10", Rows.laid_internal_strconv_uint64pow10), ("strconv.ErrRange", Rows.laid_strconv_ErrRange), ("strconv.ErrSyntax", Rows.laid_strconv_ErrSyntax)] W) : Env W := by
  have hT := tab_is h
  have h3 := laidMet.tail (laidMet.tail (laidMet.tail h))
  have h4 := laidMet.tail h3
  obtain ⟨a1, s1, hv1, _⟩ := laid_sentinel h3 (g := 5) (ti := 75) (te := 179) (ts := 9) (by kernel_rfl) (by kernel_rfl) Tryz.underlying75 row_err Tryz.underlying177 Tryz.underlying179 rfl rfl Tryz.underlying9 (by kernel_rfl) (by kernel_rfl)
  obtain ⟨a2, s2, hv2, _⟩ := laid_sentinel h4 (g := 4) (ti := 75) (te := 179) (ts := 9) (by kernel_rfl) (by kernel_rfl) Tryz.underlying75 row_err Tryz.underlying177 Tryz.underlying179 rfl rfl Tryz.underlying9 (by kernel_rfl) (by kernel_rfl)
  have c1 := World.var?_cell (g := 5) (by kernel_rfl) hv1 0
  have c2 := World.var?_cell (g := 4) (by kernel_rfl) hv2 0
  exact { max := max_cell hsh, tab := hT, syn := ⟨_, _, by simpa using c2⟩, rng := ⟨_, _, by simpa using c1⟩ }
end Go.Proofs.YtmkhhkhoinpfeaaGreatDoor
namespace Go.Proofs.YtmkhhkhoinpfeaaGreatDoor
open Go.ChangeShapes Go.WideShapes Go.ChangeAt Go.RowKit
set_option maxRecDepth 100000

theorem cellsSp : Tryz.prog.cellsOf 40 = 6 := by kernel_rfl

theorem ints_of {H : Type} {enc : TypeId × Value → H} {W : World} {base : Nat} {spare : Nat → Bool} {held : Bool} {n : Nat} {cs : List Value} {x : DataW H × List MemPlace} (h : DataW.trod enc Tryz.prog W base spare held n 23 cs = some x) :
    ∃ a b c, cs[0]? = some (.int .i64 a) ∧ cs[1]? = some (.int .i64 b) ∧ cs[2]? = some (.int .i64 c) ∧ x.1 = .agg [.lit (.int .i64 a), .lit (.int .i64 b), .lit (.int .i64 c)] := by
  have hs : Tryz.prog.underlying 23 = some (.struct (Tryz.prog.fieldsOf 23)) := by kernel_rfl
  obtain ⟨xs, n', _, hx, _, hxl, hf⟩ := DataW.trod_struct hs h
  have hfz : (Tryz.prog.fieldsOf 23).size = 3 := by kernel_rfl
  have ints : ∀ i off, ((Tryz.prog.fieldsOf 23)[i]?).map (fun f => (f.type, f.offset)) = some (3, off) → i < 3 → ∃ k, cs[off]? = some (.int .i64 k) ∧ xs[i]? = some (.lit (.int .i64 k), []) := by
    intro i off hfd hi
    obtain ⟨f, h1, h2, h3⟩ := field_at hfd
    have hr := hf i f h1
    rw [h2, h3, cellsInt, List.getElem?_eq_getElem (by omega : i < xs.length)] at hr
    obtain ⟨k, e1, e2, wk⟩ := DataW.trod_int Tryz.underlying3 hr
    exact ⟨k, take_one e1, by rw [List.getElem?_eq_getElem (by omega : i < xs.length), e2]⟩
  obtain ⟨a, a0, x0⟩ := ints 0 0 (by kernel_rfl) (by decide)
  obtain ⟨b, a1, x1⟩ := ints 1 1 (by kernel_rfl) (by decide)
  obtain ⟨c, a2, x2⟩ := ints 2 2 (by kernel_rfl) (by decide)
  refine ⟨a, b, c, a0, a1, a2, ?_⟩
  rw [hx]
  obtain ⟨y0, y1, y2, rfl⟩ := list3 (l := xs) (by omega)
  simp at x0 x1 x2
  subst x0 x1 x2
  rfl

theorem span_read {H : Type} {enc : TypeId × Value → H} {W : World} {base : Nat} {spare : Nat → Bool} {held : Bool} {n : Nat} {g o : Nat} {cs : List Value} {x : DataW H × List MemPlace} (hc : W.cells? base ⟨g, o, none⟩ 6 = some cs) (h : DataW.trod enc Tryz.prog W base spare held n 40 cs = some x) : ∃ s, SpAt W g o s := by
  have hs : Tryz.prog.underlying 40 = some (.struct (Tryz.prog.fieldsOf 40)) := by kernel_rfl
  obtain ⟨xs, n', _, _, _, hxl, hf⟩ := DataW.trod_struct hs h
  have hsz : (Tryz.prog.fieldsOf 40).size = 2 := by kernel_rfl
  obtain ⟨_, _, hq⟩ := World.cells?_some hc
  have vers : ∀ i off, ((Tryz.prog.fieldsOf 40)[i]?).map (fun f => (f.type, f.offset)) = some (23, off) → i < 2 → ∃ a b c, cs[off]? = some (.int .i64 a) ∧ cs[off + 1]? = some (.int .i64 b) ∧ cs[off + 2]? = some (.int .i64 c) := by
    intro i off hfd hi
    obtain ⟨f, h1, h2, h3⟩ := field_at hfd
    have hr := hf i f h1
    rw [h2, h3, cellsVer, List.getElem?_eq_getElem (by omega : i < xs.length)] at hr
    obtain ⟨a, b, c, e0, e1, e2, _⟩ := ints_of hr
    simp at e0 e1 e2
    exact ⟨a, b, c, e0, e1, e2⟩
  obtain ⟨a, b, c, a0, a1, a2⟩ := vers 0 0 (by kernel_rfl) (by decide)
  obtain ⟨x, y, z, a3, a4, a5⟩ := vers 1 3 (by kernel_rfl) (by decide)
  have ad : ∀ i, (⟨g, o, none⟩ : Addr).add i = ⟨g, o + i, none⟩ := fun i => by unfold Addr.add; split <;> simp_all
  have q0 := hq 0 (by decide)
  have q1 := hq 1 (by decide)
  have q2 := hq 2 (by decide)
  have q3 := hq 3 (by decide)
  have q4 := hq 4 (by decide)
  have q5 := hq 5 (by decide)
  rw [ad] at q0 q1 q2 q3 q4 q5
  exact ⟨⟨a, b, c, x, y, z⟩, by rw [← a0, ← q0]; rfl, by rw [← a1, ← q1], by rw [← a2, ← q2], by rw [← a3, ← q3], by rw [← a4, ← q4], by rw [← a5, ← q5]⟩

theorem list_of {P : Nat → Sp → Prop} : ∀ {n : Nat}, (∀ i, i < n → ∃ s, P i s) → ∃ L : List Sp, L.length = n ∧ ∀ i (h : i < L.length), P i L[i]
  | 0, _ => ⟨[], rfl, fun i h => by simp at h⟩
  | n + 1, h => by
    obtain ⟨L, hl, hP⟩ := list_of (n := n) fun i hi => h i (by omega)
    obtain ⟨s, hs⟩ := h n (by omega)
    refine ⟨L ++ [s], by simp [hl], fun i hi => ?_⟩
    by_cases hin : i < L.length
    · rw [List.getElem_append_left hin]; exact hP i hin
    · have : i = n := by simp at hi; omega
      subst this
      simpa [hl] using hs

/-- A list of spans that came in. -/
theorem open_spans {H : Type} {enc : TypeId × Value → H} {W : World} {base fuel : Nat} {held : Bool} {a : Option Addr} {len cap : Nat} {x : DataW H × List MemPlace} (h : DataW.trod enc Tryz.prog W base (fun _ => true) held fuel 36 [.slice a len cap] = some x) :
    ∃ L : List Sp, SpansC W (.slice a len cap) L := by
  rcases Go.Deep.open_slice Tryz.underlying36 h with ⟨hcs, _⟩ | ⟨ad, l, c, m, n, D, Pl, hcs, _, hl, _, hm, hx, hel⟩
  · simp only [List.cons.injEq, Value.slice.injEq, and_true] at hcs
    obtain ⟨rfl, rfl, rfl⟩ := hcs
    exact ⟨[], ⟨_, _, rfl, Or.inl rfl⟩, _, _, _, rfl, Nat.le_refl _⟩
  · simp only [List.cons.injEq, Value.slice.injEq, and_true] at hcs
    obtain ⟨rfl, rfl, rfl⟩ := hcs
    rcases Nat.eq_zero_or_pos len with h0 | h0
    · subst h0
      exact ⟨[], ⟨_, _, rfl, Or.inl rfl⟩, _, _, _, rfl, hl⟩
    · have hmm : len ≤ m := by rw [hm]; simp; exact hl
      rw [cellsSp] at hel
      obtain ⟨g, off, spot⟩ := ad
      obtain ⟨cs0, hc0, _⟩ := hel 0 (by omega)
      obtain ⟨_, hln, hq⟩ := World.cells?_some hc0
      have hcell := hq 0 (by decide)
      rw [List.getElem?_eq_getElem (by omega : 0 < cs0.length)] at hcell
      have hspot : spot = none := by simpa [Addr.add] using World.cell?_spot hcell
      subst hspot
      have ad2 : ∀ o i, (⟨g, o, none⟩ : Addr).add i = ⟨g, o + i, none⟩ := fun o i => by unfold Addr.add; split <;> simp_all
      obtain ⟨L, hL, hP⟩ := list_of (P := fun i s => SpAt W g (off + i * 6) s) (n := len) fun i hi => by
        obtain ⟨cs, hc, ht⟩ := hel i (by omega)
        rw [ad2] at hc
        exact span_read hc ht
      subst hL
      refine ⟨L, ⟨_, _, rfl, Or.inr ⟨g, off, rfl, ?_, hP⟩⟩, _, _, _, rfl, hl⟩
      have := cell_in hcell
      rw [ad2, ad2] at this; exact this

/-- A variable of three ints that is listed first. -/
theorem ver_laid {W : World} {nm : String} {a b c : Int} {r : List (String × DataW Unit)} {g : Nat} (hg : Tryz.prog.globalNamed nm = some g) (hty : (Tryz.prog.globals[g]?).map (·.type) = some 23)
    (h : laidMet Tryz.prog ((nm, .agg [.lit (.int .i64 a), .lit (.int .i64 b), .lit (.int .i64 c)]) :: r) W) :
    W.cell? ⟨g, 0, none⟩ = some (.int .i64 a) ∧ W.cell? ⟨g, 1, none⟩ = some (.int .i64 b) ∧ W.cell? ⟨g, 2, none⟩ = some (.int .i64 c) := by
  obtain ⟨ps, ⟨g', t', cs, fuel, p, q, hg', ht', hvar, hd, _, _⟩, _⟩ := h
  obtain rfl := Option.some.inj (hg.symm.trans hg')
  obtain rfl := Option.some.inj (hty.symm.trans ht')
  obtain ⟨x, y, z, e0, e1, e2, hx⟩ := ints_of hd
  simp at hx
  obtain ⟨rfl, rfl, rfl⟩ := hx
  have c0 := World.var?_cell hg hvar 0
  have c1 := World.var?_cell hg hvar 1
  have c2 := World.var?_cell hg hvar 2
  exact ⟨by rw [c0]; simpa using e0, by rw [c1]; simpa using e1, by rw [c2]; simpa using e2⟩

/-- What the rows of this layer list. -/
abbrev laid3 : List (String × DataW Unit) := [("math/bits.deBruijn32tab", Rows.laid_math_bits_deBruijn32tab), ("math/bits.deBruijn64tab", Rows.laid_math_bits_deBruijn64tab), ("internal/strconv.uint64pow10", Rows.laid_internal_strconv_uint64pow10), ("unicode/utf8.acceptRanges", Rows.laid_unicode_utf8_acceptRanges), ("strconv.ErrRange", Rows.laid_strconv_ErrRange), ("strconv.ErrSyntax", Rows.laid_strconv_ErrSyntax), ("halyard/span.first", Rows.laid_halyard_span_first), ("halyard/span.last", Rows.laid_halyard_span_last), ("unicode/utf8.first", Rows.laid_unicode_utf8_first)]
theorem env3_of {W : World} (hsh : W.ShapedOpen Tryz.prog) (h : laidMet Tryz.prog laid3 W) : Env W ∧ FL W := by
  have hT := tab_is h
  have h3 := laidMet.tail (laidMet.tail (laidMet.tail (laidMet.tail h)))
  have h4 := laidMet.tail h3
  have h5 := laidMet.tail h4
  have h6 := laidMet.tail h5
  obtain ⟨a1, s1, hv1, _⟩ := laid_sentinel h3 (g := 5) (ti := 75) (te := 179) (ts := 9) (by kernel_rfl) (by kernel_rfl) Tryz.underlying75 row_err Tryz.underlying177 Tryz.underlying179 rfl rfl Tryz.underlying9 (by kernel_rfl) (by kernel_rfl)
  obtain ⟨a2, s2, hv2, _⟩ := laid_sentinel h4 (g := 4) (ti := 75) (te := 179) (ts := 9) (by kernel_rfl) (by kernel_rfl) Tryz.underlying75 row_err Tryz.underlying177 Tryz.underlying179 rfl rfl Tryz.underlying9 (by kernel_rfl) (by kernel_rfl)
  have c1 := World.var?_cell (g := 5) (by kernel_rfl) hv1 0
  have c2 := World.var?_cell (g := 4) (by kernel_rfl) hv2 0
  have f1 := ver_laid (g := 0) (by kernel_rfl) (by kernel_rfl) h5
  have f2 := ver_laid (g := 1) (by kernel_rfl) (by kernel_rfl) h6
  exact ⟨{ max := max_cell hsh, tab := hT, syn := ⟨_, _, by simpa using c2⟩, rng := ⟨_, _, by simpa using c1⟩ }, f1, f2, cell_in f1.1, cell_in f2.1⟩
end Go.Proofs.YtmkhhkhoinpfeaaGreatDoor
namespace Go.Proofs.YtmkhhkhoinpfeaaGreatDoor
open Go.ChangeShapes Go.WideShapes Go.ChangeAt Go.RowKit
open Go.ChangeMaps (open_string shut_string)
set_option maxRecDepth 100000

theorem packAgain_lifted (os : Os) (started : os.Started) (H : Type) (enc : TypeId × Value → H) :
    ReturnsInHanded {} Tryz.checked os 6 .any (fun w args => (Rows.packAgainSpec.pre enc Tryz.prog Tryz.f6 [] false w args ∧ laidMetH Tryz.prog Rows.packAgainRow.laid w) ∧ sizedMet enc Tryz.prog Tryz.f6 (OpenSpec.ofChange Rows.packAgainSpec) false w args)
      (Rows.packAgainSpec.post enc Tryz.prog Tryz.f6 false true false false) := by
  refine wrap_laid (C := Tryz.checked) (l := Rows.packAgainRow.laid) own started (by kernel_rfl) Tryz.func6
    (ChangeSpec.witness_shaped (enc := enc) (C := Tryz.checked) (os := os) (X := fun w _ => laidMetH Tryz.prog Rows.packAgainRow.laid w) false (World.laidAll Tryz.prog os Rows.packAgainRow.laid) #[.string ByteArray.empty] 8 (World.laidAll_os _ _ _)
      (World.shaped_of_ZipB (by kernel_rfl) (by kernel_rfl)) (by kernel_rfl) (by kernel_rfl) (by kernel_rfl)
      (by rw [MakeChecks.laidMetH_plain _ _ _ (by kernel_rfl)]; exact laidMet_laidAll _ (by kernel_rfl) (by kernel_rfl))) ?_
  intro W base args ds gs before hval0 hW _ hsh hlaid
  have hval : ∀ (j : Nat) t v, Tryz.f6.params[j]? = some t → args[j]? = some v → Value.okWide Tryz.prog W .any base t v := hval0
  have hW' := hW
  obtain ⟨p, q, hA0, hV, rfl, _, _⟩ := hW
  have hA : DataW.TrodAll enc Tryz.prog W 0 (fun _ => true) true Tryz.f6.params.toList args.toList ds p := hA0
  rw [Tryz.params6] at hA hval
  rw [MakeChecks.laidMetH_plain _ _ _ (by kernel_rfl)] at hlaid
  obtain ⟨v0, vs0, d0, ds0, p0, q0, hargs, rfl, rfl, h0, r0⟩ := trodAll_cons hA
  obtain ⟨rfl, rfl, rfl⟩ := trodAll_nil r0
  obtain rfl : args = #[v0] := by cases args; simp_all
  obtain ⟨rfl, rfl⟩ := trodVars_none hV
  obtain ⟨s0, rfl, rfl, rfl, w0⟩ := open_string Tryz.underlying9 (hval 0 9 v0 rfl rfl) h0
  clear hA0 hval0
  refine (packAgain_walk s0 (env3_of hsh hlaid)).mono fun e W' ⟨he, bel⟩ => ?_
  subst he
  exact ⟨_, rfl, _, _, _, [], _, [], hW', trodAll_mk1 (shut_bool Tryz.underlying4 _), (trodAll_cons_mk (shut_string Tryz.underlying9 w0) trodAll_mk0), rfl, bel.frame _, fun h => by cases h⟩

theorem packAgain_said : Rows.PackAgainSaid :=
  OpenClaim.holds_of_wide 6 Tryz.f6 rfl rfl rfl rfl rfl rfl rfl ⟨rfl, rfl, rfl, rfl, rfl⟩ rfl rfl rfl rfl rfl (by kernel_rfl) Tryz.func6 (by kernel_rfl)
    (of_decide_eq_true (by kernel_rfl)) (by unfold Func.isWrapper; first | (rw [if_pos (by decide +kernel)]; kernel_rfl) | (rw [if_neg (by decide +kernel)]; exact ⟨rfl, rfl⟩))
    (fun os started H enc _ => packAgain_lifted os started H enc)

theorem packAgain_holds : Rows.PackAgainCardSaid :=
  Claim7.holds_tied_plain_at .later [] _ _ _ _ packAgain_said (fun _ h => by cases h) (by kernel_rfl) (fun _ h => by cases h) packAgain_row_tie rfl ⟨rfl, rfl⟩ (by kernel_rfl) rfl
    (fun f fn hf hfn => by
      obtain rfl : f = 6 := Option.some.inj ((show Tryz.prog.funcNamed Rows.packAgainRow.func = some 6 by kernel_rfl).symm.trans hf) |>.symm
      obtain rfl : fn = Tryz.f6 := (Option.some.inj (Tryz.func6.symm.trans hfn)).symm
      exact ⟨by kernel_rfl, fun j t ht => by
        rw [Tryz.params6] at ht
        have hm : t ∈ [9] := by simpa using Array.mem_of_getElem? ht
        have hall : ([9].all fun u => !Tryz.prog.wantsStandIn u) = true := by kernel_rfl
        exact (show Tryz.prog.wantsStandIn t = false by simpa using List.all_eq_true.1 hall t hm)⟩)
    (by kernel_rfl)
#print axioms packAgain_holds
end Go.Proofs.YtmkhhkhoinpfeaaGreatDoor
