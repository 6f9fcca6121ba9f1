/- Tc3, laid in one text. -/
import Derived.Test.YtcclfaioicklaaaGreatDoorShelfN
import Derived.Test.YtcclfaioicklaaaGreatDoorMg13
namespace Go.Proofs.YtcclfaioicklaaaGreatDoor
open Go.Shelf Go.RowKit Go.Lib Go.Sort
set_option maxRecDepth 100000

set_option maxHeartbeats 3200000 in
theorem cmpSpans_gd (a b c x y z a' b' c' x' y' z' : Int) (w : World) : Calls Tryz.prog 171 #[.agg #[.int .i64 a, .int .i64 b, .int .i64 c, .int .i64 x, .int .i64 y, .int .i64 z], .agg #[.int .i64 a', .int .i64 b', .int .i64 c', .int .i64 x', .int .i64 y', .int .i64 z']] w fun e w' => e = .returned (.int .i64 (or2 (cmpV a b c a' b' c') (cmpV x y z x' y' z'))) ∧ Gd w w' := by
  have HC1 : Hid (∀ W, Calls Tryz.prog 136 #[.agg #[.int .i64 a, .int .i64 b, .int .i64 c], .agg #[.int .i64 a', .int .i64 b', .int .i64 c']] W fun e w' => e = .returned (.int .i64 (cmpV a b c a' b' c')) ∧ Gd W w') := Compare_gd a b c a' b' c'
  have HC2 : Hid (∀ W, Calls Tryz.prog 136 #[.agg #[.int .i64 x, .int .i64 y, .int .i64 z], .agg #[.int .i64 x', .int .i64 y', .int .i64 z']] W fun e w' => e = .returned (.int .i64 (cmpV x y z x' y' z')) ∧ Gd W w') := Compare_gd x y z x' y' z'
  generalize cmpV a b c a' b' c' = r1 at *
  generalize cmpV x y z x' y' z' = r2 at *
  have HOR : Hid (∀ W : World, Calls Tryz.prog 46 #[.slice (some ⟨W.heap.size, 0, none⟩) 2 2] (W.alloc (.cells #[.int .i64 r1, .int .i64 r2] 3)) fun e w' => e = .returned (.int .i64 (or2 r1 r2)) ∧ w' = (W.alloc (.cells #[.int .i64 r1, .int .i64 r2] 3))) := fun W => or_two (by simp) (by simp)
  generalize or2 r1 r2 = rr at *
  have HG0 : Hid (Gd w ((w.alloc (.cells #[.int .i64 a, .int .i64 b, .int .i64 c, .int .i64 x, .int .i64 y, .int .i64 z] 148)).alloc (.cells #[.int .i64 a', .int .i64 b', .int .i64 c', .int .i64 x', .int .i64 y', .int .i64 z'] 148)).drew) := (Gd.box2 _ _ _).trans (Gd.drew _)
  have HCE : Hid (∀ W : World, Gd ((w.alloc (.cells #[.int .i64 a, .int .i64 b, .int .i64 c, .int .i64 x, .int .i64 y, .int .i64 z] 148)).alloc (.cells #[.int .i64 a', .int .i64 b', .int .i64 c', .int .i64 x', .int .i64 y', .int .i64 z'] 148)).drew W → (W.cell? ⟨w.heap.size, 0, none⟩ = some (.int .i64 a) ∧ W.cell? ⟨w.heap.size, 1, none⟩ = some (.int .i64 b) ∧ W.cell? ⟨w.heap.size, 2, none⟩ = some (.int .i64 c) ∧ W.cell? ⟨w.heap.size, 3, none⟩ = some (.int .i64 x) ∧ W.cell? ⟨w.heap.size, 4, none⟩ = some (.int .i64 y) ∧ W.cell? ⟨w.heap.size, 5, none⟩ = some (.int .i64 z)) ∧ W.cell? ⟨w.heap.size + 1, 0, none⟩ = some (.int .i64 a') ∧ W.cell? ⟨w.heap.size + 1, 1, none⟩ = some (.int .i64 b') ∧ W.cell? ⟨w.heap.size + 1, 2, none⟩ = some (.int .i64 c') ∧ W.cell? ⟨w.heap.size + 1, 3, none⟩ = some (.int .i64 x') ∧ W.cell? ⟨w.heap.size + 1, 4, none⟩ = some (.int .i64 y') ∧ W.cell? ⟨w.heap.size + 1, 5, none⟩ = some (.int .i64 z')) := fun W hg => by
    have hb := hg.below
    have q : ∀ (g i : Nat), g < w.heap.size + 2 → W.cell? ⟨g, i, none⟩ = ((w.alloc (.cells #[.int .i64 a, .int .i64 b, .int .i64 c, .int .i64 x, .int .i64 y, .int .i64 z] 148)).alloc (.cells #[.int .i64 a', .int .i64 b', .int .i64 c', .int .i64 x', .int .i64 y', .int .i64 z'] 148)).cell? ⟨g, i, none⟩ := fun g i hg => hb.cell (p := ⟨g, i, none⟩) (by simpa using hg)
    refine ⟨⟨?_, ?_, ?_, ?_, ?_, ?_⟩, ?_, ?_, ?_, ?_, ?_, ?_⟩ <;> rw [q _ _ (by omega)] <;> simp
  obtain ⟨⟨k0, k1, k2, k3, k4, k5⟩, j0, j1, j2, j3, j4, j5⟩ := HCE.out _ (Gd.refl _)
  go_enter Tryz.func171, Tryz.ntmps171
  go_wp2_with fail
  generalize ((w.alloc (.cells #[.int .i64 a, .int .i64 b, .int .i64 c, .int .i64 x, .int .i64 y, .int .i64 z] 148)).alloc (.cells #[.int .i64 a', .int .i64 b', .int .i64 c', .int .i64 x', .int .i64 y', .int .i64 z'] 148)) = W0 at *
  go_region_held3 (fun w' => w'.cell? ⟨w.heap.size, 0, none⟩ = some (.int .i64 a) ∧ w'.cell? ⟨w.heap.size, 1, none⟩ = some (.int .i64 b) ∧ w'.cell? ⟨w.heap.size, 2, none⟩ = some (.int .i64 c) ∧ w'.cell? ⟨w.heap.size, 3, none⟩ = some (.int .i64 x) ∧ w'.cell? ⟨w.heap.size, 4, none⟩ = some (.int .i64 y) ∧ w'.cell? ⟨w.heap.size, 5, none⟩ = some (.int .i64 z) ∧ w'.cell? ⟨w.heap.size + 1, 0, none⟩ = some (.int .i64 a') ∧ w'.cell? ⟨w.heap.size + 1, 1, none⟩ = some (.int .i64 b') ∧ w'.cell? ⟨w.heap.size + 1, 2, none⟩ = some (.int .i64 c') ∧ w'.cell? ⟨w.heap.size + 1, 3, none⟩ = some (.int .i64 x') ∧ w'.cell? ⟨w.heap.size + 1, 4, none⟩ = some (.int .i64 y') ∧ w'.cell? ⟨w.heap.size + 1, 5, none⟩ = some (.int .i64 z')) (go_keep) (first
    | (have _t := HG2; go_at_call 46; refine (HOR.out w2).mono ?_; rintro e w3 ⟨rfl, rfl⟩)
    | (have _t := HG1; go_at_call 136; refine (HC2.out _).mono ?_; rintro e w2 ⟨rfl, hg⟩; have HG2 := hide3 (HG1.out.trans hg); obtain ⟨⟨k0, k1, k2, k3, k4, k5⟩, j0, j1, j2, j3, j4, j5⟩ := HCE.out _ HG2.out; clear hg)
    | (go_at_call 136; refine (HC1.out _).mono ?_; rintro e w1 ⟨rfl, hg⟩; have HG1 := hide3 hg; obtain ⟨⟨k0, k1, k2, k3, k4, k5⟩, j0, j1, j2, j3, j4, j5⟩ := HCE.out _ hg; clear hg))
  all_goals go_wp2
  all_goals go_ret
  all_goals exact ⟨rfl, (HG0.out.trans HG2.out).trans (Gd.box _ _)⟩
theorem SpansAt.el {w : World} {v : Value} {L : List Sp} (h : SpansAt w v L) : ∃ ad cap, v = .slice ad L.length cap ∧ ∀ i (_ : i < L.length), ∃ g o, ad = some ⟨g, o, none⟩ ∧ SpIn w g (o + i * 6) L[i] := by
  obtain ⟨ad, cap, hv, hl⟩ := h
  refine ⟨ad, cap, hv, fun i hi => ?_⟩
  rcases hl with rfl | ⟨g, o, ha, hg, hs⟩
  · cases hi
  · exact ⟨g, o, ha, hs i hi, hg⟩
theorem DepsAt.el {w : World} {v : Value} {L : List Dp} (h : DepsAt w v L) : ∃ ad cap, v = .slice ad L.length cap ∧ ∀ i (_ : i < L.length), ∃ g o, ad = some ⟨g, o, none⟩ ∧ ∃ u, DpIn w g (o + i * 2) L[i] u := by
  obtain ⟨ad, cap, hv, _, hl⟩ := h
  refine ⟨ad, cap, hv, fun i hi => ?_⟩
  rcases hl with rfl | ⟨g, o, ha, hg, hs⟩
  · cases hi
  · exact ⟨g, o, ha, hs i hi⟩

theorem SpIn.below {w w' : World} {g o : Nat} {x : Sp} (h : SpIn w g o x) (hb : Below w.heap.size w w') : SpIn w' g o x := keepSp _ _ _ _ _ h hb

set_option maxHeartbeats 3200000 in
theorem cmpRg_gd {A B : List Sp} {va vb : Value} {w : World} (ha : SpansAt w va A) (hb : SpansAt w vb B) (hA : A.length ≤ 9223372036854775807) :
    Calls Tryz.prog 170 #[va, vb, .func (.func 171) #[] #[]] w fun e w' => e = .returned (.int .i64 (cmpL cmpSp A B)) ∧ Gd w w' := by
  obtain ⟨ad, ca, rfl, hea⟩ := ha.el
  obtain ⟨bd, cb, rfl, heb⟩ := hb.el
  have HA : Hid (∀ w1, Gd w w1 → ∀ i (_ : i < A.length), ∃ g o, ad = some ⟨g, o, none⟩ ∧ SpIn w1 g (o + i * 6) A[i]) := fun w1 hg i hi => by
    obtain ⟨g, o, e, h⟩ := hea i hi
    exact ⟨g, o, e, h.below hg.below⟩
  have HB : Hid (∀ w1, Gd w w1 → ∀ i (_ : i < B.length), ∃ g o, bd = some ⟨g, o, none⟩ ∧ SpIn w1 g (o + i * 6) B[i]) := fun w1 hg i hi => by
    obtain ⟨g, o, e, h⟩ := heb i hi
    exact ⟨g, o, e, h.below hg.below⟩
  clear ha hb hea heb
  go_enter Tryz.func170, Tryz.ntmps170
  go_wp2_with fail
  go_loopw [13] (fun i wr => ∃ k : Nat, k ≤ A.length ∧ i = .int .i64 k ∧ Gd w wr ∧ cmpL cmpSp A B = cmpL cmpSp (A.drop k) (B.drop k)) (fun i _ => A.length - (intOf i).toNat)
  case atStart => exact ⟨0, Nat.zero_le _, rfl, Gd.refl _, rfl⟩
  case round =>
    obtain ⟨k, hk, rfl, hgd, hcm⟩ := hrel
    have HCM := hide3 hcm
    have HG := hide3 hgd
    clear hcm
    by_cases hlt : k < A.length
    · obtain ⟨g, o, rfl, hA0⟩ := HA.out wr hgd k hlt
      by_cases hlb : k < B.length
      · obtain ⟨h, u, rfl, hB0⟩ := HB.out wr hgd k hlb
        have HST := hide3 (HCM.out.trans (cmpL_at (f := cmpSp) hlt hlb))
        have hge : decide (B.length ≤ k) = false := decide_eq_false (by omega)
        have HCK : Hid (∀ w1, Gd wr w1 → Calls Tryz.prog 171 #[.agg #[.int .i64 A[k].a, .int .i64 A[k].b, .int .i64 A[k].c, .int .i64 A[k].x, .int .i64 A[k].y, .int .i64 A[k].z], .agg #[.int .i64 B[k].a, .int .i64 B[k].b, .int .i64 B[k].c, .int .i64 B[k].x, .int .i64 B[k].y, .int .i64 B[k].z]] w1 fun e w' => e = .returned (.int .i64 (cmpSp A[k] B[k])) ∧ Gd w1 w') := fun w1 _ => cmpSpans_gd _ _ _ _ _ _ _ _ _ _ _ _ w1
        obtain ⟨⟨r0, r1, r2, r3, r4, r5⟩, r6⟩ := SpIn.below hB0 (boxB wr (.cells #[.int .i64 A[k].a, .int .i64 A[k].b, .int .i64 A[k].c, .int .i64 A[k].x, .int .i64 A[k].y, .int .i64 A[k].z] 148))
        obtain ⟨⟨p0, p1, p2, p3, p4, p5⟩, p6⟩ := hA0
        clear hB0
        generalize cmpSp A[k] B[k] = z at *
        generalize A[k].a = a1 at *
        generalize A[k].b = a2 at *
        generalize A[k].c = a3 at *
        generalize A[k].x = a4 at *
        generalize A[k].y = a5 at *
        generalize A[k].z = a6 at *
        generalize B[k].a = b1 at *
        generalize B[k].b = b2 at *
        generalize B[k].c = b3 at *
        generalize B[k].x = b4 at *
        generalize B[k].y = b5 at *
        generalize B[k].z = b6 at *
        by_cases hz0 : z = 0
        · have HR : Hid (cmpL cmpSp A B = cmpL cmpSp (A.drop (k + 1)) (B.drop (k + 1))) := by
            have e := HST.out
            unfold or2 at e
            rw [if_pos hz0] at e
            exact e
          rw [hz0] at HCK
          clear HST HCM hz0 hgd
          go_wp2_with (go_at_call 171; refine (HCK.out _ (Gd.box2 _ _ _)).mono ?_; rintro e w1 ⟨rfl, hg1⟩; have HG1 := hide3 (HG.out.trans ((Gd.box2 _ _ _).trans hg1)); clear hg1)
          exact ⟨⟨k + 1, by omega, by go_num, HG1.out, HR.out⟩, by simp [intOf]; omega⟩
        · have HR : Hid (cmpL cmpSp A B = z) := by
            have e := HST.out
            unfold or2 at e
            rw [if_neg hz0] at e
            exact e
          have hz1 : (z == 0) = false := by simpa using hz0
          clear HST HCM hz0 hgd
          go_wp2_with (go_at_call 171; refine (HCK.out _ (Gd.box2 _ _ _)).mono ?_; rintro e w1 ⟨rfl, hg1⟩; have HG1 := hide3 (HG.out.trans ((Gd.box2 _ _ _).trans hg1)); clear hg1)
          go_ret
          exact ⟨ret_int HR.out.symm, HG1.out⟩
      · have HR := hide3 (HCM.out.trans (cmpL_left (f := cmpSp) hlt (by omega)))
        have hge : decide (B.length ≤ k) = true := decide_eq_true (by omega)
        obtain ⟨⟨p0, p1, p2, p3, p4, p5⟩, p6⟩ := hA0
        clear HCM hgd
        go_wp2
        go_ret
        exact ⟨ret_int HR.out.symm, HG.out.trans (Gd.box _ _)⟩
    · have hke : k = A.length := by omega
      subst hke
      by_cases hlb : A.length < B.length
      · have HR := hide3 (HCM.out.trans (cmpL_right (f := cmpSp) (Nat.le_refl _) hlb))
        clear HCM hgd
        go_wp2
        go_ret
        exact ⟨ret_int HR.out.symm, HG.out⟩
      · have HR := hide3 (HCM.out.trans (cmpL_both (f := cmpSp) (Nat.le_refl _) (by omega)))
        clear HCM hgd
        go_wp2
        go_ret
        exact ⟨ret_int HR.out.symm, HG.out⟩

end Go.Proofs.YtcclfaioicklaaaGreatDoor
