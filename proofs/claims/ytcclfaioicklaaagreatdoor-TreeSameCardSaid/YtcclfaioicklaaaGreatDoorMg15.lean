/- Tc4, Tc5, Ts1, laid in one text. -/
import Derived.Test.YtcclfaioicklaaaGreatDoorMg14
namespace Go.Proofs.YtcclfaioicklaaaGreatDoor
open Go.Shelf Go.RowKit Go.Lib Go.Sort
set_option maxRecDepth 100000

set_option maxHeartbeats 3200000 in
theorem cmpDep_gd {d e : Dp} {u v : Value} {w : World} (hu : SpansAt w u d.rg) (hv : SpansAt w v e.rg) (hz : d.rg.length ≤ 9223372036854775807) : Calls Tryz.prog 158 #[.agg #[.string d.nm, u], .agg #[.string e.nm, v]] w fun x w' => x = .returned (.int .i64 (cmpDp d e)) ∧ Gd w w' := by
  have HSC : Hid (∀ W, Calls Tryz.prog 47 #[.string d.nm, .string e.nm] W fun x w' => x = .returned (.int .i64 (cmpS d.nm e.nm)) ∧ w' = W) := fun W => Tryz.strings_Compare d.nm e.nm W
  have HC1 : Hid (∀ W, Below w.heap.size w W → Calls Tryz.prog 170 #[u, v, .func (.func 171) #[] #[]] W fun x w' => x = .returned (.int .i64 (cmpL cmpSp d.rg e.rg)) ∧ Gd W w') := fun W hb => cmpRg_gd (hu.below hb) (hv.below hb) hz
  have HDE : Hid (cmpDp d e = or2 (cmpS d.nm e.nm) (cmpL cmpSp d.rg e.rg)) := rfl
  rw [HDE.out]
  obtain ⟨ad, ca, rfl⟩ := hu.sl
  obtain ⟨bd, cb, rfl⟩ := hv.sl
  clear hu hv hz HDE
  generalize cmpS d.nm e.nm = r1 at *
  generalize cmpL cmpSp d.rg e.rg = r2 at *
  generalize d.rg.length = n1 at *
  generalize e.rg.length = n2 at *
  generalize d.nm = s at *
  generalize e.nm = t at *
  have HOR : Hid (∀ W : World, Calls Tryz.prog 46 #[.slice (some ⟨W.heap.size, 0, none⟩) 2 2] (W.alloc (.cells #[.int .i64 r1, .int .i64 r2] 3)) fun e w' => e = .returned (.int .i64 (or2 r1 r2)) ∧ w' = (W.alloc (.cells #[.int .i64 r1, .int .i64 r2] 3))) := fun W => or_two (by simp) (by simp)
  generalize or2 r1 r2 = rr at *
  have HG0 : Hid (Gd w ((w.alloc (.cells #[.string s, .slice ad n1 ca] 113)).alloc (.cells #[.string t, .slice bd n2 cb] 113)).drew) := (Gd.box2 _ _ _).trans (Gd.drew _)
  have HCE : Hid (∀ W : World, Gd ((w.alloc (.cells #[.string s, .slice ad n1 ca] 113)).alloc (.cells #[.string t, .slice bd n2 cb] 113)).drew W → (W.cell? ⟨w.heap.size, 0, none⟩ = some (.string s) ∧ W.cell? ⟨w.heap.size, 1, none⟩ = some (.slice ad n1 ca)) ∧ W.cell? ⟨w.heap.size + 1, 0, none⟩ = some (.string t) ∧ W.cell? ⟨w.heap.size + 1, 1, none⟩ = some (.slice bd n2 cb)) := fun W hg => by
    have hb := hg.below
    have q : ∀ (g i : Nat), g < w.heap.size + 2 → W.cell? ⟨g, i, none⟩ = ((w.alloc (.cells #[.string s, .slice ad n1 ca] 113)).alloc (.cells #[.string t, .slice bd n2 cb] 113)).cell? ⟨g, i, none⟩ := fun g i hg => hb.cell (p := ⟨g, i, none⟩) (by simpa using hg)
    refine ⟨⟨?_, ?_⟩, ?_, ?_⟩ <;> rw [q _ _ (by omega)] <;> simp
  obtain ⟨⟨k0, k1⟩, j0, j1⟩ := HCE.out _ (Gd.refl _)
  go_enter Tryz.func158, Tryz.ntmps158
  go_wp2_with fail
  generalize ((w.alloc (.cells #[.string s, .slice ad n1 ca] 113)).alloc (.cells #[.string t, .slice bd n2 cb] 113)) = W0 at *
  go_region_held3 (fun w' => w'.cell? ⟨w.heap.size, 0, none⟩ = some (.string s) ∧ w'.cell? ⟨w.heap.size, 1, none⟩ = some (.slice ad n1 ca) ∧ w'.cell? ⟨w.heap.size + 1, 0, none⟩ = some (.string t) ∧ w'.cell? ⟨w.heap.size + 1, 1, none⟩ = some (.slice bd n2 cb)) (go_keep) (first
    | (have _t := HG2; go_at_call 46; refine (HOR.out w2).mono ?_; rintro e w3 ⟨rfl, rfl⟩)
    | (go_at_call 170; refine (HC1.out _ HG0.out.below).mono ?_; rintro e w2 ⟨rfl, hg⟩; have HG2 := hide3 hg; obtain ⟨⟨k0, k1⟩, j0, j1⟩ := HCE.out _ HG2.out; clear hg)
    | (go_at_call 47; refine (HSC.out _).mono ?_; rintro e w1 ⟨rfl, rfl⟩))
  all_goals go_wp2
  all_goals go_ret
  all_goals exact ⟨rfl, (HG0.out.trans HG2.out).trans (Gd.box _ _)⟩

set_option maxHeartbeats 3200000 in
theorem cmpDl_gd {A B : List Dp} {va vb : Value} {w : World} (ha : DepsAt w va A) (hb : DepsAt w vb B) (hA : A.length ≤ 9223372036854775807) :
    Calls Tryz.prog 157 #[va, vb, .func (.func 158) #[] #[]] w fun e w' => e = .returned (.int .i64 (cmpL cmpDp A B)) ∧ Gd w w' := by
  obtain ⟨ad, ca, rfl, hea⟩ := ha.el
  obtain ⟨bd, cb, rfl, heb⟩ := hb.el
  have HA : Hid (∀ w1, Gd w w1 → ∀ i (_ : i < A.length), ∃ g o, ad = some ⟨g, o, none⟩ ∧ ∃ x, DpIn w1 g (o + i * 2) A[i] x) := fun w1 hg i hi => by
    obtain ⟨g, o, e, h⟩ := hea i hi
    exact ⟨g, o, e, h.imp fun x q => q.below hg.below⟩
  have HB : Hid (∀ w1, Gd w w1 → ∀ i (_ : i < B.length), ∃ g o, bd = some ⟨g, o, none⟩ ∧ ∃ x, DpIn w1 g (o + i * 2) B[i] x) := fun w1 hg i hi => by
    obtain ⟨g, o, e, h⟩ := heb i hi
    exact ⟨g, o, e, h.imp fun x q => q.below hg.below⟩
  clear ha hb hea heb
  go_enter Tryz.func157, Tryz.ntmps157
  go_wp2_with fail
  go_loopw [13] (fun i wr => ∃ k : Nat, k ≤ A.length ∧ i = .int .i64 k ∧ Gd w wr ∧ cmpL cmpDp A B = cmpL cmpDp (A.drop k) (B.drop k)) (fun i _ => A.length - (intOf i).toNat)
  case atStart => exact ⟨0, Nat.zero_le _, rfl, Gd.refl _, rfl⟩
  case round =>
    obtain ⟨k, hk, rfl, hgd, hcm⟩ := hrel
    have HCM := hide3 hcm
    have HG := hide3 hgd
    clear hcm
    by_cases hlt : k < A.length
    · obtain ⟨g, o, rfl, hA0⟩ := HA.out wr hgd k hlt
      by_cases hlb : k < B.length
      · obtain ⟨h, u, rfl, hB0⟩ := HB.out wr hgd k hlb
        have HST := hide3 (HCM.out.trans (cmpL_at (f := cmpDp) hlt hlb))
        have hge : decide (B.length ≤ k) = false := decide_eq_false (by omega)
        obtain ⟨xa, p0, p1, ⟨⟨pu, _⟩, pz⟩, p3⟩ := hA0
        obtain ⟨xb, q0, q1, ⟨⟨qu, _⟩, _⟩, q3⟩ := hB0
        have HCK : Hid (∀ w1, Gd wr w1 → Calls Tryz.prog 158 #[.agg #[.string A[k].nm, xa], .agg #[.string B[k].nm, xb]] w1 fun e w' => e = .returned (.int .i64 (cmpDp A[k] B[k])) ∧ Gd w1 w') := fun w1 h1 => cmpDep_gd (pu.below h1.below) (qu.below h1.below) pz
        obtain ⟨xad, xac, rfl⟩ := pu.sl
        obtain ⟨xbd, xbc, rfl⟩ := qu.sl
        clear pu qu pz
        generalize cmpDp A[k] B[k] = z at *
        generalize A[k].rg.length = na at *
        generalize B[k].rg.length = nb at *
        generalize A[k].nm = s at *
        generalize B[k].nm = t at *
        have r0 : (wr.alloc (.cells #[.string s, .slice xad na xac] 113)).cell? ⟨h, u + k * 2, none⟩ = some (.string t) := ((boxB wr (.cells #[.string s, .slice xad na xac] 113)).cell (p := ⟨h, u + k * 2, none⟩) q3).trans q0
        have r1 : (wr.alloc (.cells #[.string s, .slice xad na xac] 113)).cell? ⟨h, u + k * 2 + 1, none⟩ = some (.slice xbd nb xbc) := ((boxB wr (.cells #[.string s, .slice xad na xac] 113)).cell (p := ⟨h, u + k * 2 + 1, none⟩) q3).trans q1
        by_cases hz0 : z = 0
        · have HR : Hid (cmpL cmpDp A B = cmpL cmpDp (A.drop (k + 1)) (B.drop (k + 1))) := by
            have e := HST.out
            unfold or2 at e
            rw [if_pos hz0] at e
            exact e
          rw [hz0] at HCK
          clear HST HCM hz0 hgd
          go_wp2_with (go_at_call 158; refine (HCK.out _ (Gd.box2 _ _ _)).mono ?_; rintro e w1 ⟨rfl, hg1⟩; have HG1 := hide3 (HG.out.trans ((Gd.box2 _ _ _).trans hg1)); clear hg1)
          exact ⟨⟨k + 1, by omega, by go_num, HG1.out, HR.out⟩, by simp [intOf]; omega⟩
        · have HR : Hid (cmpL cmpDp A B = z) := by
            have e := HST.out
            unfold or2 at e
            rw [if_neg hz0] at e
            exact e
          have hz1 : (z == 0) = false := by simpa using hz0
          clear HST HCM hz0 hgd
          go_wp2_with (go_at_call 158; refine (HCK.out _ (Gd.box2 _ _ _)).mono ?_; rintro e w1 ⟨rfl, hg1⟩; have HG1 := hide3 (HG.out.trans ((Gd.box2 _ _ _).trans hg1)); clear hg1)
          go_ret
          exact ⟨ret_int HR.out.symm, HG1.out⟩
      · have HR := hide3 (HCM.out.trans (cmpL_left (f := cmpDp) hlt (by omega)))
        have hge : decide (B.length ≤ k) = true := decide_eq_true (by omega)
        obtain ⟨xa, p0, p1, ⟨⟨pu, _⟩, _⟩, p3⟩ := hA0
        obtain ⟨xad, xac, rfl⟩ := pu.sl
        generalize A[k].rg.length = na at *
        generalize A[k].nm = s at *
        clear HCM hgd pu
        go_wp2
        go_ret
        exact ⟨ret_int HR.out.symm, HG.out.trans (Gd.box _ _)⟩
    · have hke : k = A.length := by omega
      subst hke
      by_cases hlb : A.length < B.length
      · have HR := hide3 (HCM.out.trans (cmpL_right (f := cmpDp) (Nat.le_refl _) hlb))
        clear HCM hgd
        go_wp2
        go_ret
        exact ⟨ret_int HR.out.symm, HG.out⟩
      · have HR := hide3 (HCM.out.trans (cmpL_both (f := cmpDp) (Nat.le_refl _) (by omega)))
        clear HCM hgd
        go_wp2
        go_ret
        exact ⟨ret_int HR.out.symm, HG.out⟩

theorem dCmp_gd {A B : List Dp} {va vb : Value} {w : World} (ha : DepsAt w va A) (hb : DepsAt w vb B) (hA : A.length ≤ 9223372036854775807) :
    Calls Tryz.prog 137 #[va, vb] w fun e w' => e = .returned (.int .i64 (cmpL cmpDp A B)) ∧ Gd w w' := by
  have HC := hide3 (cmpDl_gd ha hb hA)
  obtain ⟨ad, ca, rfl⟩ := ha.sl
  obtain ⟨bd, cb, rfl⟩ := hb.sl
  clear ha hb hA
  generalize A.length = na at *
  generalize B.length = nb at *
  go_enter Tryz.func137, Tryz.ntmps137
  go_wp2_with (go_at_call 157; refine HC.out.mono ?_; rintro x w1 ⟨rfl, ok⟩)
  go_ret
  exact ⟨rfl, ok⟩

set_option maxHeartbeats 6400000 in
theorem cmpPack_gd {P Q : Pg} {v1 v2 v3 u1 u2 u3 : Value} {w : World} (hp : PgAt w P v1 v2 v3) (hq : PgAt w Q u1 u2 u3) (hz : PgZ P) : Calls Tryz.prog 104 #[.agg #[.string P.nm, .int .i64 P.a, .int .i64 P.b, .int .i64 P.c, v1, v2, v3], .agg #[.string Q.nm, .int .i64 Q.a, .int .i64 Q.b, .int .i64 Q.c, u1, u2, u3]] w fun x w' => x = .returned (.int .i64 (cmpPg P Q)) ∧ Gd w w' := by
  have HSC : Hid (∀ W, Calls Tryz.prog 47 #[.string P.nm, .string Q.nm] W fun e w' => e = .returned (.int .i64 (cmpS P.nm Q.nm)) ∧ w' = W) := fun W => Tryz.strings_Compare P.nm Q.nm W
  have HVC : Hid (∀ W, Calls Tryz.prog 136 #[.agg #[.int .i64 P.a, .int .i64 P.b, .int .i64 P.c], .agg #[.int .i64 Q.a, .int .i64 Q.b, .int .i64 Q.c]] W fun e w' => e = .returned (.int .i64 (cmpV P.a P.b P.c Q.a Q.b Q.c)) ∧ Gd W w') := Compare_gd _ _ _ _ _ _
  have HD1 : Hid (∀ W, Below w.heap.size w W → Calls Tryz.prog 137 #[v1, u1] W fun x w' => x = .returned (.int .i64 (cmpL cmpDp P.d Q.d)) ∧ Gd W w') := fun W hb => dCmp_gd (hp.1.below hb) (hq.1.below hb) hz.1
  have HD2 : Hid (∀ W, Below w.heap.size w W → Calls Tryz.prog 137 #[v2, u2] W fun x w' => x = .returned (.int .i64 (cmpL cmpDp P.p Q.p)) ∧ Gd W w') := fun W hb => dCmp_gd (hp.2.1.below hb) (hq.2.1.below hb) hz.2.1
  have HD3 : Hid (∀ W, Below w.heap.size w W → Calls Tryz.prog 137 #[v3, u3] W fun x w' => x = .returned (.int .i64 (cmpL cmpDp P.o Q.o)) ∧ Gd W w') := fun W hb => dCmp_gd (hp.2.2.below hb) (hq.2.2.below hb) hz.2.2
  have HPE : Hid (cmpPg P Q = or5 (cmpS P.nm Q.nm) (cmpV P.a P.b P.c Q.a Q.b Q.c) (cmpL cmpDp P.d Q.d) (cmpL cmpDp P.p Q.p) (cmpL cmpDp P.o Q.o)) := rfl
  rw [HPE.out]
  obtain ⟨a1, c1, rfl⟩ := hp.1.sl
  obtain ⟨a2, c2, rfl⟩ := hp.2.1.sl
  obtain ⟨a3, c3, rfl⟩ := hp.2.2.sl
  obtain ⟨b1, d1, rfl⟩ := hq.1.sl
  obtain ⟨b2, d2, rfl⟩ := hq.2.1.sl
  obtain ⟨b3, d3, rfl⟩ := hq.2.2.sl
  clear hp hq hz HPE
  obtain ⟨s, a, b, c, ld, lp, lo⟩ := P
  obtain ⟨t, x, y, z, md, mp, mo⟩ := Q
  simp only at *
  generalize cmpS s t = r1 at *
  generalize cmpV a b c x y z = r2 at *
  generalize cmpL cmpDp ld md = r3 at *
  generalize cmpL cmpDp lp mp = r4 at *
  generalize cmpL cmpDp lo mo = r5 at *
  generalize ld.length = n1 at *
  generalize lp.length = n2 at *
  generalize lo.length = n3 at *
  generalize md.length = m1 at *
  generalize mp.length = m2 at *
  generalize mo.length = m3 at *
  have HOR : Hid (∀ W : World, Calls Tryz.prog 46 #[.slice (some ⟨W.heap.size, 0, none⟩) 5 5] (W.alloc (.cells #[.int .i64 r1, .int .i64 r2, .int .i64 r3, .int .i64 r4, .int .i64 r5] 3)) fun e w' => e = .returned (.int .i64 (or5 r1 r2 r3 r4 r5)) ∧ w' = (W.alloc (.cells #[.int .i64 r1, .int .i64 r2, .int .i64 r3, .int .i64 r4, .int .i64 r5] 3))) := fun W => by
    have h := or_any (w := W.alloc (.cells #[.int .i64 r1, .int .i64 r2, .int .i64 r3, .int .i64 r4, .int .i64 r5] 3)) (g := W.heap.size) [r1, r2, r3, r4, r5] (by simp) (fun i hi => by
      rcases (show i = 0 ∨ i = 1 ∨ i = 2 ∨ i = 3 ∨ i = 4 by simp at hi; omega) with rfl | rfl | rfl | rfl | rfl <;> simp)
    have e5 : orL [r1, r2, r3, r4, r5] = or5 r1 r2 r3 r4 r5 := by simp only [orL, or2_0, or5]
    rw [e5] at h
    exact h
  generalize or5 r1 r2 r3 r4 r5 = rr at *
  have HG0 : Hid (Gd w ((w.alloc (.cells #[.string s, .int .i64 a, .int .i64 b, .int .i64 c, .slice a1 n1 c1, .slice a2 n2 c2, .slice a3 n3 c3] 44)).alloc (.cells #[.string t, .int .i64 x, .int .i64 y, .int .i64 z, .slice b1 m1 d1, .slice b2 m2 d2, .slice b3 m3 d3] 44)).drew) := (Gd.box2 _ _ _).trans (Gd.drew _)
  have HCE : Hid (∀ W : World, Gd ((w.alloc (.cells #[.string s, .int .i64 a, .int .i64 b, .int .i64 c, .slice a1 n1 c1, .slice a2 n2 c2, .slice a3 n3 c3] 44)).alloc (.cells #[.string t, .int .i64 x, .int .i64 y, .int .i64 z, .slice b1 m1 d1, .slice b2 m2 d2, .slice b3 m3 d3] 44)).drew W → (W.cell? ⟨w.heap.size, 0, none⟩ = some (.string s) ∧ W.cell? ⟨w.heap.size, 1, none⟩ = some (.int .i64 a) ∧ W.cell? ⟨w.heap.size, 2, none⟩ = some (.int .i64 b) ∧ W.cell? ⟨w.heap.size, 3, none⟩ = some (.int .i64 c) ∧ W.cell? ⟨w.heap.size, 4, none⟩ = some (.slice a1 n1 c1) ∧ W.cell? ⟨w.heap.size, 5, none⟩ = some (.slice a2 n2 c2) ∧ W.cell? ⟨w.heap.size, 6, none⟩ = some (.slice a3 n3 c3)) ∧ W.cell? ⟨w.heap.size + 1, 0, none⟩ = some (.string t) ∧ W.cell? ⟨w.heap.size + 1, 1, none⟩ = some (.int .i64 x) ∧ W.cell? ⟨w.heap.size + 1, 2, none⟩ = some (.int .i64 y) ∧ W.cell? ⟨w.heap.size + 1, 3, none⟩ = some (.int .i64 z) ∧ W.cell? ⟨w.heap.size + 1, 4, none⟩ = some (.slice b1 m1 d1) ∧ W.cell? ⟨w.heap.size + 1, 5, none⟩ = some (.slice b2 m2 d2) ∧ W.cell? ⟨w.heap.size + 1, 6, none⟩ = some (.slice b3 m3 d3)) := fun W hg => by
    have hb := hg.below
    have q : ∀ (g i : Nat), g < w.heap.size + 2 → W.cell? ⟨g, i, none⟩ = ((w.alloc (.cells #[.string s, .int .i64 a, .int .i64 b, .int .i64 c, .slice a1 n1 c1, .slice a2 n2 c2, .slice a3 n3 c3] 44)).alloc (.cells #[.string t, .int .i64 x, .int .i64 y, .int .i64 z, .slice b1 m1 d1, .slice b2 m2 d2, .slice b3 m3 d3] 44)).cell? ⟨g, i, none⟩ := fun g i hg => hb.cell (p := ⟨g, i, none⟩) (by simpa using hg)
    refine ⟨⟨?_, ?_, ?_, ?_, ?_, ?_, ?_⟩, ?_, ?_, ?_, ?_, ?_, ?_, ?_⟩ <;> rw [q _ _ (by omega)] <;> simp
  obtain ⟨⟨k0, k1, k2, k3, k4, k5, k6⟩, j0, j1, j2, j3, j4, j5, j6⟩ := HCE.out _ (Gd.refl _)
  go_enter Tryz.func104, Tryz.ntmps104
  go_wp2_with fail
  generalize ((w.alloc (.cells #[.string s, .int .i64 a, .int .i64 b, .int .i64 c, .slice a1 n1 c1, .slice a2 n2 c2, .slice a3 n3 c3] 44)).alloc (.cells #[.string t, .int .i64 x, .int .i64 y, .int .i64 z, .slice b1 m1 d1, .slice b2 m2 d2, .slice b3 m3 d3] 44)) = W0 at *
  go_region_held3 (fun w' => w'.cell? ⟨w.heap.size, 0, none⟩ = some (.string s) ∧ w'.cell? ⟨w.heap.size, 1, none⟩ = some (.int .i64 a) ∧ w'.cell? ⟨w.heap.size, 2, none⟩ = some (.int .i64 b) ∧ w'.cell? ⟨w.heap.size, 3, none⟩ = some (.int .i64 c) ∧ w'.cell? ⟨w.heap.size, 4, none⟩ = some (.slice a1 n1 c1) ∧ w'.cell? ⟨w.heap.size, 5, none⟩ = some (.slice a2 n2 c2) ∧ w'.cell? ⟨w.heap.size, 6, none⟩ = some (.slice a3 n3 c3) ∧ w'.cell? ⟨w.heap.size + 1, 0, none⟩ = some (.string t) ∧ w'.cell? ⟨w.heap.size + 1, 1, none⟩ = some (.int .i64 x) ∧ w'.cell? ⟨w.heap.size + 1, 2, none⟩ = some (.int .i64 y) ∧ w'.cell? ⟨w.heap.size + 1, 3, none⟩ = some (.int .i64 z) ∧ w'.cell? ⟨w.heap.size + 1, 4, none⟩ = some (.slice b1 m1 d1) ∧ w'.cell? ⟨w.heap.size + 1, 5, none⟩ = some (.slice b2 m2 d2) ∧ w'.cell? ⟨w.heap.size + 1, 6, none⟩ = some (.slice b3 m3 d3)) (go_keep) (first
    | (have _t := HG5; go_at_call 46; refine (HOR.out w5).mono ?_; rintro e w6 ⟨rfl, rfl⟩)
    | (have _t := HG4; go_at_call 137; refine (HD3.out _ (HG0.out.trans HG4.out).below).mono ?_; rintro e w5 ⟨rfl, hg⟩; have HG5 := hide3 (HG4.out.trans hg); obtain ⟨⟨k0, k1, k2, k3, k4, k5, k6⟩, j0, j1, j2, j3, j4, j5, j6⟩ := HCE.out _ HG5.out; clear hg)
    | (have _t := HG3; go_at_call 137; refine (HD2.out _ (HG0.out.trans HG3.out).below).mono ?_; rintro e w4 ⟨rfl, hg⟩; have HG4 := hide3 (HG3.out.trans hg); obtain ⟨⟨k0, k1, k2, k3, k4, k5, k6⟩, j0, j1, j2, j3, j4, j5, j6⟩ := HCE.out _ HG4.out; clear hg)
    | (have _t := HG2; go_at_call 137; refine (HD1.out _ (HG0.out.trans HG2.out).below).mono ?_; rintro e w3 ⟨rfl, hg⟩; have HG3 := hide3 (HG2.out.trans hg); obtain ⟨⟨k0, k1, k2, k3, k4, k5, k6⟩, j0, j1, j2, j3, j4, j5, j6⟩ := HCE.out _ HG3.out; clear hg)
    | (go_at_call 136; refine (HVC.out _).mono ?_; rintro e w2 ⟨rfl, hg⟩; have HG2 := hide3 hg; obtain ⟨⟨k0, k1, k2, k3, k4, k5, k6⟩, j0, j1, j2, j3, j4, j5, j6⟩ := HCE.out _ HG2.out; clear hg)
    | (go_at_call 47; refine (HSC.out _).mono ?_; rintro e w1 ⟨rfl, rfl⟩))
  all_goals go_wp2
  all_goals go_ret
  all_goals exact ⟨rfl, (HG0.out.trans HG5.out).trans (Gd.box _ _)⟩

end Go.Proofs.YtcclfaioicklaaaGreatDoor
namespace Go.Proofs.YtcclfaioicklaaaGreatDoor
open Go.Shelf Go.RowKit Go.Lib Go.Sort
set_option maxRecDepth 100000

set_option maxHeartbeats 3200000 in
theorem byPath_gd {d e : Dr} {u v1 v2 v3 x y1 y2 y3 : Value} {w : World} (hu : PathAt w u d.pa) (hp : PgAt w d.pk v1 v2 v3) (hx : PathAt w x e.pa) (hq : PgAt w e.pk y1 y2 y3) (hn : d.pa.length ≤ 9223372036854775807) (hz : PgZ d.pk) :
    Calls Tryz.prog 76 #[.agg #[u, .string d.pk.nm, .int .i64 d.pk.a, .int .i64 d.pk.b, .int .i64 d.pk.c, v1, v2, v3, .int .i64 d.nd], .agg #[x, .string e.pk.nm, .int .i64 e.pk.a, .int .i64 e.pk.b, .int .i64 e.pk.c, y1, y2, y3, .int .i64 e.nd]] w fun r w' => r = .returned (.int .i64 (cmpK (keyD d) (keyD e))) ∧ Gd w w' := by
  have HCP : Hid (∀ W, Below w.heap.size w W → Calls Tryz.prog 103 #[u, x] W fun r w' => r = .returned (.int .i64 (cmpL cmpS d.pa e.pa)) ∧ w' = W) := fun W hb => cmpP_any (hu.below hb) (hx.below hb) hn
  have HPK : Hid (∀ W, Below w.heap.size w W → Calls Tryz.prog 104 #[.agg #[.string d.pk.nm, .int .i64 d.pk.a, .int .i64 d.pk.b, .int .i64 d.pk.c, v1, v2, v3], .agg #[.string e.pk.nm, .int .i64 e.pk.a, .int .i64 e.pk.b, .int .i64 e.pk.c, y1, y2, y3]] W fun r w' => r = .returned (.int .i64 (cmpPg d.pk e.pk)) ∧ Gd W w') := fun W hb => cmpPack_gd (hp.below hb) (hq.below hb) hz
  have HKE : Hid (cmpK (keyD d) (keyD e) = or2 (cmpL cmpS d.pa e.pa) (cmpPg d.pk e.pk)) := rfl
  rw [HKE.out]
  obtain ⟨ua, uc, rfl⟩ := hu.sl
  obtain ⟨xa, xc, rfl⟩ := hx.sl
  obtain ⟨a1, c1, rfl⟩ := hp.1.sl
  obtain ⟨a2, c2, rfl⟩ := hp.2.1.sl
  obtain ⟨a3, c3, rfl⟩ := hp.2.2.sl
  obtain ⟨b1, e1, rfl⟩ := hq.1.sl
  obtain ⟨b2, e2, rfl⟩ := hq.2.1.sl
  obtain ⟨b3, e3, rfl⟩ := hq.2.2.sl
  clear hu hp hx hq hn hz HKE
  generalize cmpL cmpS d.pa e.pa = r1 at *
  generalize cmpPg d.pk e.pk = r2 at *
  generalize d.pk.d.length = l1 at *
  generalize d.pk.p.length = l2 at *
  generalize d.pk.o.length = l3 at *
  generalize d.pa.length = n at *
  generalize d.pk.nm = s at *
  generalize d.pk.a = a at *
  generalize d.pk.b = b at *
  generalize d.pk.c = c at *
  generalize d.nd = nd at *
  generalize e.pk.d.length = k1 at *
  generalize e.pk.p.length = k2 at *
  generalize e.pk.o.length = k3 at *
  generalize e.pa.length = m at *
  generalize e.pk.nm = t at *
  generalize e.pk.a = a' at *
  generalize e.pk.b = b' at *
  generalize e.pk.c = c' at *
  generalize e.nd = md at *
  by_cases h0 : r1 = 0
  · have HR : Hid (or2 r1 r2 = r2) := if_pos h0
    rw [h0] at HCP
    rw [HR.out]
    clear h0 HR
    go_enter Tryz.func76, Tryz.ntmps76
    go_wp2_with (first
      | (go_at_call 103; refine (HCP.out _ (boxB2 _ _ _)).mono ?_; rintro r w1 ⟨rfl, rfl⟩)
      | (go_at_call 104; refine (HPK.out _ (boxB2 _ _ _)).mono ?_; rintro r w2 ⟨rfl, hg⟩))
    go_ret
    exact ⟨rfl, (Gd.box2 _ _ _).trans hg⟩
  · have HR : Hid (or2 r1 r2 = r1) := if_neg h0
    have h1 : (r1 == 0) = false := by simpa using h0
    rw [HR.out]
    clear h0 HR
    go_enter Tryz.func76, Tryz.ntmps76
    go_wp2_with (go_at_call 103; refine (HCP.out _ (boxB2 _ _ _)).mono ?_; rintro r w1 ⟨rfl, rfl⟩)
    go_ret
    exact ⟨rfl, Gd.box2 _ _ _⟩

set_option maxHeartbeats 3200000 in
theorem sameDir_any {d e : Dr} {u v1 v2 v3 x y1 y2 y3 : Value} {w : World} (hu : PathAt w u d.pa) (hp : PgAt w d.pk v1 v2 v3) (hx : PathAt w x e.pa) (hq : PgAt w e.pk y1 y2 y3) (hn : d.pa.length ≤ 9223372036854775807) (hz : PgZ d.pk) :
    Calls Tryz.prog 53 #[.agg #[u, .string d.pk.nm, .int .i64 d.pk.a, .int .i64 d.pk.b, .int .i64 d.pk.c, v1, v2, v3, .int .i64 d.nd], .agg #[x, .string e.pk.nm, .int .i64 e.pk.a, .int .i64 e.pk.b, .int .i64 e.pk.c, y1, y2, y3, .int .i64 e.nd]] w fun r w' => r = .returned (.bool (eqB (keyD d) (keyD e))) ∧ Below w.heap.size w w' := by
  have HCP : Hid (∀ W, Below w.heap.size w W → Calls Tryz.prog 40 #[u, x] W fun r w' => r = .returned (.bool (eqB d.pa e.pa)) ∧ Below W.heap.size W w') := fun W hb => EqualS_any (hu.below hb) (hx.below hb) hn
  have HPK : Hid (∀ W, Below w.heap.size w W → Calls Tryz.prog 59 #[.agg #[.string d.pk.nm, .int .i64 d.pk.a, .int .i64 d.pk.b, .int .i64 d.pk.c, v1, v2, v3], .agg #[.string e.pk.nm, .int .i64 e.pk.a, .int .i64 e.pk.b, .int .i64 e.pk.c, y1, y2, y3]] W fun r w' => r = .returned (.bool (eqB d.pk e.pk)) ∧ Below W.heap.size W w') := fun W hb => Same_any (hp.below hb) (hq.below hb) hz.1 hz.2.1 hz.2.2
  have HKE : Hid (eqB (keyD d) (keyD e) = (eqB d.pa e.pa && eqB d.pk e.pk)) := by
    refine eqB_and ?_
    unfold keyD
    rw [Bool.and_eq_true, eqB_iff, eqB_iff, Prod.mk.injEq]
  rw [HKE.out]
  obtain ⟨ua, uc, rfl⟩ := hu.sl
  obtain ⟨xa, xc, rfl⟩ := hx.sl
  obtain ⟨a1, c1, rfl⟩ := hp.1.sl
  obtain ⟨a2, c2, rfl⟩ := hp.2.1.sl
  obtain ⟨a3, c3, rfl⟩ := hp.2.2.sl
  obtain ⟨b1, e1, rfl⟩ := hq.1.sl
  obtain ⟨b2, e2, rfl⟩ := hq.2.1.sl
  obtain ⟨b3, e3, rfl⟩ := hq.2.2.sl
  clear hu hp hx hq hn hz HKE
  generalize eqB d.pa e.pa = r1 at *
  generalize eqB d.pk e.pk = r2 at *
  generalize d.pk.d.length = l1 at *
  generalize d.pk.p.length = l2 at *
  generalize d.pk.o.length = l3 at *
  generalize d.pa.length = n at *
  generalize d.pk.nm = s at *
  generalize d.pk.a = a at *
  generalize d.pk.b = b at *
  generalize d.pk.c = c at *
  generalize d.nd = nd at *
  generalize e.pk.d.length = k1 at *
  generalize e.pk.p.length = k2 at *
  generalize e.pk.o.length = k3 at *
  generalize e.pa.length = m at *
  generalize e.pk.nm = t at *
  generalize e.pk.a = a' at *
  generalize e.pk.b = b' at *
  generalize e.pk.c = c' at *
  generalize e.nd = md at *
  have HK : Hid (KeepP fun w1 => BxDr w1 w.heap.size (.slice ua n uc) s a b c (.slice a1 l1 c1) (.slice a2 l2 c2) (.slice a3 l3 c3) nd ∧ BxDr w1 (w.heap.size + 1) (.slice xa m xc) t a' b' c' (.slice b1 k1 e1) (.slice b2 k2 e2) (.slice b3 k3 e3) md) := (keepBxDr _ _ _ _ _ _ _ _ _ _).and (keepBxDr _ _ _ _ _ _ _ _ _ _)
  have HO0 : Hid ((fun w1 => BxDr w1 w.heap.size (.slice ua n uc) s a b c (.slice a1 l1 c1) (.slice a2 l2 c2) (.slice a3 l3 c3) nd ∧ BxDr w1 (w.heap.size + 1) (.slice xa m xc) t a' b' c' (.slice b1 k1 e1) (.slice b2 k2 e2) (.slice b3 k3 e3) md) ((w.alloc (.cells #[.slice ua n uc, .string s, .int .i64 a, .int .i64 b, .int .i64 c, .slice a1 l1 c1, .slice a2 l2 c2, .slice a3 l3 c3, .int .i64 nd] 46)).alloc (.cells #[.slice xa m xc, .string t, .int .i64 a', .int .i64 b', .int .i64 c', .slice b1 k1 e1, .slice b2 k2 e2, .slice b3 k3 e3, .int .i64 md] 46))) := ⟨keepBxDr _ _ _ _ _ _ _ _ _ _ _ _ (BxDr.new rfl _ _ _ _ _ _ _ _ _) (boxB _ _), BxDr.new (by simp) _ _ _ _ _ _ _ _ _⟩
  cases r1
  · go_enter Tryz.func53, Tryz.ntmps53
    go_wp2_with (go_at_call 40; refine (HCP.out _ (boxB2 _ _ _)).mono ?_; rintro r w1 ⟨rfl, ok⟩)
    go_ret
    exact ⟨by simp, below_then (boxB2 _ _ _) ok⟩
  · go_enter Tryz.func53, Tryz.ntmps53
    go_wp2_with (first
      | (go_at_call 40; refine (HCP.out _ (boxB2 _ _ _)).mono ?_; rintro r w1 ⟨rfl, ok⟩; have HB1 := hide3 (below_then (boxB2 _ _ _) ok); obtain ⟨⟨⟨p0, p1, p2, p3, p4, p5, p6, p7, p8⟩, p9⟩, ⟨⟨q0, q1, q2, q3, q4, q5, q6, q7, q8⟩, q9⟩⟩ := HK.out _ _ HO0.out ok; clear ok)
      | (go_at_call 59; refine (HPK.out _ HB1.out).mono ?_; rintro r w2 ⟨rfl, ok⟩))
    go_ret
    exact ⟨by simp, below_then HB1.out ok⟩
end Go.Proofs.YtcclfaioicklaaaGreatDoor
namespace Go.Proofs.YtcclfaioicklaaaGreatDoor
open Go.RowKit
set_option maxRecDepth 100000

theorem wrapN {n : Nat} (h : n ≤ 9223372036854775807) : IntKind.i64.wrap (n : Int) = n := by
  simp [IntKind.wrap, IntKind.bits, IntKind.signed]
  omega

def textBA (L : List ByteArray) : ByteArray := ⟨(textN L).toArray⟩
theorem textBA_size (L : List ByteArray) : (textBA L).size = (textN L).length := by show (textN L).toArray.size = _; simp
theorem textBA_snoc (L : List ByteArray) (s : ByteArray) : textBA (L ++ [s]) = textBA L ++ modS ++ s := by
  refine bytes_same ?_
  rw [ByteArray.toList_eq, ByteArray.toList_eq, app_list, app_list]
  simp [textBA, textN_snoc]

set_option maxHeartbeats 3200000 in
theorem rTextP_any {L : List ByteArray} {v : Value} {w : World} (h : PathAt w v L) (hz : L.length * 16 ≤ 140737488355328) (hs : ∀ s ∈ L, s.size ≤ 9223372036854775807) :
    Calls Tryz.prog 16 #[v] w fun e w' => e = .returned (.string (textPa L)) ∧ Below w.heap.size w w' := by
  have HNA : Hid (∀ k (hk : k < L.length) w1, Calls Tryz.prog 39 #[.string L[k]] w1 fun e w' => e = .returned (.bool (Sc.nameA L[k].data.toList)) ∧ w' = w1) := fun k hk w1 => Sc.rName_any _ (hs _ (List.getElem_mem hk)) w1
  obtain ⟨ad, cap, rfl, hc, hel⟩ := h.el
  have HEL := hide3 hel
  clear h hs hel
  by_cases h0 : L = []
  · subst h0
    have HR : Hid (textPa [] = ⟨#[47]⟩) := rfl
    rw [List.length_nil]
    go_enter Tryz.func16, Tryz.ntmps16
    go_wp2
    go_ret
    exact ⟨by rw [HR.out]; rfl, Below.refl _ _⟩
  · have hpos : 0 < L.length := List.length_pos_iff.2 h0
    have HNO : Hid (namesB L = false → textPa L = ⟨#[]⟩) := fun e => by unfold textPa; rw [if_neg h0, if_neg (by rw [e]; simp)]
    have HYE : Hid (namesB L = true → textPa L = textBA L) := fun e => by unfold textPa; rw [if_neg h0, if_pos e]; rfl
    have HL : Hid (∀ k, k ≤ L.length → namesB (L.take k) = true → (textBA (L.take k)).size ≤ 219902325555200) := fun k hk hn => by
      have := textN_len hn
      rw [List.length_take] at this
      rw [textBA_size]
      omega
    have hne0 : ((L.length : Int) == 0) = false := by rw [beq_eq_false_iff_ne]; omega
    have HT0 : Hid (textBA (L.take 0) = ⟨#[]⟩) := rfl
    clear h0
    go_enter Tryz.func16, Tryz.ntmps16
    go_wp2_with fail
    go_loopw [3, 4] (fun vo vi wr => ∃ k : Nat, k ≤ L.length ∧ vi = .int .i64 k ∧ vo = .string (textBA (L.take k)) ∧ wr = w ∧ namesB (L.take k) = true) (fun _ vi _ => L.length - (intOf vi).toNat)
    case atStart => exact ⟨0, Nat.zero_le _, rfl, by rw [HT0.out], rfl, rfl⟩
    case round =>
      obtain ⟨k, hk, rfl, rfl, hww, hns⟩ := hrel
      subst wr
      by_cases hlt : k < L.length
      · obtain ⟨g, o, rfl, c0, c1⟩ := HEL.out k hlt
        have HLK := hide3 (HL.out k hk hns)
        have HTS : Hid (textBA (L.take (k + 1)) = textBA (L.take k) ++ modS ++ L[k]) := by
          unfold Hid
          rw [List.take_succ_eq_append_getElem hlt, textBA_snoc]
        have HNT : Hid (Sc.nameA L[k].data.toList = true → namesB (L.take (k + 1)) = true) := fun e => by rw [names_take hlt, hns, e]; rfl
        have HNB : Hid (Sc.nameA L[k].data.toList = false → namesB L = false) := fun e => names_bad hlt e
        have HNM := hide3 (HNA.out k hlt)
        generalize textBA (L.take k) = tx at *
        generalize L[k] = s at *
        clear hns
        cases hn : Sc.nameA s.data.toList
        · have HR := hide3 (HNO.out (HNB.out hn))
          rw [hn] at HNM
          clear HNT HNB HNO HYE
          go_wp2_with (go_at_call 39; refine (HNM.out _).mono ?_; rintro e w1 ⟨rfl, hw1⟩; subst w1)
          go_ret
          exact ⟨by rw [HR.out]; rfl, Below.refl _ _⟩
        · have HR := hide3 (HNT.out hn)
          rw [hn] at HNM
          have hs16 : s.size ≤ 16 := name_size hn
          have hms : modS.size = 9 := rfl
          have hlk := HLK.out
          have e1 := fun W : World => run_string_add_sum (P := Tryz.prog) (w := W) tx modS (by omega)
          have e2 := fun W : World => run_string_add_sum (P := Tryz.prog) (w := W) (tx ++ modS) s (by rw [app_size]; omega)
          unfold modS at e1 e2
          clear HNT HNB HNO HYE hlk
          go_wp2_with (go_at_call 39; refine (HNM.out _).mono ?_; rintro e w1 ⟨rfl, hw1⟩; subst w1)
          exact ⟨⟨k + 1, by omega, by go_num, by rw [HTS.out]; rfl, trivial, HR.out⟩, by simp [intOf]; omega⟩
      · obtain rfl : k = L.length := by omega
        rw [List.take_length] at hns ⊢
        have HR : Hid (textPa L = textBA L) := HYE.out hns
        go_wp2
        go_ret
        exact ⟨by rw [HR.out]; rfl, Below.refl _ _⟩

set_option maxHeartbeats 1600000 in
/-- The document's Parent of a directory with a path. -/
theorem rParent_any {L : List Dr} {v : Value} {w : World} (h : DirsAt w v L) (hz : L.length ≤ 9223372036854775807) (hf : FitD L) {k : Nat} (hk : k < L.length) (hp : 0 < L[k].pa.length) :
    Calls Tryz.prog 20 #[.agg #[v], .int .i64 k] w fun e w' => e = .returned (.int .i64 (findV L (L[k].pa.take (L[k].pa.length - 1)))) ∧ Below w.heap.size w w' := by
  have HFD : Hid (∀ w1, Below w.heap.size w w1 → ∀ vp p, PathAt w1 vp p → Calls Tryz.prog 18 #[.agg #[v], vp] w1 fun e w' => e = .returned (.int .i64 (findV L p)) ∧ Below w1.heap.size w1 w') := fun w1 hb vp p hp => rFind_any (h.below hb) hz hf hp
  have hpz := hf _ (List.getElem_mem hk)
  obtain ⟨ad, cap, rfl, hc, hsl⟩ := h.sl
  obtain ⟨g, o, rfl, u, v1, v2, v3, ⟨c0, c1, c2, c3, c4, c5, c6, c7, c8⟩, ⟨hpa, hpk⟩, hg⟩ := hsl k hk
  obtain ⟨ua, uc, rfl, huc, hux⟩ := hpa.el
  obtain ⟨n, hn⟩ : ∃ n, L[k].pa.length = n + 1 := ⟨L[k].pa.length - 1, by omega⟩
  have HC : Hid (∀ w1, Below w.heap.size w w1 → Calls Tryz.prog 18 #[.agg #[.slice (some ⟨g, o, none⟩) L.length cap], .slice ua n uc] w1 fun e w' => e = .returned (.int .i64 (findV L (L[k].pa.take (L[k].pa.length - 1)))) ∧ Below w1.heap.size w1 w') := fun w1 hb => by
    refine HFD.out w1 hb _ _ ?_
    have := (hpa.cut (k := n) (by omega)).below hb
    rw [show L[k].pa.length - 1 = n by omega]
    exact this
  rw [hn] at c0 huc hpz
  have c0' : (w.alloc (.cells #[.slice (some ⟨g, o, none⟩) L.length cap] 24)).cell? ⟨g, o + k * 9, none⟩ = some (.slice ua (n + 1) uc) := ((boxB w (.cells #[.slice (some ⟨g, o, none⟩) L.length cap] 24)).cell (p := ⟨g, o + k * 9, none⟩) hg).trans c0
  generalize findV L (L[k].pa.take (L[k].pa.length - 1)) = f at *
  clear c1 c2 c3 c4 c5 c6 c7 c8 hpk hpa h hsl hux hf hn hp
  have hki : (k : Int) < (L.length : Int) := by omega
  have hkd : decide ((k : Int) < 0) = false := decide_eq_false (by omega)
  have hkl : decide (L.length ≤ k) = false := decide_eq_false (by omega)
  have hn1 : ((n : Int) + 1 == 0) = false := by rw [beq_eq_false_iff_ne]; omega
  have hwn : IntKind.i64.wrap (n : Int) = n := wrapN (by omega)
  have hnc : n ≤ uc := by omega
  have HK : Hid (KeepP fun w1 => Below w.heap.size w w1 ∧ BxT w1 w.heap.size (.slice (some ⟨g, o, none⟩) L.length cap)) := (keepBelow w).and (keepBxT _ _)
  have HO : Hid (Below w.heap.size w (w.alloc (.cells #[.slice (some ⟨g, o, none⟩) L.length cap] 24)) ∧ BxT (w.alloc (.cells #[.slice (some ⟨g, o, none⟩) L.length cap] 24)) w.heap.size (.slice (some ⟨g, o, none⟩) L.length cap)) := ⟨boxB _ _, BxT.new _ _⟩
  go_enter Tryz.func20, Tryz.ntmps20
  go_wp2_with fail
  refine wp_region_keep HK.out (by kernel_rfl) (by kernel_rfl) (by first | exact HO.out | exact HK.out.drew HO.out) ?_
  intro C hin hout
  have HIN := hide3 hin
  have HOUT := hide3 hout
  clear hin hout HO
  repeat
    (with_reducible refine wpQuiet_step (fun K hK => ?_)
     go_simp
     first
       | (refine hK _ ?_; clear hK K)
       | (apply Exists.intro; refine ⟨fun w1 hC => ?_, hK _ ?_⟩; (focus ((first | (go_at_call 18; with_reducible exact callC' HIN.out HOUT.out HK.out (fun w1 hk => HC.out w1 hk.1) w1 hC) | (exact rfl) | (obtain ⟨hb1, ⟨b0, b1⟩⟩ := HOUT.out w1 hC; clear hC; go_simp; first | done | exact rfl)); done)); clear hK K))
  refine wpQuiet_nil ?_
  intro wn hC
  have HO := hide3 (HOUT.out _ hC)
  clear hC HIN HOUT C
  obtain ⟨hb1, ⟨b0, b1⟩⟩ := HO.out
  go_wp2
  go_ret
  exact ⟨rfl, HO.out.1⟩
end Go.Proofs.YtcclfaioicklaaaGreatDoor
