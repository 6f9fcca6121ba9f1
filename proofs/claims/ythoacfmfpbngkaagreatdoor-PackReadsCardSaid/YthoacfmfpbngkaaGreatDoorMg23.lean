/- Ps8, PsK, Rk7, Rk12, Rk12a, Rk12b, laid in one text. -/
import Derived.Deep.CutRange
import Derived.BigRegion
import Derived.Test.YthoacfmfpbngkaaGreatDoorMg22
namespace Go.Proofs.YthoacfmfpbngkaaGreatDoor
open Go.RowKit
set_option maxRecDepth 100000

/-- What Parse answers. -/
noncomputable def parPE (t : ByteArray) : Int := if Sc.ansE t 4096 = 0 then (if linesE (Sc.ansL t 4096) = 0 then (if writtenB (linesP (Sc.ansL t 4096)) = true then 0 else 24) else linesE (Sc.ansL t 4096)) else Sc.ansE t 4096
def parPP (t : ByteArray) : Pg := linesP (Sc.ansL t 4096)

set_option maxHeartbeats 6400000 in
theorem Parse_pk (t : ByteArray) {w : World} (he : Env w) (hf : FL w) : Calls Tryz.prog 4 #[.string t] w (PkQ w (parPE t) (parPP t)) := by
  have HLI : Hid (∀ w1, Calls Tryz.prog 8 #[.string t, .int .i64 4096] w1 fun e w' => ∃ v n, e = .returned (.tuple #[v, .int .i64 (Sc.ansE t 4096), .int .i64 n]) ∧ Sc.LinesAt w' v (Sc.ansL t 4096) ∧ Below w1.heap.size w1 w') := fun w1 => (lines_4096 t w1).mono fun e w' ⟨v, h1, h2, h3⟩ => ⟨v, _, h1, by obtain ⟨ps, hp, hl⟩ := h2; rw [← hp]; exact hl.at, h3⟩
  have HRL : Hid (Sc.ansE t 4096 = 0 → ∀ w1 v, Below w.heap.size w w1 → Sc.LinesAt w1 v (Sc.ansL t 4096) → Calls Tryz.prog 9 #[v] w1 (PkQ w1 (linesE (Sc.ansL t 4096)) (linesP (Sc.ansL t 4096)))) := fun h0 w1 v hb hl => by
    obtain ⟨s1, s2, s3, s4⟩ := small_of h0
    exact readLines_any hl s2 s1 s3 s4 (he.below hb) (hf.below hb)
  have HMA : Hid (∀ w1 (P : Pg) v1 v2 v3, Below w.heap.size w w1 → PgAt w1 P v1 v2 v3 → Calls Tryz.prog 10 #[.agg #[.string P.nm, .int .i64 P.a, .int .i64 P.b, .int .i64 P.c, v1, v2, v3]] w1 fun e w' => e = .returned (.bool (writtenB P)) ∧ Below w1.heap.size w1 w') := fun w1 P v1 v2 v3 hb h => pMay_any h (he.below hb) (hf.below hb)
  have HE : Hid (parPE t = if Sc.ansE t 4096 = 0 then (if linesE (Sc.ansL t 4096) = 0 then (if writtenB (linesP (Sc.ansL t 4096)) = true then 0 else 24) else linesE (Sc.ansL t 4096)) else Sc.ansE t 4096) := rfl
  have HPP : Hid (parPP t = linesP (Sc.ansL t 4096)) := rfl
  have HER : Hid (∀ er w', parPE t = er → er ≠ 0 → Below w.heap.size w w' → PkQ w (parPE t) (parPP t) (.returned (.tuple #[.agg #[.string ⟨#[]⟩, .int .i64 0, .int .i64 0, .int .i64 0, .slice none 0 0, .slice none 0 0, .slice none 0 0], .int .i64 er])) w') := fun er w' h1 h2 hb => PkQ.err h1 h2 hb
  have HOK : Hid (∀ v1 v2 v3 w', parPE t = 0 → Below w.heap.size w w' → OwnP w' w.heap.size (linesP (Sc.ansL t 4096)) v1 v2 v3 → PkQ w (parPE t) (parPP t) (.returned (.tuple #[.agg #[.string (linesP (Sc.ansL t 4096)).nm, .int .i64 (linesP (Sc.ansL t 4096)).a, .int .i64 (linesP (Sc.ansL t 4096)).b, .int .i64 (linesP (Sc.ansL t 4096)).c, v1, v2, v3], .int .i64 0])) w') := fun v1 v2 v3 w' h0 hb ho => by
    rw [h0]
    exact ⟨_, _, _, _, v1, v2, v3, rfl, hb, fun _ => ⟨rfl, rfl, rfl, rfl, ho⟩, fun hx => absurd rfl hx⟩
  have HPQ : Hid (∀ w1 er P e w', PkQ w1 er P e w' → ∃ s a b c v1 v2 v3, e = .returned (.tuple #[.agg #[.string s, .int .i64 a, .int .i64 b, .int .i64 c, v1, v2, v3], .int .i64 er]) ∧ Below w1.heap.size w1 w' ∧ (er = 0 → s = P.nm ∧ a = P.a ∧ b = P.b ∧ c = P.c ∧ OwnP w' w1.heap.size P v1 v2 v3) ∧ (∃ a1 k1 c1 a2 k2 c2 a3 k3 c3, v1 = .slice a1 k1 c1 ∧ v2 = .slice a2 k2 c2 ∧ v3 = .slice a3 k3 c3)) := fun w1 er P e w' h => by
    obtain ⟨s, a, b, c, v1, v2, v3, h1, h2, h3, h4⟩ := h
    refine ⟨s, a, b, c, v1, v2, v3, h1, h2, h3, ?_⟩
    by_cases h0 : er = 0
    · obtain ⟨q1, q2, q3, o1, o2, o3⟩ := (h3 h0).2.2.2.2
      obtain ⟨a1, c1, e1⟩ := o1.1.len
      obtain ⟨a2, c2, e2⟩ := o2.1.len
      obtain ⟨a3, c3, e3⟩ := o3.1.len
      exact ⟨_, _, _, _, _, _, _, _, _, e1, e2, e3⟩
    · obtain ⟨_, _, _, _, e1, e2, e3⟩ := h4 h0
      exact ⟨_, _, _, _, _, _, _, _, _, e1, e2, e3⟩
  clear he hf
  generalize hHQ : PkQ w (parPE t) (parPP t) = HQ at *
  clear hHQ HPP
  generalize parPE t = PE at *
  generalize Sc.ansE t 4096 = AE at *
  generalize Sc.ansL t 4096 = AL at *
  generalize linesE AL = LE at *
  generalize linesP AL = LP at *
  have HB0 : Hid (BxPF (w.alloc (.cells #[.string ⟨#[]⟩, .int .i64 0, .int .i64 0, .int .i64 0, .slice none 0 0, .slice none 0 0, .slice none 0 0] 26)) w.heap.size ⟨#[]⟩ 0 0 0 (.slice none 0 0) (.slice none 0 0) (.slice none 0 0)) := BxPF.new rfl _ _ _ _ _ _ _
  have HKB : Hid (KeepP fun w1 => BxPF w1 w.heap.size ⟨#[]⟩ 0 0 0 (.slice none 0 0) (.slice none 0 0) (.slice none 0 0)) := keepBxPF _ _ _ _ _ _ _ _
  by_cases ha : AE = 0
  · subst ha
    have HR2 := hide3 (HRL.out rfl)
    by_cases hl : LE = 0
    · subst hl
      have HMB : Hid (∀ w1 v1 v2 v3, Below w.heap.size w w1 → PgAt w1 LP v1 v2 v3 → Calls Tryz.prog 10 #[.agg #[.string LP.nm, .int .i64 LP.a, .int .i64 LP.b, .int .i64 LP.c, v1, v2, v3]] w1 fun e w' => e = .returned (.bool (writtenB LP)) ∧ Below w1.heap.size w1 w') := fun w1 v1 v2 v3 hb h => HMA.out w1 LP v1 v2 v3 hb h
      cases hwb : writtenB LP
      · have hL : PE = 24 := by rw [HE.out]; simp [hwb]
        rw [hwb] at HMB
        go_enter Tryz.func4, Tryz.ntmps4
        go_upto_region 7 with (first
          | (go_at_call 8; refine (HLI.out _).mono ?_; rintro e w1 ⟨v, n, rfl, hla, hb1⟩; have HLA := hide3 hla; have HB1 : Hid (Below w.heap.size w w1 ∧ BxPF w1 w.heap.size ⟨#[]⟩ 0 0 0 (.slice none 0 0) (.slice none 0 0) (.slice none 0 0)) := ⟨below_then (boxB _ _) hb1, HKB.out _ _ HB0.out hb1⟩; obtain ⟨adv, capv, rfl, _⟩ := hla; clear hb1)
          | (go_at_call 9; refine (HR2.out _ _ HB1.out.1 HLA.out).mono ?_; rintro e w2 hq; obtain ⟨s, a, b, c, v1, v2, v3, rfl, hb2, hok2, a1, k1, c1, a2, k2, c2, a3, k3, c3, rfl, rfl, rfl⟩ := HPQ.out _ _ _ _ _ hq; obtain ⟨rfl, rfl, rfl, rfl, how⟩ := hok2 rfl; have HB3 : Hid (Below w.heap.size w (w2.alloc (.cells #[.string LP.nm, .int .i64 LP.a, .int .i64 LP.b, .int .i64 LP.c, .slice a1 k1 c1, .slice a2 k2 c2, .slice a3 k3 c3] 26)) ∧ BxPF (w2.alloc (.cells #[.string LP.nm, .int .i64 LP.a, .int .i64 LP.b, .int .i64 LP.c, .slice a1 k1 c1, .slice a2 k2 c2, .slice a3 k3 c3] 26)) w.heap.size ⟨#[]⟩ 0 0 0 (.slice none 0 0) (.slice none 0 0) (.slice none 0 0) ∧ OwnP (w2.alloc (.cells #[.string LP.nm, .int .i64 LP.a, .int .i64 LP.b, .int .i64 LP.c, .slice a1 k1 c1, .slice a2 k2 c2, .slice a3 k3 c3] 26)) w1.heap.size LP (.slice a1 k1 c1) (.slice a2 k2 c2) (.slice a3 k3 c3)) := ⟨below_then (below_then HB1.out.1 hb2) (boxB _ _), HKB.out _ _ (HKB.out _ _ HB1.out.2 hb2) (boxB _ _), how.below (boxB _ _)⟩; clear hb2 hq hok2 how))
        have HB12 : Hid (w.heap.size < w1.heap.size) := HB1.out.2.1.2.2.2.2.2.2.2
        have HY3 : Hid (BxPF (w2.alloc (.cells #[.string LP.nm, .int .i64 LP.a, .int .i64 LP.b, .int .i64 LP.c, .slice a1 k1 c1, .slice a2 k2 c2, .slice a3 k3 c3] 26)) w2.heap.size LP.nm LP.a LP.b LP.c (.slice a1 k1 c1) (.slice a2 k2 c2) (.slice a3 k3 c3)) := BxPF.new rfl _ _ _ _ _ _ _
        generalize w2.alloc (.cells #[.string LP.nm, .int .i64 LP.a, .int .i64 LP.b, .int .i64 LP.c, .slice a1 k1 c1, .slice a2 k2 c2, .slice a3 k3 c3] 26) = w3 at *
        generalize w2.heap.size = M at *
        obtain ⟨⟨y0, y1, y2, y3, y4, y5, y6, y7⟩, _⟩ := HY3.out
        go_wp2_with (go_at_call 10; refine (HMB.out _ _ _ _ HB3.out.1 HB3.out.2.2.at).mono ?_; rintro e w4 ⟨rfl, ok4⟩; have HO4 : Hid (Below w.heap.size w w4 ∧ BxPF w4 w.heap.size ⟨#[]⟩ 0 0 0 (.slice none 0 0) (.slice none 0 0) (.slice none 0 0)) := ⟨below_then HB3.out.1 ok4, HKB.out _ _ HB3.out.2.1 ok4⟩; obtain ⟨⟨b0, b1, b2, b3, b4, b5, b6, b7⟩, hfz⟩ := HO4.out.2; have f0 := hfz 0 (by decide); have f1 := hfz 1 (by decide); have f2 := hfz 2 (by decide); have f3 := hfz 3 (by decide); have f4 := hfz 4 (by decide); have f5 := hfz 5 (by decide); have f6 := hfz 6 (by decide); clear ok4 hfz)
        have s7 := fun u0 u1 u2 u3 u4 u5 u6 => set7 b0 b1 b2 b3 b4 b5 b6 u0 u1 u2 u3 u4 u5 u6
        try simp only [Exit.inBlock, Exit.then]
        refine bodyPost_ret (by simp [results, Tryz.results4, s7, go_sem]; try rfl) rfl ?_
        exact HER.out _ _ hL (by decide) (below_set7 (Nat.le_refl _) HO4.out.1)
      · have hL : PE = 0 := by rw [HE.out]; simp [hwb]
        rw [hwb] at HMB
        go_enter Tryz.func4, Tryz.ntmps4
        go_upto_region 7 with (first
          | (go_at_call 8; refine (HLI.out _).mono ?_; rintro e w1 ⟨v, n, rfl, hla, hb1⟩; have HLA := hide3 hla; have HB1 : Hid (Below w.heap.size w w1 ∧ BxPF w1 w.heap.size ⟨#[]⟩ 0 0 0 (.slice none 0 0) (.slice none 0 0) (.slice none 0 0)) := ⟨below_then (boxB _ _) hb1, HKB.out _ _ HB0.out hb1⟩; obtain ⟨adv, capv, rfl, _⟩ := hla; clear hb1)
          | (go_at_call 9; refine (HR2.out _ _ HB1.out.1 HLA.out).mono ?_; rintro e w2 hq; obtain ⟨s, a, b, c, v1, v2, v3, rfl, hb2, hok2, a1, k1, c1, a2, k2, c2, a3, k3, c3, rfl, rfl, rfl⟩ := HPQ.out _ _ _ _ _ hq; obtain ⟨rfl, rfl, rfl, rfl, how⟩ := hok2 rfl; have HB3 : Hid (Below w.heap.size w (w2.alloc (.cells #[.string LP.nm, .int .i64 LP.a, .int .i64 LP.b, .int .i64 LP.c, .slice a1 k1 c1, .slice a2 k2 c2, .slice a3 k3 c3] 26)) ∧ BxPF (w2.alloc (.cells #[.string LP.nm, .int .i64 LP.a, .int .i64 LP.b, .int .i64 LP.c, .slice a1 k1 c1, .slice a2 k2 c2, .slice a3 k3 c3] 26)) w.heap.size ⟨#[]⟩ 0 0 0 (.slice none 0 0) (.slice none 0 0) (.slice none 0 0) ∧ OwnP (w2.alloc (.cells #[.string LP.nm, .int .i64 LP.a, .int .i64 LP.b, .int .i64 LP.c, .slice a1 k1 c1, .slice a2 k2 c2, .slice a3 k3 c3] 26)) w1.heap.size LP (.slice a1 k1 c1) (.slice a2 k2 c2) (.slice a3 k3 c3)) := ⟨below_then (below_then HB1.out.1 hb2) (boxB _ _), HKB.out _ _ (HKB.out _ _ HB1.out.2 hb2) (boxB _ _), how.below (boxB _ _)⟩; clear hb2 hq hok2 how))
        have HB12 : Hid (w.heap.size < w1.heap.size) := HB1.out.2.1.2.2.2.2.2.2.2
        have HY3 : Hid (BxPF (w2.alloc (.cells #[.string LP.nm, .int .i64 LP.a, .int .i64 LP.b, .int .i64 LP.c, .slice a1 k1 c1, .slice a2 k2 c2, .slice a3 k3 c3] 26)) w2.heap.size LP.nm LP.a LP.b LP.c (.slice a1 k1 c1) (.slice a2 k2 c2) (.slice a3 k3 c3)) := BxPF.new rfl _ _ _ _ _ _ _
        generalize w2.alloc (.cells #[.string LP.nm, .int .i64 LP.a, .int .i64 LP.b, .int .i64 LP.c, .slice a1 k1 c1, .slice a2 k2 c2, .slice a3 k3 c3] 26) = w3 at *
        generalize w2.heap.size = M at *
        obtain ⟨⟨y0, y1, y2, y3, y4, y5, y6, y7⟩, _⟩ := HY3.out
        go_wp2_with (go_at_call 10; refine (HMB.out _ _ _ _ HB3.out.1 HB3.out.2.2.at).mono ?_; rintro e w4 ⟨rfl, ok4⟩; have HO4 : Hid (Below w.heap.size w w4 ∧ BxPF w4 w.heap.size ⟨#[]⟩ 0 0 0 (.slice none 0 0) (.slice none 0 0) (.slice none 0 0)) := ⟨below_then HB3.out.1 ok4, HKB.out _ _ HB3.out.2.1 ok4⟩; have HP4 := hide3 (HB3.out.2.2.below ok4); have HY4 := hide3 (keepBxPF _ _ _ _ _ _ _ _ _ _ HY3.out ok4); clear y0 y1 y2 y3 y4 y5 y6 y7; obtain ⟨⟨y0, y1, y2, y3, y4, y5, y6, y7⟩, _⟩ := HY4.out; obtain ⟨⟨b0, b1, b2, b3, b4, b5, b6, b7⟩, hfz⟩ := HO4.out.2; have f0 := hfz 0 (by decide); have f1 := hfz 1 (by decide); have f2 := hfz 2 (by decide); have f3 := hfz 3 (by decide); have f4 := hfz 4 (by decide); have f5 := hfz 5 (by decide); have f6 := hfz 6 (by decide); clear ok4 hfz)
        have s7 := fun u0 u1 u2 u3 u4 u5 u6 => set7 b0 b1 b2 b3 b4 b5 b6 u0 u1 u2 u3 u4 u5 u6
        try simp only [Exit.inBlock, Exit.then]
        refine bodyPost_ret (by simp [results, Tryz.results4, s7, go_sem]; try rfl) rfl ?_
        refine HOK.out _ _ _ _ hL (below_set7 (Nat.le_refl _) HO4.out.1) ?_
        exact (HP4.out.of fun g hg => heap7 (by have := HB12.out; omega)).base (Nat.le_of_lt HB12.out)
    · have hL : PE = LE := by rw [HE.out]; simp [hl]
      have hre : (LE == 0) = false := by simpa using hl
      go_enter Tryz.func4, Tryz.ntmps4
      go_wp2_with (first
        | (go_at_call 8; refine (HLI.out _).mono ?_; rintro e w1 ⟨v, n, rfl, hla, hb1⟩; have HLA := hide3 hla; have HB1 : Hid (Below w.heap.size w w1 ∧ BxPF w1 w.heap.size ⟨#[]⟩ 0 0 0 (.slice none 0 0) (.slice none 0 0) (.slice none 0 0)) := ⟨below_then (boxB _ _) hb1, HKB.out _ _ HB0.out hb1⟩; obtain ⟨adv, capv, rfl, _⟩ := hla; clear hb1)
        | (go_at_call 9; refine (HR2.out _ _ HB1.out.1 HLA.out).mono ?_; rintro e w2 hq; obtain ⟨s, a, b, c, v1, v2, v3, rfl, hb2, _, a1, k1, c1, a2, k2, c2, a3, k3, c3, rfl, rfl, rfl⟩ := HPQ.out _ _ _ _ _ hq; have HO4 : Hid (Below w.heap.size w (w2.alloc (.cells #[.string s, .int .i64 a, .int .i64 b, .int .i64 c, .slice a1 k1 c1, .slice a2 k2 c2, .slice a3 k3 c3] 26)) ∧ BxPF (w2.alloc (.cells #[.string s, .int .i64 a, .int .i64 b, .int .i64 c, .slice a1 k1 c1, .slice a2 k2 c2, .slice a3 k3 c3] 26)) w.heap.size ⟨#[]⟩ 0 0 0 (.slice none 0 0) (.slice none 0 0) (.slice none 0 0)) := ⟨below_then (below_then HB1.out.1 hb2) (boxB _ _), HKB.out _ _ (HKB.out _ _ HB1.out.2 hb2) (boxB _ _)⟩; obtain ⟨⟨b0, b1, b2, b3, b4, b5, b6, b7⟩, hfz⟩ := HO4.out.2; have f0 := hfz 0 (by decide); have f1 := hfz 1 (by decide); have f2 := hfz 2 (by decide); have f3 := hfz 3 (by decide); have f4 := hfz 4 (by decide); have f5 := hfz 5 (by decide); have f6 := hfz 6 (by decide); clear hb2 hq hfz))
      have s7 := fun u0 u1 u2 u3 u4 u5 u6 => set7 b0 b1 b2 b3 b4 b5 b6 u0 u1 u2 u3 u4 u5 u6
      try simp only [Exit.inBlock, Exit.then]
      refine bodyPost_ret (by simp [results, Tryz.results4, s7, go_sem]; try rfl) rfl ?_
      exact HER.out _ _ hL hl (below_set7 (Nat.le_refl _) HO4.out.1)
  · have hL : PE = AE := by rw [HE.out, if_neg ha]
    have hre : (AE == 0) = false := by simpa using ha
    go_enter Tryz.func4, Tryz.ntmps4
    go_wp2_with (go_at_call 8; refine (HLI.out _).mono ?_; rintro e w1 ⟨v, n, rfl, _, hb1⟩; have HO4 : Hid (Below w.heap.size w w1 ∧ BxPF w1 w.heap.size ⟨#[]⟩ 0 0 0 (.slice none 0 0) (.slice none 0 0) (.slice none 0 0)) := ⟨below_then (boxB _ _) hb1, HKB.out _ _ HB0.out hb1⟩; obtain ⟨⟨b0, b1, b2, b3, b4, b5, b6, b7⟩, hfz⟩ := HO4.out.2; have f0 := hfz 0 (by decide); have f1 := hfz 1 (by decide); have f2 := hfz 2 (by decide); have f3 := hfz 3 (by decide); have f4 := hfz 4 (by decide); have f5 := hfz 5 (by decide); have f6 := hfz 6 (by decide); clear hb1 hfz)
    have s7 := fun u0 u1 u2 u3 u4 u5 u6 => set7 b0 b1 b2 b3 b4 b5 b6 u0 u1 u2 u3 u4 u5 u6
    try simp only [Exit.inBlock, Exit.then]
    refine bodyPost_ret (by simp [results, Tryz.results4, s7, go_sem]; try rfl) rfl ?_
    exact HER.out _ _ hL ha (below_set7 (Nat.le_refl _) HO4.out.1)
end Go.Proofs.YthoacfmfpbngkaaGreatDoor
namespace Go.Proofs.YthoacfmfpbngkaaGreatDoor
open Go.RowKit
set_option maxRecDepth 100000

/-- The text whose package is fixed, its lines, its package, that one's text. -/
def kT : ByteArray := ⟨#[112, 97, 99, 107, 97, 103, 101, 32, 97, 32, 49, 46, 50, 46, 48, 10, 110, 101, 101, 100, 115, 32, 98, 32, 94, 49, 46, 48, 46, 48, 10]⟩
def kL : List (List Sc.Bs) := [[[112, 97, 99, 107, 97, 103, 101], [97], [49, 46, 50, 46, 48]], [[110, 101, 101, 100, 115], [98], [94, 49, 46, 48, 46, 48]]]
def kP : Pg := ⟨⟨#[97]⟩, 1, 2, 0, [⟨⟨#[98]⟩, [⟨1, 0, 0, 1, 999, 999⟩]⟩], [], []⟩
def kO : ByteArray := ⟨#[112, 97, 99, 107, 97, 103, 101, 32, 97, 32, 49, 46, 50, 46, 48, 10, 110, 101, 101, 100, 115, 32, 98, 32, 62, 61, 49, 46, 48, 46, 48, 32, 60, 61, 49, 46, 57, 57, 57, 46, 57, 57, 57, 10]⟩
theorem k_scan : Sc.scanR kT.data.toList [] [] [] = .ok kL := by
  have h := Sc.scan_text kL [] (by decide +kernel)
  exact h
theorem k_lines : Sc.ansE kT 4096 = 0 ∧ Sc.ansL kT 4096 = kL := by
  unfold Sc.ansE Sc.ansL
  rw [if_neg (by decide), if_neg (by decide), k_scan]
  exact ⟨rfl, rfl⟩
theorem k_e : linesE kL = 0 := by decide +kernel
theorem k_rg : parL (parR (jnT [[94, 49, 46, 48, 46, 48]])) = [(1000000, 1999999)] := by decide +kernel
theorem k_p : linesP kL = kP := by
  have e : (readF pkW 0 [[], [], []] [[[110, 101, 101, 100, 115], [98], [94, 49, 46, 48, 46, 48]]]).2 = [[⟨⟨#[98]⟩, (parL (parR (jnT [[94, 49, 46, 48, 46, 48]]))).map spR⟩], [], []] := by
    have h1 : depE (lastN ([] : List Dp)) (Sc.ba [98]) [[94, 49, 46, 48, 46, 48]] = 0 := by decide +kernel
    rw [readF_step (k := 0) (by simp) (by decide +kernel) (Nat.le_refl _) (by exact h1)]
    rfl
  have ha : resA (Sc.ba [49, 46, 50, 46, 48]) = 1 := by decide +kernel
  have hb : resB (Sc.ba [49, 46, 50, 46, 48]) = 2 := by decide +kernel
  have hc : resC (Sc.ba [49, 46, 50, 46, 48]) = 0 := by decide +kernel
  have hs : List.map spR [(1000000, 1999999)] = [⟨1, 0, 0, 1, 999, 999⟩] := by
    have q1 : atA 1000000 = 1 := by decide +kernel
    have q2 : atB 1000000 = 0 := by decide +kernel
    have q3 : atC 1000000 = 0 := by decide +kernel
    have q4 : atA 1999999 = 1 := by decide +kernel
    have q5 : atB 1999999 = 999 := by decide +kernel
    have q6 : atC 1999999 = 999 := by decide +kernel
    simp only [List.map_cons, List.map_nil, spR, q1, q2, q3, q4, q5, q6]
  unfold kL linesP
  simp only [e, k_rg]
  show (⟨Sc.ba [97], resA (Sc.ba [49, 46, 50, 46, 48]), resB (Sc.ba [49, 46, 50, 46, 48]), resC (Sc.ba [49, 46, 50, 46, 48]), [⟨⟨#[98]⟩, List.map spR [(1000000, 1999999)]⟩], [], []⟩ : Pg) = kP
  rw [ha, hb, hc, hs]
  rfl
theorem k_once : onceB kP = true := once_yes (by simp [namesL, kP])
theorem k_text : textP kP = kO.data.toList := by decide +kernel
theorem k_w : writtenB kP = true := by
  unfold writtenB soundB
  rw [k_once, k_text]
  decide +kernel
theorem k_t : writtenT kP = kO := by unfold writtenT; rw [if_pos k_w, k_text]
theorem k_par : parPE kT = 0 ∧ parPP kT = kP := by
  unfold parPE parPP
  rw [k_lines.1, k_lines.2, k_e, k_p, k_w]
  exact ⟨rfl, rfl⟩

set_option maxHeartbeats 3200000 in
theorem known_pk {w : World} (he : Env w) (hf : FL w) : Calls Tryz.prog 7 #[] w fun e w' => e = .returned (.bool true) ∧ Below w.heap.size w w' := by
  have HPA : Hid (Calls Tryz.prog 4 #[.string kT] w fun e w' => ∃ a1 c1 a2 c2 a3 c3, e = .returned (.tuple #[.agg #[.string ⟨#[97]⟩, .int .i64 1, .int .i64 2, .int .i64 0, .slice a1 1 c1, .slice a2 0 c2, .slice a3 0 c3], .int .i64 0]) ∧ Below w.heap.size w w' ∧ PgAt w' kP (.slice a1 1 c1) (.slice a2 0 c2) (.slice a3 0 c3)) := (Parse_pk kT he hf).mono fun e w' h => by
    rw [k_par.1, k_par.2] at h
    obtain ⟨s, a, b, c, v1, v2, v3, h1, h2, h3, _⟩ := h
    obtain ⟨rfl, rfl, rfl, rfl, ho⟩ := h3 rfl
    have hp := ho.at
    obtain ⟨a1, c1, e1⟩ := hp.1.sl
    obtain ⟨a2, c2, e2⟩ := hp.2.1.sl
    obtain ⟨a3, c3, e3⟩ := hp.2.2.sl
    rw [e1, e2, e3] at hp
    rw [e1, e2, e3] at h1
    exact ⟨a1, c1, a2, c2, a3, c3, h1, h2, hp⟩
  have HPR : Hid (∀ w1 v1 v2 v3, Below w.heap.size w w1 → PgAt w1 kP v1 v2 v3 → Calls Tryz.prog 17 #[.agg #[.string ⟨#[97]⟩, .int .i64 1, .int .i64 2, .int .i64 0, v1, v2, v3]] w1 fun e w' => e = .returned (.tuple #[.string kO, .int .i64 0]) ∧ Below w1.heap.size w1 w') := fun w1 v1 v2 v3 hb h => by
    have := pPrint_any h (he.below hb) (hf.below hb)
    rw [k_w, k_t] at this
    exact this
  have HMA : Hid (∀ w1 v1 v2 v3, Below w.heap.size w w1 → PgAt w1 kP v1 v2 v3 → Calls Tryz.prog 10 #[.agg #[.string ⟨#[97]⟩, .int .i64 1, .int .i64 2, .int .i64 0, v1, v2, v3]] w1 fun e w' => e = .returned (.bool true) ∧ Below w1.heap.size w1 w') := fun w1 v1 v2 v3 hb h => by
    have := pMay_any h (he.below hb) (hf.below hb)
    rw [k_w] at this
    exact this
  have HSA : Hid (∀ w1 v1 v2 v3, PgAt w1 kP v1 v2 v3 → Calls Tryz.prog 18 #[.agg #[.string ⟨#[97]⟩, .int .i64 1, .int .i64 2, .int .i64 0, v1, v2, v3], .agg #[.string ⟨#[97]⟩, .int .i64 1, .int .i64 2, .int .i64 0, v1, v2, v3]] w1 fun e w' => e = .returned (.bool true) ∧ Below w1.heap.size w1 w') := fun w1 v1 v2 v3 h => by
    have := Same_any h h (by decide) (by decide) (by decide)
    rw [eqB_yes rfl] at this
    exact this
  have hkT : kT = ⟨#[112, 97, 99, 107, 97, 103, 101, 32, 97, 32, 49, 46, 50, 46, 48, 10, 110, 101, 101, 100, 115, 32, 98, 32, 94, 49, 46, 48, 46, 48, 10]⟩ := rfl
  have hkO : kO = ⟨#[112, 97, 99, 107, 97, 103, 101, 32, 97, 32, 49, 46, 50, 46, 48, 10, 110, 101, 101, 100, 115, 32, 98, 32, 62, 61, 49, 46, 48, 46, 48, 32, 60, 61, 49, 46, 57, 57, 57, 46, 57, 57, 57, 10]⟩ := rfl
  have htO : kO.toList = [112, 97, 99, 107, 97, 103, 101, 32, 97, 32, 49, 46, 50, 46, 48, 10, 110, 101, 101, 100, 115, 32, 98, 32, 62, 61, 49, 46, 48, 46, 48, 32, 60, 61, 49, 46, 57, 57, 57, 46, 57, 57, 57, 10] := by rw [ByteArray.toList_eq]; rfl
  rw [hkT] at HPA
  clear he hf hkT
  go_enter Tryz.func7, Tryz.ntmps7
  have t1 : True := trivial
  go_wp2_with (first
    | (go_at_call 4; refine HPA.out.mono ?_; rintro e w1 ⟨a1, c1, a2, c2, a3, c3, rfl, hb1, hp1⟩; have HB1 : Hid (Below w.heap.size w (w1.alloc (.cells #[.string ⟨#[97]⟩, .int .i64 1, .int .i64 2, .int .i64 0, .slice a1 1 c1, .slice a2 0 c2, .slice a3 0 c3] 26)) ∧ PgAt (w1.alloc (.cells #[.string ⟨#[97]⟩, .int .i64 1, .int .i64 2, .int .i64 0, .slice a1 1 c1, .slice a2 0 c2, .slice a3 0 c3] 26)) kP (.slice a1 1 c1) (.slice a2 0 c2) (.slice a3 0 c3)) := ⟨below_then hb1 (boxB _ _), hp1.below (boxB _ _)⟩; have HX1 : Hid (BxP (w1.alloc (.cells #[.string ⟨#[97]⟩, .int .i64 1, .int .i64 2, .int .i64 0, .slice a1 1 c1, .slice a2 0 c2, .slice a3 0 c3] 26)) w1.heap.size ⟨#[97]⟩ 1 2 0 (.slice a1 1 c1) (.slice a2 0 c2) (.slice a3 0 c3)) := BxP.new rfl _ _ _ _ _ _ _; clear hb1 hp1)
    | (go_at_call 17; (refine (HPR.out _ _ _ _ HB1.out.1 HB1.out.2).mono ?_; rintro e w2 ⟨rfl, ok⟩; have HB2 : Hid (Below w.heap.size w w2 ∧ PgAt w2 kP (.slice a1 1 c1) (.slice a2 0 c2) (.slice a3 0 c3)) := ⟨below_then HB1.out.1 ok, HB1.out.2.below ok⟩; have HX2 := hide3 (keepBxP _ _ _ _ _ _ _ _ _ _ HX1.out ok); obtain ⟨y0, y1, y2, y3, y4, y5, y6, y7⟩ := HX2.out; clear ok))
    | (go_at_call 10; refine (HMA.out _ _ _ _ HB2.out.1 HB2.out.2).mono ?_; rintro e w3 ⟨rfl, ok⟩; have HB3 : Hid (Below w.heap.size w w3 ∧ PgAt w3 kP (.slice a1 1 c1) (.slice a2 0 c2) (.slice a3 0 c3)) := ⟨below_then HB2.out.1 ok, HB2.out.2.below ok⟩; have HX3 := hide3 (keepBxP _ _ _ _ _ _ _ _ _ _ HX2.out ok); clear y0 y1 y2 y3 y4 y5 y6 y7; obtain ⟨y0, y1, y2, y3, y4, y5, y6, y7⟩ := HX3.out; clear ok)
    | (go_at_call 18; refine (HSA.out _ _ _ _ HB3.out.2).mono ?_; rintro e w4 ⟨rfl, ok⟩; have HB4 := hide3 (below_then HB3.out.1 ok); clear ok))
  go_ret
  exact ⟨rfl, HB4.out⟩
end Go.Proofs.YthoacfmfpbngkaaGreatDoor
namespace Go.Proofs.YthoacfmfpbngkaaGreatDoor
open Go.RowKit
set_option maxRecDepth 100000

theorem doc_is (P : Pg) : docB P = writtenB P := by
  unfold docB writtenB soundB
  cases hl : (mayD P.d && (mayD P.p && mayD P.o))
  · simp
  · rw [Bool.and_eq_true, Bool.and_eq_true] at hl
    have r : ∀ {L : List Dp}, mayD L = true → riseD none L = true := fun h => by unfold mayD at h; rw [Bool.and_eq_true] at h; exact h.2
    unfold onceB
    rw [once_apart (r hl.1) (r hl.2.1) (r hl.2.2)]

end Go.Proofs.YthoacfmfpbngkaaGreatDoor
namespace Go.Proofs.YthoacfmfpbngkaaGreatDoor
open Go.RowKit
set_option maxRecDepth 100000

/-- Lists whose names are short, and which are not too long. -/
def OkL (n : Nat) (L : List Dp) : Prop := L.length ≤ n ∧ ∀ d ∈ L, d.nm.size ≤ 16
theorem readF_ok {X : List Sc.Bs} : ∀ (Lns : List (List Sc.Bs)) (a n : Nat) (acc : List (List Dp)), (∀ L ∈ acc, OkL n L) → (readF X a acc Lns).1 = 0 → ∀ L ∈ (readF X a acc Lns).2, OkL (n + Lns.length) L
  | [], _, _, _, h, _ => h
  | ln :: r, a, n, acc, h, h0 => by
    unfold readF at h0 ⊢
    split at h0
    · cases h0
    · split at h0
      · cases h0
      · split at h0
        · rename_i h1 h2 h3
          rw [if_neg h1, if_neg h2, if_pos h3]
          have hq : ∀ L ∈ acc.set (idxW X (ln.getD 0 [])).toNat (acc.getD (idxW X (ln.getD 0 [])).toNat [] ++ [lineDp ln]), OkL (n + 1) L := fun L hL => by
            rcases List.mem_or_eq_of_mem_set hL with hm | rfl
            · exact ⟨Nat.le_succ_of_le (h L hm).1, (h L hm).2⟩
            · have hg : OkL n (acc.getD (idxW X (ln.getD 0 [])).toNat []) := by
                rw [List.getD_eq_getElem?_getD]
                cases hg : acc[(idxW X (ln.getD 0 [])).toNat]? with
                | none => exact ⟨Nat.zero_le _, fun d hd => by cases hd⟩
                | some L => exact h L (List.mem_of_getElem? hg)
              refine ⟨?_, fun d hd => ?_⟩
              · rw [List.length_append]
                exact Nat.succ_le_succ hg.1
              · rcases List.mem_append.1 hd with hd | hd
                · exact hg.2 d hd
                · obtain rfl := List.mem_singleton.1 hd
                  exact (depE_name h3).2
          have := readF_ok r _ (n + 1) _ hq h0
          intro L hL
          have h5 := this L hL
          refine ⟨?_, h5.2⟩
          have := h5.1
          rw [List.length_cons]
          omega
        · rename_i h1 h2 h3
          exact absurd h0 h3
theorem OkL.getD {n : Nat} {R : List (List Dp)} (h : ∀ L ∈ R, OkL n L) (i : Nat) : OkL n (R.getD i []) := by
  rw [List.getD_eq_getElem?_getD]
  cases hg : R[i]? with
  | none => exact ⟨Nat.zero_le _, fun d hd => by cases hd⟩
  | some L => exact h L (List.mem_of_getElem? hg)
theorem words3_new (w : World) : Sc.WordsAt (w.alloc (.cells #[.string ⟨#[110, 101, 101, 100, 115]⟩, .string ⟨#[98, 101, 115, 105, 100, 101]⟩, .string ⟨#[108, 105, 107, 101, 115]⟩] 9)) (.slice (some ⟨w.heap.size, 0, none⟩) 3 3) pkW := by
  refine ⟨_, 3, rfl, by decide, Or.inr ⟨w.heap.size, 0, rfl, by simp, fun i hi => ?_⟩⟩
  match i, hi with
  | 0, _ => simp; rfl
  | 1, _ => simp; rfl
  | 2, _ => simp; rfl
theorem words3_next (w : World) (a b c : Int) : Sc.WordsAt ((w.alloc (.cells #[.int .i64 a, .int .i64 b, .int .i64 c] 23)).alloc (.cells #[.string ⟨#[110, 101, 101, 100, 115]⟩, .string ⟨#[98, 101, 115, 105, 100, 101]⟩, .string ⟨#[108, 105, 107, 101, 115]⟩] 9)) (.slice (some ⟨w.heap.size + 1, 0, none⟩) 3 3) pkW := by
  have h := words3_new (w.alloc (.cells #[.int .i64 a, .int .i64 b, .int .i64 c] 23))
  have e : (w.alloc (.cells #[.int .i64 a, .int .i64 b, .int .i64 c] 23)).heap.size = w.heap.size + 1 := by simp
  rw [e] at h
  exact h
theorem parPE_bad {t : ByteArray} (h : Sc.ansE t 4096 = 0) {hd : List Sc.Bs} {r : List (List Sc.Bs)} (hL : Sc.ansL t 4096 = hd :: r) (hh : ¬ (hd.head? = some [112, 97, 99, 107, 97, 103, 101] ∧ hd.length = 3)) : parPE t = 22 := by
  unfold parPE
  have e : linesE (hd :: r) = 22 := by
    show (if headE hd = 0 then (readF pkW 0 [[], [], []] r).1 else headE hd) = 22
    have : headE hd = 22 := by unfold headE; rw [if_neg hh]
    rw [this, if_neg (by decide)]
  rw [if_pos h, hL, e, if_neg (by decide)]
theorem parPE_head {t : ByteArray} (h : Sc.ansE t 4096 = 0) {y z : Sc.Bs} {r : List (List Sc.Bs)} (hL : Sc.ansL t 4096 = [[112, 97, 99, 107, 97, 103, 101], y, z] :: r) : parPP t = ⟨Sc.ba y, resA (Sc.ba z), resB (Sc.ba z), resC (Sc.ba z), (readF pkW 0 [[], [], []] r).2.getD 0 [], (readF pkW 0 [[], [], []] r).2.getD 1 [], (readF pkW 0 [[], [], []] r).2.getD 2 []⟩ ∧ parPE t = if Sc.nameA y = true then (if okP (Sc.ba z) = true then (if (readF pkW 0 [[], [], []] r).1 = 0 then (if writtenB ⟨Sc.ba y, resA (Sc.ba z), resB (Sc.ba z), resC (Sc.ba z), (readF pkW 0 [[], [], []] r).2.getD 0 [], (readF pkW 0 [[], [], []] r).2.getD 1 [], (readF pkW 0 [[], [], []] r).2.getD 2 []⟩ = true then 0 else 24) else (readF pkW 0 [[], [], []] r).1) else 20) else 23 := by
  have hp : linesP ([[112, 97, 99, 107, 97, 103, 101], y, z] :: r) = ⟨Sc.ba y, resA (Sc.ba z), resB (Sc.ba z), resC (Sc.ba z), (readF pkW 0 [[], [], []] r).2.getD 0 [], (readF pkW 0 [[], [], []] r).2.getD 1 [], (readF pkW 0 [[], [], []] r).2.getD 2 []⟩ := rfl
  have hh : headE [[112, 97, 99, 107, 97, 103, 101], y, z] = if Sc.nameA y = true then (if okP (Sc.ba z) = true then 0 else 20) else 23 := by
    unfold headE
    rw [if_pos ⟨rfl, rfl⟩]
    rfl
  have he : linesE ([[112, 97, 99, 107, 97, 103, 101], y, z] :: r) = if headE [[112, 97, 99, 107, 97, 103, 101], y, z] = 0 then (readF pkW 0 [[], [], []] r).1 else headE [[112, 97, 99, 107, 97, 103, 101], y, z] := rfl
  unfold parPE parPP
  rw [if_pos h, hL, hp, he, hh]
  refine ⟨rfl, ?_⟩
  cases Sc.nameA y
  · rfl
  · cases okP (Sc.ba z)
    · rfl
    · rfl

end Go.Proofs.YthoacfmfpbngkaaGreatDoor
namespace Go.Proofs.YthoacfmfpbngkaaGreatDoor
open Go.RowKit
set_option maxRecDepth 100000

set_option maxHeartbeats 12800000 in
theorem rParsePk_a (t : ByteArray) (w : World) (hW : ∀ y z r, Sc.ansE t 4096 = 0 → Sc.ansL t 4096 = [[112, 97, 99, 107, 97, 103, 101], y, z] :: r → Sc.nameA y = true → okP (Sc.ba z) = true → False) : Calls Tryz.prog 5 #[.string t] w (PkQ w (parPE t) (parPP t)) := by
  have HLI : Hid (∀ w1, Calls Tryz.prog 11 #[.string t, .int .i64 4096] w1 fun e w' => ∃ v n, e = .returned (.tuple #[v, .int .i64 (Sc.ansE t 4096), .int .i64 n]) ∧ Sc.LinesAt w' v (Sc.ansL t 4096) ∧ Below w1.heap.size w1 w') := fun w1 => by
    have : Calls Tryz.prog 11 #[.string t, .int .i64 4096] w1 (Sc.LinesQ w1 (Sc.ansE t 4096) (Sc.ansN t 4096) (Sc.ansL t 4096)) := by
      by_cases h : (4096 : Int) < (t.size : Int)
      · have := Sc.rLines_far t 4096 h w1
        unfold Sc.ansE Sc.ansN Sc.ansL
        rw [if_pos h, if_pos h, if_pos h]
        exact this
      · exact Sc.rLines_all t (by omega) 4096 w1
    exact this.mono fun e w' ⟨v, h1, h2, h3⟩ => ⟨v, _, h1, by obtain ⟨ps, hp, hl⟩ := h2; rw [← hp]; exact hl.at, h3⟩
  have HSM : Hid (Sc.ansE t 4096 = 0 → SmallL (Sc.ansL t 4096)) := fun h => small_of h
  have HEL : Hid (Sc.ansE t 4096 = 0 → ∀ hd r, Sc.ansL t 4096 = hd :: r → ¬ (hd.head? = some [112, 97, 99, 107, 97, 103, 101] ∧ hd.length = 3) → parPE t = 22) := fun h hd r h1 h2 => parPE_bad h h1 h2
  have HEN : Hid (Sc.ansE t 4096 = 0 → Sc.ansL t 4096 = [] → parPE t = 22) := fun h h1 => by unfold parPE; rw [if_pos h, h1]; rfl
  have HEE : Hid (Sc.ansE t 4096 ≠ 0 → parPE t = Sc.ansE t 4096) := fun h => by unfold parPE; rw [if_neg h]
  have HEH : Hid (Sc.ansE t 4096 = 0 → ∀ y z r, Sc.ansL t 4096 = [[112, 97, 99, 107, 97, 103, 101], y, z] :: r → parPP t = ⟨Sc.ba y, resA (Sc.ba z), resB (Sc.ba z), resC (Sc.ba z), (readF pkW 0 [[], [], []] r).2.getD 0 [], (readF pkW 0 [[], [], []] r).2.getD 1 [], (readF pkW 0 [[], [], []] r).2.getD 2 []⟩ ∧ parPE t = if Sc.nameA y = true then (if okP (Sc.ba z) = true then (if (readF pkW 0 [[], [], []] r).1 = 0 then (if writtenB ⟨Sc.ba y, resA (Sc.ba z), resB (Sc.ba z), resC (Sc.ba z), (readF pkW 0 [[], [], []] r).2.getD 0 [], (readF pkW 0 [[], [], []] r).2.getD 1 [], (readF pkW 0 [[], [], []] r).2.getD 2 []⟩ = true then 0 else 24) else (readF pkW 0 [[], [], []] r).1) else 20) else 23) := fun h y z r h1 => parPE_head h h1
  have HER : Hid (∀ er w', parPE t = er → er ≠ 0 → Below w.heap.size w w' → PkQ w (parPE t) (parPP t) (.returned (.tuple #[.agg #[.string ⟨#[]⟩, .int .i64 0, .int .i64 0, .int .i64 0, .slice none 0 0, .slice none 0 0, .slice none 0 0], .int .i64 er])) w') := fun er w' h1 h2 hb => PkQ.err h1 h2 hb
  have HOK : Hid (∀ v1 v2 v3 w', parPE t = 0 → Below w.heap.size w w' → OwnP w' w.heap.size (parPP t) v1 v2 v3 → PkQ w (parPE t) (parPP t) (.returned (.tuple #[.agg #[.string (parPP t).nm, .int .i64 (parPP t).a, .int .i64 (parPP t).b, .int .i64 (parPP t).c, v1, v2, v3], .int .i64 0])) w') := fun v1 v2 v3 w' h0 hb ho => by
    rw [h0]
    exact ⟨_, _, _, _, v1, v2, v3, rfl, hb, fun _ => ⟨rfl, rfl, rfl, rfl, ho⟩, fun hx => absurd rfl hx⟩
  have HW := hide3 hW
  clear hW
  generalize hHQ : PkQ w (parPE t) (parPP t) = HQ at *
  clear hHQ
  generalize parPE t = PE at *
  generalize parPP t = PM at *
  generalize Sc.ansE t 4096 = AE at *
  generalize Sc.ansL t 4096 = AL at *
  have HB0 : Hid (BxPF (w.alloc (.cells #[.string ⟨#[]⟩, .int .i64 0, .int .i64 0, .int .i64 0, .slice none 0 0, .slice none 0 0, .slice none 0 0] 26)) w.heap.size ⟨#[]⟩ 0 0 0 (.slice none 0 0) (.slice none 0 0) (.slice none 0 0)) := BxPF.new rfl _ _ _ _ _ _ _
  have HKB : Hid (KeepP fun w1 => Below w.heap.size w w1 ∧ BxPF w1 w.heap.size ⟨#[]⟩ 0 0 0 (.slice none 0 0) (.slice none 0 0) (.slice none 0 0)) := (keepBelow w).and (keepBxPF _ _ _ _ _ _ _ _)
  go_enter Tryz.func5, Tryz.ntmps5
  go_upto_region 2 with (go_at_call 11; refine (HLI.out _).mono ?_; rintro e w1 ⟨v, n, rfl, hla, hb1⟩; have HB1 : Hid (Below w.heap.size w w1 ∧ BxPF w1 w.heap.size ⟨#[]⟩ 0 0 0 (.slice none 0 0) (.slice none 0 0) (.slice none 0 0)) := HKB.out _ _ ⟨boxB _ _, HB0.out⟩ hb1; have HLA := hide3 hla; clear hb1 hla)
  obtain ⟨adv, capv, rfl, hc, hcs⟩ := HLA.out
  clear HLI HB0
  by_cases ha : AE = 0
  · subst ha
    cases AL with
    | nil =>
      have hL := HEN.out rfl rfl
      clear hcs HLA
      obtain ⟨⟨b0, b1, b2, b3, b4, b5, b6, b7⟩, hfz⟩ := HB1.out.2
      have f0 := hfz 0 (by decide)
      have f1 := hfz 1 (by decide)
      have f2 := hfz 2 (by decide)
      have f3 := hfz 3 (by decide)
      have f4 := hfz 4 (by decide)
      have f5 := hfz 5 (by decide)
      have f6 := hfz 6 (by decide)
      clear hfz
      have s7 := fun u0 u1 u2 u3 u4 u5 u6 => set7 b0 b1 b2 b3 b4 b5 b6 u0 u1 u2 u3 u4 u5 u6
      rw [List.length_nil]
      go_wp2
      try simp only [Exit.inBlock, Exit.then]
      refine bodyPost_ret (by simp [results, Tryz.results5, s7, go_sem]; try rfl) rfl ?_
      exact HER.out _ _ hL (by decide) (below_set7 (Nat.le_refl _) HB1.out.1)
    | cons h r =>
      obtain ⟨g, o, rfl, hg, hcs⟩ : ∃ g o, adv = some ⟨g, o, none⟩ ∧ g < w1.heap.size ∧ ∀ i (hi : i < (h :: r).length), ∃ u, w1.cell? ⟨g, o + i, none⟩ = some u ∧ Sc.WordsAt w1 u (h :: r)[i] := by
        rcases hcs with h | h
        · cases h
        · exact h
      obtain ⟨u, c0, hu⟩ := hcs 0 (by simp)
      have hr : ∀ i (hi : i < r.length), ∃ u, w1.cell? ⟨g, o + 1 + i, none⟩ = some u ∧ Sc.WordsAt w1 u r[i] := fun i hi => by
        have := hcs (i + 1) (by simpa using hi)
        simpa [Nat.add_assoc, Nat.add_comm 1 i] using this
      have hc' : r.length + 1 ≤ capv := hc
      have c0' : w1.cell? ⟨g, o, none⟩ = some u := c0
      have hu' : Sc.WordsAt w1 u h := hu
      obtain ⟨au, cu, rfl, _, hx⟩ := hu'
      rw [List.length_cons]
      have hb0 : (0 : Int) < (r.length : Int) + 1 := by omega
      have hb1 : (1 : Int) ≤ (r.length : Int) + 1 := by omega
      have hb2 : (r.length : Int) + 1 ≤ (capv : Int) := by omega
      have hb3 : ((r.length : Int) + 1 == 0) = false := by rw [beq_eq_false_iff_ne]; omega
      clear c0 hu hcs HLA
      by_cases h1 : h.length = 3
      · obtain ⟨x, y, z, rfl⟩ : ∃ x y z, h = [x, y, z] := by
          match h, h1 with
          | [x, y, z], _ => exact ⟨x, y, z, rfl⟩
        obtain ⟨gu, ou, rfl, hgu, hx⟩ : ∃ g o, au = some ⟨g, o, none⟩ ∧ g < w1.heap.size ∧ ∀ i (hi : i < [x, y, z].length), w1.cell? ⟨g, o + i, none⟩ = some (.string (Sc.ba [x, y, z][i])) := by
          rcases hx with h | h
          · cases h
          · exact h
        have cx : w1.cell? ⟨gu, ou, none⟩ = some (.string (Sc.ba x)) := hx 0 (by simp)
        have cy : w1.cell? ⟨gu, ou + 1, none⟩ = some (.string (Sc.ba y)) := hx 1 (by simp)
        have cz : w1.cell? ⟨gu, ou + 2, none⟩ = some (.string (Sc.ba z)) := hx 2 (by simp)
        have c0 : w1.cell? ⟨g, o, none⟩ = some (.slice (some ⟨gu, ou, none⟩) 3 cu) := c0'
        clear c0' hx
        by_cases hx1 : x = [112, 97, 99, 107, 97, 103, 101]
        · subst hx1
          have hq : ((Sc.ba [112, 97, 99, 107, 97, 103, 101]).toList == [112, 97, 99, 107, 97, 103, 101]) = true := by rw [ba_toList]; rfl
          obtain ⟨hPM, hPE⟩ := HEH.out rfl y z r rfl
          have hWf := HW.out y z r rfl rfl
          clear HW
          obtain ⟨sm1, sm2, sm3, sm4⟩ := HSM.out rfl
          have hyz := sm4 [[112, 97, 99, 107, 97, 103, 101], y, z] List.mem_cons_self
          have hy5 : y.length ≤ 5000 := hyz y (by simp)
          have hz5 : z.length ≤ 5000 := hyz z (by simp)
          have HN : Hid (∀ w2, Calls Tryz.prog 12 #[.string (Sc.ba y)] w2 fun e w' => e = .returned (.bool (Sc.nameA y)) ∧ w' = w2) := fun w2 => by have := Sc.rName_any (Sc.ba y) (by rw [Sc.ba_size]; omega) w2; rw [Sc.ba_list] at this; exact this
          have HV : Hid (∀ w2, Calls Tryz.prog 13 #[.string (Sc.ba z)] w2 fun e w' => e = .returned (.tuple #[.agg #[.int .i64 (resA (Sc.ba z)), .int .i64 (resB (Sc.ba z)), .int .i64 (resC (Sc.ba z))], .bool (okP (Sc.ba z))]) ∧ Below w2.heap.size w2 w') := fun w2 => rParse_walk _ (by rw [Sc.ba_size]; omega) w2
          have HYZ : Hid ((Sc.ba y).size ≤ 5000) := by unfold Hid; rw [Sc.ba_size]; exact hy5
          have HLS : Hid (∀ w2 vx va, Below w1.heap.size w1 w2 → Sc.WordsAt w2 vx pkW → Sc.LinesAt w1 va r → Calls Tryz.prog 14 #[va, vx] w2 (ReadQ w2 (readF pkW 0 [[], [], []] r))) := fun w2 vx va hb hx hl => rLists_any (X := pkW) (Lns := r) (hl.below hb) hx (by decide) (by decide) (by simp at sm1; omega) (fun ln hm => sm2 ln (List.mem_cons_of_mem _ hm)) (fun ln hm => sm3 ln (List.mem_cons_of_mem _ hm)) (fun ln hm => sm4 ln (List.mem_cons_of_mem _ hm))
          have HRL := hide3 (readF_len (X := pkW) r 0 [[], [], []])
          have HKO : Hid ((readF pkW 0 [[], [], []] r).1 = 0 → ∀ i, OkL (0 + r.length) ((readF pkW 0 [[], [], []] r).2.getD i [])) := fun h0 i => OkL.getD (readF_ok r 0 0 _ (fun L hL => by simp at hL; subst hL; exact ⟨Nat.zero_le _, fun d hd => by cases hd⟩) h0) i
          have hr5 : r.length ≤ 5000 := by simp at sm1; omega
          generalize readF pkW 0 [[], [], []] r = RF at *
          generalize Sc.ba [112, 97, 99, 107, 97, 103, 101] = s0 at *
          generalize Sc.ba y = sy at *
          generalize okP (Sc.ba z) = vb at *
          generalize resA (Sc.ba z) = ra at *
          generalize resB (Sc.ba z) = rb at *
          generalize resC (Sc.ba z) = rc at *
          generalize Sc.ba z = sz at *
          generalize Sc.nameA y = nb at *
          clear HEH HEN HEL HEE HSM sm1 sm2 sm3 sm4 hyz hy5 hz5
          cases nb
          · simp only [Bool.false_eq_true, if_false] at hPE
            obtain ⟨⟨b0, b1, b2, b3, b4, b5, b6, b7⟩, hfz⟩ := HB1.out.2
            have f0 := hfz 0 (by decide)
            have f1 := hfz 1 (by decide)
            have f2 := hfz 2 (by decide)
            have f3 := hfz 3 (by decide)
            have f4 := hfz 4 (by decide)
            have f5 := hfz 5 (by decide)
            have f6 := hfz 6 (by decide)
            clear hfz
            have s7 := fun u0 u1 u2 u3 u4 u5 u6 => set7 b0 b1 b2 b3 b4 b5 b6 u0 u1 u2 u3 u4 u5 u6
            go_wp2_with (go_at_call 12; refine (HN.out _).mono ?_; rintro e w' ⟨rfl, hw'⟩; obtain rfl : w1 = w' := hw'.symm)
            try simp only [Exit.inBlock, Exit.then]
            refine bodyPost_ret (by simp [results, Tryz.results5, s7, go_sem]; try rfl) rfl ?_
            exact HER.out _ _ hPE (by decide) (below_set7 (Nat.le_refl _) HB1.out.1)
          · simp only [if_true] at hPE
            cases vb
            · simp only [Bool.false_eq_true, if_false] at hPE
              go_wp2_with (first
                | (go_at_call 12; refine (HN.out _).mono ?_; rintro e w' ⟨rfl, hw'⟩; obtain rfl : w1 = w' := hw'.symm)
                | (go_at_call 13; refine (HV.out _).mono ?_; rintro e w2 ⟨rfl, ok⟩; have HH := hide3 (HKB.out _ _ (HKB.out _ _ HB1.out ok) (boxB w2 (.cells #[.int .i64 ra, .int .i64 rb, .int .i64 rc] 23))); obtain ⟨⟨b0, b1, b2, b3, b4, b5, b6, b7⟩, hfz⟩ := HH.out.2; have f0 := hfz 0 (by decide); have f1 := hfz 1 (by decide); have f2 := hfz 2 (by decide); have f3 := hfz 3 (by decide); have f4 := hfz 4 (by decide); have f5 := hfz 5 (by decide); have f6 := hfz 6 (by decide); clear hfz; have s7 := fun u0 u1 u2 u3 u4 u5 u6 => set7 b0 b1 b2 b3 b4 b5 b6 u0 u1 u2 u3 u4 u5 u6; clear ok))
              try simp only [Exit.inBlock, Exit.then]
              refine bodyPost_ret (by simp [results, Tryz.results5, s7, go_sem]; try rfl) rfl ?_
              exact HER.out _ _ hPE (by decide) (below_set7 (Nat.le_refl _) HH.out.1)
            · simp only [if_true] at hPE
              exact (hWf rfl rfl).elim
        · have hL := HEL.out rfl _ _ rfl (fun e => hx1 (by simpa using e.1))
          have hq : ((Sc.ba x).toList == [112, 97, 99, 107, 97, 103, 101]) = false := by rw [ba_toList, beq_eq_false_iff_ne]; exact hx1
          generalize Sc.ba x = s0 at *
          obtain ⟨⟨b0, b1, b2, b3, b4, b5, b6, b7⟩, hfz⟩ := HB1.out.2
          have f0 := hfz 0 (by decide)
          have f1 := hfz 1 (by decide)
          have f2 := hfz 2 (by decide)
          have f3 := hfz 3 (by decide)
          have f4 := hfz 4 (by decide)
          have f5 := hfz 5 (by decide)
          have f6 := hfz 6 (by decide)
          clear hfz
          have s7 := fun u0 u1 u2 u3 u4 u5 u6 => set7 b0 b1 b2 b3 b4 b5 b6 u0 u1 u2 u3 u4 u5 u6
          go_wp2
          try simp only [Exit.inBlock, Exit.then]
          refine bodyPost_ret (by simp [results, Tryz.results5, s7, go_sem]; try rfl) rfl ?_
          exact HER.out _ _ hL (by decide) (below_set7 (Nat.le_refl _) HB1.out.1)
      · have hL := HEL.out rfl _ _ rfl (fun e => h1 e.2)
        have hb4 : ((h.length : Int) == 3) = false := by rw [beq_eq_false_iff_ne]; omega
        obtain ⟨⟨b0, b1, b2, b3, b4, b5, b6, b7⟩, hfz⟩ := HB1.out.2
        have f0 := hfz 0 (by decide)
        have f1 := hfz 1 (by decide)
        have f2 := hfz 2 (by decide)
        have f3 := hfz 3 (by decide)
        have f4 := hfz 4 (by decide)
        have f5 := hfz 5 (by decide)
        have f6 := hfz 6 (by decide)
        clear hfz
        have s7 := fun u0 u1 u2 u3 u4 u5 u6 => set7 b0 b1 b2 b3 b4 b5 b6 u0 u1 u2 u3 u4 u5 u6
        go_wp2
        try simp only [Exit.inBlock, Exit.then]
        refine bodyPost_ret (by simp [results, Tryz.results5, s7, go_sem]; try rfl) rfl ?_
        exact HER.out _ _ hL (by decide) (below_set7 (Nat.le_refl _) HB1.out.1)
  · have hL := HEE.out ha
    have hre : (AE == 0) = false := by simpa using ha
    clear hcs HLA
    obtain ⟨⟨b0, b1, b2, b3, b4, b5, b6, b7⟩, hfz⟩ := HB1.out.2
    have f0 := hfz 0 (by decide)
    have f1 := hfz 1 (by decide)
    have f2 := hfz 2 (by decide)
    have f3 := hfz 3 (by decide)
    have f4 := hfz 4 (by decide)
    have f5 := hfz 5 (by decide)
    have f6 := hfz 6 (by decide)
    clear hfz
    have s7 := fun u0 u1 u2 u3 u4 u5 u6 => set7 b0 b1 b2 b3 b4 b5 b6 u0 u1 u2 u3 u4 u5 u6
    go_wp2
    try simp only [Exit.inBlock, Exit.then]
    refine bodyPost_ret (by simp [results, Tryz.results5, s7, go_sem]; try rfl) rfl ?_
    exact HER.out _ _ hL ha (below_set7 (Nat.le_refl _) HB1.out.1)
end Go.Proofs.YthoacfmfpbngkaaGreatDoor
namespace Go.Proofs.YthoacfmfpbngkaaGreatDoor
open Go.RowKit
set_option maxRecDepth 100000

set_option maxHeartbeats 12800000 in
theorem rParsePk_b (t : ByteArray) (w : World) (y z : Sc.Bs) (r : List (List Sc.Bs)) (hE : Sc.ansE t 4096 = 0) (hAL : Sc.ansL t 4096 = [[112, 97, 99, 107, 97, 103, 101], y, z] :: r) (hNA : Sc.nameA y = true) (hVA : okP (Sc.ba z) = true) (hR : (readF pkW 0 [[], [], []] r).1 ≠ 0) : Calls Tryz.prog 5 #[.string t] w (PkQ w (parPE t) (parPP t)) := by
  have HLI : Hid (∀ w1, Calls Tryz.prog 11 #[.string t, .int .i64 4096] w1 fun e w' => ∃ v n, e = .returned (.tuple #[v, .int .i64 (Sc.ansE t 4096), .int .i64 n]) ∧ Sc.LinesAt w' v (Sc.ansL t 4096) ∧ Below w1.heap.size w1 w') := fun w1 => by
    have : Calls Tryz.prog 11 #[.string t, .int .i64 4096] w1 (Sc.LinesQ w1 (Sc.ansE t 4096) (Sc.ansN t 4096) (Sc.ansL t 4096)) := by
      by_cases h : (4096 : Int) < (t.size : Int)
      · have := Sc.rLines_far t 4096 h w1
        unfold Sc.ansE Sc.ansN Sc.ansL
        rw [if_pos h, if_pos h, if_pos h]
        exact this
      · exact Sc.rLines_all t (by omega) 4096 w1
    exact this.mono fun e w' ⟨v, h1, h2, h3⟩ => ⟨v, _, h1, by obtain ⟨ps, hp, hl⟩ := h2; rw [← hp]; exact hl.at, h3⟩
  have HSM : Hid (Sc.ansE t 4096 = 0 → SmallL (Sc.ansL t 4096)) := fun h => small_of h
  have HEL : Hid (Sc.ansE t 4096 = 0 → ∀ hd r, Sc.ansL t 4096 = hd :: r → ¬ (hd.head? = some [112, 97, 99, 107, 97, 103, 101] ∧ hd.length = 3) → parPE t = 22) := fun h hd r h1 h2 => parPE_bad h h1 h2
  have HEN : Hid (Sc.ansE t 4096 = 0 → Sc.ansL t 4096 = [] → parPE t = 22) := fun h h1 => by unfold parPE; rw [if_pos h, h1]; rfl
  have HEE : Hid (Sc.ansE t 4096 ≠ 0 → parPE t = Sc.ansE t 4096) := fun h => by unfold parPE; rw [if_neg h]
  have HEH : Hid (Sc.ansE t 4096 = 0 → ∀ y z r, Sc.ansL t 4096 = [[112, 97, 99, 107, 97, 103, 101], y, z] :: r → parPP t = ⟨Sc.ba y, resA (Sc.ba z), resB (Sc.ba z), resC (Sc.ba z), (readF pkW 0 [[], [], []] r).2.getD 0 [], (readF pkW 0 [[], [], []] r).2.getD 1 [], (readF pkW 0 [[], [], []] r).2.getD 2 []⟩ ∧ parPE t = if Sc.nameA y = true then (if okP (Sc.ba z) = true then (if (readF pkW 0 [[], [], []] r).1 = 0 then (if writtenB ⟨Sc.ba y, resA (Sc.ba z), resB (Sc.ba z), resC (Sc.ba z), (readF pkW 0 [[], [], []] r).2.getD 0 [], (readF pkW 0 [[], [], []] r).2.getD 1 [], (readF pkW 0 [[], [], []] r).2.getD 2 []⟩ = true then 0 else 24) else (readF pkW 0 [[], [], []] r).1) else 20) else 23) := fun h y z r h1 => parPE_head h h1
  have HER : Hid (∀ er w', parPE t = er → er ≠ 0 → Below w.heap.size w w' → PkQ w (parPE t) (parPP t) (.returned (.tuple #[.agg #[.string ⟨#[]⟩, .int .i64 0, .int .i64 0, .int .i64 0, .slice none 0 0, .slice none 0 0, .slice none 0 0], .int .i64 er])) w') := fun er w' h1 h2 hb => PkQ.err h1 h2 hb
  have HOK : Hid (∀ v1 v2 v3 w', parPE t = 0 → Below w.heap.size w w' → OwnP w' w.heap.size (parPP t) v1 v2 v3 → PkQ w (parPE t) (parPP t) (.returned (.tuple #[.agg #[.string (parPP t).nm, .int .i64 (parPP t).a, .int .i64 (parPP t).b, .int .i64 (parPP t).c, v1, v2, v3], .int .i64 0])) w') := fun v1 v2 v3 w' h0 hb ho => by
    rw [h0]
    exact ⟨_, _, _, _, v1, v2, v3, rfl, hb, fun _ => ⟨rfl, rfl, rfl, rfl, ho⟩, fun hx => absurd rfl hx⟩
  have HNA := hide3 hNA
  have HVA := hide3 hVA
  have HR := hide3 hR
  clear hNA hVA hR
  generalize hHQ : PkQ w (parPE t) (parPP t) = HQ at *
  clear hHQ
  generalize parPE t = PE at *
  generalize parPP t = PM at *
  generalize Sc.ansE t 4096 = AE at *
  generalize Sc.ansL t 4096 = AL at *
  have HB0 : Hid (BxPF (w.alloc (.cells #[.string ⟨#[]⟩, .int .i64 0, .int .i64 0, .int .i64 0, .slice none 0 0, .slice none 0 0, .slice none 0 0] 26)) w.heap.size ⟨#[]⟩ 0 0 0 (.slice none 0 0) (.slice none 0 0) (.slice none 0 0)) := BxPF.new rfl _ _ _ _ _ _ _
  have HKB : Hid (KeepP fun w1 => Below w.heap.size w w1 ∧ BxPF w1 w.heap.size ⟨#[]⟩ 0 0 0 (.slice none 0 0) (.slice none 0 0) (.slice none 0 0)) := (keepBelow w).and (keepBxPF _ _ _ _ _ _ _ _)
  go_enter Tryz.func5, Tryz.ntmps5
  go_upto_region 2 with (go_at_call 11; refine (HLI.out _).mono ?_; rintro e w1 ⟨v, n, rfl, hla, hb1⟩; have HB1 : Hid (Below w.heap.size w w1 ∧ BxPF w1 w.heap.size ⟨#[]⟩ 0 0 0 (.slice none 0 0) (.slice none 0 0) (.slice none 0 0)) := HKB.out _ _ ⟨boxB _ _, HB0.out⟩ hb1; have HLA := hide3 hla; clear hb1 hla)
  obtain ⟨adv, capv, rfl, hc, hcs⟩ := HLA.out
  clear HLI HB0
  subst hE
  subst hAL
  obtain ⟨g, o, rfl, hg, hcs⟩ : ∃ g o, adv = some ⟨g, o, none⟩ ∧ g < w1.heap.size ∧ ∀ i (hi : i < ([[112, 97, 99, 107, 97, 103, 101], y, z] :: r).length), ∃ u, w1.cell? ⟨g, o + i, none⟩ = some u ∧ Sc.WordsAt w1 u ([[112, 97, 99, 107, 97, 103, 101], y, z] :: r)[i] := by
    rcases hcs with h | h
    · cases h
    · exact h
  obtain ⟨u, c0, hu⟩ := hcs 0 (by simp)
  have hr : ∀ i (hi : i < r.length), ∃ u, w1.cell? ⟨g, o + 1 + i, none⟩ = some u ∧ Sc.WordsAt w1 u r[i] := fun i hi => by
    have := hcs (i + 1) (by simpa using hi)
    simpa [Nat.add_assoc, Nat.add_comm 1 i] using this
  have hc' : r.length + 1 ≤ capv := hc
  have c0' : w1.cell? ⟨g, o, none⟩ = some u := c0
  have hu' : Sc.WordsAt w1 u [[112, 97, 99, 107, 97, 103, 101], y, z] := hu
  obtain ⟨au, cu, rfl, _, hx⟩ := hu'
  rw [List.length_cons]
  have hb0 : (0 : Int) < (r.length : Int) + 1 := by omega
  have hb1 : (1 : Int) ≤ (r.length : Int) + 1 := by omega
  have hb2 : (r.length : Int) + 1 ≤ (capv : Int) := by omega
  have hb3 : ((r.length : Int) + 1 == 0) = false := by rw [beq_eq_false_iff_ne]; omega
  clear c0 hu hcs HLA
  obtain ⟨gu, ou, rfl, hgu, hx⟩ : ∃ g o, au = some ⟨g, o, none⟩ ∧ g < w1.heap.size ∧ ∀ i (hi : i < [[112, 97, 99, 107, 97, 103, 101], y, z].length), w1.cell? ⟨g, o + i, none⟩ = some (.string (Sc.ba [[112, 97, 99, 107, 97, 103, 101], y, z][i])) := by
    rcases hx with h | h
    · cases h
    · exact h
  have cx : w1.cell? ⟨gu, ou, none⟩ = some (.string (Sc.ba [112, 97, 99, 107, 97, 103, 101])) := hx 0 (by simp)
  have cy : w1.cell? ⟨gu, ou + 1, none⟩ = some (.string (Sc.ba y)) := hx 1 (by simp)
  have cz : w1.cell? ⟨gu, ou + 2, none⟩ = some (.string (Sc.ba z)) := hx 2 (by simp)
  have c0 : w1.cell? ⟨g, o, none⟩ = some (.slice (some ⟨gu, ou, none⟩) 3 cu) := c0'
  clear c0' hx
  have hq : ((Sc.ba [112, 97, 99, 107, 97, 103, 101]).toList == [112, 97, 99, 107, 97, 103, 101]) = true := by rw [ba_toList]; rfl
  obtain ⟨hPM, hPE⟩ := HEH.out rfl y z r rfl
  obtain ⟨sm1, sm2, sm3, sm4⟩ := HSM.out rfl
  have hyz := sm4 [[112, 97, 99, 107, 97, 103, 101], y, z] List.mem_cons_self
  have hy5 : y.length ≤ 5000 := hyz y (by simp)
  have hz5 : z.length ≤ 5000 := hyz z (by simp)
  have HN : Hid (∀ w2, Calls Tryz.prog 12 #[.string (Sc.ba y)] w2 fun e w' => e = .returned (.bool (Sc.nameA y)) ∧ w' = w2) := fun w2 => by have := Sc.rName_any (Sc.ba y) (by rw [Sc.ba_size]; omega) w2; rw [Sc.ba_list] at this; exact this
  have HV : Hid (∀ w2, Calls Tryz.prog 13 #[.string (Sc.ba z)] w2 fun e w' => e = .returned (.tuple #[.agg #[.int .i64 (resA (Sc.ba z)), .int .i64 (resB (Sc.ba z)), .int .i64 (resC (Sc.ba z))], .bool (okP (Sc.ba z))]) ∧ Below w2.heap.size w2 w') := fun w2 => rParse_walk _ (by rw [Sc.ba_size]; omega) w2
  have HYZ : Hid ((Sc.ba y).size ≤ 5000) := by unfold Hid; rw [Sc.ba_size]; exact hy5
  have HLS : Hid (∀ w2 vx va, Below w1.heap.size w1 w2 → Sc.WordsAt w2 vx pkW → Sc.LinesAt w1 va r → Calls Tryz.prog 14 #[va, vx] w2 (ReadQ w2 (readF pkW 0 [[], [], []] r))) := fun w2 vx va hb hx hl => rLists_any (X := pkW) (Lns := r) (hl.below hb) hx (by decide) (by decide) (by simp at sm1; omega) (fun ln hm => sm2 ln (List.mem_cons_of_mem _ hm)) (fun ln hm => sm3 ln (List.mem_cons_of_mem _ hm)) (fun ln hm => sm4 ln (List.mem_cons_of_mem _ hm))
  have HRL := hide3 (readF_len (X := pkW) r 0 [[], [], []])
  have HKO : Hid ((readF pkW 0 [[], [], []] r).1 = 0 → ∀ i, OkL (0 + r.length) ((readF pkW 0 [[], [], []] r).2.getD i [])) := fun h0 i => OkL.getD (readF_ok r 0 0 _ (fun L hL => by simp at hL; subst hL; exact ⟨Nat.zero_le _, fun d hd => by cases hd⟩) h0) i
  have hr5 : r.length ≤ 5000 := by simp at sm1; omega
  generalize readF pkW 0 [[], [], []] r = RF at *
  generalize Sc.ba [112, 97, 99, 107, 97, 103, 101] = s0 at *
  generalize Sc.ba y = sy at *
  generalize okP (Sc.ba z) = vb at *
  generalize resA (Sc.ba z) = ra at *
  generalize resB (Sc.ba z) = rb at *
  generalize resC (Sc.ba z) = rc at *
  generalize Sc.ba z = sz at *
  generalize Sc.nameA y = nb at *
  clear HEH HEN HEL HEE HSM sm1 sm2 sm3 sm4 hyz hy5 hz5
  obtain rfl := HNA.out
  obtain rfl := HVA.out
  have hr0 := HR.out
  simp only [if_true] at hPE
  by_cases hcap : capv = 1
  · subst hcap
    obtain rfl : r = [] := List.eq_nil_of_length_eq_zero (by omega)
    have HL2 : Hid (∀ w2 vx, Below w1.heap.size w1 w2 → Sc.WordsAt w2 vx pkW → Calls Tryz.prog 14 #[.slice (some ⟨g, o, none⟩) 0 0, vx] w2 (ReadQ w2 RF)) := fun w2 vx hb hx => HLS.out w2 vx _ hb hx ⟨_, 0, rfl, Nat.le_refl _, Or.inl rfl⟩
    clear hr HLS hb0 hb1 hb2 hb3
    rw [List.length_nil]
    have HWA : Hid (∀ w2 : World, Sc.WordsAt ((w2.alloc (.cells #[.int .i64 ra, .int .i64 rb, .int .i64 rc] 23)).alloc (.cells #[.string ⟨#[110, 101, 101, 100, 115]⟩, .string ⟨#[98, 101, 115, 105, 100, 101]⟩, .string ⟨#[108, 105, 107, 101, 115]⟩] 9)) (.slice (some ⟨w2.heap.size + 1, 0, none⟩) 3 3) pkW) := fun w2 => words3_next w2 _ _ _
    rw [if_neg hr0] at hPE
    have hre : (RF.1 == 0) = false := by simpa using hr0
    go_wp2_with (first
      | (go_at_call 12; refine (HN.out _).mono ?_; rintro e w' ⟨rfl, hw'⟩; obtain rfl : w1 = w' := hw'.symm)
      | (go_at_call 13; refine (HV.out _).mono ?_; rintro e w2 ⟨rfl, ok⟩; have HB3 : Hid (Below w1.heap.size w1 (w2.alloc (.cells #[.int .i64 ra, .int .i64 rb, .int .i64 rc] 23))) := below_then ok (boxB _ _); have hw2 : w1.heap.size ≤ w2.heap.size := ok.size; clear ok)
      | (go_at_call 14; refine (HL2.out ((w2.alloc (.cells #[.int .i64 ra, .int .i64 rb, .int .i64 rc] 23)).alloc (.cells #[.string ⟨#[110, 101, 101, 100, 115]⟩, .string ⟨#[98, 101, 115, 105, 100, 101]⟩, .string ⟨#[108, 105, 107, 101, 115]⟩] 9)) (.slice (some ⟨w2.heap.size + 1, 0, none⟩) 3 3) (below_then HB3.out (boxB _ _)) (HWA.out w2)).mono ?_; rintro e w6 ⟨vr, rfl, hb6, _, herr6⟩; obtain rfl := herr6 hr0; have HH := hide3 (HKB.out _ _ HB1.out (below_then (below_then HB3.out (boxB _ _)) hb6)); obtain ⟨⟨b0, b1, b2, b3, b4, b5, b6, b7⟩, hfz⟩ := HH.out.2; have f0 := hfz 0 (by decide); have f1 := hfz 1 (by decide); have f2 := hfz 2 (by decide); have f3 := hfz 3 (by decide); have f4 := hfz 4 (by decide); have f5 := hfz 5 (by decide); have f6 := hfz 6 (by decide); clear hfz; have s7 := fun u0 u1 u2 u3 u4 u5 u6 => set7 b0 b1 b2 b3 b4 b5 b6 u0 u1 u2 u3 u4 u5 u6; clear hb6))
    try simp only [Exit.inBlock, Exit.then]
    refine bodyPost_ret (by simp [results, Tryz.results5, s7, go_sem]; try rfl) rfl ?_
    exact HER.out _ _ hPE hr0 (below_set7 (Nat.le_refl _) HH.out.1)
  · have HL2 : Hid (∀ w2 vx, Below w1.heap.size w1 w2 → Sc.WordsAt w2 vx pkW → Calls Tryz.prog 14 #[.slice (some ⟨g, o + 1, none⟩) r.length (capv - 1), vx] w2 (ReadQ w2 RF)) := fun w2 vx hb hx => HLS.out w2 vx _ hb hx ⟨_, _, rfl, by omega, Or.inr ⟨g, o + 1, rfl, hg, hr⟩⟩
    clear hr HLS
    have HWA : Hid (∀ w2 : World, Sc.WordsAt ((w2.alloc (.cells #[.int .i64 ra, .int .i64 rb, .int .i64 rc] 23)).alloc (.cells #[.string ⟨#[110, 101, 101, 100, 115]⟩, .string ⟨#[98, 101, 115, 105, 100, 101]⟩, .string ⟨#[108, 105, 107, 101, 115]⟩] 9)) (.slice (some ⟨w2.heap.size + 1, 0, none⟩) 3 3) pkW) := fun w2 => words3_next w2 _ _ _
    rw [if_neg hr0] at hPE
    have hre : (RF.1 == 0) = false := by simpa using hr0
    go_wp2_with (first
      | (go_at_call 12; refine (HN.out _).mono ?_; rintro e w' ⟨rfl, hw'⟩; obtain rfl : w1 = w' := hw'.symm)
      | (go_at_call 13; refine (HV.out _).mono ?_; rintro e w2 ⟨rfl, ok⟩; have HB3 : Hid (Below w1.heap.size w1 (w2.alloc (.cells #[.int .i64 ra, .int .i64 rb, .int .i64 rc] 23))) := below_then ok (boxB _ _); have hw2 : w1.heap.size ≤ w2.heap.size := ok.size; clear ok)
      | (go_at_call 14; refine (HL2.out ((w2.alloc (.cells #[.int .i64 ra, .int .i64 rb, .int .i64 rc] 23)).alloc (.cells #[.string ⟨#[110, 101, 101, 100, 115]⟩, .string ⟨#[98, 101, 115, 105, 100, 101]⟩, .string ⟨#[108, 105, 107, 101, 115]⟩] 9)) (.slice (some ⟨w2.heap.size + 1, 0, none⟩) 3 3) (below_then HB3.out (boxB _ _)) (HWA.out w2)).mono ?_; rintro e w6 ⟨vr, rfl, hb6, _, herr6⟩; obtain rfl := herr6 hr0; have HH := hide3 (HKB.out _ _ HB1.out (below_then (below_then HB3.out (boxB _ _)) hb6)); obtain ⟨⟨b0, b1, b2, b3, b4, b5, b6, b7⟩, hfz⟩ := HH.out.2; have f0 := hfz 0 (by decide); have f1 := hfz 1 (by decide); have f2 := hfz 2 (by decide); have f3 := hfz 3 (by decide); have f4 := hfz 4 (by decide); have f5 := hfz 5 (by decide); have f6 := hfz 6 (by decide); clear hfz; have s7 := fun u0 u1 u2 u3 u4 u5 u6 => set7 b0 b1 b2 b3 b4 b5 b6 u0 u1 u2 u3 u4 u5 u6; clear hb6))
    try simp only [Exit.inBlock, Exit.then]
    refine bodyPost_ret (by simp [results, Tryz.results5, s7, go_sem]; try rfl) rfl ?_
    exact HER.out _ _ hPE hr0 (below_set7 (Nat.le_refl _) HH.out.1)
end Go.Proofs.YthoacfmfpbngkaaGreatDoor
