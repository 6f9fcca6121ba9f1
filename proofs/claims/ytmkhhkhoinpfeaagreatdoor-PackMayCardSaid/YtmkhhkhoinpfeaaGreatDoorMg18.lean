/- Ps8, PsK, Rk7, Env1, RowS, RwD, RwP, laid in one text. -/
import Derived.Deep.CutRange
import Derived.Test.YtmkhhkhoinpfeaaGreatDoorMg17
namespace Go.Proofs.YtmkhhkhoinpfeaaGreatDoor
open Go.RowKit
set_option maxRecDepth 100000

/-- What Parse answers. -/
noncomputable def parPE (t : ByteArray) : Int := if Sc.ansE t 4096 = 0 then (if linesE (Sc.ansL t 4096) = 0 then (if writtenB (linesP (Sc.ansL t 4096)) = true then 0 else 24) else linesE (Sc.ansL t 4096)) else Sc.ansE t 4096
def parPP (t : ByteArray) : Pg := linesP (Sc.ansL t 4096)

set_option maxHeartbeats 6400000 in
theorem Parse_pk (t : ByteArray) {w : World} (he : Env w) (hf : FL w) : Calls Tryz.prog 16 #[.string t] w (PkQ w (parPE t) (parPP t)) := by
  have HLI : Hid (∀ w1, Calls Tryz.prog 29 #[.string t, .int .i64 4096] w1 fun e w' => ∃ v n, e = .returned (.tuple #[v, .int .i64 (Sc.ansE t 4096), .int .i64 n]) ∧ Sc.LinesAt w' v (Sc.ansL t 4096) ∧ Below w1.heap.size w1 w') := fun w1 => (lines_4096 t w1).mono fun e w' ⟨v, h1, h2, h3⟩ => ⟨v, _, h1, by obtain ⟨ps, hp, hl⟩ := h2; rw [← hp]; exact hl.at, h3⟩
  have HRL : Hid (Sc.ansE t 4096 = 0 → ∀ w1 v, Below w.heap.size w w1 → Sc.LinesAt w1 v (Sc.ansL t 4096) → Calls Tryz.prog 30 #[v] w1 (PkQ w1 (linesE (Sc.ansL t 4096)) (linesP (Sc.ansL t 4096)))) := fun h0 w1 v hb hl => by
    obtain ⟨s1, s2, s3, s4⟩ := small_of h0
    exact readLines_any hl s2 s1 s3 s4 (he.below hb) (hf.below hb)
  have HMA : Hid (∀ w1 (P : Pg) v1 v2 v3, Below w.heap.size w w1 → PgAt w1 P v1 v2 v3 → Calls Tryz.prog 9 #[.agg #[.string P.nm, .int .i64 P.a, .int .i64 P.b, .int .i64 P.c, v1, v2, v3]] w1 fun e w' => e = .returned (.bool (writtenB P)) ∧ Below w1.heap.size w1 w') := fun w1 P v1 v2 v3 hb h => pMay_any h (he.below hb) (hf.below hb)
  have HE : Hid (parPE t = if Sc.ansE t 4096 = 0 then (if linesE (Sc.ansL t 4096) = 0 then (if writtenB (linesP (Sc.ansL t 4096)) = true then 0 else 24) else linesE (Sc.ansL t 4096)) else Sc.ansE t 4096) := rfl
  have HPP : Hid (parPP t = linesP (Sc.ansL t 4096)) := rfl
  have HER : Hid (∀ er w', parPE t = er → er ≠ 0 → Below w.heap.size w w' → PkQ w (parPE t) (parPP t) (.returned (.tuple #[.agg #[.string ⟨#[]⟩, .int .i64 0, .int .i64 0, .int .i64 0, .slice none 0 0, .slice none 0 0, .slice none 0 0], .int .i64 er])) w') := fun er w' h1 h2 hb => PkQ.err h1 h2 hb
  have HOK : Hid (∀ v1 v2 v3 w', parPE t = 0 → Below w.heap.size w w' → OwnP w' w.heap.size (linesP (Sc.ansL t 4096)) v1 v2 v3 → PkQ w (parPE t) (parPP t) (.returned (.tuple #[.agg #[.string (linesP (Sc.ansL t 4096)).nm, .int .i64 (linesP (Sc.ansL t 4096)).a, .int .i64 (linesP (Sc.ansL t 4096)).b, .int .i64 (linesP (Sc.ansL t 4096)).c, v1, v2, v3], .int .i64 0])) w') := fun v1 v2 v3 w' h0 hb ho => by
    rw [h0]
    exact ⟨_, _, _, _, v1, v2, v3, rfl, hb, fun _ => ⟨rfl, rfl, rfl, rfl, ho⟩, fun hx => absurd rfl hx⟩
  have HPQ : Hid (∀ w1 er P e w', PkQ w1 er P e w' → ∃ s a b c v1 v2 v3, e = .returned (.tuple #[.agg #[.string s, .int .i64 a, .int .i64 b, .int .i64 c, v1, v2, v3], .int .i64 er]) ∧ Below w1.heap.size w1 w' ∧ (er = 0 → s = P.nm ∧ a = P.a ∧ b = P.b ∧ c = P.c ∧ OwnP w' w1.heap.size P v1 v2 v3) ∧ (∃ a1 k1 c1 a2 k2 c2 a3 k3 c3, v1 = .slice a1 k1 c1 ∧ v2 = .slice a2 k2 c2 ∧ v3 = .slice a3 k3 c3)) := fun w1 er P e w' h => by
    obtain ⟨s, a, b, c, v1, v2, v3, h1, h2, h3, h4⟩ := h
    refine ⟨s, a, b, c, v1, v2, v3, h1, h2, h3, ?_⟩
    by_cases h0 : er = 0
    · obtain ⟨q1, q2, q3, o1, o2, o3⟩ := (h3 h0).2.2.2.2
      obtain ⟨a1, c1, e1⟩ := o1.1.len
      obtain ⟨a2, c2, e2⟩ := o2.1.len
      obtain ⟨a3, c3, e3⟩ := o3.1.len
      exact ⟨_, _, _, _, _, _, _, _, _, e1, e2, e3⟩
    · obtain ⟨_, _, _, _, e1, e2, e3⟩ := h4 h0
      exact ⟨_, _, _, _, _, _, _, _, _, e1, e2, e3⟩
  clear he hf
  generalize hHQ : PkQ w (parPE t) (parPP t) = HQ at *
  clear hHQ HPP
  generalize parPE t = PE at *
  generalize Sc.ansE t 4096 = AE at *
  generalize Sc.ansL t 4096 = AL at *
  generalize linesE AL = LE at *
  generalize linesP AL = LP at *
  have HB0 : Hid (BxPF (w.alloc (.cells #[.string ⟨#[]⟩, .int .i64 0, .int .i64 0, .int .i64 0, .slice none 0 0, .slice none 0 0, .slice none 0 0] 26)) w.heap.size ⟨#[]⟩ 0 0 0 (.slice none 0 0) (.slice none 0 0) (.slice none 0 0)) := BxPF.new rfl _ _ _ _ _ _ _
  have HKB : Hid (KeepP fun w1 => BxPF w1 w.heap.size ⟨#[]⟩ 0 0 0 (.slice none 0 0) (.slice none 0 0) (.slice none 0 0)) := keepBxPF _ _ _ _ _ _ _ _
  by_cases ha : AE = 0
  · subst ha
    have HR2 := hide3 (HRL.out rfl)
    by_cases hl : LE = 0
    · subst hl
      have HMB : Hid (∀ w1 v1 v2 v3, Below w.heap.size w w1 → PgAt w1 LP v1 v2 v3 → Calls Tryz.prog 9 #[.agg #[.string LP.nm, .int .i64 LP.a, .int .i64 LP.b, .int .i64 LP.c, v1, v2, v3]] w1 fun e w' => e = .returned (.bool (writtenB LP)) ∧ Below w1.heap.size w1 w') := fun w1 v1 v2 v3 hb h => HMA.out w1 LP v1 v2 v3 hb h
      cases hwb : writtenB LP
      · have hL : PE = 24 := by rw [HE.out]; simp [hwb]
        rw [hwb] at HMB
        go_enter Tryz.func16, Tryz.ntmps16
        go_upto_region 7 with (first
          | (go_at_call 29; refine (HLI.out _).mono ?_; rintro e w1 ⟨v, n, rfl, hla, hb1⟩; have HLA := hide3 hla; have HB1 : Hid (Below w.heap.size w w1 ∧ BxPF w1 w.heap.size ⟨#[]⟩ 0 0 0 (.slice none 0 0) (.slice none 0 0) (.slice none 0 0)) := ⟨below_then (boxB _ _) hb1, HKB.out _ _ HB0.out hb1⟩; obtain ⟨adv, capv, rfl, _⟩ := hla; clear hb1)
          | (go_at_call 30; refine (HR2.out _ _ HB1.out.1 HLA.out).mono ?_; rintro e w2 hq; obtain ⟨s, a, b, c, v1, v2, v3, rfl, hb2, hok2, a1, k1, c1, a2, k2, c2, a3, k3, c3, rfl, rfl, rfl⟩ := HPQ.out _ _ _ _ _ hq; obtain ⟨rfl, rfl, rfl, rfl, how⟩ := hok2 rfl; have HB3 : Hid (Below w.heap.size w (w2.alloc (.cells #[.string LP.nm, .int .i64 LP.a, .int .i64 LP.b, .int .i64 LP.c, .slice a1 k1 c1, .slice a2 k2 c2, .slice a3 k3 c3] 26)) ∧ BxPF (w2.alloc (.cells #[.string LP.nm, .int .i64 LP.a, .int .i64 LP.b, .int .i64 LP.c, .slice a1 k1 c1, .slice a2 k2 c2, .slice a3 k3 c3] 26)) w.heap.size ⟨#[]⟩ 0 0 0 (.slice none 0 0) (.slice none 0 0) (.slice none 0 0) ∧ OwnP (w2.alloc (.cells #[.string LP.nm, .int .i64 LP.a, .int .i64 LP.b, .int .i64 LP.c, .slice a1 k1 c1, .slice a2 k2 c2, .slice a3 k3 c3] 26)) w1.heap.size LP (.slice a1 k1 c1) (.slice a2 k2 c2) (.slice a3 k3 c3)) := ⟨below_then (below_then HB1.out.1 hb2) (boxB _ _), HKB.out _ _ (HKB.out _ _ HB1.out.2 hb2) (boxB _ _), how.below (boxB _ _)⟩; clear hb2 hq hok2 how))
        have HB12 : Hid (w.heap.size < w1.heap.size) := HB1.out.2.1.2.2.2.2.2.2.2
        have HY3 : Hid (BxPF (w2.alloc (.cells #[.string LP.nm, .int .i64 LP.a, .int .i64 LP.b, .int .i64 LP.c, .slice a1 k1 c1, .slice a2 k2 c2, .slice a3 k3 c3] 26)) w2.heap.size LP.nm LP.a LP.b LP.c (.slice a1 k1 c1) (.slice a2 k2 c2) (.slice a3 k3 c3)) := BxPF.new rfl _ _ _ _ _ _ _
        generalize w2.alloc (.cells #[.string LP.nm, .int .i64 LP.a, .int .i64 LP.b, .int .i64 LP.c, .slice a1 k1 c1, .slice a2 k2 c2, .slice a3 k3 c3] 26) = w3 at *
        generalize w2.heap.size = M at *
        obtain ⟨⟨y0, y1, y2, y3, y4, y5, y6, y7⟩, _⟩ := HY3.out
        go_wp2_with (go_at_call 9; refine (HMB.out _ _ _ _ HB3.out.1 HB3.out.2.2.at).mono ?_; rintro e w4 ⟨rfl, ok4⟩; have HO4 : Hid (Below w.heap.size w w4 ∧ BxPF w4 w.heap.size ⟨#[]⟩ 0 0 0 (.slice none 0 0) (.slice none 0 0) (.slice none 0 0)) := ⟨below_then HB3.out.1 ok4, HKB.out _ _ HB3.out.2.1 ok4⟩; obtain ⟨⟨b0, b1, b2, b3, b4, b5, b6, b7⟩, hfz⟩ := HO4.out.2; have f0 := hfz 0 (by decide); have f1 := hfz 1 (by decide); have f2 := hfz 2 (by decide); have f3 := hfz 3 (by decide); have f4 := hfz 4 (by decide); have f5 := hfz 5 (by decide); have f6 := hfz 6 (by decide); clear ok4 hfz)
        have s7 := fun u0 u1 u2 u3 u4 u5 u6 => set7 b0 b1 b2 b3 b4 b5 b6 u0 u1 u2 u3 u4 u5 u6
        try simp only [Exit.inBlock, Exit.then]
        refine bodyPost_ret (by simp [results, Tryz.results16, s7, go_sem]; try rfl) rfl ?_
        exact HER.out _ _ hL (by decide) (below_set7 (Nat.le_refl _) HO4.out.1)
      · have hL : PE = 0 := by rw [HE.out]; simp [hwb]
        rw [hwb] at HMB
        go_enter Tryz.func16, Tryz.ntmps16
        go_upto_region 7 with (first
          | (go_at_call 29; refine (HLI.out _).mono ?_; rintro e w1 ⟨v, n, rfl, hla, hb1⟩; have HLA := hide3 hla; have HB1 : Hid (Below w.heap.size w w1 ∧ BxPF w1 w.heap.size ⟨#[]⟩ 0 0 0 (.slice none 0 0) (.slice none 0 0) (.slice none 0 0)) := ⟨below_then (boxB _ _) hb1, HKB.out _ _ HB0.out hb1⟩; obtain ⟨adv, capv, rfl, _⟩ := hla; clear hb1)
          | (go_at_call 30; refine (HR2.out _ _ HB1.out.1 HLA.out).mono ?_; rintro e w2 hq; obtain ⟨s, a, b, c, v1, v2, v3, rfl, hb2, hok2, a1, k1, c1, a2, k2, c2, a3, k3, c3, rfl, rfl, rfl⟩ := HPQ.out _ _ _ _ _ hq; obtain ⟨rfl, rfl, rfl, rfl, how⟩ := hok2 rfl; have HB3 : Hid (Below w.heap.size w (w2.alloc (.cells #[.string LP.nm, .int .i64 LP.a, .int .i64 LP.b, .int .i64 LP.c, .slice a1 k1 c1, .slice a2 k2 c2, .slice a3 k3 c3] 26)) ∧ BxPF (w2.alloc (.cells #[.string LP.nm, .int .i64 LP.a, .int .i64 LP.b, .int .i64 LP.c, .slice a1 k1 c1, .slice a2 k2 c2, .slice a3 k3 c3] 26)) w.heap.size ⟨#[]⟩ 0 0 0 (.slice none 0 0) (.slice none 0 0) (.slice none 0 0) ∧ OwnP (w2.alloc (.cells #[.string LP.nm, .int .i64 LP.a, .int .i64 LP.b, .int .i64 LP.c, .slice a1 k1 c1, .slice a2 k2 c2, .slice a3 k3 c3] 26)) w1.heap.size LP (.slice a1 k1 c1) (.slice a2 k2 c2) (.slice a3 k3 c3)) := ⟨below_then (below_then HB1.out.1 hb2) (boxB _ _), HKB.out _ _ (HKB.out _ _ HB1.out.2 hb2) (boxB _ _), how.below (boxB _ _)⟩; clear hb2 hq hok2 how))
        have HB12 : Hid (w.heap.size < w1.heap.size) := HB1.out.2.1.2.2.2.2.2.2.2
        have HY3 : Hid (BxPF (w2.alloc (.cells #[.string LP.nm, .int .i64 LP.a, .int .i64 LP.b, .int .i64 LP.c, .slice a1 k1 c1, .slice a2 k2 c2, .slice a3 k3 c3] 26)) w2.heap.size LP.nm LP.a LP.b LP.c (.slice a1 k1 c1) (.slice a2 k2 c2) (.slice a3 k3 c3)) := BxPF.new rfl _ _ _ _ _ _ _
        generalize w2.alloc (.cells #[.string LP.nm, .int .i64 LP.a, .int .i64 LP.b, .int .i64 LP.c, .slice a1 k1 c1, .slice a2 k2 c2, .slice a3 k3 c3] 26) = w3 at *
        generalize w2.heap.size = M at *
        obtain ⟨⟨y0, y1, y2, y3, y4, y5, y6, y7⟩, _⟩ := HY3.out
        go_wp2_with (go_at_call 9; refine (HMB.out _ _ _ _ HB3.out.1 HB3.out.2.2.at).mono ?_; rintro e w4 ⟨rfl, ok4⟩; have HO4 : Hid (Below w.heap.size w w4 ∧ BxPF w4 w.heap.size ⟨#[]⟩ 0 0 0 (.slice none 0 0) (.slice none 0 0) (.slice none 0 0)) := ⟨below_then HB3.out.1 ok4, HKB.out _ _ HB3.out.2.1 ok4⟩; have HP4 := hide3 (HB3.out.2.2.below ok4); have HY4 := hide3 (keepBxPF _ _ _ _ _ _ _ _ _ _ HY3.out ok4); clear y0 y1 y2 y3 y4 y5 y6 y7; obtain ⟨⟨y0, y1, y2, y3, y4, y5, y6, y7⟩, _⟩ := HY4.out; obtain ⟨⟨b0, b1, b2, b3, b4, b5, b6, b7⟩, hfz⟩ := HO4.out.2; have f0 := hfz 0 (by decide); have f1 := hfz 1 (by decide); have f2 := hfz 2 (by decide); have f3 := hfz 3 (by decide); have f4 := hfz 4 (by decide); have f5 := hfz 5 (by decide); have f6 := hfz 6 (by decide); clear ok4 hfz)
        have s7 := fun u0 u1 u2 u3 u4 u5 u6 => set7 b0 b1 b2 b3 b4 b5 b6 u0 u1 u2 u3 u4 u5 u6
        try simp only [Exit.inBlock, Exit.then]
        refine bodyPost_ret (by simp [results, Tryz.results16, s7, go_sem]; try rfl) rfl ?_
        refine HOK.out _ _ _ _ hL (below_set7 (Nat.le_refl _) HO4.out.1) ?_
        exact (HP4.out.of fun g hg => heap7 (by have := HB12.out; omega)).base (Nat.le_of_lt HB12.out)
    · have hL : PE = LE := by rw [HE.out]; simp [hl]
      have hre : (LE == 0) = false := by simpa using hl
      go_enter Tryz.func16, Tryz.ntmps16
      go_wp2_with (first
        | (go_at_call 29; refine (HLI.out _).mono ?_; rintro e w1 ⟨v, n, rfl, hla, hb1⟩; have HLA := hide3 hla; have HB1 : Hid (Below w.heap.size w w1 ∧ BxPF w1 w.heap.size ⟨#[]⟩ 0 0 0 (.slice none 0 0) (.slice none 0 0) (.slice none 0 0)) := ⟨below_then (boxB _ _) hb1, HKB.out _ _ HB0.out hb1⟩; obtain ⟨adv, capv, rfl, _⟩ := hla; clear hb1)
        | (go_at_call 30; refine (HR2.out _ _ HB1.out.1 HLA.out).mono ?_; rintro e w2 hq; obtain ⟨s, a, b, c, v1, v2, v3, rfl, hb2, _, a1, k1, c1, a2, k2, c2, a3, k3, c3, rfl, rfl, rfl⟩ := HPQ.out _ _ _ _ _ hq; have HO4 : Hid (Below w.heap.size w (w2.alloc (.cells #[.string s, .int .i64 a, .int .i64 b, .int .i64 c, .slice a1 k1 c1, .slice a2 k2 c2, .slice a3 k3 c3] 26)) ∧ BxPF (w2.alloc (.cells #[.string s, .int .i64 a, .int .i64 b, .int .i64 c, .slice a1 k1 c1, .slice a2 k2 c2, .slice a3 k3 c3] 26)) w.heap.size ⟨#[]⟩ 0 0 0 (.slice none 0 0) (.slice none 0 0) (.slice none 0 0)) := ⟨below_then (below_then HB1.out.1 hb2) (boxB _ _), HKB.out _ _ (HKB.out _ _ HB1.out.2 hb2) (boxB _ _)⟩; obtain ⟨⟨b0, b1, b2, b3, b4, b5, b6, b7⟩, hfz⟩ := HO4.out.2; have f0 := hfz 0 (by decide); have f1 := hfz 1 (by decide); have f2 := hfz 2 (by decide); have f3 := hfz 3 (by decide); have f4 := hfz 4 (by decide); have f5 := hfz 5 (by decide); have f6 := hfz 6 (by decide); clear hb2 hq hfz))
      have s7 := fun u0 u1 u2 u3 u4 u5 u6 => set7 b0 b1 b2 b3 b4 b5 b6 u0 u1 u2 u3 u4 u5 u6
      try simp only [Exit.inBlock, Exit.then]
      refine bodyPost_ret (by simp [results, Tryz.results16, s7, go_sem]; try rfl) rfl ?_
      exact HER.out _ _ hL hl (below_set7 (Nat.le_refl _) HO4.out.1)
  · have hL : PE = AE := by rw [HE.out, if_neg ha]
    have hre : (AE == 0) = false := by simpa using ha
    go_enter Tryz.func16, Tryz.ntmps16
    go_wp2_with (go_at_call 29; refine (HLI.out _).mono ?_; rintro e w1 ⟨v, n, rfl, _, hb1⟩; have HO4 : Hid (Below w.heap.size w w1 ∧ BxPF w1 w.heap.size ⟨#[]⟩ 0 0 0 (.slice none 0 0) (.slice none 0 0) (.slice none 0 0)) := ⟨below_then (boxB _ _) hb1, HKB.out _ _ HB0.out hb1⟩; obtain ⟨⟨b0, b1, b2, b3, b4, b5, b6, b7⟩, hfz⟩ := HO4.out.2; have f0 := hfz 0 (by decide); have f1 := hfz 1 (by decide); have f2 := hfz 2 (by decide); have f3 := hfz 3 (by decide); have f4 := hfz 4 (by decide); have f5 := hfz 5 (by decide); have f6 := hfz 6 (by decide); clear hb1 hfz)
    have s7 := fun u0 u1 u2 u3 u4 u5 u6 => set7 b0 b1 b2 b3 b4 b5 b6 u0 u1 u2 u3 u4 u5 u6
    try simp only [Exit.inBlock, Exit.then]
    refine bodyPost_ret (by simp [results, Tryz.results16, s7, go_sem]; try rfl) rfl ?_
    exact HER.out _ _ hL ha (below_set7 (Nat.le_refl _) HO4.out.1)
end Go.Proofs.YtmkhhkhoinpfeaaGreatDoor
namespace Go.Proofs.YtmkhhkhoinpfeaaGreatDoor
open Go.RowKit
set_option maxRecDepth 100000

/-- The text whose package is fixed, its lines, its package, that one's text. -/
def kT : ByteArray := ⟨#[112, 97, 99, 107, 97, 103, 101, 32, 97, 32, 49, 46, 50, 46, 48, 10, 110, 101, 101, 100, 115, 32, 98, 32, 94, 49, 46, 48, 46, 48, 10]⟩
def kL : List (List Sc.Bs) := [[[112, 97, 99, 107, 97, 103, 101], [97], [49, 46, 50, 46, 48]], [[110, 101, 101, 100, 115], [98], [94, 49, 46, 48, 46, 48]]]
def kP : Pg := ⟨⟨#[97]⟩, 1, 2, 0, [⟨⟨#[98]⟩, [⟨1, 0, 0, 1, 999, 999⟩]⟩], [], []⟩
def kO : ByteArray := ⟨#[112, 97, 99, 107, 97, 103, 101, 32, 97, 32, 49, 46, 50, 46, 48, 10, 110, 101, 101, 100, 115, 32, 98, 32, 62, 61, 49, 46, 48, 46, 48, 32, 60, 61, 49, 46, 57, 57, 57, 46, 57, 57, 57, 10]⟩
theorem k_scan : Sc.scanR kT.data.toList [] [] [] = .ok kL := by
  have h := Sc.scan_text kL [] (by decide +kernel)
  exact h
theorem k_lines : Sc.ansE kT 4096 = 0 ∧ Sc.ansL kT 4096 = kL := by
  unfold Sc.ansE Sc.ansL
  rw [if_neg (by decide), if_neg (by decide), k_scan]
  exact ⟨rfl, rfl⟩
theorem k_e : linesE kL = 0 := by decide +kernel
theorem k_rg : parL (parR (jnT [[94, 49, 46, 48, 46, 48]])) = [(1000000, 1999999)] := by decide +kernel
theorem k_p : linesP kL = kP := by
  have e : (readF pkW 0 [[], [], []] [[[110, 101, 101, 100, 115], [98], [94, 49, 46, 48, 46, 48]]]).2 = [[⟨⟨#[98]⟩, (parL (parR (jnT [[94, 49, 46, 48, 46, 48]]))).map spR⟩], [], []] := by
    have h1 : depE (lastN ([] : List Dp)) (Sc.ba [98]) [[94, 49, 46, 48, 46, 48]] = 0 := by decide +kernel
    rw [readF_step (k := 0) (by simp) (by decide +kernel) (Nat.le_refl _) (by exact h1)]
    rfl
  have ha : resA (Sc.ba [49, 46, 50, 46, 48]) = 1 := by decide +kernel
  have hb : resB (Sc.ba [49, 46, 50, 46, 48]) = 2 := by decide +kernel
  have hc : resC (Sc.ba [49, 46, 50, 46, 48]) = 0 := by decide +kernel
  have hs : List.map spR [(1000000, 1999999)] = [⟨1, 0, 0, 1, 999, 999⟩] := by
    have q1 : atA 1000000 = 1 := by decide +kernel
    have q2 : atB 1000000 = 0 := by decide +kernel
    have q3 : atC 1000000 = 0 := by decide +kernel
    have q4 : atA 1999999 = 1 := by decide +kernel
    have q5 : atB 1999999 = 999 := by decide +kernel
    have q6 : atC 1999999 = 999 := by decide +kernel
    simp only [List.map_cons, List.map_nil, spR, q1, q2, q3, q4, q5, q6]
  unfold kL linesP
  simp only [e, k_rg]
  show (⟨Sc.ba [97], resA (Sc.ba [49, 46, 50, 46, 48]), resB (Sc.ba [49, 46, 50, 46, 48]), resC (Sc.ba [49, 46, 50, 46, 48]), [⟨⟨#[98]⟩, List.map spR [(1000000, 1999999)]⟩], [], []⟩ : Pg) = kP
  rw [ha, hb, hc, hs]
  rfl
theorem k_once : onceB kP = true := once_yes (by simp [namesL, kP])
theorem k_text : textP kP = kO.data.toList := by decide +kernel
theorem k_w : writtenB kP = true := by
  unfold writtenB soundB
  rw [k_once, k_text]
  decide +kernel
theorem k_t : writtenT kP = kO := by unfold writtenT; rw [if_pos k_w, k_text]
theorem k_par : parPE kT = 0 ∧ parPP kT = kP := by
  unfold parPE parPP
  rw [k_lines.1, k_lines.2, k_e, k_p, k_w]
  exact ⟨rfl, rfl⟩

set_option maxHeartbeats 3200000 in
theorem known_pk {w : World} (he : Env w) (hf : FL w) : Calls Tryz.prog 13 #[] w fun e w' => e = .returned (.bool true) ∧ Below w.heap.size w w' := by
  have HPA : Hid (Calls Tryz.prog 16 #[.string kT] w fun e w' => ∃ a1 c1 a2 c2 a3 c3, e = .returned (.tuple #[.agg #[.string ⟨#[97]⟩, .int .i64 1, .int .i64 2, .int .i64 0, .slice a1 1 c1, .slice a2 0 c2, .slice a3 0 c3], .int .i64 0]) ∧ Below w.heap.size w w' ∧ PgAt w' kP (.slice a1 1 c1) (.slice a2 0 c2) (.slice a3 0 c3)) := (Parse_pk kT he hf).mono fun e w' h => by
    rw [k_par.1, k_par.2] at h
    obtain ⟨s, a, b, c, v1, v2, v3, h1, h2, h3, _⟩ := h
    obtain ⟨rfl, rfl, rfl, rfl, ho⟩ := h3 rfl
    have hp := ho.at
    obtain ⟨a1, c1, e1⟩ := hp.1.sl
    obtain ⟨a2, c2, e2⟩ := hp.2.1.sl
    obtain ⟨a3, c3, e3⟩ := hp.2.2.sl
    rw [e1, e2, e3] at hp
    rw [e1, e2, e3] at h1
    exact ⟨a1, c1, a2, c2, a3, c3, h1, h2, hp⟩
  have HPR : Hid (∀ w1 v1 v2 v3, Below w.heap.size w w1 → PgAt w1 kP v1 v2 v3 → Calls Tryz.prog 14 #[.agg #[.string ⟨#[97]⟩, .int .i64 1, .int .i64 2, .int .i64 0, v1, v2, v3]] w1 fun e w' => e = .returned (.tuple #[.string kO, .int .i64 0]) ∧ Below w1.heap.size w1 w') := fun w1 v1 v2 v3 hb h => by
    have := pPrint_any h (he.below hb) (hf.below hb)
    rw [k_w, k_t] at this
    exact this
  have HMA : Hid (∀ w1 v1 v2 v3, Below w.heap.size w w1 → PgAt w1 kP v1 v2 v3 → Calls Tryz.prog 9 #[.agg #[.string ⟨#[97]⟩, .int .i64 1, .int .i64 2, .int .i64 0, v1, v2, v3]] w1 fun e w' => e = .returned (.bool true) ∧ Below w1.heap.size w1 w') := fun w1 v1 v2 v3 hb h => by
    have := pMay_any h (he.below hb) (hf.below hb)
    rw [k_w] at this
    exact this
  have HSA : Hid (∀ w1 v1 v2 v3, PgAt w1 kP v1 v2 v3 → Calls Tryz.prog 11 #[.agg #[.string ⟨#[97]⟩, .int .i64 1, .int .i64 2, .int .i64 0, v1, v2, v3], .agg #[.string ⟨#[97]⟩, .int .i64 1, .int .i64 2, .int .i64 0, v1, v2, v3]] w1 fun e w' => e = .returned (.bool true) ∧ Below w1.heap.size w1 w') := fun w1 v1 v2 v3 h => by
    have := Same_any h h (by decide) (by decide) (by decide)
    rw [eqB_yes rfl] at this
    exact this
  have hkT : kT = ⟨#[112, 97, 99, 107, 97, 103, 101, 32, 97, 32, 49, 46, 50, 46, 48, 10, 110, 101, 101, 100, 115, 32, 98, 32, 94, 49, 46, 48, 46, 48, 10]⟩ := rfl
  have hkO : kO = ⟨#[112, 97, 99, 107, 97, 103, 101, 32, 97, 32, 49, 46, 50, 46, 48, 10, 110, 101, 101, 100, 115, 32, 98, 32, 62, 61, 49, 46, 48, 46, 48, 32, 60, 61, 49, 46, 57, 57, 57, 46, 57, 57, 57, 10]⟩ := rfl
  have htO : kO.toList = [112, 97, 99, 107, 97, 103, 101, 32, 97, 32, 49, 46, 50, 46, 48, 10, 110, 101, 101, 100, 115, 32, 98, 32, 62, 61, 49, 46, 48, 46, 48, 32, 60, 61, 49, 46, 57, 57, 57, 46, 57, 57, 57, 10] := by rw [ByteArray.toList_eq]; rfl
  rw [hkT] at HPA
  clear he hf hkT
  go_enter Tryz.func13, Tryz.ntmps13
  have t1 : True := trivial
  go_wp2_with (first
    | (go_at_call 16; refine HPA.out.mono ?_; rintro e w1 ⟨a1, c1, a2, c2, a3, c3, rfl, hb1, hp1⟩; have HB1 : Hid (Below w.heap.size w (w1.alloc (.cells #[.string ⟨#[97]⟩, .int .i64 1, .int .i64 2, .int .i64 0, .slice a1 1 c1, .slice a2 0 c2, .slice a3 0 c3] 26)) ∧ PgAt (w1.alloc (.cells #[.string ⟨#[97]⟩, .int .i64 1, .int .i64 2, .int .i64 0, .slice a1 1 c1, .slice a2 0 c2, .slice a3 0 c3] 26)) kP (.slice a1 1 c1) (.slice a2 0 c2) (.slice a3 0 c3)) := ⟨below_then hb1 (boxB _ _), hp1.below (boxB _ _)⟩; have HX1 : Hid (BxP (w1.alloc (.cells #[.string ⟨#[97]⟩, .int .i64 1, .int .i64 2, .int .i64 0, .slice a1 1 c1, .slice a2 0 c2, .slice a3 0 c3] 26)) w1.heap.size ⟨#[97]⟩ 1 2 0 (.slice a1 1 c1) (.slice a2 0 c2) (.slice a3 0 c3)) := BxP.new rfl _ _ _ _ _ _ _; clear hb1 hp1)
    | (go_at_call 14; (refine (HPR.out _ _ _ _ HB1.out.1 HB1.out.2).mono ?_; rintro e w2 ⟨rfl, ok⟩; have HB2 : Hid (Below w.heap.size w w2 ∧ PgAt w2 kP (.slice a1 1 c1) (.slice a2 0 c2) (.slice a3 0 c3)) := ⟨below_then HB1.out.1 ok, HB1.out.2.below ok⟩; have HX2 := hide3 (keepBxP _ _ _ _ _ _ _ _ _ _ HX1.out ok); obtain ⟨y0, y1, y2, y3, y4, y5, y6, y7⟩ := HX2.out; clear ok))
    | (go_at_call 9; refine (HMA.out _ _ _ _ HB2.out.1 HB2.out.2).mono ?_; rintro e w3 ⟨rfl, ok⟩; have HB3 : Hid (Below w.heap.size w w3 ∧ PgAt w3 kP (.slice a1 1 c1) (.slice a2 0 c2) (.slice a3 0 c3)) := ⟨below_then HB2.out.1 ok, HB2.out.2.below ok⟩; have HX3 := hide3 (keepBxP _ _ _ _ _ _ _ _ _ _ HX2.out ok); clear y0 y1 y2 y3 y4 y5 y6 y7; obtain ⟨y0, y1, y2, y3, y4, y5, y6, y7⟩ := HX3.out; clear ok)
    | (go_at_call 11; refine (HSA.out _ _ _ _ HB3.out.2).mono ?_; rintro e w4 ⟨rfl, ok⟩; have HB4 := hide3 (below_then HB3.out.1 ok); clear ok))
  go_ret
  exact ⟨rfl, HB4.out⟩
end Go.Proofs.YtmkhhkhoinpfeaaGreatDoor
namespace Go.Proofs.YtmkhhkhoinpfeaaGreatDoor
open Go.RowKit
set_option maxRecDepth 100000

theorem bl_irr : ∀ l : List UInt8, Op.bytesLess l l = false
  | [] => rfl
  | a :: l => by
    show (decide (a < a) || (a == a && Op.bytesLess l l)) = false
    rw [bl_irr l]
    simp
theorem bl_trans : ∀ {a b c : List UInt8}, Op.bytesLess a b = true → Op.bytesLess b c = true → Op.bytesLess a c = true
  | _, [], _, h, _ => by cases ‹List UInt8› <;> simp [Op.bytesLess] at h
  | _, _ :: _, [], _, h => by simp [Op.bytesLess] at h
  | [], _ :: _, _ :: _, _, _ => rfl
  | x :: a, y :: b, z :: c, h1, h2 => by
    have e1 : (decide (x < y) || (x == y && Op.bytesLess a b)) = true := h1
    have e2 : (decide (y < z) || (y == z && Op.bytesLess b c)) = true := h2
    show (decide (x < z) || (x == z && Op.bytesLess a c)) = true
    simp only [Bool.or_eq_true, decide_eq_true_eq, Bool.and_eq_true, beq_iff_eq] at e1 e2 ⊢
    rcases e1 with h | ⟨rfl, h⟩
    · rcases e2 with k | ⟨rfl, _⟩
      · exact Or.inl (UInt8.lt_trans h k)
      · exact Or.inl h
    · rcases e2 with k | ⟨rfl, k⟩
      · exact Or.inl k
      · exact Or.inr ⟨rfl, bl_trans h k⟩
theorem rise_gt : ∀ {L : List Dp} {p : ByteArray}, riseD (some p) L = true → ∀ d ∈ L, ltS p d.nm = true
  | e :: M, p, h, d, hd => by
    rw [riseD, Bool.and_eq_true, Bool.and_eq_true] at h
    have h1 : ltS p e.nm = true := by
      have := h.1.1
      unfold followB at this
      rw [Bool.and_eq_true] at this
      exact this.2
    rcases List.mem_cons.1 hd with rfl | hd
    · exact h1
    · exact bl_trans h1 (rise_gt h.2 d hd)
theorem rise_nodup : ∀ {L : List Dp} {q : Option ByteArray}, riseD q L = true → (L.map Dp.nm).Nodup
  | [], _, _ => List.nodup_nil
  | e :: M, q, h => by
    rw [riseD, Bool.and_eq_true, Bool.and_eq_true] at h
    rw [List.map_cons, List.nodup_cons]
    refine ⟨fun hm => ?_, rise_nodup h.2⟩
    obtain ⟨d, hd, he⟩ := List.mem_map.1 hm
    have := rise_gt h.2 d hd
    rw [he] at this
    unfold ltS at this
    rw [bl_irr] at this
    cases this
theorem apart_iff {A B : List Dp} : apartB A B = true ↔ ∀ a ∈ A.map Dp.nm, ∀ b ∈ B.map Dp.nm, a ≠ b := by
  unfold apartB
  rw [List.all_eq_true]
  constructor
  · intro h a ha b hb
    obtain ⟨d, hd, rfl⟩ := List.mem_map.1 ha
    obtain ⟨e, he, rfl⟩ := List.mem_map.1 hb
    have := List.all_eq_true.1 (h d hd) e he
    intro hq
    rw [hq] at this
    simp at this
  · intro h d hd
    refine List.all_eq_true.2 fun e he => ?_
    have := h _ (List.mem_map.2 ⟨d, hd, rfl⟩) _ (List.mem_map.2 ⟨e, he, rfl⟩)
    rw [Bool.not_eq_true', beq_eq_false_iff_ne]
    exact fun hq => this (bytes_same hq)
theorem once_apart {A B C : List Dp} (ha : riseD none A = true) (hb : riseD none B = true) (hc : riseD none C = true) : onceL [A, B, C] = (apartB A B && (apartB A C && apartB B C)) := by
  have e : namesL [A, B, C] = A.map Dp.nm ++ (B.map Dp.nm ++ C.map Dp.nm) := by unfold namesL; simp
  rw [Bool.eq_iff_iff, Bool.and_eq_true, Bool.and_eq_true, apart_iff, apart_iff, apart_iff]
  unfold onceL
  rw [e]
  have hd : @decide ((A.map Dp.nm ++ (B.map Dp.nm ++ C.map Dp.nm)).Nodup) (Classical.propDecidable _) = true ↔ (A.map Dp.nm ++ (B.map Dp.nm ++ C.map Dp.nm)).Nodup := ⟨fun h => @of_decide_eq_true _ (Classical.propDecidable _) h, fun h => @decide_eq_true _ (Classical.propDecidable _) h⟩
  rw [hd, List.nodup_append, List.nodup_append]
  constructor
  · rintro ⟨_, ⟨_, _, h2⟩, h3⟩
    exact ⟨fun a ka b kb => h3 a ka b (List.mem_append_left _ kb), fun a ka b kb => h3 a ka b (List.mem_append_right _ kb), h2⟩
  · rintro ⟨h1, h2, h3⟩
    exact ⟨rise_nodup ha, ⟨rise_nodup hb, rise_nodup hc, h3⟩, fun a ka b kb => by
      rcases List.mem_append.1 kb with kb | kb
      · exact h1 a ka b kb
      · exact h2 a ka b kb⟩
theorem doc_is (P : Pg) : docB P = writtenB P := by
  unfold docB writtenB soundB
  cases hl : (mayD P.d && (mayD P.p && mayD P.o))
  · simp
  · rw [Bool.and_eq_true, Bool.and_eq_true] at hl
    have r : ∀ {L : List Dp}, mayD L = true → riseD none L = true := fun h => by unfold mayD at h; rw [Bool.and_eq_true] at h; exact h.2
    unfold onceB
    rw [once_apart (r hl.1) (r hl.2.1) (r hl.2.2)]

set_option maxHeartbeats 6400000 in
theorem packMay_walk {P Q : Pg} {v1 v2 v3 u1 u2 u3 : Value} {w : World} (hp : PgAt w P v1 v2 v3) (hq : PgAt w Q u1 u2 u3) (hz : P.d.length ≤ 9223372036854775807 ∧ P.p.length ≤ 9223372036854775807 ∧ P.o.length ≤ 9223372036854775807) (hn : P.nm.size ≤ 9223372036854775807 ∧ (∀ d ∈ P.d, d.nm.size ≤ 9223372036854775807) ∧ (∀ d ∈ P.p, d.nm.size ≤ 9223372036854775807) ∧ ∀ d ∈ P.o, d.nm.size ≤ 9223372036854775807) (h : Env w ∧ FL w) :
    Calls Tryz.prog 3 #[.agg #[.string P.nm, .int .i64 P.a, .int .i64 P.b, .int .i64 P.c, v1, v2, v3], .agg #[.string Q.nm, .int .i64 Q.a, .int .i64 Q.b, .int .i64 Q.c, u1, u2, u3]] w fun e w' => e = .returned (.bool true) ∧ Below w.heap.size w w' := by
  obtain ⟨he, hf⟩ := h
  obtain ⟨a1, c1, rfl⟩ := hp.1.sl
  obtain ⟨a2, c2, rfl⟩ := hp.2.1.sl
  obtain ⟨a3, c3, rfl⟩ := hp.2.2.sl
  obtain ⟨b1, d1, rfl⟩ := hq.1.sl
  obtain ⟨b2, d2, rfl⟩ := hq.2.1.sl
  obtain ⟨b3, d3, rfl⟩ := hq.2.2.sl
  have HO : Hid (Below w.heap.size w ((w.alloc (.cells #[.string P.nm, .int .i64 P.a, .int .i64 P.b, .int .i64 P.c, .slice a1 P.d.length c1, .slice a2 P.p.length c2, .slice a3 P.o.length c3] 26)).alloc (.cells #[.string Q.nm, .int .i64 Q.a, .int .i64 Q.b, .int .i64 Q.c, .slice b1 Q.d.length d1, .slice b2 Q.p.length d2, .slice b3 Q.o.length d3] 26)) ∧ BxP ((w.alloc (.cells #[.string P.nm, .int .i64 P.a, .int .i64 P.b, .int .i64 P.c, .slice a1 P.d.length c1, .slice a2 P.p.length c2, .slice a3 P.o.length c3] 26)).alloc (.cells #[.string Q.nm, .int .i64 Q.a, .int .i64 Q.b, .int .i64 Q.c, .slice b1 Q.d.length d1, .slice b2 Q.p.length d2, .slice b3 Q.o.length d3] 26)) w.heap.size P.nm P.a P.b P.c (.slice a1 P.d.length c1) (.slice a2 P.p.length c2) (.slice a3 P.o.length c3) ∧ BxP ((w.alloc (.cells #[.string P.nm, .int .i64 P.a, .int .i64 P.b, .int .i64 P.c, .slice a1 P.d.length c1, .slice a2 P.p.length c2, .slice a3 P.o.length c3] 26)).alloc (.cells #[.string Q.nm, .int .i64 Q.a, .int .i64 Q.b, .int .i64 Q.c, .slice b1 Q.d.length d1, .slice b2 Q.p.length d2, .slice b3 Q.o.length d3] 26)) (w.heap.size + 1) Q.nm Q.a Q.b Q.c (.slice b1 Q.d.length d1) (.slice b2 Q.p.length d2) (.slice b3 Q.o.length d3)) := ⟨boxB2 _ _ _, keepBxP _ _ _ _ _ _ _ _ _ _ (BxP.new rfl _ _ _ _ _ _ _) (boxB _ _), BxP.new (by simp) _ _ _ _ _ _ _⟩
  have HK : Hid (KeepP fun w1 => (Below w.heap.size w w1 ∧ BxP w1 w.heap.size P.nm P.a P.b P.c (.slice a1 P.d.length c1) (.slice a2 P.p.length c2) (.slice a3 P.o.length c3) ∧ BxP w1 (w.heap.size + 1) Q.nm Q.a Q.b Q.c (.slice b1 Q.d.length d1) (.slice b2 Q.p.length d2) (.slice b3 Q.o.length d3))) := (keepBelow w).and ((keepBxP _ _ _ _ _ _ _ _).and (keepBxP _ _ _ _ _ _ _ _))
  have HC1 : Hid (∀ w1, (Below w.heap.size w w1 ∧ BxP w1 w.heap.size P.nm P.a P.b P.c (.slice a1 P.d.length c1) (.slice a2 P.p.length c2) (.slice a3 P.o.length c3) ∧ BxP w1 (w.heap.size + 1) Q.nm Q.a Q.b Q.c (.slice b1 Q.d.length d1) (.slice b2 Q.p.length d2) (.slice b3 Q.o.length d3)) → Calls Tryz.prog 9 #[.agg #[.string P.nm, .int .i64 P.a, .int .i64 P.b, .int .i64 P.c, .slice a1 P.d.length c1, .slice a2 P.p.length c2, .slice a3 P.o.length c3]] w1 fun e w' => e = .returned (.bool (writtenB P)) ∧ Below w1.heap.size w1 w') := fun w1 k => pMay_any (hp.below k.1) (he.below k.1) (hf.below k.1)
  have HC2 : Hid (∀ w1, (Below w.heap.size w w1 ∧ BxP w1 w.heap.size P.nm P.a P.b P.c (.slice a1 P.d.length c1) (.slice a2 P.p.length c2) (.slice a3 P.o.length c3) ∧ BxP w1 (w.heap.size + 1) Q.nm Q.a Q.b Q.c (.slice b1 Q.d.length d1) (.slice b2 Q.p.length d2) (.slice b3 Q.o.length d3)) → Calls Tryz.prog 10 #[.agg #[.string P.nm, .int .i64 P.a, .int .i64 P.b, .int .i64 P.c, .slice a1 P.d.length c1, .slice a2 P.p.length c2, .slice a3 P.o.length c3]] w1 fun e w' => e = .returned (.bool (writtenB P)) ∧ Below w1.heap.size w1 w') := fun w1 k => by have := rMay_pk (hp.below k.1) hz hn; rw [doc_is] at this; exact this
  have HC3 : Hid (∀ w1, (Below w.heap.size w w1 ∧ BxP w1 w.heap.size P.nm P.a P.b P.c (.slice a1 P.d.length c1) (.slice a2 P.p.length c2) (.slice a3 P.o.length c3) ∧ BxP w1 (w.heap.size + 1) Q.nm Q.a Q.b Q.c (.slice b1 Q.d.length d1) (.slice b2 Q.p.length d2) (.slice b3 Q.o.length d3)) → Calls Tryz.prog 11 #[.agg #[.string P.nm, .int .i64 P.a, .int .i64 P.b, .int .i64 P.c, .slice a1 P.d.length c1, .slice a2 P.p.length c2, .slice a3 P.o.length c3], .agg #[.string Q.nm, .int .i64 Q.a, .int .i64 Q.b, .int .i64 Q.c, .slice b1 Q.d.length d1, .slice b2 Q.p.length d2, .slice b3 Q.o.length d3]] w1 fun e w' => e = .returned (.bool (eqB P Q)) ∧ Below w1.heap.size w1 w') := fun w1 k => Same_any (hp.below k.1) (hq.below k.1) hz.1 hz.2.1 hz.2.2
  have HC4 : Hid (∀ w1, (Below w.heap.size w w1 ∧ BxP w1 w.heap.size P.nm P.a P.b P.c (.slice a1 P.d.length c1) (.slice a2 P.p.length c2) (.slice a3 P.o.length c3) ∧ BxP w1 (w.heap.size + 1) Q.nm Q.a Q.b Q.c (.slice b1 Q.d.length d1) (.slice b2 Q.p.length d2) (.slice b3 Q.o.length d3)) → Calls Tryz.prog 12 #[.agg #[.string P.nm, .int .i64 P.a, .int .i64 P.b, .int .i64 P.c, .slice a1 P.d.length c1, .slice a2 P.p.length c2, .slice a3 P.o.length c3], .agg #[.string Q.nm, .int .i64 Q.a, .int .i64 Q.b, .int .i64 Q.c, .slice b1 Q.d.length d1, .slice b2 Q.p.length d2, .slice b3 Q.o.length d3]] w1 fun e w' => e = .returned (.bool (eqB P Q)) ∧ Below w1.heap.size w1 w') := fun w1 k => rSamePk_any (hp.below k.1) (hq.below k.1) hz.1 hz.2.1 hz.2.2
  have HC5 : Hid (∀ w1, (Below w.heap.size w w1 ∧ BxP w1 w.heap.size P.nm P.a P.b P.c (.slice a1 P.d.length c1) (.slice a2 P.p.length c2) (.slice a3 P.o.length c3) ∧ BxP w1 (w.heap.size + 1) Q.nm Q.a Q.b Q.c (.slice b1 Q.d.length d1) (.slice b2 Q.p.length d2) (.slice b3 Q.o.length d3)) → Calls Tryz.prog 11 #[.agg #[.string P.nm, .int .i64 P.a, .int .i64 P.b, .int .i64 P.c, .slice a1 P.d.length c1, .slice a2 P.p.length c2, .slice a3 P.o.length c3], .agg #[.string P.nm, .int .i64 P.a, .int .i64 P.b, .int .i64 P.c, .slice a1 P.d.length c1, .slice a2 P.p.length c2, .slice a3 P.o.length c3]] w1 fun e w' => e = .returned (.bool true) ∧ Below w1.heap.size w1 w') := fun w1 k => by have := Same_any (hp.below k.1) (hp.below k.1) hz.1 hz.2.1 hz.2.2; rw [eqB_yes rfl] at this; exact this
  have HC6 : Hid (∀ w1, (Below w.heap.size w w1 ∧ BxP w1 w.heap.size P.nm P.a P.b P.c (.slice a1 P.d.length c1) (.slice a2 P.p.length c2) (.slice a3 P.o.length c3) ∧ BxP w1 (w.heap.size + 1) Q.nm Q.a Q.b Q.c (.slice b1 Q.d.length d1) (.slice b2 Q.p.length d2) (.slice b3 Q.o.length d3)) → Calls Tryz.prog 13 #[] w1 fun e w' => e = .returned (.bool true) ∧ Below w1.heap.size w1 w') := fun w1 k => known_pk (he.below k.1) (hf.below k.1)
  clear hp hq hz hn he hf
  generalize writtenB P = wb at *
  generalize eqB P Q = eb at *
  have q1 : (wb == wb) = true := by simp
  have q2 : (eb == eb) = true := by simp
  go_enter Tryz.func3, Tryz.ntmps3
  go_wp2_with fail
  refine wp_region_keep HK.out (by kernel_rfl) (by kernel_rfl) (by first | exact HO.out | exact HK.out.drew HO.out) ?_
  intro C hin hout
  have HIN := hide3 hin
  have HOUT := hide3 hout
  clear hin hout HO
  repeat
    (with_reducible refine wpQuiet_step (fun K hK => ?_)
     go_simp
     first
       | (refine hK _ ?_; clear hK K)
       | (apply Exists.intro; refine ⟨fun w1 hC => ?_, hK _ ?_⟩; (focus ((first | (go_at_call 9; with_reducible exact callC' HIN.out HOUT.out HK.out HC1.out w1 hC) | (go_at_call 10; with_reducible exact callC' HIN.out HOUT.out HK.out HC2.out w1 hC) | (go_at_call 11; with_reducible exact callC' HIN.out HOUT.out HK.out HC3.out w1 hC) | (go_at_call 12; with_reducible exact callC' HIN.out HOUT.out HK.out HC4.out w1 hC) | (go_at_call 11; with_reducible exact callC' HIN.out HOUT.out HK.out HC5.out w1 hC) | (go_at_call 13; with_reducible exact callC' HIN.out HOUT.out HK.out HC6.out w1 hC) | (exact rfl) | (obtain ⟨hb1, ⟨p0, p1, p2, p3, p4, p5, p6, p7⟩, ⟨q0, q3, q4, q5, q6, q7, q8, q9⟩⟩ := HOUT.out w1 hC; clear hC; go_simp; first | done | exact rfl)); done)); clear hK K))
  refine wpQuiet_nil ?_
  intro wn hC
  have HO := hide3 (HOUT.out _ hC)
  clear hC HIN HOUT C
  obtain ⟨hb1, ⟨p0, p1, p2, p3, p4, p5, p6, p7⟩, ⟨q0, q3, q4, q5, q6, q7, q8, q9⟩⟩ := HO.out
  go_wp2
  go_ret
  exact ⟨by first | rfl | simp, HO.out.1⟩
end Go.Proofs.YtmkhhkhoinpfeaaGreatDoor
namespace Go.Proofs.YtmkhhkhoinpfeaaGreatDoor
open Go.ChangeShapes Go.WideShapes Go.ChangeAt Go.RowKit
set_option maxRecDepth 100000

theorem star : "*" ++ "errors.errorString" = "*errors.errorString" := by decide

theorem row_err (u : TypeId) (h : Tryz.prog.typeName? 3 u = some "*errors.errorString") : u = 177 :=
  typeName_ptr_named (nm := "errors.errorString") (by rw [star]; kernel_rfl) (by kernel_rfl) (by decide) u (by rw [star]; exact h)

theorem max_cell {W : World} (h : W.ShapedOpen Tryz.prog) : ∃ m, W.cell? ⟨3, 0, none⟩ = some (.int .i64 m) :=
  cell_of_shapedOpen_int (t := 3) (zero := #[.int .i64 0]) h (by decide +kernel) (by kernel_rfl) rfl (by kernel_rfl) (by kernel_rfl) Tryz.underlying3

theorem env_of {W : World} (hsh : W.ShapedOpen Tryz.prog) (h : laidMet Tryz.prog [("math/bits.deBruijn32tab", Rows.laid_math_bits_deBruijn32tab), ("math/bits.deBruijn64tab", Rows.laid_math_bits_deBruijn64tab), ("internal/strconv.uint64pow10", Rows.laid_internal_strconv_uint64pow10), ("strconv.ErrRange", Rows.laid_strconv_ErrRange), ("strconv.ErrSyntax", Rows.laid_strconv_ErrSyntax)] W) : Env W := by
  have hT := tab_is h
  have h3 := laidMet.tail (laidMet.tail (laidMet.tail h))
  have h4 := laidMet.tail h3
  obtain ⟨a1, s1, hv1, _⟩ := laid_sentinel h3 (g := 5) (ti := 75) (te := 179) (ts := 9) (by kernel_rfl) (by kernel_rfl) Tryz.underlying75 row_err Tryz.underlying177 Tryz.underlying179 rfl rfl Tryz.underlying9 (by kernel_rfl) (by kernel_rfl)
  obtain ⟨a2, s2, hv2, _⟩ := laid_sentinel h4 (g := 4) (ti := 75) (te := 179) (ts := 9) (by kernel_rfl) (by kernel_rfl) Tryz.underlying75 row_err Tryz.underlying177 Tryz.underlying179 rfl rfl Tryz.underlying9 (by kernel_rfl) (by kernel_rfl)
  have c1 := World.var?_cell (g := 5) (by kernel_rfl) hv1 0
  have c2 := World.var?_cell (g := 4) (by kernel_rfl) hv2 0
  exact { max := max_cell hsh, tab := hT, syn := ⟨_, _, by simpa using c2⟩, rng := ⟨_, _, by simpa using c1⟩ }
end Go.Proofs.YtmkhhkhoinpfeaaGreatDoor
namespace Go.Proofs.YtmkhhkhoinpfeaaGreatDoor
open Go.ChangeShapes Go.WideShapes Go.ChangeAt Go.RowKit
set_option maxRecDepth 100000

theorem cellsSp : Tryz.prog.cellsOf 40 = 6 := by kernel_rfl

theorem ints_of {H : Type} {enc : TypeId × Value → H} {W : World} {base : Nat} {spare : Nat → Bool} {held : Bool} {n : Nat} {cs : List Value} {x : DataW H × List MemPlace} (h : DataW.trod enc Tryz.prog W base spare held n 23 cs = some x) :
    ∃ a b c, cs[0]? = some (.int .i64 a) ∧ cs[1]? = some (.int .i64 b) ∧ cs[2]? = some (.int .i64 c) ∧ x.1 = .agg [.lit (.int .i64 a), .lit (.int .i64 b), .lit (.int .i64 c)] := by
  have hs : Tryz.prog.underlying 23 = some (.struct (Tryz.prog.fieldsOf 23)) := by kernel_rfl
  obtain ⟨xs, n', _, hx, _, hxl, hf⟩ := DataW.trod_struct hs h
  have hfz : (Tryz.prog.fieldsOf 23).size = 3 := by kernel_rfl
  have ints : ∀ i off, ((Tryz.prog.fieldsOf 23)[i]?).map (fun f => (f.type, f.offset)) = some (3, off) → i < 3 → ∃ k, cs[off]? = some (.int .i64 k) ∧ xs[i]? = some (.lit (.int .i64 k), []) := by
    intro i off hfd hi
    obtain ⟨f, h1, h2, h3⟩ := field_at hfd
    have hr := hf i f h1
    rw [h2, h3, cellsInt, List.getElem?_eq_getElem (by omega : i < xs.length)] at hr
    obtain ⟨k, e1, e2, wk⟩ := DataW.trod_int Tryz.underlying3 hr
    exact ⟨k, take_one e1, by rw [List.getElem?_eq_getElem (by omega : i < xs.length), e2]⟩
  obtain ⟨a, a0, x0⟩ := ints 0 0 (by kernel_rfl) (by decide)
  obtain ⟨b, a1, x1⟩ := ints 1 1 (by kernel_rfl) (by decide)
  obtain ⟨c, a2, x2⟩ := ints 2 2 (by kernel_rfl) (by decide)
  refine ⟨a, b, c, a0, a1, a2, ?_⟩
  rw [hx]
  obtain ⟨y0, y1, y2, rfl⟩ := list3 (l := xs) (by omega)
  simp at x0 x1 x2
  subst x0 x1 x2
  rfl

theorem span_read {H : Type} {enc : TypeId × Value → H} {W : World} {base : Nat} {spare : Nat → Bool} {held : Bool} {n : Nat} {g o : Nat} {cs : List Value} {x : DataW H × List MemPlace} (hc : W.cells? base ⟨g, o, none⟩ 6 = some cs) (h : DataW.trod enc Tryz.prog W base spare held n 40 cs = some x) : ∃ s, SpAt W g o s := by
  have hs : Tryz.prog.underlying 40 = some (.struct (Tryz.prog.fieldsOf 40)) := by kernel_rfl
  obtain ⟨xs, n', _, _, _, hxl, hf⟩ := DataW.trod_struct hs h
  have hsz : (Tryz.prog.fieldsOf 40).size = 2 := by kernel_rfl
  obtain ⟨_, _, hq⟩ := World.cells?_some hc
  have vers : ∀ i off, ((Tryz.prog.fieldsOf 40)[i]?).map (fun f => (f.type, f.offset)) = some (23, off) → i < 2 → ∃ a b c, cs[off]? = some (.int .i64 a) ∧ cs[off + 1]? = some (.int .i64 b) ∧ cs[off + 2]? = some (.int .i64 c) := by
    intro i off hfd hi
    obtain ⟨f, h1, h2, h3⟩ := field_at hfd
    have hr := hf i f h1
    rw [h2, h3, cellsVer, List.getElem?_eq_getElem (by omega : i < xs.length)] at hr
    obtain ⟨a, b, c, e0, e1, e2, _⟩ := ints_of hr
    simp at e0 e1 e2
    exact ⟨a, b, c, e0, e1, e2⟩
  obtain ⟨a, b, c, a0, a1, a2⟩ := vers 0 0 (by kernel_rfl) (by decide)
  obtain ⟨x, y, z, a3, a4, a5⟩ := vers 1 3 (by kernel_rfl) (by decide)
  have ad : ∀ i, (⟨g, o, none⟩ : Addr).add i = ⟨g, o + i, none⟩ := fun i => by unfold Addr.add; split <;> simp_all
  have q0 := hq 0 (by decide)
  have q1 := hq 1 (by decide)
  have q2 := hq 2 (by decide)
  have q3 := hq 3 (by decide)
  have q4 := hq 4 (by decide)
  have q5 := hq 5 (by decide)
  rw [ad] at q0 q1 q2 q3 q4 q5
  exact ⟨⟨a, b, c, x, y, z⟩, by rw [← a0, ← q0]; rfl, by rw [← a1, ← q1], by rw [← a2, ← q2], by rw [← a3, ← q3], by rw [← a4, ← q4], by rw [← a5, ← q5]⟩

theorem list_of {P : Nat → Sp → Prop} : ∀ {n : Nat}, (∀ i, i < n → ∃ s, P i s) → ∃ L : List Sp, L.length = n ∧ ∀ i (h : i < L.length), P i L[i]
  | 0, _ => ⟨[], rfl, fun i h => by simp at h⟩
  | n + 1, h => by
    obtain ⟨L, hl, hP⟩ := list_of (n := n) fun i hi => h i (by omega)
    obtain ⟨s, hs⟩ := h n (by omega)
    refine ⟨L ++ [s], by simp [hl], fun i hi => ?_⟩
    by_cases hin : i < L.length
    · rw [List.getElem_append_left hin]; exact hP i hin
    · have : i = n := by simp at hi; omega
      subst this
      simpa [hl] using hs

/-- A list of spans that came in. -/
theorem open_spans {H : Type} {enc : TypeId × Value → H} {W : World} {base fuel : Nat} {held : Bool} {a : Option Addr} {len cap : Nat} {x : DataW H × List MemPlace} (h : DataW.trod enc Tryz.prog W base (fun _ => true) held fuel 36 [.slice a len cap] = some x) :
    ∃ L : List Sp, SpansC W (.slice a len cap) L := by
  rcases Go.Deep.open_slice Tryz.underlying36 h with ⟨hcs, _⟩ | ⟨ad, l, c, m, n, D, Pl, hcs, _, hl, _, hm, hx, hel⟩
  · simp only [List.cons.injEq, Value.slice.injEq, and_true] at hcs
    obtain ⟨rfl, rfl, rfl⟩ := hcs
    exact ⟨[], ⟨_, _, rfl, Or.inl rfl⟩, _, _, _, rfl, Nat.le_refl _⟩
  · simp only [List.cons.injEq, Value.slice.injEq, and_true] at hcs
    obtain ⟨rfl, rfl, rfl⟩ := hcs
    rcases Nat.eq_zero_or_pos len with h0 | h0
    · subst h0
      exact ⟨[], ⟨_, _, rfl, Or.inl rfl⟩, _, _, _, rfl, hl⟩
    · have hmm : len ≤ m := by rw [hm]; simp; exact hl
      rw [cellsSp] at hel
      obtain ⟨g, off, spot⟩ := ad
      obtain ⟨cs0, hc0, _⟩ := hel 0 (by omega)
      obtain ⟨_, hln, hq⟩ := World.cells?_some hc0
      have hcell := hq 0 (by decide)
      rw [List.getElem?_eq_getElem (by omega : 0 < cs0.length)] at hcell
      have hspot : spot = none := by simpa [Addr.add] using World.cell?_spot hcell
      subst hspot
      have ad2 : ∀ o i, (⟨g, o, none⟩ : Addr).add i = ⟨g, o + i, none⟩ := fun o i => by unfold Addr.add; split <;> simp_all
      obtain ⟨L, hL, hP⟩ := list_of (P := fun i s => SpAt W g (off + i * 6) s) (n := len) fun i hi => by
        obtain ⟨cs, hc, ht⟩ := hel i (by omega)
        rw [ad2] at hc
        exact span_read hc ht
      subst hL
      refine ⟨L, ⟨_, _, rfl, Or.inr ⟨g, off, rfl, ?_, hP⟩⟩, _, _, _, rfl, hl⟩
      have := cell_in hcell
      rw [ad2, ad2] at this; exact this

/-- A variable of three ints that is listed first. -/
theorem ver_laid {W : World} {nm : String} {a b c : Int} {r : List (String × DataW Unit)} {g : Nat} (hg : Tryz.prog.globalNamed nm = some g) (hty : (Tryz.prog.globals[g]?).map (·.type) = some 23)
    (h : laidMet Tryz.prog ((nm, .agg [.lit (.int .i64 a), .lit (.int .i64 b), .lit (.int .i64 c)]) :: r) W) :
    W.cell? ⟨g, 0, none⟩ = some (.int .i64 a) ∧ W.cell? ⟨g, 1, none⟩ = some (.int .i64 b) ∧ W.cell? ⟨g, 2, none⟩ = some (.int .i64 c) := by
  obtain ⟨ps, ⟨g', t', cs, fuel, p, q, hg', ht', hvar, hd, _, _⟩, _⟩ := h
  obtain rfl := Option.some.inj (hg.symm.trans hg')
  obtain rfl := Option.some.inj (hty.symm.trans ht')
  obtain ⟨x, y, z, e0, e1, e2, hx⟩ := ints_of hd
  simp at hx
  obtain ⟨rfl, rfl, rfl⟩ := hx
  have c0 := World.var?_cell hg hvar 0
  have c1 := World.var?_cell hg hvar 1
  have c2 := World.var?_cell hg hvar 2
  exact ⟨by rw [c0]; simpa using e0, by rw [c1]; simpa using e1, by rw [c2]; simpa using e2⟩

/-- What the rows of this layer list. -/
abbrev laid3 : List (String × DataW Unit) := [("math/bits.deBruijn32tab", Rows.laid_math_bits_deBruijn32tab), ("math/bits.deBruijn64tab", Rows.laid_math_bits_deBruijn64tab), ("internal/strconv.uint64pow10", Rows.laid_internal_strconv_uint64pow10), ("unicode/utf8.acceptRanges", Rows.laid_unicode_utf8_acceptRanges), ("strconv.ErrRange", Rows.laid_strconv_ErrRange), ("strconv.ErrSyntax", Rows.laid_strconv_ErrSyntax), ("halyard/span.first", Rows.laid_halyard_span_first), ("halyard/span.last", Rows.laid_halyard_span_last), ("unicode/utf8.first", Rows.laid_unicode_utf8_first)]
theorem env3_of {W : World} (hsh : W.ShapedOpen Tryz.prog) (h : laidMet Tryz.prog laid3 W) : Env W ∧ FL W := by
  have hT := tab_is h
  have h3 := laidMet.tail (laidMet.tail (laidMet.tail (laidMet.tail h)))
  have h4 := laidMet.tail h3
  have h5 := laidMet.tail h4
  have h6 := laidMet.tail h5
  obtain ⟨a1, s1, hv1, _⟩ := laid_sentinel h3 (g := 5) (ti := 75) (te := 179) (ts := 9) (by kernel_rfl) (by kernel_rfl) Tryz.underlying75 row_err Tryz.underlying177 Tryz.underlying179 rfl rfl Tryz.underlying9 (by kernel_rfl) (by kernel_rfl)
  obtain ⟨a2, s2, hv2, _⟩ := laid_sentinel h4 (g := 4) (ti := 75) (te := 179) (ts := 9) (by kernel_rfl) (by kernel_rfl) Tryz.underlying75 row_err Tryz.underlying177 Tryz.underlying179 rfl rfl Tryz.underlying9 (by kernel_rfl) (by kernel_rfl)
  have c1 := World.var?_cell (g := 5) (by kernel_rfl) hv1 0
  have c2 := World.var?_cell (g := 4) (by kernel_rfl) hv2 0
  have f1 := ver_laid (g := 0) (by kernel_rfl) (by kernel_rfl) h5
  have f2 := ver_laid (g := 1) (by kernel_rfl) (by kernel_rfl) h6
  exact ⟨{ max := max_cell hsh, tab := hT, syn := ⟨_, _, by simpa using c2⟩, rng := ⟨_, _, by simpa using c1⟩ }, f1, f2, cell_in f1.1, cell_in f2.1⟩
end Go.Proofs.YtmkhhkhoinpfeaaGreatDoor
namespace Go.Proofs.YtmkhhkhoinpfeaaGreatDoor
open Go.ChangeShapes Go.WideShapes Go.ChangeAt Go.RowKit
set_option maxRecDepth 100000

theorem cellsStrD : Tryz.prog.cellsOf 9 = 1 := by kernel_rfl
theorem cellsSps : Tryz.prog.cellsOf 36 = 1 := by kernel_rfl
theorem cellsDep : Tryz.prog.cellsOf 38 = 2 := by kernel_rfl
theorem cellsDeps : Tryz.prog.cellsOf 24 = 1 := by kernel_rfl
theorem list_any {α : Type} {P : Nat → α → Prop} : ∀ {n : Nat}, (∀ i, i < n → ∃ s, P i s) → ∃ L : List α, L.length = n ∧ ∀ i (h : i < L.length), P i L[i]
  | 0, _ => ⟨[], rfl, fun i h => by simp at h⟩
  | n + 1, h => by
    obtain ⟨L, hl, hP⟩ := list_any (n := n) fun i hi => h i (by omega)
    obtain ⟨s, hs⟩ := h n (by omega)
    refine ⟨L ++ [s], by simp [hl], fun i hi => ?_⟩
    by_cases hin : i < L.length
    · rw [List.getElem_append_left hin]; exact hP i hin
    · have : i = n := by simp at hi; omega
      subst this
      simpa [hl] using hs
theorem take1 {cs : List Value} {o : Nat} {v : Value} (h : (cs.drop o).take 1 = [v]) : cs[o]? = some v := by
  have h0 : ((cs.drop o).take 1)[0]? = some v := by rw [h]; rfl
  simpa using h0

theorem spans_cs {H : Type} {enc : TypeId × Value → H} {W : World} {base fuel : Nat} {held : Bool} {cs : List Value} {x : DataW H × List MemPlace} (h : DataW.trod enc Tryz.prog W base (fun _ => true) held fuel 36 cs = some x) :
    ∃ v L, cs = [v] ∧ SpansC W v L ∧ L.length ≤ 9223372036854775807 := by
  rcases Go.Deep.open_slice Tryz.underlying36 h with ⟨rfl, _⟩ | ⟨ad, l, c, m, n, D, Pl, rfl, _, hl, hm, _⟩
  · obtain ⟨L, hL⟩ := open_spans h
    obtain ⟨a', c', e, _⟩ := hL.1
    cases L with
    | nil => exact ⟨_, [], rfl, hL, by simp⟩
    | cons s L => simp at e
  · obtain ⟨L, hL⟩ := open_spans h
    refine ⟨_, L, rfl, hL, ?_⟩
    obtain ⟨a', c', e, _⟩ := hL.1
    simp only [Value.slice.injEq] at e
    obtain ⟨_, rfl, _⟩ := e
    unfold maxLen at hm
    omega
theorem dep_read {H : Type} {enc : TypeId × Value → H} {W : World} {base : Nat} {held : Bool} {n : Nat} {g o : Nat} {cs : List Value} {x : DataW H × List MemPlace} (hc : W.cells? base ⟨g, o, none⟩ 2 = some cs) (h : DataW.trod enc Tryz.prog W base (fun _ => true) held n 38 cs = some x) : ∃ d : Dp, (∃ u, DpIn W g o d u) ∧ d.nm.size ≤ 9223372036854775807 := by
  have hs : Tryz.prog.underlying 38 = some (.struct (Tryz.prog.fieldsOf 38)) := by kernel_rfl
  obtain ⟨xs, n', _, _, _, hxl, hf⟩ := DataW.trod_struct hs h
  have hsz : (Tryz.prog.fieldsOf 38).size = 2 := by kernel_rfl
  obtain ⟨_, hcl, hq⟩ := World.cells?_some hc
  obtain ⟨f0, i0, t0, o0⟩ := field_at (fs := Tryz.prog.fieldsOf 38) (i := 0) (ty := 9) (off := 0) (by kernel_rfl)
  obtain ⟨f1, i1, t1, o1⟩ := field_at (fs := Tryz.prog.fieldsOf 38) (i := 1) (ty := 36) (off := 1) (by kernel_rfl)
  have r0 := hf 0 f0 i0
  have r1 := hf 1 f1 i1
  rw [t0, o0, cellsStrD, List.getElem?_eq_getElem (by omega : 0 < xs.length)] at r0
  rw [t1, o1, cellsSps, List.getElem?_eq_getElem (by omega : 1 < xs.length)] at r1
  obtain ⟨s, e0, _, hs0⟩ := DataW.trod_string Tryz.underlying9 r0
  obtain ⟨v, L, e1, hL, hz⟩ := spans_cs r1
  have q0 := hq 0 (by decide)
  have q1 := hq 1 (by decide)
  have ad : ∀ i, (⟨g, o, none⟩ : Addr).add i = ⟨g, o + i, none⟩ := fun i => by unfold Addr.add; split <;> simp_all
  rw [ad, take1 e0] at q0
  rw [ad, take1 e1] at q1
  exact ⟨⟨s, L⟩, ⟨v, q0, q1, ⟨hL, hz⟩, cell_in q1⟩, by unfold maxLen at hs0; exact hs0⟩
/-- A list of dependencies that came in. -/
theorem deps_cs {H : Type} {enc : TypeId × Value → H} {W : World} {base fuel : Nat} {held : Bool} {cs : List Value} {x : DataW H × List MemPlace} (h : DataW.trod enc Tryz.prog W base (fun _ => true) held fuel 24 cs = some x) :
    ∃ v L, cs = [v] ∧ DepsAt W v L ∧ L.length ≤ 9223372036854775807 ∧ ∀ d ∈ L, d.nm.size ≤ 9223372036854775807 := by
  rcases Go.Deep.open_slice Tryz.underlying24 h with ⟨rfl, _⟩ | ⟨ad, len, cap, m, n, D, Pl, rfl, _, hl, hcm, hm, hx, hel⟩
  · exact ⟨_, [], rfl, ⟨none, 0, rfl, Nat.le_refl _, Or.inl rfl⟩, by simp, (fun d hd => by cases hd)⟩
  · have hz : len ≤ 9223372036854775807 := by unfold maxLen at hcm; omega
    rcases Nat.eq_zero_or_pos len with h0 | h0
    · subst h0
      exact ⟨_, [], rfl, ⟨_, _, rfl, Nat.zero_le _, Or.inl rfl⟩, by simp, (fun d hd => by cases hd)⟩
    · have hmm : len ≤ m := by rw [hm]; simp; exact hl
      rw [cellsDep] at hel
      obtain ⟨g, off, spot⟩ := ad
      obtain ⟨cs0, hc0, _⟩ := hel 0 (by omega)
      obtain ⟨_, hln, hq⟩ := World.cells?_some hc0
      have hcell := hq 0 (by decide)
      rw [List.getElem?_eq_getElem (by omega : 0 < cs0.length)] at hcell
      have hspot : spot = none := by simpa [Addr.add] using World.cell?_spot hcell
      subst hspot
      have ad2 : ∀ o i, (⟨g, o, none⟩ : Addr).add i = ⟨g, o + i, none⟩ := fun o i => by unfold Addr.add; split <;> simp_all
      obtain ⟨L, hL, hP⟩ := list_any (P := fun i (d : Dp) => (∃ u, DpIn W g (off + i * 2) d u) ∧ d.nm.size ≤ 9223372036854775807) (n := len) fun i hi => by
        obtain ⟨cs, hc, ht⟩ := hel i (by omega)
        rw [ad2] at hc
        exact dep_read hc ht
      subst hL
      refine ⟨_, L, rfl, ⟨_, _, rfl, hl, Or.inr ⟨g, off, rfl, ?_, fun i hi => (hP i hi).1⟩⟩, hz, ?_⟩
      · have := cell_in hcell
        rw [ad2, ad2] at this; exact this
      · intro d hd
        obtain ⟨i, hi, rfl⟩ := List.getElem_of_mem hd
        exact (hP i hi).2
end Go.Proofs.YtmkhhkhoinpfeaaGreatDoor
namespace Go.Proofs.YtmkhhkhoinpfeaaGreatDoor
open Go.ChangeShapes Go.WideShapes Go.ChangeAt Go.RowKit
set_option maxRecDepth 100000

theorem cellsPkg : Tryz.prog.cellsOf 26 = 7 := by kernel_rfl
theorem list7 {α : Type} {l : List α} (h : l.length = 7) : ∃ a b c d e f g, l = [a, b, c, d, e, f, g] := by
  match l, h with
  | [a, b, c, d, e, f, g], _ => exact ⟨a, b, c, d, e, f, g, rfl⟩
theorem open_pkg {H : Type} {enc : TypeId × Value → H} {W : World} {base b0 : Nat} {held : Bool} {v : Value} {d : DataW H} {p : List MemPlace} (hv : Value.okWide Tryz.prog W .any b0 26 v) (h : DataW.Trod enc Tryz.prog W base (fun _ => true) held 26 v d p) :
    ∃ (P : Pg) (v1 v2 v3 : Value), v = .agg #[.string P.nm, .int .i64 P.a, .int .i64 P.b, .int .i64 P.c, v1, v2, v3] ∧ PgAt W P v1 v2 v3 ∧ (P.d.length ≤ 9223372036854775807 ∧ P.p.length ≤ 9223372036854775807 ∧ P.o.length ≤ 9223372036854775807) ∧ (P.nm.size ≤ 9223372036854775807 ∧ (∀ d ∈ P.d, d.nm.size ≤ 9223372036854775807) ∧ (∀ d ∈ P.p, d.nm.size ≤ 9223372036854775807) ∧ ∀ d ∈ P.o, d.nm.size ≤ 9223372036854775807) := by
  have hs : Tryz.prog.underlying 26 = some (.struct (Tryz.prog.fieldsOf 26)) := by kernel_rfl
  obtain ⟨cs, rfl, hsz⟩ := okWide_struct hs hv
  obtain ⟨n, h⟩ := h
  obtain ⟨xs, n', _, _, _, hxl, hf⟩ := DataW.trod_struct hs h
  have hfz : (Tryz.prog.fieldsOf 26).size = 5 := by kernel_rfl
  rw [cellsPkg] at hsz
  obtain ⟨f0, i0, t0, o0⟩ := field_at (fs := Tryz.prog.fieldsOf 26) (i := 0) (ty := 9) (off := 0) (by kernel_rfl)
  obtain ⟨f1, i1, t1, o1⟩ := field_at (fs := Tryz.prog.fieldsOf 26) (i := 1) (ty := 23) (off := 1) (by kernel_rfl)
  obtain ⟨f2, i2, t2, o2⟩ := field_at (fs := Tryz.prog.fieldsOf 26) (i := 2) (ty := 24) (off := 4) (by kernel_rfl)
  obtain ⟨f3, i3, t3, o3⟩ := field_at (fs := Tryz.prog.fieldsOf 26) (i := 3) (ty := 24) (off := 5) (by kernel_rfl)
  obtain ⟨f4, i4, t4, o4⟩ := field_at (fs := Tryz.prog.fieldsOf 26) (i := 4) (ty := 24) (off := 6) (by kernel_rfl)
  have r0 := hf 0 f0 i0
  have r1 := hf 1 f1 i1
  have r2 := hf 2 f2 i2
  have r3 := hf 3 f3 i3
  have r4 := hf 4 f4 i4
  rw [t0, o0, cellsStrD, List.getElem?_eq_getElem (by omega : 0 < xs.length)] at r0
  rw [t1, o1, cellsVer, List.getElem?_eq_getElem (by omega : 1 < xs.length)] at r1
  rw [t2, o2, cellsDeps, List.getElem?_eq_getElem (by omega : 2 < xs.length)] at r2
  rw [t3, o3, cellsDeps, List.getElem?_eq_getElem (by omega : 3 < xs.length)] at r3
  rw [t4, o4, cellsDeps, List.getElem?_eq_getElem (by omega : 4 < xs.length)] at r4
  obtain ⟨s, e0, _, hs0⟩ := DataW.trod_string Tryz.underlying9 r0
  obtain ⟨a, b, c, ea, eb, ec, _⟩ := ints_of r1
  obtain ⟨v1, L1, e2, h1, z1, m1⟩ := deps_cs r2
  obtain ⟨v2, L2, e3, h2, z2, m2⟩ := deps_cs r3
  obtain ⟨v3, L3, e4, h3, z3, m3⟩ := deps_cs r4
  have k0 : cs.toList[0]? = some (.string s) := take1 e0
  have k2 : cs.toList[4]? = some v1 := take1 e2
  have k3 : cs.toList[5]? = some v2 := take1 e3
  have k4 : cs.toList[6]? = some v3 := take1 e4
  have ka : ((cs.toList.drop 1).take 3)[0]? = some (.int .i64 a) := ea
  have kb : ((cs.toList.drop 1).take 3)[1]? = some (.int .i64 b) := eb
  have kc : ((cs.toList.drop 1).take 3)[2]? = some (.int .i64 c) := ec
  obtain ⟨l⟩ := cs
  obtain ⟨x0, x1, x2, x3, x4, x5, x6, rfl⟩ := list7 (l := l) (by simpa using hsz)
  simp at k0 k2 k3 k4 ka kb kc
  subst k0 k2 k3 k4 ka kb kc
  exact ⟨⟨s, a, b, c, L1, L2, L3⟩, _, _, _, rfl, ⟨h1, h2, h3⟩, ⟨z1, z2, z3⟩, by unfold maxLen at hs0; exact hs0, m1, m2, m3⟩
end Go.Proofs.YtmkhhkhoinpfeaaGreatDoor
