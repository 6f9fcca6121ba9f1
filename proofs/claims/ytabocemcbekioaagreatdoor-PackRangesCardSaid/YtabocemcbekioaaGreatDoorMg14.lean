/- Ps8, Pw1, Pw2, Rk1, laid in one text. -/
import Derived.Deep.CutRange
import Derived.Test.YtabocemcbekioaaGreatDoorMg13
namespace Go.Proofs.YtabocemcbekioaaGreatDoor
open Go.RowKit
set_option maxRecDepth 100000

/-- What Parse answers. -/
noncomputable def parPE (t : ByteArray) : Int := if Sc.ansE t 4096 = 0 then (if linesE (Sc.ansL t 4096) = 0 then (if writtenB (linesP (Sc.ansL t 4096)) = true then 0 else 24) else linesE (Sc.ansL t 4096)) else Sc.ansE t 4096
def parPP (t : ByteArray) : Pg := linesP (Sc.ansL t 4096)

set_option maxHeartbeats 6400000 in
theorem Parse_pk (t : ByteArray) {w : World} (he : Env w) (hf : FL w) : Calls Tryz.prog 16 #[.string t] w (PkQ w (parPE t) (parPP t)) := by
  have HLI : Hid (∀ w1, Calls Tryz.prog 29 #[.string t, .int .i64 4096] w1 fun e w' => ∃ v n, e = .returned (.tuple #[v, .int .i64 (Sc.ansE t 4096), .int .i64 n]) ∧ Sc.LinesAt w' v (Sc.ansL t 4096) ∧ Below w1.heap.size w1 w') := fun w1 => (lines_4096 t w1).mono fun e w' ⟨v, h1, h2, h3⟩ => ⟨v, _, h1, by obtain ⟨ps, hp, hl⟩ := h2; rw [← hp]; exact hl.at, h3⟩
  have HRL : Hid (Sc.ansE t 4096 = 0 → ∀ w1 v, Below w.heap.size w w1 → Sc.LinesAt w1 v (Sc.ansL t 4096) → Calls Tryz.prog 30 #[v] w1 (PkQ w1 (linesE (Sc.ansL t 4096)) (linesP (Sc.ansL t 4096)))) := fun h0 w1 v hb hl => by
    obtain ⟨s1, s2, s3, s4⟩ := small_of h0
    exact readLines_any hl s2 s1 s3 s4 (he.below hb) (hf.below hb)
  have HMA : Hid (∀ w1 (P : Pg) v1 v2 v3, Below w.heap.size w w1 → PgAt w1 P v1 v2 v3 → Calls Tryz.prog 9 #[.agg #[.string P.nm, .int .i64 P.a, .int .i64 P.b, .int .i64 P.c, v1, v2, v3]] w1 fun e w' => e = .returned (.bool (writtenB P)) ∧ Below w1.heap.size w1 w') := fun w1 P v1 v2 v3 hb h => pMay_any h (he.below hb) (hf.below hb)
  have HE : Hid (parPE t = if Sc.ansE t 4096 = 0 then (if linesE (Sc.ansL t 4096) = 0 then (if writtenB (linesP (Sc.ansL t 4096)) = true then 0 else 24) else linesE (Sc.ansL t 4096)) else Sc.ansE t 4096) := rfl
  have HPP : Hid (parPP t = linesP (Sc.ansL t 4096)) := rfl
  have HER : Hid (∀ er w', parPE t = er → er ≠ 0 → Below w.heap.size w w' → PkQ w (parPE t) (parPP t) (.returned (.tuple #[.agg #[.string ⟨#[]⟩, .int .i64 0, .int .i64 0, .int .i64 0, .slice none 0 0, .slice none 0 0, .slice none 0 0], .int .i64 er])) w') := fun er w' h1 h2 hb => PkQ.err h1 h2 hb
  have HOK : Hid (∀ v1 v2 v3 w', parPE t = 0 → Below w.heap.size w w' → OwnP w' w.heap.size (linesP (Sc.ansL t 4096)) v1 v2 v3 → PkQ w (parPE t) (parPP t) (.returned (.tuple #[.agg #[.string (linesP (Sc.ansL t 4096)).nm, .int .i64 (linesP (Sc.ansL t 4096)).a, .int .i64 (linesP (Sc.ansL t 4096)).b, .int .i64 (linesP (Sc.ansL t 4096)).c, v1, v2, v3], .int .i64 0])) w') := fun v1 v2 v3 w' h0 hb ho => by
    rw [h0]
    exact ⟨_, _, _, _, v1, v2, v3, rfl, hb, fun _ => ⟨rfl, rfl, rfl, rfl, ho⟩, fun hx => absurd rfl hx⟩
  have HPQ : Hid (∀ w1 er P e w', PkQ w1 er P e w' → ∃ s a b c v1 v2 v3, e = .returned (.tuple #[.agg #[.string s, .int .i64 a, .int .i64 b, .int .i64 c, v1, v2, v3], .int .i64 er]) ∧ Below w1.heap.size w1 w' ∧ (er = 0 → s = P.nm ∧ a = P.a ∧ b = P.b ∧ c = P.c ∧ OwnP w' w1.heap.size P v1 v2 v3) ∧ (∃ a1 k1 c1 a2 k2 c2 a3 k3 c3, v1 = .slice a1 k1 c1 ∧ v2 = .slice a2 k2 c2 ∧ v3 = .slice a3 k3 c3)) := fun w1 er P e w' h => by
    obtain ⟨s, a, b, c, v1, v2, v3, h1, h2, h3, h4⟩ := h
    refine ⟨s, a, b, c, v1, v2, v3, h1, h2, h3, ?_⟩
    by_cases h0 : er = 0
    · obtain ⟨q1, q2, q3, o1, o2, o3⟩ := (h3 h0).2.2.2.2
      obtain ⟨a1, c1, e1⟩ := o1.1.len
      obtain ⟨a2, c2, e2⟩ := o2.1.len
      obtain ⟨a3, c3, e3⟩ := o3.1.len
      exact ⟨_, _, _, _, _, _, _, _, _, e1, e2, e3⟩
    · obtain ⟨_, _, _, _, e1, e2, e3⟩ := h4 h0
      exact ⟨_, _, _, _, _, _, _, _, _, e1, e2, e3⟩
  clear he hf
  generalize hHQ : PkQ w (parPE t) (parPP t) = HQ at *
  clear hHQ HPP
  generalize parPE t = PE at *
  generalize Sc.ansE t 4096 = AE at *
  generalize Sc.ansL t 4096 = AL at *
  generalize linesE AL = LE at *
  generalize linesP AL = LP at *
  have HB0 : Hid (BxPF (w.alloc (.cells #[.string ⟨#[]⟩, .int .i64 0, .int .i64 0, .int .i64 0, .slice none 0 0, .slice none 0 0, .slice none 0 0] 26)) w.heap.size ⟨#[]⟩ 0 0 0 (.slice none 0 0) (.slice none 0 0) (.slice none 0 0)) := BxPF.new rfl _ _ _ _ _ _ _
  have HKB : Hid (KeepP fun w1 => BxPF w1 w.heap.size ⟨#[]⟩ 0 0 0 (.slice none 0 0) (.slice none 0 0) (.slice none 0 0)) := keepBxPF _ _ _ _ _ _ _ _
  by_cases ha : AE = 0
  · subst ha
    have HR2 := hide3 (HRL.out rfl)
    by_cases hl : LE = 0
    · subst hl
      have HMB : Hid (∀ w1 v1 v2 v3, Below w.heap.size w w1 → PgAt w1 LP v1 v2 v3 → Calls Tryz.prog 9 #[.agg #[.string LP.nm, .int .i64 LP.a, .int .i64 LP.b, .int .i64 LP.c, v1, v2, v3]] w1 fun e w' => e = .returned (.bool (writtenB LP)) ∧ Below w1.heap.size w1 w') := fun w1 v1 v2 v3 hb h => HMA.out w1 LP v1 v2 v3 hb h
      cases hwb : writtenB LP
      · have hL : PE = 24 := by rw [HE.out]; simp [hwb]
        rw [hwb] at HMB
        go_enter Tryz.func16, Tryz.ntmps16
        go_upto_region 7 with (first
          | (go_at_call 29; refine (HLI.out _).mono ?_; rintro e w1 ⟨v, n, rfl, hla, hb1⟩; have HLA := hide3 hla; have HB1 : Hid (Below w.heap.size w w1 ∧ BxPF w1 w.heap.size ⟨#[]⟩ 0 0 0 (.slice none 0 0) (.slice none 0 0) (.slice none 0 0)) := ⟨below_then (boxB _ _) hb1, HKB.out _ _ HB0.out hb1⟩; obtain ⟨adv, capv, rfl, _⟩ := hla; clear hb1)
          | (go_at_call 30; refine (HR2.out _ _ HB1.out.1 HLA.out).mono ?_; rintro e w2 hq; obtain ⟨s, a, b, c, v1, v2, v3, rfl, hb2, hok2, a1, k1, c1, a2, k2, c2, a3, k3, c3, rfl, rfl, rfl⟩ := HPQ.out _ _ _ _ _ hq; obtain ⟨rfl, rfl, rfl, rfl, how⟩ := hok2 rfl; have HB3 : Hid (Below w.heap.size w (w2.alloc (.cells #[.string LP.nm, .int .i64 LP.a, .int .i64 LP.b, .int .i64 LP.c, .slice a1 k1 c1, .slice a2 k2 c2, .slice a3 k3 c3] 26)) ∧ BxPF (w2.alloc (.cells #[.string LP.nm, .int .i64 LP.a, .int .i64 LP.b, .int .i64 LP.c, .slice a1 k1 c1, .slice a2 k2 c2, .slice a3 k3 c3] 26)) w.heap.size ⟨#[]⟩ 0 0 0 (.slice none 0 0) (.slice none 0 0) (.slice none 0 0) ∧ OwnP (w2.alloc (.cells #[.string LP.nm, .int .i64 LP.a, .int .i64 LP.b, .int .i64 LP.c, .slice a1 k1 c1, .slice a2 k2 c2, .slice a3 k3 c3] 26)) w1.heap.size LP (.slice a1 k1 c1) (.slice a2 k2 c2) (.slice a3 k3 c3)) := ⟨below_then (below_then HB1.out.1 hb2) (boxB _ _), HKB.out _ _ (HKB.out _ _ HB1.out.2 hb2) (boxB _ _), how.below (boxB _ _)⟩; clear hb2 hq hok2 how))
        have HB12 : Hid (w.heap.size < w1.heap.size) := HB1.out.2.1.2.2.2.2.2.2.2
        have HY3 : Hid (BxPF (w2.alloc (.cells #[.string LP.nm, .int .i64 LP.a, .int .i64 LP.b, .int .i64 LP.c, .slice a1 k1 c1, .slice a2 k2 c2, .slice a3 k3 c3] 26)) w2.heap.size LP.nm LP.a LP.b LP.c (.slice a1 k1 c1) (.slice a2 k2 c2) (.slice a3 k3 c3)) := BxPF.new rfl _ _ _ _ _ _ _
        generalize w2.alloc (.cells #[.string LP.nm, .int .i64 LP.a, .int .i64 LP.b, .int .i64 LP.c, .slice a1 k1 c1, .slice a2 k2 c2, .slice a3 k3 c3] 26) = w3 at *
        generalize w2.heap.size = M at *
        obtain ⟨⟨y0, y1, y2, y3, y4, y5, y6, y7⟩, _⟩ := HY3.out
        go_wp2_with (go_at_call 9; refine (HMB.out _ _ _ _ HB3.out.1 HB3.out.2.2.at).mono ?_; rintro e w4 ⟨rfl, ok4⟩; have HO4 : Hid (Below w.heap.size w w4 ∧ BxPF w4 w.heap.size ⟨#[]⟩ 0 0 0 (.slice none 0 0) (.slice none 0 0) (.slice none 0 0)) := ⟨below_then HB3.out.1 ok4, HKB.out _ _ HB3.out.2.1 ok4⟩; obtain ⟨⟨b0, b1, b2, b3, b4, b5, b6, b7⟩, hfz⟩ := HO4.out.2; have f0 := hfz 0 (by decide); have f1 := hfz 1 (by decide); have f2 := hfz 2 (by decide); have f3 := hfz 3 (by decide); have f4 := hfz 4 (by decide); have f5 := hfz 5 (by decide); have f6 := hfz 6 (by decide); clear ok4 hfz)
        have s7 := fun u0 u1 u2 u3 u4 u5 u6 => set7 b0 b1 b2 b3 b4 b5 b6 u0 u1 u2 u3 u4 u5 u6
        try simp only [Exit.inBlock, Exit.then]
        refine bodyPost_ret (by simp [results, Tryz.results16, s7, go_sem]; try rfl) rfl ?_
        exact HER.out _ _ hL (by decide) (below_set7 (Nat.le_refl _) HO4.out.1)
      · have hL : PE = 0 := by rw [HE.out]; simp [hwb]
        rw [hwb] at HMB
        go_enter Tryz.func16, Tryz.ntmps16
        go_upto_region 7 with (first
          | (go_at_call 29; refine (HLI.out _).mono ?_; rintro e w1 ⟨v, n, rfl, hla, hb1⟩; have HLA := hide3 hla; have HB1 : Hid (Below w.heap.size w w1 ∧ BxPF w1 w.heap.size ⟨#[]⟩ 0 0 0 (.slice none 0 0) (.slice none 0 0) (.slice none 0 0)) := ⟨below_then (boxB _ _) hb1, HKB.out _ _ HB0.out hb1⟩; obtain ⟨adv, capv, rfl, _⟩ := hla; clear hb1)
          | (go_at_call 30; refine (HR2.out _ _ HB1.out.1 HLA.out).mono ?_; rintro e w2 hq; obtain ⟨s, a, b, c, v1, v2, v3, rfl, hb2, hok2, a1, k1, c1, a2, k2, c2, a3, k3, c3, rfl, rfl, rfl⟩ := HPQ.out _ _ _ _ _ hq; obtain ⟨rfl, rfl, rfl, rfl, how⟩ := hok2 rfl; have HB3 : Hid (Below w.heap.size w (w2.alloc (.cells #[.string LP.nm, .int .i64 LP.a, .int .i64 LP.b, .int .i64 LP.c, .slice a1 k1 c1, .slice a2 k2 c2, .slice a3 k3 c3] 26)) ∧ BxPF (w2.alloc (.cells #[.string LP.nm, .int .i64 LP.a, .int .i64 LP.b, .int .i64 LP.c, .slice a1 k1 c1, .slice a2 k2 c2, .slice a3 k3 c3] 26)) w.heap.size ⟨#[]⟩ 0 0 0 (.slice none 0 0) (.slice none 0 0) (.slice none 0 0) ∧ OwnP (w2.alloc (.cells #[.string LP.nm, .int .i64 LP.a, .int .i64 LP.b, .int .i64 LP.c, .slice a1 k1 c1, .slice a2 k2 c2, .slice a3 k3 c3] 26)) w1.heap.size LP (.slice a1 k1 c1) (.slice a2 k2 c2) (.slice a3 k3 c3)) := ⟨below_then (below_then HB1.out.1 hb2) (boxB _ _), HKB.out _ _ (HKB.out _ _ HB1.out.2 hb2) (boxB _ _), how.below (boxB _ _)⟩; clear hb2 hq hok2 how))
        have HB12 : Hid (w.heap.size < w1.heap.size) := HB1.out.2.1.2.2.2.2.2.2.2
        have HY3 : Hid (BxPF (w2.alloc (.cells #[.string LP.nm, .int .i64 LP.a, .int .i64 LP.b, .int .i64 LP.c, .slice a1 k1 c1, .slice a2 k2 c2, .slice a3 k3 c3] 26)) w2.heap.size LP.nm LP.a LP.b LP.c (.slice a1 k1 c1) (.slice a2 k2 c2) (.slice a3 k3 c3)) := BxPF.new rfl _ _ _ _ _ _ _
        generalize w2.alloc (.cells #[.string LP.nm, .int .i64 LP.a, .int .i64 LP.b, .int .i64 LP.c, .slice a1 k1 c1, .slice a2 k2 c2, .slice a3 k3 c3] 26) = w3 at *
        generalize w2.heap.size = M at *
        obtain ⟨⟨y0, y1, y2, y3, y4, y5, y6, y7⟩, _⟩ := HY3.out
        go_wp2_with (go_at_call 9; refine (HMB.out _ _ _ _ HB3.out.1 HB3.out.2.2.at).mono ?_; rintro e w4 ⟨rfl, ok4⟩; have HO4 : Hid (Below w.heap.size w w4 ∧ BxPF w4 w.heap.size ⟨#[]⟩ 0 0 0 (.slice none 0 0) (.slice none 0 0) (.slice none 0 0)) := ⟨below_then HB3.out.1 ok4, HKB.out _ _ HB3.out.2.1 ok4⟩; have HP4 := hide3 (HB3.out.2.2.below ok4); have HY4 := hide3 (keepBxPF _ _ _ _ _ _ _ _ _ _ HY3.out ok4); clear y0 y1 y2 y3 y4 y5 y6 y7; obtain ⟨⟨y0, y1, y2, y3, y4, y5, y6, y7⟩, _⟩ := HY4.out; obtain ⟨⟨b0, b1, b2, b3, b4, b5, b6, b7⟩, hfz⟩ := HO4.out.2; have f0 := hfz 0 (by decide); have f1 := hfz 1 (by decide); have f2 := hfz 2 (by decide); have f3 := hfz 3 (by decide); have f4 := hfz 4 (by decide); have f5 := hfz 5 (by decide); have f6 := hfz 6 (by decide); clear ok4 hfz)
        have s7 := fun u0 u1 u2 u3 u4 u5 u6 => set7 b0 b1 b2 b3 b4 b5 b6 u0 u1 u2 u3 u4 u5 u6
        try simp only [Exit.inBlock, Exit.then]
        refine bodyPost_ret (by simp [results, Tryz.results16, s7, go_sem]; try rfl) rfl ?_
        refine HOK.out _ _ _ _ hL (below_set7 (Nat.le_refl _) HO4.out.1) ?_
        exact (HP4.out.of fun g hg => heap7 (by have := HB12.out; omega)).base (Nat.le_of_lt HB12.out)
    · have hL : PE = LE := by rw [HE.out]; simp [hl]
      have hre : (LE == 0) = false := by simpa using hl
      go_enter Tryz.func16, Tryz.ntmps16
      go_wp2_with (first
        | (go_at_call 29; refine (HLI.out _).mono ?_; rintro e w1 ⟨v, n, rfl, hla, hb1⟩; have HLA := hide3 hla; have HB1 : Hid (Below w.heap.size w w1 ∧ BxPF w1 w.heap.size ⟨#[]⟩ 0 0 0 (.slice none 0 0) (.slice none 0 0) (.slice none 0 0)) := ⟨below_then (boxB _ _) hb1, HKB.out _ _ HB0.out hb1⟩; obtain ⟨adv, capv, rfl, _⟩ := hla; clear hb1)
        | (go_at_call 30; refine (HR2.out _ _ HB1.out.1 HLA.out).mono ?_; rintro e w2 hq; obtain ⟨s, a, b, c, v1, v2, v3, rfl, hb2, _, a1, k1, c1, a2, k2, c2, a3, k3, c3, rfl, rfl, rfl⟩ := HPQ.out _ _ _ _ _ hq; have HO4 : Hid (Below w.heap.size w (w2.alloc (.cells #[.string s, .int .i64 a, .int .i64 b, .int .i64 c, .slice a1 k1 c1, .slice a2 k2 c2, .slice a3 k3 c3] 26)) ∧ BxPF (w2.alloc (.cells #[.string s, .int .i64 a, .int .i64 b, .int .i64 c, .slice a1 k1 c1, .slice a2 k2 c2, .slice a3 k3 c3] 26)) w.heap.size ⟨#[]⟩ 0 0 0 (.slice none 0 0) (.slice none 0 0) (.slice none 0 0)) := ⟨below_then (below_then HB1.out.1 hb2) (boxB _ _), HKB.out _ _ (HKB.out _ _ HB1.out.2 hb2) (boxB _ _)⟩; obtain ⟨⟨b0, b1, b2, b3, b4, b5, b6, b7⟩, hfz⟩ := HO4.out.2; have f0 := hfz 0 (by decide); have f1 := hfz 1 (by decide); have f2 := hfz 2 (by decide); have f3 := hfz 3 (by decide); have f4 := hfz 4 (by decide); have f5 := hfz 5 (by decide); have f6 := hfz 6 (by decide); clear hb2 hq hfz))
      have s7 := fun u0 u1 u2 u3 u4 u5 u6 => set7 b0 b1 b2 b3 b4 b5 b6 u0 u1 u2 u3 u4 u5 u6
      try simp only [Exit.inBlock, Exit.then]
      refine bodyPost_ret (by simp [results, Tryz.results16, s7, go_sem]; try rfl) rfl ?_
      exact HER.out _ _ hL hl (below_set7 (Nat.le_refl _) HO4.out.1)
  · have hL : PE = AE := by rw [HE.out, if_neg ha]
    have hre : (AE == 0) = false := by simpa using ha
    go_enter Tryz.func16, Tryz.ntmps16
    go_wp2_with (go_at_call 29; refine (HLI.out _).mono ?_; rintro e w1 ⟨v, n, rfl, _, hb1⟩; have HO4 : Hid (Below w.heap.size w w1 ∧ BxPF w1 w.heap.size ⟨#[]⟩ 0 0 0 (.slice none 0 0) (.slice none 0 0) (.slice none 0 0)) := ⟨below_then (boxB _ _) hb1, HKB.out _ _ HB0.out hb1⟩; obtain ⟨⟨b0, b1, b2, b3, b4, b5, b6, b7⟩, hfz⟩ := HO4.out.2; have f0 := hfz 0 (by decide); have f1 := hfz 1 (by decide); have f2 := hfz 2 (by decide); have f3 := hfz 3 (by decide); have f4 := hfz 4 (by decide); have f5 := hfz 5 (by decide); have f6 := hfz 6 (by decide); clear hb1 hfz)
    have s7 := fun u0 u1 u2 u3 u4 u5 u6 => set7 b0 b1 b2 b3 b4 b5 b6 u0 u1 u2 u3 u4 u5 u6
    try simp only [Exit.inBlock, Exit.then]
    refine bodyPost_ret (by simp [results, Tryz.results16, s7, go_sem]; try rfl) rfl ?_
    exact HER.out _ _ hL ha (below_set7 (Nat.le_refl _) HO4.out.1)
end Go.Proofs.YtabocemcbekioaaGreatDoor
namespace Go.Proofs.YtabocemcbekioaaGreatDoor
open Go.RowKit
set_option maxRecDepth 100000

theorem joinS (x y : Sc.Bs) (r : List Sc.Bs) (sep : Sc.Bs) : Lib.join (x :: y :: r) sep = x ++ sep ++ Lib.join (y :: r) sep := by
  rw [Lib.join_cons, Lib.join_cons]
  simp [Lib.joinTail]
theorem join_app : ∀ {A B : List Sc.Bs}, A ≠ [] → B ≠ [] → Lib.join (A ++ B) [32] = Lib.join A [32] ++ [32] ++ Lib.join B [32]
  | [], _, h, _ => absurd rfl h
  | [x], [], _, h => absurd rfl h
  | [x], y :: r, _, _ => by
    show Lib.join (x :: y :: r) [32] = _
    rw [joinS, Lib.join_one]
  | x :: y :: r, B, _, hb => by
    have ih := join_app (A := y :: r) (B := B) (by simp) hb
    show Lib.join (x :: y :: (r ++ B)) [32] = _
    rw [joinS, joinS, show y :: (r ++ B) = (y :: r) ++ B from rfl, ih]
    simp
/-- A text that is words with blanks between. -/
def WordyT (s : Sc.Bs) : Prop := ∃ ws : List Sc.Bs, ws ≠ [] ∧ ws.all Sc.isW = true ∧ Lib.join ws [32] = s
theorem wordy_one {s : Sc.Bs} (h : Sc.isW s = true) : WordyT s := ⟨[s], by simp, by simp [h], Lib.join_one _ _⟩
theorem wordy_two {s t : Sc.Bs} (hs : WordyT s) (ht : WordyT t) : WordyT (s ++ [32] ++ t) := by
  obtain ⟨a, h1, h2, rfl⟩ := hs
  obtain ⟨b, k1, k2, rfl⟩ := ht
  exact ⟨a ++ b, by simp [h1], by rw [List.all_append, h2, k2]; rfl, join_app h1 k1⟩
theorem isW_text {a b c : Int} (h : mayV a b c = true) (sg : Sc.Bs) (hs : sg.all Sc.wB = true) : Sc.isW (sg ++ (textV a b c).data.toList) = true := by
  unfold Sc.isW
  rw [List.all_append, hs]
  have h1 : (textV a b c).data.toList.all Sc.wB = true := List.all_eq_true.2 fun x hx => by
    unfold Sc.wB
    rcases text_bytes h x hx with e | e <;> simp <;> omega
  rw [h1]
  have h2 := text_long h
  have h3 : (sg ++ (textV a b c).data.toList).isEmpty = false := by
    rw [List.isEmpty_eq_false_iff]
    intro e
    have := congrArg List.length e
    rw [List.length_append] at this
    simp only [List.length_nil] at this
    omega
  rw [h3]
  rfl
theorem spT_words {p : Int × Int} (h1 : okR p.1) (h2 : okR p.2) : WordyT (spT p).data.toList := by
  have m1 := (may_at h1.has).1
  have m2 := (may_at h2.has).1
  unfold spT spanT
  split
  · exact wordy_one (isW_text m1 [] rfl)
  · split
    · exact wordy_one (by decide)
    · split
      · rw [cat_list]; exact wordy_one (isW_text m2 [60, 61] (by decide))
      · split
        · rw [cat_list]; exact wordy_one (isW_text m1 [62, 61] (by decide))
        · rw [cat_list, cat_list, cat_list]
          have := wordy_two (wordy_one (isW_text m1 [62, 61] (by decide))) (wordy_one (isW_text m2 [60, 61] (by decide)))
          simpa using this
theorem print_words : ∀ (A : Rg), A ≠ [] → (∀ p ∈ A, okR p.1 ∧ okR p.2) → WordyT (printR A).data.toList
  | [], h, _ => absurd rfl h
  | [p], _, h => by
    show WordyT (Lib.join [(spT p).data.toList] [32, 124, 124, 32])
    rw [Lib.join_one]
    exact spT_words (h p List.mem_cons_self).1 (h p List.mem_cons_self).2
  | p :: q :: r, _, h => by
    have ih : WordyT (Lib.join ((q :: r).map fun p => (spT p).data.toList) [32, 124, 124, 32]) := print_words (q :: r) (by simp) fun x hx => h x (List.mem_cons_of_mem _ hx)
    have h1 := spT_words (h p List.mem_cons_self).1 (h p List.mem_cons_self).2
    show WordyT (Lib.join ((spT p).data.toList :: (spT q).data.toList :: r.map fun p => (spT p).data.toList) [32, 124, 124, 32])
    rw [joinS]
    have := wordy_two (wordy_two h1 (wordy_one (s := [124, 124]) (by decide))) ih
    simpa using this
/-- The words of a range, and what they are read as. -/
theorem range_words {L : List Sp} (h : rangeB L = true) : ∃ ws : List Sc.Bs, ws ≠ [] ∧ ws.all Sc.isW = true ∧ Lib.join ws [32] = (prS L).data.toList ∧ parE (parR (jnT ws)) = 0 ∧ (parL (parR (jnT ws))).map spR = L := by
  have h0 := h
  unfold rangeB at h
  rw [Bool.and_eq_true, decide_eq_true_eq] at h
  obtain ⟨A, rfl, hA, hl⟩ := may_iff.1 h.2
  have hne : A ≠ [] := by rintro rfl; simp at h
  obtain ⟨ws, w1, w2, w3⟩ := print_words A hne fun p hp => ⟨(hA.ok p hp).1, (hA.ok p hp).2.1⟩
  have hj : jnT ws = printR A := by
    unfold jnT
    rw [w3]
  refine ⟨ws, w1, w2, ?_, ?_, ?_⟩
  · unfold prS; rw [pl_sp hA]; exact w3
  · rw [hj, print_par hA hl]; show fullE A.length = 0; unfold fullE; rw [if_pos hl]
  · rw [hj, print_par hA hl]; show (fitR A).map spR = _; rw [fit_of hl]
noncomputable def rgW (L : List Sp) : List Sc.Bs := if h : rangeB L = true then (range_words h).choose else []
theorem rgW_spec {L : List Sp} (h : rangeB L = true) : rgW L ≠ [] ∧ (rgW L).all Sc.isW = true ∧ Lib.join (rgW L) [32] = (prS L).data.toList ∧ parE (parR (jnT (rgW L))) = 0 ∧ (parL (parR (jnT (rgW L)))).map spR = L := by
  unfold rgW
  rw [dif_pos h]
  exact (range_words h).choose_spec

/-- A dependency's line; a list's. -/
noncomputable def lineW (x : Sc.Bs) (d : Dp) : List Sc.Bs := x :: d.nm.data.toList :: rgW d.rg
noncomputable def listW (x : Sc.Bs) (L : List Dp) : List (List Sc.Bs) := L.map (lineW x)
theorem lineT_join : ∀ {ws : List Sc.Bs}, ws ≠ [] → Sc.lineT ws = Lib.join ws [32] ++ [10]
  | [], h => absurd rfl h
  | [x], _ => by rw [Lib.join_one]; rfl
  | x :: y :: r, _ => by
    have ih := lineT_join (ws := y :: r) (by simp)
    show x ++ [32] ++ Sc.lineT (y :: r) = _
    rw [joinS, ih]
    simp
theorem lineW_text {x : ByteArray} {d : Dp} (h : rangeB d.rg = true) : Sc.lineT (lineW x.data.toList d) = lineB x d.nm (prS d.rg) := by
  obtain ⟨h1, _, h3, _⟩ := rgW_spec h
  unfold lineW lineB
  rw [lineT_join (by simp), joinS]
  cases hw : rgW d.rg with
  | nil => exact absurd hw h1
  | cons y r => rw [joinS, ← hw, h3]; simp
theorem listW_text {x : ByteArray} : ∀ {L : List Dp}, (∀ d ∈ L, rangeB d.rg = true) → Sc.textT (listW x.data.toList L) = listT x L
  | [], _ => rfl
  | d :: L, h => by
    have ih := listW_text (x := x) (L := L) fun e he => h e (List.mem_cons_of_mem _ he)
    have e1 : Sc.textT (listW x.data.toList (d :: L)) = Sc.lineT (lineW x.data.toList d) ++ Sc.textT (listW x.data.toList L) := by simp [Sc.textT, listW]
    have e2 : listT x (d :: L) = lineB x d.nm (prS d.rg) ++ listT x L := by simp [listT]
    rw [e1, e2, ih, lineW_text (h d List.mem_cons_self)]
theorem name_word {s : Sc.Bs} (h : Sc.nameA s = true) : Sc.isW s = true := by
  unfold Sc.nameA at h
  rw [Bool.and_eq_true, Bool.and_eq_true] at h
  have h1 : s.all Sc.wB = true := List.all_eq_true.2 fun b hb => by
    have := List.all_eq_true.1 h.1.2 b hb
    unfold Sc.nmB Sc.ltB Sc.dgB at this
    unfold Sc.wB
    simp at this ⊢
    omega
  cases s with
  | nil => simp [Sc.headB] at h
  | cons b r => unfold Sc.isW; rw [h1]; rfl
theorem rise_names : ∀ {L : List Dp} {q : Option ByteArray}, riseD q L = true → ∀ d ∈ L, Sc.nameA d.nm.data.toList = true ∧ rangeB d.rg = true
  | [], _, _, d, hd => by cases hd
  | e :: M, q, hq, d, hd => by
    rw [riseD, Bool.and_eq_true, Bool.and_eq_true] at hq
    rcases List.mem_cons.1 hd with rfl | hd
    · have := hq.1.1
      unfold followB at this
      rw [Bool.and_eq_true] at this
      exact ⟨this.1, hq.1.2⟩
    · exact rise_names hq.2 d hd
theorem listW_ok {x : Sc.Bs} (hx : Sc.isW x = true) {L : List Dp} (h : ∀ d ∈ L, Sc.nameA d.nm.data.toList = true ∧ rangeB d.rg = true) : (listW x L).all Sc.isL = true := by
  refine List.all_eq_true.2 fun l hl => ?_
  obtain ⟨d, hd, rfl⟩ := List.mem_map.1 hl
  obtain ⟨_, h2, _⟩ := rgW_spec (h d hd).2
  unfold Sc.isL lineW
  rw [List.all_cons, List.all_cons, hx, name_word (h d hd).1, h2]
  rfl
theorem lastN_snoc (A : List Dp) (d : Dp) : lastN (A ++ [d]) = some d.nm := by
  unfold lastN
  rw [List.getLast?_concat]
  rfl
theorem ba_of_nm (s : ByteArray) : Sc.ba s.data.toList = s := Sc.ba_of s
theorem read_list {X : List Sc.Bs} {x : Sc.Bs} {k : Nat} (hx : idxW X x = (k : Int)) : ∀ (L : List Dp) (rest : List (List Sc.Bs)) (acc : List (List Dp)) (a : Nat), a ≤ k → k < acc.length → riseD (lastN (acc.getD k [])) L = true →
    ∃ a', a' ≤ k ∧ readF X a acc (listW x L ++ rest) = readF X a' (acc.set k (acc.getD k [] ++ L)) rest
  | [], rest, acc, a, ha, hk, _ => by
    refine ⟨a, ha, ?_⟩
    have e : acc.set k (acc.getD k [] ++ []) = acc := by
      rw [List.append_nil, List.getD_eq_getElem?_getD, List.getElem?_eq_getElem hk]
      exact List.set_getElem_self hk
    rw [e]
    rfl
  | d :: L, rest, acc, a, ha, hk, hr => by
    rw [riseD, Bool.and_eq_true, Bool.and_eq_true] at hr
    obtain ⟨⟨h1, h2⟩, h3⟩ := hr
    obtain ⟨w1, w2, w3, w4, w5⟩ := rgW_spec h2
    have hd : lineDp (lineW x d) = d := by
      show (⟨Sc.ba d.nm.data.toList, (parL (parR (jnT (rgW d.rg)))).map spR⟩ : Dp) = d
      rw [Sc.ba_of, w5]
    have hs : readF X a acc (lineW x d :: (listW x L ++ rest)) = readF X k (acc.set k (acc.getD k [] ++ [d])) (listW x L ++ rest) := by
      rw [readF_step (k := k) ?_ hx ha ?_, hd]
      · unfold lineW
        cases hw : rgW d.rg with
        | nil => exact absurd hw w1
        | cons y r => simp
      · show depE (lastN (acc.getD k [])) (Sc.ba d.nm.data.toList) (rgW d.rg) = 0
        unfold depE
        rw [Sc.ba_of, if_pos h1, w5, if_pos ⟨w4, h2⟩]
    have hl : (acc.set k (acc.getD k [] ++ [d])).getD k [] = acc.getD k [] ++ [d] := by
      rw [List.getD_eq_getElem?_getD, List.getElem?_set_self hk]
      rfl
    obtain ⟨a', ha', e⟩ := read_list hx L rest (acc.set k (acc.getD k [] ++ [d])) k (Nat.le_refl _) (by rw [List.length_set]; exact hk) (by rw [hl, lastN_snoc]; exact h3)
    refine ⟨a', ha', ?_⟩
    rw [hl, List.set_set] at e
    show readF X a acc (lineW x d :: (listW x L ++ rest)) = _
    rw [hs, e, List.append_assoc]
    rfl
end Go.Proofs.YtabocemcbekioaaGreatDoor
namespace Go.Proofs.YtabocemcbekioaaGreatDoor
open Go.RowKit
set_option maxRecDepth 100000

/-- A package's lines. -/
noncomputable def pkL (P : Pg) : List (List Sc.Bs) := [[112, 97, 99, 107, 97, 103, 101], P.nm.data.toList, (textV P.a P.b P.c).data.toList] :: (listW (lwK 0).data.toList P.d ++ (listW (lwK 1).data.toList P.p ++ (listW (lwK 2).data.toList P.o ++ [])))
theorem sound_all {P : Pg} (h : soundB P = true) : Sc.nameA P.nm.data.toList = true ∧ mayV P.a P.b P.c = true ∧ (riseD none P.d = true ∧ riseD none P.p = true ∧ riseD none P.o = true) := by
  unfold soundB mayD at h
  simp only [Bool.and_eq_true] at h
  exact ⟨h.1.1.1, h.1.1.2, h.1.2.1.2, h.1.2.2.1.2, h.1.2.2.2.2⟩
theorem pkL_text {P : Pg} (h : soundB P = true) : Sc.textT (pkL P) = textP P := by
  obtain ⟨_, _, h1, h2, h3⟩ := sound_all h
  have e : ∀ (l : List Sc.Bs) (L : List (List Sc.Bs)), Sc.textT (l :: L) = Sc.lineT l ++ Sc.textT L := fun l L => by simp [Sc.textT]
  have e2 : ∀ (K L : List (List Sc.Bs)), Sc.textT (K ++ L) = Sc.textT K ++ Sc.textT L := fun K L => by simp [Sc.textT]
  unfold pkL textP
  rw [e, e2, e2, e2, listW_text fun d hd => (rise_names h1 d hd).2, listW_text fun d hd => (rise_names h2 d hd).2, listW_text fun d hd => (rise_names h3 d hd).2, lineT_join (by simp), joinS, joinS, Lib.join_one]
  simp [lineB, Sc.textT]
theorem pkL_ok {P : Pg} (h : soundB P = true) : (pkL P).all Sc.isL = true := by
  obtain ⟨hn, hv, h1, h2, h3⟩ := sound_all h
  unfold pkL
  rw [List.all_cons, List.all_append, List.all_append, List.all_append, listW_ok (by decide) (rise_names h1), listW_ok (by decide) (rise_names h2), listW_ok (by decide) (rise_names h3)]
  have h4 : Sc.isW (textV P.a P.b P.c).data.toList = true := isW_text hv [] rfl
  have h5 := name_word hn
  unfold Sc.isL
  rw [List.all_cons, List.all_cons, List.all_cons, h4, h5]
  rfl
theorem pk_read {P : Pg} (h : soundB P = true) : readF pkW 0 [[], [], []] (listW (lwK 0).data.toList P.d ++ (listW (lwK 1).data.toList P.p ++ (listW (lwK 2).data.toList P.o ++ []))) = (0, [P.d, P.p, P.o]) := by
  obtain ⟨_, _, h1, h2, h3⟩ := sound_all h
  obtain ⟨a1, b1, e1⟩ := read_list (X := pkW) (x := (lwK 0).data.toList) (k := 0) (by decide) P.d (listW (lwK 1).data.toList P.p ++ (listW (lwK 2).data.toList P.o ++ [])) [[], [], []] 0 (Nat.le_refl _) (by decide) h1
  rw [e1]
  obtain ⟨a2, b2, e2⟩ := read_list (X := pkW) (x := (lwK 1).data.toList) (k := 1) (by decide) P.p (listW (lwK 2).data.toList P.o ++ []) [P.d, [], []] a1 (by omega) (by simp) h2
  rw [show ([[], [], []] : List (List Dp)).set 0 (([[], [], []] : List (List Dp)).getD 0 [] ++ P.d) = [P.d, [], []] from rfl, e2]
  obtain ⟨a3, b3, e3⟩ := read_list (X := pkW) (x := (lwK 2).data.toList) (k := 2) (by decide) P.o [] [P.d, P.p, []] a2 (by omega) (by simp) h3
  rw [show ([P.d, [], []] : List (List Dp)).set 1 (([P.d, [], []] : List (List Dp)).getD 1 [] ++ P.p) = [P.d, P.p, []] from rfl, e3]
  rfl
/-- Parse of Print. -/
theorem pk_back {P : Pg} (h : writtenB P = true) : parPE (writtenT P) = 0 ∧ parPP (writtenT P) = P := by
  have hw := h
  unfold writtenB at h
  rw [Bool.and_eq_true, decide_eq_true_eq] at h
  obtain ⟨hs, hl⟩ := h
  obtain ⟨hn, hv, _⟩ := sound_all hs
  have ht : writtenT P = ⟨(textP P).toArray⟩ := by unfold writtenT; rw [if_pos hw]
  have hsc : Sc.scanR (writtenT P).data.toList [] [] [] = .ok (pkL P) := by
    have := Sc.scan_text (pkL P) [] (pkL_ok hs)
    rw [pkL_text hs] at this
    rw [ht]
    simpa using this
  have hz : ¬ ((4096 : Int) < ((writtenT P).size : Int)) := by
    rw [ht]
    have : (⟨(textP P).toArray⟩ : ByteArray).size = (textP P).length := by show (textP P).toArray.size = _; simp
    rw [this]
    omega
  have hE : Sc.ansE (writtenT P) 4096 = 0 := by unfold Sc.ansE; rw [if_neg hz, hsc]; rfl
  have hL : Sc.ansL (writtenT P) 4096 = pkL P := by unfold Sc.ansL; rw [if_neg hz, hsc]; rfl
  obtain ⟨v1, v2, v3, v4⟩ := okP_of hv
  have hb : Sc.ba (textV P.a P.b P.c).data.toList = textV P.a P.b P.c := Sc.ba_of _
  have hh : headE [[112, 97, 99, 107, 97, 103, 101], P.nm.data.toList, (textV P.a P.b P.c).data.toList] = 0 := by
    unfold headE
    rw [if_pos ⟨rfl, rfl⟩]
    show (if Sc.nameA P.nm.data.toList = true then (if okP (Sc.ba (textV P.a P.b P.c).data.toList) = true then 0 else 20) else 23) = (0 : Int)
    rw [if_pos hn, hb, if_pos v1]
  have hle : linesE (pkL P) = 0 := by
    unfold pkL linesE
    simp only
    rw [if_pos hh, pk_read hs]
  have hlp : linesP (pkL P) = P := by
    unfold pkL linesP
    simp only
    rw [pk_read hs]
    show (⟨Sc.ba P.nm.data.toList, resA (Sc.ba (textV P.a P.b P.c).data.toList), resB (Sc.ba (textV P.a P.b P.c).data.toList), resC (Sc.ba (textV P.a P.b P.c).data.toList), P.d, P.p, P.o⟩ : Pg) = P
    rw [hb, v2, v3, v4, Sc.ba_of]
  unfold parPE parPP
  rw [hE, hL, hle, hlp, hw]
  exact ⟨rfl, rfl⟩
/-- One text, one package. -/
theorem pk_one {P Q : Pg} (hp : writtenB P = true) (hq : writtenB Q = true) : writtenT P = writtenT Q ↔ P = Q := by
  constructor
  · intro h
    rw [← (pk_back hp).2, ← (pk_back hq).2, h]
  · rintro rfl
    rfl
end Go.Proofs.YtabocemcbekioaaGreatDoor
namespace Go.Proofs.YtabocemcbekioaaGreatDoor
open Go.RowKit
set_option maxRecDepth 100000

set_option maxHeartbeats 1600000 in
theorem rSpans_walk (A B : List Sp) (hAB : A.length = B.length) (hsz : A.length ≤ 9223372036854775807) (ga oa ca gb ob cb : Nat) (w : World) (hga : ga < w.heap.size) (hgb : gb < w.heap.size) (hla : ∀ i (h : i < A.length), SpAt w ga (oa + i * 6) A[i]) (hlb : ∀ i (h : i < B.length), SpAt w gb (ob + i * 6) B[i]) :
    Calls Tryz.prog 21 #[.slice (some ⟨ga, oa, none⟩) A.length ca, .slice (some ⟨gb, ob, none⟩) B.length cb] w fun e w' => e = .returned (.bool (eqB A B)) ∧ Below w.heap.size w w' := by
  have HL : Hid (∀ w1, Below w.heap.size w w1 → ∀ i (h : i < A.length) (h2 : i < B.length), SpIn w1 ga (oa + i * 6) A[i] ∧ SpIn w1 gb (ob + i * 6) B[i]) := fun w1 hb i hi hi2 => ⟨⟨(hla i hi).below hb hga, Nat.lt_of_lt_of_le hga hb.size⟩, ⟨(hlb i hi2).below hb hgb, Nat.lt_of_lt_of_le hgb hb.size⟩⟩
  have HAB := hide3 hAB
  clear hla hlb
  rw [← hAB]
  clear hAB
  go_enter Tryz.func21, Tryz.ntmps21
  go_wp2_with fail
  go_loopw [5] (fun i wr => ∃ k : Nat, k ≤ A.length ∧ i = .int .i64 k ∧ Below w.heap.size w wr ∧ ∀ j (h : j < k) (h1 : j < A.length) (h2 : j < B.length), A[j] = B[j]) (fun i _ => A.length - (intOf i).toNat)
  case atStart => exact ⟨0, Nat.zero_le _, rfl, Below.refl _ _, fun j h => by omega⟩
  case round =>
    obtain ⟨k, hk, rfl, hb, hall⟩ := hrel
    have HALL := hide3 hall
    have HB := hide3 hb
    clear hall
    by_cases hlt : k < A.length
    · have hltB : k < B.length := HAB.out ▸ hlt
      have HO : Hid (Below w.heap.size w wr ∧ SpIn wr ga (oa + k * 6) A[k] ∧ SpIn wr gb (ob + k * 6) B[k]) := ⟨hb, HL.out wr hb k hlt hltB⟩
      have HK : Hid (KeepP fun w1 => Below w.heap.size w w1 ∧ SpIn w1 ga (oa + k * 6) A[k] ∧ SpIn w1 gb (ob + k * 6) B[k]) := (keepBelow w).and ((keepSp _ _ _).and (keepSp _ _ _))
      have HNE : Hid (eqS A[k] B[k] = false → eqB A B = false) := fun h => eqB_no fun e => by subst e; rw [(eqS_iff).2 rfl] at h; cases h
      have HST : Hid (eqS A[k] B[k] = true → ∀ j (h : j < k + 1) (h1 : j < A.length) (h2 : j < B.length), A[j] = B[j]) := fun h j hj h1 h2 => by
        rcases Nat.lt_or_ge j k with hjk | hjk
        · exact HALL.out j hjk h1 h2
        · obtain rfl : j = k := by omega
          exact eqS_iff.1 h
      generalize A[k] = s at *
      generalize B[k] = t at *
      obtain ⟨a, b, c, x, y, z⟩ := s
      obtain ⟨a', b', c', x', y', z'⟩ := t
      have he := neqSp2 a b c x y z a' b' c' x' y' z'
      have hgd := guardSp
      cases hq : eqS ⟨a, b, c, x, y, z⟩ ⟨a', b', c', x', y', z'⟩
      · have HR := hide3 (HNE.out hq)
        rw [hq] at he
        clear hb HNE HST HALL
        go_wp2_with fail
        refine wp_region_keep HK.out (by kernel_rfl) (by kernel_rfl) (by first | exact HO.out | exact HK.out.drew HO.out) ?_
        intro C hin hout
        have HIN := hide3 hin
        have HOUT := hide3 hout
        clear hin hout HO
        repeat
          (with_reducible refine wpQuiet_step (fun K hK => ?_)
           go_simp
           first
             | (refine hK _ ?_; clear hK K)
             | (apply Exists.intro; refine ⟨fun w1 hC => ?_, hK _ ?_⟩; (focus ((first | (exact rfl) | (obtain ⟨hb1, ⟨⟨p0, p1, p2, p3, p4, p5⟩, p6⟩, ⟨⟨q0, q1, q2, q3, q4, q5⟩, q6⟩⟩ := HOUT.out w1 hC; clear hC; go_simp; first | done | exact rfl)); done)); clear hK K))
        refine wpQuiet_nil ?_
        intro wn hC
        have HO := hide3 (HOUT.out _ hC)
        clear hC HIN HOUT C
        obtain ⟨hb1, ⟨⟨p0, p1, p2, p3, p4, p5⟩, p6⟩, ⟨⟨q0, q1, q2, q3, q4, q5⟩, q6⟩⟩ := HO.out
        go_wp2
        go_ret
        exact ⟨ret_bool HR.out.symm, HO.out.1⟩
      · have HR := hide3 (HST.out hq)
        rw [hq] at he
        clear hb HNE HST HALL
        go_wp2_with fail
        refine wp_region_keep HK.out (by kernel_rfl) (by kernel_rfl) (by first | exact HO.out | exact HK.out.drew HO.out) ?_
        intro C hin hout
        have HIN := hide3 hin
        have HOUT := hide3 hout
        clear hin hout HO
        repeat
          (with_reducible refine wpQuiet_step (fun K hK => ?_)
           go_simp
           first
             | (refine hK _ ?_; clear hK K)
             | (apply Exists.intro; refine ⟨fun w1 hC => ?_, hK _ ?_⟩; (focus ((first | (exact rfl) | (obtain ⟨hb1, ⟨⟨p0, p1, p2, p3, p4, p5⟩, p6⟩, ⟨⟨q0, q1, q2, q3, q4, q5⟩, q6⟩⟩ := HOUT.out w1 hC; clear hC; go_simp; first | done | exact rfl)); done)); clear hK K))
        refine wpQuiet_nil ?_
        intro wn hC
        have HO := hide3 (HOUT.out _ hC)
        clear hC HIN HOUT C
        obtain ⟨hb1, ⟨⟨p0, p1, p2, p3, p4, p5⟩, p6⟩, ⟨⟨q0, q1, q2, q3, q4, q5⟩, q6⟩⟩ := HO.out
        go_wp2
        exact ⟨⟨k + 1, by omega, by go_num, HO.out.1, HR.out⟩, by simp [intOf]; omega⟩
    · have hke : k = A.length := by omega
      subst hke
      have HR : Hid (eqB A B = true) := eqB_yes (List.ext_getElem HAB.out fun j h1 h2 => HALL.out j h1 h1 h2)
      clear hb
      go_wp2
      go_ret
      exact ⟨ret_bool HR.out.symm, HB.out⟩

theorem rSpans_nil (ad bd : Option Addr) (ca cb : Nat) (w : World) :
    Calls Tryz.prog 21 #[.slice ad 0 ca, .slice bd 0 cb] w fun e w' => e = .returned (.bool true) ∧ Below w.heap.size w w' := by
  go_enter Tryz.func21, Tryz.ntmps21
  go_wp2_with fail
  go_loop [5] (fun i => i = .int .i64 0) (fun _ => 0)
  case atStart => rfl
  case round =>
    subst hrel
    go_wp2
    go_ret
    exact ⟨rfl, Below.refl _ _⟩

theorem rSpans_len (ad bd : Option Addr) (n m ca cb : Nat) (h : n ≠ m) (w : World) :
    Calls Tryz.prog 21 #[.slice ad n ca, .slice bd m cb] w fun e w' => e = .returned (.bool false) ∧ Below w.heap.size w w' := by
  have hn : ((n : Int) = (m : Int)) = False := by simp; omega
  go_enter Tryz.func21, Tryz.ntmps21
  go_wp2
  go_ret
  exact ⟨rfl, Below.refl _ _⟩

theorem rSpans_any {A B : List Sp} {va vb : Value} {w : World} (ha : SpansAt w va A) (hb : SpansAt w vb B) (hsz : A.length ≤ 9223372036854775807) :
    Calls Tryz.prog 21 #[va, vb] w fun e w' => e = .returned (.bool (eqB A B)) ∧ Below w.heap.size w w' := by
  obtain ⟨ad, ca, rfl, hl⟩ := ha
  obtain ⟨bd, cb, rfl, hm⟩ := hb
  by_cases hn : A.length = B.length
  · rcases hl with rfl | ⟨ga, oa, rfl, hga, hla⟩
    · obtain rfl : B = [] := List.eq_nil_of_length_eq_zero (by simpa using hn.symm)
      rw [eqB_yes rfl]
      exact rSpans_nil _ _ _ _ w
    · rcases hm with rfl | ⟨gb, ob, rfl, hgb, hlb⟩
      · obtain rfl : A = [] := List.eq_nil_of_length_eq_zero (by simpa using hn)
        rw [eqB_yes rfl]
        exact rSpans_nil _ _ _ _ w
      · exact rSpans_walk A B hn hsz ga oa ca gb ob cb w hga hgb hla hlb
  · rw [eqB_no fun e => hn (by rw [e])]
    exact rSpans_len _ _ _ _ _ _ hn w

set_option maxHeartbeats 3200000 in
theorem rDeps_walk (A B : List Dp) (hAB : A.length = B.length) (hsz : A.length ≤ 9223372036854775807) (ga oa ca gb ob cb : Nat) (w : World) (hla : ∀ i (h : i < A.length), ∃ u, DpIn w ga (oa + i * 2) A[i] u) (hlb : ∀ i (h : i < B.length), ∃ u, DpIn w gb (ob + i * 2) B[i] u) :
    Calls Tryz.prog 28 #[.slice (some ⟨ga, oa, none⟩) A.length ca, .slice (some ⟨gb, ob, none⟩) B.length cb] w fun e w' => e = .returned (.bool (eqB A B)) ∧ Below w.heap.size w w' := by
  have HL : Hid (∀ w1, Below w.heap.size w w1 → ∀ i (h : i < A.length) (h2 : i < B.length), (∃ u, DpIn w1 ga (oa + i * 2) A[i] u) ∧ ∃ u, DpIn w1 gb (ob + i * 2) B[i] u) := fun w1 hb i hi hi2 => ⟨(hla i hi).imp fun u h => h.below hb, (hlb i hi2).imp fun u h => h.below hb⟩
  have HAB := hide3 hAB
  clear hla hlb
  rw [← hAB]
  clear hAB
  go_enter Tryz.func28, Tryz.ntmps28
  go_wp2_with fail
  go_loopw [5] (fun i wr => ∃ k : Nat, k ≤ A.length ∧ i = .int .i64 k ∧ Below w.heap.size w wr ∧ ∀ j (h : j < k) (h1 : j < A.length) (h2 : j < B.length), A[j] = B[j]) (fun i _ => A.length - (intOf i).toNat)
  case atStart => exact ⟨0, Nat.zero_le _, rfl, Below.refl _ _, fun j h => by omega⟩
  case round =>
    obtain ⟨k, hk, rfl, hb, hall⟩ := hrel
    have HALL := hide3 hall
    have HB := hide3 hb
    clear hall
    by_cases hlt : k < A.length
    · have hltB : k < B.length := HAB.out ▸ hlt
      obtain ⟨⟨u, hu⟩, ⟨v, hv⟩⟩ := HL.out wr hb k hlt hltB
      have HO : Hid (Below w.heap.size w wr ∧ DpIn wr ga (oa + k * 2) A[k] u ∧ DpIn wr gb (ob + k * 2) B[k] v) := ⟨hb, hu, hv⟩
      have HK : Hid (KeepP fun w1 => Below w.heap.size w w1 ∧ DpIn w1 ga (oa + k * 2) A[k] u ∧ DpIn w1 gb (ob + k * 2) B[k] v) := (keepBelow w).and ((keepDp _ _ _ _).and (keepDp _ _ _ _))
      have HC : Hid (∀ w1, (Below w.heap.size w w1 ∧ DpIn w1 ga (oa + k * 2) A[k] u ∧ DpIn w1 gb (ob + k * 2) B[k] v) → Calls Tryz.prog 21 #[u, v] w1 fun x w' => x = .returned (.bool (eqB A[k].rg B[k].rg)) ∧ Below w1.heap.size w1 w') := fun w1 h => rSpans_any h.2.1.2.2.1.1.1 h.2.2.2.2.1.1.1 h.2.1.2.2.1.2
      have HNE : Hid (A[k] ≠ B[k] → eqB A B = false) := fun h => eqB_no fun e => by subst e; exact h rfl
      have HST : Hid (A[k] = B[k] → ∀ j (h : j < k + 1) (h1 : j < A.length) (h2 : j < B.length), A[j] = B[j]) := fun h j hj h1 h2 => by
        rcases Nat.lt_or_ge j k with hjk | hjk
        · exact HALL.out j hjk h1 h2
        · obtain rfl : j = k := by omega
          exact h
      obtain ⟨au, cu, rfl⟩ := hu.2.2.1.1.1.sl
      obtain ⟨av, cv, rfl⟩ := hv.2.2.1.1.1.sl
      clear hu hv
      generalize A[k] = d at *
      generalize B[k] = e at *
      obtain ⟨n, r⟩ := d
      obtain ⟨m, q⟩ := e
      simp only at *
      by_cases hn : n = m
      · subst hn
        have hq : (n.toList == n.toList) = true := by simp
        cases hr : eqB r q
        · have HR := hide3 (HNE.out fun e => by injection e with _ e2; rw [eqB_yes e2] at hr; cases hr)
          rw [hr] at HC
          clear hb HNE HST HALL hr
          go_wp2_with fail
          refine wp_region_keep HK.out (by kernel_rfl) (by kernel_rfl) (by first | exact HO.out | exact HK.out.drew HO.out) ?_
          intro C hin hout
          have HIN := hide3 hin
          have HOUT := hide3 hout
          clear hin hout HO
          repeat
            (with_reducible refine wpQuiet_step (fun K hK => ?_)
             go_simp
             first
               | (refine hK _ ?_; clear hK K)
               | (apply Exists.intro; refine ⟨fun w1 hC => ?_, hK _ ?_⟩; (focus ((first | (go_at_call 21; with_reducible exact callC' HIN.out HOUT.out HK.out HC.out w1 hC) | (exact rfl) | (obtain ⟨hb1, ⟨p0, p1, ph, p3⟩, ⟨q0, q1, qh, q3⟩⟩ := HOUT.out w1 hC; clear hC; go_simp; first | done | exact rfl)); done)); clear hK K))
          refine wpQuiet_nil ?_
          intro wn hC
          have HO := hide3 (HOUT.out _ hC)
          clear hC HIN HOUT C
          obtain ⟨hb1, ⟨p0, p1, ph, p3⟩, ⟨q0, q1, qh, q3⟩⟩ := HO.out
          go_wp2
          go_ret
          exact ⟨ret_bool HR.out.symm, HO.out.1⟩
        · have HR := hide3 (HST.out (by rw [eqB_iff.1 hr]))
          rw [hr] at HC
          clear hb HNE HST HALL hr
          go_wp2_with fail
          refine wp_region_keep HK.out (by kernel_rfl) (by kernel_rfl) (by first | exact HO.out | exact HK.out.drew HO.out) ?_
          intro C hin hout
          have HIN := hide3 hin
          have HOUT := hide3 hout
          clear hin hout HO
          repeat
            (with_reducible refine wpQuiet_step (fun K hK => ?_)
             go_simp
             first
               | (refine hK _ ?_; clear hK K)
               | (apply Exists.intro; refine ⟨fun w1 hC => ?_, hK _ ?_⟩; (focus ((first | (go_at_call 21; with_reducible exact callC' HIN.out HOUT.out HK.out HC.out w1 hC) | (exact rfl) | (obtain ⟨hb1, ⟨p0, p1, ph, p3⟩, ⟨q0, q1, qh, q3⟩⟩ := HOUT.out w1 hC; clear hC; go_simp; first | done | exact rfl)); done)); clear hK K))
          refine wpQuiet_nil ?_
          intro wn hC
          have HO := hide3 (HOUT.out _ hC)
          clear hC HIN HOUT C
          obtain ⟨hb1, ⟨p0, p1, ph, p3⟩, ⟨q0, q1, qh, q3⟩⟩ := HO.out
          go_wp2
          exact ⟨⟨k + 1, by omega, by go_num, HO.out.1, HR.out⟩, by simp [intOf]; omega⟩
      · have HR := hide3 (HNE.out fun e => hn (by injection e))
        have hq : (n.toList == m.toList) = false := beq_eq_false_iff_ne.2 fun e => hn (bytes_same e)
        clear hb HNE HST HALL HC
        go_wp2_with fail
        refine wp_region_keep HK.out (by kernel_rfl) (by kernel_rfl) (by first | exact HO.out | exact HK.out.drew HO.out) ?_
        intro C hin hout
        have HIN := hide3 hin
        have HOUT := hide3 hout
        clear hin hout HO
        repeat
          (with_reducible refine wpQuiet_step (fun K hK => ?_)
           go_simp
           first
             | (refine hK _ ?_; clear hK K)
             | (apply Exists.intro; refine ⟨fun w1 hC => ?_, hK _ ?_⟩; (focus ((first | (exact rfl) | (obtain ⟨hb1, ⟨p0, p1, ph, p3⟩, ⟨q0, q1, qh, q3⟩⟩ := HOUT.out w1 hC; clear hC; go_simp; first | done | exact rfl)); done)); clear hK K))
        refine wpQuiet_nil ?_
        intro wn hC
        have HO := hide3 (HOUT.out _ hC)
        clear hC HIN HOUT C
        obtain ⟨hb1, ⟨p0, p1, ph, p3⟩, ⟨q0, q1, qh, q3⟩⟩ := HO.out
        go_wp2
        go_ret
        exact ⟨ret_bool HR.out.symm, HO.out.1⟩
    · have hke : k = A.length := by omega
      subst hke
      have HR : Hid (eqB A B = true) := eqB_yes (List.ext_getElem HAB.out fun j h1 h2 => HALL.out j h1 h1 h2)
      clear hb
      go_wp2
      go_ret
      exact ⟨ret_bool HR.out.symm, HB.out⟩

theorem rDeps_nil (ad bd : Option Addr) (ca cb : Nat) (w : World) :
    Calls Tryz.prog 28 #[.slice ad 0 ca, .slice bd 0 cb] w fun e w' => e = .returned (.bool true) ∧ Below w.heap.size w w' := by
  go_enter Tryz.func28, Tryz.ntmps28
  go_wp2_with fail
  go_loop [5] (fun i => i = .int .i64 0) (fun _ => 0)
  case atStart => rfl
  case round =>
    subst hrel
    go_wp2
    go_ret
    exact ⟨rfl, Below.refl _ _⟩

theorem rDeps_len (ad bd : Option Addr) (n m ca cb : Nat) (h : n ≠ m) (w : World) :
    Calls Tryz.prog 28 #[.slice ad n ca, .slice bd m cb] w fun e w' => e = .returned (.bool false) ∧ Below w.heap.size w w' := by
  have hn : ((n : Int) = (m : Int)) = False := by simp; omega
  go_enter Tryz.func28, Tryz.ntmps28
  go_wp2
  go_ret
  exact ⟨rfl, Below.refl _ _⟩

theorem rDeps_any {A B : List Dp} {va vb : Value} {w : World} (ha : DepsAt w va A) (hb : DepsAt w vb B) (hsz : A.length ≤ 9223372036854775807) :
    Calls Tryz.prog 28 #[va, vb] w fun e w' => e = .returned (.bool (eqB A B)) ∧ Below w.heap.size w w' := by
  obtain ⟨ad, ca, rfl, _, hl⟩ := ha
  obtain ⟨bd, cb, rfl, _, hm⟩ := hb
  by_cases hn : A.length = B.length
  · rcases hl with rfl | ⟨ga, oa, rfl, hga, hla⟩
    · obtain rfl : B = [] := List.eq_nil_of_length_eq_zero (by simpa using hn.symm)
      rw [eqB_yes rfl]
      exact rDeps_nil _ _ _ _ w
    · rcases hm with rfl | ⟨gb, ob, rfl, hgb, hlb⟩
      · obtain rfl : A = [] := List.eq_nil_of_length_eq_zero (by simpa using hn)
        rw [eqB_yes rfl]
        exact rDeps_nil _ _ _ _ w
      · exact rDeps_walk A B hn hsz ga oa ca gb ob cb w hla hlb
  · rw [eqB_no fun e => hn (by rw [e])]
    exact rDeps_len _ _ _ _ _ _ hn w
end Go.Proofs.YtabocemcbekioaaGreatDoor
