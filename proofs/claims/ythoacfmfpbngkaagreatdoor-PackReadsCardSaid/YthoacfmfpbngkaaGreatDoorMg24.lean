/- Rk12c, Rk12d, Pw1, Pw2, PaA, PaB, Rk13, laid in one text. -/
import Derived.Test.YthoacfmfpbngkaaGreatDoorMg23
namespace Go.Proofs.YthoacfmfpbngkaaGreatDoor
open Go.RowKit
set_option maxRecDepth 100000

set_option maxHeartbeats 12800000 in
theorem rParsePk_c (t : ByteArray) (w : World) (y z : Sc.Bs) (r : List (List Sc.Bs)) (hE : Sc.ansE t 4096 = 0) (hAL : Sc.ansL t 4096 = [[112, 97, 99, 107, 97, 103, 101], y, z] :: r) (hNA : Sc.nameA y = true) (hVA : okP (Sc.ba z) = true) (hR : (readF pkW 0 [[], [], []] r).1 = 0) : Calls Tryz.prog 5 #[.string t] w (PkQ w (parPE t) (parPP t)) := by
  have HLI : Hid (∀ w1, Calls Tryz.prog 11 #[.string t, .int .i64 4096] w1 fun e w' => ∃ v n, e = .returned (.tuple #[v, .int .i64 (Sc.ansE t 4096), .int .i64 n]) ∧ Sc.LinesAt w' v (Sc.ansL t 4096) ∧ Below w1.heap.size w1 w') := fun w1 => by
    have : Calls Tryz.prog 11 #[.string t, .int .i64 4096] w1 (Sc.LinesQ w1 (Sc.ansE t 4096) (Sc.ansN t 4096) (Sc.ansL t 4096)) := by
      by_cases h : (4096 : Int) < (t.size : Int)
      · have := Sc.rLines_far t 4096 h w1
        unfold Sc.ansE Sc.ansN Sc.ansL
        rw [if_pos h, if_pos h, if_pos h]
        exact this
      · exact Sc.rLines_all t (by omega) 4096 w1
    exact this.mono fun e w' ⟨v, h1, h2, h3⟩ => ⟨v, _, h1, by obtain ⟨ps, hp, hl⟩ := h2; rw [← hp]; exact hl.at, h3⟩
  have HSM : Hid (Sc.ansE t 4096 = 0 → SmallL (Sc.ansL t 4096)) := fun h => small_of h
  have HEL : Hid (Sc.ansE t 4096 = 0 → ∀ hd r, Sc.ansL t 4096 = hd :: r → ¬ (hd.head? = some [112, 97, 99, 107, 97, 103, 101] ∧ hd.length = 3) → parPE t = 22) := fun h hd r h1 h2 => parPE_bad h h1 h2
  have HEN : Hid (Sc.ansE t 4096 = 0 → Sc.ansL t 4096 = [] → parPE t = 22) := fun h h1 => by unfold parPE; rw [if_pos h, h1]; rfl
  have HEE : Hid (Sc.ansE t 4096 ≠ 0 → parPE t = Sc.ansE t 4096) := fun h => by unfold parPE; rw [if_neg h]
  have HEH : Hid (Sc.ansE t 4096 = 0 → ∀ y z r, Sc.ansL t 4096 = [[112, 97, 99, 107, 97, 103, 101], y, z] :: r → parPP t = ⟨Sc.ba y, resA (Sc.ba z), resB (Sc.ba z), resC (Sc.ba z), (readF pkW 0 [[], [], []] r).2.getD 0 [], (readF pkW 0 [[], [], []] r).2.getD 1 [], (readF pkW 0 [[], [], []] r).2.getD 2 []⟩ ∧ parPE t = if Sc.nameA y = true then (if okP (Sc.ba z) = true then (if (readF pkW 0 [[], [], []] r).1 = 0 then (if writtenB ⟨Sc.ba y, resA (Sc.ba z), resB (Sc.ba z), resC (Sc.ba z), (readF pkW 0 [[], [], []] r).2.getD 0 [], (readF pkW 0 [[], [], []] r).2.getD 1 [], (readF pkW 0 [[], [], []] r).2.getD 2 []⟩ = true then 0 else 24) else (readF pkW 0 [[], [], []] r).1) else 20) else 23) := fun h y z r h1 => parPE_head h h1
  have HER : Hid (∀ er w', parPE t = er → er ≠ 0 → Below w.heap.size w w' → PkQ w (parPE t) (parPP t) (.returned (.tuple #[.agg #[.string ⟨#[]⟩, .int .i64 0, .int .i64 0, .int .i64 0, .slice none 0 0, .slice none 0 0, .slice none 0 0], .int .i64 er])) w') := fun er w' h1 h2 hb => PkQ.err h1 h2 hb
  have HOK : Hid (∀ v1 v2 v3 w', parPE t = 0 → Below w.heap.size w w' → OwnP w' w.heap.size (parPP t) v1 v2 v3 → PkQ w (parPE t) (parPP t) (.returned (.tuple #[.agg #[.string (parPP t).nm, .int .i64 (parPP t).a, .int .i64 (parPP t).b, .int .i64 (parPP t).c, v1, v2, v3], .int .i64 0])) w') := fun v1 v2 v3 w' h0 hb ho => by
    rw [h0]
    exact ⟨_, _, _, _, v1, v2, v3, rfl, hb, fun _ => ⟨rfl, rfl, rfl, rfl, ho⟩, fun hx => absurd rfl hx⟩
  have HNA := hide3 hNA
  have HVA := hide3 hVA
  have HR := hide3 hR
  clear hNA hVA hR
  generalize hHQ : PkQ w (parPE t) (parPP t) = HQ at *
  clear hHQ
  generalize parPE t = PE at *
  generalize parPP t = PM at *
  generalize Sc.ansE t 4096 = AE at *
  generalize Sc.ansL t 4096 = AL at *
  have HB0 : Hid (BxPF (w.alloc (.cells #[.string ⟨#[]⟩, .int .i64 0, .int .i64 0, .int .i64 0, .slice none 0 0, .slice none 0 0, .slice none 0 0] 26)) w.heap.size ⟨#[]⟩ 0 0 0 (.slice none 0 0) (.slice none 0 0) (.slice none 0 0)) := BxPF.new rfl _ _ _ _ _ _ _
  have HKB : Hid (KeepP fun w1 => Below w.heap.size w w1 ∧ BxPF w1 w.heap.size ⟨#[]⟩ 0 0 0 (.slice none 0 0) (.slice none 0 0) (.slice none 0 0)) := (keepBelow w).and (keepBxPF _ _ _ _ _ _ _ _)
  go_enter Tryz.func5, Tryz.ntmps5
  go_upto_region 2 with (go_at_call 11; refine (HLI.out _).mono ?_; rintro e w1 ⟨v, n, rfl, hla, hb1⟩; have HB1 : Hid (Below w.heap.size w w1 ∧ BxPF w1 w.heap.size ⟨#[]⟩ 0 0 0 (.slice none 0 0) (.slice none 0 0) (.slice none 0 0)) := HKB.out _ _ ⟨boxB _ _, HB0.out⟩ hb1; have HLA := hide3 hla; clear hb1 hla)
  obtain ⟨adv, capv, rfl, hc, hcs⟩ := HLA.out
  clear HLI HB0
  subst hE
  subst hAL
  obtain ⟨g, o, rfl, hg, hcs⟩ : ∃ g o, adv = some ⟨g, o, none⟩ ∧ g < w1.heap.size ∧ ∀ i (hi : i < ([[112, 97, 99, 107, 97, 103, 101], y, z] :: r).length), ∃ u, w1.cell? ⟨g, o + i, none⟩ = some u ∧ Sc.WordsAt w1 u ([[112, 97, 99, 107, 97, 103, 101], y, z] :: r)[i] := by
    rcases hcs with h | h
    · cases h
    · exact h
  obtain ⟨u, c0, hu⟩ := hcs 0 (by simp)
  have hr : ∀ i (hi : i < r.length), ∃ u, w1.cell? ⟨g, o + 1 + i, none⟩ = some u ∧ Sc.WordsAt w1 u r[i] := fun i hi => by
    have := hcs (i + 1) (by simpa using hi)
    simpa [Nat.add_assoc, Nat.add_comm 1 i] using this
  have hc' : r.length + 1 ≤ capv := hc
  have c0' : w1.cell? ⟨g, o, none⟩ = some u := c0
  have hu' : Sc.WordsAt w1 u [[112, 97, 99, 107, 97, 103, 101], y, z] := hu
  obtain ⟨au, cu, rfl, _, hx⟩ := hu'
  rw [List.length_cons]
  have hb0 : (0 : Int) < (r.length : Int) + 1 := by omega
  have hb1 : (1 : Int) ≤ (r.length : Int) + 1 := by omega
  have hb2 : (r.length : Int) + 1 ≤ (capv : Int) := by omega
  have hb3 : ((r.length : Int) + 1 == 0) = false := by rw [beq_eq_false_iff_ne]; omega
  clear c0 hu hcs HLA
  obtain ⟨gu, ou, rfl, hgu, hx⟩ : ∃ g o, au = some ⟨g, o, none⟩ ∧ g < w1.heap.size ∧ ∀ i (hi : i < [[112, 97, 99, 107, 97, 103, 101], y, z].length), w1.cell? ⟨g, o + i, none⟩ = some (.string (Sc.ba [[112, 97, 99, 107, 97, 103, 101], y, z][i])) := by
    rcases hx with h | h
    · cases h
    · exact h
  have cx : w1.cell? ⟨gu, ou, none⟩ = some (.string (Sc.ba [112, 97, 99, 107, 97, 103, 101])) := hx 0 (by simp)
  have cy : w1.cell? ⟨gu, ou + 1, none⟩ = some (.string (Sc.ba y)) := hx 1 (by simp)
  have cz : w1.cell? ⟨gu, ou + 2, none⟩ = some (.string (Sc.ba z)) := hx 2 (by simp)
  have c0 : w1.cell? ⟨g, o, none⟩ = some (.slice (some ⟨gu, ou, none⟩) 3 cu) := c0'
  clear c0' hx
  have hq : ((Sc.ba [112, 97, 99, 107, 97, 103, 101]).toList == [112, 97, 99, 107, 97, 103, 101]) = true := by rw [ba_toList]; rfl
  obtain ⟨hPM, hPE⟩ := HEH.out rfl y z r rfl
  obtain ⟨sm1, sm2, sm3, sm4⟩ := HSM.out rfl
  have hyz := sm4 [[112, 97, 99, 107, 97, 103, 101], y, z] List.mem_cons_self
  have hy5 : y.length ≤ 5000 := hyz y (by simp)
  have hz5 : z.length ≤ 5000 := hyz z (by simp)
  have HN : Hid (∀ w2, Calls Tryz.prog 12 #[.string (Sc.ba y)] w2 fun e w' => e = .returned (.bool (Sc.nameA y)) ∧ w' = w2) := fun w2 => by have := Sc.rName_any (Sc.ba y) (by rw [Sc.ba_size]; omega) w2; rw [Sc.ba_list] at this; exact this
  have HV : Hid (∀ w2, Calls Tryz.prog 13 #[.string (Sc.ba z)] w2 fun e w' => e = .returned (.tuple #[.agg #[.int .i64 (resA (Sc.ba z)), .int .i64 (resB (Sc.ba z)), .int .i64 (resC (Sc.ba z))], .bool (okP (Sc.ba z))]) ∧ Below w2.heap.size w2 w') := fun w2 => rParse_walk _ (by rw [Sc.ba_size]; omega) w2
  have HYZ : Hid ((Sc.ba y).size ≤ 5000) := by unfold Hid; rw [Sc.ba_size]; exact hy5
  have HLS : Hid (∀ w2 vx va, Below w1.heap.size w1 w2 → Sc.WordsAt w2 vx pkW → Sc.LinesAt w1 va r → Calls Tryz.prog 14 #[va, vx] w2 (ReadQ w2 (readF pkW 0 [[], [], []] r))) := fun w2 vx va hb hx hl => rLists_any (X := pkW) (Lns := r) (hl.below hb) hx (by decide) (by decide) (by simp at sm1; omega) (fun ln hm => sm2 ln (List.mem_cons_of_mem _ hm)) (fun ln hm => sm3 ln (List.mem_cons_of_mem _ hm)) (fun ln hm => sm4 ln (List.mem_cons_of_mem _ hm))
  have HRL := hide3 (readF_len (X := pkW) r 0 [[], [], []])
  have HKO : Hid ((readF pkW 0 [[], [], []] r).1 = 0 → ∀ i, OkL (0 + r.length) ((readF pkW 0 [[], [], []] r).2.getD i [])) := fun h0 i => OkL.getD (readF_ok r 0 0 _ (fun L hL => by simp at hL; subst hL; exact ⟨Nat.zero_le _, fun d hd => by cases hd⟩) h0) i
  have hr5 : r.length ≤ 5000 := by simp at sm1; omega
  generalize readF pkW 0 [[], [], []] r = RF at *
  generalize Sc.ba [112, 97, 99, 107, 97, 103, 101] = s0 at *
  generalize Sc.ba y = sy at *
  generalize okP (Sc.ba z) = vb at *
  generalize resA (Sc.ba z) = ra at *
  generalize resB (Sc.ba z) = rb at *
  generalize resC (Sc.ba z) = rc at *
  generalize Sc.ba z = sz at *
  generalize Sc.nameA y = nb at *
  clear HEH HEN HEL HEE HSM sm1 sm2 sm3 sm4 hyz hy5 hz5
  obtain rfl := HNA.out
  obtain rfl := HVA.out
  have hr0 := HR.out
  simp only [if_true] at hPE
  by_cases hcap : capv = 1
  · subst hcap
    obtain rfl : r = [] := List.eq_nil_of_length_eq_zero (by omega)
    have HL2 : Hid (∀ w2 vx, Below w1.heap.size w1 w2 → Sc.WordsAt w2 vx pkW → Calls Tryz.prog 14 #[.slice (some ⟨g, o, none⟩) 0 0, vx] w2 (ReadQ w2 RF)) := fun w2 vx hb hx => HLS.out w2 vx _ hb hx ⟨_, 0, rfl, Nat.le_refl _, Or.inl rfl⟩
    clear hr HLS hb0 hb1 hb2 hb3
    rw [List.length_nil]
    have HWA : Hid (∀ w2 : World, Sc.WordsAt ((w2.alloc (.cells #[.int .i64 ra, .int .i64 rb, .int .i64 rc] 23)).alloc (.cells #[.string ⟨#[110, 101, 101, 100, 115]⟩, .string ⟨#[98, 101, 115, 105, 100, 101]⟩, .string ⟨#[108, 105, 107, 101, 115]⟩] 9)) (.slice (some ⟨w2.heap.size + 1, 0, none⟩) 3 3) pkW) := fun w2 => words3_next w2 _ _ _
    have hKO := HKO.out hr0
    rw [if_pos hr0] at hPE
    go_upto_region 14 with (first
      | (go_at_call 12; refine (HN.out _).mono ?_; rintro e w' ⟨rfl, hw'⟩; obtain rfl : w1 = w' := hw'.symm)
      | (go_at_call 13; refine (HV.out _).mono ?_; rintro e w2 ⟨rfl, ok⟩; have HB3 : Hid (Below w1.heap.size w1 (w2.alloc (.cells #[.int .i64 ra, .int .i64 rb, .int .i64 rc] 23))) := below_then ok (boxB _ _); have hw2 : w1.heap.size ≤ w2.heap.size := ok.size; clear ok)
      | (go_at_call 14; refine (HL2.out ((w2.alloc (.cells #[.int .i64 ra, .int .i64 rb, .int .i64 rc] 23)).alloc (.cells #[.string ⟨#[110, 101, 101, 100, 115]⟩, .string ⟨#[98, 101, 115, 105, 100, 101]⟩, .string ⟨#[108, 105, 107, 101, 115]⟩] 9)) (.slice (some ⟨w2.heap.size + 1, 0, none⟩) 3 3) (below_then HB3.out (boxB _ _)) (HWA.out w2)).mono ?_; rintro e w6 ⟨vr, rfl, hb6, hok6, _⟩; obtain ⟨N, rows, hvr, hRD, hpl⟩ := hok6 hr0; subst hvr; have HB6 : Hid (Below w1.heap.size w1 w6) := below_then (below_then HB3.out (boxB _ _)) hb6; have HV6 : Hid (Below (w2.alloc (.cells #[.int .i64 ra, .int .i64 rb, .int .i64 rc] 23)).heap.size (w2.alloc (.cells #[.int .i64 ra, .int .i64 rb, .int .i64 rc] 23)) w6) := below_then (boxB _ _) hb6; have HRD := hide3 hRD; have HPL := hide3 hpl; rw [hr0]; clear hb6 hok6 hRD hpl))
    have HX6 := hide3 (HKB.out _ _ HB1.out HB6.out)
    have hrl : rows.length = 3 := by have := HRL.out hr0; rw [← HPL.out] at this; unfold plainR at this; simpa using this
    obtain ⟨a1, k1, c1, a2, k2, c2, a3, k3, c3, ⟨n0, n1, n2⟩, hop⟩ := rows3 HPL.out hrl HRD.out sy ra rb rc
    have HOP : Hid (OwnP w6 w1.heap.size ⟨sy, ra, rb, rc, RF.2.getD 0 [], RF.2.getD 1 [], RF.2.getD 2 []⟩ (.slice a1 k1 c1) (.slice a2 k2 c2) (.slice a3 k3 c3)) := hop.base (by simp; omega)
    have hw1 : w.heap.size < w1.heap.size := HB1.out.2.1.2.2.2.2.2.2.2
    have HM1 : Hid (w1.heap.size ≤ w6.heap.size) := HB6.out.size
    rw [hrl]
    clear hop
    have k0 := (HB6.out.cell (p := ⟨g, o, none⟩) hg).trans c0
    have kk1 := (HB6.out.cell (p := ⟨gu, ou + 1, none⟩) hgu).trans cy
    have v0 := (HV6.out.cell (p := ⟨w2.heap.size, 0, none⟩) (by simp)).trans (show (w2.alloc (.cells #[.int .i64 ra, .int .i64 rb, .int .i64 rc] 23)).cell? ⟨w2.heap.size, 0, none⟩ = some (.int .i64 ra) by simp)
    have v1 := (HV6.out.cell (p := ⟨w2.heap.size, 1, none⟩) (by simp)).trans (show (w2.alloc (.cells #[.int .i64 ra, .int .i64 rb, .int .i64 rc] 23)).cell? ⟨w2.heap.size, 1, none⟩ = some (.int .i64 rb) by simp)
    have v2 := (HV6.out.cell (p := ⟨w2.heap.size, 2, none⟩) (by simp)).trans (show (w2.alloc (.cells #[.int .i64 ra, .int .i64 rb, .int .i64 rc] 23)).cell? ⟨w2.heap.size, 2, none⟩ = some (.int .i64 rc) by simp)
    generalize w2.heap.size = MV at *
    have k0' := ((boxB w6 (.cells #[.string ⟨#[]⟩, .int .i64 0, .int .i64 0, .int .i64 0, .slice none 0 0, .slice none 0 0, .slice none 0 0] 26)).cell (p := ⟨g, o, none⟩) (cell_in k0)).trans k0
    have kk1' := ((boxB w6 (.cells #[.string ⟨#[]⟩, .int .i64 0, .int .i64 0, .int .i64 0, .slice none 0 0, .slice none 0 0, .slice none 0 0] 26)).cell (p := ⟨gu, ou + 1, none⟩) (cell_in kk1)).trans kk1
    have v0' := ((boxB w6 (.cells #[.string ⟨#[]⟩, .int .i64 0, .int .i64 0, .int .i64 0, .slice none 0 0, .slice none 0 0, .slice none 0 0] 26)).cell (p := ⟨MV, 0, none⟩) (cell_in v0)).trans v0
    have v1' := ((boxB w6 (.cells #[.string ⟨#[]⟩, .int .i64 0, .int .i64 0, .int .i64 0, .slice none 0 0, .slice none 0 0, .slice none 0 0] 26)).cell (p := ⟨MV, 1, none⟩) (cell_in v1)).trans v1
    have v2' := ((boxB w6 (.cells #[.string ⟨#[]⟩, .int .i64 0, .int .i64 0, .int .i64 0, .slice none 0 0, .slice none 0 0, .slice none 0 0] 26)).cell (p := ⟨MV, 2, none⟩) (cell_in v2)).trans v2
    have n0' := ((boxB w6 (.cells #[.string ⟨#[]⟩, .int .i64 0, .int .i64 0, .int .i64 0, .slice none 0 0, .slice none 0 0, .slice none 0 0] 26)).cell (p := ⟨N, 0, none⟩) (cell_in n0)).trans n0
    have n1' := ((boxB w6 (.cells #[.string ⟨#[]⟩, .int .i64 0, .int .i64 0, .int .i64 0, .slice none 0 0, .slice none 0 0, .slice none 0 0] 26)).cell (p := ⟨N, 1, none⟩) (cell_in n1)).trans n1
    have n2' := ((boxB w6 (.cells #[.string ⟨#[]⟩, .int .i64 0, .int .i64 0, .int .i64 0, .slice none 0 0, .slice none 0 0, .slice none 0 0] 26)).cell (p := ⟨N, 2, none⟩) (cell_in n2)).trans n2
    go_cut [10] from 11 (fun s10 wx => ∃ M, s10 = .pointer (some ⟨M, 0, none⟩) ∧ w1.heap.size ≤ M ∧ (Below w.heap.size w wx ∧ BxPF wx w.heap.size ⟨#[]⟩ 0 0 0 (.slice none 0 0) (.slice none 0 0) (.slice none 0 0)) ∧ BxP wx M sy ra rb rc (.slice a1 k1 c1) (.slice a2 k2 c2) (.slice a3 k3 c3) ∧ OwnP wx w1.heap.size ⟨sy, ra, rb, rc, RF.2.getD 0 [], RF.2.getD 1 [], RF.2.getD 2 []⟩ (.slice a1 k1 c1) (.slice a2 k2 c2) (.slice a3 k3 c3))
    case first =>
      go_region_held3 (fun w' => (w'.cell? ⟨g, o, none⟩ = some (.slice (some ⟨gu, ou, none⟩) 3 cu) ∧ w'.cell? ⟨gu, ou + 1, none⟩ = some (.string sy)) ∧ (w'.cell? ⟨MV, 0, none⟩ = some (.int .i64 ra) ∧ w'.cell? ⟨MV, 1, none⟩ = some (.int .i64 rb) ∧ w'.cell? ⟨MV, 2, none⟩ = some (.int .i64 rc)) ∧ w'.cell? ⟨N, 0, none⟩ = some (.slice a1 k1 c1) ∧ w'.cell? ⟨N, 1, none⟩ = some (.slice a2 k2 c2) ∧ w'.cell? ⟨N, 2, none⟩ = some (.slice a3 k3 c3)) (go_keep) (fail)
      all_goals go_wp2_with fail
      all_goals go_meet
      all_goals first
        | exact ⟨_, rfl, HM1.out, HKB.out.drew (HKB.out _ _ HX6.out (boxB _ _)), (keepBxP _ _ _ _ _ _ _ _).drew (BxP.new rfl _ _ _ _ _ _ _), (keepOwnP _ _ _ _ _).drew (HOP.out.below (boxB _ _))⟩
        | (trace_state; sorry)
    case rest =>
      obtain ⟨M, rfl, hM1, hbd, hyd, hod⟩ := hcut
      have HBD := hide3 hbd
      have HOD := hide3 hod
      have HYD := hide3 hyd
      have HMA : Hid (Calls Tryz.prog 15 #[.agg #[.string sy, .int .i64 ra, .int .i64 rb, .int .i64 rc, .slice a1 k1 c1, .slice a2 k2 c2, .slice a3 k3 c3]] wc fun e w' => e = .returned (.bool (writtenB ⟨sy, ra, rb, rc, RF.2.getD 0 [], RF.2.getD 1 [], RF.2.getD 2 []⟩)) ∧ Below wc.heap.size wc w') := by
        have := rMay_pk HOD.out.at ⟨Nat.le_trans (hKO 0).1 (by omega), Nat.le_trans (hKO 1).1 (by omega), Nat.le_trans (hKO 2).1 (by omega)⟩ ⟨Nat.le_trans HYZ.out (by omega), fun d hd => Nat.le_trans ((hKO 0).2 d hd) (by omega), fun d hd => Nat.le_trans ((hKO 1).2 d hd) (by omega), fun d hd => Nat.le_trans ((hKO 2).2 d hd) (by omega)⟩
        rw [doc_is] at this
        exact this
      clear hbd hod n0 n1 n2 n0' n1' n2' v0 v1 v2 v0' v1' v2' k0 k0' kk1 kk1'
      obtain ⟨y0, y1, y2, y3, y4, y5, y6, y7⟩ := hyd
      subst hPM
      generalize hWB : writtenB ⟨sy, ra, rb, rc, RF.2.getD 0 [], RF.2.getD 1 [], RF.2.getD 2 []⟩ = wb at *
      cases wb
      · simp only [Bool.false_eq_true, if_false] at hPE
        go_wp2_with (go_at_call 15; refine HMA.out.mono ?_; rintro e w7 ⟨rfl, ok⟩; have HH := hide3 (HKB.out _ _ HBD.out ok); obtain ⟨⟨b0, b1, b2, b3, b4, b5, b6, b7⟩, hfz⟩ := HH.out.2; have f0 := hfz 0 (by decide); have f1 := hfz 1 (by decide); have f2 := hfz 2 (by decide); have f3 := hfz 3 (by decide); have f4 := hfz 4 (by decide); have f5 := hfz 5 (by decide); have f6 := hfz 6 (by decide); clear hfz; have s7 := fun u0 u1 u2 u3 u4 u5 u6 => set7 b0 b1 b2 b3 b4 b5 b6 u0 u1 u2 u3 u4 u5 u6; clear ok)
        try simp only [Exit.inBlock, Exit.then]
        refine bodyPost_ret (by simp [results, Tryz.results5, s7, go_sem]; try rfl) rfl ?_
        exact HER.out _ _ hPE (by decide) (below_set7 (Nat.le_refl _) HH.out.1)
      · simp only [if_true] at hPE
        go_wp2_with (go_at_call 15; refine HMA.out.mono ?_; rintro e w7 ⟨rfl, ok⟩; have HH := hide3 (HKB.out _ _ HBD.out ok); have HP7 := hide3 (HOD.out.below ok); have HY7 := hide3 (keepBxP _ _ _ _ _ _ _ _ _ _ HYD.out ok); clear y0 y1 y2 y3 y4 y5 y6 y7; obtain ⟨y0, y1, y2, y3, y4, y5, y6, y7⟩ := HY7.out; obtain ⟨⟨b0, b1, b2, b3, b4, b5, b6, b7⟩, hfz⟩ := HH.out.2; have f0 := hfz 0 (by decide); have f1 := hfz 1 (by decide); have f2 := hfz 2 (by decide); have f3 := hfz 3 (by decide); have f4 := hfz 4 (by decide); have f5 := hfz 5 (by decide); have f6 := hfz 6 (by decide); clear hfz; have s7 := fun u0 u1 u2 u3 u4 u5 u6 => set7 b0 b1 b2 b3 b4 b5 b6 u0 u1 u2 u3 u4 u5 u6; clear ok)
        try simp only [Exit.inBlock, Exit.then]
        refine bodyPost_ret (by simp [results, Tryz.results5, s7, go_sem]; try rfl) rfl ?_
        refine HOK.out _ _ _ _ hPE (below_set7 (Nat.le_refl _) HH.out.1) ?_
        exact (HP7.out.of fun g hg => heap7 (by omega)).base (by omega)
  · have HL2 : Hid (∀ w2 vx, Below w1.heap.size w1 w2 → Sc.WordsAt w2 vx pkW → Calls Tryz.prog 14 #[.slice (some ⟨g, o + 1, none⟩) r.length (capv - 1), vx] w2 (ReadQ w2 RF)) := fun w2 vx hb hx => HLS.out w2 vx _ hb hx ⟨_, _, rfl, by omega, Or.inr ⟨g, o + 1, rfl, hg, hr⟩⟩
    clear hr HLS
    have HWA : Hid (∀ w2 : World, Sc.WordsAt ((w2.alloc (.cells #[.int .i64 ra, .int .i64 rb, .int .i64 rc] 23)).alloc (.cells #[.string ⟨#[110, 101, 101, 100, 115]⟩, .string ⟨#[98, 101, 115, 105, 100, 101]⟩, .string ⟨#[108, 105, 107, 101, 115]⟩] 9)) (.slice (some ⟨w2.heap.size + 1, 0, none⟩) 3 3) pkW) := fun w2 => words3_next w2 _ _ _
    have hKO := HKO.out hr0
    rw [if_pos hr0] at hPE
    go_upto_region 14 with (first
      | (go_at_call 12; refine (HN.out _).mono ?_; rintro e w' ⟨rfl, hw'⟩; obtain rfl : w1 = w' := hw'.symm)
      | (go_at_call 13; refine (HV.out _).mono ?_; rintro e w2 ⟨rfl, ok⟩; have HB3 : Hid (Below w1.heap.size w1 (w2.alloc (.cells #[.int .i64 ra, .int .i64 rb, .int .i64 rc] 23))) := below_then ok (boxB _ _); have hw2 : w1.heap.size ≤ w2.heap.size := ok.size; clear ok)
      | (go_at_call 14; refine (HL2.out ((w2.alloc (.cells #[.int .i64 ra, .int .i64 rb, .int .i64 rc] 23)).alloc (.cells #[.string ⟨#[110, 101, 101, 100, 115]⟩, .string ⟨#[98, 101, 115, 105, 100, 101]⟩, .string ⟨#[108, 105, 107, 101, 115]⟩] 9)) (.slice (some ⟨w2.heap.size + 1, 0, none⟩) 3 3) (below_then HB3.out (boxB _ _)) (HWA.out w2)).mono ?_; rintro e w6 ⟨vr, rfl, hb6, hok6, _⟩; obtain ⟨N, rows, hvr, hRD, hpl⟩ := hok6 hr0; subst hvr; have HB6 : Hid (Below w1.heap.size w1 w6) := below_then (below_then HB3.out (boxB _ _)) hb6; have HV6 : Hid (Below (w2.alloc (.cells #[.int .i64 ra, .int .i64 rb, .int .i64 rc] 23)).heap.size (w2.alloc (.cells #[.int .i64 ra, .int .i64 rb, .int .i64 rc] 23)) w6) := below_then (boxB _ _) hb6; have HRD := hide3 hRD; have HPL := hide3 hpl; rw [hr0]; clear hb6 hok6 hRD hpl))
    have HX6 := hide3 (HKB.out _ _ HB1.out HB6.out)
    have hrl : rows.length = 3 := by have := HRL.out hr0; rw [← HPL.out] at this; unfold plainR at this; simpa using this
    obtain ⟨a1, k1, c1, a2, k2, c2, a3, k3, c3, ⟨n0, n1, n2⟩, hop⟩ := rows3 HPL.out hrl HRD.out sy ra rb rc
    have HOP : Hid (OwnP w6 w1.heap.size ⟨sy, ra, rb, rc, RF.2.getD 0 [], RF.2.getD 1 [], RF.2.getD 2 []⟩ (.slice a1 k1 c1) (.slice a2 k2 c2) (.slice a3 k3 c3)) := hop.base (by simp; omega)
    have hw1 : w.heap.size < w1.heap.size := HB1.out.2.1.2.2.2.2.2.2.2
    have HM1 : Hid (w1.heap.size ≤ w6.heap.size) := HB6.out.size
    rw [hrl]
    clear hop
    have k0 := (HB6.out.cell (p := ⟨g, o, none⟩) hg).trans c0
    have kk1 := (HB6.out.cell (p := ⟨gu, ou + 1, none⟩) hgu).trans cy
    have v0 := (HV6.out.cell (p := ⟨w2.heap.size, 0, none⟩) (by simp)).trans (show (w2.alloc (.cells #[.int .i64 ra, .int .i64 rb, .int .i64 rc] 23)).cell? ⟨w2.heap.size, 0, none⟩ = some (.int .i64 ra) by simp)
    have v1 := (HV6.out.cell (p := ⟨w2.heap.size, 1, none⟩) (by simp)).trans (show (w2.alloc (.cells #[.int .i64 ra, .int .i64 rb, .int .i64 rc] 23)).cell? ⟨w2.heap.size, 1, none⟩ = some (.int .i64 rb) by simp)
    have v2 := (HV6.out.cell (p := ⟨w2.heap.size, 2, none⟩) (by simp)).trans (show (w2.alloc (.cells #[.int .i64 ra, .int .i64 rb, .int .i64 rc] 23)).cell? ⟨w2.heap.size, 2, none⟩ = some (.int .i64 rc) by simp)
    generalize w2.heap.size = MV at *
    have k0' := ((boxB w6 (.cells #[.string ⟨#[]⟩, .int .i64 0, .int .i64 0, .int .i64 0, .slice none 0 0, .slice none 0 0, .slice none 0 0] 26)).cell (p := ⟨g, o, none⟩) (cell_in k0)).trans k0
    have kk1' := ((boxB w6 (.cells #[.string ⟨#[]⟩, .int .i64 0, .int .i64 0, .int .i64 0, .slice none 0 0, .slice none 0 0, .slice none 0 0] 26)).cell (p := ⟨gu, ou + 1, none⟩) (cell_in kk1)).trans kk1
    have v0' := ((boxB w6 (.cells #[.string ⟨#[]⟩, .int .i64 0, .int .i64 0, .int .i64 0, .slice none 0 0, .slice none 0 0, .slice none 0 0] 26)).cell (p := ⟨MV, 0, none⟩) (cell_in v0)).trans v0
    have v1' := ((boxB w6 (.cells #[.string ⟨#[]⟩, .int .i64 0, .int .i64 0, .int .i64 0, .slice none 0 0, .slice none 0 0, .slice none 0 0] 26)).cell (p := ⟨MV, 1, none⟩) (cell_in v1)).trans v1
    have v2' := ((boxB w6 (.cells #[.string ⟨#[]⟩, .int .i64 0, .int .i64 0, .int .i64 0, .slice none 0 0, .slice none 0 0, .slice none 0 0] 26)).cell (p := ⟨MV, 2, none⟩) (cell_in v2)).trans v2
    have n0' := ((boxB w6 (.cells #[.string ⟨#[]⟩, .int .i64 0, .int .i64 0, .int .i64 0, .slice none 0 0, .slice none 0 0, .slice none 0 0] 26)).cell (p := ⟨N, 0, none⟩) (cell_in n0)).trans n0
    have n1' := ((boxB w6 (.cells #[.string ⟨#[]⟩, .int .i64 0, .int .i64 0, .int .i64 0, .slice none 0 0, .slice none 0 0, .slice none 0 0] 26)).cell (p := ⟨N, 1, none⟩) (cell_in n1)).trans n1
    have n2' := ((boxB w6 (.cells #[.string ⟨#[]⟩, .int .i64 0, .int .i64 0, .int .i64 0, .slice none 0 0, .slice none 0 0, .slice none 0 0] 26)).cell (p := ⟨N, 2, none⟩) (cell_in n2)).trans n2
    go_cut [10] from 11 (fun s10 wx => ∃ M, s10 = .pointer (some ⟨M, 0, none⟩) ∧ w1.heap.size ≤ M ∧ (Below w.heap.size w wx ∧ BxPF wx w.heap.size ⟨#[]⟩ 0 0 0 (.slice none 0 0) (.slice none 0 0) (.slice none 0 0)) ∧ BxP wx M sy ra rb rc (.slice a1 k1 c1) (.slice a2 k2 c2) (.slice a3 k3 c3) ∧ OwnP wx w1.heap.size ⟨sy, ra, rb, rc, RF.2.getD 0 [], RF.2.getD 1 [], RF.2.getD 2 []⟩ (.slice a1 k1 c1) (.slice a2 k2 c2) (.slice a3 k3 c3))
    case first =>
      go_region_held3 (fun w' => (w'.cell? ⟨g, o, none⟩ = some (.slice (some ⟨gu, ou, none⟩) 3 cu) ∧ w'.cell? ⟨gu, ou + 1, none⟩ = some (.string sy)) ∧ (w'.cell? ⟨MV, 0, none⟩ = some (.int .i64 ra) ∧ w'.cell? ⟨MV, 1, none⟩ = some (.int .i64 rb) ∧ w'.cell? ⟨MV, 2, none⟩ = some (.int .i64 rc)) ∧ w'.cell? ⟨N, 0, none⟩ = some (.slice a1 k1 c1) ∧ w'.cell? ⟨N, 1, none⟩ = some (.slice a2 k2 c2) ∧ w'.cell? ⟨N, 2, none⟩ = some (.slice a3 k3 c3)) (go_keep) (fail)
      all_goals go_wp2_with fail
      all_goals go_meet
      all_goals first
        | exact ⟨_, rfl, HM1.out, HKB.out.drew (HKB.out _ _ HX6.out (boxB _ _)), (keepBxP _ _ _ _ _ _ _ _).drew (BxP.new rfl _ _ _ _ _ _ _), (keepOwnP _ _ _ _ _).drew (HOP.out.below (boxB _ _))⟩
        | (trace_state; sorry)
    case rest =>
      obtain ⟨M, rfl, hM1, hbd, hyd, hod⟩ := hcut
      have HBD := hide3 hbd
      have HOD := hide3 hod
      have HYD := hide3 hyd
      have HMA : Hid (Calls Tryz.prog 15 #[.agg #[.string sy, .int .i64 ra, .int .i64 rb, .int .i64 rc, .slice a1 k1 c1, .slice a2 k2 c2, .slice a3 k3 c3]] wc fun e w' => e = .returned (.bool (writtenB ⟨sy, ra, rb, rc, RF.2.getD 0 [], RF.2.getD 1 [], RF.2.getD 2 []⟩)) ∧ Below wc.heap.size wc w') := by
        have := rMay_pk HOD.out.at ⟨Nat.le_trans (hKO 0).1 (by omega), Nat.le_trans (hKO 1).1 (by omega), Nat.le_trans (hKO 2).1 (by omega)⟩ ⟨Nat.le_trans HYZ.out (by omega), fun d hd => Nat.le_trans ((hKO 0).2 d hd) (by omega), fun d hd => Nat.le_trans ((hKO 1).2 d hd) (by omega), fun d hd => Nat.le_trans ((hKO 2).2 d hd) (by omega)⟩
        rw [doc_is] at this
        exact this
      clear hbd hod n0 n1 n2 n0' n1' n2' v0 v1 v2 v0' v1' v2' k0 k0' kk1 kk1'
      obtain ⟨y0, y1, y2, y3, y4, y5, y6, y7⟩ := hyd
      subst hPM
      generalize hWB : writtenB ⟨sy, ra, rb, rc, RF.2.getD 0 [], RF.2.getD 1 [], RF.2.getD 2 []⟩ = wb at *
      cases wb
      · simp only [Bool.false_eq_true, if_false] at hPE
        go_wp2_with (go_at_call 15; refine HMA.out.mono ?_; rintro e w7 ⟨rfl, ok⟩; have HH := hide3 (HKB.out _ _ HBD.out ok); obtain ⟨⟨b0, b1, b2, b3, b4, b5, b6, b7⟩, hfz⟩ := HH.out.2; have f0 := hfz 0 (by decide); have f1 := hfz 1 (by decide); have f2 := hfz 2 (by decide); have f3 := hfz 3 (by decide); have f4 := hfz 4 (by decide); have f5 := hfz 5 (by decide); have f6 := hfz 6 (by decide); clear hfz; have s7 := fun u0 u1 u2 u3 u4 u5 u6 => set7 b0 b1 b2 b3 b4 b5 b6 u0 u1 u2 u3 u4 u5 u6; clear ok)
        try simp only [Exit.inBlock, Exit.then]
        refine bodyPost_ret (by simp [results, Tryz.results5, s7, go_sem]; try rfl) rfl ?_
        exact HER.out _ _ hPE (by decide) (below_set7 (Nat.le_refl _) HH.out.1)
      · simp only [if_true] at hPE
        go_wp2_with (go_at_call 15; refine HMA.out.mono ?_; rintro e w7 ⟨rfl, ok⟩; have HH := hide3 (HKB.out _ _ HBD.out ok); have HP7 := hide3 (HOD.out.below ok); have HY7 := hide3 (keepBxP _ _ _ _ _ _ _ _ _ _ HYD.out ok); clear y0 y1 y2 y3 y4 y5 y6 y7; obtain ⟨y0, y1, y2, y3, y4, y5, y6, y7⟩ := HY7.out; obtain ⟨⟨b0, b1, b2, b3, b4, b5, b6, b7⟩, hfz⟩ := HH.out.2; have f0 := hfz 0 (by decide); have f1 := hfz 1 (by decide); have f2 := hfz 2 (by decide); have f3 := hfz 3 (by decide); have f4 := hfz 4 (by decide); have f5 := hfz 5 (by decide); have f6 := hfz 6 (by decide); clear hfz; have s7 := fun u0 u1 u2 u3 u4 u5 u6 => set7 b0 b1 b2 b3 b4 b5 b6 u0 u1 u2 u3 u4 u5 u6; clear ok)
        try simp only [Exit.inBlock, Exit.then]
        refine bodyPost_ret (by simp [results, Tryz.results5, s7, go_sem]; try rfl) rfl ?_
        refine HOK.out _ _ _ _ hPE (below_set7 (Nat.le_refl _) HH.out.1) ?_
        exact (HP7.out.of fun g hg => heap7 (by omega)).base (by omega)
end Go.Proofs.YthoacfmfpbngkaaGreatDoor
namespace Go.Proofs.YthoacfmfpbngkaaGreatDoor
open Go.RowKit

theorem rParsePk_any (t : ByteArray) (w : World) : Calls Tryz.prog 5 #[.string t] w (PkQ w (parPE t) (parPP t)) := by
  by_cases h : ∃ y z r, Sc.ansE t 4096 = 0 ∧ Sc.ansL t 4096 = [[112, 97, 99, 107, 97, 103, 101], y, z] :: r ∧ Sc.nameA y = true ∧ okP (Sc.ba z) = true
  · obtain ⟨y, z, r, hE, hL, hN, hV⟩ := h
    by_cases hR : (readF pkW 0 [[], [], []] r).1 = 0
    · exact rParsePk_c t w y z r hE hL hN hV hR
    · exact rParsePk_b t w y z r hE hL hN hV hR
  · exact rParsePk_a t w fun y z r hE hL hN hV => h ⟨y, z, r, hE, hL, hN, hV⟩
end Go.Proofs.YthoacfmfpbngkaaGreatDoor
namespace Go.Proofs.YthoacfmfpbngkaaGreatDoor
open Go.RowKit
set_option maxRecDepth 100000

theorem joinS (x y : Sc.Bs) (r : List Sc.Bs) (sep : Sc.Bs) : Lib.join (x :: y :: r) sep = x ++ sep ++ Lib.join (y :: r) sep := by
  rw [Lib.join_cons, Lib.join_cons]
  simp [Lib.joinTail]
theorem join_app : ∀ {A B : List Sc.Bs}, A ≠ [] → B ≠ [] → Lib.join (A ++ B) [32] = Lib.join A [32] ++ [32] ++ Lib.join B [32]
  | [], _, h, _ => absurd rfl h
  | [x], [], _, h => absurd rfl h
  | [x], y :: r, _, _ => by
    show Lib.join (x :: y :: r) [32] = _
    rw [joinS, Lib.join_one]
  | x :: y :: r, B, _, hb => by
    have ih := join_app (A := y :: r) (B := B) (by simp) hb
    show Lib.join (x :: y :: (r ++ B)) [32] = _
    rw [joinS, joinS, show y :: (r ++ B) = (y :: r) ++ B from rfl, ih]
    simp
/-- A text that is words with blanks between. -/
def WordyT (s : Sc.Bs) : Prop := ∃ ws : List Sc.Bs, ws ≠ [] ∧ ws.all Sc.isW = true ∧ Lib.join ws [32] = s
theorem wordy_one {s : Sc.Bs} (h : Sc.isW s = true) : WordyT s := ⟨[s], by simp, by simp [h], Lib.join_one _ _⟩
theorem wordy_two {s t : Sc.Bs} (hs : WordyT s) (ht : WordyT t) : WordyT (s ++ [32] ++ t) := by
  obtain ⟨a, h1, h2, rfl⟩ := hs
  obtain ⟨b, k1, k2, rfl⟩ := ht
  exact ⟨a ++ b, by simp [h1], by rw [List.all_append, h2, k2]; rfl, join_app h1 k1⟩
theorem isW_text {a b c : Int} (h : mayV a b c = true) (sg : Sc.Bs) (hs : sg.all Sc.wB = true) : Sc.isW (sg ++ (textV a b c).data.toList) = true := by
  unfold Sc.isW
  rw [List.all_append, hs]
  have h1 : (textV a b c).data.toList.all Sc.wB = true := List.all_eq_true.2 fun x hx => by
    unfold Sc.wB
    rcases text_bytes h x hx with e | e <;> simp <;> omega
  rw [h1]
  have h2 := text_long h
  have h3 : (sg ++ (textV a b c).data.toList).isEmpty = false := by
    rw [List.isEmpty_eq_false_iff]
    intro e
    have := congrArg List.length e
    rw [List.length_append] at this
    simp only [List.length_nil] at this
    omega
  rw [h3]
  rfl
theorem spT_words {p : Int × Int} (h1 : okR p.1) (h2 : okR p.2) : WordyT (spT p).data.toList := by
  have m1 := (may_at h1.has).1
  have m2 := (may_at h2.has).1
  unfold spT spanT
  split
  · exact wordy_one (isW_text m1 [] rfl)
  · split
    · exact wordy_one (by decide)
    · split
      · rw [cat_list]; exact wordy_one (isW_text m2 [60, 61] (by decide))
      · split
        · rw [cat_list]; exact wordy_one (isW_text m1 [62, 61] (by decide))
        · rw [cat_list, cat_list, cat_list]
          have := wordy_two (wordy_one (isW_text m1 [62, 61] (by decide))) (wordy_one (isW_text m2 [60, 61] (by decide)))
          simpa using this
theorem print_words : ∀ (A : Rg), A ≠ [] → (∀ p ∈ A, okR p.1 ∧ okR p.2) → WordyT (printR A).data.toList
  | [], h, _ => absurd rfl h
  | [p], _, h => by
    show WordyT (Lib.join [(spT p).data.toList] [32, 124, 124, 32])
    rw [Lib.join_one]
    exact spT_words (h p List.mem_cons_self).1 (h p List.mem_cons_self).2
  | p :: q :: r, _, h => by
    have ih : WordyT (Lib.join ((q :: r).map fun p => (spT p).data.toList) [32, 124, 124, 32]) := print_words (q :: r) (by simp) fun x hx => h x (List.mem_cons_of_mem _ hx)
    have h1 := spT_words (h p List.mem_cons_self).1 (h p List.mem_cons_self).2
    show WordyT (Lib.join ((spT p).data.toList :: (spT q).data.toList :: r.map fun p => (spT p).data.toList) [32, 124, 124, 32])
    rw [joinS]
    have := wordy_two (wordy_two h1 (wordy_one (s := [124, 124]) (by decide))) ih
    simpa using this
/-- The words of a range, and what they are read as. -/
theorem range_words {L : List Sp} (h : rangeB L = true) : ∃ ws : List Sc.Bs, ws ≠ [] ∧ ws.all Sc.isW = true ∧ Lib.join ws [32] = (prS L).data.toList ∧ parE (parR (jnT ws)) = 0 ∧ (parL (parR (jnT ws))).map spR = L := by
  have h0 := h
  unfold rangeB at h
  rw [Bool.and_eq_true, decide_eq_true_eq] at h
  obtain ⟨A, rfl, hA, hl⟩ := may_iff.1 h.2
  have hne : A ≠ [] := by rintro rfl; simp at h
  obtain ⟨ws, w1, w2, w3⟩ := print_words A hne fun p hp => ⟨(hA.ok p hp).1, (hA.ok p hp).2.1⟩
  have hj : jnT ws = printR A := by
    unfold jnT
    rw [w3]
  refine ⟨ws, w1, w2, ?_, ?_, ?_⟩
  · unfold prS; rw [pl_sp hA]; exact w3
  · rw [hj, print_par hA hl]; show fullE A.length = 0; unfold fullE; rw [if_pos hl]
  · rw [hj, print_par hA hl]; show (fitR A).map spR = _; rw [fit_of hl]
noncomputable def rgW (L : List Sp) : List Sc.Bs := if h : rangeB L = true then (range_words h).choose else []
theorem rgW_spec {L : List Sp} (h : rangeB L = true) : rgW L ≠ [] ∧ (rgW L).all Sc.isW = true ∧ Lib.join (rgW L) [32] = (prS L).data.toList ∧ parE (parR (jnT (rgW L))) = 0 ∧ (parL (parR (jnT (rgW L)))).map spR = L := by
  unfold rgW
  rw [dif_pos h]
  exact (range_words h).choose_spec

/-- A dependency's line; a list's. -/
noncomputable def lineW (x : Sc.Bs) (d : Dp) : List Sc.Bs := x :: d.nm.data.toList :: rgW d.rg
noncomputable def listW (x : Sc.Bs) (L : List Dp) : List (List Sc.Bs) := L.map (lineW x)
theorem lineT_join : ∀ {ws : List Sc.Bs}, ws ≠ [] → Sc.lineT ws = Lib.join ws [32] ++ [10]
  | [], h => absurd rfl h
  | [x], _ => by rw [Lib.join_one]; rfl
  | x :: y :: r, _ => by
    have ih := lineT_join (ws := y :: r) (by simp)
    show x ++ [32] ++ Sc.lineT (y :: r) = _
    rw [joinS, ih]
    simp
theorem lineW_text {x : ByteArray} {d : Dp} (h : rangeB d.rg = true) : Sc.lineT (lineW x.data.toList d) = lineB x d.nm (prS d.rg) := by
  obtain ⟨h1, _, h3, _⟩ := rgW_spec h
  unfold lineW lineB
  rw [lineT_join (by simp), joinS]
  cases hw : rgW d.rg with
  | nil => exact absurd hw h1
  | cons y r => rw [joinS, ← hw, h3]; simp
theorem listW_text {x : ByteArray} : ∀ {L : List Dp}, (∀ d ∈ L, rangeB d.rg = true) → Sc.textT (listW x.data.toList L) = listT x L
  | [], _ => rfl
  | d :: L, h => by
    have ih := listW_text (x := x) (L := L) fun e he => h e (List.mem_cons_of_mem _ he)
    have e1 : Sc.textT (listW x.data.toList (d :: L)) = Sc.lineT (lineW x.data.toList d) ++ Sc.textT (listW x.data.toList L) := by simp [Sc.textT, listW]
    have e2 : listT x (d :: L) = lineB x d.nm (prS d.rg) ++ listT x L := by simp [listT]
    rw [e1, e2, ih, lineW_text (h d List.mem_cons_self)]
theorem name_word {s : Sc.Bs} (h : Sc.nameA s = true) : Sc.isW s = true := by
  unfold Sc.nameA at h
  rw [Bool.and_eq_true, Bool.and_eq_true] at h
  have h1 : s.all Sc.wB = true := List.all_eq_true.2 fun b hb => by
    have := List.all_eq_true.1 h.1.2 b hb
    unfold Sc.nmB Sc.ltB Sc.dgB at this
    unfold Sc.wB
    simp at this ⊢
    omega
  cases s with
  | nil => simp [Sc.headB] at h
  | cons b r => unfold Sc.isW; rw [h1]; rfl
theorem rise_names : ∀ {L : List Dp} {q : Option ByteArray}, riseD q L = true → ∀ d ∈ L, Sc.nameA d.nm.data.toList = true ∧ rangeB d.rg = true
  | [], _, _, d, hd => by cases hd
  | e :: M, q, hq, d, hd => by
    rw [riseD, Bool.and_eq_true, Bool.and_eq_true] at hq
    rcases List.mem_cons.1 hd with rfl | hd
    · have := hq.1.1
      unfold followB at this
      rw [Bool.and_eq_true] at this
      exact ⟨this.1, hq.1.2⟩
    · exact rise_names hq.2 d hd
theorem listW_ok {x : Sc.Bs} (hx : Sc.isW x = true) {L : List Dp} (h : ∀ d ∈ L, Sc.nameA d.nm.data.toList = true ∧ rangeB d.rg = true) : (listW x L).all Sc.isL = true := by
  refine List.all_eq_true.2 fun l hl => ?_
  obtain ⟨d, hd, rfl⟩ := List.mem_map.1 hl
  obtain ⟨_, h2, _⟩ := rgW_spec (h d hd).2
  unfold Sc.isL lineW
  rw [List.all_cons, List.all_cons, hx, name_word (h d hd).1, h2]
  rfl
theorem lastN_snoc (A : List Dp) (d : Dp) : lastN (A ++ [d]) = some d.nm := by
  unfold lastN
  rw [List.getLast?_concat]
  rfl
theorem ba_of_nm (s : ByteArray) : Sc.ba s.data.toList = s := Sc.ba_of s
theorem read_list {X : List Sc.Bs} {x : Sc.Bs} {k : Nat} (hx : idxW X x = (k : Int)) : ∀ (L : List Dp) (rest : List (List Sc.Bs)) (acc : List (List Dp)) (a : Nat), a ≤ k → k < acc.length → riseD (lastN (acc.getD k [])) L = true →
    ∃ a', a' ≤ k ∧ readF X a acc (listW x L ++ rest) = readF X a' (acc.set k (acc.getD k [] ++ L)) rest
  | [], rest, acc, a, ha, hk, _ => by
    refine ⟨a, ha, ?_⟩
    have e : acc.set k (acc.getD k [] ++ []) = acc := by
      rw [List.append_nil, List.getD_eq_getElem?_getD, List.getElem?_eq_getElem hk]
      exact List.set_getElem_self hk
    rw [e]
    rfl
  | d :: L, rest, acc, a, ha, hk, hr => by
    rw [riseD, Bool.and_eq_true, Bool.and_eq_true] at hr
    obtain ⟨⟨h1, h2⟩, h3⟩ := hr
    obtain ⟨w1, w2, w3, w4, w5⟩ := rgW_spec h2
    have hd : lineDp (lineW x d) = d := by
      show (⟨Sc.ba d.nm.data.toList, (parL (parR (jnT (rgW d.rg)))).map spR⟩ : Dp) = d
      rw [Sc.ba_of, w5]
    have hs : readF X a acc (lineW x d :: (listW x L ++ rest)) = readF X k (acc.set k (acc.getD k [] ++ [d])) (listW x L ++ rest) := by
      rw [readF_step (k := k) ?_ hx ha ?_, hd]
      · unfold lineW
        cases hw : rgW d.rg with
        | nil => exact absurd hw w1
        | cons y r => simp
      · show depE (lastN (acc.getD k [])) (Sc.ba d.nm.data.toList) (rgW d.rg) = 0
        unfold depE
        rw [Sc.ba_of, if_pos h1, w5, if_pos ⟨w4, h2⟩]
    have hl : (acc.set k (acc.getD k [] ++ [d])).getD k [] = acc.getD k [] ++ [d] := by
      rw [List.getD_eq_getElem?_getD, List.getElem?_set_self hk]
      rfl
    obtain ⟨a', ha', e⟩ := read_list hx L rest (acc.set k (acc.getD k [] ++ [d])) k (Nat.le_refl _) (by rw [List.length_set]; exact hk) (by rw [hl, lastN_snoc]; exact h3)
    refine ⟨a', ha', ?_⟩
    rw [hl, List.set_set] at e
    show readF X a acc (lineW x d :: (listW x L ++ rest)) = _
    rw [hs, e, List.append_assoc]
    rfl
end Go.Proofs.YthoacfmfpbngkaaGreatDoor
namespace Go.Proofs.YthoacfmfpbngkaaGreatDoor
open Go.RowKit
set_option maxRecDepth 100000

/-- A package's lines. -/
noncomputable def pkL (P : Pg) : List (List Sc.Bs) := [[112, 97, 99, 107, 97, 103, 101], P.nm.data.toList, (textV P.a P.b P.c).data.toList] :: (listW (lwK 0).data.toList P.d ++ (listW (lwK 1).data.toList P.p ++ (listW (lwK 2).data.toList P.o ++ [])))
theorem sound_all {P : Pg} (h : soundB P = true) : Sc.nameA P.nm.data.toList = true ∧ mayV P.a P.b P.c = true ∧ (riseD none P.d = true ∧ riseD none P.p = true ∧ riseD none P.o = true) := by
  unfold soundB mayD at h
  simp only [Bool.and_eq_true] at h
  exact ⟨h.1.1.1, h.1.1.2, h.1.2.1.2, h.1.2.2.1.2, h.1.2.2.2.2⟩
theorem pkL_text {P : Pg} (h : soundB P = true) : Sc.textT (pkL P) = textP P := by
  obtain ⟨_, _, h1, h2, h3⟩ := sound_all h
  have e : ∀ (l : List Sc.Bs) (L : List (List Sc.Bs)), Sc.textT (l :: L) = Sc.lineT l ++ Sc.textT L := fun l L => by simp [Sc.textT]
  have e2 : ∀ (K L : List (List Sc.Bs)), Sc.textT (K ++ L) = Sc.textT K ++ Sc.textT L := fun K L => by simp [Sc.textT]
  unfold pkL textP
  rw [e, e2, e2, e2, listW_text fun d hd => (rise_names h1 d hd).2, listW_text fun d hd => (rise_names h2 d hd).2, listW_text fun d hd => (rise_names h3 d hd).2, lineT_join (by simp), joinS, joinS, Lib.join_one]
  simp [lineB, Sc.textT]
theorem pkL_ok {P : Pg} (h : soundB P = true) : (pkL P).all Sc.isL = true := by
  obtain ⟨hn, hv, h1, h2, h3⟩ := sound_all h
  unfold pkL
  rw [List.all_cons, List.all_append, List.all_append, List.all_append, listW_ok (by decide) (rise_names h1), listW_ok (by decide) (rise_names h2), listW_ok (by decide) (rise_names h3)]
  have h4 : Sc.isW (textV P.a P.b P.c).data.toList = true := isW_text hv [] rfl
  have h5 := name_word hn
  unfold Sc.isL
  rw [List.all_cons, List.all_cons, List.all_cons, h4, h5]
  rfl
theorem pk_read {P : Pg} (h : soundB P = true) : readF pkW 0 [[], [], []] (listW (lwK 0).data.toList P.d ++ (listW (lwK 1).data.toList P.p ++ (listW (lwK 2).data.toList P.o ++ []))) = (0, [P.d, P.p, P.o]) := by
  obtain ⟨_, _, h1, h2, h3⟩ := sound_all h
  obtain ⟨a1, b1, e1⟩ := read_list (X := pkW) (x := (lwK 0).data.toList) (k := 0) (by decide) P.d (listW (lwK 1).data.toList P.p ++ (listW (lwK 2).data.toList P.o ++ [])) [[], [], []] 0 (Nat.le_refl _) (by decide) h1
  rw [e1]
  obtain ⟨a2, b2, e2⟩ := read_list (X := pkW) (x := (lwK 1).data.toList) (k := 1) (by decide) P.p (listW (lwK 2).data.toList P.o ++ []) [P.d, [], []] a1 (by omega) (by simp) h2
  rw [show ([[], [], []] : List (List Dp)).set 0 (([[], [], []] : List (List Dp)).getD 0 [] ++ P.d) = [P.d, [], []] from rfl, e2]
  obtain ⟨a3, b3, e3⟩ := read_list (X := pkW) (x := (lwK 2).data.toList) (k := 2) (by decide) P.o [] [P.d, P.p, []] a2 (by omega) (by simp) h3
  rw [show ([P.d, [], []] : List (List Dp)).set 1 (([P.d, [], []] : List (List Dp)).getD 1 [] ++ P.p) = [P.d, P.p, []] from rfl, e3]
  rfl
/-- Parse of Print. -/
theorem pk_back {P : Pg} (h : writtenB P = true) : parPE (writtenT P) = 0 ∧ parPP (writtenT P) = P := by
  have hw := h
  unfold writtenB at h
  rw [Bool.and_eq_true, decide_eq_true_eq] at h
  obtain ⟨hs, hl⟩ := h
  obtain ⟨hn, hv, _⟩ := sound_all hs
  have ht : writtenT P = ⟨(textP P).toArray⟩ := by unfold writtenT; rw [if_pos hw]
  have hsc : Sc.scanR (writtenT P).data.toList [] [] [] = .ok (pkL P) := by
    have := Sc.scan_text (pkL P) [] (pkL_ok hs)
    rw [pkL_text hs] at this
    rw [ht]
    simpa using this
  have hz : ¬ ((4096 : Int) < ((writtenT P).size : Int)) := by
    rw [ht]
    have : (⟨(textP P).toArray⟩ : ByteArray).size = (textP P).length := by show (textP P).toArray.size = _; simp
    rw [this]
    omega
  have hE : Sc.ansE (writtenT P) 4096 = 0 := by unfold Sc.ansE; rw [if_neg hz, hsc]; rfl
  have hL : Sc.ansL (writtenT P) 4096 = pkL P := by unfold Sc.ansL; rw [if_neg hz, hsc]; rfl
  obtain ⟨v1, v2, v3, v4⟩ := okP_of hv
  have hb : Sc.ba (textV P.a P.b P.c).data.toList = textV P.a P.b P.c := Sc.ba_of _
  have hh : headE [[112, 97, 99, 107, 97, 103, 101], P.nm.data.toList, (textV P.a P.b P.c).data.toList] = 0 := by
    unfold headE
    rw [if_pos ⟨rfl, rfl⟩]
    show (if Sc.nameA P.nm.data.toList = true then (if okP (Sc.ba (textV P.a P.b P.c).data.toList) = true then 0 else 20) else 23) = (0 : Int)
    rw [if_pos hn, hb, if_pos v1]
  have hle : linesE (pkL P) = 0 := by
    unfold pkL linesE
    simp only
    rw [if_pos hh, pk_read hs]
  have hlp : linesP (pkL P) = P := by
    unfold pkL linesP
    simp only
    rw [pk_read hs]
    show (⟨Sc.ba P.nm.data.toList, resA (Sc.ba (textV P.a P.b P.c).data.toList), resB (Sc.ba (textV P.a P.b P.c).data.toList), resC (Sc.ba (textV P.a P.b P.c).data.toList), P.d, P.p, P.o⟩ : Pg) = P
    rw [hb, v2, v3, v4, Sc.ba_of]
  unfold parPE parPP
  rw [hE, hL, hle, hlp, hw]
  exact ⟨rfl, rfl⟩
/-- One text, one package. -/
theorem pk_one {P Q : Pg} (hp : writtenB P = true) (hq : writtenB Q = true) : writtenT P = writtenT Q ↔ P = Q := by
  constructor
  · intro h
    rw [← (pk_back hp).2, ← (pk_back hq).2, h]
  · rintro rfl
    rfl
end Go.Proofs.YthoacfmfpbngkaaGreatDoor
namespace Go.Proofs.YthoacfmfpbngkaaGreatDoor
open Go.RowKit
set_option maxRecDepth 100000

theorem par_written {t : ByteArray} (h : parPE t = 0) : writtenB (parPP t) = true := by
  unfold parPE at h
  unfold parPP
  split at h
  · split at h
    · split at h
      · assumption
      · cases h
    · rename_i h1 h2; exact absurd h h2
  · rename_i h1; exact absurd h h1
/-- A row that is there, whatever lies in it. -/
def RowE (w : World) (B : Nat) (e : TypeId) (z : Nat) (v : Value) (n : Nat) : Prop := ∃ xs, w.ownsRow B e z v n xs
theorem own_head {w : World} {B : Nat} {e : TypeId} {z : Nat} {v : Value} {n : Nat} {xs : List Value} (h : w.ownsRow B e z v n xs) {N : Nat} (hN : v.ownBlock = some N) : ∃ cap, v = .slice (some ⟨N, 0, none⟩) n cap := by
  rcases h.2 with ⟨rfl, _⟩ | ⟨g, cap, cur, rfl, _⟩
  · cases hN
  · cases hN
    exact ⟨cap, rfl⟩
theorem RowE.set {w : World} {B : Nat} {e : TypeId} {z : Nat} {v : Value} {n : Nat} (h : RowE w B e z v n) (N j : Nat) (u : Value) : RowE (w.setCell ⟨N, j, none⟩ u) B e z v n := by
  obtain ⟨xs, hx⟩ := h
  by_cases hN : v.ownBlock = some N
  · obtain ⟨cap, rfl⟩ := own_head hx hN
    exact ⟨_, (hx.stored j u).1⟩
  · exact ⟨xs, own_of hx fun g hg => Below.heap_setCell _ _ _ _ fun (e2 : g = N) => hN (by rw [← e2]; exact hg)⟩
/-- What the loops of PackAgain keep: all that stood ahead of the second package (w5), all behind it (from Br on), its variable, its list's row, its ranges' rows. -/
def InvQ (w5 w10 : World) (Br Nq : Nat) (P : Pg) (u1 u2 u3 : Value) (ps : List (Dp × Value)) (w : World) : Prop :=
  (Below w5.heap.size w5 w ∧ (∀ g, Br ≤ g → w.heap[g]? = w10.heap[g]?) ∧ w10.heap.size ≤ w.heap.size) ∧ BxP w Nq P.nm P.a P.b P.c u1 u2 u3 ∧
  (∃ xs, w.ownsRow w5.heap.size 60 2 u1 ps.length xs ∧ ∀ i (h : i < ps.length), (∃ s, xs[i * 2]? = some (.string s)) ∧ xs[i * 2 + 1]? = some ps[i].2) ∧ ∀ p ∈ ps, RowE w w5.heap.size 90 6 p.2 p.1.rg.length
theorem InvQ.cell {w5 w10 : World} {Br Nq : Nat} {P : Pg} {u1 u2 u3 : Value} {ps : List (Dp × Value)} {w : World} (h : InvQ w5 w10 Br Nq P u1 u2 u3 ps w) {i : Nat} (hi : i < ps.length) :
    ∃ g cap, u1 = .slice (some ⟨g, 0, none⟩) ps.length cap ∧ w5.heap.size ≤ g ∧ (∃ s, w.cell? ⟨g, i * 2, none⟩ = some (.string s)) ∧ w.cell? ⟨g, i * 2 + 1, none⟩ = some ps[i].2 ∧ w.frozen? ⟨g, i * 2, none⟩ = false := by
  obtain ⟨_, _, ⟨xs, hx, hxs⟩, _⟩ := h
  obtain ⟨⟨s, h1⟩, h2⟩ := hxs i hi
  have hlt := hx.1
  rcases hx.2 with ⟨_, hn⟩ | ⟨g, cap, cur, rfl, hB, _⟩
  · omega
  · refine ⟨g, cap, rfl, hB, ⟨s, ?_⟩, ?_, hx.frozenAt _⟩
    · rw [hx.cellAt (i * 2) (by omega)]; exact h1
    · rw [hx.cellAt (i * 2 + 1) (by omega)]; exact h2
theorem InvQ.span {w5 w10 : World} {Br Nq : Nat} {P : Pg} {u1 u2 u3 : Value} {ps : List (Dp × Value)} {w : World} (h : InvQ w5 w10 Br Nq P u1 u2 u3 ps w) {p : Dp × Value} (hp : p ∈ ps) {k : Nat} (hk : k < p.1.rg.length) :
    ∃ g cap, p.2 = .slice (some ⟨g, 0, none⟩) p.1.rg.length cap ∧ ∀ j, j < 6 → (∃ x, w.cell? ⟨g, k * 6 + j, none⟩ = some x) ∧ w.frozen? ⟨g, k * 6 + j, none⟩ = false := by
  obtain ⟨xs, hx⟩ := h.2.2.2 p hp
  have hl := hx.1
  rcases hx.2 with ⟨_, hn⟩ | ⟨g, cap, cur, e, hB, _⟩
  · omega
  · rw [e] at hx
    refine ⟨g, cap, e, fun j hj => ⟨?_, hx.frozenAt _⟩⟩
    rw [hx.cellAt (k * 6 + j) (by omega), List.getElem?_eq_getElem (by omega)]
    exact ⟨_, rfl⟩
theorem bxp_set {w : World} {N M j : Nat} {s : ByteArray} {a b c : Int} {v1 v2 v3 u : Value} (h : BxP w N s a b c v1 v2 v3) (hN : M ≠ N) : BxP (w.setCell ⟨M, j, none⟩ u) N s a b c v1 v2 v3 := by
  obtain ⟨h0, h1, h2, h3, h4, h5, h6, h7⟩ := h
  have q : ∀ i, (w.setCell ⟨M, j, none⟩ u).cell? ⟨N, i, none⟩ = w.cell? ⟨N, i, none⟩ := fun i => World.cell?_of_block (a := ⟨N, i, none⟩) (Below.heap_setCell _ _ _ _ (fun e => hN e.symm))
  exact ⟨by rw [q]; exact h0, by rw [q]; exact h1, by rw [q]; exact h2, by rw [q]; exact h3, by rw [q]; exact h4, by rw [q]; exact h5, by rw [q]; exact h6, by simpa using h7⟩
theorem InvQ.setS {w5 w10 : World} {Br Nq : Nat} {P : Pg} {u1 u2 u3 : Value} {ps : List (Dp × Value)} {w : World} (h : InvQ w5 w10 Br Nq P u1 u2 u3 ps w) {p : Dp × Value} (hp : p ∈ ps) {N : Nat} (hN : p.2.ownBlock = some N) (hq : N < Nq) (hr : Nq < Br) (j : Nat) (u : Value) :
    InvQ w5 w10 Br Nq P u1 u2 u3 ps (w.setCell ⟨N, j, none⟩ u) := by
  obtain ⟨⟨h1, h2, h3⟩, h4, ⟨xs, hx, hxs⟩, h6⟩ := h
  obtain ⟨ys, hy⟩ := h6 p hp
  have hB := (hy.lt N hN).1
  refine ⟨⟨h1.setCell (p := ⟨N, j, none⟩) hB _, fun g hg => (Below.heap_setCell _ _ _ _ (show g ≠ N by omega)).trans (h2 g hg), by simpa using h3⟩, bxp_set h4 (by omega), ⟨xs, own_of hx fun g hg => Below.heap_setCell _ _ _ _ fun e => ?_, hxs⟩, fun p' hp' => (h6 p' hp').set _ _ _⟩
  subst e
  exact own_ne hx hy (by decide) hg hN
theorem InvQ.setN {w5 w10 : World} {Br Nq : Nat} {P : Pg} {u1 u2 u3 : Value} {ps : List (Dp × Value)} {w : World} (h : InvQ w5 w10 Br Nq P u1 u2 u3 ps w) {N : Nat} (hN : u1.ownBlock = some N) (hq : N < Nq) (hr : Nq < Br) {i : Nat} (hi : i < ps.length) (s : ByteArray) :
    InvQ w5 w10 Br Nq P u1 u2 u3 ps (w.setCell ⟨N, i * 2, none⟩ (.string s)) := by
  obtain ⟨⟨h1, h2, h3⟩, h4, ⟨xs, hx, hxs⟩, h6⟩ := h
  have hB := (hx.lt N hN).1
  have hl := hx.1
  refine ⟨⟨h1.setCell (p := ⟨N, i * 2, none⟩) hB _, fun g hg => (Below.heap_setCell _ _ _ _ (show g ≠ N by omega)).trans (h2 g hg), by simpa using h3⟩, bxp_set h4 (by omega), ⟨xs.set (i * 2) (.string s), ?_, fun k hk => ⟨?_, ?_⟩⟩, fun p' hp' => (h6 p' hp').set _ _ _⟩
  · obtain ⟨cap, e⟩ := own_head hx hN
    rw [e] at hx ⊢
    exact (hx.stored (i * 2) (.string s)).1
  · by_cases hik : i = k
    · subst hik
      exact ⟨s, List.getElem?_set_self (by omega)⟩
    · rw [List.getElem?_set_ne (by omega)]
      exact (hxs k hk).1
  · rw [List.getElem?_set_ne (by omega)]
    exact (hxs k hk).2
/-- At the start. -/
theorem InvQ.start {w5 w10 : World} {Br Nq : Nat} {P : Pg} {u1 u2 u3 : Value} {ps : List (Dp × Value)} (hb : Below w5.heap.size w5 w10) (hx : BxP w10 Nq P.nm P.a P.b P.c u1 u2 u3) (ho : OwnD w10 w5.heap.size u1 ps) : InvQ w5 w10 Br Nq P u1 u2 u3 ps w10 :=
  ⟨⟨hb, fun _ _ => rfl, Nat.le_refl _⟩, hx, ⟨_, ho.1, fun i hi => ⟨⟨_, (dpCells_at ps i hi).1⟩, (dpCells_at ps i hi).2⟩⟩, fun p hp => ⟨_, ho.2 p hp⟩⟩
end Go.Proofs.YthoacfmfpbngkaaGreatDoor
namespace Go.Proofs.YthoacfmfpbngkaaGreatDoor
open Go.RowKit
set_option maxRecDepth 100000

end Go.Proofs.YthoacfmfpbngkaaGreatDoor
namespace Go.Proofs.YthoacfmfpbngkaaGreatDoor
open Go.RowKit
set_option maxRecDepth 100000

/-- The package that is told: the zero one beside an error. -/
noncomputable def toldP (t : ByteArray) : Pg := if parPE t = 0 then parPP t else ⟨⟨#[]⟩, 0, 0, 0, [], [], []⟩
/-- A package and an error's number. -/
def TQP (w : World) (er : Int) (Q : Pg) (e : Ending) (w' : World) : Prop := ∃ p1 pc1 p2 pc2 p3 pc3, e = .returned (.tuple #[.agg #[.string Q.nm, .int .i64 Q.a, .int .i64 Q.b, .int .i64 Q.c, .slice p1 Q.d.length pc1, .slice p2 Q.p.length pc2, .slice p3 Q.o.length pc3], .int .i64 er]) ∧ Below w.heap.size w w' ∧ PgAt w' Q (.slice p1 Q.d.length pc1) (.slice p2 Q.p.length pc2) (.slice p3 Q.o.length pc3)
theorem deps_nil (w : World) : DepsAt w (.slice none 0 0) [] := ⟨none, 0, rfl, Nat.le_refl _, Or.inl rfl⟩
theorem told_of {w w' : World} {t : ByteArray} {e : Ending} (h : PkQ w (parPE t) (parPP t) e w') : TQP w (parPE t) (toldP t) e w' := by
  obtain ⟨s, a, b, c, v1, v2, v3, h1, h2, h3, h4⟩ := h
  unfold toldP
  by_cases h0 : parPE t = 0
  · rw [if_pos h0]
    obtain ⟨rfl, rfl, rfl, rfl, ho⟩ := h3 h0
    have hp := ho.at
    obtain ⟨a1, c1, e1⟩ := hp.1.sl
    obtain ⟨a2, c2, e2⟩ := hp.2.1.sl
    obtain ⟨a3, c3, e3⟩ := hp.2.2.sl
    rw [e1, e2, e3] at h1 hp
    exact ⟨a1, c1, a2, c2, a3, c3, h1, h2, hp⟩
  · rw [if_neg h0]
    obtain ⟨rfl, rfl, rfl, rfl, rfl, rfl, rfl⟩ := h4 h0
    exact ⟨none, 0, none, 0, none, 0, h1, h2, deps_nil _, deps_nil _, deps_nil _⟩
theorem told_len (t : ByteArray) : (toldP t).d.length ≤ 16 ∧ (toldP t).p.length ≤ 16 ∧ (toldP t).o.length ≤ 16 := by
  unfold toldP
  by_cases h0 : parPE t = 0
  · rw [if_pos h0]
    have hs := par_written h0
    unfold writtenB soundB at hs
    simp only [Bool.and_eq_true] at hs
    exact ⟨(short_may hs.1.1.2.1).1, (short_may hs.1.1.2.2.1).1, (short_may hs.1.1.2.2.2).1⟩
  · rw [if_neg h0]
    exact ⟨Nat.zero_le _, Nat.zero_le _, Nat.zero_le _⟩
set_option maxHeartbeats 6400000 in
theorem packReads_walk (t : ByteArray) {w : World} (h : Env w ∧ FL w) : Calls Tryz.prog 3 #[.string t] w fun e w' => e = .returned (.bool true) ∧ Below w.heap.size w w' := by
  obtain ⟨he, hf⟩ := h
  have HP1 : Hid (∀ w1, Below w.heap.size w w1 → Calls Tryz.prog 4 #[.string t] w1 (TQP w1 (parPE t) (toldP t))) := fun w1 hb => (Parse_pk t (he.below hb) (hf.below hb)).mono fun e w' hq => told_of hq
  have HP2 : Hid (∀ w1, Calls Tryz.prog 5 #[.string t] w1 (TQP w1 (parPE t) (toldP t))) := fun w1 => (rParsePk_any t w1).mono fun e w' hq => told_of hq
  have HKN : Hid (∀ w1, Below w.heap.size w w1 → Calls Tryz.prog 7 #[] w1 fun e w' => e = .returned (.bool true) ∧ Below w1.heap.size w1 w') := fun w1 hb => known_pk (he.below hb) (hf.below hb)
  have HSA : Hid (∀ w1 p1 pc1 p2 pc2 p3 pc3 q1 qc1 q2 qc2 q3 qc3, PgAt w1 (toldP t) (.slice p1 (toldP t).d.length pc1) (.slice p2 (toldP t).p.length pc2) (.slice p3 (toldP t).o.length pc3) → PgAt w1 (toldP t) (.slice q1 (toldP t).d.length qc1) (.slice q2 (toldP t).p.length qc2) (.slice q3 (toldP t).o.length qc3) → Calls Tryz.prog 6 #[.agg #[.string (toldP t).nm, .int .i64 (toldP t).a, .int .i64 (toldP t).b, .int .i64 (toldP t).c, .slice p1 (toldP t).d.length pc1, .slice p2 (toldP t).p.length pc2, .slice p3 (toldP t).o.length pc3], .agg #[.string (toldP t).nm, .int .i64 (toldP t).a, .int .i64 (toldP t).b, .int .i64 (toldP t).c, .slice q1 (toldP t).d.length qc1, .slice q2 (toldP t).p.length qc2, .slice q3 (toldP t).o.length qc3]] w1 fun e w' => e = .returned (.bool true) ∧ Below w1.heap.size w1 w') := fun w1 p1 pc1 p2 pc2 p3 pc3 q1 qc1 q2 qc2 q3 qc3 hp hq => by
    have := rSamePk_any hp hq (by have := told_len t; omega) (by have := told_len t; omega) (by have := told_len t; omega)
    rw [eqB_yes rfl] at this
    exact this
  clear he hf
  generalize parPE t = er at *
  generalize toldP t = Q at *
  have HTQ : Hid (∀ w1 e w', TQP w1 er Q e w' → ∃ p1 pc1 p2 pc2 p3 pc3, e = .returned (.tuple #[.agg #[.string Q.nm, .int .i64 Q.a, .int .i64 Q.b, .int .i64 Q.c, .slice p1 Q.d.length pc1, .slice p2 Q.p.length pc2, .slice p3 Q.o.length pc3], .int .i64 er]) ∧ Below w1.heap.size w1 w' ∧ PgAt w' Q (.slice p1 Q.d.length pc1) (.slice p2 Q.p.length pc2) (.slice p3 Q.o.length pc3)) := fun w1 e w' hq => hq
  generalize hTQ : TQP = TT at *
  clear hTQ
  go_enter Tryz.func3, Tryz.ntmps3
  go_wp2_with (first
    | (go_at_call 4; refine (HP1.out _ (Below.refl _ _)).mono ?_; rintro e w1 hq; obtain ⟨p1, pc1, p2, pc2, p3, pc3, rfl, ok, hp⟩ := HTQ.out _ _ _ hq; have HA2 : Hid (Below w.heap.size w (w1.alloc (.cells #[.string Q.nm, .int .i64 Q.a, .int .i64 Q.b, .int .i64 Q.c, .slice p1 Q.d.length pc1, .slice p2 Q.p.length pc2, .slice p3 Q.o.length pc3] 26)) ∧ (BxP (w1.alloc (.cells #[.string Q.nm, .int .i64 Q.a, .int .i64 Q.b, .int .i64 Q.c, .slice p1 Q.d.length pc1, .slice p2 Q.p.length pc2, .slice p3 Q.o.length pc3] 26)) w1.heap.size Q.nm Q.a Q.b Q.c (.slice p1 Q.d.length pc1) (.slice p2 Q.p.length pc2) (.slice p3 Q.o.length pc3) ∧ PgAt (w1.alloc (.cells #[.string Q.nm, .int .i64 Q.a, .int .i64 Q.b, .int .i64 Q.c, .slice p1 Q.d.length pc1, .slice p2 Q.p.length pc2, .slice p3 Q.o.length pc3] 26)) Q (.slice p1 Q.d.length pc1) (.slice p2 Q.p.length pc2) (.slice p3 Q.o.length pc3))) := ⟨below_then ok (boxB _ _), BxP.new rfl _ _ _ _ _ _ _, hp.below (boxB _ _)⟩; clear ok hp hq)
    | (go_at_call 5; refine (HP2.out _).mono ?_; rintro e w3 hq; obtain ⟨q1, qc1, q2, qc2, q3, qc3, rfl, ok, hp⟩ := HTQ.out _ _ _ hq; have HA4 : Hid (Below w.heap.size w (w3.alloc (.cells #[.string Q.nm, .int .i64 Q.a, .int .i64 Q.b, .int .i64 Q.c, .slice q1 Q.d.length qc1, .slice q2 Q.p.length qc2, .slice q3 Q.o.length qc3] 26)) ∧ (BxP (w3.alloc (.cells #[.string Q.nm, .int .i64 Q.a, .int .i64 Q.b, .int .i64 Q.c, .slice q1 Q.d.length qc1, .slice q2 Q.p.length qc2, .slice q3 Q.o.length qc3] 26)) w1.heap.size Q.nm Q.a Q.b Q.c (.slice p1 Q.d.length pc1) (.slice p2 Q.p.length pc2) (.slice p3 Q.o.length pc3) ∧ PgAt (w3.alloc (.cells #[.string Q.nm, .int .i64 Q.a, .int .i64 Q.b, .int .i64 Q.c, .slice q1 Q.d.length qc1, .slice q2 Q.p.length qc2, .slice q3 Q.o.length qc3] 26)) Q (.slice p1 Q.d.length pc1) (.slice p2 Q.p.length pc2) (.slice p3 Q.o.length pc3))) := ⟨below_then (below_then HA2.out.1 ok) (boxB _ _), keepBxP _ _ _ _ _ _ _ _ _ _ (keepBxP _ _ _ _ _ _ _ _ _ _ HA2.out.2.1 ok) (boxB _ _), (HA2.out.2.2.below ok).below (boxB _ _)⟩; have HB4 : Hid (BxP (w3.alloc (.cells #[.string Q.nm, .int .i64 Q.a, .int .i64 Q.b, .int .i64 Q.c, .slice q1 Q.d.length qc1, .slice q2 Q.p.length qc2, .slice q3 Q.o.length qc3] 26)) w3.heap.size Q.nm Q.a Q.b Q.c (.slice q1 Q.d.length qc1) (.slice q2 Q.p.length qc2) (.slice q3 Q.o.length qc3) ∧ PgAt (w3.alloc (.cells #[.string Q.nm, .int .i64 Q.a, .int .i64 Q.b, .int .i64 Q.c, .slice q1 Q.d.length qc1, .slice q2 Q.p.length qc2, .slice q3 Q.o.length qc3] 26)) Q (.slice q1 Q.d.length qc1) (.slice q2 Q.p.length qc2) (.slice q3 Q.o.length qc3)) := ⟨BxP.new rfl _ _ _ _ _ _ _, hp.below (boxB _ _)⟩; obtain ⟨y0, y1, y2, y3, y4, y5, y6, y7⟩ := HA4.out.2.1; obtain ⟨z0, z1, z2, z3, z4, z5, z6, z7⟩ := HB4.out.1; clear ok hp hq)
    | (go_at_call 6; refine (HSA.out _ _ _ _ _ _ _ _ _ _ _ _ _ HA4.out.2.2 HB4.out.2).mono ?_; rintro e w5 ⟨rfl, ok⟩; have HA5 := hide3 (below_then HA4.out.1 ok); clear ok)
    | (go_at_call 7; refine (HKN.out _ HA5.out).mono ?_; rintro e w6 ⟨rfl, ok⟩; have HA6 := hide3 (below_then HA5.out ok); clear ok))
  go_ret
  exact ⟨by first | rfl | simp, HA6.out⟩
end Go.Proofs.YthoacfmfpbngkaaGreatDoor
