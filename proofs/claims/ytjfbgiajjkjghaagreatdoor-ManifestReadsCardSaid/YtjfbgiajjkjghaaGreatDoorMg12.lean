/- Mf5b, ScLi2, ScRf1, laid in one text. -/
import Derived.Deep.CutRange
import Derived.BigRegion
import Derived.Test.YtjfbgiajjkjghaaGreatDoorMg11
namespace Go.Proofs.YtjfbgiajjkjghaaGreatDoor
open Go.RowKit
set_option maxRecDepth 100000

theorem linesME_cons (h : List Sc.Bs) (r : List (List Sc.Bs)) : linesME (h :: r) = if h = [[112, 114, 111, 106, 101, 99, 116]] then (readF mfW 0 [[], [], [], []] r).1 else 22 := rfl
set_option maxHeartbeats 1600000 in
theorem readLinesM_nil (w : World) (ad : Option Addr) (cap : Nat) : Calls Tryz.prog 26 #[.slice ad 0 cap] w (MkQ w (linesME []) (linesMP [])) := by
  have HER : Hid (∀ w', Below w.heap.size w w' → MkQ w (linesME []) (linesMP []) (.returned (.tuple #[.agg #[.slice none 0 0, .slice none 0 0, .slice none 0 0, .slice none 0 0], .int .i64 22])) w') := fun w' hb => MkQ.err rfl (by decide) hb
  generalize MkQ w (linesME []) (linesMP []) = HQ at *
  go_enter Tryz.func26, Tryz.ntmps26
  go_wp2
  try simp only [Exit.inBlock, Exit.then]
  refine bodyPost_ret (by simp [results, Tryz.results26, go_sem]; try rfl) rfl ?_
  exact HER.out _ (boxB _ _)

set_option maxHeartbeats 1600000 in
theorem readLinesM_len {P : Mn} {au : Option Addr} {hl cu : Nat} {w : World} {g o n cap : Nat} (c0 : w.cell? ⟨g, o, none⟩ = some (.slice au hl cu)) (hg : g < w.heap.size) (h1 : hl ≠ 1) :
    Calls Tryz.prog 26 #[.slice (some ⟨g, o, none⟩) (n + 1) cap] w (MkQ w 22 P) := by
  have HER : Hid (∀ w', Below w.heap.size w w' → MkQ w 22 P (.returned (.tuple #[.agg #[.slice none 0 0, .slice none 0 0, .slice none 0 0, .slice none 0 0], .int .i64 22])) w') := fun w' hb => MkQ.err rfl (by decide) hb
  generalize MkQ w 22 P = HQ at *
  have c0' : (w.alloc (.cells #[.slice none 0 0, .slice none 0 0, .slice none 0 0, .slice none 0 0] 24)).cell? ⟨g, o, none⟩ = some (.slice au hl cu) := ((boxB w _).cell (p := ⟨g, o, none⟩) hg).trans c0
  have hb0 : (0 : Int) < (n : Int) + 1 := by omega
  have hb3 : ((n : Int) + 1 == 0) = false := by rw [beq_eq_false_iff_ne]; omega
  have hb4 : ((hl : Int) == 1) = false := by rw [beq_eq_false_iff_ne]; omega
  go_enter Tryz.func26, Tryz.ntmps26
  go_wp2
  try simp only [Exit.inBlock, Exit.then]
  refine bodyPost_ret (by simp [results, Tryz.results26, go_sem]; try rfl) rfl ?_
  exact HER.out _ (boxB _ _)

set_option maxHeartbeats 1600000 in
theorem readLinesM_word {P : Mn} {x : Sc.Bs} {gu ou cu : Nat} {w : World} {g o n cap : Nat} (c0 : w.cell? ⟨g, o, none⟩ = some (.slice (some ⟨gu, ou, none⟩) 1 cu)) (cx : w.cell? ⟨gu, ou, none⟩ = some (.string (Sc.ba x))) (hg : g < w.heap.size) (hgu : gu < w.heap.size) (h1 : x ≠ [112, 114, 111, 106, 101, 99, 116]) :
    Calls Tryz.prog 26 #[.slice (some ⟨g, o, none⟩) (n + 1) cap] w (MkQ w 22 P) := by
  have HER : Hid (∀ w', Below w.heap.size w w' → MkQ w 22 P (.returned (.tuple #[.agg #[.slice none 0 0, .slice none 0 0, .slice none 0 0, .slice none 0 0], .int .i64 22])) w') := fun w' hb => MkQ.err rfl (by decide) hb
  generalize MkQ w 22 P = HQ at *
  have c0' : (w.alloc (.cells #[.slice none 0 0, .slice none 0 0, .slice none 0 0, .slice none 0 0] 24)).cell? ⟨g, o, none⟩ = some (.slice (some ⟨gu, ou, none⟩) 1 cu) := ((boxB w _).cell (p := ⟨g, o, none⟩) hg).trans c0
  have cx' : (w.alloc (.cells #[.slice none 0 0, .slice none 0 0, .slice none 0 0, .slice none 0 0] 24)).cell? ⟨gu, ou, none⟩ = some (.string (Sc.ba x)) := ((boxB w _).cell (p := ⟨gu, ou, none⟩) hgu).trans cx
  have hb0 : (0 : Int) < (n : Int) + 1 := by omega
  have hb3 : ((n : Int) + 1 == 0) = false := by rw [beq_eq_false_iff_ne]; omega
  have hq : ((Sc.ba x).toList == [112, 114, 111, 106, 101, 99, 116]) = false := by rw [ba_toList, beq_eq_false_iff_ne]; exact h1
  generalize Sc.ba x = s0 at *
  clear c0 cx h1
  go_enter Tryz.func26, Tryz.ntmps26
  go_wp2
  try simp only [Exit.inBlock, Exit.then]
  refine bodyPost_ret (by simp [results, Tryz.results26, go_sem]; try rfl) rfl ?_
  exact HER.out _ (boxB _ _)

set_option maxHeartbeats 6400000 in
theorem readLinesM_one {gu ou cu : Nat} {w : World} {g o : Nat} (c0 : w.cell? ⟨g, o, none⟩ = some (.slice (some ⟨gu, ou, none⟩) 1 cu)) (cx : w.cell? ⟨gu, ou, none⟩ = some (.string (Sc.ba [112, 114, 111, 106, 101, 99, 116]))) (hg : g < w.heap.size) (hgu : gu < w.heap.size) (he : Env w) (hf : FL w) :
    Calls Tryz.prog 26 #[.slice (some ⟨g, o, none⟩) 1 1] w (MkQ w (linesME ([[112, 114, 111, 106, 101, 99, 116]] :: [])) (linesMP ([[112, 114, 111, 106, 101, 99, 116]] :: []))) := by
  have hE0 : linesME ([[112, 114, 111, 106, 101, 99, 116]] :: []) = (readF mfW 0 [[], [], [], []] ([])).1 := by rw [linesME_cons, if_pos rfl]
  have hP0 : linesMP ([[112, 114, 111, 106, 101, 99, 116]] :: []) = ⟨(readF mfW 0 [[], [], [], []] ([])).2.getD 0 [], (readF mfW 0 [[], [], [], []] ([])).2.getD 1 [], (readF mfW 0 [[], [], [], []] ([])).2.getD 2 [], (readF mfW 0 [[], [], [], []] ([])).2.getD 3 []⟩ := rfl
  rw [hE0, hP0]
  have HLI : Hid (∀ w1 vx, Below w.heap.size w w1 → Sc.WordsAt w1 vx mfW → Calls Tryz.prog 42 #[.slice (some ⟨g, o, none⟩) 0 0, vx] w1 (ReadQ w1 (readF mfW 0 [[], [], [], []] ([])))) := fun w1 vx hb hx => Read_any (X := mfW) (Lns := []) ⟨_, 0, rfl, Nat.le_refl _, Or.inl rfl⟩ hx (by decide) (by simp) (fun ln hl => by cases hl) (he.below hb) (hf.below hb)
  have HRL := hide3 (readF_lenM (X := mfW) ([]) 0 [[], [], [], []])
  clear hE0 hP0 he hf
  generalize readF mfW 0 [[], [], [], []] ([]) = RF at *
  have HER : Hid (∀ er w', RF.1 = er → er ≠ 0 → Below w.heap.size w w' → MkQ w RF.1 ⟨RF.2.getD 0 [], RF.2.getD 1 [], RF.2.getD 2 [], RF.2.getD 3 []⟩ (.returned (.tuple #[.agg #[.slice none 0 0, .slice none 0 0, .slice none 0 0, .slice none 0 0], .int .i64 er])) w') := fun er w' h1 h2 hb => MkQ.err h1 h2 hb
  have HOK : Hid (∀ v1 v2 v3 v4 w', RF.1 = 0 → Below w.heap.size w w' → OwnM w' w.heap.size ⟨RF.2.getD 0 [], RF.2.getD 1 [], RF.2.getD 2 [], RF.2.getD 3 []⟩ v1 v2 v3 v4 → MkQ w RF.1 ⟨RF.2.getD 0 [], RF.2.getD 1 [], RF.2.getD 2 [], RF.2.getD 3 []⟩ (.returned (.tuple #[.agg #[v1, v2, v3, v4], .int .i64 0])) w') := fun v1 v2 v3 v4 w' h0 hb ho => by
    rw [h0]
    exact ⟨v1, v2, v3, v4, rfl, hb, fun _ => ho, fun hx => absurd rfl hx⟩
  generalize hHQ : MkQ w RF.1 ⟨RF.2.getD 0 [], RF.2.getD 1 [], RF.2.getD 2 [], RF.2.getD 3 []⟩ = HQ at *
  clear hHQ
  have c0' : (w.alloc (.cells #[.slice none 0 0, .slice none 0 0, .slice none 0 0, .slice none 0 0] 24)).cell? ⟨g, o, none⟩ = some (.slice (some ⟨gu, ou, none⟩) 1 cu) := ((boxB w _).cell (p := ⟨g, o, none⟩) hg).trans c0
  have cx' : (w.alloc (.cells #[.slice none 0 0, .slice none 0 0, .slice none 0 0, .slice none 0 0] 24)).cell? ⟨gu, ou, none⟩ = some (.string (Sc.ba [112, 114, 111, 106, 101, 99, 116])) := ((boxB w _).cell (p := ⟨gu, ou, none⟩) hgu).trans cx
  have hq : ((Sc.ba [112, 114, 111, 106, 101, 99, 116]).toList == [112, 114, 111, 106, 101, 99, 116]) = true := by rw [ba_toList]; rfl
  have HB0 : Hid (Below w.heap.size w (w.alloc (.cells #[.slice none 0 0, .slice none 0 0, .slice none 0 0, .slice none 0 0] 24)) ∧ BxMF (w.alloc (.cells #[.slice none 0 0, .slice none 0 0, .slice none 0 0, .slice none 0 0] 24)) w.heap.size (.slice none 0 0) (.slice none 0 0) (.slice none 0 0) (.slice none 0 0)) := ⟨boxB _ _, BxMF.new rfl _ _ _ _⟩
  have HKB : Hid (KeepP fun w1 => BxMF w1 w.heap.size (.slice none 0 0) (.slice none 0 0) (.slice none 0 0) (.slice none 0 0)) := keepBxMF _ _ _ _ _
  generalize Sc.ba [112, 114, 111, 106, 101, 99, 116] = s0 at *
  clear c0 cx
  go_enter Tryz.func26, Tryz.ntmps26
  go_upto_region 3 with fail
  generalize w.alloc (.cells #[.slice none 0 0, .slice none 0 0, .slice none 0 0, .slice none 0 0] 24) = w3 at *
  go_cut [4, 5] from 4 (fun s4 s5 wx => ∃ vr, s5 = .int .i64 RF.1 ∧ s4 = vr ∧ Below w3.heap.size w3 wx ∧ (RF.1 = 0 → ∃ B N rows, w3.heap.size ≤ B ∧ vr = .slice (some ⟨N, 0, none⟩) rows.length rows.length ∧ RD wx B N rows ∧ plainR rows = RF.2))
  case first =>
    go_region_held3 (fun _ => True) (go_keep)
      (first
        | (go_at_call 22; refine (lists_mf _ _ _ _ _ _ _ _ _ _ _ _ _).mono ?_; rintro e w4 ⟨gl, rfl, hb4, _, hgl⟩; have HB4 : Hid (Below w3.heap.size w3 w4) := below_then (Below.refl _ _).drew hb4; have HGL := hide3 hgl; clear hb4 hgl)
        | (go_at_call 43; refine (words_mf HGL.out).mono ?_; rintro e w5 ⟨vx, rfl, hwx, hb5⟩; have HB5 : Hid (Below w3.heap.size w3 w5) := below_then HB4.out hb5; have HWX := hide3 hwx; clear hb5 hwx)
        | (go_at_call 42; refine (HLI.out _ _ (below_then HB0.out.1 HB5.out) HWX.out).mono ?_; rintro e w6 ⟨vr, rfl, hb6, hok6, _⟩; have HB6 : Hid (Below w3.heap.size w3 w6) := below_then HB5.out hb6; have HR6 : Hid (RF.1 = 0 → ∃ B N rows, w3.heap.size ≤ B ∧ vr = .slice (some ⟨N, 0, none⟩) rows.length rows.length ∧ RD w6 B N rows ∧ plainR rows = RF.2) := (fun e0 => by obtain ⟨N, rows, x1, x2, x3⟩ := hok6 e0; exact ⟨_, N, rows, HB5.out.size, x1, x2, x3⟩); clear hb6 hok6))
    go_wp2_with fail
    go_meet
    exact ⟨vr, rfl, rfl, HB6.out, HR6.out⟩
  case rest =>
    obtain ⟨vr, rfl, rfl, hbc, hrc⟩ := hcut
    have HBC : Hid (Below w.heap.size w wc) := below_then HB0.out.1 hbc
    have HXC := hide3 (HKB.out _ _ HB0.out.2 hbc)
    have hw3 : w.heap.size < w3.heap.size := HB0.out.2.1.2.2.2.2
    clear hbc
    by_cases hr0 : RF.1 = 0
    · obtain ⟨B, N, rows, hwB, rfl, hRD, hpl⟩ := hrc hr0
      have hrl : rows.length = 4 := by have := HRL.out hr0; rw [← hpl] at this; unfold plainR at this; simpa using this
      obtain ⟨a1, k1, c1, a2, k2, c2, a3, k3, c3, a4, k4, c4, ⟨n0, n1, n2, n3⟩, hop⟩ := rows4 hpl hrl hRD
      have HOP := hide3 hop
      have hNB : B ≤ N := hRD.size.1
      clear hop hrc hRD hpl
      rw [hrl]
      rw [hr0]
      obtain ⟨⟨y0, y1, y2, y3, y4⟩, hfy⟩ := HXC.out
      have fy0 := hfy 0 (by decide)
      have fy1 := hfy 1 (by decide)
      have fy2 := hfy 2 (by decide)
      have fy3 := hfy 3 (by decide)
      clear hfy
      go_upto_region 6 with fail
      go_cut [3] from 7 (fun s3 wx => s3 = .int .i64 0 ∧ Below w.heap.size w wx ∧ BxM wx w.heap.size (.slice a1 k1 c1) (.slice a2 k2 c2) (.slice a3 k3 c3) (.slice a4 k4 c4) ∧ OwnM wx B ⟨RF.2.getD 0 [], RF.2.getD 1 [], RF.2.getD 2 [], RF.2.getD 3 []⟩ (.slice a1 k1 c1) (.slice a2 k2 c2) (.slice a3 k3 c3) (.slice a4 k4 c4))
      case first =>
        go_region
        all_goals go_wp2_with fail
        all_goals go_meet
        all_goals exact ⟨rfl, (below_set4 (Nat.le_refl _) HBC.out).drew, (keepBxM _ _ _ _ _).drew (HXC.out.1.set4 _ _ _ _), (keepOwnM _ _ _ _ _ _).drew (HOP.out.of fun g hg => heap4 (by omega))⟩
      case rest =>
        obtain ⟨rfl, hbd, hyd, hod⟩ := hcut
        have HBD := hide3 hbd
        have HOD := hide3 hod
        clear hbd hod y0 y1 y2 y3 y4 fy0 fy1 fy2 fy3 n0 n1 n2 n3
        obtain ⟨y0, y1, y2, y3, y4⟩ := hyd
        go_wp2
        try simp only [Exit.inBlock, Exit.then]
        refine bodyPost_ret (by simp [results, Tryz.results26, y0, y1, y2, y3, go_sem]; try rfl) rfl ?_
        exact HOK.out _ _ _ _ _ hr0 HBD.out (HOD.out.base (by omega))
    · obtain ⟨⟨b0, b1, b2, b3, b4⟩, hfz⟩ := HXC.out
      have f0 := hfz 0 (by decide)
      have f1 := hfz 1 (by decide)
      have f2 := hfz 2 (by decide)
      have f3 := hfz 3 (by decide)
      clear hfz
      have s4 := fun u0 u1 u2 u3 => set4 b0 b1 b2 b3 u0 u1 u2 u3
      have hre : (RF.1 == 0) = false := by simpa using hr0
      go_wp2
      try simp only [Exit.inBlock, Exit.then]
      refine bodyPost_ret (by simp [results, Tryz.results26, s4, go_sem]; try rfl) rfl ?_
      exact HER.out _ _ rfl hr0 (below_set4 (Nat.le_refl _) HBC.out)

set_option maxHeartbeats 6400000 in
theorem readLinesM_more {r : List (List Sc.Bs)} {gu ou cu : Nat} {w : World} {g o cap : Nat} (c0 : w.cell? ⟨g, o, none⟩ = some (.slice (some ⟨gu, ou, none⟩) 1 cu)) (cx : w.cell? ⟨gu, ou, none⟩ = some (.string (Sc.ba [112, 114, 111, 106, 101, 99, 116]))) (hg : g < w.heap.size) (hgu : gu < w.heap.size) (he : Env w) (hf : FL w) (hr : ∀ i (hi : i < r.length), ∃ u, w.cell? ⟨g, o + 1 + i, none⟩ = some u ∧ Sc.WordsAt w u r[i]) (hc : r.length + 1 ≤ cap) (hc1 : ¬ cap = 1) (hn : r.length ≤ 5000) (hs : ∀ ln ∈ r, ShortLn ln) :
    Calls Tryz.prog 26 #[.slice (some ⟨g, o, none⟩) (r.length + 1) cap] w (MkQ w (linesME ([[112, 114, 111, 106, 101, 99, 116]] :: r)) (linesMP ([[112, 114, 111, 106, 101, 99, 116]] :: r))) := by
  have hE0 : linesME ([[112, 114, 111, 106, 101, 99, 116]] :: r) = (readF mfW 0 [[], [], [], []] (r)).1 := by rw [linesME_cons, if_pos rfl]
  have hP0 : linesMP ([[112, 114, 111, 106, 101, 99, 116]] :: r) = ⟨(readF mfW 0 [[], [], [], []] (r)).2.getD 0 [], (readF mfW 0 [[], [], [], []] (r)).2.getD 1 [], (readF mfW 0 [[], [], [], []] (r)).2.getD 2 [], (readF mfW 0 [[], [], [], []] (r)).2.getD 3 []⟩ := rfl
  rw [hE0, hP0]
  have HLI : Hid (∀ w1 vx, Below w.heap.size w w1 → Sc.WordsAt w1 vx mfW → Calls Tryz.prog 42 #[.slice (some ⟨g, o + 1, none⟩) r.length (cap - 1), vx] w1 (ReadQ w1 (readF mfW 0 [[], [], [], []] (r)))) := fun w1 vx hb hx => Read_any (X := mfW) (Lns := r) (Sc.LinesAt.below (w := w) ⟨_, _, rfl, by omega, Or.inr ⟨g, o + 1, rfl, hg, hr⟩⟩ hb) hx (by decide) hn hs (he.below hb) (hf.below hb)
  have HRL := hide3 (readF_lenM (X := mfW) (r) 0 [[], [], [], []])
  clear hE0 hP0 he hf hr hn hs
  generalize readF mfW 0 [[], [], [], []] (r) = RF at *
  have HER : Hid (∀ er w', RF.1 = er → er ≠ 0 → Below w.heap.size w w' → MkQ w RF.1 ⟨RF.2.getD 0 [], RF.2.getD 1 [], RF.2.getD 2 [], RF.2.getD 3 []⟩ (.returned (.tuple #[.agg #[.slice none 0 0, .slice none 0 0, .slice none 0 0, .slice none 0 0], .int .i64 er])) w') := fun er w' h1 h2 hb => MkQ.err h1 h2 hb
  have HOK : Hid (∀ v1 v2 v3 v4 w', RF.1 = 0 → Below w.heap.size w w' → OwnM w' w.heap.size ⟨RF.2.getD 0 [], RF.2.getD 1 [], RF.2.getD 2 [], RF.2.getD 3 []⟩ v1 v2 v3 v4 → MkQ w RF.1 ⟨RF.2.getD 0 [], RF.2.getD 1 [], RF.2.getD 2 [], RF.2.getD 3 []⟩ (.returned (.tuple #[.agg #[v1, v2, v3, v4], .int .i64 0])) w') := fun v1 v2 v3 v4 w' h0 hb ho => by
    rw [h0]
    exact ⟨v1, v2, v3, v4, rfl, hb, fun _ => ho, fun hx => absurd rfl hx⟩
  generalize hHQ : MkQ w RF.1 ⟨RF.2.getD 0 [], RF.2.getD 1 [], RF.2.getD 2 [], RF.2.getD 3 []⟩ = HQ at *
  clear hHQ
  have c0' : (w.alloc (.cells #[.slice none 0 0, .slice none 0 0, .slice none 0 0, .slice none 0 0] 24)).cell? ⟨g, o, none⟩ = some (.slice (some ⟨gu, ou, none⟩) 1 cu) := ((boxB w _).cell (p := ⟨g, o, none⟩) hg).trans c0
  have cx' : (w.alloc (.cells #[.slice none 0 0, .slice none 0 0, .slice none 0 0, .slice none 0 0] 24)).cell? ⟨gu, ou, none⟩ = some (.string (Sc.ba [112, 114, 111, 106, 101, 99, 116])) := ((boxB w _).cell (p := ⟨gu, ou, none⟩) hgu).trans cx
  have hq : ((Sc.ba [112, 114, 111, 106, 101, 99, 116]).toList == [112, 114, 111, 106, 101, 99, 116]) = true := by rw [ba_toList]; rfl
  have HB0 : Hid (Below w.heap.size w (w.alloc (.cells #[.slice none 0 0, .slice none 0 0, .slice none 0 0, .slice none 0 0] 24)) ∧ BxMF (w.alloc (.cells #[.slice none 0 0, .slice none 0 0, .slice none 0 0, .slice none 0 0] 24)) w.heap.size (.slice none 0 0) (.slice none 0 0) (.slice none 0 0) (.slice none 0 0)) := ⟨boxB _ _, BxMF.new rfl _ _ _ _⟩
  have HKB : Hid (KeepP fun w1 => BxMF w1 w.heap.size (.slice none 0 0) (.slice none 0 0) (.slice none 0 0) (.slice none 0 0)) := keepBxMF _ _ _ _ _
  generalize Sc.ba [112, 114, 111, 106, 101, 99, 116] = s0 at *
  clear c0 cx
  have hb0 : (0 : Int) < (r.length : Int) + 1 := by omega
  have hb1 : (1 : Int) ≤ (r.length : Int) + 1 := by omega
  have hb2 : (r.length : Int) + 1 ≤ (cap : Int) := by omega
  have hb3 : ((r.length : Int) + 1 == 0) = false := by rw [beq_eq_false_iff_ne]; omega
  go_enter Tryz.func26, Tryz.ntmps26
  go_upto_region 3 with fail
  generalize w.alloc (.cells #[.slice none 0 0, .slice none 0 0, .slice none 0 0, .slice none 0 0] 24) = w3 at *
  go_cut [4, 5] from 4 (fun s4 s5 wx => ∃ vr, s5 = .int .i64 RF.1 ∧ s4 = vr ∧ Below w3.heap.size w3 wx ∧ (RF.1 = 0 → ∃ B N rows, w3.heap.size ≤ B ∧ vr = .slice (some ⟨N, 0, none⟩) rows.length rows.length ∧ RD wx B N rows ∧ plainR rows = RF.2))
  case first =>
    go_region_held3 (fun _ => True) (go_keep)
      (first
        | (go_at_call 22; refine (lists_mf _ _ _ _ _ _ _ _ _ _ _ _ _).mono ?_; rintro e w4 ⟨gl, rfl, hb4, _, hgl⟩; have HB4 : Hid (Below w3.heap.size w3 w4) := below_then (Below.refl _ _).drew hb4; have HGL := hide3 hgl; clear hb4 hgl)
        | (go_at_call 43; refine (words_mf HGL.out).mono ?_; rintro e w5 ⟨vx, rfl, hwx, hb5⟩; have HB5 : Hid (Below w3.heap.size w3 w5) := below_then HB4.out hb5; have HWX := hide3 hwx; clear hb5 hwx)
        | (go_at_call 42; refine (HLI.out _ _ (below_then HB0.out.1 HB5.out) HWX.out).mono ?_; rintro e w6 ⟨vr, rfl, hb6, hok6, _⟩; have HB6 : Hid (Below w3.heap.size w3 w6) := below_then HB5.out hb6; have HR6 : Hid (RF.1 = 0 → ∃ B N rows, w3.heap.size ≤ B ∧ vr = .slice (some ⟨N, 0, none⟩) rows.length rows.length ∧ RD w6 B N rows ∧ plainR rows = RF.2) := (fun e0 => by obtain ⟨N, rows, x1, x2, x3⟩ := hok6 e0; exact ⟨_, N, rows, HB5.out.size, x1, x2, x3⟩); clear hb6 hok6))
    go_wp2_with fail
    go_meet
    exact ⟨vr, rfl, rfl, HB6.out, HR6.out⟩
  case rest =>
    obtain ⟨vr, rfl, rfl, hbc, hrc⟩ := hcut
    have HBC : Hid (Below w.heap.size w wc) := below_then HB0.out.1 hbc
    have HXC := hide3 (HKB.out _ _ HB0.out.2 hbc)
    have hw3 : w.heap.size < w3.heap.size := HB0.out.2.1.2.2.2.2
    clear hbc
    by_cases hr0 : RF.1 = 0
    · obtain ⟨B, N, rows, hwB, rfl, hRD, hpl⟩ := hrc hr0
      have hrl : rows.length = 4 := by have := HRL.out hr0; rw [← hpl] at this; unfold plainR at this; simpa using this
      obtain ⟨a1, k1, c1, a2, k2, c2, a3, k3, c3, a4, k4, c4, ⟨n0, n1, n2, n3⟩, hop⟩ := rows4 hpl hrl hRD
      have HOP := hide3 hop
      have hNB : B ≤ N := hRD.size.1
      clear hop hrc hRD hpl
      rw [hrl]
      rw [hr0]
      obtain ⟨⟨y0, y1, y2, y3, y4⟩, hfy⟩ := HXC.out
      have fy0 := hfy 0 (by decide)
      have fy1 := hfy 1 (by decide)
      have fy2 := hfy 2 (by decide)
      have fy3 := hfy 3 (by decide)
      clear hfy
      go_upto_region 6 with fail
      go_cut [3] from 7 (fun s3 wx => s3 = .int .i64 0 ∧ Below w.heap.size w wx ∧ BxM wx w.heap.size (.slice a1 k1 c1) (.slice a2 k2 c2) (.slice a3 k3 c3) (.slice a4 k4 c4) ∧ OwnM wx B ⟨RF.2.getD 0 [], RF.2.getD 1 [], RF.2.getD 2 [], RF.2.getD 3 []⟩ (.slice a1 k1 c1) (.slice a2 k2 c2) (.slice a3 k3 c3) (.slice a4 k4 c4))
      case first =>
        go_region
        all_goals go_wp2_with fail
        all_goals go_meet
        all_goals exact ⟨rfl, (below_set4 (Nat.le_refl _) HBC.out).drew, (keepBxM _ _ _ _ _).drew (HXC.out.1.set4 _ _ _ _), (keepOwnM _ _ _ _ _ _).drew (HOP.out.of fun g hg => heap4 (by omega))⟩
      case rest =>
        obtain ⟨rfl, hbd, hyd, hod⟩ := hcut
        have HBD := hide3 hbd
        have HOD := hide3 hod
        clear hbd hod y0 y1 y2 y3 y4 fy0 fy1 fy2 fy3 n0 n1 n2 n3
        obtain ⟨y0, y1, y2, y3, y4⟩ := hyd
        go_wp2
        try simp only [Exit.inBlock, Exit.then]
        refine bodyPost_ret (by simp [results, Tryz.results26, y0, y1, y2, y3, go_sem]; try rfl) rfl ?_
        exact HOK.out _ _ _ _ _ hr0 HBD.out (HOD.out.base (by omega))
    · obtain ⟨⟨b0, b1, b2, b3, b4⟩, hfz⟩ := HXC.out
      have f0 := hfz 0 (by decide)
      have f1 := hfz 1 (by decide)
      have f2 := hfz 2 (by decide)
      have f3 := hfz 3 (by decide)
      clear hfz
      have s4 := fun u0 u1 u2 u3 => set4 b0 b1 b2 b3 u0 u1 u2 u3
      have hre : (RF.1 == 0) = false := by simpa using hr0
      go_wp2
      try simp only [Exit.inBlock, Exit.then]
      refine bodyPost_ret (by simp [results, Tryz.results26, s4, go_sem]; try rfl) rfl ?_
      exact HER.out _ _ rfl hr0 (below_set4 (Nat.le_refl _) HBC.out)

theorem readLinesM_any {Lns : List (List Sc.Bs)} {vl : Value} {w : World} (hl : Sc.LinesAt w vl Lns) (hne : ∀ ln ∈ Lns, ln ≠ []) (hn : Lns.length ≤ 5000) (hs : ∀ ln ∈ Lns, ShortLn ln) (he : Env w) (hf : FL w) :
    Calls Tryz.prog 26 #[vl] w (MkQ w (linesME Lns) (linesMP Lns)) := by
  obtain ⟨ad, cap, rfl, hc, hcs⟩ := hl
  cases Lns with
  | nil => exact readLinesM_nil w ad cap
  | cons h r =>
    rcases hcs with hcs | ⟨g, o, rfl, hg, hcs⟩
    · cases hcs
    · obtain ⟨u, c0, hu⟩ := hcs 0 (by simp)
      have hr : ∀ i (hi : i < r.length), ∃ u, w.cell? ⟨g, o + 1 + i, none⟩ = some u ∧ Sc.WordsAt w u r[i] := fun i hi => by
        have := hcs (i + 1) (by simpa using hi)
        simpa [Nat.add_assoc, Nat.add_comm 1 i] using this
      have hc' : r.length + 1 ≤ cap := hc
      have c0' : w.cell? ⟨g, o, none⟩ = some u := c0
      have hu' : Sc.WordsAt w u h := hu
      clear c0 hu
      by_cases h1 : h.length = 1
      · obtain ⟨x, rfl⟩ : ∃ x, h = [x] := by
          match h, h1 with
          | [x], _ => exact ⟨x, rfl⟩
        obtain ⟨au, cu, rfl, _, hx⟩ := hu'
        rcases hx with hx | ⟨gu, ou, rfl, hgu, hx⟩
        · cases hx
        · have cx : w.cell? ⟨gu, ou, none⟩ = some (.string (Sc.ba x)) := hx 0 (by simp)
          by_cases hx1 : x = [112, 114, 111, 106, 101, 99, 116]
          · subst hx1
            by_cases h1 : cap = 1
            · subst h1
              obtain rfl : r = [] := List.eq_nil_of_length_eq_zero (by omega)
              exact readLinesM_one c0' cx hg hgu he hf
            · exact readLinesM_more c0' cx hg hgu he hf hr hc' h1 (by simp at hn; omega) (fun ln hl => hs ln (List.mem_cons_of_mem _ hl))
          · have : linesME ([x] :: r) = 22 := by rw [linesME_cons, if_neg (by simpa using hx1)]
            rw [this]
            exact readLinesM_word c0' cx hg hgu hx1
      · have : linesME (h :: r) = 22 := by rw [linesME_cons, if_neg (fun e => h1 (by rw [e]; rfl))]
        rw [this]
        obtain ⟨au, cu, rfl, _, _⟩ := hu'
        exact readLinesM_len c0' hg h1
end Go.Proofs.YtjfbgiajjkjghaaGreatDoor
namespace Go.Proofs.YtjfbgiajjkjghaaGreatDoor.Sc
open Go.RowKit
set_option maxRecDepth 100000

/-- The frame: text, bound, lines, words, where it is, where the word began. -/
def Fr (t : ByteArray) (most : Int) (vl vw vk vf : Value) (a : Act) : Prop := ∃ (u2 u3 u4 u5 u6 u11 u12 u13 u14 u15 u16 u17 u18 u19 u20 u21 u22 u23 u24 u25 u26 u27 u28 u29 u30 u31 u32 u33 u34 u35 u36 u37 u38 u39 u40 u41 u42 u43 u44 u45 u46 u47 u48 u49 u50 u51 u52 u53 u54 u55 u56 u57 u58 u59 u60 u61 u62 u63 u64 u65 u66 : Value), a = { tmps := #[.string t, .int .i64 most, u2, u3, u4, u5, u6, vl, vw, vk, vf, u11, u12, u13, u14, u15, u16, u17, u18, u19, u20, u21, u22, u23, u24, u25, u26, u27, u28, u29, u30, u31, u32, u33, u34, u35, u36, u37, u38, u39, u40, u41, u42, u43, u44, u45, u46, u47, u48, u49, u50, u51, u52, u53, u54, u55, u56, u57, u58, u59, u60, u61, u62, u63, u64, u65, u66], defers := [] }

/-- What holds at a label, the frame aside. -/
def D4 (t : ByteArray) (w : World) (R : Except Nat (List (List Bs))) (l : Nat) (vl vw vf : Value) (k : Nat) (w' : World) : Prop :=
    ((l = 0 ∧ ∃ ps, St w vl (.slice none 0 0) ps [] w' ∧ ps.length ≤ k ∧ scanR (t.data.toList.drop k) [] [] (ps.map (·.2)) = R) ∨
     (l = 1 ∧ ∃ ps ws, St w vl vw ps ws w' ∧ ps.length ≤ k ∧ ws.length ≤ k ∧ ws ≠ [] ∧ scanR (t.data.toList.drop k) [] ws (ps.map (·.2)) = R) ∨
     (l = 2 ∧ ∃ (f : Nat) (ps : List (Value × List Bs)) (ws : List Bs), vf = .int .i64 f ∧ f < k ∧ St w vl vw ps ws w' ∧ ps.length ≤ k ∧ ws.length ≤ k ∧ scanR (t.data.toList.drop k) ((t.data.toList.take k).drop f) ws (ps.map (·.2)) = R) ∨
     (l = 3 ∧ ∃ ps, LL w' w.heap.size vl ps ∧ ps.length ≤ k ∧ Below w.heap.size w w' ∧ R = .error (ps.length + 1)))
/-- What holds at a label. -/
def J4 (t : ByteArray) (most : Int) (w : World) (R : Except Nat (List (List Bs))) (l : Nat) (a : Act) (w' : World) : Prop :=
  ∃ (vl vw vf : Value) (k : Nat), Fr t most vl vw (.int .i64 k) vf a ∧ k ≤ t.size ∧ D4 t w R l vl vw vf k w'
/-- A measure that each pass lowers. -/
def mu4 (t : ByteArray) (l : Nat) (a : Act) (_ : World) : Nat := if l = 3 then 0 else t.size + 1 - (intOf (a.tmps.getD 9 undef)).toNat

theorem mu4_at {t : ByteArray} {most : Int} {vl vw vf : Value} {k : Nat} {a : Act} {w : World} (h : Fr t most vl vw (.int .i64 k) vf a) {l : Nat} (hl : l ≠ 3) : mu4 t l a w = t.size + 1 - k := by
  obtain ⟨u2, u3, u4, u5, u6, u11, u12, u13, u14, u15, u16, u17, u18, u19, u20, u21, u22, u23, u24, u25, u26, u27, u28, u29, u30, u31, u32, u33, u34, u35, u36, u37, u38, u39, u40, u41, u42, u43, u44, u45, u46, u47, u48, u49, u50, u51, u52, u53, u54, u55, u56, u57, u58, u59, u60, u61, u62, u63, u64, u65, u66, rfl⟩ := h
  unfold mu4
  rw [if_neg hl]
  rfl

def linE : Except Nat (List (List Bs)) → Int
  | .ok _ => 0
  | .error _ => 22
def linN : Except Nat (List (List Bs)) → Nat
  | .ok _ => 0
  | .error n => n
def linL : Except Nat (List (List Bs)) → List (List Bs)
  | .ok L => L
  | .error _ => []
/-- Lines of one's own. -/
def OwnLL (w : World) (B : Nat) (v : Value) (L : List (List Bs)) : Prop := ∃ ps, ps.map (·.2) = L ∧ LL w B v ps
/-- What Lines answers with. -/
def LinesP (w : World) (R : Except Nat (List (List Bs))) (e : Ending) (w' : World) : Prop := ∃ v, e = .returned (.tuple #[v, .int .i64 (linE R), .int .i64 (linN R : Int)]) ∧ OwnLL w' w.heap.size v (linL R) ∧ Below w.heap.size w w'
theorem LinesP.ok {w w' : World} {R : Except Nat (List (List Bs))} {vl : Value} {ps : List (Value × List Bs)} (hR : R = .ok (ps.map (·.2))) (h : LL w' w.heap.size vl ps) (hb : Below w.heap.size w w') : LinesP w R (.returned (.tuple #[vl, .int .i64 0, .int .i64 0])) w' := by
  subst hR
  exact ⟨vl, rfl, ⟨ps, rfl, h⟩, hb⟩
theorem LinesP.no {w w' : World} {R : Except Nat (List (List Bs))} {n : Nat} (hR : R = .error n) (hb : Below w.heap.size w w') : LinesP w R (.returned (.tuple #[.slice none 0 0, .int .i64 22, .int .i64 (n : Int)])) w' := by
  subst hR
  exact ⟨_, rfl, ⟨[], rfl, LL.nil _ _⟩, hb⟩
theorem drop_at {t : ByteArray} {k : Nat} (h : k < t.size) : t.data.toList.drop k = t[k] :: t.data.toList.drop (k + 1) := List.drop_eq_getElem_cons (by rw [list_size]; exact h)
theorem take_at {t : ByteArray} {f k : Nat} (h : k < t.size) (hf : f ≤ k) : (t.data.toList.take (k + 1)).drop f = (t.data.toList.take k).drop f ++ [t[k]] := by
  rw [List.take_succ_eq_append_getElem (by rw [list_size]; exact h), List.drop_append_of_le_length (by rw [List.length_take, list_size]; omega)]
  rfl
theorem cur_ne {t : ByteArray} {f k : Nat} (h : k ≤ t.size) (hf : f < k) : (t.data.toList.take k).drop f ≠ [] := by
  intro e
  have := congrArg List.length e
  rw [List.length_drop, List.length_take, list_size] at this
  simp at this
  omega
theorem cur_nil (t : ByteArray) (k : Nat) : (t.data.toList.take k).drop k = [] := List.drop_of_length_le (by rw [List.length_take]; omega)
theorem drop_end {t : ByteArray} {k : Nat} (h : ¬ k < t.size) : t.data.toList.drop k = [] := List.drop_of_length_le (by rw [list_size]; omega)


theorem jump_ok {t : ByteArray} {most : Int} {w w' : World} {R : Except Nat (List (List Bs))} {vl vw vf : Value} {a : Act} {k k' l N : Nat} (hF : Fr t most vl vw (.int .i64 (k' : Nat)) vf a) (hl : l ≠ 3) (hN : N = t.size + 1 - k) (hk : k < k') (hk' : k' ≤ t.size) (h : D4 t w R l vl vw vf k' w') : J4 t most w R l a w' ∧ mu4 t l a w' < N :=
  ⟨⟨vl, vw, vf, k', hF, hk', h⟩, by rw [mu4_at hF hl, hN]; omega⟩
theorem jump_wrong {t : ByteArray} {most : Int} {w w' : World} {R : Except Nat (List (List Bs))} {vl vw vf : Value} {a : Act} {k k' N : Nat} {ps : List (Value × List Bs)} (hF : Fr t most vl vw (.int .i64 (k' : Nat)) vf a) (hN : N = t.size + 1 - k) (hk : k ≤ t.size) (hk' : k' ≤ t.size) (h : LL w' w.heap.size vl ps) (hp : ps.length ≤ k') (hb : Below w.heap.size w w') (hR : R = .error (ps.length + 1)) : J4 t most w R 3 a w' ∧ mu4 t 3 a w' < N :=
  ⟨⟨vl, vw, vf, k', hF, hk', Or.inr (Or.inr (Or.inr ⟨rfl, ps, h, hp, hb, hR⟩))⟩, by show (if 3 = 3 then 0 else _) < N; rw [if_pos rfl]; omega⟩
theorem own_one {w : World} {B : Nat} {v : Value} {ws : List Bs} (h : OwnW w B v ws) : v.oneCell' = true := by
  rcases h.2 with ⟨rfl, _⟩ | ⟨g, cap, cur, rfl, _⟩ <;> rfl

theorem own_form {w : World} {B : Nat} {v : Value} {ws : List Bs} {x : Bs} (h : OwnW w B v (ws ++ [x])) : ∃ g cap, v = .slice (some ⟨g, 0, none⟩) (ws.length + 1) cap := by
  rcases h.2 with ⟨_, h0⟩ | ⟨g, cap, cur, rfl, _⟩
  · simp at h0
  · exact ⟨g, cap, by simp⟩

set_option maxHeartbeats 6400000 in
theorem Lines_walk (t : ByteArray) (hs : t.size ≤ 4194304) (most : Int) (hm : ¬ most < (t.size : Int)) (w : World)
    (HC : Hid (∀ s : ByteArray, s.size ≤ 4194304 → ∀ w1, Calls Tryz.prog 41 #[.string s] w1 fun e w' => e = .returned (.string s) ∧ Below w1.heap.size w1 w')) :
    Calls Tryz.prog 25 #[.string t, .int .i64 most] w (LinesP w (scanR t.data.toList [] [] [])) := by
  obtain ⟨R, hR⟩ : ∃ R, R = scanR t.data.toList [] [] [] := ⟨_, rfl⟩
  rw [← hR]
  have HR := hide3 hR
  clear hR
  obtain ⟨i0, hi, hz0, hz1, hz2⟩ := info_parts infoStr
  obtain ⟨i1, hj, hy0, hy1, hy2⟩ := info_parts infoStrs
  go_enter Tryz.func25, Tryz.ntmps25
  go_wp2
  refine wp_scope_many (J4 t most w R) (mu4 t) ?_ ?_
  · by_cases h0 : t.size = 0
    · have hR : R = .ok [] := by rw [HR.out, show t.data.toList = [] from List.eq_nil_of_length_eq_zero h0]; rfl
      have e0 : ((0 : Int) == (t.size : Int)) = true := by rw [h0]; rfl
      go_wp2
      go_step3
      go_wp2
      simp only [jumpM_ret]
      go_ret3
      exact LinesP.ok (ps := []) hR (LL.nil _ _) (Below.refl _ _)
    · have e0 : ((0 : Int) == (t.size : Int)) = false := by rw [beq_eq_false_iff_ne]; omega
      have hlt : 0 < t.size := by omega
      have HW := hide3 (wordByte_any t[0])
      have hd := drop_at hlt
      rw [List.drop_zero] at hd
      cases hw : wB t[0]
      · have HJ : Hid (R = .error 1) := by unfold Hid; rw [HR.out, hd, scan_none hw]; rfl
        rw [hw] at HW
        clear hd hw h0 HR
        go_wp2
        go_step3
        go_wp2
        go_step3
        go_wp2
        go_step3
        go_wp2_with (go_at_call 40; refine (HW.out _).mono ?_; rintro e wx ⟨rfl, hwx⟩; subst hwx)
        go_step3
        (try simp only [Exit.then]); (try simp only [Exit.inBlock]); (try simp only [jumpM_goto])
        exact ⟨_, _, _, 0, ⟨_, _, _, _, _, _, _, _, _, _, _, _, _, _, _, _, _, _, _, _, _, _, _, _, _, _, _, _, _, _, _, _, _, _, _, _, _, _, _, _, _, _, _, _, _, _, _, _, _, _, _, _, _, _, _, _, _, _, _, _, _, rfl⟩, Nat.zero_le _, Or.inr (Or.inr (Or.inr ⟨rfl, [], LL.nil _ _, Nat.le_refl _, Below.refl _ _, HJ.out⟩))⟩
      · have HJ : Hid (scanR (t.data.toList.drop 1) ((t.data.toList.take 1).drop 0) [] [] = R) := by
          unfold Hid
          rw [take_at hlt (Nat.le_refl 0), HR.out, hd, scan_b hw]
          simp
        rw [hw] at HW
        clear hd hw h0 HR
        go_wp2
        go_step3
        go_wp2
        go_step3
        go_wp2
        go_step3
        go_wp2_with (go_at_call 40; refine (HW.out _).mono ?_; rintro e wx ⟨rfl, hwx⟩; subst hwx)
        go_step3
        (try simp only [Exit.then]); (try simp only [Exit.inBlock]); (try simp only [jumpM_goto])
        exact ⟨_, _, _, 1, ⟨_, _, _, _, _, _, _, _, _, _, _, _, _, _, _, _, _, _, _, _, _, _, _, _, _, _, _, _, _, _, _, _, _, _, _, _, _, _, _, _, _, _, _, _, _, _, _, _, _, _, _, _, _, _, _, _, _, _, _, _, _, rfl⟩, by omega, Or.inr (Or.inr (Or.inl ⟨rfl, 0, [], [], rfl, by omega, St.start _, by simp, by simp, HJ.out⟩))⟩
  · rintro l a w' ⟨vl, vw, vf, k, hF, hk, hD⟩
    clear HR
    rcases hD with ⟨rfl, ps, hst, hpl, hsc⟩ | ⟨rfl, ps, ws, hst, hpl, hwl, hne, hsc⟩ | ⟨rfl, f, ps, ws, rfl, hfk, hst, hpl, hwl, hsc⟩ | ⟨rfl, ps, hll, hpl, hb, hR⟩
    · -- line
      have HO := hide3 hst
      clear hst
      refine ⟨_, rfl, ?_⟩
      obtain ⟨N, hN⟩ : ∃ N, N = mu4 t 0 a w' := ⟨_, rfl⟩
      rw [← hN]
      rw [mu4_at hF (by decide)] at hN
      have HN := hide3 hN
      clear hN
      obtain ⟨u2, u3, u4, u5, u6, u11, u12, u13, u14, u15, u16, u17, u18, u19, u20, u21, u22, u23, u24, u25, u26, u27, u28, u29, u30, u31, u32, u33, u34, u35, u36, u37, u38, u39, u40, u41, u42, u43, u44, u45, u46, u47, u48, u49, u50, u51, u52, u53, u54, u55, u56, u57, u58, u59, u60, u61, u62, u63, u64, u65, u66, rfl⟩ := hF
      by_cases hlt : k < t.size
      · have e0 : ((k : Int) == (t.size : Int)) = false := by rw [beq_eq_false_iff_ne]; omega
        have HW := hide3 (wordByte_any t[k])
        have hd := drop_at hlt
        cases hw : wB t[k]
        · have HJ : Hid (R = .error (ps.length + 1)) := by unfold Hid; rw [← hsc, hd, scan_none hw]; simp
          rw [hw] at HW
          clear hd hw hsc
          go_wp2
          go_step3
          go_wp2
          go_step3
          go_wp2_with (go_at_call 40; refine (HW.out _).mono ?_; rintro e wx ⟨rfl, hwx⟩; subst hwx)
          go_step3
          (try simp only [Exit.then]); (try simp only [Exit.inBlock]); (try simp only [jumpM_goto])
          exact jump_wrong (k' := k) ⟨_, _, _, _, _, _, _, _, _, _, _, _, _, _, _, _, _, _, _, _, _, _, _, _, _, _, _, _, _, _, _, _, _, _, _, _, _, _, _, _, _, _, _, _, _, _, _, _, _, _, _, _, _, _, _, _, _, _, _, _, _, rfl⟩ HN.out hk hk HO.out.1 hpl HO.out.2.2.2.2 HJ.out
        · have HJ : Hid (scanR (t.data.toList.drop (k + 1)) ((t.data.toList.take (k + 1)).drop k) [] (ps.map (·.2)) = R) := by
            unfold Hid
            rw [take_at hlt (Nat.le_refl k), cur_nil, ← hsc, hd, scan_b hw]
          rw [hw] at HW
          clear hd hw hsc
          go_wp2
          go_step3
          go_wp2
          go_step3
          go_wp2_with (go_at_call 40; refine (HW.out _).mono ?_; rintro e wx ⟨rfl, hwx⟩; subst hwx)
          go_step3
          (try simp only [Exit.then]); (try simp only [Exit.inBlock]); (try simp only [jumpM_goto])
          exact jump_ok (k' := k + 1) ⟨_, _, _, _, _, _, _, _, _, _, _, _, _, _, _, _, _, _, _, _, _, _, _, _, _, _, _, _, _, _, _, _, _, _, _, _, _, _, _, _, _, _, _, _, _, _, _, _, _, _, _, _, _, _, _, _, _, _, _, _, _, rfl⟩ (by decide) HN.out (by omega) (by omega) (Or.inr (Or.inr (Or.inl ⟨rfl, k, ps, [], rfl, by omega, HO.out, by omega, by simp, HJ.out⟩)))
      · have e0 : ((k : Int) == (t.size : Int)) = true := by rw [beq_iff_eq]; omega
        have HJ : Hid (R = .ok (ps.map (·.2))) := by unfold Hid; rw [← hsc, drop_end hlt]; rfl
        clear hsc
        go_wp2
        simp only [jumpM_ret]
        go_ret3
        exact LinesP.ok HJ.out HO.out.1 HO.out.2.2.2.2
    · -- word
      have HO := hide3 hst
      clear hst
      refine ⟨_, rfl, ?_⟩
      obtain ⟨N, hN⟩ : ∃ N, N = mu4 t 1 a w' := ⟨_, rfl⟩
      rw [← hN]
      rw [mu4_at hF (by decide)] at hN
      have HN := hide3 hN
      clear hN
      obtain ⟨u2, u3, u4, u5, u6, u11, u12, u13, u14, u15, u16, u17, u18, u19, u20, u21, u22, u23, u24, u25, u26, u27, u28, u29, u30, u31, u32, u33, u34, u35, u36, u37, u38, u39, u40, u41, u42, u43, u44, u45, u46, u47, u48, u49, u50, u51, u52, u53, u54, u55, u56, u57, u58, u59, u60, u61, u62, u63, u64, u65, u66, rfl⟩ := hF
      by_cases hlt : k < t.size
      · have e0 : ((k : Int) == (t.size : Int)) = false := by rw [beq_eq_false_iff_ne]; omega
        have HW := hide3 (wordByte_any t[k])
        have hd := drop_at hlt
        cases hw : wB t[k]
        · have HJ : Hid (R = .error (ps.length + 1)) := by unfold Hid; rw [← hsc, hd, scan_none hw]; simp
          rw [hw] at HW
          clear hd hw hsc hne
          go_wp2
          go_step3
          go_wp2_with (go_at_call 40; refine (HW.out _).mono ?_; rintro e wx ⟨rfl, hwx⟩; subst hwx)
          go_step3
          (try simp only [Exit.then]); (try simp only [Exit.inBlock]); (try simp only [jumpM_goto])
          exact jump_wrong (k' := k) ⟨_, _, _, _, _, _, _, _, _, _, _, _, _, _, _, _, _, _, _, _, _, _, _, _, _, _, _, _, _, _, _, _, _, _, _, _, _, _, _, _, _, _, _, _, _, _, _, _, _, _, _, _, _, _, _, _, _, _, _, _, _, rfl⟩ HN.out hk hk HO.out.1 hpl HO.out.2.2.2.2 HJ.out
        · have HJ : Hid (scanR (t.data.toList.drop (k + 1)) ((t.data.toList.take (k + 1)).drop k) ws (ps.map (·.2)) = R) := by
            unfold Hid
            rw [take_at hlt (Nat.le_refl k), cur_nil, ← hsc, hd, scan_b hw]
          rw [hw] at HW
          clear hd hw hsc hne
          go_wp2
          go_step3
          go_wp2_with (go_at_call 40; refine (HW.out _).mono ?_; rintro e wx ⟨rfl, hwx⟩; subst hwx)
          go_step3
          (try simp only [Exit.then]); (try simp only [Exit.inBlock]); (try simp only [jumpM_goto])
          exact jump_ok (k' := k + 1) ⟨_, _, _, _, _, _, _, _, _, _, _, _, _, _, _, _, _, _, _, _, _, _, _, _, _, _, _, _, _, _, _, _, _, _, _, _, _, _, _, _, _, _, _, _, _, _, _, _, _, _, _, _, _, _, _, _, _, _, _, _, _, rfl⟩ (by decide) HN.out (by omega) (by omega) (Or.inr (Or.inr (Or.inl ⟨rfl, k, ps, ws, rfl, by omega, HO.out, by omega, by omega, HJ.out⟩)))
      · have e0 : ((k : Int) == (t.size : Int)) = true := by rw [beq_iff_eq]; omega
        have HJ : Hid (R = .error (ps.length + 1)) := by unfold Hid; rw [← hsc, drop_end hlt, scan_end (Or.inr hne)]; simp
        clear hsc hne
        go_wp2
        go_step3
        go_wp2
        go_step3
        (try simp only [Exit.then]); (try simp only [Exit.inBlock]); (try simp only [jumpM_goto])
        exact jump_wrong (k' := k) ⟨_, _, _, _, _, _, _, _, _, _, _, _, _, _, _, _, _, _, _, _, _, _, _, _, _, _, _, _, _, _, _, _, _, _, _, _, _, _, _, _, _, _, _, _, _, _, _, _, _, _, _, _, _, _, _, _, _, _, _, _, _, rfl⟩ HN.out hk hk HO.out.1 hpl HO.out.2.2.2.2 HJ.out
    · -- inside
      have HO := hide3 hst
      clear hst
      refine ⟨_, rfl, ?_⟩
      obtain ⟨N, hN⟩ : ∃ N, N = mu4 t 2 a w' := ⟨_, rfl⟩
      rw [← hN]
      rw [mu4_at hF (by decide)] at hN
      have HN := hide3 hN
      clear hN
      obtain ⟨u2, u3, u4, u5, u6, u11, u12, u13, u14, u15, u16, u17, u18, u19, u20, u21, u22, u23, u24, u25, u26, u27, u28, u29, u30, u31, u32, u33, u34, u35, u36, u37, u38, u39, u40, u41, u42, u43, u44, u45, u46, u47, u48, u49, u50, u51, u52, u53, u54, u55, u56, u57, u58, u59, u60, u61, u62, u63, u64, u65, u66, rfl⟩ := hF
      have ef : ((k : Int) == (f : Int)) = false := by rw [beq_eq_false_iff_ne]; omega
      have hcn := cur_ne hk hfk
      by_cases hlt : k < t.size
      · have e0 : ((k : Int) == (t.size : Int)) = false := by rw [beq_eq_false_iff_ne]; omega
        have HW := hide3 (wordByte_any t[k])
        have hd := drop_at hlt
        cases hw : wB t[k]
        · rw [hw] at HW
          by_cases h32 : t[k] = 32
          · have HJ : Hid (scanR (t.data.toList.drop (k + 1)) [] (ws ++ [(t.data.toList.take k).drop f]) (ps.map (·.2)) = R) := by
              unfold Hid
              rw [← hsc, hd, h32, scan_32 hcn]
            have e32 : ((t[k].toNat : Int) == 32) = true := by rw [h32]; rfl
            clear hd hw hsc h32 hcn
            go_wp2_with (first | (go_at_call 40; refine (HW.out _).mono ?_; rintro e wx ⟨rfl, hwx⟩; subst hwx) | (go_at_call 41; refine (HC.out _ (by rw [ByteArray.size_extract]; omega) _).mono ?_; rintro e w1 ⟨rfl, hb1⟩; have HO1 := hide3 (HO.out.below hb1); clear hb1) | (have _h := HO1; at_builtin; refine wpList_append_own_at _ rfl _ _ 56 rfl w.heap.size 9 i0 _ 1 16 Tryz.underlying56 hi hz0 hz1 hz2 rfl (by decide) _ _ _ rfl (HO1.out.2.1.alloc _) ⟨w1.heap.size, 0, none⟩ 1 1 [.string (t.extract f k)] rfl rfl (cell_one_new _ _ _) (by simp [Value.oneCell']) (by unfold maxLen; omega) (by omega) (by have := HO1.out.2.2.2.2.size; simp; omega) ?_; intro v2 w2 hown2 hg2 hnil2 hat2; have HO2 : Hid (St w vl v2 ps (ws ++ [(t.data.toList.take k).drop f]) w2) := St.word _ (HO1.out.below (boxB _ _)) (by rw [ba_extract] at hown2; exact hown2) hg2 hat2; clear hown2 hg2 hnil2 hat2 HO1; obtain ⟨g2, cap2, rfl⟩ := own_form HO2.out.2.1; go_frame))
            go_step3
            (try simp only [Exit.then]); (try simp only [Exit.inBlock]); (try simp only [jumpM_goto])
            exact jump_ok (k' := k + 1) ⟨_, _, _, _, _, _, _, _, _, _, _, _, _, _, _, _, _, _, _, _, _, _, _, _, _, _, _, _, _, _, _, _, _, _, _, _, _, _, _, _, _, _, _, _, _, _, _, _, _, _, _, _, _, _, _, _, _, _, _, _, _, rfl⟩ (by decide) HN.out (by omega) (by omega) (Or.inr (Or.inl ⟨rfl, ps, _, HO2.out, by omega, by simp; omega, by simp, HJ.out⟩))
          · have e32 : ((t[k].toNat : Int) == 32) = false := by rw [beq_eq_false_iff_ne]; intro e; exact h32 (UInt8.toNat_inj.1 (by show t[k].toNat = 32; omega))
            by_cases h10 : t[k] = 10
            · have HJ : Hid (scanR (t.data.toList.drop (k + 1)) [] [] ((ps.map (·.2)) ++ [ws ++ [(t.data.toList.take k).drop f]]) = R) := by
                unfold Hid
                rw [← hsc, hd, h10, scan_10 hcn]
              have e10 : ((t[k].toNat : Int) == 10) = true := by rw [h10]; rfl
              clear hd hw hsc h32 h10 hcn
              go_wp2_with (first | (go_at_call 40; refine (HW.out _).mono ?_; rintro e wx ⟨rfl, hwx⟩; subst hwx) | (go_at_call 41; refine (HC.out _ (by rw [ByteArray.size_extract]; omega) _).mono ?_; rintro e w1 ⟨rfl, hb1⟩; have HO1 := hide3 (HO.out.below hb1); clear hb1) | (have _h := HO1; at_builtin; refine wpList_append_own_at _ rfl _ _ 56 rfl w.heap.size 9 i0 _ 1 16 Tryz.underlying56 hi hz0 hz1 hz2 rfl (by decide) _ _ _ rfl (HO1.out.2.1.alloc _) ⟨w1.heap.size, 0, none⟩ 1 1 [.string (t.extract f k)] rfl rfl (cell_one_new _ _ _) (by simp [Value.oneCell']) (by unfold maxLen; omega) (by omega) (by have := HO1.out.2.2.2.2.size; simp; omega) ?_; intro v2 w2 hown2 hg2 hnil2 hat2; have HO2 : Hid (St w vl v2 ps (ws ++ [(t.data.toList.take k).drop f]) w2) := St.word _ (HO1.out.below (boxB _ _)) (by rw [ba_extract] at hown2; exact hown2) hg2 hat2; clear hown2 hg2 hnil2 hat2 HO1; obtain ⟨g2, cap2, rfl⟩ := own_form HO2.out.2.1; go_frame) | (have _h := HO2; at_builtin; refine wpList_append_own_at _ rfl _ _ 52 rfl w.heap.size 56 i1 _ 1 24 Tryz.underlying52 hj hy0 hy1 hy2 rfl (by decide) _ _ _ rfl (HO2.out.1.1.alloc _) ⟨w2.heap.size, 0, none⟩ 1 1 [.slice (some ⟨g2, 0, none⟩) (ws.length + 1) cap2] rfl rfl (cell_one_new _ _ _) (by intro u hu; rw [List.mem_singleton.1 hu]; exact own_one HO2.out.2.1) (by unfold maxLen; omega) (by omega) (by have := HO2.out.2.2.2.2.size; simp; omega) ?_; intro v3 w3 hown3 hg3 hnil3 hat3; have HO3 : Hid (St w v3 (.slice none 0 0) (ps ++ [(.slice (some ⟨g2, 0, none⟩) (ws.length + 1) cap2, ws ++ [(t.data.toList.take k).drop f])]) [] w3) := St.line (HO2.out.below (boxB _ _)) (by simp) hown3 hg3 hat3; clear hown3 hg3 hnil3 hat3; go_frame))
              go_step3
              (try simp only [Exit.then]); (try simp only [Exit.inBlock]); (try simp only [jumpM_goto])
              exact jump_ok (k' := k + 1) ⟨_, _, _, _, _, _, _, _, _, _, _, _, _, _, _, _, _, _, _, _, _, _, _, _, _, _, _, _, _, _, _, _, _, _, _, _, _, _, _, _, _, _, _, _, _, _, _, _, _, _, _, _, _, _, _, _, _, _, _, _, _, rfl⟩ (by decide) HN.out (by omega) (by omega) (Or.inl ⟨rfl, _, HO3.out, by simp; omega, by rw [List.map_append]; exact HJ.out⟩)
            · have HJ : Hid (R = .error (ps.length + 1)) := by unfold Hid; rw [← hsc, hd, scan_bad hw h32 h10]; simp
              have e10 : ((t[k].toNat : Int) == 10) = false := by rw [beq_eq_false_iff_ne]; intro e; exact h10 (UInt8.toNat_inj.1 (by show t[k].toNat = 10; omega))
              clear hd hw hsc h32 h10 hcn
              go_wp2_with (first | (go_at_call 40; refine (HW.out _).mono ?_; rintro e wx ⟨rfl, hwx⟩; subst hwx) | (go_at_call 41; refine (HC.out _ (by rw [ByteArray.size_extract]; omega) _).mono ?_; rintro e w1 ⟨rfl, hb1⟩; have HO1 := hide3 (HO.out.below hb1); clear hb1) | (have _h := HO1; at_builtin; refine wpList_append_own_at _ rfl _ _ 56 rfl w.heap.size 9 i0 _ 1 16 Tryz.underlying56 hi hz0 hz1 hz2 rfl (by decide) _ _ _ rfl (HO1.out.2.1.alloc _) ⟨w1.heap.size, 0, none⟩ 1 1 [.string (t.extract f k)] rfl rfl (cell_one_new _ _ _) (by simp [Value.oneCell']) (by unfold maxLen; omega) (by omega) (by have := HO1.out.2.2.2.2.size; simp; omega) ?_; intro v2 w2 hown2 hg2 hnil2 hat2; have HO2 : Hid (St w vl v2 ps (ws ++ [(t.data.toList.take k).drop f]) w2) := St.word _ (HO1.out.below (boxB _ _)) (by rw [ba_extract] at hown2; exact hown2) hg2 hat2; clear hown2 hg2 hnil2 hat2 HO1; obtain ⟨g2, cap2, rfl⟩ := own_form HO2.out.2.1; go_frame))
              go_step3
              obtain ⟨ad, cap, rfl⟩ := HO2.out.1.len
              go_wp2
              simp only [jumpM_ret]
              go_ret3
              exact LinesP.no HJ.out HO2.out.2.2.2.2
        · have HJ : Hid (scanR (t.data.toList.drop (k + 1)) ((t.data.toList.take (k + 1)).drop f) ws (ps.map (·.2)) = R) := by
            unfold Hid
            rw [take_at hlt (Nat.le_of_lt hfk), ← hsc, hd, scan_b hw]
          rw [hw] at HW
          clear hd hw hsc hcn
          go_wp2_with (go_at_call 40; refine (HW.out _).mono ?_; rintro e wx ⟨rfl, hwx⟩; subst hwx)
          go_step3
          (try simp only [Exit.then]); (try simp only [Exit.inBlock]); (try simp only [jumpM_goto])
          exact jump_ok (k' := k + 1) ⟨_, _, _, _, _, _, _, _, _, _, _, _, _, _, _, _, _, _, _, _, _, _, _, _, _, _, _, _, _, _, _, _, _, _, _, _, _, _, _, _, _, _, _, _, _, _, _, _, _, _, _, _, _, _, _, _, _, _, _, _, _, rfl⟩ (by decide) HN.out (by omega) (by omega) (Or.inr (Or.inr (Or.inl ⟨rfl, f, ps, ws, rfl, by omega, HO.out, by omega, by omega, HJ.out⟩)))
      · have e0 : ((k : Int) == (t.size : Int)) = true := by rw [beq_iff_eq]; omega
        have HJ : Hid (R = .error (ps.length + 1)) := by unfold Hid; rw [← hsc, drop_end hlt, scan_end (Or.inl hcn)]; simp
        clear hsc hcn
        go_wp2
        go_step3
        (try simp only [Exit.then]); (try simp only [Exit.inBlock]); (try simp only [jumpM_goto])
        exact jump_wrong (k' := k) ⟨_, _, _, _, _, _, _, _, _, _, _, _, _, _, _, _, _, _, _, _, _, _, _, _, _, _, _, _, _, _, _, _, _, _, _, _, _, _, _, _, _, _, _, _, _, _, _, _, _, _, _, _, _, _, _, _, _, _, _, _, _, rfl⟩ HN.out hk hk HO.out.1 hpl HO.out.2.2.2.2 HJ.out
    · -- wrong
      refine ⟨_, rfl, ?_⟩
      obtain ⟨u2, u3, u4, u5, u6, u11, u12, u13, u14, u15, u16, u17, u18, u19, u20, u21, u22, u23, u24, u25, u26, u27, u28, u29, u30, u31, u32, u33, u34, u35, u36, u37, u38, u39, u40, u41, u42, u43, u44, u45, u46, u47, u48, u49, u50, u51, u52, u53, u54, u55, u56, u57, u58, u59, u60, u61, u62, u63, u64, u65, u66, rfl⟩ := hF
      obtain ⟨ad, cap, rfl⟩ := hll.len
      have HR := hide3 hR
      have HB := hide3 hb
      clear hR hb hll
      go_wp2
      simp only [jumpM_ret]
      go_ret3
      exact LinesP.no HR.out HB.out
end Go.Proofs.YtjfbgiajjkjghaaGreatDoor.Sc
namespace Go.Proofs.YtjfbgiajjkjghaaGreatDoor.Sc
open Go.RowKit
set_option maxRecDepth 100000

theorem wB_of {b : UInt8} (h : wB b = true) : 33 ≤ b.toNat ∧ b.toNat ≤ 126 := by simpa [wB] using h
theorem wB_no {b : UInt8} (h : wB b = false) : b.toNat < 33 ∨ 126 < b.toNat := by
  simp [wB] at h
  omega

set_option maxHeartbeats 1600000 in
theorem isWord_any (s : ByteArray) (hs : s.size ≤ 1000000000000) (w : World) : Calls Tryz.prog 59 #[.string s] w fun e w' => e = .returned (.bool (isW s.data.toList)) ∧ Below w.heap.size w w' := by
  go_enter Tryz.func59, Tryz.ntmps59
  go_wp2
  go_loop [3] (fun i => ∃ k : Nat, k ≤ s.size ∧ i = .int .i64 k ∧ (s.data.toList.take k).all wB = true) (fun i => s.size - (intOf i).toNat)
  case atStart => exact ⟨0, Nat.zero_le _, rfl, rfl⟩
  case round =>
    obtain ⟨k, hk, rfl, hal⟩ := hrel
    have HA := hide3 hal
    clear hal
    by_cases hlt : k < s.size
    · cases hw : wB s[k]
      · have hn := wB_no hw
        have HR : Hid (isW s.data.toList = false) := by
          unfold Hid isW
          have : s.data.toList.all wB = false := by
            rw [Bool.eq_false_iff]
            intro h
            rw [List.all_eq_true] at h
            have := h s[k] (List.getElem_mem (l := s.data.toList) (n := k) (by rw [list_size]; exact hlt))
            rw [hw] at this; cases this
          rw [this]; rfl
        clear hw
        by_cases h33 : s[k].toNat < 33
        · clear hn
          go_wp2
          go_ret
          exact ⟨ret_bool HR.out.symm, Below.refl _ _⟩
        · have h126 : 126 < s[k].toNat := by omega
          clear hn
          go_wp2
          go_ret
          exact ⟨ret_bool HR.out.symm, Below.refl _ _⟩
      · obtain ⟨h1, h2⟩ := wB_of hw
        have HA2 : Hid ((s.data.toList.take (k + 1)).all wB = true) := by
          unfold Hid
          rw [List.take_succ_eq_append_getElem (by rw [list_size]; exact hlt), List.all_append, HA.out]
          simp only [List.all_cons, List.all_nil, Bool.and_true, Bool.true_and]
          exact hw
        clear hw
        go_wp2
        exact ⟨⟨k + 1, by omega, by go_num, HA2.out⟩, by simp [intOf]; omega⟩
    · have hke : k = s.size := by omega
      subst hke
      have HR : Hid (isW s.data.toList = !s.data.toList.isEmpty) := by
        unfold Hid isW
        have := HA.out
        rw [List.take_of_length_le (by rw [list_size]; exact Nat.le_refl _)] at this
        rw [this]; rfl
      rw [← empty_is] at HR
      cases he : s.toList.isEmpty
      · rw [he] at HR
        go_wp2
        go_ret
        exact ⟨ret_bool HR.out.symm, Below.refl _ _⟩
      · rw [he] at HR
        go_wp2
        go_ret
        exact ⟨ret_bool HR.out.symm, Below.refl _ _⟩

set_option maxHeartbeats 3200000 in
theorem split_walk (s : ByteArray) (b : UInt8) (hs : s.size ≤ 4194304) (w : World) :
    Calls Tryz.prog 44 #[.string s, .int .u8 (b.toNat : Int)] w fun e w' => ∃ v, e = .returned v ∧ OwnW w' w.heap.size v (cutF b [] s.data.toList) ∧ Below w.heap.size w w' := by
  obtain ⟨i0, hi, hz0, hz1, hz2⟩ := info_parts infoStr
  go_enter Tryz.func44, Tryz.ntmps44
  go_wp2
  go_loopw [5, 6, 7] (fun v fr i wr => ∃ (k f : Nat) (pre : List Bs), k ≤ s.size ∧ i = .int .i64 k ∧ fr = .int .i64 f ∧ f ≤ k ∧ pre.length ≤ k ∧ OwnW wr w.heap.size v pre ∧ Below w.heap.size w wr ∧ cutF b [] s.data.toList = pre ++ cutF b ((s.data.toList.take k).drop f) (s.data.toList.drop k)) (fun _ _ i _ => s.size - (intOf i).toNat)
  case atStart => exact ⟨0, 0, [], Nat.zero_le _, rfl, rfl, Nat.le_refl _, Nat.le_refl _, OwnW.nil _ _, Below.refl _ _, rfl⟩
  case round =>
    obtain ⟨k, f, pre, hk, rfl, rfl, hf, hpl, how, hb, heq⟩ := hrel
    have HO := hide3 how
    have HB := hide3 hb
    have HE := hide3 heq
    clear how hb heq
    by_cases hlt : k < s.size
    · have hd := drop_at hlt
      by_cases hx : s[k] = b
      · have e1 : ((s[k].toNat : Int) == (b.toNat : Int)) = true := by rw [hx]; simp
        have HE2 : Hid (cutF b [] s.data.toList = (pre ++ [(s.data.toList.take k).drop f]) ++ cutF b ((s.data.toList.take (k + 1)).drop (k + 1)) (s.data.toList.drop (k + 1))) := by
          unfold Hid
          rw [cur_nil, HE.out, hd, hx, cutF_hit]
          simp
        clear hd hx
        go_wp2_with (at_builtin; refine wpList_append_own_at _ rfl _ _ 56 rfl w.heap.size 9 i0 _ 1 16 Tryz.underlying56 hi hz0 hz1 hz2 rfl (by decide) _ _ _ rfl (HO.out.alloc _) ⟨wr.heap.size, 0, none⟩ 1 1 [.string (s.extract f k)] rfl rfl (cell_one_new _ _ _) (by simp [Value.oneCell']) (by unfold maxLen; omega) (by omega) (by have := HB.out.size; simp; omega) ?_; intro v2 w2 hown2 hg2 hnil2 hat2; have HO2 : Hid (OwnW w2 w.heap.size v2 (pre ++ [(s.data.toList.take k).drop f]) ∧ Below w.heap.size w w2) := (⟨by unfold OwnW; rw [strs_snoc, List.length_append, ← ba_extract]; exact hown2, (below_then HB.out (boxB _ _)).grown hg2 (below_then HB.out (boxB _ _)).size fun j hj => (World.ownsRow.lt HO.out j hj).1⟩); clear hown2 hg2 hnil2 hat2; go_frame)
        exact ⟨⟨k + 1, k + 1, _, by omega, by go_num, by go_num, Nat.le_refl _, by simp; omega, HO2.out.1, HO2.out.2, HE2.out⟩, by simp [intOf]; omega⟩
      · have e1 : ((s[k].toNat : Int) == (b.toNat : Int)) = false := by rw [beq_eq_false_iff_ne]; intro e; exact hx (UInt8.toNat_inj.1 (by omega))
        have HE2 : Hid (cutF b [] s.data.toList = pre ++ cutF b ((s.data.toList.take (k + 1)).drop f) (s.data.toList.drop (k + 1))) := by
          unfold Hid
          rw [take_at hlt hf, HE.out, hd, cutF_go hx]
        clear hd hx
        go_wp2
        exact ⟨⟨k + 1, f, pre, by omega, by go_num, rfl, by omega, by omega, HO.out, HB.out, HE2.out⟩, by simp [intOf]; omega⟩
    · have hke : k = s.size := by omega
      subst hke
      have HE2 : Hid (cutF b [] s.data.toList = pre ++ [(s.data.toList.take s.size).drop f]) := by unfold Hid; rw [HE.out, drop_end hlt]; rfl
      go_wp2_with (at_builtin; refine wpList_append_own_at _ rfl _ _ 56 rfl w.heap.size 9 i0 _ 1 16 Tryz.underlying56 hi hz0 hz1 hz2 rfl (by decide) _ _ _ rfl (HO.out.alloc _) ⟨wr.heap.size, 0, none⟩ 1 1 [.string (s.extract f s.size)] rfl rfl (cell_one_new _ _ _) (by simp [Value.oneCell']) (by unfold maxLen; omega) (by omega) (by have := HB.out.size; simp; omega) ?_; intro v2 w2 hown2 hg2 hnil2 hat2; have HO2 : Hid (OwnW w2 w.heap.size v2 (pre ++ [(s.data.toList.take s.size).drop f]) ∧ Below w.heap.size w w2) := (⟨by unfold OwnW; rw [strs_snoc, List.length_append, ← ba_extract]; exact hown2, (below_then HB.out (boxB _ _)).grown hg2 (below_then HB.out (boxB _ _)).size fun j hj => (World.ownsRow.lt HO.out j hj).1⟩); clear hown2 hg2 hnil2 hat2; go_frame)
      go_ret
      exact ⟨_, rfl, by rw [HE2.out]; exact HO2.out.1, HO2.out.2⟩
end Go.Proofs.YtjfbgiajjkjghaaGreatDoor.Sc
