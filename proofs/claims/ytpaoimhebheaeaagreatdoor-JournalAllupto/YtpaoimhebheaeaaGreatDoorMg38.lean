/- Jl11, laid in one text. -/
import Derived.Deep.RegionHeld3
import Derived.Test.YtpaoimhebheaeaaGreatDoorMg37
namespace Go.Proofs.YtpaoimhebheaeaaGreatDoor
open Go.RowKit Go.Maps Go.WideMaps Go.WideElems Dk
set_option maxRecDepth 100000

theorem PkA.old {B : Nat} {w : World} {d : Nat} {x : Ab} {m : Int} {k e1 e2 : Nat} {F1 F2 : List Fl} (h : PkA B w d x m k e1 F1 e2 F2) : ∃ lo lc b, (∀ W, Below w.heap.size w W → W.cell? ⟨e1, 0, none⟩ = some (.slice lo F1.length lc)) ∧ ∀ W, Below w.heap.size w W → W.ownsRow b 83 3 (.slice lo F1.length lc) F1.length (fileCells F1) := by
  obtain ⟨_, _, _, _, ⟨lo, lc, b, h1, h2, h3, _⟩, _⟩ := h
  exact ⟨lo, lc, b, fun W hb => (hb.cell (p := ⟨e1, 0, none⟩) h3).trans h1, fun W hb => rowJ_below h2 hb⟩
theorem PkA.want {B : Nat} {w : World} {d : Nat} {x : Ab} {m : Int} {k e1 e2 : Nat} {F1 F2 : List Fl} (h : PkA B w d x m k e1 F1 e2 F2) : ∃ lo lc b, (∀ W, Below w.heap.size w W → W.cell? ⟨e2, 0, none⟩ = some (.slice lo F2.length lc)) ∧ ∀ W, Below w.heap.size w W → W.ownsRow b 83 3 (.slice lo F2.length lc) F2.length (fileCells F2) := by
  obtain ⟨_, _, _, _, _, ⟨lo, lc, b, h1, h2, h3, _⟩⟩ := h
  exact ⟨lo, lc, b, fun W hb => (hb.cell (p := ⟨e2, 0, none⟩) h3).trans h1, fun W hb => rowJ_below h2 hb⟩

set_option maxHeartbeats 16000000 in
theorem journalAll_walk (fs gs : List Fl) (a b : Option Addr) (ca cb : Nat) (cs : List Int) (ac : Option Addr) (capc : Nat) (m : Int) (w : World) (hm : w.cell? ⟨0, 0, none⟩ = some (.int .i64 m)) (hlf : fs.length ≤ 1048576) (hlg : gs.length ≤ 1048576) (hcf : IsFiles w a fs) (hcg : IsFiles w b gs) (hzf : ∀ f ∈ fs, f.1.size ≤ maxLen ∧ f.2.2.size ≤ 1048576) (hzg : ∀ f ∈ gs, f.1.size ≤ maxLen ∧ f.2.2.size ≤ 1048576) (hi : IsInts w ac cs) (hci : ∀ z ∈ cs, z ≤ 9223372036854775807) (hcl : cs.length ≤ 1048576)
    (hT : OkJ fs → OkJ gs → (textD (deeds fs gs)).size ≤ 4194304 ∧ (deeds fs gs).length ≤ 1048576 ∧ ∀ d ∈ deeds fs gs, d.pa.size ≤ maxLen ∧ d.da.size ≤ 100000000) :
    Calls Tryz.prog 5 #[.slice a fs.length ca, .slice b gs.length cb, .slice ac cs.length capc] w fun e' w' => e' = .returned (.bool true) ∧ Below w.heap.size w w' := by
  have hmx : ∀ n : Nat, n ≤ 1048576 → n ≤ maxLen := fun n h => Nat.le_trans h (by decide)
  have HDE0 := hide3 (deeds_any fs gs a b ca cb m w hm hlf hlg hcf hcg (fun f hf => ⟨(hzf f hf).1, Nat.le_trans (hzf f hf).2 (by decide)⟩) (fun f hf => ⟨(hzg f hf).1, Nat.le_trans (hzg f hf).2 (by decide)⟩))
  have HDK0 : Hid (∀ W, Below w.heap.size w W → Calls Tryz.prog 8 #[.slice a fs.length ca] W (DksQ W fs m)) := fun W hb => disks_any fs a ca m W ((hb.cell (p := ⟨0, 0, none⟩) (cell_lt hm)).trans hm) hlf (hcf.below hb) fun f hf => ⟨(hzf f hf).1, hmx _ (hzf f hf).2⟩
  have HLG0 : Hid (∀ W, Below w.heap.size w W → Calls Tryz.prog 20 #[.slice b gs.length cb] W (RLoadQ W gs)) := fun W hb => rLoad_any gs b cb W hlg (hcg.below hb) fun f hf => ⟨(hzg f hf).1, hmx _ (hzg f hf).2⟩
  have HLV : Hid (∀ W, Below w.heap.size w W → Calls Tryz.prog 9 #[] W fun e' w' => e' = .returned (.bool true) ∧ Below W.heap.size W w') := fun W hb => lives18_any m W ((hb.cell (p := ⟨0, 0, none⟩) (cell_lt hm)).trans hm)
  have HIN : Hid (∀ W, Below w.heap.size w W → IsInts W ac cs) := fun W hb => hi.below hb
  have HCI := hide3 hci
  by_cases hO : OkJ fs ∧ OkJ gs
  · obtain ⟨o1, o2⟩ := hO
    obtain ⟨hR0, hEn0⟩ := run_delta o1 o2
    obtain ⟨t1, t2, t3⟩ := hT o1 o2
    obtain ⟨l, hl⟩ : ∃ l, l = deeds fs gs := ⟨_, rfl⟩
    have hR : Run (loadD fs) l := by rw [hl]; exact hR0
    have hEn : En (loadD fs) l l.length = loadD gs := by rw [hl]; exact hEn0
    rw [← hl] at t1 t2 t3
    have HDE : Hid (Calls Tryz.prog 19 #[.slice a fs.length ca, .slice b gs.length cb] w fun e w' => ∃ a3 c3, e = .returned (.tuple #[.slice a3 l.length c3, .int .i64 0]) ∧ IsDes w' a3 l ∧ Below w.heap.size w w') := by
      refine HDE0.out.mono ?_
      rintro e w' ⟨hb, q | q⟩
      · obtain ⟨_, v, rfl, ho⟩ := q
        rw [← hl] at ho
        obtain ⟨a3, c3, rfl, hd⟩ := ho.isDes
        exact ⟨a3, c3, rfl, hd, hb⟩
      · exact absurd ⟨o1, o2⟩ q.1
    obtain ⟨F1, hF1⟩ : ∃ F1, F1 = filesD (loadD fs) := ⟨_, rfl⟩
    obtain ⟨F2, hF2⟩ : ∃ F2, F2 = filesD (loadD gs) := ⟨_, rfl⟩
    have HDK : Hid (∀ W, Below w.heap.size w W → Calls Tryz.prog 8 #[.slice a fs.length ca] W fun e' w' => ∃ d e, e' = .returned (.tuple #[.pointer (some ⟨d, 0, none⟩), .pointer (some ⟨e, 0, none⟩), .bool true]) ∧ Bth W.heap.size w' d e ⟨loadD fs, [], -1⟩ m 1048576 ∧ Below W.heap.size W w') := fun W hb => by
      refine (HDK0.out W hb).mono ?_
      rintro e' w' ⟨hb2, q | q⟩
      · obtain ⟨_, d, e, rfl, hB⟩ := q
        exact ⟨d, e, rfl, hB.more hlf, hb2⟩
      · exact absurd o1.1 q.1
    have HLG : Hid (∀ B W d e, Below w.heap.size w W → Bth B W d e ⟨loadD fs, [], -1⟩ m 1048576 → Calls Tryz.prog 20 #[.slice b gs.length cb] W fun e' w' => e' = .returned (.tuple #[.pointer (some ⟨W.heap.size, 0, none⟩), .bool true]) ∧ PkA B w' d ⟨loadD fs, [], -1⟩ m 1048576 e F1 W.heap.size F2 ∧ Below W.heap.size W w') := fun B W d e hb hB => by
      refine (HLG0.out W hb).mono ?_
      rintro e' w' ⟨hb2, q | q⟩
      · obtain ⟨_, rfl, hr⟩ := q
        rw [hF1, hF2]
        exact ⟨rfl, PkA.start hB hb2 hr, hb2⟩
      · exact absurd o2.1 q.1
    have HOR : Hid (∀ bb (x : Ab), Ph (loadD fs) l bb x.D → Ord18 x) := fun bb x hp => ord_ph hR t1 t2 hp
    have HRP : Hid (∀ bb (x : Ab), Fine x → Ph (loadD fs) l bb x.D → ((recA x).1 = 0 ∨ (recA x).1 = 15) ∧ Ph (loadD fs) l bb (recA x).2.D) := fun bb x hf hp => out_ph hR (rec_ph hR hf hp)
    have HLP : Hid (∀ bb (x : Ab), Fine x → x.left = -1 → Ph (loadD fs) l bb x.D → (recA x).1 = 0 ∧ filesD (recA x).2.D = (if bb = true then F2 else F1) ∧ kindD (recA x).2.D jn = 0) := fun bb x hf hl hp => by
      obtain ⟨q1, q2, q3⟩ := last_ph hR hf hl hp
      refine ⟨q1, ?_, q3⟩
      rw [q2]
      cases bb
      · exact hF1.symm
      · show filesD (En (loadD fs) l l.length) = F2
        rw [hEn, hF2]
    have HPHC : Hid (∀ lz : Int, -1 ≤ lz → lz ≤ 9223372036854775807 → ((commitA l ⟨loadD fs, [], lz⟩).1 = 0 ∨ (commitA l ⟨loadD fs, [], lz⟩).1 = 15) ∧ (((commitA l ⟨loadD fs, [], lz⟩).2.rs.length < 3 ∧ ((commitA l ⟨loadD fs, [], lz⟩).1 = 0 → l.length = 0) ∧ Ph (loadD fs) l false (commitA l ⟨loadD fs, [], lz⟩).2.D) ∨ (3 ≤ (commitA l ⟨loadD fs, [], lz⟩).2.rs.length ∧ Ph (loadD fs) l true (commitA l ⟨loadD fs, [], lz⟩).2.D))) := fun lz h1 h2 => commit_ph hR h1 h2
    have HCOM : Hid (∀ lz (w1 W : World) d e1 e2 a3 c3, IsDes w1 a3 l → Below w1.heap.size w1 W → PkA w1.heap.size W d ⟨loadD fs, [], lz⟩ m 1048577 e1 F1 e2 F2 → Calls Tryz.prog 12 #[.pointer (some ⟨d, 0, none⟩), .slice a3 l.length c3] W fun e' w' => e' = .returned (.int .i64 (commitA l ⟨loadD fs, [], lz⟩).1) ∧ PkA w1.heap.size w' d (commitA l ⟨loadD fs, [], lz⟩).2 m 2097160 e1 F1 e2 F2 ∧ Below w1.heap.size W w') := fun lz w1 W d e1 e2 a3 c3 hd hb hB => (hB.commit l a3 c3 hd hb t3 t1 (by omega) (by omega)).mono fun _ _ q => ⟨q.1, q.2.1.more (by omega), q.2.2⟩
    have HRAW : Hid (∀ B y W d e1 e2, PkA B W d y m 2097160 e1 F1 e2 F2 → Calls Tryz.prog 21 #[.pointer (some ⟨d, 0, none⟩)] W fun e' w' => ∃ ao cp, e' = .returned (.slice ao y.rs.length cp) ∧ PkA B w' d y m 2097160 e1 F1 e2 F2 ∧ Below W.heap.size W w') := fun B y W d e1 e2 hB => (hB.pk.raws (by decide)).mono fun _ _ ⟨ao, cp, q1, _, q3⟩ => ⟨ao, cp, q1, hB.below q3, q3⟩
    clear hR0 hEn0 hR hEn HDE0 HDK0 HLG0 hT hcf hcg hzf hzg hi hci t1 t3 hl
    have hl2 : l.length ≤ 1048576 := t2
    clear t2
    generalize loadD fs = D0 at *
    clear hF1 hF2
    by_cases hc0 : cs.length = 0
    · have hcd : decide (0 < (cs.length : Int)) = false := by rw [hc0]; rfl
      have hcn : decide (0 < cs.length) = false := by rw [hc0]; rfl
      have HCM := hide3 (HCOM.out (-1))
      have HPC := hide3 (HPHC.out (-1) (by decide) (by decide))
      clear HCOM HPHC hc0
      generalize commitA l ⟨D0, [], -1⟩ = Y1 at *
      obtain ⟨c1, y1⟩ := Y1
      simp only at HCM HPC
      obtain ⟨hc1, hcase⟩ := HPC.out
      clear HPC
      rcases hcase with ⟨hn, hz, hph⟩ | ⟨hn, hph⟩
      · have HPH := hide3 hph
        have hn3 : decide (3 ≤ (y1.rs.length : Int)) = false := decide_eq_false (by omega)
        have hn4 : decide (3 ≤ y1.rs.length) = false := decide_eq_false (by omega)
        clear hph hn
        rcases hc1 with rfl | rfl
        · have hl0 := hz rfl
          have hl3 : decide (0 < (l.length : Int)) = false := decide_eq_false (by omega)
          have hl4 : decide (0 < l.length) = false := decide_eq_false (by omega)
          clear hl0 hz
          go_enter Tryz.func5, Tryz.ntmps5
          go_wp2_with (first
            | (go_at_call 21; have _t := HX5; refine (HRAW.out _ _ _ _ _ _ HT5.out).mono ?_; rintro f6 w6 ⟨ao6, cp6, rfl, ht6, hb6⟩; have HT6 := hide3 ht6; have HX6 := hide3 (HX5.out.trans (hb6.mono HX5.out.size)); clear ht6 hb6)
            | (go_at_call 12; have _t := HX3; refine (HCM.out _ _ _ _ _ _ _ HD1.out HX3.out (HT3.out.more (Nat.le_succ _))).mono ?_; rintro f5 w5 ⟨rfl, ht5, hb5⟩; have HT5 := hide3 ht5; have HX5 := hide3 (HX3.out.trans hb5); clear ht5 hb5)
            | (go_at_call 20; have _t := HX2; refine (HLG.out _ _ _ _ (HB1.out.trans (HX2.out.mono HB1.out.size)) HT2.out).mono ?_; rintro f3 w3 ⟨rfl, ht3, hb3⟩; have HT3 := hide3 ht3; have HX3 := hide3 (HX2.out.trans (hb3.mono HX2.out.size)); clear ht3 hb3)
            | (go_at_call 8; have _t := HB1; refine (HDK.out _ HB1.out).mono ?_; rintro f2 w2 ⟨d1, r1, rfl, ht2, hb2⟩; have HT2 := hide3 ht2; have HX2 := hide3 hb2; clear ht2 hb2)
            | (go_at_call 19; refine HDE.out.mono ?_; rintro f1 w1 ⟨a3, c3, rfl, hd1, hb1⟩; have HD1 := hide3 hd1; have HB1 := hide3 hb1; clear hd1 hb1))
          clear HCM HRAW HDE HDK HLG
          go_loopw [16] (fun v16 wr => ∃ i : Nat, 1 ≤ i ∧ (i ≤ cs.length ∨ i = 1) ∧ v16 = .int .i64 i ∧ Below w1.heap.size w1 wr ∧ ∃ x, PkA w1.heap.size wr d1 x m (2097160 + i * 1048600) r1 F1 w2.heap.size F2 ∧ Ph D0 l false x.D) (fun v16 _ => cs.length + 1 - (intOf v16).toNat)
          case atStart => exact ⟨1, Nat.le_refl _, Or.inr rfl, rfl, HX6.out, y1, HT6.out.more (by omega), HPH.out⟩
          case round =>
            obtain ⟨i, hi1, hi2, rfl, hxr, x, htx, hpx⟩ := hrel
            have HXR := hide3 hxr
            have HPX := hide3 hpx
            have HUP := hide3 htx.up
            have HF2 : Hid (Fine ({ x with left := -1 } : Ab)) := left_fine htx.fine (by decide) (by decide)
            have HP2 : Hid (Ph D0 l false ({ x with left := -1 } : Ab).D) := hpx
            have hlx : ({ x with left := -1 } : Ab).left = -1 := rfl
            clear hxr hpx htx HX6 HT6
            generalize ({ x with left := -1 } : Ab) = x2 at *
            by_cases hlt : i < cs.length
            · obtain ⟨g, off, hgo, hg, hcs⟩ : ∃ g off, ac = some ⟨g, off, none⟩ ∧ g < w.heap.size ∧ ∀ j (hj : j < cs.length), w.cell? ⟨g, off + j, none⟩ = some (.int .i64 cs[j]) := by
                rcases HIN.out w (Below.refl _ _) with q | q
                · rw [q] at hlt; exact absurd hlt (Nat.not_lt_zero _)
                · exact q
              cases hgo
              have HCE : Hid (∀ W, Below w.heap.size w W → W.cell? ⟨g, off + i, none⟩ = some (.int .i64 cs[i])) := fun W hb => (hb.cell (p := ⟨g, off + i, none⟩) hg).trans (hcs i hlt)
              have HZI : Hid (cs[i] ≤ 9223372036854775807) := HCI.out _ (List.getElem_mem hlt)
              have hlti : (i : Int) < (cs.length : Int) := by omega
              have hi0 : (0 : Int) ≤ (i : Int) := by omega
              clear hcs hg
              generalize cs[i] = z at *
              by_cases hz0 : 0 ≤ z
              · have hzd : decide (0 ≤ z) = true := decide_eq_true hz0
                have HP3 : Hid (Ph D0 l false ({ x2 with left := cutL x2.left z } : Ab).D) := HP2.out
                have HF3 : Hid (Fine ({ x2 with left := cutL x2.left z } : Ab)) := left_fine HF2.out (cut_bd HF2.out.lo HF2.out.hi HZI.out).1 (cut_bd HF2.out.lo HF2.out.hi HZI.out).2
                have HCT : Hid (∀ W, PkA w1.heap.size W d1 x2 m (2097160 + i * 1048600 + 1) r1 F1 w2.heap.size F2 → Calls Tryz.prog 10 #[.pointer (some ⟨d1, 0, none⟩), .int .i64 z] W fun e' w' => e' = .returned (.int .i64 (cutE x2.left z)) ∧ PkA w1.heap.size w' d1 { x2 with left := cutL x2.left z } m (2097160 + i * 1048600 + 1 + 1) r1 F1 w2.heap.size F2 ∧ Below w1.heap.size W w') := fun W hB => hB.cut z HZI.out
                generalize ({ x2 with left := cutL x2.left z } : Ab) = x3 at *
                generalize cutE x2.left z = ce at *
                have HRC : Hid (∀ W, PkA w1.heap.size W d1 x3 m (2097160 + i * 1048600 + 1 + 1) r1 F1 w2.heap.size F2 → Calls Tryz.prog 17 #[.pointer (some ⟨d1, 0, none⟩)] W fun e' w' => e' = .returned (.int .i64 (recA x3).1) ∧ PkA w1.heap.size w' d1 (recA x3).2 m (2097160 + i * 1048600 + 1 + 1 + 1048579) r1 F1 w2.heap.size F2 ∧ Below w1.heap.size W w') := fun W hB => hB.recov (HOR.out false x3 HP3.out) (by omega)
                obtain ⟨hc7, hp7⟩ := HRP.out false x3 HF3.out HP3.out
                have HP7 := hide3 hp7
                clear hp7
                generalize recA x3 = R3 at *
                obtain ⟨c7, y7⟩ := R3
                simp only at HRC hc7
                generalize hkk : 2097160 + i * 1048600 + 1 + 1 + 1048579 = kz at *
                have HKZ : Hid (kz ≤ 2097160 + (i + 1) * 1048600) := by unfold Hid; omega
                clear hkk
                rcases hc7 with rfl | rfl
                all_goals
                  go_wp2_with (first
                    | (go_at_call 17; have _t := HX8; refine (HRC.out _ HT8.out).mono ?_; rintro f9 w9 ⟨rfl, ht9, hb9⟩; have HT9 := hide3 ht9; have HX9 := hide3 (HX8.out.trans hb9); clear ht9 hb9)
                    | (go_at_call 10; have _t := HX7; refine (HCT.out _ HT7.out).mono ?_; rintro f8 w8 ⟨rfl, ht8, hb8⟩; have HT8 := hide3 ht8; have HX8 := hide3 (HX7.out.trans hb8); clear ht8 hb8)
                    | (go_at_call 15; refine HUP.out.mono ?_; rintro f7 w7 ⟨rfl, ht7, hb7⟩; have HT7 := hide3 ht7; have HX7 := hide3 (HXR.out.trans hb7); have q7 := HCE.out w7 (HB1.out.trans (HX7.out.mono HB1.out.size)); clear ht7 hb7))
                  exact ⟨⟨i + 1, by omega, Or.inl (by omega), by go_num, HX9.out, y7, HT9.out.more HKZ.out, HP7.out⟩, by simp [intOf]; omega⟩
              · have hzd : decide (0 ≤ z) = false := decide_eq_false hz0
                have HRC : Hid (∀ W, PkA w1.heap.size W d1 x2 m (2097160 + i * 1048600 + 1) r1 F1 w2.heap.size F2 → Calls Tryz.prog 17 #[.pointer (some ⟨d1, 0, none⟩)] W fun e' w' => e' = .returned (.int .i64 (recA x2).1) ∧ PkA w1.heap.size w' d1 (recA x2).2 m (2097160 + i * 1048600 + 1 + 1048579) r1 F1 w2.heap.size F2 ∧ Below w1.heap.size W w') := fun W hB => hB.recov (HOR.out false x2 HP2.out) (by omega)
                obtain ⟨hc7, hp7⟩ := HRP.out false x2 HF2.out HP2.out
                have HP7 := hide3 hp7
                clear hp7
                generalize recA x2 = R3 at *
                obtain ⟨c7, y7⟩ := R3
                simp only at HRC hc7
                generalize hkk : 2097160 + i * 1048600 + 1 + 1048579 = kz at *
                have HKZ : Hid (kz ≤ 2097160 + (i + 1) * 1048600) := by unfold Hid; omega
                clear hkk
                rcases hc7 with rfl | rfl
                all_goals
                  go_wp2_with (first
                    | (go_at_call 17; have _t := HX7; refine (HRC.out _ HT7.out).mono ?_; rintro f9 w9 ⟨rfl, ht9, hb9⟩; have HT9 := hide3 ht9; have HX9 := hide3 (HX7.out.trans hb9); clear ht9 hb9)
                    | (go_at_call 15; refine HUP.out.mono ?_; rintro f7 w7 ⟨rfl, ht7, hb7⟩; have HT7 := hide3 ht7; have HX7 := hide3 (HXR.out.trans hb7); have q7 := HCE.out w7 (HB1.out.trans (HX7.out.mono HB1.out.size)); clear ht7 hb7))
                  exact ⟨⟨i + 1, by omega, Or.inl (by omega), by go_num, HX9.out, y7, HT9.out.more HKZ.out, HP7.out⟩, by simp [intOf]; omega⟩
            · have hlti : ¬ ((i : Int) < (cs.length : Int)) := by omega
              have HRC : Hid (∀ W, PkA w1.heap.size W d1 x2 m (2097160 + i * 1048600 + 1) r1 F1 w2.heap.size F2 → Calls Tryz.prog 17 #[.pointer (some ⟨d1, 0, none⟩)] W fun e' w' => e' = .returned (.int .i64 (recA x2).1) ∧ PkA w1.heap.size w' d1 (recA x2).2 m (2097160 + i * 1048600 + 1 + 1048579) r1 F1 w2.heap.size F2 ∧ Below w1.heap.size W w') := fun W hB => hB.recov (HOR.out false x2 HP2.out) (by omega)
              obtain ⟨hc7, hfl7, hk7⟩ := HLP.out false x2 HF2.out hlx HP2.out
              rw [if_neg (by decide)] at hfl7
              generalize recA x2 = R3 at *
              obtain ⟨c7, y7⟩ := R3
              simp only at HRC hc7 hfl7 hk7
              subst hc7
              generalize hkk : 2097160 + i * 1048600 + 1 + 1048579 = kz at *
              have HKZ : Hid (kz ≤ 2199023255552) := by unfold Hid; omega
              clear hkk
              have HKJ : Hid (∀ W, PkA w1.heap.size W d1 y7 m kz r1 F1 w2.heap.size F2 → Calls Tryz.prog 22 #[.pointer (some ⟨d1, 0, none⟩), .string ⟨#[47, 106, 111, 117, 114, 110, 97, 108]⟩] W fun e' w' => e' = .returned (.int .i64 0) ∧ PkA w1.heap.size w' d1 y7 m kz r1 F1 w2.heap.size F2 ∧ Below W.heap.size W w') := fun W hB => by
                have := hB.pk.kind jn (by decide)
                rw [hk7] at this
                exact this.mono fun _ _ q => ⟨q.1, hB.below q.2, q.2⟩
              have HALL : Hid (∀ W, PkA w1.heap.size W d1 y7 m kz r1 F1 w2.heap.size F2 → F1.length ≤ 2199023255552 ∧ Calls Tryz.prog 24 #[.pointer (some ⟨d1, 0, none⟩)] W fun e' w' => ∃ ao cp, e' = .returned (.slice ao F1.length cp) ∧ w'.ownsRow W.heap.size 83 3 (.slice ao F1.length cp) F1.length (fileCells F1) ∧ Below W.heap.size W w') := fun W hB => by
                have h1 := hB.pk.all HKZ.out
                have h2 : (filesD y7.D).length ≤ 2199023255552 := by
                  obtain ⟨_, _, _, h3, _⟩ := hB
                  exact Nat.le_trans (files_facts h3.disk.own).2.1 (Nat.le_trans h3.lf HKZ.out)
                rw [hfl7] at h1 h2
                exact ⟨h2, h1⟩
              clear hfl7 hk7 hlx HP2 HPX
              go_wp2_with (first
                | (go_at_call 22; have _t := HX8; refine (HKJ.out _ HT8.out).mono ?_; rintro f9 w9 ⟨rfl, ht9, hb9⟩; have HT9 := hide3 ht9; have HX9 := hide3 (HX8.out.trans (hb9.mono HX8.out.size)); clear ht9 hb9)
                | (go_at_call 17; have _t := HX7; refine (HRC.out _ HT7.out).mono ?_; rintro f8 w8 ⟨rfl, ht8, hb8⟩; have HT8 := hide3 ht8; have HX8 := hide3 (HX7.out.trans hb8); clear ht8 hb8)
                | (go_at_call 15; refine HUP.out.mono ?_; rintro f7 w7 ⟨rfl, ht7, hb7⟩; have HT7 := hide3 ht7; have HX7 := hide3 (HXR.out.trans hb7); clear ht7 hb7))
              obtain ⟨lo1, lc1, b1, hk1, hr1⟩ := HT9.out.old
              have HK1 := hide3 hk1
              have HR1 := hide3 hr1
              clear hk1 hr1
              obtain ⟨hgl, hal⟩ := HALL.out w9.drew (HT9.out.below (Below.refl _ _).drew)
              have HGL := hide3 hgl
              have HAL := hide3 hal
              clear hgl hal
              have q0 := HK1.out w9 (Below.refl _ _)
              go_region_held3 (fun w' => w'.cell? ⟨r1, 0, none⟩ = some (.slice lo1 F1.length lc1)) (go_keep)
                (first
                  | (go_at_call 24; refine HAL.out.mono ?_; rintro f10 w10 ⟨ao10, cp10, rfl, hr10, hb10⟩; have HBX := hide3 ((Below.refl _ w9).drew.trans hb10); have q1 := HK1.out _ HBX.out; have HRW := hide3 hr10; clear hb10 hr10)
                  | (go_at_call 23; refine (files_any F1 HGL.out HRW.out (HR1.out _ HBX.out)).mono ?_; rintro f11 w11 ⟨rfl, q, rfl⟩; have HBY := hide3 (below_draws18 HBX.out q); have q2 := HK1.out _ HBY.out))
              have HTX := hide3 (HT9.out.below HBY.out)
              have HXX := hide3 (HX9.out.trans (HBY.out.mono HX9.out.size))
              clear HBX HRW HAL q0 q1 q2 HK1 HR1
              generalize w10.drewN q = WX at *
              go_wp2_with (go_at_call 9; refine (HLV.out _ (HB1.out.trans (HXX.out.mono HB1.out.size))).mono ?_; rintro f12 w12 ⟨rfl, hb12⟩; have HX12 := hide3 (HXX.out.trans (hb12.mono HXX.out.size)); clear hb12)
              go_ret
              exact ⟨rfl, HB1.out.trans (HX12.out.mono HB1.out.size)⟩
        · clear hz
          go_enter Tryz.func5, Tryz.ntmps5
          go_wp2_with (first
            | (go_at_call 21; have _t := HX5; refine (HRAW.out _ _ _ _ _ _ HT5.out).mono ?_; rintro f6 w6 ⟨ao6, cp6, rfl, ht6, hb6⟩; have HT6 := hide3 ht6; have HX6 := hide3 (HX5.out.trans (hb6.mono HX5.out.size)); clear ht6 hb6)
            | (go_at_call 12; have _t := HX3; refine (HCM.out _ _ _ _ _ _ _ HD1.out HX3.out (HT3.out.more (Nat.le_succ _))).mono ?_; rintro f5 w5 ⟨rfl, ht5, hb5⟩; have HT5 := hide3 ht5; have HX5 := hide3 (HX3.out.trans hb5); clear ht5 hb5)
            | (go_at_call 20; have _t := HX2; refine (HLG.out _ _ _ _ (HB1.out.trans (HX2.out.mono HB1.out.size)) HT2.out).mono ?_; rintro f3 w3 ⟨rfl, ht3, hb3⟩; have HT3 := hide3 ht3; have HX3 := hide3 (HX2.out.trans (hb3.mono HX2.out.size)); clear ht3 hb3)
            | (go_at_call 8; have _t := HB1; refine (HDK.out _ HB1.out).mono ?_; rintro f2 w2 ⟨d1, r1, rfl, ht2, hb2⟩; have HT2 := hide3 ht2; have HX2 := hide3 hb2; clear ht2 hb2)
            | (go_at_call 19; refine HDE.out.mono ?_; rintro f1 w1 ⟨a3, c3, rfl, hd1, hb1⟩; have HD1 := hide3 hd1; have HB1 := hide3 hb1; clear hd1 hb1))
          clear HCM HRAW HDE HDK HLG
          go_loopw [16] (fun v16 wr => ∃ i : Nat, 1 ≤ i ∧ (i ≤ cs.length ∨ i = 1) ∧ v16 = .int .i64 i ∧ Below w1.heap.size w1 wr ∧ ∃ x, PkA w1.heap.size wr d1 x m (2097160 + i * 1048600) r1 F1 w2.heap.size F2 ∧ Ph D0 l false x.D) (fun v16 _ => cs.length + 1 - (intOf v16).toNat)
          case atStart => exact ⟨1, Nat.le_refl _, Or.inr rfl, rfl, HX6.out, y1, HT6.out.more (by omega), HPH.out⟩
          case round =>
            obtain ⟨i, hi1, hi2, rfl, hxr, x, htx, hpx⟩ := hrel
            have HXR := hide3 hxr
            have HPX := hide3 hpx
            have HUP := hide3 htx.up
            have HF2 : Hid (Fine ({ x with left := -1 } : Ab)) := left_fine htx.fine (by decide) (by decide)
            have HP2 : Hid (Ph D0 l false ({ x with left := -1 } : Ab).D) := hpx
            have hlx : ({ x with left := -1 } : Ab).left = -1 := rfl
            clear hxr hpx htx HX6 HT6
            generalize ({ x with left := -1 } : Ab) = x2 at *
            by_cases hlt : i < cs.length
            · obtain ⟨g, off, hgo, hg, hcs⟩ : ∃ g off, ac = some ⟨g, off, none⟩ ∧ g < w.heap.size ∧ ∀ j (hj : j < cs.length), w.cell? ⟨g, off + j, none⟩ = some (.int .i64 cs[j]) := by
                rcases HIN.out w (Below.refl _ _) with q | q
                · rw [q] at hlt; exact absurd hlt (Nat.not_lt_zero _)
                · exact q
              cases hgo
              have HCE : Hid (∀ W, Below w.heap.size w W → W.cell? ⟨g, off + i, none⟩ = some (.int .i64 cs[i])) := fun W hb => (hb.cell (p := ⟨g, off + i, none⟩) hg).trans (hcs i hlt)
              have HZI : Hid (cs[i] ≤ 9223372036854775807) := HCI.out _ (List.getElem_mem hlt)
              have hlti : (i : Int) < (cs.length : Int) := by omega
              have hi0 : (0 : Int) ≤ (i : Int) := by omega
              clear hcs hg
              generalize cs[i] = z at *
              by_cases hz0 : 0 ≤ z
              · have hzd : decide (0 ≤ z) = true := decide_eq_true hz0
                have HP3 : Hid (Ph D0 l false ({ x2 with left := cutL x2.left z } : Ab).D) := HP2.out
                have HF3 : Hid (Fine ({ x2 with left := cutL x2.left z } : Ab)) := left_fine HF2.out (cut_bd HF2.out.lo HF2.out.hi HZI.out).1 (cut_bd HF2.out.lo HF2.out.hi HZI.out).2
                have HCT : Hid (∀ W, PkA w1.heap.size W d1 x2 m (2097160 + i * 1048600 + 1) r1 F1 w2.heap.size F2 → Calls Tryz.prog 10 #[.pointer (some ⟨d1, 0, none⟩), .int .i64 z] W fun e' w' => e' = .returned (.int .i64 (cutE x2.left z)) ∧ PkA w1.heap.size w' d1 { x2 with left := cutL x2.left z } m (2097160 + i * 1048600 + 1 + 1) r1 F1 w2.heap.size F2 ∧ Below w1.heap.size W w') := fun W hB => hB.cut z HZI.out
                generalize ({ x2 with left := cutL x2.left z } : Ab) = x3 at *
                generalize cutE x2.left z = ce at *
                have HRC : Hid (∀ W, PkA w1.heap.size W d1 x3 m (2097160 + i * 1048600 + 1 + 1) r1 F1 w2.heap.size F2 → Calls Tryz.prog 17 #[.pointer (some ⟨d1, 0, none⟩)] W fun e' w' => e' = .returned (.int .i64 (recA x3).1) ∧ PkA w1.heap.size w' d1 (recA x3).2 m (2097160 + i * 1048600 + 1 + 1 + 1048579) r1 F1 w2.heap.size F2 ∧ Below w1.heap.size W w') := fun W hB => hB.recov (HOR.out false x3 HP3.out) (by omega)
                obtain ⟨hc7, hp7⟩ := HRP.out false x3 HF3.out HP3.out
                have HP7 := hide3 hp7
                clear hp7
                generalize recA x3 = R3 at *
                obtain ⟨c7, y7⟩ := R3
                simp only at HRC hc7
                generalize hkk : 2097160 + i * 1048600 + 1 + 1 + 1048579 = kz at *
                have HKZ : Hid (kz ≤ 2097160 + (i + 1) * 1048600) := by unfold Hid; omega
                clear hkk
                rcases hc7 with rfl | rfl
                all_goals
                  go_wp2_with (first
                    | (go_at_call 17; have _t := HX8; refine (HRC.out _ HT8.out).mono ?_; rintro f9 w9 ⟨rfl, ht9, hb9⟩; have HT9 := hide3 ht9; have HX9 := hide3 (HX8.out.trans hb9); clear ht9 hb9)
                    | (go_at_call 10; have _t := HX7; refine (HCT.out _ HT7.out).mono ?_; rintro f8 w8 ⟨rfl, ht8, hb8⟩; have HT8 := hide3 ht8; have HX8 := hide3 (HX7.out.trans hb8); clear ht8 hb8)
                    | (go_at_call 15; refine HUP.out.mono ?_; rintro f7 w7 ⟨rfl, ht7, hb7⟩; have HT7 := hide3 ht7; have HX7 := hide3 (HXR.out.trans hb7); have q7 := HCE.out w7 (HB1.out.trans (HX7.out.mono HB1.out.size)); clear ht7 hb7))
                  exact ⟨⟨i + 1, by omega, Or.inl (by omega), by go_num, HX9.out, y7, HT9.out.more HKZ.out, HP7.out⟩, by simp [intOf]; omega⟩
              · have hzd : decide (0 ≤ z) = false := decide_eq_false hz0
                have HRC : Hid (∀ W, PkA w1.heap.size W d1 x2 m (2097160 + i * 1048600 + 1) r1 F1 w2.heap.size F2 → Calls Tryz.prog 17 #[.pointer (some ⟨d1, 0, none⟩)] W fun e' w' => e' = .returned (.int .i64 (recA x2).1) ∧ PkA w1.heap.size w' d1 (recA x2).2 m (2097160 + i * 1048600 + 1 + 1048579) r1 F1 w2.heap.size F2 ∧ Below w1.heap.size W w') := fun W hB => hB.recov (HOR.out false x2 HP2.out) (by omega)
                obtain ⟨hc7, hp7⟩ := HRP.out false x2 HF2.out HP2.out
                have HP7 := hide3 hp7
                clear hp7
                generalize recA x2 = R3 at *
                obtain ⟨c7, y7⟩ := R3
                simp only at HRC hc7
                generalize hkk : 2097160 + i * 1048600 + 1 + 1048579 = kz at *
                have HKZ : Hid (kz ≤ 2097160 + (i + 1) * 1048600) := by unfold Hid; omega
                clear hkk
                rcases hc7 with rfl | rfl
                all_goals
                  go_wp2_with (first
                    | (go_at_call 17; have _t := HX7; refine (HRC.out _ HT7.out).mono ?_; rintro f9 w9 ⟨rfl, ht9, hb9⟩; have HT9 := hide3 ht9; have HX9 := hide3 (HX7.out.trans hb9); clear ht9 hb9)
                    | (go_at_call 15; refine HUP.out.mono ?_; rintro f7 w7 ⟨rfl, ht7, hb7⟩; have HT7 := hide3 ht7; have HX7 := hide3 (HXR.out.trans hb7); have q7 := HCE.out w7 (HB1.out.trans (HX7.out.mono HB1.out.size)); clear ht7 hb7))
                  exact ⟨⟨i + 1, by omega, Or.inl (by omega), by go_num, HX9.out, y7, HT9.out.more HKZ.out, HP7.out⟩, by simp [intOf]; omega⟩
            · have hlti : ¬ ((i : Int) < (cs.length : Int)) := by omega
              have HRC : Hid (∀ W, PkA w1.heap.size W d1 x2 m (2097160 + i * 1048600 + 1) r1 F1 w2.heap.size F2 → Calls Tryz.prog 17 #[.pointer (some ⟨d1, 0, none⟩)] W fun e' w' => e' = .returned (.int .i64 (recA x2).1) ∧ PkA w1.heap.size w' d1 (recA x2).2 m (2097160 + i * 1048600 + 1 + 1048579) r1 F1 w2.heap.size F2 ∧ Below w1.heap.size W w') := fun W hB => hB.recov (HOR.out false x2 HP2.out) (by omega)
              obtain ⟨hc7, hfl7, hk7⟩ := HLP.out false x2 HF2.out hlx HP2.out
              rw [if_neg (by decide)] at hfl7
              generalize recA x2 = R3 at *
              obtain ⟨c7, y7⟩ := R3
              simp only at HRC hc7 hfl7 hk7
              subst hc7
              generalize hkk : 2097160 + i * 1048600 + 1 + 1048579 = kz at *
              have HKZ : Hid (kz ≤ 2199023255552) := by unfold Hid; omega
              clear hkk
              have HKJ : Hid (∀ W, PkA w1.heap.size W d1 y7 m kz r1 F1 w2.heap.size F2 → Calls Tryz.prog 22 #[.pointer (some ⟨d1, 0, none⟩), .string ⟨#[47, 106, 111, 117, 114, 110, 97, 108]⟩] W fun e' w' => e' = .returned (.int .i64 0) ∧ PkA w1.heap.size w' d1 y7 m kz r1 F1 w2.heap.size F2 ∧ Below W.heap.size W w') := fun W hB => by
                have := hB.pk.kind jn (by decide)
                rw [hk7] at this
                exact this.mono fun _ _ q => ⟨q.1, hB.below q.2, q.2⟩
              have HALL : Hid (∀ W, PkA w1.heap.size W d1 y7 m kz r1 F1 w2.heap.size F2 → F1.length ≤ 2199023255552 ∧ Calls Tryz.prog 24 #[.pointer (some ⟨d1, 0, none⟩)] W fun e' w' => ∃ ao cp, e' = .returned (.slice ao F1.length cp) ∧ w'.ownsRow W.heap.size 83 3 (.slice ao F1.length cp) F1.length (fileCells F1) ∧ Below W.heap.size W w') := fun W hB => by
                have h1 := hB.pk.all HKZ.out
                have h2 : (filesD y7.D).length ≤ 2199023255552 := by
                  obtain ⟨_, _, _, h3, _⟩ := hB
                  exact Nat.le_trans (files_facts h3.disk.own).2.1 (Nat.le_trans h3.lf HKZ.out)
                rw [hfl7] at h1 h2
                exact ⟨h2, h1⟩
              clear hfl7 hk7 hlx HP2 HPX
              go_wp2_with (first
                | (go_at_call 22; have _t := HX8; refine (HKJ.out _ HT8.out).mono ?_; rintro f9 w9 ⟨rfl, ht9, hb9⟩; have HT9 := hide3 ht9; have HX9 := hide3 (HX8.out.trans (hb9.mono HX8.out.size)); clear ht9 hb9)
                | (go_at_call 17; have _t := HX7; refine (HRC.out _ HT7.out).mono ?_; rintro f8 w8 ⟨rfl, ht8, hb8⟩; have HT8 := hide3 ht8; have HX8 := hide3 (HX7.out.trans hb8); clear ht8 hb8)
                | (go_at_call 15; refine HUP.out.mono ?_; rintro f7 w7 ⟨rfl, ht7, hb7⟩; have HT7 := hide3 ht7; have HX7 := hide3 (HXR.out.trans hb7); clear ht7 hb7))
              obtain ⟨lo1, lc1, b1, hk1, hr1⟩ := HT9.out.old
              have HK1 := hide3 hk1
              have HR1 := hide3 hr1
              clear hk1 hr1
              obtain ⟨hgl, hal⟩ := HALL.out w9.drew (HT9.out.below (Below.refl _ _).drew)
              have HGL := hide3 hgl
              have HAL := hide3 hal
              clear hgl hal
              have q0 := HK1.out w9 (Below.refl _ _)
              go_region_held3 (fun w' => w'.cell? ⟨r1, 0, none⟩ = some (.slice lo1 F1.length lc1)) (go_keep)
                (first
                  | (go_at_call 24; refine HAL.out.mono ?_; rintro f10 w10 ⟨ao10, cp10, rfl, hr10, hb10⟩; have HBX := hide3 ((Below.refl _ w9).drew.trans hb10); have q1 := HK1.out _ HBX.out; have HRW := hide3 hr10; clear hb10 hr10)
                  | (go_at_call 23; refine (files_any F1 HGL.out HRW.out (HR1.out _ HBX.out)).mono ?_; rintro f11 w11 ⟨rfl, q, rfl⟩; have HBY := hide3 (below_draws18 HBX.out q); have q2 := HK1.out _ HBY.out))
              have HTX := hide3 (HT9.out.below HBY.out)
              have HXX := hide3 (HX9.out.trans (HBY.out.mono HX9.out.size))
              clear HBX HRW HAL q0 q1 q2 HK1 HR1
              generalize w10.drewN q = WX at *
              go_wp2_with (go_at_call 9; refine (HLV.out _ (HB1.out.trans (HXX.out.mono HB1.out.size))).mono ?_; rintro f12 w12 ⟨rfl, hb12⟩; have HX12 := hide3 (HXX.out.trans (hb12.mono HXX.out.size)); clear hb12)
              go_ret
              exact ⟨rfl, HB1.out.trans (HX12.out.mono HB1.out.size)⟩
      · have HPH := hide3 hph
        have hn3 : decide (3 ≤ (y1.rs.length : Int)) = true := decide_eq_true (by omega)
        have hn4 : decide (3 ≤ y1.rs.length) = true := decide_eq_true hn
        clear hph hn
        rcases hc1 with rfl | rfl
        · skip
          go_enter Tryz.func5, Tryz.ntmps5
          go_wp2_with (first
            | (go_at_call 21; have _t := HX5; refine (HRAW.out _ _ _ _ _ _ HT5.out).mono ?_; rintro f6 w6 ⟨ao6, cp6, rfl, ht6, hb6⟩; have HT6 := hide3 ht6; have HX6 := hide3 (HX5.out.trans (hb6.mono HX5.out.size)); clear ht6 hb6)
            | (go_at_call 12; have _t := HX3; refine (HCM.out _ _ _ _ _ _ _ HD1.out HX3.out (HT3.out.more (Nat.le_succ _))).mono ?_; rintro f5 w5 ⟨rfl, ht5, hb5⟩; have HT5 := hide3 ht5; have HX5 := hide3 (HX3.out.trans hb5); clear ht5 hb5)
            | (go_at_call 20; have _t := HX2; refine (HLG.out _ _ _ _ (HB1.out.trans (HX2.out.mono HB1.out.size)) HT2.out).mono ?_; rintro f3 w3 ⟨rfl, ht3, hb3⟩; have HT3 := hide3 ht3; have HX3 := hide3 (HX2.out.trans (hb3.mono HX2.out.size)); clear ht3 hb3)
            | (go_at_call 8; have _t := HB1; refine (HDK.out _ HB1.out).mono ?_; rintro f2 w2 ⟨d1, r1, rfl, ht2, hb2⟩; have HT2 := hide3 ht2; have HX2 := hide3 hb2; clear ht2 hb2)
            | (go_at_call 19; refine HDE.out.mono ?_; rintro f1 w1 ⟨a3, c3, rfl, hd1, hb1⟩; have HD1 := hide3 hd1; have HB1 := hide3 hb1; clear hd1 hb1))
          clear HCM HRAW HDE HDK HLG
          go_loopw [16] (fun v16 wr => ∃ i : Nat, 1 ≤ i ∧ (i ≤ cs.length ∨ i = 1) ∧ v16 = .int .i64 i ∧ Below w1.heap.size w1 wr ∧ ∃ x, PkA w1.heap.size wr d1 x m (2097160 + i * 1048600) r1 F1 w2.heap.size F2 ∧ Ph D0 l true x.D) (fun v16 _ => cs.length + 1 - (intOf v16).toNat)
          case atStart => exact ⟨1, Nat.le_refl _, Or.inr rfl, rfl, HX6.out, y1, HT6.out.more (by omega), HPH.out⟩
          case round =>
            obtain ⟨i, hi1, hi2, rfl, hxr, x, htx, hpx⟩ := hrel
            have HXR := hide3 hxr
            have HPX := hide3 hpx
            have HUP := hide3 htx.up
            have HF2 : Hid (Fine ({ x with left := -1 } : Ab)) := left_fine htx.fine (by decide) (by decide)
            have HP2 : Hid (Ph D0 l true ({ x with left := -1 } : Ab).D) := hpx
            have hlx : ({ x with left := -1 } : Ab).left = -1 := rfl
            clear hxr hpx htx HX6 HT6
            generalize ({ x with left := -1 } : Ab) = x2 at *
            by_cases hlt : i < cs.length
            · obtain ⟨g, off, hgo, hg, hcs⟩ : ∃ g off, ac = some ⟨g, off, none⟩ ∧ g < w.heap.size ∧ ∀ j (hj : j < cs.length), w.cell? ⟨g, off + j, none⟩ = some (.int .i64 cs[j]) := by
                rcases HIN.out w (Below.refl _ _) with q | q
                · rw [q] at hlt; exact absurd hlt (Nat.not_lt_zero _)
                · exact q
              cases hgo
              have HCE : Hid (∀ W, Below w.heap.size w W → W.cell? ⟨g, off + i, none⟩ = some (.int .i64 cs[i])) := fun W hb => (hb.cell (p := ⟨g, off + i, none⟩) hg).trans (hcs i hlt)
              have HZI : Hid (cs[i] ≤ 9223372036854775807) := HCI.out _ (List.getElem_mem hlt)
              have hlti : (i : Int) < (cs.length : Int) := by omega
              have hi0 : (0 : Int) ≤ (i : Int) := by omega
              clear hcs hg
              generalize cs[i] = z at *
              by_cases hz0 : 0 ≤ z
              · have hzd : decide (0 ≤ z) = true := decide_eq_true hz0
                have HP3 : Hid (Ph D0 l true ({ x2 with left := cutL x2.left z } : Ab).D) := HP2.out
                have HF3 : Hid (Fine ({ x2 with left := cutL x2.left z } : Ab)) := left_fine HF2.out (cut_bd HF2.out.lo HF2.out.hi HZI.out).1 (cut_bd HF2.out.lo HF2.out.hi HZI.out).2
                have HCT : Hid (∀ W, PkA w1.heap.size W d1 x2 m (2097160 + i * 1048600 + 1) r1 F1 w2.heap.size F2 → Calls Tryz.prog 10 #[.pointer (some ⟨d1, 0, none⟩), .int .i64 z] W fun e' w' => e' = .returned (.int .i64 (cutE x2.left z)) ∧ PkA w1.heap.size w' d1 { x2 with left := cutL x2.left z } m (2097160 + i * 1048600 + 1 + 1) r1 F1 w2.heap.size F2 ∧ Below w1.heap.size W w') := fun W hB => hB.cut z HZI.out
                generalize ({ x2 with left := cutL x2.left z } : Ab) = x3 at *
                generalize cutE x2.left z = ce at *
                have HRC : Hid (∀ W, PkA w1.heap.size W d1 x3 m (2097160 + i * 1048600 + 1 + 1) r1 F1 w2.heap.size F2 → Calls Tryz.prog 17 #[.pointer (some ⟨d1, 0, none⟩)] W fun e' w' => e' = .returned (.int .i64 (recA x3).1) ∧ PkA w1.heap.size w' d1 (recA x3).2 m (2097160 + i * 1048600 + 1 + 1 + 1048579) r1 F1 w2.heap.size F2 ∧ Below w1.heap.size W w') := fun W hB => hB.recov (HOR.out true x3 HP3.out) (by omega)
                obtain ⟨hc7, hp7⟩ := HRP.out true x3 HF3.out HP3.out
                have HP7 := hide3 hp7
                clear hp7
                generalize recA x3 = R3 at *
                obtain ⟨c7, y7⟩ := R3
                simp only at HRC hc7
                generalize hkk : 2097160 + i * 1048600 + 1 + 1 + 1048579 = kz at *
                have HKZ : Hid (kz ≤ 2097160 + (i + 1) * 1048600) := by unfold Hid; omega
                clear hkk
                rcases hc7 with rfl | rfl
                all_goals
                  go_wp2_with (first
                    | (go_at_call 17; have _t := HX8; refine (HRC.out _ HT8.out).mono ?_; rintro f9 w9 ⟨rfl, ht9, hb9⟩; have HT9 := hide3 ht9; have HX9 := hide3 (HX8.out.trans hb9); clear ht9 hb9)
                    | (go_at_call 10; have _t := HX7; refine (HCT.out _ HT7.out).mono ?_; rintro f8 w8 ⟨rfl, ht8, hb8⟩; have HT8 := hide3 ht8; have HX8 := hide3 (HX7.out.trans hb8); clear ht8 hb8)
                    | (go_at_call 15; refine HUP.out.mono ?_; rintro f7 w7 ⟨rfl, ht7, hb7⟩; have HT7 := hide3 ht7; have HX7 := hide3 (HXR.out.trans hb7); have q7 := HCE.out w7 (HB1.out.trans (HX7.out.mono HB1.out.size)); clear ht7 hb7))
                  exact ⟨⟨i + 1, by omega, Or.inl (by omega), by go_num, HX9.out, y7, HT9.out.more HKZ.out, HP7.out⟩, by simp [intOf]; omega⟩
              · have hzd : decide (0 ≤ z) = false := decide_eq_false hz0
                have HRC : Hid (∀ W, PkA w1.heap.size W d1 x2 m (2097160 + i * 1048600 + 1) r1 F1 w2.heap.size F2 → Calls Tryz.prog 17 #[.pointer (some ⟨d1, 0, none⟩)] W fun e' w' => e' = .returned (.int .i64 (recA x2).1) ∧ PkA w1.heap.size w' d1 (recA x2).2 m (2097160 + i * 1048600 + 1 + 1048579) r1 F1 w2.heap.size F2 ∧ Below w1.heap.size W w') := fun W hB => hB.recov (HOR.out true x2 HP2.out) (by omega)
                obtain ⟨hc7, hp7⟩ := HRP.out true x2 HF2.out HP2.out
                have HP7 := hide3 hp7
                clear hp7
                generalize recA x2 = R3 at *
                obtain ⟨c7, y7⟩ := R3
                simp only at HRC hc7
                generalize hkk : 2097160 + i * 1048600 + 1 + 1048579 = kz at *
                have HKZ : Hid (kz ≤ 2097160 + (i + 1) * 1048600) := by unfold Hid; omega
                clear hkk
                rcases hc7 with rfl | rfl
                all_goals
                  go_wp2_with (first
                    | (go_at_call 17; have _t := HX7; refine (HRC.out _ HT7.out).mono ?_; rintro f9 w9 ⟨rfl, ht9, hb9⟩; have HT9 := hide3 ht9; have HX9 := hide3 (HX7.out.trans hb9); clear ht9 hb9)
                    | (go_at_call 15; refine HUP.out.mono ?_; rintro f7 w7 ⟨rfl, ht7, hb7⟩; have HT7 := hide3 ht7; have HX7 := hide3 (HXR.out.trans hb7); have q7 := HCE.out w7 (HB1.out.trans (HX7.out.mono HB1.out.size)); clear ht7 hb7))
                  exact ⟨⟨i + 1, by omega, Or.inl (by omega), by go_num, HX9.out, y7, HT9.out.more HKZ.out, HP7.out⟩, by simp [intOf]; omega⟩
            · have hlti : ¬ ((i : Int) < (cs.length : Int)) := by omega
              have HRC : Hid (∀ W, PkA w1.heap.size W d1 x2 m (2097160 + i * 1048600 + 1) r1 F1 w2.heap.size F2 → Calls Tryz.prog 17 #[.pointer (some ⟨d1, 0, none⟩)] W fun e' w' => e' = .returned (.int .i64 (recA x2).1) ∧ PkA w1.heap.size w' d1 (recA x2).2 m (2097160 + i * 1048600 + 1 + 1048579) r1 F1 w2.heap.size F2 ∧ Below w1.heap.size W w') := fun W hB => hB.recov (HOR.out true x2 HP2.out) (by omega)
              obtain ⟨hc7, hfl7, hk7⟩ := HLP.out true x2 HF2.out hlx HP2.out
              rw [if_pos rfl] at hfl7
              generalize recA x2 = R3 at *
              obtain ⟨c7, y7⟩ := R3
              simp only at HRC hc7 hfl7 hk7
              subst hc7
              generalize hkk : 2097160 + i * 1048600 + 1 + 1048579 = kz at *
              have HKZ : Hid (kz ≤ 2199023255552) := by unfold Hid; omega
              clear hkk
              have HKJ : Hid (∀ W, PkA w1.heap.size W d1 y7 m kz r1 F1 w2.heap.size F2 → Calls Tryz.prog 22 #[.pointer (some ⟨d1, 0, none⟩), .string ⟨#[47, 106, 111, 117, 114, 110, 97, 108]⟩] W fun e' w' => e' = .returned (.int .i64 0) ∧ PkA w1.heap.size w' d1 y7 m kz r1 F1 w2.heap.size F2 ∧ Below W.heap.size W w') := fun W hB => by
                have := hB.pk.kind jn (by decide)
                rw [hk7] at this
                exact this.mono fun _ _ q => ⟨q.1, hB.below q.2, q.2⟩
              have HALL : Hid (∀ W, PkA w1.heap.size W d1 y7 m kz r1 F1 w2.heap.size F2 → F2.length ≤ 2199023255552 ∧ Calls Tryz.prog 24 #[.pointer (some ⟨d1, 0, none⟩)] W fun e' w' => ∃ ao cp, e' = .returned (.slice ao F2.length cp) ∧ w'.ownsRow W.heap.size 83 3 (.slice ao F2.length cp) F2.length (fileCells F2) ∧ Below W.heap.size W w') := fun W hB => by
                have h1 := hB.pk.all HKZ.out
                have h2 : (filesD y7.D).length ≤ 2199023255552 := by
                  obtain ⟨_, _, _, h3, _⟩ := hB
                  exact Nat.le_trans (files_facts h3.disk.own).2.1 (Nat.le_trans h3.lf HKZ.out)
                rw [hfl7] at h1 h2
                exact ⟨h2, h1⟩
              clear hfl7 hk7 hlx HP2 HPX
              go_wp2_with (first
                | (go_at_call 22; have _t := HX8; refine (HKJ.out _ HT8.out).mono ?_; rintro f9 w9 ⟨rfl, ht9, hb9⟩; have HT9 := hide3 ht9; have HX9 := hide3 (HX8.out.trans (hb9.mono HX8.out.size)); clear ht9 hb9)
                | (go_at_call 17; have _t := HX7; refine (HRC.out _ HT7.out).mono ?_; rintro f8 w8 ⟨rfl, ht8, hb8⟩; have HT8 := hide3 ht8; have HX8 := hide3 (HX7.out.trans hb8); clear ht8 hb8)
                | (go_at_call 15; refine HUP.out.mono ?_; rintro f7 w7 ⟨rfl, ht7, hb7⟩; have HT7 := hide3 ht7; have HX7 := hide3 (HXR.out.trans hb7); clear ht7 hb7))
              obtain ⟨lo1, lc1, b1, hk1, hr1⟩ := HT9.out.old
              have HK1 := hide3 hk1
              have HR1 := hide3 hr1
              clear hk1 hr1
              obtain ⟨hgl, hal⟩ := HALL.out w9.drew (HT9.out.below (Below.refl _ _).drew)
              have HGL := hide3 hgl
              have HAL := hide3 hal
              clear hgl hal
              have q0 := HK1.out w9 (Below.refl _ _)
              go_region_held3 (fun w' => w'.cell? ⟨r1, 0, none⟩ = some (.slice lo1 F1.length lc1)) (go_keep)
                (first
                  | (go_at_call 24; refine HAL.out.mono ?_; rintro f10 w10 ⟨ao10, cp10, rfl, hr10, hb10⟩; have HBX := hide3 ((Below.refl _ w9).drew.trans hb10); have q1 := HK1.out _ HBX.out; have HRW := hide3 hr10; clear hb10 hr10)
                  | (go_at_call 23; refine (files_bool F2 F1 HGL.out HRW.out (HR1.out _ HBX.out)).mono ?_; rintro f11 w11 ⟨⟨bx, rfl⟩, q, rfl⟩; have HBY := hide3 (below_draws18 HBX.out q); have q2 := HK1.out _ HBY.out))
              have HTX := hide3 (HT9.out.below HBY.out)
              have HXX := hide3 (HX9.out.trans (HBY.out.mono HX9.out.size))
              clear HBX HRW HAL q0 q1 q2 HK1 HR1 HBY
              generalize w10.drewN q = WX at *
              go_wp2_with fail
              obtain ⟨lo2, lc2, b2, hk2, hr2⟩ := HTX.out.want
              have HK2 := hide3 hk2
              have HR2 := hide3 hr2
              clear hk2 hr2
              obtain ⟨_, hal2⟩ := HALL.out WX.drew (HTX.out.below (Below.refl _ _).drew)
              have HAL2 := hide3 hal2
              clear hal2
              have q3 := HK2.out WX (Below.refl _ _)
              go_region_held3 (fun w' => w'.cell? ⟨w2.heap.size, 0, none⟩ = some (.slice lo2 F2.length lc2)) (go_keep)
                (first
                  | (go_at_call 24; refine HAL2.out.mono ?_; rintro f12 w12 ⟨ao12, cp12, rfl, hr12, hb12⟩; have HBX := hide3 ((Below.refl _ WX).drew.trans hb12); have q4 := HK2.out _ HBX.out; have HRW := hide3 hr12; clear hb12 hr12)
                  | (go_at_call 23; refine (files_any F2 HGL.out HRW.out (HR2.out _ HBX.out)).mono ?_; rintro f13 w13 ⟨rfl, q9, rfl⟩; have HBY := hide3 (below_draws18 HBX.out q9); have q5 := HK2.out _ HBY.out))
              have HXY := hide3 (HXX.out.trans (HBY.out.mono HXX.out.size))
              clear HBX HRW HAL2 q3 q4 q5 HK2 HR2 HBY
              generalize w12.drewN q9 = WY at *
              go_wp2_with (go_at_call 9; refine (HLV.out _ (HB1.out.trans (HXY.out.mono HB1.out.size))).mono ?_; rintro f14 w14 ⟨rfl, hb14⟩; have HX14 := hide3 (HXY.out.trans (hb14.mono HXY.out.size)); clear hb14)
              go_ret
              exact ⟨rfl, HB1.out.trans (HX14.out.mono HB1.out.size)⟩
        · skip
          go_enter Tryz.func5, Tryz.ntmps5
          go_wp2_with (first
            | (go_at_call 21; have _t := HX5; refine (HRAW.out _ _ _ _ _ _ HT5.out).mono ?_; rintro f6 w6 ⟨ao6, cp6, rfl, ht6, hb6⟩; have HT6 := hide3 ht6; have HX6 := hide3 (HX5.out.trans (hb6.mono HX5.out.size)); clear ht6 hb6)
            | (go_at_call 12; have _t := HX3; refine (HCM.out _ _ _ _ _ _ _ HD1.out HX3.out (HT3.out.more (Nat.le_succ _))).mono ?_; rintro f5 w5 ⟨rfl, ht5, hb5⟩; have HT5 := hide3 ht5; have HX5 := hide3 (HX3.out.trans hb5); clear ht5 hb5)
            | (go_at_call 20; have _t := HX2; refine (HLG.out _ _ _ _ (HB1.out.trans (HX2.out.mono HB1.out.size)) HT2.out).mono ?_; rintro f3 w3 ⟨rfl, ht3, hb3⟩; have HT3 := hide3 ht3; have HX3 := hide3 (HX2.out.trans (hb3.mono HX2.out.size)); clear ht3 hb3)
            | (go_at_call 8; have _t := HB1; refine (HDK.out _ HB1.out).mono ?_; rintro f2 w2 ⟨d1, r1, rfl, ht2, hb2⟩; have HT2 := hide3 ht2; have HX2 := hide3 hb2; clear ht2 hb2)
            | (go_at_call 19; refine HDE.out.mono ?_; rintro f1 w1 ⟨a3, c3, rfl, hd1, hb1⟩; have HD1 := hide3 hd1; have HB1 := hide3 hb1; clear hd1 hb1))
          clear HCM HRAW HDE HDK HLG
          go_loopw [16] (fun v16 wr => ∃ i : Nat, 1 ≤ i ∧ (i ≤ cs.length ∨ i = 1) ∧ v16 = .int .i64 i ∧ Below w1.heap.size w1 wr ∧ ∃ x, PkA w1.heap.size wr d1 x m (2097160 + i * 1048600) r1 F1 w2.heap.size F2 ∧ Ph D0 l true x.D) (fun v16 _ => cs.length + 1 - (intOf v16).toNat)
          case atStart => exact ⟨1, Nat.le_refl _, Or.inr rfl, rfl, HX6.out, y1, HT6.out.more (by omega), HPH.out⟩
          case round =>
            obtain ⟨i, hi1, hi2, rfl, hxr, x, htx, hpx⟩ := hrel
            have HXR := hide3 hxr
            have HPX := hide3 hpx
            have HUP := hide3 htx.up
            have HF2 : Hid (Fine ({ x with left := -1 } : Ab)) := left_fine htx.fine (by decide) (by decide)
            have HP2 : Hid (Ph D0 l true ({ x with left := -1 } : Ab).D) := hpx
            have hlx : ({ x with left := -1 } : Ab).left = -1 := rfl
            clear hxr hpx htx HX6 HT6
            generalize ({ x with left := -1 } : Ab) = x2 at *
            by_cases hlt : i < cs.length
            · obtain ⟨g, off, hgo, hg, hcs⟩ : ∃ g off, ac = some ⟨g, off, none⟩ ∧ g < w.heap.size ∧ ∀ j (hj : j < cs.length), w.cell? ⟨g, off + j, none⟩ = some (.int .i64 cs[j]) := by
                rcases HIN.out w (Below.refl _ _) with q | q
                · rw [q] at hlt; exact absurd hlt (Nat.not_lt_zero _)
                · exact q
              cases hgo
              have HCE : Hid (∀ W, Below w.heap.size w W → W.cell? ⟨g, off + i, none⟩ = some (.int .i64 cs[i])) := fun W hb => (hb.cell (p := ⟨g, off + i, none⟩) hg).trans (hcs i hlt)
              have HZI : Hid (cs[i] ≤ 9223372036854775807) := HCI.out _ (List.getElem_mem hlt)
              have hlti : (i : Int) < (cs.length : Int) := by omega
              have hi0 : (0 : Int) ≤ (i : Int) := by omega
              clear hcs hg
              generalize cs[i] = z at *
              by_cases hz0 : 0 ≤ z
              · have hzd : decide (0 ≤ z) = true := decide_eq_true hz0
                have HP3 : Hid (Ph D0 l true ({ x2 with left := cutL x2.left z } : Ab).D) := HP2.out
                have HF3 : Hid (Fine ({ x2 with left := cutL x2.left z } : Ab)) := left_fine HF2.out (cut_bd HF2.out.lo HF2.out.hi HZI.out).1 (cut_bd HF2.out.lo HF2.out.hi HZI.out).2
                have HCT : Hid (∀ W, PkA w1.heap.size W d1 x2 m (2097160 + i * 1048600 + 1) r1 F1 w2.heap.size F2 → Calls Tryz.prog 10 #[.pointer (some ⟨d1, 0, none⟩), .int .i64 z] W fun e' w' => e' = .returned (.int .i64 (cutE x2.left z)) ∧ PkA w1.heap.size w' d1 { x2 with left := cutL x2.left z } m (2097160 + i * 1048600 + 1 + 1) r1 F1 w2.heap.size F2 ∧ Below w1.heap.size W w') := fun W hB => hB.cut z HZI.out
                generalize ({ x2 with left := cutL x2.left z } : Ab) = x3 at *
                generalize cutE x2.left z = ce at *
                have HRC : Hid (∀ W, PkA w1.heap.size W d1 x3 m (2097160 + i * 1048600 + 1 + 1) r1 F1 w2.heap.size F2 → Calls Tryz.prog 17 #[.pointer (some ⟨d1, 0, none⟩)] W fun e' w' => e' = .returned (.int .i64 (recA x3).1) ∧ PkA w1.heap.size w' d1 (recA x3).2 m (2097160 + i * 1048600 + 1 + 1 + 1048579) r1 F1 w2.heap.size F2 ∧ Below w1.heap.size W w') := fun W hB => hB.recov (HOR.out true x3 HP3.out) (by omega)
                obtain ⟨hc7, hp7⟩ := HRP.out true x3 HF3.out HP3.out
                have HP7 := hide3 hp7
                clear hp7
                generalize recA x3 = R3 at *
                obtain ⟨c7, y7⟩ := R3
                simp only at HRC hc7
                generalize hkk : 2097160 + i * 1048600 + 1 + 1 + 1048579 = kz at *
                have HKZ : Hid (kz ≤ 2097160 + (i + 1) * 1048600) := by unfold Hid; omega
                clear hkk
                rcases hc7 with rfl | rfl
                all_goals
                  go_wp2_with (first
                    | (go_at_call 17; have _t := HX8; refine (HRC.out _ HT8.out).mono ?_; rintro f9 w9 ⟨rfl, ht9, hb9⟩; have HT9 := hide3 ht9; have HX9 := hide3 (HX8.out.trans hb9); clear ht9 hb9)
                    | (go_at_call 10; have _t := HX7; refine (HCT.out _ HT7.out).mono ?_; rintro f8 w8 ⟨rfl, ht8, hb8⟩; have HT8 := hide3 ht8; have HX8 := hide3 (HX7.out.trans hb8); clear ht8 hb8)
                    | (go_at_call 15; refine HUP.out.mono ?_; rintro f7 w7 ⟨rfl, ht7, hb7⟩; have HT7 := hide3 ht7; have HX7 := hide3 (HXR.out.trans hb7); have q7 := HCE.out w7 (HB1.out.trans (HX7.out.mono HB1.out.size)); clear ht7 hb7))
                  exact ⟨⟨i + 1, by omega, Or.inl (by omega), by go_num, HX9.out, y7, HT9.out.more HKZ.out, HP7.out⟩, by simp [intOf]; omega⟩
              · have hzd : decide (0 ≤ z) = false := decide_eq_false hz0
                have HRC : Hid (∀ W, PkA w1.heap.size W d1 x2 m (2097160 + i * 1048600 + 1) r1 F1 w2.heap.size F2 → Calls Tryz.prog 17 #[.pointer (some ⟨d1, 0, none⟩)] W fun e' w' => e' = .returned (.int .i64 (recA x2).1) ∧ PkA w1.heap.size w' d1 (recA x2).2 m (2097160 + i * 1048600 + 1 + 1048579) r1 F1 w2.heap.size F2 ∧ Below w1.heap.size W w') := fun W hB => hB.recov (HOR.out true x2 HP2.out) (by omega)
                obtain ⟨hc7, hp7⟩ := HRP.out true x2 HF2.out HP2.out
                have HP7 := hide3 hp7
                clear hp7
                generalize recA x2 = R3 at *
                obtain ⟨c7, y7⟩ := R3
                simp only at HRC hc7
                generalize hkk : 2097160 + i * 1048600 + 1 + 1048579 = kz at *
                have HKZ : Hid (kz ≤ 2097160 + (i + 1) * 1048600) := by unfold Hid; omega
                clear hkk
                rcases hc7 with rfl | rfl
                all_goals
                  go_wp2_with (first
                    | (go_at_call 17; have _t := HX7; refine (HRC.out _ HT7.out).mono ?_; rintro f9 w9 ⟨rfl, ht9, hb9⟩; have HT9 := hide3 ht9; have HX9 := hide3 (HX7.out.trans hb9); clear ht9 hb9)
                    | (go_at_call 15; refine HUP.out.mono ?_; rintro f7 w7 ⟨rfl, ht7, hb7⟩; have HT7 := hide3 ht7; have HX7 := hide3 (HXR.out.trans hb7); have q7 := HCE.out w7 (HB1.out.trans (HX7.out.mono HB1.out.size)); clear ht7 hb7))
                  exact ⟨⟨i + 1, by omega, Or.inl (by omega), by go_num, HX9.out, y7, HT9.out.more HKZ.out, HP7.out⟩, by simp [intOf]; omega⟩
            · have hlti : ¬ ((i : Int) < (cs.length : Int)) := by omega
              have HRC : Hid (∀ W, PkA w1.heap.size W d1 x2 m (2097160 + i * 1048600 + 1) r1 F1 w2.heap.size F2 → Calls Tryz.prog 17 #[.pointer (some ⟨d1, 0, none⟩)] W fun e' w' => e' = .returned (.int .i64 (recA x2).1) ∧ PkA w1.heap.size w' d1 (recA x2).2 m (2097160 + i * 1048600 + 1 + 1048579) r1 F1 w2.heap.size F2 ∧ Below w1.heap.size W w') := fun W hB => hB.recov (HOR.out true x2 HP2.out) (by omega)
              obtain ⟨hc7, hfl7, hk7⟩ := HLP.out true x2 HF2.out hlx HP2.out
              rw [if_pos rfl] at hfl7
              generalize recA x2 = R3 at *
              obtain ⟨c7, y7⟩ := R3
              simp only at HRC hc7 hfl7 hk7
              subst hc7
              generalize hkk : 2097160 + i * 1048600 + 1 + 1048579 = kz at *
              have HKZ : Hid (kz ≤ 2199023255552) := by unfold Hid; omega
              clear hkk
              have HKJ : Hid (∀ W, PkA w1.heap.size W d1 y7 m kz r1 F1 w2.heap.size F2 → Calls Tryz.prog 22 #[.pointer (some ⟨d1, 0, none⟩), .string ⟨#[47, 106, 111, 117, 114, 110, 97, 108]⟩] W fun e' w' => e' = .returned (.int .i64 0) ∧ PkA w1.heap.size w' d1 y7 m kz r1 F1 w2.heap.size F2 ∧ Below W.heap.size W w') := fun W hB => by
                have := hB.pk.kind jn (by decide)
                rw [hk7] at this
                exact this.mono fun _ _ q => ⟨q.1, hB.below q.2, q.2⟩
              have HALL : Hid (∀ W, PkA w1.heap.size W d1 y7 m kz r1 F1 w2.heap.size F2 → F2.length ≤ 2199023255552 ∧ Calls Tryz.prog 24 #[.pointer (some ⟨d1, 0, none⟩)] W fun e' w' => ∃ ao cp, e' = .returned (.slice ao F2.length cp) ∧ w'.ownsRow W.heap.size 83 3 (.slice ao F2.length cp) F2.length (fileCells F2) ∧ Below W.heap.size W w') := fun W hB => by
                have h1 := hB.pk.all HKZ.out
                have h2 : (filesD y7.D).length ≤ 2199023255552 := by
                  obtain ⟨_, _, _, h3, _⟩ := hB
                  exact Nat.le_trans (files_facts h3.disk.own).2.1 (Nat.le_trans h3.lf HKZ.out)
                rw [hfl7] at h1 h2
                exact ⟨h2, h1⟩
              clear hfl7 hk7 hlx HP2 HPX
              go_wp2_with (first
                | (go_at_call 22; have _t := HX8; refine (HKJ.out _ HT8.out).mono ?_; rintro f9 w9 ⟨rfl, ht9, hb9⟩; have HT9 := hide3 ht9; have HX9 := hide3 (HX8.out.trans (hb9.mono HX8.out.size)); clear ht9 hb9)
                | (go_at_call 17; have _t := HX7; refine (HRC.out _ HT7.out).mono ?_; rintro f8 w8 ⟨rfl, ht8, hb8⟩; have HT8 := hide3 ht8; have HX8 := hide3 (HX7.out.trans hb8); clear ht8 hb8)
                | (go_at_call 15; refine HUP.out.mono ?_; rintro f7 w7 ⟨rfl, ht7, hb7⟩; have HT7 := hide3 ht7; have HX7 := hide3 (HXR.out.trans hb7); clear ht7 hb7))
              obtain ⟨lo1, lc1, b1, hk1, hr1⟩ := HT9.out.old
              have HK1 := hide3 hk1
              have HR1 := hide3 hr1
              clear hk1 hr1
              obtain ⟨hgl, hal⟩ := HALL.out w9.drew (HT9.out.below (Below.refl _ _).drew)
              have HGL := hide3 hgl
              have HAL := hide3 hal
              clear hgl hal
              have q0 := HK1.out w9 (Below.refl _ _)
              go_region_held3 (fun w' => w'.cell? ⟨r1, 0, none⟩ = some (.slice lo1 F1.length lc1)) (go_keep)
                (first
                  | (go_at_call 24; refine HAL.out.mono ?_; rintro f10 w10 ⟨ao10, cp10, rfl, hr10, hb10⟩; have HBX := hide3 ((Below.refl _ w9).drew.trans hb10); have q1 := HK1.out _ HBX.out; have HRW := hide3 hr10; clear hb10 hr10)
                  | (go_at_call 23; refine (files_bool F2 F1 HGL.out HRW.out (HR1.out _ HBX.out)).mono ?_; rintro f11 w11 ⟨⟨bx, rfl⟩, q, rfl⟩; have HBY := hide3 (below_draws18 HBX.out q); have q2 := HK1.out _ HBY.out))
              have HTX := hide3 (HT9.out.below HBY.out)
              have HXX := hide3 (HX9.out.trans (HBY.out.mono HX9.out.size))
              clear HBX HRW HAL q0 q1 q2 HK1 HR1 HBY
              generalize w10.drewN q = WX at *
              go_wp2_with fail
              obtain ⟨lo2, lc2, b2, hk2, hr2⟩ := HTX.out.want
              have HK2 := hide3 hk2
              have HR2 := hide3 hr2
              clear hk2 hr2
              obtain ⟨_, hal2⟩ := HALL.out WX.drew (HTX.out.below (Below.refl _ _).drew)
              have HAL2 := hide3 hal2
              clear hal2
              have q3 := HK2.out WX (Below.refl _ _)
              go_region_held3 (fun w' => w'.cell? ⟨w2.heap.size, 0, none⟩ = some (.slice lo2 F2.length lc2)) (go_keep)
                (first
                  | (go_at_call 24; refine HAL2.out.mono ?_; rintro f12 w12 ⟨ao12, cp12, rfl, hr12, hb12⟩; have HBX := hide3 ((Below.refl _ WX).drew.trans hb12); have q4 := HK2.out _ HBX.out; have HRW := hide3 hr12; clear hb12 hr12)
                  | (go_at_call 23; refine (files_any F2 HGL.out HRW.out (HR2.out _ HBX.out)).mono ?_; rintro f13 w13 ⟨rfl, q9, rfl⟩; have HBY := hide3 (below_draws18 HBX.out q9); have q5 := HK2.out _ HBY.out))
              have HXY := hide3 (HXX.out.trans (HBY.out.mono HXX.out.size))
              clear HBX HRW HAL2 q3 q4 q5 HK2 HR2 HBY
              generalize w12.drewN q9 = WY at *
              go_wp2_with (go_at_call 9; refine (HLV.out _ (HB1.out.trans (HXY.out.mono HB1.out.size))).mono ?_; rintro f14 w14 ⟨rfl, hb14⟩; have HX14 := hide3 (HXY.out.trans (hb14.mono HXY.out.size)); clear hb14)
              go_ret
              exact ⟨rfl, HB1.out.trans (HX14.out.mono HB1.out.size)⟩
    · have hcd : decide (0 < (cs.length : Int)) = true := decide_eq_true (by omega)
      have hcn : decide (0 < cs.length) = true := decide_eq_true (by omega)
      have hc1 : (0 : Int) < (cs.length : Int) := by omega
      have hc2 : 0 < cs.length := by omega
      obtain ⟨g0, off0, hac, hg0, hcs0⟩ : ∃ g off, ac = some ⟨g, off, none⟩ ∧ g < w.heap.size ∧ ∀ j (hj : j < cs.length), w.cell? ⟨g, off + j, none⟩ = some (.int .i64 cs[j]) := by
        rcases HIN.out w (Below.refl _ _) with q | q
        · rw [q] at hc0; exact absurd rfl hc0
        · exact q
      have HCE0 : Hid (∀ W, Below w.heap.size w W → W.cell? ⟨g0, off0, none⟩ = some (.int .i64 (cs[0]'(by omega)))) := fun W hb => (hb.cell (p := ⟨g0, off0, none⟩) hg0).trans (hcs0 0 (by omega))
      have HZ0 : Hid (cs[0]'(by omega) ≤ 9223372036854775807) := HCI.out _ (List.getElem_mem _)
      clear hcs0 hg0 hc0
      generalize cs[0]'(by omega) = z0 at *
      subst hac
      by_cases hz0 : 0 ≤ z0
      · have hz0d : decide (0 ≤ z0) = true := decide_eq_true hz0
        have HLZ : Hid (-1 ≤ cutL (-1) z0 ∧ cutL (-1) z0 ≤ 9223372036854775807) := cut_bd (by decide) (by decide) HZ0.out
        have HCM := hide3 (HCOM.out (cutL (-1) z0))
        have HPC := hide3 (HPHC.out (cutL (-1) z0) HLZ.out.1 HLZ.out.2)
        clear HCOM HPHC HLZ
        generalize commitA l ⟨D0, [], cutL (-1) z0⟩ = Y1 at *
        obtain ⟨c1, y1⟩ := Y1
        simp only at HCM HPC
        obtain ⟨hc1, hcase⟩ := HPC.out
        clear HPC
        rcases hcase with ⟨hn, hz, hph⟩ | ⟨hn, hph⟩
        · have HPH := hide3 hph
          have hn3 : decide (3 ≤ (y1.rs.length : Int)) = false := decide_eq_false (by omega)
          have hn4 : decide (3 ≤ y1.rs.length) = false := decide_eq_false (by omega)
          clear hph hn
          rcases hc1 with rfl | rfl
          · have hl0 := hz rfl
            have hl3 : decide (0 < (l.length : Int)) = false := decide_eq_false (by omega)
            have hl4 : decide (0 < l.length) = false := decide_eq_false (by omega)
            clear hl0 hz
            go_enter Tryz.func5, Tryz.ntmps5
            go_wp2_with (first
              | (go_at_call 21; have _t := HX5; refine (HRAW.out _ _ _ _ _ _ HT5.out).mono ?_; rintro f6 w6 ⟨ao6, cp6, rfl, ht6, hb6⟩; have HT6 := hide3 ht6; have HX6 := hide3 (HX5.out.trans (hb6.mono HX5.out.size)); clear ht6 hb6)
              | (go_at_call 12; have _t := HX4; refine (HCM.out _ _ _ _ _ _ _ HD1.out HX4.out (HT4.out)).mono ?_; rintro f5 w5 ⟨rfl, ht5, hb5⟩; have HT5 := hide3 ht5; have HX5 := hide3 (HX4.out.trans hb5); clear ht5 hb5)
              | (go_at_call 10; have _t := HX3; refine (HT3.out.cut z0 HZ0.out).mono ?_; rintro f4 w4 ⟨rfl, ht4, hb4⟩; have HT4 := hide3 ht4; have HX4 := hide3 (HX3.out.trans hb4); clear ht4 hb4)
              | (go_at_call 20; have _t := HX2; refine (HLG.out _ _ _ _ (HB1.out.trans (HX2.out.mono HB1.out.size)) HT2.out).mono ?_; rintro f3 w3 ⟨rfl, ht3, hb3⟩; have HT3 := hide3 ht3; have HX3 := hide3 (HX2.out.trans (hb3.mono HX2.out.size)); have q3 := HCE0.out w3 (HB1.out.trans (HX3.out.mono HB1.out.size)); clear ht3 hb3)
              | (go_at_call 8; have _t := HB1; refine (HDK.out _ HB1.out).mono ?_; rintro f2 w2 ⟨d1, r1, rfl, ht2, hb2⟩; have HT2 := hide3 ht2; have HX2 := hide3 hb2; clear ht2 hb2)
              | (go_at_call 19; refine HDE.out.mono ?_; rintro f1 w1 ⟨a3, c3, rfl, hd1, hb1⟩; have HD1 := hide3 hd1; have HB1 := hide3 hb1; clear hd1 hb1))
            clear HCM HRAW HDE HDK HLG q3
            go_loopw [16] (fun v16 wr => ∃ i : Nat, 1 ≤ i ∧ (i ≤ cs.length ∨ i = 1) ∧ v16 = .int .i64 i ∧ Below w1.heap.size w1 wr ∧ ∃ x, PkA w1.heap.size wr d1 x m (2097160 + i * 1048600) r1 F1 w2.heap.size F2 ∧ Ph D0 l false x.D) (fun v16 _ => cs.length + 1 - (intOf v16).toNat)
            case atStart => exact ⟨1, Nat.le_refl _, Or.inr rfl, rfl, HX6.out, y1, HT6.out.more (by omega), HPH.out⟩
            case round =>
              obtain ⟨i, hi1, hi2, rfl, hxr, x, htx, hpx⟩ := hrel
              have HXR := hide3 hxr
              have HPX := hide3 hpx
              have HUP := hide3 htx.up
              have HF2 : Hid (Fine ({ x with left := -1 } : Ab)) := left_fine htx.fine (by decide) (by decide)
              have HP2 : Hid (Ph D0 l false ({ x with left := -1 } : Ab).D) := hpx
              have hlx : ({ x with left := -1 } : Ab).left = -1 := rfl
              clear hxr hpx htx HX6 HT6
              generalize ({ x with left := -1 } : Ab) = x2 at *
              by_cases hlt : i < cs.length
              · obtain ⟨g, off, hgo, hg, hcs⟩ : ∃ g off, (some ⟨g0, off0, none⟩ : Option Addr) = some ⟨g, off, none⟩ ∧ g < w.heap.size ∧ ∀ j (hj : j < cs.length), w.cell? ⟨g, off + j, none⟩ = some (.int .i64 cs[j]) := by
                  rcases HIN.out w (Below.refl _ _) with q | q
                  · rw [q] at hlt; exact absurd hlt (Nat.not_lt_zero _)
                  · exact q
                cases hgo
                have HCE : Hid (∀ W, Below w.heap.size w W → W.cell? ⟨g0, off0 + i, none⟩ = some (.int .i64 cs[i])) := fun W hb => (hb.cell (p := ⟨g0, off0 + i, none⟩) hg).trans (hcs i hlt)
                have HZI : Hid (cs[i] ≤ 9223372036854775807) := HCI.out _ (List.getElem_mem hlt)
                have hlti : (i : Int) < (cs.length : Int) := by omega
                have hi0 : (0 : Int) ≤ (i : Int) := by omega
                clear hcs hg
                generalize cs[i] = z at *
                by_cases hz0 : 0 ≤ z
                · have hzd : decide (0 ≤ z) = true := decide_eq_true hz0
                  have HP3 : Hid (Ph D0 l false ({ x2 with left := cutL x2.left z } : Ab).D) := HP2.out
                  have HF3 : Hid (Fine ({ x2 with left := cutL x2.left z } : Ab)) := left_fine HF2.out (cut_bd HF2.out.lo HF2.out.hi HZI.out).1 (cut_bd HF2.out.lo HF2.out.hi HZI.out).2
                  have HCT : Hid (∀ W, PkA w1.heap.size W d1 x2 m (2097160 + i * 1048600 + 1) r1 F1 w2.heap.size F2 → Calls Tryz.prog 10 #[.pointer (some ⟨d1, 0, none⟩), .int .i64 z] W fun e' w' => e' = .returned (.int .i64 (cutE x2.left z)) ∧ PkA w1.heap.size w' d1 { x2 with left := cutL x2.left z } m (2097160 + i * 1048600 + 1 + 1) r1 F1 w2.heap.size F2 ∧ Below w1.heap.size W w') := fun W hB => hB.cut z HZI.out
                  generalize ({ x2 with left := cutL x2.left z } : Ab) = x3 at *
                  generalize cutE x2.left z = ce at *
                  have HRC : Hid (∀ W, PkA w1.heap.size W d1 x3 m (2097160 + i * 1048600 + 1 + 1) r1 F1 w2.heap.size F2 → Calls Tryz.prog 17 #[.pointer (some ⟨d1, 0, none⟩)] W fun e' w' => e' = .returned (.int .i64 (recA x3).1) ∧ PkA w1.heap.size w' d1 (recA x3).2 m (2097160 + i * 1048600 + 1 + 1 + 1048579) r1 F1 w2.heap.size F2 ∧ Below w1.heap.size W w') := fun W hB => hB.recov (HOR.out false x3 HP3.out) (by omega)
                  obtain ⟨hc7, hp7⟩ := HRP.out false x3 HF3.out HP3.out
                  have HP7 := hide3 hp7
                  clear hp7
                  generalize recA x3 = R3 at *
                  obtain ⟨c7, y7⟩ := R3
                  simp only at HRC hc7
                  generalize hkk : 2097160 + i * 1048600 + 1 + 1 + 1048579 = kz at *
                  have HKZ : Hid (kz ≤ 2097160 + (i + 1) * 1048600) := by unfold Hid; omega
                  clear hkk
                  rcases hc7 with rfl | rfl
                  all_goals
                    go_wp2_with (first
                      | (go_at_call 17; have _t := HX8; refine (HRC.out _ HT8.out).mono ?_; rintro f9 w9 ⟨rfl, ht9, hb9⟩; have HT9 := hide3 ht9; have HX9 := hide3 (HX8.out.trans hb9); clear ht9 hb9)
                      | (go_at_call 10; have _t := HX7; refine (HCT.out _ HT7.out).mono ?_; rintro f8 w8 ⟨rfl, ht8, hb8⟩; have HT8 := hide3 ht8; have HX8 := hide3 (HX7.out.trans hb8); clear ht8 hb8)
                      | (go_at_call 15; refine HUP.out.mono ?_; rintro f7 w7 ⟨rfl, ht7, hb7⟩; have HT7 := hide3 ht7; have HX7 := hide3 (HXR.out.trans hb7); have q7 := HCE.out w7 (HB1.out.trans (HX7.out.mono HB1.out.size)); clear ht7 hb7))
                    exact ⟨⟨i + 1, by omega, Or.inl (by omega), by go_num, HX9.out, y7, HT9.out.more HKZ.out, HP7.out⟩, by simp [intOf]; omega⟩
                · have hzd : decide (0 ≤ z) = false := decide_eq_false hz0
                  have HRC : Hid (∀ W, PkA w1.heap.size W d1 x2 m (2097160 + i * 1048600 + 1) r1 F1 w2.heap.size F2 → Calls Tryz.prog 17 #[.pointer (some ⟨d1, 0, none⟩)] W fun e' w' => e' = .returned (.int .i64 (recA x2).1) ∧ PkA w1.heap.size w' d1 (recA x2).2 m (2097160 + i * 1048600 + 1 + 1048579) r1 F1 w2.heap.size F2 ∧ Below w1.heap.size W w') := fun W hB => hB.recov (HOR.out false x2 HP2.out) (by omega)
                  obtain ⟨hc7, hp7⟩ := HRP.out false x2 HF2.out HP2.out
                  have HP7 := hide3 hp7
                  clear hp7
                  generalize recA x2 = R3 at *
                  obtain ⟨c7, y7⟩ := R3
                  simp only at HRC hc7
                  generalize hkk : 2097160 + i * 1048600 + 1 + 1048579 = kz at *
                  have HKZ : Hid (kz ≤ 2097160 + (i + 1) * 1048600) := by unfold Hid; omega
                  clear hkk
                  rcases hc7 with rfl | rfl
                  all_goals
                    go_wp2_with (first
                      | (go_at_call 17; have _t := HX7; refine (HRC.out _ HT7.out).mono ?_; rintro f9 w9 ⟨rfl, ht9, hb9⟩; have HT9 := hide3 ht9; have HX9 := hide3 (HX7.out.trans hb9); clear ht9 hb9)
                      | (go_at_call 15; refine HUP.out.mono ?_; rintro f7 w7 ⟨rfl, ht7, hb7⟩; have HT7 := hide3 ht7; have HX7 := hide3 (HXR.out.trans hb7); have q7 := HCE.out w7 (HB1.out.trans (HX7.out.mono HB1.out.size)); clear ht7 hb7))
                    exact ⟨⟨i + 1, by omega, Or.inl (by omega), by go_num, HX9.out, y7, HT9.out.more HKZ.out, HP7.out⟩, by simp [intOf]; omega⟩
              · have hlti : ¬ ((i : Int) < (cs.length : Int)) := by omega
                have HRC : Hid (∀ W, PkA w1.heap.size W d1 x2 m (2097160 + i * 1048600 + 1) r1 F1 w2.heap.size F2 → Calls Tryz.prog 17 #[.pointer (some ⟨d1, 0, none⟩)] W fun e' w' => e' = .returned (.int .i64 (recA x2).1) ∧ PkA w1.heap.size w' d1 (recA x2).2 m (2097160 + i * 1048600 + 1 + 1048579) r1 F1 w2.heap.size F2 ∧ Below w1.heap.size W w') := fun W hB => hB.recov (HOR.out false x2 HP2.out) (by omega)
                obtain ⟨hc7, hfl7, hk7⟩ := HLP.out false x2 HF2.out hlx HP2.out
                rw [if_neg (by decide)] at hfl7
                generalize recA x2 = R3 at *
                obtain ⟨c7, y7⟩ := R3
                simp only at HRC hc7 hfl7 hk7
                subst hc7
                generalize hkk : 2097160 + i * 1048600 + 1 + 1048579 = kz at *
                have HKZ : Hid (kz ≤ 2199023255552) := by unfold Hid; omega
                clear hkk
                have HKJ : Hid (∀ W, PkA w1.heap.size W d1 y7 m kz r1 F1 w2.heap.size F2 → Calls Tryz.prog 22 #[.pointer (some ⟨d1, 0, none⟩), .string ⟨#[47, 106, 111, 117, 114, 110, 97, 108]⟩] W fun e' w' => e' = .returned (.int .i64 0) ∧ PkA w1.heap.size w' d1 y7 m kz r1 F1 w2.heap.size F2 ∧ Below W.heap.size W w') := fun W hB => by
                  have := hB.pk.kind jn (by decide)
                  rw [hk7] at this
                  exact this.mono fun _ _ q => ⟨q.1, hB.below q.2, q.2⟩
                have HALL : Hid (∀ W, PkA w1.heap.size W d1 y7 m kz r1 F1 w2.heap.size F2 → F1.length ≤ 2199023255552 ∧ Calls Tryz.prog 24 #[.pointer (some ⟨d1, 0, none⟩)] W fun e' w' => ∃ ao cp, e' = .returned (.slice ao F1.length cp) ∧ w'.ownsRow W.heap.size 83 3 (.slice ao F1.length cp) F1.length (fileCells F1) ∧ Below W.heap.size W w') := fun W hB => by
                  have h1 := hB.pk.all HKZ.out
                  have h2 : (filesD y7.D).length ≤ 2199023255552 := by
                    obtain ⟨_, _, _, h3, _⟩ := hB
                    exact Nat.le_trans (files_facts h3.disk.own).2.1 (Nat.le_trans h3.lf HKZ.out)
                  rw [hfl7] at h1 h2
                  exact ⟨h2, h1⟩
                clear hfl7 hk7 hlx HP2 HPX
                go_wp2_with (first
                  | (go_at_call 22; have _t := HX8; refine (HKJ.out _ HT8.out).mono ?_; rintro f9 w9 ⟨rfl, ht9, hb9⟩; have HT9 := hide3 ht9; have HX9 := hide3 (HX8.out.trans (hb9.mono HX8.out.size)); clear ht9 hb9)
                  | (go_at_call 17; have _t := HX7; refine (HRC.out _ HT7.out).mono ?_; rintro f8 w8 ⟨rfl, ht8, hb8⟩; have HT8 := hide3 ht8; have HX8 := hide3 (HX7.out.trans hb8); clear ht8 hb8)
                  | (go_at_call 15; refine HUP.out.mono ?_; rintro f7 w7 ⟨rfl, ht7, hb7⟩; have HT7 := hide3 ht7; have HX7 := hide3 (HXR.out.trans hb7); clear ht7 hb7))
                obtain ⟨lo1, lc1, b1, hk1, hr1⟩ := HT9.out.old
                have HK1 := hide3 hk1
                have HR1 := hide3 hr1
                clear hk1 hr1
                obtain ⟨hgl, hal⟩ := HALL.out w9.drew (HT9.out.below (Below.refl _ _).drew)
                have HGL := hide3 hgl
                have HAL := hide3 hal
                clear hgl hal
                have q0 := HK1.out w9 (Below.refl _ _)
                go_region_held3 (fun w' => w'.cell? ⟨r1, 0, none⟩ = some (.slice lo1 F1.length lc1)) (go_keep)
                  (first
                    | (go_at_call 24; refine HAL.out.mono ?_; rintro f10 w10 ⟨ao10, cp10, rfl, hr10, hb10⟩; have HBX := hide3 ((Below.refl _ w9).drew.trans hb10); have q1 := HK1.out _ HBX.out; have HRW := hide3 hr10; clear hb10 hr10)
                    | (go_at_call 23; refine (files_any F1 HGL.out HRW.out (HR1.out _ HBX.out)).mono ?_; rintro f11 w11 ⟨rfl, q, rfl⟩; have HBY := hide3 (below_draws18 HBX.out q); have q2 := HK1.out _ HBY.out))
                have HTX := hide3 (HT9.out.below HBY.out)
                have HXX := hide3 (HX9.out.trans (HBY.out.mono HX9.out.size))
                clear HBX HRW HAL q0 q1 q2 HK1 HR1
                generalize w10.drewN q = WX at *
                go_wp2_with (go_at_call 9; refine (HLV.out _ (HB1.out.trans (HXX.out.mono HB1.out.size))).mono ?_; rintro f12 w12 ⟨rfl, hb12⟩; have HX12 := hide3 (HXX.out.trans (hb12.mono HXX.out.size)); clear hb12)
                go_ret
                exact ⟨rfl, HB1.out.trans (HX12.out.mono HB1.out.size)⟩
          · clear hz
            go_enter Tryz.func5, Tryz.ntmps5
            go_wp2_with (first
              | (go_at_call 21; have _t := HX5; refine (HRAW.out _ _ _ _ _ _ HT5.out).mono ?_; rintro f6 w6 ⟨ao6, cp6, rfl, ht6, hb6⟩; have HT6 := hide3 ht6; have HX6 := hide3 (HX5.out.trans (hb6.mono HX5.out.size)); clear ht6 hb6)
              | (go_at_call 12; have _t := HX4; refine (HCM.out _ _ _ _ _ _ _ HD1.out HX4.out (HT4.out)).mono ?_; rintro f5 w5 ⟨rfl, ht5, hb5⟩; have HT5 := hide3 ht5; have HX5 := hide3 (HX4.out.trans hb5); clear ht5 hb5)
              | (go_at_call 10; have _t := HX3; refine (HT3.out.cut z0 HZ0.out).mono ?_; rintro f4 w4 ⟨rfl, ht4, hb4⟩; have HT4 := hide3 ht4; have HX4 := hide3 (HX3.out.trans hb4); clear ht4 hb4)
              | (go_at_call 20; have _t := HX2; refine (HLG.out _ _ _ _ (HB1.out.trans (HX2.out.mono HB1.out.size)) HT2.out).mono ?_; rintro f3 w3 ⟨rfl, ht3, hb3⟩; have HT3 := hide3 ht3; have HX3 := hide3 (HX2.out.trans (hb3.mono HX2.out.size)); have q3 := HCE0.out w3 (HB1.out.trans (HX3.out.mono HB1.out.size)); clear ht3 hb3)
              | (go_at_call 8; have _t := HB1; refine (HDK.out _ HB1.out).mono ?_; rintro f2 w2 ⟨d1, r1, rfl, ht2, hb2⟩; have HT2 := hide3 ht2; have HX2 := hide3 hb2; clear ht2 hb2)
              | (go_at_call 19; refine HDE.out.mono ?_; rintro f1 w1 ⟨a3, c3, rfl, hd1, hb1⟩; have HD1 := hide3 hd1; have HB1 := hide3 hb1; clear hd1 hb1))
            clear HCM HRAW HDE HDK HLG q3
            go_loopw [16] (fun v16 wr => ∃ i : Nat, 1 ≤ i ∧ (i ≤ cs.length ∨ i = 1) ∧ v16 = .int .i64 i ∧ Below w1.heap.size w1 wr ∧ ∃ x, PkA w1.heap.size wr d1 x m (2097160 + i * 1048600) r1 F1 w2.heap.size F2 ∧ Ph D0 l false x.D) (fun v16 _ => cs.length + 1 - (intOf v16).toNat)
            case atStart => exact ⟨1, Nat.le_refl _, Or.inr rfl, rfl, HX6.out, y1, HT6.out.more (by omega), HPH.out⟩
            case round =>
              obtain ⟨i, hi1, hi2, rfl, hxr, x, htx, hpx⟩ := hrel
              have HXR := hide3 hxr
              have HPX := hide3 hpx
              have HUP := hide3 htx.up
              have HF2 : Hid (Fine ({ x with left := -1 } : Ab)) := left_fine htx.fine (by decide) (by decide)
              have HP2 : Hid (Ph D0 l false ({ x with left := -1 } : Ab).D) := hpx
              have hlx : ({ x with left := -1 } : Ab).left = -1 := rfl
              clear hxr hpx htx HX6 HT6
              generalize ({ x with left := -1 } : Ab) = x2 at *
              by_cases hlt : i < cs.length
              · obtain ⟨g, off, hgo, hg, hcs⟩ : ∃ g off, (some ⟨g0, off0, none⟩ : Option Addr) = some ⟨g, off, none⟩ ∧ g < w.heap.size ∧ ∀ j (hj : j < cs.length), w.cell? ⟨g, off + j, none⟩ = some (.int .i64 cs[j]) := by
                  rcases HIN.out w (Below.refl _ _) with q | q
                  · rw [q] at hlt; exact absurd hlt (Nat.not_lt_zero _)
                  · exact q
                cases hgo
                have HCE : Hid (∀ W, Below w.heap.size w W → W.cell? ⟨g0, off0 + i, none⟩ = some (.int .i64 cs[i])) := fun W hb => (hb.cell (p := ⟨g0, off0 + i, none⟩) hg).trans (hcs i hlt)
                have HZI : Hid (cs[i] ≤ 9223372036854775807) := HCI.out _ (List.getElem_mem hlt)
                have hlti : (i : Int) < (cs.length : Int) := by omega
                have hi0 : (0 : Int) ≤ (i : Int) := by omega
                clear hcs hg
                generalize cs[i] = z at *
                by_cases hz0 : 0 ≤ z
                · have hzd : decide (0 ≤ z) = true := decide_eq_true hz0
                  have HP3 : Hid (Ph D0 l false ({ x2 with left := cutL x2.left z } : Ab).D) := HP2.out
                  have HF3 : Hid (Fine ({ x2 with left := cutL x2.left z } : Ab)) := left_fine HF2.out (cut_bd HF2.out.lo HF2.out.hi HZI.out).1 (cut_bd HF2.out.lo HF2.out.hi HZI.out).2
                  have HCT : Hid (∀ W, PkA w1.heap.size W d1 x2 m (2097160 + i * 1048600 + 1) r1 F1 w2.heap.size F2 → Calls Tryz.prog 10 #[.pointer (some ⟨d1, 0, none⟩), .int .i64 z] W fun e' w' => e' = .returned (.int .i64 (cutE x2.left z)) ∧ PkA w1.heap.size w' d1 { x2 with left := cutL x2.left z } m (2097160 + i * 1048600 + 1 + 1) r1 F1 w2.heap.size F2 ∧ Below w1.heap.size W w') := fun W hB => hB.cut z HZI.out
                  generalize ({ x2 with left := cutL x2.left z } : Ab) = x3 at *
                  generalize cutE x2.left z = ce at *
                  have HRC : Hid (∀ W, PkA w1.heap.size W d1 x3 m (2097160 + i * 1048600 + 1 + 1) r1 F1 w2.heap.size F2 → Calls Tryz.prog 17 #[.pointer (some ⟨d1, 0, none⟩)] W fun e' w' => e' = .returned (.int .i64 (recA x3).1) ∧ PkA w1.heap.size w' d1 (recA x3).2 m (2097160 + i * 1048600 + 1 + 1 + 1048579) r1 F1 w2.heap.size F2 ∧ Below w1.heap.size W w') := fun W hB => hB.recov (HOR.out false x3 HP3.out) (by omega)
                  obtain ⟨hc7, hp7⟩ := HRP.out false x3 HF3.out HP3.out
                  have HP7 := hide3 hp7
                  clear hp7
                  generalize recA x3 = R3 at *
                  obtain ⟨c7, y7⟩ := R3
                  simp only at HRC hc7
                  generalize hkk : 2097160 + i * 1048600 + 1 + 1 + 1048579 = kz at *
                  have HKZ : Hid (kz ≤ 2097160 + (i + 1) * 1048600) := by unfold Hid; omega
                  clear hkk
                  rcases hc7 with rfl | rfl
                  all_goals
                    go_wp2_with (first
                      | (go_at_call 17; have _t := HX8; refine (HRC.out _ HT8.out).mono ?_; rintro f9 w9 ⟨rfl, ht9, hb9⟩; have HT9 := hide3 ht9; have HX9 := hide3 (HX8.out.trans hb9); clear ht9 hb9)
                      | (go_at_call 10; have _t := HX7; refine (HCT.out _ HT7.out).mono ?_; rintro f8 w8 ⟨rfl, ht8, hb8⟩; have HT8 := hide3 ht8; have HX8 := hide3 (HX7.out.trans hb8); clear ht8 hb8)
                      | (go_at_call 15; refine HUP.out.mono ?_; rintro f7 w7 ⟨rfl, ht7, hb7⟩; have HT7 := hide3 ht7; have HX7 := hide3 (HXR.out.trans hb7); have q7 := HCE.out w7 (HB1.out.trans (HX7.out.mono HB1.out.size)); clear ht7 hb7))
                    exact ⟨⟨i + 1, by omega, Or.inl (by omega), by go_num, HX9.out, y7, HT9.out.more HKZ.out, HP7.out⟩, by simp [intOf]; omega⟩
                · have hzd : decide (0 ≤ z) = false := decide_eq_false hz0
                  have HRC : Hid (∀ W, PkA w1.heap.size W d1 x2 m (2097160 + i * 1048600 + 1) r1 F1 w2.heap.size F2 → Calls Tryz.prog 17 #[.pointer (some ⟨d1, 0, none⟩)] W fun e' w' => e' = .returned (.int .i64 (recA x2).1) ∧ PkA w1.heap.size w' d1 (recA x2).2 m (2097160 + i * 1048600 + 1 + 1048579) r1 F1 w2.heap.size F2 ∧ Below w1.heap.size W w') := fun W hB => hB.recov (HOR.out false x2 HP2.out) (by omega)
                  obtain ⟨hc7, hp7⟩ := HRP.out false x2 HF2.out HP2.out
                  have HP7 := hide3 hp7
                  clear hp7
                  generalize recA x2 = R3 at *
                  obtain ⟨c7, y7⟩ := R3
                  simp only at HRC hc7
                  generalize hkk : 2097160 + i * 1048600 + 1 + 1048579 = kz at *
                  have HKZ : Hid (kz ≤ 2097160 + (i + 1) * 1048600) := by unfold Hid; omega
                  clear hkk
                  rcases hc7 with rfl | rfl
                  all_goals
                    go_wp2_with (first
                      | (go_at_call 17; have _t := HX7; refine (HRC.out _ HT7.out).mono ?_; rintro f9 w9 ⟨rfl, ht9, hb9⟩; have HT9 := hide3 ht9; have HX9 := hide3 (HX7.out.trans hb9); clear ht9 hb9)
                      | (go_at_call 15; refine HUP.out.mono ?_; rintro f7 w7 ⟨rfl, ht7, hb7⟩; have HT7 := hide3 ht7; have HX7 := hide3 (HXR.out.trans hb7); have q7 := HCE.out w7 (HB1.out.trans (HX7.out.mono HB1.out.size)); clear ht7 hb7))
                    exact ⟨⟨i + 1, by omega, Or.inl (by omega), by go_num, HX9.out, y7, HT9.out.more HKZ.out, HP7.out⟩, by simp [intOf]; omega⟩
              · have hlti : ¬ ((i : Int) < (cs.length : Int)) := by omega
                have HRC : Hid (∀ W, PkA w1.heap.size W d1 x2 m (2097160 + i * 1048600 + 1) r1 F1 w2.heap.size F2 → Calls Tryz.prog 17 #[.pointer (some ⟨d1, 0, none⟩)] W fun e' w' => e' = .returned (.int .i64 (recA x2).1) ∧ PkA w1.heap.size w' d1 (recA x2).2 m (2097160 + i * 1048600 + 1 + 1048579) r1 F1 w2.heap.size F2 ∧ Below w1.heap.size W w') := fun W hB => hB.recov (HOR.out false x2 HP2.out) (by omega)
                obtain ⟨hc7, hfl7, hk7⟩ := HLP.out false x2 HF2.out hlx HP2.out
                rw [if_neg (by decide)] at hfl7
                generalize recA x2 = R3 at *
                obtain ⟨c7, y7⟩ := R3
                simp only at HRC hc7 hfl7 hk7
                subst hc7
                generalize hkk : 2097160 + i * 1048600 + 1 + 1048579 = kz at *
                have HKZ : Hid (kz ≤ 2199023255552) := by unfold Hid; omega
                clear hkk
                have HKJ : Hid (∀ W, PkA w1.heap.size W d1 y7 m kz r1 F1 w2.heap.size F2 → Calls Tryz.prog 22 #[.pointer (some ⟨d1, 0, none⟩), .string ⟨#[47, 106, 111, 117, 114, 110, 97, 108]⟩] W fun e' w' => e' = .returned (.int .i64 0) ∧ PkA w1.heap.size w' d1 y7 m kz r1 F1 w2.heap.size F2 ∧ Below W.heap.size W w') := fun W hB => by
                  have := hB.pk.kind jn (by decide)
                  rw [hk7] at this
                  exact this.mono fun _ _ q => ⟨q.1, hB.below q.2, q.2⟩
                have HALL : Hid (∀ W, PkA w1.heap.size W d1 y7 m kz r1 F1 w2.heap.size F2 → F1.length ≤ 2199023255552 ∧ Calls Tryz.prog 24 #[.pointer (some ⟨d1, 0, none⟩)] W fun e' w' => ∃ ao cp, e' = .returned (.slice ao F1.length cp) ∧ w'.ownsRow W.heap.size 83 3 (.slice ao F1.length cp) F1.length (fileCells F1) ∧ Below W.heap.size W w') := fun W hB => by
                  have h1 := hB.pk.all HKZ.out
                  have h2 : (filesD y7.D).length ≤ 2199023255552 := by
                    obtain ⟨_, _, _, h3, _⟩ := hB
                    exact Nat.le_trans (files_facts h3.disk.own).2.1 (Nat.le_trans h3.lf HKZ.out)
                  rw [hfl7] at h1 h2
                  exact ⟨h2, h1⟩
                clear hfl7 hk7 hlx HP2 HPX
                go_wp2_with (first
                  | (go_at_call 22; have _t := HX8; refine (HKJ.out _ HT8.out).mono ?_; rintro f9 w9 ⟨rfl, ht9, hb9⟩; have HT9 := hide3 ht9; have HX9 := hide3 (HX8.out.trans (hb9.mono HX8.out.size)); clear ht9 hb9)
                  | (go_at_call 17; have _t := HX7; refine (HRC.out _ HT7.out).mono ?_; rintro f8 w8 ⟨rfl, ht8, hb8⟩; have HT8 := hide3 ht8; have HX8 := hide3 (HX7.out.trans hb8); clear ht8 hb8)
                  | (go_at_call 15; refine HUP.out.mono ?_; rintro f7 w7 ⟨rfl, ht7, hb7⟩; have HT7 := hide3 ht7; have HX7 := hide3 (HXR.out.trans hb7); clear ht7 hb7))
                obtain ⟨lo1, lc1, b1, hk1, hr1⟩ := HT9.out.old
                have HK1 := hide3 hk1
                have HR1 := hide3 hr1
                clear hk1 hr1
                obtain ⟨hgl, hal⟩ := HALL.out w9.drew (HT9.out.below (Below.refl _ _).drew)
                have HGL := hide3 hgl
                have HAL := hide3 hal
                clear hgl hal
                have q0 := HK1.out w9 (Below.refl _ _)
                go_region_held3 (fun w' => w'.cell? ⟨r1, 0, none⟩ = some (.slice lo1 F1.length lc1)) (go_keep)
                  (first
                    | (go_at_call 24; refine HAL.out.mono ?_; rintro f10 w10 ⟨ao10, cp10, rfl, hr10, hb10⟩; have HBX := hide3 ((Below.refl _ w9).drew.trans hb10); have q1 := HK1.out _ HBX.out; have HRW := hide3 hr10; clear hb10 hr10)
                    | (go_at_call 23; refine (files_any F1 HGL.out HRW.out (HR1.out _ HBX.out)).mono ?_; rintro f11 w11 ⟨rfl, q, rfl⟩; have HBY := hide3 (below_draws18 HBX.out q); have q2 := HK1.out _ HBY.out))
                have HTX := hide3 (HT9.out.below HBY.out)
                have HXX := hide3 (HX9.out.trans (HBY.out.mono HX9.out.size))
                clear HBX HRW HAL q0 q1 q2 HK1 HR1
                generalize w10.drewN q = WX at *
                go_wp2_with (go_at_call 9; refine (HLV.out _ (HB1.out.trans (HXX.out.mono HB1.out.size))).mono ?_; rintro f12 w12 ⟨rfl, hb12⟩; have HX12 := hide3 (HXX.out.trans (hb12.mono HXX.out.size)); clear hb12)
                go_ret
                exact ⟨rfl, HB1.out.trans (HX12.out.mono HB1.out.size)⟩
        · have HPH := hide3 hph
          have hn3 : decide (3 ≤ (y1.rs.length : Int)) = true := decide_eq_true (by omega)
          have hn4 : decide (3 ≤ y1.rs.length) = true := decide_eq_true hn
          clear hph hn
          rcases hc1 with rfl | rfl
          · skip
            go_enter Tryz.func5, Tryz.ntmps5
            go_wp2_with (first
              | (go_at_call 21; have _t := HX5; refine (HRAW.out _ _ _ _ _ _ HT5.out).mono ?_; rintro f6 w6 ⟨ao6, cp6, rfl, ht6, hb6⟩; have HT6 := hide3 ht6; have HX6 := hide3 (HX5.out.trans (hb6.mono HX5.out.size)); clear ht6 hb6)
              | (go_at_call 12; have _t := HX4; refine (HCM.out _ _ _ _ _ _ _ HD1.out HX4.out (HT4.out)).mono ?_; rintro f5 w5 ⟨rfl, ht5, hb5⟩; have HT5 := hide3 ht5; have HX5 := hide3 (HX4.out.trans hb5); clear ht5 hb5)
              | (go_at_call 10; have _t := HX3; refine (HT3.out.cut z0 HZ0.out).mono ?_; rintro f4 w4 ⟨rfl, ht4, hb4⟩; have HT4 := hide3 ht4; have HX4 := hide3 (HX3.out.trans hb4); clear ht4 hb4)
              | (go_at_call 20; have _t := HX2; refine (HLG.out _ _ _ _ (HB1.out.trans (HX2.out.mono HB1.out.size)) HT2.out).mono ?_; rintro f3 w3 ⟨rfl, ht3, hb3⟩; have HT3 := hide3 ht3; have HX3 := hide3 (HX2.out.trans (hb3.mono HX2.out.size)); have q3 := HCE0.out w3 (HB1.out.trans (HX3.out.mono HB1.out.size)); clear ht3 hb3)
              | (go_at_call 8; have _t := HB1; refine (HDK.out _ HB1.out).mono ?_; rintro f2 w2 ⟨d1, r1, rfl, ht2, hb2⟩; have HT2 := hide3 ht2; have HX2 := hide3 hb2; clear ht2 hb2)
              | (go_at_call 19; refine HDE.out.mono ?_; rintro f1 w1 ⟨a3, c3, rfl, hd1, hb1⟩; have HD1 := hide3 hd1; have HB1 := hide3 hb1; clear hd1 hb1))
            clear HCM HRAW HDE HDK HLG q3
            go_loopw [16] (fun v16 wr => ∃ i : Nat, 1 ≤ i ∧ (i ≤ cs.length ∨ i = 1) ∧ v16 = .int .i64 i ∧ Below w1.heap.size w1 wr ∧ ∃ x, PkA w1.heap.size wr d1 x m (2097160 + i * 1048600) r1 F1 w2.heap.size F2 ∧ Ph D0 l true x.D) (fun v16 _ => cs.length + 1 - (intOf v16).toNat)
            case atStart => exact ⟨1, Nat.le_refl _, Or.inr rfl, rfl, HX6.out, y1, HT6.out.more (by omega), HPH.out⟩
            case round =>
              obtain ⟨i, hi1, hi2, rfl, hxr, x, htx, hpx⟩ := hrel
              have HXR := hide3 hxr
              have HPX := hide3 hpx
              have HUP := hide3 htx.up
              have HF2 : Hid (Fine ({ x with left := -1 } : Ab)) := left_fine htx.fine (by decide) (by decide)
              have HP2 : Hid (Ph D0 l true ({ x with left := -1 } : Ab).D) := hpx
              have hlx : ({ x with left := -1 } : Ab).left = -1 := rfl
              clear hxr hpx htx HX6 HT6
              generalize ({ x with left := -1 } : Ab) = x2 at *
              by_cases hlt : i < cs.length
              · obtain ⟨g, off, hgo, hg, hcs⟩ : ∃ g off, (some ⟨g0, off0, none⟩ : Option Addr) = some ⟨g, off, none⟩ ∧ g < w.heap.size ∧ ∀ j (hj : j < cs.length), w.cell? ⟨g, off + j, none⟩ = some (.int .i64 cs[j]) := by
                  rcases HIN.out w (Below.refl _ _) with q | q
                  · rw [q] at hlt; exact absurd hlt (Nat.not_lt_zero _)
                  · exact q
                cases hgo
                have HCE : Hid (∀ W, Below w.heap.size w W → W.cell? ⟨g0, off0 + i, none⟩ = some (.int .i64 cs[i])) := fun W hb => (hb.cell (p := ⟨g0, off0 + i, none⟩) hg).trans (hcs i hlt)
                have HZI : Hid (cs[i] ≤ 9223372036854775807) := HCI.out _ (List.getElem_mem hlt)
                have hlti : (i : Int) < (cs.length : Int) := by omega
                have hi0 : (0 : Int) ≤ (i : Int) := by omega
                clear hcs hg
                generalize cs[i] = z at *
                by_cases hz0 : 0 ≤ z
                · have hzd : decide (0 ≤ z) = true := decide_eq_true hz0
                  have HP3 : Hid (Ph D0 l true ({ x2 with left := cutL x2.left z } : Ab).D) := HP2.out
                  have HF3 : Hid (Fine ({ x2 with left := cutL x2.left z } : Ab)) := left_fine HF2.out (cut_bd HF2.out.lo HF2.out.hi HZI.out).1 (cut_bd HF2.out.lo HF2.out.hi HZI.out).2
                  have HCT : Hid (∀ W, PkA w1.heap.size W d1 x2 m (2097160 + i * 1048600 + 1) r1 F1 w2.heap.size F2 → Calls Tryz.prog 10 #[.pointer (some ⟨d1, 0, none⟩), .int .i64 z] W fun e' w' => e' = .returned (.int .i64 (cutE x2.left z)) ∧ PkA w1.heap.size w' d1 { x2 with left := cutL x2.left z } m (2097160 + i * 1048600 + 1 + 1) r1 F1 w2.heap.size F2 ∧ Below w1.heap.size W w') := fun W hB => hB.cut z HZI.out
                  generalize ({ x2 with left := cutL x2.left z } : Ab) = x3 at *
                  generalize cutE x2.left z = ce at *
                  have HRC : Hid (∀ W, PkA w1.heap.size W d1 x3 m (2097160 + i * 1048600 + 1 + 1) r1 F1 w2.heap.size F2 → Calls Tryz.prog 17 #[.pointer (some ⟨d1, 0, none⟩)] W fun e' w' => e' = .returned (.int .i64 (recA x3).1) ∧ PkA w1.heap.size w' d1 (recA x3).2 m (2097160 + i * 1048600 + 1 + 1 + 1048579) r1 F1 w2.heap.size F2 ∧ Below w1.heap.size W w') := fun W hB => hB.recov (HOR.out true x3 HP3.out) (by omega)
                  obtain ⟨hc7, hp7⟩ := HRP.out true x3 HF3.out HP3.out
                  have HP7 := hide3 hp7
                  clear hp7
                  generalize recA x3 = R3 at *
                  obtain ⟨c7, y7⟩ := R3
                  simp only at HRC hc7
                  generalize hkk : 2097160 + i * 1048600 + 1 + 1 + 1048579 = kz at *
                  have HKZ : Hid (kz ≤ 2097160 + (i + 1) * 1048600) := by unfold Hid; omega
                  clear hkk
                  rcases hc7 with rfl | rfl
                  all_goals
                    go_wp2_with (first
                      | (go_at_call 17; have _t := HX8; refine (HRC.out _ HT8.out).mono ?_; rintro f9 w9 ⟨rfl, ht9, hb9⟩; have HT9 := hide3 ht9; have HX9 := hide3 (HX8.out.trans hb9); clear ht9 hb9)
                      | (go_at_call 10; have _t := HX7; refine (HCT.out _ HT7.out).mono ?_; rintro f8 w8 ⟨rfl, ht8, hb8⟩; have HT8 := hide3 ht8; have HX8 := hide3 (HX7.out.trans hb8); clear ht8 hb8)
                      | (go_at_call 15; refine HUP.out.mono ?_; rintro f7 w7 ⟨rfl, ht7, hb7⟩; have HT7 := hide3 ht7; have HX7 := hide3 (HXR.out.trans hb7); have q7 := HCE.out w7 (HB1.out.trans (HX7.out.mono HB1.out.size)); clear ht7 hb7))
                    exact ⟨⟨i + 1, by omega, Or.inl (by omega), by go_num, HX9.out, y7, HT9.out.more HKZ.out, HP7.out⟩, by simp [intOf]; omega⟩
                · have hzd : decide (0 ≤ z) = false := decide_eq_false hz0
                  have HRC : Hid (∀ W, PkA w1.heap.size W d1 x2 m (2097160 + i * 1048600 + 1) r1 F1 w2.heap.size F2 → Calls Tryz.prog 17 #[.pointer (some ⟨d1, 0, none⟩)] W fun e' w' => e' = .returned (.int .i64 (recA x2).1) ∧ PkA w1.heap.size w' d1 (recA x2).2 m (2097160 + i * 1048600 + 1 + 1048579) r1 F1 w2.heap.size F2 ∧ Below w1.heap.size W w') := fun W hB => hB.recov (HOR.out true x2 HP2.out) (by omega)
                  obtain ⟨hc7, hp7⟩ := HRP.out true x2 HF2.out HP2.out
                  have HP7 := hide3 hp7
                  clear hp7
                  generalize recA x2 = R3 at *
                  obtain ⟨c7, y7⟩ := R3
                  simp only at HRC hc7
                  generalize hkk : 2097160 + i * 1048600 + 1 + 1048579 = kz at *
                  have HKZ : Hid (kz ≤ 2097160 + (i + 1) * 1048600) := by unfold Hid; omega
                  clear hkk
                  rcases hc7 with rfl | rfl
                  all_goals
                    go_wp2_with (first
                      | (go_at_call 17; have _t := HX7; refine (HRC.out _ HT7.out).mono ?_; rintro f9 w9 ⟨rfl, ht9, hb9⟩; have HT9 := hide3 ht9; have HX9 := hide3 (HX7.out.trans hb9); clear ht9 hb9)
                      | (go_at_call 15; refine HUP.out.mono ?_; rintro f7 w7 ⟨rfl, ht7, hb7⟩; have HT7 := hide3 ht7; have HX7 := hide3 (HXR.out.trans hb7); have q7 := HCE.out w7 (HB1.out.trans (HX7.out.mono HB1.out.size)); clear ht7 hb7))
                    exact ⟨⟨i + 1, by omega, Or.inl (by omega), by go_num, HX9.out, y7, HT9.out.more HKZ.out, HP7.out⟩, by simp [intOf]; omega⟩
              · have hlti : ¬ ((i : Int) < (cs.length : Int)) := by omega
                have HRC : Hid (∀ W, PkA w1.heap.size W d1 x2 m (2097160 + i * 1048600 + 1) r1 F1 w2.heap.size F2 → Calls Tryz.prog 17 #[.pointer (some ⟨d1, 0, none⟩)] W fun e' w' => e' = .returned (.int .i64 (recA x2).1) ∧ PkA w1.heap.size w' d1 (recA x2).2 m (2097160 + i * 1048600 + 1 + 1048579) r1 F1 w2.heap.size F2 ∧ Below w1.heap.size W w') := fun W hB => hB.recov (HOR.out true x2 HP2.out) (by omega)
                obtain ⟨hc7, hfl7, hk7⟩ := HLP.out true x2 HF2.out hlx HP2.out
                rw [if_pos rfl] at hfl7
                generalize recA x2 = R3 at *
                obtain ⟨c7, y7⟩ := R3
                simp only at HRC hc7 hfl7 hk7
                subst hc7
                generalize hkk : 2097160 + i * 1048600 + 1 + 1048579 = kz at *
                have HKZ : Hid (kz ≤ 2199023255552) := by unfold Hid; omega
                clear hkk
                have HKJ : Hid (∀ W, PkA w1.heap.size W d1 y7 m kz r1 F1 w2.heap.size F2 → Calls Tryz.prog 22 #[.pointer (some ⟨d1, 0, none⟩), .string ⟨#[47, 106, 111, 117, 114, 110, 97, 108]⟩] W fun e' w' => e' = .returned (.int .i64 0) ∧ PkA w1.heap.size w' d1 y7 m kz r1 F1 w2.heap.size F2 ∧ Below W.heap.size W w') := fun W hB => by
                  have := hB.pk.kind jn (by decide)
                  rw [hk7] at this
                  exact this.mono fun _ _ q => ⟨q.1, hB.below q.2, q.2⟩
                have HALL : Hid (∀ W, PkA w1.heap.size W d1 y7 m kz r1 F1 w2.heap.size F2 → F2.length ≤ 2199023255552 ∧ Calls Tryz.prog 24 #[.pointer (some ⟨d1, 0, none⟩)] W fun e' w' => ∃ ao cp, e' = .returned (.slice ao F2.length cp) ∧ w'.ownsRow W.heap.size 83 3 (.slice ao F2.length cp) F2.length (fileCells F2) ∧ Below W.heap.size W w') := fun W hB => by
                  have h1 := hB.pk.all HKZ.out
                  have h2 : (filesD y7.D).length ≤ 2199023255552 := by
                    obtain ⟨_, _, _, h3, _⟩ := hB
                    exact Nat.le_trans (files_facts h3.disk.own).2.1 (Nat.le_trans h3.lf HKZ.out)
                  rw [hfl7] at h1 h2
                  exact ⟨h2, h1⟩
                clear hfl7 hk7 hlx HP2 HPX
                go_wp2_with (first
                  | (go_at_call 22; have _t := HX8; refine (HKJ.out _ HT8.out).mono ?_; rintro f9 w9 ⟨rfl, ht9, hb9⟩; have HT9 := hide3 ht9; have HX9 := hide3 (HX8.out.trans (hb9.mono HX8.out.size)); clear ht9 hb9)
                  | (go_at_call 17; have _t := HX7; refine (HRC.out _ HT7.out).mono ?_; rintro f8 w8 ⟨rfl, ht8, hb8⟩; have HT8 := hide3 ht8; have HX8 := hide3 (HX7.out.trans hb8); clear ht8 hb8)
                  | (go_at_call 15; refine HUP.out.mono ?_; rintro f7 w7 ⟨rfl, ht7, hb7⟩; have HT7 := hide3 ht7; have HX7 := hide3 (HXR.out.trans hb7); clear ht7 hb7))
                obtain ⟨lo1, lc1, b1, hk1, hr1⟩ := HT9.out.old
                have HK1 := hide3 hk1
                have HR1 := hide3 hr1
                clear hk1 hr1
                obtain ⟨hgl, hal⟩ := HALL.out w9.drew (HT9.out.below (Below.refl _ _).drew)
                have HGL := hide3 hgl
                have HAL := hide3 hal
                clear hgl hal
                have q0 := HK1.out w9 (Below.refl _ _)
                go_region_held3 (fun w' => w'.cell? ⟨r1, 0, none⟩ = some (.slice lo1 F1.length lc1)) (go_keep)
                  (first
                    | (go_at_call 24; refine HAL.out.mono ?_; rintro f10 w10 ⟨ao10, cp10, rfl, hr10, hb10⟩; have HBX := hide3 ((Below.refl _ w9).drew.trans hb10); have q1 := HK1.out _ HBX.out; have HRW := hide3 hr10; clear hb10 hr10)
                    | (go_at_call 23; refine (files_bool F2 F1 HGL.out HRW.out (HR1.out _ HBX.out)).mono ?_; rintro f11 w11 ⟨⟨bx, rfl⟩, q, rfl⟩; have HBY := hide3 (below_draws18 HBX.out q); have q2 := HK1.out _ HBY.out))
                have HTX := hide3 (HT9.out.below HBY.out)
                have HXX := hide3 (HX9.out.trans (HBY.out.mono HX9.out.size))
                clear HBX HRW HAL q0 q1 q2 HK1 HR1 HBY
                generalize w10.drewN q = WX at *
                go_wp2_with fail
                obtain ⟨lo2, lc2, b2, hk2, hr2⟩ := HTX.out.want
                have HK2 := hide3 hk2
                have HR2 := hide3 hr2
                clear hk2 hr2
                obtain ⟨_, hal2⟩ := HALL.out WX.drew (HTX.out.below (Below.refl _ _).drew)
                have HAL2 := hide3 hal2
                clear hal2
                have q3 := HK2.out WX (Below.refl _ _)
                go_region_held3 (fun w' => w'.cell? ⟨w2.heap.size, 0, none⟩ = some (.slice lo2 F2.length lc2)) (go_keep)
                  (first
                    | (go_at_call 24; refine HAL2.out.mono ?_; rintro f12 w12 ⟨ao12, cp12, rfl, hr12, hb12⟩; have HBX := hide3 ((Below.refl _ WX).drew.trans hb12); have q4 := HK2.out _ HBX.out; have HRW := hide3 hr12; clear hb12 hr12)
                    | (go_at_call 23; refine (files_any F2 HGL.out HRW.out (HR2.out _ HBX.out)).mono ?_; rintro f13 w13 ⟨rfl, q9, rfl⟩; have HBY := hide3 (below_draws18 HBX.out q9); have q5 := HK2.out _ HBY.out))
                have HXY := hide3 (HXX.out.trans (HBY.out.mono HXX.out.size))
                clear HBX HRW HAL2 q3 q4 q5 HK2 HR2 HBY
                generalize w12.drewN q9 = WY at *
                go_wp2_with (go_at_call 9; refine (HLV.out _ (HB1.out.trans (HXY.out.mono HB1.out.size))).mono ?_; rintro f14 w14 ⟨rfl, hb14⟩; have HX14 := hide3 (HXY.out.trans (hb14.mono HXY.out.size)); clear hb14)
                go_ret
                exact ⟨rfl, HB1.out.trans (HX14.out.mono HB1.out.size)⟩
          · skip
            go_enter Tryz.func5, Tryz.ntmps5
            go_wp2_with (first
              | (go_at_call 21; have _t := HX5; refine (HRAW.out _ _ _ _ _ _ HT5.out).mono ?_; rintro f6 w6 ⟨ao6, cp6, rfl, ht6, hb6⟩; have HT6 := hide3 ht6; have HX6 := hide3 (HX5.out.trans (hb6.mono HX5.out.size)); clear ht6 hb6)
              | (go_at_call 12; have _t := HX4; refine (HCM.out _ _ _ _ _ _ _ HD1.out HX4.out (HT4.out)).mono ?_; rintro f5 w5 ⟨rfl, ht5, hb5⟩; have HT5 := hide3 ht5; have HX5 := hide3 (HX4.out.trans hb5); clear ht5 hb5)
              | (go_at_call 10; have _t := HX3; refine (HT3.out.cut z0 HZ0.out).mono ?_; rintro f4 w4 ⟨rfl, ht4, hb4⟩; have HT4 := hide3 ht4; have HX4 := hide3 (HX3.out.trans hb4); clear ht4 hb4)
              | (go_at_call 20; have _t := HX2; refine (HLG.out _ _ _ _ (HB1.out.trans (HX2.out.mono HB1.out.size)) HT2.out).mono ?_; rintro f3 w3 ⟨rfl, ht3, hb3⟩; have HT3 := hide3 ht3; have HX3 := hide3 (HX2.out.trans (hb3.mono HX2.out.size)); have q3 := HCE0.out w3 (HB1.out.trans (HX3.out.mono HB1.out.size)); clear ht3 hb3)
              | (go_at_call 8; have _t := HB1; refine (HDK.out _ HB1.out).mono ?_; rintro f2 w2 ⟨d1, r1, rfl, ht2, hb2⟩; have HT2 := hide3 ht2; have HX2 := hide3 hb2; clear ht2 hb2)
              | (go_at_call 19; refine HDE.out.mono ?_; rintro f1 w1 ⟨a3, c3, rfl, hd1, hb1⟩; have HD1 := hide3 hd1; have HB1 := hide3 hb1; clear hd1 hb1))
            clear HCM HRAW HDE HDK HLG q3
            go_loopw [16] (fun v16 wr => ∃ i : Nat, 1 ≤ i ∧ (i ≤ cs.length ∨ i = 1) ∧ v16 = .int .i64 i ∧ Below w1.heap.size w1 wr ∧ ∃ x, PkA w1.heap.size wr d1 x m (2097160 + i * 1048600) r1 F1 w2.heap.size F2 ∧ Ph D0 l true x.D) (fun v16 _ => cs.length + 1 - (intOf v16).toNat)
            case atStart => exact ⟨1, Nat.le_refl _, Or.inr rfl, rfl, HX6.out, y1, HT6.out.more (by omega), HPH.out⟩
            case round =>
              obtain ⟨i, hi1, hi2, rfl, hxr, x, htx, hpx⟩ := hrel
              have HXR := hide3 hxr
              have HPX := hide3 hpx
              have HUP := hide3 htx.up
              have HF2 : Hid (Fine ({ x with left := -1 } : Ab)) := left_fine htx.fine (by decide) (by decide)
              have HP2 : Hid (Ph D0 l true ({ x with left := -1 } : Ab).D) := hpx
              have hlx : ({ x with left := -1 } : Ab).left = -1 := rfl
              clear hxr hpx htx HX6 HT6
              generalize ({ x with left := -1 } : Ab) = x2 at *
              by_cases hlt : i < cs.length
              · obtain ⟨g, off, hgo, hg, hcs⟩ : ∃ g off, (some ⟨g0, off0, none⟩ : Option Addr) = some ⟨g, off, none⟩ ∧ g < w.heap.size ∧ ∀ j (hj : j < cs.length), w.cell? ⟨g, off + j, none⟩ = some (.int .i64 cs[j]) := by
                  rcases HIN.out w (Below.refl _ _) with q | q
                  · rw [q] at hlt; exact absurd hlt (Nat.not_lt_zero _)
                  · exact q
                cases hgo
                have HCE : Hid (∀ W, Below w.heap.size w W → W.cell? ⟨g0, off0 + i, none⟩ = some (.int .i64 cs[i])) := fun W hb => (hb.cell (p := ⟨g0, off0 + i, none⟩) hg).trans (hcs i hlt)
                have HZI : Hid (cs[i] ≤ 9223372036854775807) := HCI.out _ (List.getElem_mem hlt)
                have hlti : (i : Int) < (cs.length : Int) := by omega
                have hi0 : (0 : Int) ≤ (i : Int) := by omega
                clear hcs hg
                generalize cs[i] = z at *
                by_cases hz0 : 0 ≤ z
                · have hzd : decide (0 ≤ z) = true := decide_eq_true hz0
                  have HP3 : Hid (Ph D0 l true ({ x2 with left := cutL x2.left z } : Ab).D) := HP2.out
                  have HF3 : Hid (Fine ({ x2 with left := cutL x2.left z } : Ab)) := left_fine HF2.out (cut_bd HF2.out.lo HF2.out.hi HZI.out).1 (cut_bd HF2.out.lo HF2.out.hi HZI.out).2
                  have HCT : Hid (∀ W, PkA w1.heap.size W d1 x2 m (2097160 + i * 1048600 + 1) r1 F1 w2.heap.size F2 → Calls Tryz.prog 10 #[.pointer (some ⟨d1, 0, none⟩), .int .i64 z] W fun e' w' => e' = .returned (.int .i64 (cutE x2.left z)) ∧ PkA w1.heap.size w' d1 { x2 with left := cutL x2.left z } m (2097160 + i * 1048600 + 1 + 1) r1 F1 w2.heap.size F2 ∧ Below w1.heap.size W w') := fun W hB => hB.cut z HZI.out
                  generalize ({ x2 with left := cutL x2.left z } : Ab) = x3 at *
                  generalize cutE x2.left z = ce at *
                  have HRC : Hid (∀ W, PkA w1.heap.size W d1 x3 m (2097160 + i * 1048600 + 1 + 1) r1 F1 w2.heap.size F2 → Calls Tryz.prog 17 #[.pointer (some ⟨d1, 0, none⟩)] W fun e' w' => e' = .returned (.int .i64 (recA x3).1) ∧ PkA w1.heap.size w' d1 (recA x3).2 m (2097160 + i * 1048600 + 1 + 1 + 1048579) r1 F1 w2.heap.size F2 ∧ Below w1.heap.size W w') := fun W hB => hB.recov (HOR.out true x3 HP3.out) (by omega)
                  obtain ⟨hc7, hp7⟩ := HRP.out true x3 HF3.out HP3.out
                  have HP7 := hide3 hp7
                  clear hp7
                  generalize recA x3 = R3 at *
                  obtain ⟨c7, y7⟩ := R3
                  simp only at HRC hc7
                  generalize hkk : 2097160 + i * 1048600 + 1 + 1 + 1048579 = kz at *
                  have HKZ : Hid (kz ≤ 2097160 + (i + 1) * 1048600) := by unfold Hid; omega
                  clear hkk
                  rcases hc7 with rfl | rfl
                  all_goals
                    go_wp2_with (first
                      | (go_at_call 17; have _t := HX8; refine (HRC.out _ HT8.out).mono ?_; rintro f9 w9 ⟨rfl, ht9, hb9⟩; have HT9 := hide3 ht9; have HX9 := hide3 (HX8.out.trans hb9); clear ht9 hb9)
                      | (go_at_call 10; have _t := HX7; refine (HCT.out _ HT7.out).mono ?_; rintro f8 w8 ⟨rfl, ht8, hb8⟩; have HT8 := hide3 ht8; have HX8 := hide3 (HX7.out.trans hb8); clear ht8 hb8)
                      | (go_at_call 15; refine HUP.out.mono ?_; rintro f7 w7 ⟨rfl, ht7, hb7⟩; have HT7 := hide3 ht7; have HX7 := hide3 (HXR.out.trans hb7); have q7 := HCE.out w7 (HB1.out.trans (HX7.out.mono HB1.out.size)); clear ht7 hb7))
                    exact ⟨⟨i + 1, by omega, Or.inl (by omega), by go_num, HX9.out, y7, HT9.out.more HKZ.out, HP7.out⟩, by simp [intOf]; omega⟩
                · have hzd : decide (0 ≤ z) = false := decide_eq_false hz0
                  have HRC : Hid (∀ W, PkA w1.heap.size W d1 x2 m (2097160 + i * 1048600 + 1) r1 F1 w2.heap.size F2 → Calls Tryz.prog 17 #[.pointer (some ⟨d1, 0, none⟩)] W fun e' w' => e' = .returned (.int .i64 (recA x2).1) ∧ PkA w1.heap.size w' d1 (recA x2).2 m (2097160 + i * 1048600 + 1 + 1048579) r1 F1 w2.heap.size F2 ∧ Below w1.heap.size W w') := fun W hB => hB.recov (HOR.out true x2 HP2.out) (by omega)
                  obtain ⟨hc7, hp7⟩ := HRP.out true x2 HF2.out HP2.out
                  have HP7 := hide3 hp7
                  clear hp7
                  generalize recA x2 = R3 at *
                  obtain ⟨c7, y7⟩ := R3
                  simp only at HRC hc7
                  generalize hkk : 2097160 + i * 1048600 + 1 + 1048579 = kz at *
                  have HKZ : Hid (kz ≤ 2097160 + (i + 1) * 1048600) := by unfold Hid; omega
                  clear hkk
                  rcases hc7 with rfl | rfl
                  all_goals
                    go_wp2_with (first
                      | (go_at_call 17; have _t := HX7; refine (HRC.out _ HT7.out).mono ?_; rintro f9 w9 ⟨rfl, ht9, hb9⟩; have HT9 := hide3 ht9; have HX9 := hide3 (HX7.out.trans hb9); clear ht9 hb9)
                      | (go_at_call 15; refine HUP.out.mono ?_; rintro f7 w7 ⟨rfl, ht7, hb7⟩; have HT7 := hide3 ht7; have HX7 := hide3 (HXR.out.trans hb7); have q7 := HCE.out w7 (HB1.out.trans (HX7.out.mono HB1.out.size)); clear ht7 hb7))
                    exact ⟨⟨i + 1, by omega, Or.inl (by omega), by go_num, HX9.out, y7, HT9.out.more HKZ.out, HP7.out⟩, by simp [intOf]; omega⟩
              · have hlti : ¬ ((i : Int) < (cs.length : Int)) := by omega
                have HRC : Hid (∀ W, PkA w1.heap.size W d1 x2 m (2097160 + i * 1048600 + 1) r1 F1 w2.heap.size F2 → Calls Tryz.prog 17 #[.pointer (some ⟨d1, 0, none⟩)] W fun e' w' => e' = .returned (.int .i64 (recA x2).1) ∧ PkA w1.heap.size w' d1 (recA x2).2 m (2097160 + i * 1048600 + 1 + 1048579) r1 F1 w2.heap.size F2 ∧ Below w1.heap.size W w') := fun W hB => hB.recov (HOR.out true x2 HP2.out) (by omega)
                obtain ⟨hc7, hfl7, hk7⟩ := HLP.out true x2 HF2.out hlx HP2.out
                rw [if_pos rfl] at hfl7
                generalize recA x2 = R3 at *
                obtain ⟨c7, y7⟩ := R3
                simp only at HRC hc7 hfl7 hk7
                subst hc7
                generalize hkk : 2097160 + i * 1048600 + 1 + 1048579 = kz at *
                have HKZ : Hid (kz ≤ 2199023255552) := by unfold Hid; omega
                clear hkk
                have HKJ : Hid (∀ W, PkA w1.heap.size W d1 y7 m kz r1 F1 w2.heap.size F2 → Calls Tryz.prog 22 #[.pointer (some ⟨d1, 0, none⟩), .string ⟨#[47, 106, 111, 117, 114, 110, 97, 108]⟩] W fun e' w' => e' = .returned (.int .i64 0) ∧ PkA w1.heap.size w' d1 y7 m kz r1 F1 w2.heap.size F2 ∧ Below W.heap.size W w') := fun W hB => by
                  have := hB.pk.kind jn (by decide)
                  rw [hk7] at this
                  exact this.mono fun _ _ q => ⟨q.1, hB.below q.2, q.2⟩
                have HALL : Hid (∀ W, PkA w1.heap.size W d1 y7 m kz r1 F1 w2.heap.size F2 → F2.length ≤ 2199023255552 ∧ Calls Tryz.prog 24 #[.pointer (some ⟨d1, 0, none⟩)] W fun e' w' => ∃ ao cp, e' = .returned (.slice ao F2.length cp) ∧ w'.ownsRow W.heap.size 83 3 (.slice ao F2.length cp) F2.length (fileCells F2) ∧ Below W.heap.size W w') := fun W hB => by
                  have h1 := hB.pk.all HKZ.out
                  have h2 : (filesD y7.D).length ≤ 2199023255552 := by
                    obtain ⟨_, _, _, h3, _⟩ := hB
                    exact Nat.le_trans (files_facts h3.disk.own).2.1 (Nat.le_trans h3.lf HKZ.out)
                  rw [hfl7] at h1 h2
                  exact ⟨h2, h1⟩
                clear hfl7 hk7 hlx HP2 HPX
                go_wp2_with (first
                  | (go_at_call 22; have _t := HX8; refine (HKJ.out _ HT8.out).mono ?_; rintro f9 w9 ⟨rfl, ht9, hb9⟩; have HT9 := hide3 ht9; have HX9 := hide3 (HX8.out.trans (hb9.mono HX8.out.size)); clear ht9 hb9)
                  | (go_at_call 17; have _t := HX7; refine (HRC.out _ HT7.out).mono ?_; rintro f8 w8 ⟨rfl, ht8, hb8⟩; have HT8 := hide3 ht8; have HX8 := hide3 (HX7.out.trans hb8); clear ht8 hb8)
                  | (go_at_call 15; refine HUP.out.mono ?_; rintro f7 w7 ⟨rfl, ht7, hb7⟩; have HT7 := hide3 ht7; have HX7 := hide3 (HXR.out.trans hb7); clear ht7 hb7))
                obtain ⟨lo1, lc1, b1, hk1, hr1⟩ := HT9.out.old
                have HK1 := hide3 hk1
                have HR1 := hide3 hr1
                clear hk1 hr1
                obtain ⟨hgl, hal⟩ := HALL.out w9.drew (HT9.out.below (Below.refl _ _).drew)
                have HGL := hide3 hgl
                have HAL := hide3 hal
                clear hgl hal
                have q0 := HK1.out w9 (Below.refl _ _)
                go_region_held3 (fun w' => w'.cell? ⟨r1, 0, none⟩ = some (.slice lo1 F1.length lc1)) (go_keep)
                  (first
                    | (go_at_call 24; refine HAL.out.mono ?_; rintro f10 w10 ⟨ao10, cp10, rfl, hr10, hb10⟩; have HBX := hide3 ((Below.refl _ w9).drew.trans hb10); have q1 := HK1.out _ HBX.out; have HRW := hide3 hr10; clear hb10 hr10)
                    | (go_at_call 23; refine (files_bool F2 F1 HGL.out HRW.out (HR1.out _ HBX.out)).mono ?_; rintro f11 w11 ⟨⟨bx, rfl⟩, q, rfl⟩; have HBY := hide3 (below_draws18 HBX.out q); have q2 := HK1.out _ HBY.out))
                have HTX := hide3 (HT9.out.below HBY.out)
                have HXX := hide3 (HX9.out.trans (HBY.out.mono HX9.out.size))
                clear HBX HRW HAL q0 q1 q2 HK1 HR1 HBY
                generalize w10.drewN q = WX at *
                go_wp2_with fail
                obtain ⟨lo2, lc2, b2, hk2, hr2⟩ := HTX.out.want
                have HK2 := hide3 hk2
                have HR2 := hide3 hr2
                clear hk2 hr2
                obtain ⟨_, hal2⟩ := HALL.out WX.drew (HTX.out.below (Below.refl _ _).drew)
                have HAL2 := hide3 hal2
                clear hal2
                have q3 := HK2.out WX (Below.refl _ _)
                go_region_held3 (fun w' => w'.cell? ⟨w2.heap.size, 0, none⟩ = some (.slice lo2 F2.length lc2)) (go_keep)
                  (first
                    | (go_at_call 24; refine HAL2.out.mono ?_; rintro f12 w12 ⟨ao12, cp12, rfl, hr12, hb12⟩; have HBX := hide3 ((Below.refl _ WX).drew.trans hb12); have q4 := HK2.out _ HBX.out; have HRW := hide3 hr12; clear hb12 hr12)
                    | (go_at_call 23; refine (files_any F2 HGL.out HRW.out (HR2.out _ HBX.out)).mono ?_; rintro f13 w13 ⟨rfl, q9, rfl⟩; have HBY := hide3 (below_draws18 HBX.out q9); have q5 := HK2.out _ HBY.out))
                have HXY := hide3 (HXX.out.trans (HBY.out.mono HXX.out.size))
                clear HBX HRW HAL2 q3 q4 q5 HK2 HR2 HBY
                generalize w12.drewN q9 = WY at *
                go_wp2_with (go_at_call 9; refine (HLV.out _ (HB1.out.trans (HXY.out.mono HB1.out.size))).mono ?_; rintro f14 w14 ⟨rfl, hb14⟩; have HX14 := hide3 (HXY.out.trans (hb14.mono HXY.out.size)); clear hb14)
                go_ret
                exact ⟨rfl, HB1.out.trans (HX14.out.mono HB1.out.size)⟩
      · have hz0d : decide (0 ≤ z0) = false := decide_eq_false hz0
        have HCM := hide3 (HCOM.out (-1))
        have HPC := hide3 (HPHC.out (-1) (by decide) (by decide))
        clear HCOM HPHC
        generalize commitA l ⟨D0, [], -1⟩ = Y1 at *
        obtain ⟨c1, y1⟩ := Y1
        simp only at HCM HPC
        obtain ⟨hc1, hcase⟩ := HPC.out
        clear HPC
        rcases hcase with ⟨hn, hz, hph⟩ | ⟨hn, hph⟩
        · have HPH := hide3 hph
          have hn3 : decide (3 ≤ (y1.rs.length : Int)) = false := decide_eq_false (by omega)
          have hn4 : decide (3 ≤ y1.rs.length) = false := decide_eq_false (by omega)
          clear hph hn
          rcases hc1 with rfl | rfl
          · have hl0 := hz rfl
            have hl3 : decide (0 < (l.length : Int)) = false := decide_eq_false (by omega)
            have hl4 : decide (0 < l.length) = false := decide_eq_false (by omega)
            clear hl0 hz
            go_enter Tryz.func5, Tryz.ntmps5
            go_wp2_with (first
              | (go_at_call 21; have _t := HX5; refine (HRAW.out _ _ _ _ _ _ HT5.out).mono ?_; rintro f6 w6 ⟨ao6, cp6, rfl, ht6, hb6⟩; have HT6 := hide3 ht6; have HX6 := hide3 (HX5.out.trans (hb6.mono HX5.out.size)); clear ht6 hb6)
              | (go_at_call 12; have _t := HX3; refine (HCM.out _ _ _ _ _ _ _ HD1.out HX3.out (HT3.out.more (Nat.le_succ _))).mono ?_; rintro f5 w5 ⟨rfl, ht5, hb5⟩; have HT5 := hide3 ht5; have HX5 := hide3 (HX3.out.trans hb5); clear ht5 hb5)
              | (go_at_call 20; have _t := HX2; refine (HLG.out _ _ _ _ (HB1.out.trans (HX2.out.mono HB1.out.size)) HT2.out).mono ?_; rintro f3 w3 ⟨rfl, ht3, hb3⟩; have HT3 := hide3 ht3; have HX3 := hide3 (HX2.out.trans (hb3.mono HX2.out.size)); have q3 := HCE0.out w3 (HB1.out.trans (HX3.out.mono HB1.out.size)); clear ht3 hb3)
              | (go_at_call 8; have _t := HB1; refine (HDK.out _ HB1.out).mono ?_; rintro f2 w2 ⟨d1, r1, rfl, ht2, hb2⟩; have HT2 := hide3 ht2; have HX2 := hide3 hb2; clear ht2 hb2)
              | (go_at_call 19; refine HDE.out.mono ?_; rintro f1 w1 ⟨a3, c3, rfl, hd1, hb1⟩; have HD1 := hide3 hd1; have HB1 := hide3 hb1; clear hd1 hb1))
            clear HCM HRAW HDE HDK HLG q3
            go_loopw [16] (fun v16 wr => ∃ i : Nat, 1 ≤ i ∧ (i ≤ cs.length ∨ i = 1) ∧ v16 = .int .i64 i ∧ Below w1.heap.size w1 wr ∧ ∃ x, PkA w1.heap.size wr d1 x m (2097160 + i * 1048600) r1 F1 w2.heap.size F2 ∧ Ph D0 l false x.D) (fun v16 _ => cs.length + 1 - (intOf v16).toNat)
            case atStart => exact ⟨1, Nat.le_refl _, Or.inr rfl, rfl, HX6.out, y1, HT6.out.more (by omega), HPH.out⟩
            case round =>
              obtain ⟨i, hi1, hi2, rfl, hxr, x, htx, hpx⟩ := hrel
              have HXR := hide3 hxr
              have HPX := hide3 hpx
              have HUP := hide3 htx.up
              have HF2 : Hid (Fine ({ x with left := -1 } : Ab)) := left_fine htx.fine (by decide) (by decide)
              have HP2 : Hid (Ph D0 l false ({ x with left := -1 } : Ab).D) := hpx
              have hlx : ({ x with left := -1 } : Ab).left = -1 := rfl
              clear hxr hpx htx HX6 HT6
              generalize ({ x with left := -1 } : Ab) = x2 at *
              by_cases hlt : i < cs.length
              · obtain ⟨g, off, hgo, hg, hcs⟩ : ∃ g off, (some ⟨g0, off0, none⟩ : Option Addr) = some ⟨g, off, none⟩ ∧ g < w.heap.size ∧ ∀ j (hj : j < cs.length), w.cell? ⟨g, off + j, none⟩ = some (.int .i64 cs[j]) := by
                  rcases HIN.out w (Below.refl _ _) with q | q
                  · rw [q] at hlt; exact absurd hlt (Nat.not_lt_zero _)
                  · exact q
                cases hgo
                have HCE : Hid (∀ W, Below w.heap.size w W → W.cell? ⟨g0, off0 + i, none⟩ = some (.int .i64 cs[i])) := fun W hb => (hb.cell (p := ⟨g0, off0 + i, none⟩) hg).trans (hcs i hlt)
                have HZI : Hid (cs[i] ≤ 9223372036854775807) := HCI.out _ (List.getElem_mem hlt)
                have hlti : (i : Int) < (cs.length : Int) := by omega
                have hi0 : (0 : Int) ≤ (i : Int) := by omega
                clear hcs hg
                generalize cs[i] = z at *
                by_cases hz0 : 0 ≤ z
                · have hzd : decide (0 ≤ z) = true := decide_eq_true hz0
                  have HP3 : Hid (Ph D0 l false ({ x2 with left := cutL x2.left z } : Ab).D) := HP2.out
                  have HF3 : Hid (Fine ({ x2 with left := cutL x2.left z } : Ab)) := left_fine HF2.out (cut_bd HF2.out.lo HF2.out.hi HZI.out).1 (cut_bd HF2.out.lo HF2.out.hi HZI.out).2
                  have HCT : Hid (∀ W, PkA w1.heap.size W d1 x2 m (2097160 + i * 1048600 + 1) r1 F1 w2.heap.size F2 → Calls Tryz.prog 10 #[.pointer (some ⟨d1, 0, none⟩), .int .i64 z] W fun e' w' => e' = .returned (.int .i64 (cutE x2.left z)) ∧ PkA w1.heap.size w' d1 { x2 with left := cutL x2.left z } m (2097160 + i * 1048600 + 1 + 1) r1 F1 w2.heap.size F2 ∧ Below w1.heap.size W w') := fun W hB => hB.cut z HZI.out
                  generalize ({ x2 with left := cutL x2.left z } : Ab) = x3 at *
                  generalize cutE x2.left z = ce at *
                  have HRC : Hid (∀ W, PkA w1.heap.size W d1 x3 m (2097160 + i * 1048600 + 1 + 1) r1 F1 w2.heap.size F2 → Calls Tryz.prog 17 #[.pointer (some ⟨d1, 0, none⟩)] W fun e' w' => e' = .returned (.int .i64 (recA x3).1) ∧ PkA w1.heap.size w' d1 (recA x3).2 m (2097160 + i * 1048600 + 1 + 1 + 1048579) r1 F1 w2.heap.size F2 ∧ Below w1.heap.size W w') := fun W hB => hB.recov (HOR.out false x3 HP3.out) (by omega)
                  obtain ⟨hc7, hp7⟩ := HRP.out false x3 HF3.out HP3.out
                  have HP7 := hide3 hp7
                  clear hp7
                  generalize recA x3 = R3 at *
                  obtain ⟨c7, y7⟩ := R3
                  simp only at HRC hc7
                  generalize hkk : 2097160 + i * 1048600 + 1 + 1 + 1048579 = kz at *
                  have HKZ : Hid (kz ≤ 2097160 + (i + 1) * 1048600) := by unfold Hid; omega
                  clear hkk
                  rcases hc7 with rfl | rfl
                  all_goals
                    go_wp2_with (first
                      | (go_at_call 17; have _t := HX8; refine (HRC.out _ HT8.out).mono ?_; rintro f9 w9 ⟨rfl, ht9, hb9⟩; have HT9 := hide3 ht9; have HX9 := hide3 (HX8.out.trans hb9); clear ht9 hb9)
                      | (go_at_call 10; have _t := HX7; refine (HCT.out _ HT7.out).mono ?_; rintro f8 w8 ⟨rfl, ht8, hb8⟩; have HT8 := hide3 ht8; have HX8 := hide3 (HX7.out.trans hb8); clear ht8 hb8)
                      | (go_at_call 15; refine HUP.out.mono ?_; rintro f7 w7 ⟨rfl, ht7, hb7⟩; have HT7 := hide3 ht7; have HX7 := hide3 (HXR.out.trans hb7); have q7 := HCE.out w7 (HB1.out.trans (HX7.out.mono HB1.out.size)); clear ht7 hb7))
                    exact ⟨⟨i + 1, by omega, Or.inl (by omega), by go_num, HX9.out, y7, HT9.out.more HKZ.out, HP7.out⟩, by simp [intOf]; omega⟩
                · have hzd : decide (0 ≤ z) = false := decide_eq_false hz0
                  have HRC : Hid (∀ W, PkA w1.heap.size W d1 x2 m (2097160 + i * 1048600 + 1) r1 F1 w2.heap.size F2 → Calls Tryz.prog 17 #[.pointer (some ⟨d1, 0, none⟩)] W fun e' w' => e' = .returned (.int .i64 (recA x2).1) ∧ PkA w1.heap.size w' d1 (recA x2).2 m (2097160 + i * 1048600 + 1 + 1048579) r1 F1 w2.heap.size F2 ∧ Below w1.heap.size W w') := fun W hB => hB.recov (HOR.out false x2 HP2.out) (by omega)
                  obtain ⟨hc7, hp7⟩ := HRP.out false x2 HF2.out HP2.out
                  have HP7 := hide3 hp7
                  clear hp7
                  generalize recA x2 = R3 at *
                  obtain ⟨c7, y7⟩ := R3
                  simp only at HRC hc7
                  generalize hkk : 2097160 + i * 1048600 + 1 + 1048579 = kz at *
                  have HKZ : Hid (kz ≤ 2097160 + (i + 1) * 1048600) := by unfold Hid; omega
                  clear hkk
                  rcases hc7 with rfl | rfl
                  all_goals
                    go_wp2_with (first
                      | (go_at_call 17; have _t := HX7; refine (HRC.out _ HT7.out).mono ?_; rintro f9 w9 ⟨rfl, ht9, hb9⟩; have HT9 := hide3 ht9; have HX9 := hide3 (HX7.out.trans hb9); clear ht9 hb9)
                      | (go_at_call 15; refine HUP.out.mono ?_; rintro f7 w7 ⟨rfl, ht7, hb7⟩; have HT7 := hide3 ht7; have HX7 := hide3 (HXR.out.trans hb7); have q7 := HCE.out w7 (HB1.out.trans (HX7.out.mono HB1.out.size)); clear ht7 hb7))
                    exact ⟨⟨i + 1, by omega, Or.inl (by omega), by go_num, HX9.out, y7, HT9.out.more HKZ.out, HP7.out⟩, by simp [intOf]; omega⟩
              · have hlti : ¬ ((i : Int) < (cs.length : Int)) := by omega
                have HRC : Hid (∀ W, PkA w1.heap.size W d1 x2 m (2097160 + i * 1048600 + 1) r1 F1 w2.heap.size F2 → Calls Tryz.prog 17 #[.pointer (some ⟨d1, 0, none⟩)] W fun e' w' => e' = .returned (.int .i64 (recA x2).1) ∧ PkA w1.heap.size w' d1 (recA x2).2 m (2097160 + i * 1048600 + 1 + 1048579) r1 F1 w2.heap.size F2 ∧ Below w1.heap.size W w') := fun W hB => hB.recov (HOR.out false x2 HP2.out) (by omega)
                obtain ⟨hc7, hfl7, hk7⟩ := HLP.out false x2 HF2.out hlx HP2.out
                rw [if_neg (by decide)] at hfl7
                generalize recA x2 = R3 at *
                obtain ⟨c7, y7⟩ := R3
                simp only at HRC hc7 hfl7 hk7
                subst hc7
                generalize hkk : 2097160 + i * 1048600 + 1 + 1048579 = kz at *
                have HKZ : Hid (kz ≤ 2199023255552) := by unfold Hid; omega
                clear hkk
                have HKJ : Hid (∀ W, PkA w1.heap.size W d1 y7 m kz r1 F1 w2.heap.size F2 → Calls Tryz.prog 22 #[.pointer (some ⟨d1, 0, none⟩), .string ⟨#[47, 106, 111, 117, 114, 110, 97, 108]⟩] W fun e' w' => e' = .returned (.int .i64 0) ∧ PkA w1.heap.size w' d1 y7 m kz r1 F1 w2.heap.size F2 ∧ Below W.heap.size W w') := fun W hB => by
                  have := hB.pk.kind jn (by decide)
                  rw [hk7] at this
                  exact this.mono fun _ _ q => ⟨q.1, hB.below q.2, q.2⟩
                have HALL : Hid (∀ W, PkA w1.heap.size W d1 y7 m kz r1 F1 w2.heap.size F2 → F1.length ≤ 2199023255552 ∧ Calls Tryz.prog 24 #[.pointer (some ⟨d1, 0, none⟩)] W fun e' w' => ∃ ao cp, e' = .returned (.slice ao F1.length cp) ∧ w'.ownsRow W.heap.size 83 3 (.slice ao F1.length cp) F1.length (fileCells F1) ∧ Below W.heap.size W w') := fun W hB => by
                  have h1 := hB.pk.all HKZ.out
                  have h2 : (filesD y7.D).length ≤ 2199023255552 := by
                    obtain ⟨_, _, _, h3, _⟩ := hB
                    exact Nat.le_trans (files_facts h3.disk.own).2.1 (Nat.le_trans h3.lf HKZ.out)
                  rw [hfl7] at h1 h2
                  exact ⟨h2, h1⟩
                clear hfl7 hk7 hlx HP2 HPX
                go_wp2_with (first
                  | (go_at_call 22; have _t := HX8; refine (HKJ.out _ HT8.out).mono ?_; rintro f9 w9 ⟨rfl, ht9, hb9⟩; have HT9 := hide3 ht9; have HX9 := hide3 (HX8.out.trans (hb9.mono HX8.out.size)); clear ht9 hb9)
                  | (go_at_call 17; have _t := HX7; refine (HRC.out _ HT7.out).mono ?_; rintro f8 w8 ⟨rfl, ht8, hb8⟩; have HT8 := hide3 ht8; have HX8 := hide3 (HX7.out.trans hb8); clear ht8 hb8)
                  | (go_at_call 15; refine HUP.out.mono ?_; rintro f7 w7 ⟨rfl, ht7, hb7⟩; have HT7 := hide3 ht7; have HX7 := hide3 (HXR.out.trans hb7); clear ht7 hb7))
                obtain ⟨lo1, lc1, b1, hk1, hr1⟩ := HT9.out.old
                have HK1 := hide3 hk1
                have HR1 := hide3 hr1
                clear hk1 hr1
                obtain ⟨hgl, hal⟩ := HALL.out w9.drew (HT9.out.below (Below.refl _ _).drew)
                have HGL := hide3 hgl
                have HAL := hide3 hal
                clear hgl hal
                have q0 := HK1.out w9 (Below.refl _ _)
                go_region_held3 (fun w' => w'.cell? ⟨r1, 0, none⟩ = some (.slice lo1 F1.length lc1)) (go_keep)
                  (first
                    | (go_at_call 24; refine HAL.out.mono ?_; rintro f10 w10 ⟨ao10, cp10, rfl, hr10, hb10⟩; have HBX := hide3 ((Below.refl _ w9).drew.trans hb10); have q1 := HK1.out _ HBX.out; have HRW := hide3 hr10; clear hb10 hr10)
                    | (go_at_call 23; refine (files_any F1 HGL.out HRW.out (HR1.out _ HBX.out)).mono ?_; rintro f11 w11 ⟨rfl, q, rfl⟩; have HBY := hide3 (below_draws18 HBX.out q); have q2 := HK1.out _ HBY.out))
                have HTX := hide3 (HT9.out.below HBY.out)
                have HXX := hide3 (HX9.out.trans (HBY.out.mono HX9.out.size))
                clear HBX HRW HAL q0 q1 q2 HK1 HR1
                generalize w10.drewN q = WX at *
                go_wp2_with (go_at_call 9; refine (HLV.out _ (HB1.out.trans (HXX.out.mono HB1.out.size))).mono ?_; rintro f12 w12 ⟨rfl, hb12⟩; have HX12 := hide3 (HXX.out.trans (hb12.mono HXX.out.size)); clear hb12)
                go_ret
                exact ⟨rfl, HB1.out.trans (HX12.out.mono HB1.out.size)⟩
          · clear hz
            go_enter Tryz.func5, Tryz.ntmps5
            go_wp2_with (first
              | (go_at_call 21; have _t := HX5; refine (HRAW.out _ _ _ _ _ _ HT5.out).mono ?_; rintro f6 w6 ⟨ao6, cp6, rfl, ht6, hb6⟩; have HT6 := hide3 ht6; have HX6 := hide3 (HX5.out.trans (hb6.mono HX5.out.size)); clear ht6 hb6)
              | (go_at_call 12; have _t := HX3; refine (HCM.out _ _ _ _ _ _ _ HD1.out HX3.out (HT3.out.more (Nat.le_succ _))).mono ?_; rintro f5 w5 ⟨rfl, ht5, hb5⟩; have HT5 := hide3 ht5; have HX5 := hide3 (HX3.out.trans hb5); clear ht5 hb5)
              | (go_at_call 20; have _t := HX2; refine (HLG.out _ _ _ _ (HB1.out.trans (HX2.out.mono HB1.out.size)) HT2.out).mono ?_; rintro f3 w3 ⟨rfl, ht3, hb3⟩; have HT3 := hide3 ht3; have HX3 := hide3 (HX2.out.trans (hb3.mono HX2.out.size)); have q3 := HCE0.out w3 (HB1.out.trans (HX3.out.mono HB1.out.size)); clear ht3 hb3)
              | (go_at_call 8; have _t := HB1; refine (HDK.out _ HB1.out).mono ?_; rintro f2 w2 ⟨d1, r1, rfl, ht2, hb2⟩; have HT2 := hide3 ht2; have HX2 := hide3 hb2; clear ht2 hb2)
              | (go_at_call 19; refine HDE.out.mono ?_; rintro f1 w1 ⟨a3, c3, rfl, hd1, hb1⟩; have HD1 := hide3 hd1; have HB1 := hide3 hb1; clear hd1 hb1))
            clear HCM HRAW HDE HDK HLG q3
            go_loopw [16] (fun v16 wr => ∃ i : Nat, 1 ≤ i ∧ (i ≤ cs.length ∨ i = 1) ∧ v16 = .int .i64 i ∧ Below w1.heap.size w1 wr ∧ ∃ x, PkA w1.heap.size wr d1 x m (2097160 + i * 1048600) r1 F1 w2.heap.size F2 ∧ Ph D0 l false x.D) (fun v16 _ => cs.length + 1 - (intOf v16).toNat)
            case atStart => exact ⟨1, Nat.le_refl _, Or.inr rfl, rfl, HX6.out, y1, HT6.out.more (by omega), HPH.out⟩
            case round =>
              obtain ⟨i, hi1, hi2, rfl, hxr, x, htx, hpx⟩ := hrel
              have HXR := hide3 hxr
              have HPX := hide3 hpx
              have HUP := hide3 htx.up
              have HF2 : Hid (Fine ({ x with left := -1 } : Ab)) := left_fine htx.fine (by decide) (by decide)
              have HP2 : Hid (Ph D0 l false ({ x with left := -1 } : Ab).D) := hpx
              have hlx : ({ x with left := -1 } : Ab).left = -1 := rfl
              clear hxr hpx htx HX6 HT6
              generalize ({ x with left := -1 } : Ab) = x2 at *
              by_cases hlt : i < cs.length
              · obtain ⟨g, off, hgo, hg, hcs⟩ : ∃ g off, (some ⟨g0, off0, none⟩ : Option Addr) = some ⟨g, off, none⟩ ∧ g < w.heap.size ∧ ∀ j (hj : j < cs.length), w.cell? ⟨g, off + j, none⟩ = some (.int .i64 cs[j]) := by
                  rcases HIN.out w (Below.refl _ _) with q | q
                  · rw [q] at hlt; exact absurd hlt (Nat.not_lt_zero _)
                  · exact q
                cases hgo
                have HCE : Hid (∀ W, Below w.heap.size w W → W.cell? ⟨g0, off0 + i, none⟩ = some (.int .i64 cs[i])) := fun W hb => (hb.cell (p := ⟨g0, off0 + i, none⟩) hg).trans (hcs i hlt)
                have HZI : Hid (cs[i] ≤ 9223372036854775807) := HCI.out _ (List.getElem_mem hlt)
                have hlti : (i : Int) < (cs.length : Int) := by omega
                have hi0 : (0 : Int) ≤ (i : Int) := by omega
                clear hcs hg
                generalize cs[i] = z at *
                by_cases hz0 : 0 ≤ z
                · have hzd : decide (0 ≤ z) = true := decide_eq_true hz0
                  have HP3 : Hid (Ph D0 l false ({ x2 with left := cutL x2.left z } : Ab).D) := HP2.out
                  have HF3 : Hid (Fine ({ x2 with left := cutL x2.left z } : Ab)) := left_fine HF2.out (cut_bd HF2.out.lo HF2.out.hi HZI.out).1 (cut_bd HF2.out.lo HF2.out.hi HZI.out).2
                  have HCT : Hid (∀ W, PkA w1.heap.size W d1 x2 m (2097160 + i * 1048600 + 1) r1 F1 w2.heap.size F2 → Calls Tryz.prog 10 #[.pointer (some ⟨d1, 0, none⟩), .int .i64 z] W fun e' w' => e' = .returned (.int .i64 (cutE x2.left z)) ∧ PkA w1.heap.size w' d1 { x2 with left := cutL x2.left z } m (2097160 + i * 1048600 + 1 + 1) r1 F1 w2.heap.size F2 ∧ Below w1.heap.size W w') := fun W hB => hB.cut z HZI.out
                  generalize ({ x2 with left := cutL x2.left z } : Ab) = x3 at *
                  generalize cutE x2.left z = ce at *
                  have HRC : Hid (∀ W, PkA w1.heap.size W d1 x3 m (2097160 + i * 1048600 + 1 + 1) r1 F1 w2.heap.size F2 → Calls Tryz.prog 17 #[.pointer (some ⟨d1, 0, none⟩)] W fun e' w' => e' = .returned (.int .i64 (recA x3).1) ∧ PkA w1.heap.size w' d1 (recA x3).2 m (2097160 + i * 1048600 + 1 + 1 + 1048579) r1 F1 w2.heap.size F2 ∧ Below w1.heap.size W w') := fun W hB => hB.recov (HOR.out false x3 HP3.out) (by omega)
                  obtain ⟨hc7, hp7⟩ := HRP.out false x3 HF3.out HP3.out
                  have HP7 := hide3 hp7
                  clear hp7
                  generalize recA x3 = R3 at *
                  obtain ⟨c7, y7⟩ := R3
                  simp only at HRC hc7
                  generalize hkk : 2097160 + i * 1048600 + 1 + 1 + 1048579 = kz at *
                  have HKZ : Hid (kz ≤ 2097160 + (i + 1) * 1048600) := by unfold Hid; omega
                  clear hkk
                  rcases hc7 with rfl | rfl
                  all_goals
                    go_wp2_with (first
                      | (go_at_call 17; have _t := HX8; refine (HRC.out _ HT8.out).mono ?_; rintro f9 w9 ⟨rfl, ht9, hb9⟩; have HT9 := hide3 ht9; have HX9 := hide3 (HX8.out.trans hb9); clear ht9 hb9)
                      | (go_at_call 10; have _t := HX7; refine (HCT.out _ HT7.out).mono ?_; rintro f8 w8 ⟨rfl, ht8, hb8⟩; have HT8 := hide3 ht8; have HX8 := hide3 (HX7.out.trans hb8); clear ht8 hb8)
                      | (go_at_call 15; refine HUP.out.mono ?_; rintro f7 w7 ⟨rfl, ht7, hb7⟩; have HT7 := hide3 ht7; have HX7 := hide3 (HXR.out.trans hb7); have q7 := HCE.out w7 (HB1.out.trans (HX7.out.mono HB1.out.size)); clear ht7 hb7))
                    exact ⟨⟨i + 1, by omega, Or.inl (by omega), by go_num, HX9.out, y7, HT9.out.more HKZ.out, HP7.out⟩, by simp [intOf]; omega⟩
                · have hzd : decide (0 ≤ z) = false := decide_eq_false hz0
                  have HRC : Hid (∀ W, PkA w1.heap.size W d1 x2 m (2097160 + i * 1048600 + 1) r1 F1 w2.heap.size F2 → Calls Tryz.prog 17 #[.pointer (some ⟨d1, 0, none⟩)] W fun e' w' => e' = .returned (.int .i64 (recA x2).1) ∧ PkA w1.heap.size w' d1 (recA x2).2 m (2097160 + i * 1048600 + 1 + 1048579) r1 F1 w2.heap.size F2 ∧ Below w1.heap.size W w') := fun W hB => hB.recov (HOR.out false x2 HP2.out) (by omega)
                  obtain ⟨hc7, hp7⟩ := HRP.out false x2 HF2.out HP2.out
                  have HP7 := hide3 hp7
                  clear hp7
                  generalize recA x2 = R3 at *
                  obtain ⟨c7, y7⟩ := R3
                  simp only at HRC hc7
                  generalize hkk : 2097160 + i * 1048600 + 1 + 1048579 = kz at *
                  have HKZ : Hid (kz ≤ 2097160 + (i + 1) * 1048600) := by unfold Hid; omega
                  clear hkk
                  rcases hc7 with rfl | rfl
                  all_goals
                    go_wp2_with (first
                      | (go_at_call 17; have _t := HX7; refine (HRC.out _ HT7.out).mono ?_; rintro f9 w9 ⟨rfl, ht9, hb9⟩; have HT9 := hide3 ht9; have HX9 := hide3 (HX7.out.trans hb9); clear ht9 hb9)
                      | (go_at_call 15; refine HUP.out.mono ?_; rintro f7 w7 ⟨rfl, ht7, hb7⟩; have HT7 := hide3 ht7; have HX7 := hide3 (HXR.out.trans hb7); have q7 := HCE.out w7 (HB1.out.trans (HX7.out.mono HB1.out.size)); clear ht7 hb7))
                    exact ⟨⟨i + 1, by omega, Or.inl (by omega), by go_num, HX9.out, y7, HT9.out.more HKZ.out, HP7.out⟩, by simp [intOf]; omega⟩
              · have hlti : ¬ ((i : Int) < (cs.length : Int)) := by omega
                have HRC : Hid (∀ W, PkA w1.heap.size W d1 x2 m (2097160 + i * 1048600 + 1) r1 F1 w2.heap.size F2 → Calls Tryz.prog 17 #[.pointer (some ⟨d1, 0, none⟩)] W fun e' w' => e' = .returned (.int .i64 (recA x2).1) ∧ PkA w1.heap.size w' d1 (recA x2).2 m (2097160 + i * 1048600 + 1 + 1048579) r1 F1 w2.heap.size F2 ∧ Below w1.heap.size W w') := fun W hB => hB.recov (HOR.out false x2 HP2.out) (by omega)
                obtain ⟨hc7, hfl7, hk7⟩ := HLP.out false x2 HF2.out hlx HP2.out
                rw [if_neg (by decide)] at hfl7
                generalize recA x2 = R3 at *
                obtain ⟨c7, y7⟩ := R3
                simp only at HRC hc7 hfl7 hk7
                subst hc7
                generalize hkk : 2097160 + i * 1048600 + 1 + 1048579 = kz at *
                have HKZ : Hid (kz ≤ 2199023255552) := by unfold Hid; omega
                clear hkk
                have HKJ : Hid (∀ W, PkA w1.heap.size W d1 y7 m kz r1 F1 w2.heap.size F2 → Calls Tryz.prog 22 #[.pointer (some ⟨d1, 0, none⟩), .string ⟨#[47, 106, 111, 117, 114, 110, 97, 108]⟩] W fun e' w' => e' = .returned (.int .i64 0) ∧ PkA w1.heap.size w' d1 y7 m kz r1 F1 w2.heap.size F2 ∧ Below W.heap.size W w') := fun W hB => by
                  have := hB.pk.kind jn (by decide)
                  rw [hk7] at this
                  exact this.mono fun _ _ q => ⟨q.1, hB.below q.2, q.2⟩
                have HALL : Hid (∀ W, PkA w1.heap.size W d1 y7 m kz r1 F1 w2.heap.size F2 → F1.length ≤ 2199023255552 ∧ Calls Tryz.prog 24 #[.pointer (some ⟨d1, 0, none⟩)] W fun e' w' => ∃ ao cp, e' = .returned (.slice ao F1.length cp) ∧ w'.ownsRow W.heap.size 83 3 (.slice ao F1.length cp) F1.length (fileCells F1) ∧ Below W.heap.size W w') := fun W hB => by
                  have h1 := hB.pk.all HKZ.out
                  have h2 : (filesD y7.D).length ≤ 2199023255552 := by
                    obtain ⟨_, _, _, h3, _⟩ := hB
                    exact Nat.le_trans (files_facts h3.disk.own).2.1 (Nat.le_trans h3.lf HKZ.out)
                  rw [hfl7] at h1 h2
                  exact ⟨h2, h1⟩
                clear hfl7 hk7 hlx HP2 HPX
                go_wp2_with (first
                  | (go_at_call 22; have _t := HX8; refine (HKJ.out _ HT8.out).mono ?_; rintro f9 w9 ⟨rfl, ht9, hb9⟩; have HT9 := hide3 ht9; have HX9 := hide3 (HX8.out.trans (hb9.mono HX8.out.size)); clear ht9 hb9)
                  | (go_at_call 17; have _t := HX7; refine (HRC.out _ HT7.out).mono ?_; rintro f8 w8 ⟨rfl, ht8, hb8⟩; have HT8 := hide3 ht8; have HX8 := hide3 (HX7.out.trans hb8); clear ht8 hb8)
                  | (go_at_call 15; refine HUP.out.mono ?_; rintro f7 w7 ⟨rfl, ht7, hb7⟩; have HT7 := hide3 ht7; have HX7 := hide3 (HXR.out.trans hb7); clear ht7 hb7))
                obtain ⟨lo1, lc1, b1, hk1, hr1⟩ := HT9.out.old
                have HK1 := hide3 hk1
                have HR1 := hide3 hr1
                clear hk1 hr1
                obtain ⟨hgl, hal⟩ := HALL.out w9.drew (HT9.out.below (Below.refl _ _).drew)
                have HGL := hide3 hgl
                have HAL := hide3 hal
                clear hgl hal
                have q0 := HK1.out w9 (Below.refl _ _)
                go_region_held3 (fun w' => w'.cell? ⟨r1, 0, none⟩ = some (.slice lo1 F1.length lc1)) (go_keep)
                  (first
                    | (go_at_call 24; refine HAL.out.mono ?_; rintro f10 w10 ⟨ao10, cp10, rfl, hr10, hb10⟩; have HBX := hide3 ((Below.refl _ w9).drew.trans hb10); have q1 := HK1.out _ HBX.out; have HRW := hide3 hr10; clear hb10 hr10)
                    | (go_at_call 23; refine (files_any F1 HGL.out HRW.out (HR1.out _ HBX.out)).mono ?_; rintro f11 w11 ⟨rfl, q, rfl⟩; have HBY := hide3 (below_draws18 HBX.out q); have q2 := HK1.out _ HBY.out))
                have HTX := hide3 (HT9.out.below HBY.out)
                have HXX := hide3 (HX9.out.trans (HBY.out.mono HX9.out.size))
                clear HBX HRW HAL q0 q1 q2 HK1 HR1
                generalize w10.drewN q = WX at *
                go_wp2_with (go_at_call 9; refine (HLV.out _ (HB1.out.trans (HXX.out.mono HB1.out.size))).mono ?_; rintro f12 w12 ⟨rfl, hb12⟩; have HX12 := hide3 (HXX.out.trans (hb12.mono HXX.out.size)); clear hb12)
                go_ret
                exact ⟨rfl, HB1.out.trans (HX12.out.mono HB1.out.size)⟩
        · have HPH := hide3 hph
          have hn3 : decide (3 ≤ (y1.rs.length : Int)) = true := decide_eq_true (by omega)
          have hn4 : decide (3 ≤ y1.rs.length) = true := decide_eq_true hn
          clear hph hn
          rcases hc1 with rfl | rfl
          · skip
            go_enter Tryz.func5, Tryz.ntmps5
            go_wp2_with (first
              | (go_at_call 21; have _t := HX5; refine (HRAW.out _ _ _ _ _ _ HT5.out).mono ?_; rintro f6 w6 ⟨ao6, cp6, rfl, ht6, hb6⟩; have HT6 := hide3 ht6; have HX6 := hide3 (HX5.out.trans (hb6.mono HX5.out.size)); clear ht6 hb6)
              | (go_at_call 12; have _t := HX3; refine (HCM.out _ _ _ _ _ _ _ HD1.out HX3.out (HT3.out.more (Nat.le_succ _))).mono ?_; rintro f5 w5 ⟨rfl, ht5, hb5⟩; have HT5 := hide3 ht5; have HX5 := hide3 (HX3.out.trans hb5); clear ht5 hb5)
              | (go_at_call 20; have _t := HX2; refine (HLG.out _ _ _ _ (HB1.out.trans (HX2.out.mono HB1.out.size)) HT2.out).mono ?_; rintro f3 w3 ⟨rfl, ht3, hb3⟩; have HT3 := hide3 ht3; have HX3 := hide3 (HX2.out.trans (hb3.mono HX2.out.size)); have q3 := HCE0.out w3 (HB1.out.trans (HX3.out.mono HB1.out.size)); clear ht3 hb3)
              | (go_at_call 8; have _t := HB1; refine (HDK.out _ HB1.out).mono ?_; rintro f2 w2 ⟨d1, r1, rfl, ht2, hb2⟩; have HT2 := hide3 ht2; have HX2 := hide3 hb2; clear ht2 hb2)
              | (go_at_call 19; refine HDE.out.mono ?_; rintro f1 w1 ⟨a3, c3, rfl, hd1, hb1⟩; have HD1 := hide3 hd1; have HB1 := hide3 hb1; clear hd1 hb1))
            clear HCM HRAW HDE HDK HLG q3
            go_loopw [16] (fun v16 wr => ∃ i : Nat, 1 ≤ i ∧ (i ≤ cs.length ∨ i = 1) ∧ v16 = .int .i64 i ∧ Below w1.heap.size w1 wr ∧ ∃ x, PkA w1.heap.size wr d1 x m (2097160 + i * 1048600) r1 F1 w2.heap.size F2 ∧ Ph D0 l true x.D) (fun v16 _ => cs.length + 1 - (intOf v16).toNat)
            case atStart => exact ⟨1, Nat.le_refl _, Or.inr rfl, rfl, HX6.out, y1, HT6.out.more (by omega), HPH.out⟩
            case round =>
              obtain ⟨i, hi1, hi2, rfl, hxr, x, htx, hpx⟩ := hrel
              have HXR := hide3 hxr
              have HPX := hide3 hpx
              have HUP := hide3 htx.up
              have HF2 : Hid (Fine ({ x with left := -1 } : Ab)) := left_fine htx.fine (by decide) (by decide)
              have HP2 : Hid (Ph D0 l true ({ x with left := -1 } : Ab).D) := hpx
              have hlx : ({ x with left := -1 } : Ab).left = -1 := rfl
              clear hxr hpx htx HX6 HT6
              generalize ({ x with left := -1 } : Ab) = x2 at *
              by_cases hlt : i < cs.length
              · obtain ⟨g, off, hgo, hg, hcs⟩ : ∃ g off, (some ⟨g0, off0, none⟩ : Option Addr) = some ⟨g, off, none⟩ ∧ g < w.heap.size ∧ ∀ j (hj : j < cs.length), w.cell? ⟨g, off + j, none⟩ = some (.int .i64 cs[j]) := by
                  rcases HIN.out w (Below.refl _ _) with q | q
                  · rw [q] at hlt; exact absurd hlt (Nat.not_lt_zero _)
                  · exact q
                cases hgo
                have HCE : Hid (∀ W, Below w.heap.size w W → W.cell? ⟨g0, off0 + i, none⟩ = some (.int .i64 cs[i])) := fun W hb => (hb.cell (p := ⟨g0, off0 + i, none⟩) hg).trans (hcs i hlt)
                have HZI : Hid (cs[i] ≤ 9223372036854775807) := HCI.out _ (List.getElem_mem hlt)
                have hlti : (i : Int) < (cs.length : Int) := by omega
                have hi0 : (0 : Int) ≤ (i : Int) := by omega
                clear hcs hg
                generalize cs[i] = z at *
                by_cases hz0 : 0 ≤ z
                · have hzd : decide (0 ≤ z) = true := decide_eq_true hz0
                  have HP3 : Hid (Ph D0 l true ({ x2 with left := cutL x2.left z } : Ab).D) := HP2.out
                  have HF3 : Hid (Fine ({ x2 with left := cutL x2.left z } : Ab)) := left_fine HF2.out (cut_bd HF2.out.lo HF2.out.hi HZI.out).1 (cut_bd HF2.out.lo HF2.out.hi HZI.out).2
                  have HCT : Hid (∀ W, PkA w1.heap.size W d1 x2 m (2097160 + i * 1048600 + 1) r1 F1 w2.heap.size F2 → Calls Tryz.prog 10 #[.pointer (some ⟨d1, 0, none⟩), .int .i64 z] W fun e' w' => e' = .returned (.int .i64 (cutE x2.left z)) ∧ PkA w1.heap.size w' d1 { x2 with left := cutL x2.left z } m (2097160 + i * 1048600 + 1 + 1) r1 F1 w2.heap.size F2 ∧ Below w1.heap.size W w') := fun W hB => hB.cut z HZI.out
                  generalize ({ x2 with left := cutL x2.left z } : Ab) = x3 at *
                  generalize cutE x2.left z = ce at *
                  have HRC : Hid (∀ W, PkA w1.heap.size W d1 x3 m (2097160 + i * 1048600 + 1 + 1) r1 F1 w2.heap.size F2 → Calls Tryz.prog 17 #[.pointer (some ⟨d1, 0, none⟩)] W fun e' w' => e' = .returned (.int .i64 (recA x3).1) ∧ PkA w1.heap.size w' d1 (recA x3).2 m (2097160 + i * 1048600 + 1 + 1 + 1048579) r1 F1 w2.heap.size F2 ∧ Below w1.heap.size W w') := fun W hB => hB.recov (HOR.out true x3 HP3.out) (by omega)
                  obtain ⟨hc7, hp7⟩ := HRP.out true x3 HF3.out HP3.out
                  have HP7 := hide3 hp7
                  clear hp7
                  generalize recA x3 = R3 at *
                  obtain ⟨c7, y7⟩ := R3
                  simp only at HRC hc7
                  generalize hkk : 2097160 + i * 1048600 + 1 + 1 + 1048579 = kz at *
                  have HKZ : Hid (kz ≤ 2097160 + (i + 1) * 1048600) := by unfold Hid; omega
                  clear hkk
                  rcases hc7 with rfl | rfl
                  all_goals
                    go_wp2_with (first
                      | (go_at_call 17; have _t := HX8; refine (HRC.out _ HT8.out).mono ?_; rintro f9 w9 ⟨rfl, ht9, hb9⟩; have HT9 := hide3 ht9; have HX9 := hide3 (HX8.out.trans hb9); clear ht9 hb9)
                      | (go_at_call 10; have _t := HX7; refine (HCT.out _ HT7.out).mono ?_; rintro f8 w8 ⟨rfl, ht8, hb8⟩; have HT8 := hide3 ht8; have HX8 := hide3 (HX7.out.trans hb8); clear ht8 hb8)
                      | (go_at_call 15; refine HUP.out.mono ?_; rintro f7 w7 ⟨rfl, ht7, hb7⟩; have HT7 := hide3 ht7; have HX7 := hide3 (HXR.out.trans hb7); have q7 := HCE.out w7 (HB1.out.trans (HX7.out.mono HB1.out.size)); clear ht7 hb7))
                    exact ⟨⟨i + 1, by omega, Or.inl (by omega), by go_num, HX9.out, y7, HT9.out.more HKZ.out, HP7.out⟩, by simp [intOf]; omega⟩
                · have hzd : decide (0 ≤ z) = false := decide_eq_false hz0
                  have HRC : Hid (∀ W, PkA w1.heap.size W d1 x2 m (2097160 + i * 1048600 + 1) r1 F1 w2.heap.size F2 → Calls Tryz.prog 17 #[.pointer (some ⟨d1, 0, none⟩)] W fun e' w' => e' = .returned (.int .i64 (recA x2).1) ∧ PkA w1.heap.size w' d1 (recA x2).2 m (2097160 + i * 1048600 + 1 + 1048579) r1 F1 w2.heap.size F2 ∧ Below w1.heap.size W w') := fun W hB => hB.recov (HOR.out true x2 HP2.out) (by omega)
                  obtain ⟨hc7, hp7⟩ := HRP.out true x2 HF2.out HP2.out
                  have HP7 := hide3 hp7
                  clear hp7
                  generalize recA x2 = R3 at *
                  obtain ⟨c7, y7⟩ := R3
                  simp only at HRC hc7
                  generalize hkk : 2097160 + i * 1048600 + 1 + 1048579 = kz at *
                  have HKZ : Hid (kz ≤ 2097160 + (i + 1) * 1048600) := by unfold Hid; omega
                  clear hkk
                  rcases hc7 with rfl | rfl
                  all_goals
                    go_wp2_with (first
                      | (go_at_call 17; have _t := HX7; refine (HRC.out _ HT7.out).mono ?_; rintro f9 w9 ⟨rfl, ht9, hb9⟩; have HT9 := hide3 ht9; have HX9 := hide3 (HX7.out.trans hb9); clear ht9 hb9)
                      | (go_at_call 15; refine HUP.out.mono ?_; rintro f7 w7 ⟨rfl, ht7, hb7⟩; have HT7 := hide3 ht7; have HX7 := hide3 (HXR.out.trans hb7); have q7 := HCE.out w7 (HB1.out.trans (HX7.out.mono HB1.out.size)); clear ht7 hb7))
                    exact ⟨⟨i + 1, by omega, Or.inl (by omega), by go_num, HX9.out, y7, HT9.out.more HKZ.out, HP7.out⟩, by simp [intOf]; omega⟩
              · have hlti : ¬ ((i : Int) < (cs.length : Int)) := by omega
                have HRC : Hid (∀ W, PkA w1.heap.size W d1 x2 m (2097160 + i * 1048600 + 1) r1 F1 w2.heap.size F2 → Calls Tryz.prog 17 #[.pointer (some ⟨d1, 0, none⟩)] W fun e' w' => e' = .returned (.int .i64 (recA x2).1) ∧ PkA w1.heap.size w' d1 (recA x2).2 m (2097160 + i * 1048600 + 1 + 1048579) r1 F1 w2.heap.size F2 ∧ Below w1.heap.size W w') := fun W hB => hB.recov (HOR.out true x2 HP2.out) (by omega)
                obtain ⟨hc7, hfl7, hk7⟩ := HLP.out true x2 HF2.out hlx HP2.out
                rw [if_pos rfl] at hfl7
                generalize recA x2 = R3 at *
                obtain ⟨c7, y7⟩ := R3
                simp only at HRC hc7 hfl7 hk7
                subst hc7
                generalize hkk : 2097160 + i * 1048600 + 1 + 1048579 = kz at *
                have HKZ : Hid (kz ≤ 2199023255552) := by unfold Hid; omega
                clear hkk
                have HKJ : Hid (∀ W, PkA w1.heap.size W d1 y7 m kz r1 F1 w2.heap.size F2 → Calls Tryz.prog 22 #[.pointer (some ⟨d1, 0, none⟩), .string ⟨#[47, 106, 111, 117, 114, 110, 97, 108]⟩] W fun e' w' => e' = .returned (.int .i64 0) ∧ PkA w1.heap.size w' d1 y7 m kz r1 F1 w2.heap.size F2 ∧ Below W.heap.size W w') := fun W hB => by
                  have := hB.pk.kind jn (by decide)
                  rw [hk7] at this
                  exact this.mono fun _ _ q => ⟨q.1, hB.below q.2, q.2⟩
                have HALL : Hid (∀ W, PkA w1.heap.size W d1 y7 m kz r1 F1 w2.heap.size F2 → F2.length ≤ 2199023255552 ∧ Calls Tryz.prog 24 #[.pointer (some ⟨d1, 0, none⟩)] W fun e' w' => ∃ ao cp, e' = .returned (.slice ao F2.length cp) ∧ w'.ownsRow W.heap.size 83 3 (.slice ao F2.length cp) F2.length (fileCells F2) ∧ Below W.heap.size W w') := fun W hB => by
                  have h1 := hB.pk.all HKZ.out
                  have h2 : (filesD y7.D).length ≤ 2199023255552 := by
                    obtain ⟨_, _, _, h3, _⟩ := hB
                    exact Nat.le_trans (files_facts h3.disk.own).2.1 (Nat.le_trans h3.lf HKZ.out)
                  rw [hfl7] at h1 h2
                  exact ⟨h2, h1⟩
                clear hfl7 hk7 hlx HP2 HPX
                go_wp2_with (first
                  | (go_at_call 22; have _t := HX8; refine (HKJ.out _ HT8.out).mono ?_; rintro f9 w9 ⟨rfl, ht9, hb9⟩; have HT9 := hide3 ht9; have HX9 := hide3 (HX8.out.trans (hb9.mono HX8.out.size)); clear ht9 hb9)
                  | (go_at_call 17; have _t := HX7; refine (HRC.out _ HT7.out).mono ?_; rintro f8 w8 ⟨rfl, ht8, hb8⟩; have HT8 := hide3 ht8; have HX8 := hide3 (HX7.out.trans hb8); clear ht8 hb8)
                  | (go_at_call 15; refine HUP.out.mono ?_; rintro f7 w7 ⟨rfl, ht7, hb7⟩; have HT7 := hide3 ht7; have HX7 := hide3 (HXR.out.trans hb7); clear ht7 hb7))
                obtain ⟨lo1, lc1, b1, hk1, hr1⟩ := HT9.out.old
                have HK1 := hide3 hk1
                have HR1 := hide3 hr1
                clear hk1 hr1
                obtain ⟨hgl, hal⟩ := HALL.out w9.drew (HT9.out.below (Below.refl _ _).drew)
                have HGL := hide3 hgl
                have HAL := hide3 hal
                clear hgl hal
                have q0 := HK1.out w9 (Below.refl _ _)
                go_region_held3 (fun w' => w'.cell? ⟨r1, 0, none⟩ = some (.slice lo1 F1.length lc1)) (go_keep)
                  (first
                    | (go_at_call 24; refine HAL.out.mono ?_; rintro f10 w10 ⟨ao10, cp10, rfl, hr10, hb10⟩; have HBX := hide3 ((Below.refl _ w9).drew.trans hb10); have q1 := HK1.out _ HBX.out; have HRW := hide3 hr10; clear hb10 hr10)
                    | (go_at_call 23; refine (files_bool F2 F1 HGL.out HRW.out (HR1.out _ HBX.out)).mono ?_; rintro f11 w11 ⟨⟨bx, rfl⟩, q, rfl⟩; have HBY := hide3 (below_draws18 HBX.out q); have q2 := HK1.out _ HBY.out))
                have HTX := hide3 (HT9.out.below HBY.out)
                have HXX := hide3 (HX9.out.trans (HBY.out.mono HX9.out.size))
                clear HBX HRW HAL q0 q1 q2 HK1 HR1 HBY
                generalize w10.drewN q = WX at *
                go_wp2_with fail
                obtain ⟨lo2, lc2, b2, hk2, hr2⟩ := HTX.out.want
                have HK2 := hide3 hk2
                have HR2 := hide3 hr2
                clear hk2 hr2
                obtain ⟨_, hal2⟩ := HALL.out WX.drew (HTX.out.below (Below.refl _ _).drew)
                have HAL2 := hide3 hal2
                clear hal2
                have q3 := HK2.out WX (Below.refl _ _)
                go_region_held3 (fun w' => w'.cell? ⟨w2.heap.size, 0, none⟩ = some (.slice lo2 F2.length lc2)) (go_keep)
                  (first
                    | (go_at_call 24; refine HAL2.out.mono ?_; rintro f12 w12 ⟨ao12, cp12, rfl, hr12, hb12⟩; have HBX := hide3 ((Below.refl _ WX).drew.trans hb12); have q4 := HK2.out _ HBX.out; have HRW := hide3 hr12; clear hb12 hr12)
                    | (go_at_call 23; refine (files_any F2 HGL.out HRW.out (HR2.out _ HBX.out)).mono ?_; rintro f13 w13 ⟨rfl, q9, rfl⟩; have HBY := hide3 (below_draws18 HBX.out q9); have q5 := HK2.out _ HBY.out))
                have HXY := hide3 (HXX.out.trans (HBY.out.mono HXX.out.size))
                clear HBX HRW HAL2 q3 q4 q5 HK2 HR2 HBY
                generalize w12.drewN q9 = WY at *
                go_wp2_with (go_at_call 9; refine (HLV.out _ (HB1.out.trans (HXY.out.mono HB1.out.size))).mono ?_; rintro f14 w14 ⟨rfl, hb14⟩; have HX14 := hide3 (HXY.out.trans (hb14.mono HXY.out.size)); clear hb14)
                go_ret
                exact ⟨rfl, HB1.out.trans (HX14.out.mono HB1.out.size)⟩
          · skip
            go_enter Tryz.func5, Tryz.ntmps5
            go_wp2_with (first
              | (go_at_call 21; have _t := HX5; refine (HRAW.out _ _ _ _ _ _ HT5.out).mono ?_; rintro f6 w6 ⟨ao6, cp6, rfl, ht6, hb6⟩; have HT6 := hide3 ht6; have HX6 := hide3 (HX5.out.trans (hb6.mono HX5.out.size)); clear ht6 hb6)
              | (go_at_call 12; have _t := HX3; refine (HCM.out _ _ _ _ _ _ _ HD1.out HX3.out (HT3.out.more (Nat.le_succ _))).mono ?_; rintro f5 w5 ⟨rfl, ht5, hb5⟩; have HT5 := hide3 ht5; have HX5 := hide3 (HX3.out.trans hb5); clear ht5 hb5)
              | (go_at_call 20; have _t := HX2; refine (HLG.out _ _ _ _ (HB1.out.trans (HX2.out.mono HB1.out.size)) HT2.out).mono ?_; rintro f3 w3 ⟨rfl, ht3, hb3⟩; have HT3 := hide3 ht3; have HX3 := hide3 (HX2.out.trans (hb3.mono HX2.out.size)); have q3 := HCE0.out w3 (HB1.out.trans (HX3.out.mono HB1.out.size)); clear ht3 hb3)
              | (go_at_call 8; have _t := HB1; refine (HDK.out _ HB1.out).mono ?_; rintro f2 w2 ⟨d1, r1, rfl, ht2, hb2⟩; have HT2 := hide3 ht2; have HX2 := hide3 hb2; clear ht2 hb2)
              | (go_at_call 19; refine HDE.out.mono ?_; rintro f1 w1 ⟨a3, c3, rfl, hd1, hb1⟩; have HD1 := hide3 hd1; have HB1 := hide3 hb1; clear hd1 hb1))
            clear HCM HRAW HDE HDK HLG q3
            go_loopw [16] (fun v16 wr => ∃ i : Nat, 1 ≤ i ∧ (i ≤ cs.length ∨ i = 1) ∧ v16 = .int .i64 i ∧ Below w1.heap.size w1 wr ∧ ∃ x, PkA w1.heap.size wr d1 x m (2097160 + i * 1048600) r1 F1 w2.heap.size F2 ∧ Ph D0 l true x.D) (fun v16 _ => cs.length + 1 - (intOf v16).toNat)
            case atStart => exact ⟨1, Nat.le_refl _, Or.inr rfl, rfl, HX6.out, y1, HT6.out.more (by omega), HPH.out⟩
            case round =>
              obtain ⟨i, hi1, hi2, rfl, hxr, x, htx, hpx⟩ := hrel
              have HXR := hide3 hxr
              have HPX := hide3 hpx
              have HUP := hide3 htx.up
              have HF2 : Hid (Fine ({ x with left := -1 } : Ab)) := left_fine htx.fine (by decide) (by decide)
              have HP2 : Hid (Ph D0 l true ({ x with left := -1 } : Ab).D) := hpx
              have hlx : ({ x with left := -1 } : Ab).left = -1 := rfl
              clear hxr hpx htx HX6 HT6
              generalize ({ x with left := -1 } : Ab) = x2 at *
              by_cases hlt : i < cs.length
              · obtain ⟨g, off, hgo, hg, hcs⟩ : ∃ g off, (some ⟨g0, off0, none⟩ : Option Addr) = some ⟨g, off, none⟩ ∧ g < w.heap.size ∧ ∀ j (hj : j < cs.length), w.cell? ⟨g, off + j, none⟩ = some (.int .i64 cs[j]) := by
                  rcases HIN.out w (Below.refl _ _) with q | q
                  · rw [q] at hlt; exact absurd hlt (Nat.not_lt_zero _)
                  · exact q
                cases hgo
                have HCE : Hid (∀ W, Below w.heap.size w W → W.cell? ⟨g0, off0 + i, none⟩ = some (.int .i64 cs[i])) := fun W hb => (hb.cell (p := ⟨g0, off0 + i, none⟩) hg).trans (hcs i hlt)
                have HZI : Hid (cs[i] ≤ 9223372036854775807) := HCI.out _ (List.getElem_mem hlt)
                have hlti : (i : Int) < (cs.length : Int) := by omega
                have hi0 : (0 : Int) ≤ (i : Int) := by omega
                clear hcs hg
                generalize cs[i] = z at *
                by_cases hz0 : 0 ≤ z
                · have hzd : decide (0 ≤ z) = true := decide_eq_true hz0
                  have HP3 : Hid (Ph D0 l true ({ x2 with left := cutL x2.left z } : Ab).D) := HP2.out
                  have HF3 : Hid (Fine ({ x2 with left := cutL x2.left z } : Ab)) := left_fine HF2.out (cut_bd HF2.out.lo HF2.out.hi HZI.out).1 (cut_bd HF2.out.lo HF2.out.hi HZI.out).2
                  have HCT : Hid (∀ W, PkA w1.heap.size W d1 x2 m (2097160 + i * 1048600 + 1) r1 F1 w2.heap.size F2 → Calls Tryz.prog 10 #[.pointer (some ⟨d1, 0, none⟩), .int .i64 z] W fun e' w' => e' = .returned (.int .i64 (cutE x2.left z)) ∧ PkA w1.heap.size w' d1 { x2 with left := cutL x2.left z } m (2097160 + i * 1048600 + 1 + 1) r1 F1 w2.heap.size F2 ∧ Below w1.heap.size W w') := fun W hB => hB.cut z HZI.out
                  generalize ({ x2 with left := cutL x2.left z } : Ab) = x3 at *
                  generalize cutE x2.left z = ce at *
                  have HRC : Hid (∀ W, PkA w1.heap.size W d1 x3 m (2097160 + i * 1048600 + 1 + 1) r1 F1 w2.heap.size F2 → Calls Tryz.prog 17 #[.pointer (some ⟨d1, 0, none⟩)] W fun e' w' => e' = .returned (.int .i64 (recA x3).1) ∧ PkA w1.heap.size w' d1 (recA x3).2 m (2097160 + i * 1048600 + 1 + 1 + 1048579) r1 F1 w2.heap.size F2 ∧ Below w1.heap.size W w') := fun W hB => hB.recov (HOR.out true x3 HP3.out) (by omega)
                  obtain ⟨hc7, hp7⟩ := HRP.out true x3 HF3.out HP3.out
                  have HP7 := hide3 hp7
                  clear hp7
                  generalize recA x3 = R3 at *
                  obtain ⟨c7, y7⟩ := R3
                  simp only at HRC hc7
                  generalize hkk : 2097160 + i * 1048600 + 1 + 1 + 1048579 = kz at *
                  have HKZ : Hid (kz ≤ 2097160 + (i + 1) * 1048600) := by unfold Hid; omega
                  clear hkk
                  rcases hc7 with rfl | rfl
                  all_goals
                    go_wp2_with (first
                      | (go_at_call 17; have _t := HX8; refine (HRC.out _ HT8.out).mono ?_; rintro f9 w9 ⟨rfl, ht9, hb9⟩; have HT9 := hide3 ht9; have HX9 := hide3 (HX8.out.trans hb9); clear ht9 hb9)
                      | (go_at_call 10; have _t := HX7; refine (HCT.out _ HT7.out).mono ?_; rintro f8 w8 ⟨rfl, ht8, hb8⟩; have HT8 := hide3 ht8; have HX8 := hide3 (HX7.out.trans hb8); clear ht8 hb8)
                      | (go_at_call 15; refine HUP.out.mono ?_; rintro f7 w7 ⟨rfl, ht7, hb7⟩; have HT7 := hide3 ht7; have HX7 := hide3 (HXR.out.trans hb7); have q7 := HCE.out w7 (HB1.out.trans (HX7.out.mono HB1.out.size)); clear ht7 hb7))
                    exact ⟨⟨i + 1, by omega, Or.inl (by omega), by go_num, HX9.out, y7, HT9.out.more HKZ.out, HP7.out⟩, by simp [intOf]; omega⟩
                · have hzd : decide (0 ≤ z) = false := decide_eq_false hz0
                  have HRC : Hid (∀ W, PkA w1.heap.size W d1 x2 m (2097160 + i * 1048600 + 1) r1 F1 w2.heap.size F2 → Calls Tryz.prog 17 #[.pointer (some ⟨d1, 0, none⟩)] W fun e' w' => e' = .returned (.int .i64 (recA x2).1) ∧ PkA w1.heap.size w' d1 (recA x2).2 m (2097160 + i * 1048600 + 1 + 1048579) r1 F1 w2.heap.size F2 ∧ Below w1.heap.size W w') := fun W hB => hB.recov (HOR.out true x2 HP2.out) (by omega)
                  obtain ⟨hc7, hp7⟩ := HRP.out true x2 HF2.out HP2.out
                  have HP7 := hide3 hp7
                  clear hp7
                  generalize recA x2 = R3 at *
                  obtain ⟨c7, y7⟩ := R3
                  simp only at HRC hc7
                  generalize hkk : 2097160 + i * 1048600 + 1 + 1048579 = kz at *
                  have HKZ : Hid (kz ≤ 2097160 + (i + 1) * 1048600) := by unfold Hid; omega
                  clear hkk
                  rcases hc7 with rfl | rfl
                  all_goals
                    go_wp2_with (first
                      | (go_at_call 17; have _t := HX7; refine (HRC.out _ HT7.out).mono ?_; rintro f9 w9 ⟨rfl, ht9, hb9⟩; have HT9 := hide3 ht9; have HX9 := hide3 (HX7.out.trans hb9); clear ht9 hb9)
                      | (go_at_call 15; refine HUP.out.mono ?_; rintro f7 w7 ⟨rfl, ht7, hb7⟩; have HT7 := hide3 ht7; have HX7 := hide3 (HXR.out.trans hb7); have q7 := HCE.out w7 (HB1.out.trans (HX7.out.mono HB1.out.size)); clear ht7 hb7))
                    exact ⟨⟨i + 1, by omega, Or.inl (by omega), by go_num, HX9.out, y7, HT9.out.more HKZ.out, HP7.out⟩, by simp [intOf]; omega⟩
              · have hlti : ¬ ((i : Int) < (cs.length : Int)) := by omega
                have HRC : Hid (∀ W, PkA w1.heap.size W d1 x2 m (2097160 + i * 1048600 + 1) r1 F1 w2.heap.size F2 → Calls Tryz.prog 17 #[.pointer (some ⟨d1, 0, none⟩)] W fun e' w' => e' = .returned (.int .i64 (recA x2).1) ∧ PkA w1.heap.size w' d1 (recA x2).2 m (2097160 + i * 1048600 + 1 + 1048579) r1 F1 w2.heap.size F2 ∧ Below w1.heap.size W w') := fun W hB => hB.recov (HOR.out true x2 HP2.out) (by omega)
                obtain ⟨hc7, hfl7, hk7⟩ := HLP.out true x2 HF2.out hlx HP2.out
                rw [if_pos rfl] at hfl7
                generalize recA x2 = R3 at *
                obtain ⟨c7, y7⟩ := R3
                simp only at HRC hc7 hfl7 hk7
                subst hc7
                generalize hkk : 2097160 + i * 1048600 + 1 + 1048579 = kz at *
                have HKZ : Hid (kz ≤ 2199023255552) := by unfold Hid; omega
                clear hkk
                have HKJ : Hid (∀ W, PkA w1.heap.size W d1 y7 m kz r1 F1 w2.heap.size F2 → Calls Tryz.prog 22 #[.pointer (some ⟨d1, 0, none⟩), .string ⟨#[47, 106, 111, 117, 114, 110, 97, 108]⟩] W fun e' w' => e' = .returned (.int .i64 0) ∧ PkA w1.heap.size w' d1 y7 m kz r1 F1 w2.heap.size F2 ∧ Below W.heap.size W w') := fun W hB => by
                  have := hB.pk.kind jn (by decide)
                  rw [hk7] at this
                  exact this.mono fun _ _ q => ⟨q.1, hB.below q.2, q.2⟩
                have HALL : Hid (∀ W, PkA w1.heap.size W d1 y7 m kz r1 F1 w2.heap.size F2 → F2.length ≤ 2199023255552 ∧ Calls Tryz.prog 24 #[.pointer (some ⟨d1, 0, none⟩)] W fun e' w' => ∃ ao cp, e' = .returned (.slice ao F2.length cp) ∧ w'.ownsRow W.heap.size 83 3 (.slice ao F2.length cp) F2.length (fileCells F2) ∧ Below W.heap.size W w') := fun W hB => by
                  have h1 := hB.pk.all HKZ.out
                  have h2 : (filesD y7.D).length ≤ 2199023255552 := by
                    obtain ⟨_, _, _, h3, _⟩ := hB
                    exact Nat.le_trans (files_facts h3.disk.own).2.1 (Nat.le_trans h3.lf HKZ.out)
                  rw [hfl7] at h1 h2
                  exact ⟨h2, h1⟩
                clear hfl7 hk7 hlx HP2 HPX
                go_wp2_with (first
                  | (go_at_call 22; have _t := HX8; refine (HKJ.out _ HT8.out).mono ?_; rintro f9 w9 ⟨rfl, ht9, hb9⟩; have HT9 := hide3 ht9; have HX9 := hide3 (HX8.out.trans (hb9.mono HX8.out.size)); clear ht9 hb9)
                  | (go_at_call 17; have _t := HX7; refine (HRC.out _ HT7.out).mono ?_; rintro f8 w8 ⟨rfl, ht8, hb8⟩; have HT8 := hide3 ht8; have HX8 := hide3 (HX7.out.trans hb8); clear ht8 hb8)
                  | (go_at_call 15; refine HUP.out.mono ?_; rintro f7 w7 ⟨rfl, ht7, hb7⟩; have HT7 := hide3 ht7; have HX7 := hide3 (HXR.out.trans hb7); clear ht7 hb7))
                obtain ⟨lo1, lc1, b1, hk1, hr1⟩ := HT9.out.old
                have HK1 := hide3 hk1
                have HR1 := hide3 hr1
                clear hk1 hr1
                obtain ⟨hgl, hal⟩ := HALL.out w9.drew (HT9.out.below (Below.refl _ _).drew)
                have HGL := hide3 hgl
                have HAL := hide3 hal
                clear hgl hal
                have q0 := HK1.out w9 (Below.refl _ _)
                go_region_held3 (fun w' => w'.cell? ⟨r1, 0, none⟩ = some (.slice lo1 F1.length lc1)) (go_keep)
                  (first
                    | (go_at_call 24; refine HAL.out.mono ?_; rintro f10 w10 ⟨ao10, cp10, rfl, hr10, hb10⟩; have HBX := hide3 ((Below.refl _ w9).drew.trans hb10); have q1 := HK1.out _ HBX.out; have HRW := hide3 hr10; clear hb10 hr10)
                    | (go_at_call 23; refine (files_bool F2 F1 HGL.out HRW.out (HR1.out _ HBX.out)).mono ?_; rintro f11 w11 ⟨⟨bx, rfl⟩, q, rfl⟩; have HBY := hide3 (below_draws18 HBX.out q); have q2 := HK1.out _ HBY.out))
                have HTX := hide3 (HT9.out.below HBY.out)
                have HXX := hide3 (HX9.out.trans (HBY.out.mono HX9.out.size))
                clear HBX HRW HAL q0 q1 q2 HK1 HR1 HBY
                generalize w10.drewN q = WX at *
                go_wp2_with fail
                obtain ⟨lo2, lc2, b2, hk2, hr2⟩ := HTX.out.want
                have HK2 := hide3 hk2
                have HR2 := hide3 hr2
                clear hk2 hr2
                obtain ⟨_, hal2⟩ := HALL.out WX.drew (HTX.out.below (Below.refl _ _).drew)
                have HAL2 := hide3 hal2
                clear hal2
                have q3 := HK2.out WX (Below.refl _ _)
                go_region_held3 (fun w' => w'.cell? ⟨w2.heap.size, 0, none⟩ = some (.slice lo2 F2.length lc2)) (go_keep)
                  (first
                    | (go_at_call 24; refine HAL2.out.mono ?_; rintro f12 w12 ⟨ao12, cp12, rfl, hr12, hb12⟩; have HBX := hide3 ((Below.refl _ WX).drew.trans hb12); have q4 := HK2.out _ HBX.out; have HRW := hide3 hr12; clear hb12 hr12)
                    | (go_at_call 23; refine (files_any F2 HGL.out HRW.out (HR2.out _ HBX.out)).mono ?_; rintro f13 w13 ⟨rfl, q9, rfl⟩; have HBY := hide3 (below_draws18 HBX.out q9); have q5 := HK2.out _ HBY.out))
                have HXY := hide3 (HXX.out.trans (HBY.out.mono HXX.out.size))
                clear HBX HRW HAL2 q3 q4 q5 HK2 HR2 HBY
                generalize w12.drewN q9 = WY at *
                go_wp2_with (go_at_call 9; refine (HLV.out _ (HB1.out.trans (HXY.out.mono HB1.out.size))).mono ?_; rintro f14 w14 ⟨rfl, hb14⟩; have HX14 := hide3 (HXY.out.trans (hb14.mono HXY.out.size)); clear hb14)
                go_ret
                exact ⟨rfl, HB1.out.trans (HX14.out.mono HB1.out.size)⟩
  · have HDE : Hid (Calls Tryz.prog 19 #[.slice a fs.length ca, .slice b gs.length cb] w fun e w' => e = .returned (.tuple #[.slice none 0 0, .int .i64 1]) ∧ Below w.heap.size w w') := HDE0.out.mono fun e w' ⟨hb, q⟩ => by
      rcases q with q | q
      · exact absurd q.1 hO
      · exact ⟨q.2, hb⟩
    have HDK : Hid (∀ W, Below w.heap.size w W → Calls Tryz.prog 8 #[.slice a fs.length ca] W fun e' w' => ∃ p1 p2 bk, e' = .returned (.tuple #[.pointer p1, .pointer p2, .bool bk]) ∧ Below w.heap.size w w') := fun W hb => by
      refine (HDK0.out W hb).mono ?_
      rintro e' w' ⟨hb2, q | q⟩
      · obtain ⟨_, d, e, rfl, _⟩ := q
        exact ⟨_, _, _, rfl, hb.trans (hb2.mono hb.size)⟩
      · obtain ⟨_, rfl⟩ := q
        exact ⟨_, _, _, rfl, hb.trans (hb2.mono hb.size)⟩
    have HLG : Hid (∀ W, Below w.heap.size w W → Calls Tryz.prog 20 #[.slice b gs.length cb] W fun e' w' => ∃ p1 bk, e' = .returned (.tuple #[.pointer p1, .bool bk]) ∧ Below w.heap.size w w') := fun W hb => by
      refine (HLG0.out W hb).mono ?_
      rintro e' w' ⟨hb2, q | q⟩
      · obtain ⟨_, rfl, _⟩ := q
        exact ⟨_, _, rfl, hb.trans (hb2.mono hb.size)⟩
      · obtain ⟨_, rfl⟩ := q
        exact ⟨_, _, rfl, hb.trans (hb2.mono hb.size)⟩
    clear HDE0 HDK0 HLG0 hT hO hm hcf hcg hzf hzg hi hci
    go_enter Tryz.func5, Tryz.ntmps5
    go_wp2_with (first
      | (go_at_call 9; have _t := HB3; refine (HLV.out _ HB3.out).mono ?_; rintro f4 w4 ⟨rfl, hb4⟩; have HB4 := hide3 (HB3.out.trans (hb4.mono HB3.out.size)); clear hb4)
      | (go_at_call 20; have _t := HB2; refine (HLG.out _ HB2.out).mono ?_; rintro f3 w3 ⟨p3, k3, rfl, hb3⟩; have HB3 := hide3 hb3; clear hb3)
      | (go_at_call 8; have _t := HB1; refine (HDK.out _ HB1.out).mono ?_; rintro f2 w2 ⟨p2, p2b, k2, rfl, hb2⟩; have HB2 := hide3 hb2; clear hb2)
      | (go_at_call 19; refine HDE.out.mono ?_; rintro f1 w1 ⟨rfl, hb1⟩; have HB1 := hide3 hb1; clear hb1))
    go_ret
    exact ⟨rfl, HB4.out⟩
end Go.Proofs.YtpaoimhebheaeaaGreatDoor
