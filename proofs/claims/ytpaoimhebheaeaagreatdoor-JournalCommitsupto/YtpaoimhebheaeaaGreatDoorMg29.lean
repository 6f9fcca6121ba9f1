/- Jl6, laid in one text. -/
import Derived.Test.YtpaoimhebheaeaaGreatDoorMg28
namespace Go.Proofs.YtpaoimhebheaeaaGreatDoor
open Go.RowKit Go.Maps Go.WideMaps Go.WideElems Dk
set_option maxRecDepth 100000

/-- Behind a Commit the plan's text is no longer than it was, or than the deeds'. -/
theorem com_size {l : List De} {x : Ab} {b : Nat} (hf : Fine x) (h1 : (readT x.D pP).size ≤ b) (h2 : (textD l).size ≤ b) : (readT (commitA l x).2.D pP).size ≤ b := by
  rcases commit_read (l := l) hf with e | e | e
  · rw [e]; exact h1
  · rw [e]; exact Nat.zero_le _
  · rw [e]; exact h2

set_option maxHeartbeats 16000000 in
theorem journalStill_walk (fs : List Fl) (a : Option Addr) (cap : Nat) (l : List De) (al : Option Addr) (capl : Nat) (z : Int) (m : Int) (w : World) (hm : w.cell? ⟨0, 0, none⟩ = some (.int .i64 m)) (hlen : fs.length ≤ 1048576) (hc : IsFiles w a fs) (hz : ∀ f ∈ fs, f.1.size ≤ maxLen ∧ f.2.2.size ≤ 1048576) (hd : IsDes w al l) (hzd : ∀ d ∈ l, d.pa.size ≤ maxLen ∧ d.da.size ≤ 100000000) (hsz : (textD l).size ≤ 4194304) (hl : l.length ≤ 1048576) (hz1 : z ≤ 9223372036854775807) :
    Calls Tryz.prog 7 #[.slice a fs.length cap, .slice al l.length capl, .int .i64 z] w fun e' w' => e' = .returned (.bool true) ∧ Below w.heap.size w w' := by
  have HDK := hide3 (disks_any fs a cap m w hm hlen hc fun f hf => ⟨(hz f hf).1, Nat.le_trans (hz f hf).2 (by decide)⟩)
  have HLV : Hid (∀ W, Below w.heap.size w W → Calls Tryz.prog 9 #[] W fun e' w' => e' = .returned (.bool true) ∧ Below W.heap.size W w') := fun W hb => lives18_any m W ((hb.cell (p := ⟨0, 0, none⟩) (cell_lt hm)).trans hm)
  by_cases hL : Loads fs
  · have hf0 := (loads_fine hL).1
    have hrd : (readT (loadD fs) pP).size ≤ 4194304 := Nat.le_trans (read_load hL (fun f hf => (hz f hf).2) pP) (by decide)
    have HCU : Hid (∀ W d, Pk w.heap.size W d ⟨loadD fs, [], -1⟩ m 1048576 → Calls Tryz.prog 10 #[.pointer (some ⟨d, 0, none⟩), .int .i64 z] W fun e1 w1 => e1 = .returned (.int .i64 (cutE (-1) z)) ∧ Pk w.heap.size w1 d ⟨loadD fs, [], cutL (-1) z⟩ m 1048577 ∧ Below w.heap.size W w1) := fun W d hB => hB.cut z hz1
    obtain ⟨lz, hlz⟩ : ∃ lz, lz = if 0 ≤ z then cutL (-1) z else -1 := ⟨_, rfl⟩
    have hlb : -1 ≤ lz ∧ lz ≤ 9223372036854775807 := by
      rw [hlz]
      split
      · exact cut_bd (by decide) (by decide) hz1
      · exact ⟨by decide, by decide⟩
    have hf1 : Fine ⟨loadD fs, [], lz⟩ := ⟨hf0.pl, hf0.so, hlb.1, hlb.2⟩
    have HCM : Hid (∀ W d, Below w.heap.size w W → Pk w.heap.size W d ⟨loadD fs, [], lz⟩ m 1048577 → Calls Tryz.prog 12 #[.pointer (some ⟨d, 0, none⟩), .slice al l.length capl] W fun e' w' => e' = .returned (.int .i64 (commitA l ⟨loadD fs, [], lz⟩).1) ∧ Pk w.heap.size w' d (commitA l ⟨loadD fs, [], lz⟩).2 m 2097160 ∧ Below w.heap.size W w') := fun W d hb hB => (hB.commit l al capl hd hb hzd hsz (by omega) (by omega)).mono fun _ _ q => ⟨q.1, q.2.1.more (by omega), q.2.2⟩
    have hs1 := com_size (l := l) (b := 4194304) hf1 hrd hsz
    clear hf0 hf1 hrd hlb
    have HUP : Hid (∀ W d, Pk w.heap.size W d (commitA l ⟨loadD fs, [], lz⟩).2 m 2097160 → Calls Tryz.prog 15 #[.pointer (some ⟨d, 0, none⟩)] W fun e' w' => e' = .returned (.tuple #[]) ∧ Pk w.heap.size w' d { (commitA l ⟨loadD fs, [], lz⟩).2 with left := -1 } m 2097161 ∧ Below w.heap.size W w') := fun W d hB => hB.up
    obtain ⟨y2, hy2⟩ : ∃ y2 : Ab, y2 = { (commitA l ⟨loadD fs, [], lz⟩).2 with left := -1 } := ⟨_, rfl⟩
    rw [← hy2] at HUP
    have hl2 : y2.left = -1 := by rw [hy2]
    have hs2 : (readT y2.D pP).size ≤ 4194304 := by rw [hy2]; exact hs1
    have hps := (parO_sizes (readT y2.D pP)).1
    have HRC : Hid (∀ W d, Pk w.heap.size W d y2 m 2097161 → Calls Tryz.prog 17 #[.pointer (some ⟨d, 0, none⟩)] W fun e' w' => e' = .returned (.int .i64 (recA y2).1) ∧ Pk w.heap.size w' d (recA y2).2 m 6291470 ∧ Below w.heap.size W w') := fun W d hB => (hB.recov hs2 (by omega)).mono fun _ _ q => ⟨q.1, q.2.1.more (by omega), q.2.2⟩
    have hs3 : (readT (recA y2).2.D pP).size ≤ 4194304 := by
      rcases rec_read y2 with e | e
      · rw [e]; exact hs2
      · rw [e]; exact Nat.zero_le _
    have HJ0 : Hid ((recA y2).1 = 0 → kindD (recA y2).2.D jn = 0) := rec_ok (by rw [hl2]; decide)
    have HJ1 : Hid ((recA y2).1 ≠ 0 → kindD (recA y2).2.D jn ≠ 0) := rec_fail (by rw [hl2]; decide)
    have hl3 : (recA y2).2.left = -1 := (tch_rec y2).up hl2
    have HLE : Hid (fs.length ≤ 1048576) := hlen
    have HLL := hide3 hL
    clear hs1 hs2 hps hy2 hl2 hL hc hz hd hzd hsz
    generalize recA y2 = Y3 at *
    obtain ⟨c3, y3⟩ := Y3
    simp only at HRC hs3 HJ0 HJ1 hl3
    generalize commitA l ⟨loadD fs, [], lz⟩ = Y1 at *
    obtain ⟨c1, y1⟩ := Y1
    simp only at HCM HUP
    cases hc3 : (c3 != 0)
    · have hj := HJ0.out (bne_eq_false_iff_eq.1 hc3)
      clear HJ0 HJ1
      have HCL : Hid (∀ W d, Pk w.heap.size W d y3 m 6291470 → Calls Tryz.prog 25 #[.pointer (some ⟨d, 0, none⟩)] W fun e' w' => e' = .returned (.tuple #[]) ∧ Pk w.heap.size w' d { y3 with rs := [] } m 6291470 ∧ Below w.heap.size W w') := fun W d hB => hB.clear
      obtain ⟨y4, hy4⟩ : ∃ y4 : Ab, y4 = { y3 with rs := [] } := ⟨_, rfl⟩
      rw [← hy4] at HCL
      have hj4 : kindD y4.D jn = 0 := by rw [hy4]; exact hj
      have hl4 : y4.left ≠ 0 := by rw [hy4, hl3]; decide
      have hr4 : y4.rs = [] := by rw [hy4]
      have hs4 : (readT y4.D pP).size ≤ 4194304 := by rw [hy4]; exact hs3
      have hps := (parO_sizes (readT y4.D pP)).1
      have HAL : Hid (∀ W d, Pk w.heap.size W d y4 m 6291470 → Calls Tryz.prog 24 #[.pointer (some ⟨d, 0, none⟩)] W fun e' w' => ∃ ao cp, e' = .returned (.slice ao (filesD y4.D).length cp) ∧ PkR w.heap.size w' d y4 m 6291470 (.slice ao (filesD y4.D).length cp) (filesD y4.D) ∧ Below W.heap.size W w') := fun W d hB => (hB.all (by decide)).mono fun _ _ ⟨ao, cp, q1, q2, q3⟩ => ⟨ao, cp, q1, PkR.start hB q2 q3, q3⟩
      have HR2 : Hid (∀ W d v, PkR w.heap.size W d y4 m 6291470 v (filesD y4.D) → Calls Tryz.prog 17 #[.pointer (some ⟨d, 0, none⟩)] W fun e' w' => e' = .returned (.int .i64 0) ∧ PkR w.heap.size w' d y4 m 16777216 v (filesD y4.D) ∧ Below w.heap.size W w') := fun W d v hB => hB.call fun _ _ _ hp => (rec_P hp hs4 (by omega)).mono fun _ _ q => by
        rw [rec_stay hl4 hj4] at q
        exact ⟨q.1, q.2.more (by omega)⟩
      have HC2 : Hid (∀ W d v, PkR w.heap.size W d y4 m 16777216 v (filesD y4.D) → Below w.heap.size w W → Calls Tryz.prog 12 #[.pointer (some ⟨d, 0, none⟩), .slice none 0 0] W fun e' w' => e' = .returned (.int .i64 0) ∧ PkR w.heap.size w' d y4 m 33554432 v (filesD y4.D) ∧ Below w.heap.size W w') := fun W d v hB _ => hB.call fun _ _ _ hp => (commit_P hp [] none 0 (fun _ _ => Or.inl rfl) (fun _ q => by cases q) (by decide) (by decide) (by decide)).mono fun _ _ q => by
        rw [commit_none hl4 hj4] at q
        exact ⟨q.1, q.2.more (by decide)⟩
      have HA2 : Hid (∀ W d v, PkR w.heap.size W d y4 m 33554432 v (filesD y4.D) → Calls Tryz.prog 24 #[.pointer (some ⟨d, 0, none⟩)] W fun e' w' => ∃ ao cp, e' = .returned (.slice ao (filesD y4.D).length cp) ∧ w'.ownsRow W.heap.size 83 3 (.slice ao (filesD y4.D).length cp) (filesD y4.D).length (fileCells (filesD y4.D)) ∧ PkR w.heap.size w' d y4 m 33554432 v (filesD y4.D) ∧ Below W.heap.size W w') := fun W d v hB => (hB.pk.all (by decide)).mono fun _ _ ⟨ao, cp, q1, q2, q3⟩ => ⟨ao, cp, q1, q2, hB.below q3, q3⟩
      have HFS : Hid (∀ W d b ao cp a2 c2, W.ownsRow b 83 3 (.slice ao (filesD y4.D).length cp) (filesD y4.D).length (fileCells (filesD y4.D)) → PkR w.heap.size W d y4 m 33554432 (.slice a2 (filesD y4.D).length c2) (filesD y4.D) → Calls Tryz.prog 23 #[.slice ao (filesD y4.D).length cp, .slice a2 (filesD y4.D).length c2] W fun e' w' => e' = .returned (.bool true) ∧ Pk w.heap.size w' d y4 m 33554432 ∧ Below W.heap.size W w') := fun W d b ao cp a2 c2 hr hB => by
        obtain ⟨b2, h2⟩ := hB.row
        have hlf : (filesD y4.D).length ≤ 33554432 := by
          obtain ⟨_, _, _, h1, _⟩ := hB
          exact Nat.le_trans (files_facts h1.disk.own).2.1 h1.lf
        refine (files_any (filesD y4.D) (by omega) hr h2).mono ?_
        rintro e' w' ⟨rfl, q, rfl⟩
        have hbq : Below W.heap.size W (W.drewN q) := below_draws18 (Below.refl _ _) q
        exact ⟨rfl, hB.pk.below hbq, hbq⟩
      have HRA : Hid (∀ W d, Pk w.heap.size W d y4 m 33554432 → Calls Tryz.prog 21 #[.pointer (some ⟨d, 0, none⟩)] W fun e' w' => ∃ ao cp, e' = .returned (.slice ao 0 cp) ∧ Pk w.heap.size w' d y4 m 33554432 ∧ Below W.heap.size W w') := fun W d hB => by
        refine (hB.raws (by decide)).mono ?_
        rintro e' w' ⟨ao, cp, rfl, _, hb⟩
        rw [hr4]
        exact ⟨ao, cp, rfl, hB.below hb, hb⟩
      have HK2 : Hid (∀ W d, Pk w.heap.size W d y4 m 33554432 → Calls Tryz.prog 22 #[.pointer (some ⟨d, 0, none⟩), .string ⟨#[47, 106, 111, 117, 114, 110, 97, 108]⟩] W fun e' w' => e' = .returned (.int .i64 0) ∧ Below W.heap.size W w') := fun W d hB => by
        have := hB.kind jn (by decide)
        rw [hj4] at this
        exact this
      clear hj hj4 hl4 hr4 hs4 hps hy4 hs3 hl3
      generalize filesD y4.D = fl at *
      by_cases h0 : 0 ≤ z
      · rw [if_pos h0] at hlz
        subst hlz
        go_enter Tryz.func7, Tryz.ntmps7
        go_wp2_with (first
          | (go_at_call 9; have _t := HB6; refine (HLV.out _ HB6.out).mono ?_; rintro e7 w7 ⟨rfl, hb7⟩; have HB7 := hide3 (HB6.out.trans (hb7.mono HB6.out.size)); clear hb7)
          | (go_at_call 22; have _t := HT14; refine (HK2.out _ _ HT14.out).mono ?_; rintro e6 w6 ⟨rfl, hb6⟩; have HB6 := hide3 (HB14.out.trans (hb6.mono HB14.out.size)); clear hb6)
          | (go_at_call 21; have _t := HT13; refine (HRA.out _ _ HT13.out).mono ?_; rintro e14 w14 ⟨ao14, cp14, rfl, ht14, hb14⟩; have HT14 := hide3 ht14; have HB14 := hide3 (HB13.out.trans (hb14.mono HB13.out.size)); clear ht14 hb14)
          | (go_at_call 23; have _t := HT12; refine (HFS.out _ _ _ _ _ _ _ HRW.out HT12.out).mono ?_; rintro e13 w13 ⟨rfl, ht13, hb13⟩; have HT13 := hide3 ht13; have HB13 := hide3 (HB12.out.trans (hb13.mono HB12.out.size)); clear ht13 hb13)
          | (go_at_call 24; have _t := HT11; refine (HA2.out _ _ _ HT11.out).mono ?_; rintro e12 w12 ⟨ao12, cp12, rfl, hr12, ht12, hb12⟩; have HT12 := hide3 ht12; have HRW := hide3 hr12; have HB12 := hide3 (HB11.out.trans (hb12.mono HB11.out.size)); clear ht12 hr12 hb12)
          | (go_at_call 12; have _t := HT10; refine (HC2.out _ _ _ HT10.out HB10.out).mono ?_; rintro e11 w11 ⟨rfl, ht11, hb11⟩; have HT11 := hide3 ht11; have HB11 := hide3 (HB10.out.trans hb11); clear ht11 hb11)
          | (go_at_call 17; have _t := HT9; refine (HR2.out _ _ _ HT9.out).mono ?_; rintro e10 w10 ⟨rfl, ht10, hb10⟩; have HT10 := hide3 ht10; have HB10 := hide3 (HB9.out.trans hb10); clear ht10 hb10)
          | (go_at_call 24; have _t := HT8; refine (HAL.out _ _ HT8.out).mono ?_; rintro e9 w9 ⟨ao9, cp9, rfl, ht9, hb9⟩; have HT9 := hide3 ht9; have HB9 := hide3 (HB8.out.trans (hb9.mono HB8.out.size)); clear ht9 hb9)
          | (go_at_call 25; have _t := HT5; refine (HCL.out _ _ HT5.out).mono ?_; rintro e8 w8 ⟨rfl, ht8, hb8⟩; have HT8 := hide3 ht8; have HB8 := hide3 (HB5.out.trans hb8); clear ht8 hb8)
          | (go_at_call 17; have _t := HT4; refine (HRC.out _ _ HT4.out).mono ?_; rintro e5 w5 ⟨rfl, ht5, hb5⟩; have HT5 := hide3 ht5; have HB5 := hide3 (HB4.out.trans hb5); clear ht5 hb5)
          | (go_at_call 15; have _t := HT3; refine (HUP.out _ _ HT3.out).mono ?_; rintro e4 w4 ⟨rfl, ht4, hb4⟩; have HT4 := hide3 ht4; have HB4 := hide3 (HB3.out.trans hb4); clear ht4 hb4)
          | (go_at_call 12; have _t := HT2; refine (HCM.out _ _ HB2.out HT2.out).mono ?_; rintro e3 w3 ⟨rfl, ht3, hb3⟩; have HT3 := hide3 ht3; have HB3 := hide3 (HB2.out.trans hb3); clear ht3 hb3)
          | (go_at_call 10; have _t := HT1; refine (HCU.out _ _ HT1.out).mono ?_; rintro e2 w2 ⟨rfl, ht2, hb2⟩; have HT2 := hide3 ht2; have HB2 := hide3 (HB1.out.trans hb2); clear ht2 hb2)
          | (go_at_call 8; refine HDK.out.mono ?_; rintro e1 w1 ⟨hb1, hq1⟩; obtain ⟨_, d1, r1, rfl, ht1⟩ := hq1.resolve_right (fun h => h.1 HLL.out); have HB1 := hide3 hb1; have HT1 := hide3 (ht1.pk.more HLE.out); clear hb1 ht1 hq1))
        go_ret
        exact ⟨rfl, HB7.out⟩
      · rw [if_neg h0] at hlz
        subst hlz
        clear HCU
        have h0d : decide (0 ≤ z) = false := by simp; omega
        go_enter Tryz.func7, Tryz.ntmps7
        go_wp2_with (first
          | (go_at_call 9; have _t := HB6; refine (HLV.out _ HB6.out).mono ?_; rintro e7 w7 ⟨rfl, hb7⟩; have HB7 := hide3 (HB6.out.trans (hb7.mono HB6.out.size)); clear hb7)
          | (go_at_call 22; have _t := HT14; refine (HK2.out _ _ HT14.out).mono ?_; rintro e6 w6 ⟨rfl, hb6⟩; have HB6 := hide3 (HB14.out.trans (hb6.mono HB14.out.size)); clear hb6)
          | (go_at_call 21; have _t := HT13; refine (HRA.out _ _ HT13.out).mono ?_; rintro e14 w14 ⟨ao14, cp14, rfl, ht14, hb14⟩; have HT14 := hide3 ht14; have HB14 := hide3 (HB13.out.trans (hb14.mono HB13.out.size)); clear ht14 hb14)
          | (go_at_call 23; have _t := HT12; refine (HFS.out _ _ _ _ _ _ _ HRW.out HT12.out).mono ?_; rintro e13 w13 ⟨rfl, ht13, hb13⟩; have HT13 := hide3 ht13; have HB13 := hide3 (HB12.out.trans (hb13.mono HB12.out.size)); clear ht13 hb13)
          | (go_at_call 24; have _t := HT11; refine (HA2.out _ _ _ HT11.out).mono ?_; rintro e12 w12 ⟨ao12, cp12, rfl, hr12, ht12, hb12⟩; have HT12 := hide3 ht12; have HRW := hide3 hr12; have HB12 := hide3 (HB11.out.trans (hb12.mono HB11.out.size)); clear ht12 hr12 hb12)
          | (go_at_call 12; have _t := HT10; refine (HC2.out _ _ _ HT10.out HB10.out).mono ?_; rintro e11 w11 ⟨rfl, ht11, hb11⟩; have HT11 := hide3 ht11; have HB11 := hide3 (HB10.out.trans hb11); clear ht11 hb11)
          | (go_at_call 17; have _t := HT9; refine (HR2.out _ _ _ HT9.out).mono ?_; rintro e10 w10 ⟨rfl, ht10, hb10⟩; have HT10 := hide3 ht10; have HB10 := hide3 (HB9.out.trans hb10); clear ht10 hb10)
          | (go_at_call 24; have _t := HT8; refine (HAL.out _ _ HT8.out).mono ?_; rintro e9 w9 ⟨ao9, cp9, rfl, ht9, hb9⟩; have HT9 := hide3 ht9; have HB9 := hide3 (HB8.out.trans (hb9.mono HB8.out.size)); clear ht9 hb9)
          | (go_at_call 25; have _t := HT5; refine (HCL.out _ _ HT5.out).mono ?_; rintro e8 w8 ⟨rfl, ht8, hb8⟩; have HT8 := hide3 ht8; have HB8 := hide3 (HB5.out.trans hb8); clear ht8 hb8)
          | (go_at_call 17; have _t := HT4; refine (HRC.out _ _ HT4.out).mono ?_; rintro e5 w5 ⟨rfl, ht5, hb5⟩; have HT5 := hide3 ht5; have HB5 := hide3 (HB4.out.trans hb5); clear ht5 hb5)
          | (go_at_call 15; have _t := HT3; refine (HUP.out _ _ HT3.out).mono ?_; rintro e4 w4 ⟨rfl, ht4, hb4⟩; have HT4 := hide3 ht4; have HB4 := hide3 (HB3.out.trans hb4); clear ht4 hb4)
          | (go_at_call 12; have _t := HT1; refine (HCM.out _ _ HB1.out HT1.out).mono ?_; rintro e3 w3 ⟨rfl, ht3, hb3⟩; have HT3 := hide3 ht3; have HB3 := hide3 (HB1.out.trans hb3); clear ht3 hb3)
          | (go_at_call 8; refine HDK.out.mono ?_; rintro e1 w1 ⟨hb1, hq1⟩; obtain ⟨_, d1, r1, rfl, ht1⟩ := hq1.resolve_right (fun h => h.1 HLL.out); have HB1 := hide3 hb1; have HT1 := hide3 ((ht1.pk.more HLE.out).more (Nat.le_succ _)); clear hb1 ht1 hq1))
        go_ret
        exact ⟨rfl, HB7.out⟩
    · have hj := HJ1.out (ne_of_bne hc3)
      clear HJ0 HJ1
      have HKJ : Hid (∀ W d, Pk w.heap.size W d y3 m 6291470 → Calls Tryz.prog 22 #[.pointer (some ⟨d, 0, none⟩), .string ⟨#[47, 106, 111, 117, 114, 110, 97, 108]⟩] W fun e' w' => e' = .returned (.int .i64 (kindD y3.D jn)) ∧ Below W.heap.size W w') := fun W d hB => hB.kind jn (by decide)
      have hj2 : (kindD y3.D jn != 0) = true := bne_iff_ne.2 hj
      clear hj hs3 hl3
      generalize kindD y3.D jn = kj at *
      by_cases h0 : 0 ≤ z
      · rw [if_pos h0] at hlz
        subst hlz
        go_enter Tryz.func7, Tryz.ntmps7
        go_wp2_with (first
          | (go_at_call 9; have _t := HB6; refine (HLV.out _ HB6.out).mono ?_; rintro e7 w7 ⟨rfl, hb7⟩; have HB7 := hide3 (HB6.out.trans (hb7.mono HB6.out.size)); clear hb7)
          | (go_at_call 22; have _t := HT5; refine (HKJ.out _ _ HT5.out).mono ?_; rintro e6 w6 ⟨rfl, hb6⟩; have HB6 := hide3 (HB5.out.trans (hb6.mono HB5.out.size)); clear hb6)
          | (go_at_call 17; have _t := HT4; refine (HRC.out _ _ HT4.out).mono ?_; rintro e5 w5 ⟨rfl, ht5, hb5⟩; have HT5 := hide3 ht5; have HB5 := hide3 (HB4.out.trans hb5); clear ht5 hb5)
          | (go_at_call 15; have _t := HT3; refine (HUP.out _ _ HT3.out).mono ?_; rintro e4 w4 ⟨rfl, ht4, hb4⟩; have HT4 := hide3 ht4; have HB4 := hide3 (HB3.out.trans hb4); clear ht4 hb4)
          | (go_at_call 12; have _t := HT2; refine (HCM.out _ _ HB2.out HT2.out).mono ?_; rintro e3 w3 ⟨rfl, ht3, hb3⟩; have HT3 := hide3 ht3; have HB3 := hide3 (HB2.out.trans hb3); clear ht3 hb3)
          | (go_at_call 10; have _t := HT1; refine (HCU.out _ _ HT1.out).mono ?_; rintro e2 w2 ⟨rfl, ht2, hb2⟩; have HT2 := hide3 ht2; have HB2 := hide3 (HB1.out.trans hb2); clear ht2 hb2)
          | (go_at_call 8; refine HDK.out.mono ?_; rintro e1 w1 ⟨hb1, hq1⟩; obtain ⟨_, d1, r1, rfl, ht1⟩ := hq1.resolve_right (fun h => h.1 HLL.out); have HB1 := hide3 hb1; have HT1 := hide3 (ht1.pk.more HLE.out); clear hb1 ht1 hq1))
        go_ret
        exact ⟨rfl, HB7.out⟩
      · rw [if_neg h0] at hlz
        subst hlz
        clear HCU
        have h0d : decide (0 ≤ z) = false := by simp; omega
        go_enter Tryz.func7, Tryz.ntmps7
        go_wp2_with (first
          | (go_at_call 9; have _t := HB6; refine (HLV.out _ HB6.out).mono ?_; rintro e7 w7 ⟨rfl, hb7⟩; have HB7 := hide3 (HB6.out.trans (hb7.mono HB6.out.size)); clear hb7)
          | (go_at_call 22; have _t := HT5; refine (HKJ.out _ _ HT5.out).mono ?_; rintro e6 w6 ⟨rfl, hb6⟩; have HB6 := hide3 (HB5.out.trans (hb6.mono HB5.out.size)); clear hb6)
          | (go_at_call 17; have _t := HT4; refine (HRC.out _ _ HT4.out).mono ?_; rintro e5 w5 ⟨rfl, ht5, hb5⟩; have HT5 := hide3 ht5; have HB5 := hide3 (HB4.out.trans hb5); clear ht5 hb5)
          | (go_at_call 15; have _t := HT3; refine (HUP.out _ _ HT3.out).mono ?_; rintro e4 w4 ⟨rfl, ht4, hb4⟩; have HT4 := hide3 ht4; have HB4 := hide3 (HB3.out.trans hb4); clear ht4 hb4)
          | (go_at_call 12; have _t := HT1; refine (HCM.out _ _ HB1.out HT1.out).mono ?_; rintro e3 w3 ⟨rfl, ht3, hb3⟩; have HT3 := hide3 ht3; have HB3 := hide3 (HB1.out.trans hb3); clear ht3 hb3)
          | (go_at_call 8; refine HDK.out.mono ?_; rintro e1 w1 ⟨hb1, hq1⟩; obtain ⟨_, d1, r1, rfl, ht1⟩ := hq1.resolve_right (fun h => h.1 HLL.out); have HB1 := hide3 hb1; have HT1 := hide3 ((ht1.pk.more HLE.out).more (Nat.le_succ _)); clear hb1 ht1 hq1))
        go_ret
        exact ⟨rfl, HB7.out⟩
  · have HLL := hide3 hL
    clear hL hm hc hz hz1 hd hzd
    go_enter Tryz.func7, Tryz.ntmps7
    go_wp2_with (first
      | (go_at_call 9; have _t := HB1; refine (HLV.out _ HB1.out).mono ?_; rintro e7 w7 ⟨rfl, hb7⟩; have HB7 := hide3 (HB1.out.trans (hb7.mono HB1.out.size)); clear hb7)
      | (go_at_call 8; refine HDK.out.mono ?_; rintro e1 w1 ⟨hb1, hq1⟩; obtain ⟨_, rfl⟩ := hq1.resolve_left (fun h => HLL.out h.1); have HB1 := hide3 hb1; clear hb1 hq1))
    go_ret
    exact ⟨rfl, HB7.out⟩
end Go.Proofs.YtpaoimhebheaeaaGreatDoor
