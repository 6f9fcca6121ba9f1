/- Jl7, laid in one text. -/
import Derived.Deep.CutBlock
import Derived.Test.YtpaoimhebheaeaaGreatDoorMg29
namespace Go.Proofs.YtpaoimhebheaeaaGreatDoor
open Go.RowKit Go.Maps Go.WideMaps Go.WideElems Dk
set_option maxRecDepth 100000

/-- Is a path the journal's? -/
def ownJ (s : ByteArray) : Bool := (s.toList == [47, 106, 111, 117, 114, 110, 97, 108]) || (decide (8 < (s.size : Int)) && ((s.extract 0 9).toList == [47, 106, 111, 117, 114, 110, 97, 108, 47]))
theorem own_jn : ownJ jn = true := by decide +kernel
theorem own_pN : ownJ pN = true := by decide +kernel
theorem own_pP : ownJ pP = true := by decide +kernel
theorem ofJ_own {s : ByteArray} (h : ofJ s) : ownJ s = true := by
  rcases h with rfl | rfl | rfl
  · exact own_jn
  · exact own_pN
  · exact own_pP
/-- Is a path one of the deeds? -/
def eqP (s : ByteArray) (d : De) : Bool := d.pa.toList == s.toList
theorem ofDs_any {l : List De} {s : ByteArray} (h : ofDs l s) : l.any (eqP s) = true := by
  obtain ⟨d, hd, rfl⟩ := h
  exact List.any_eq_true.2 ⟨d, hd, by unfold eqP; exact beq_self_eq_true _⟩
theorem any_takeS {l : List De} {s : ByteArray} {k : Nat} (hk : k < l.length) : (l.take (k + 1)).any (eqP s) = ((l.take k).any (eqP s) || (l[k].pa.toList == s.toList)) := by
  rw [List.take_succ_eq_append_getElem hk, List.any_append, List.any_cons, List.any_nil, Bool.or_false]
  rfl
theorem raw_cells {w : World} {B : Nat} {ao : Option Addr} {cap : Nat} {rs : List (Int × ByteArray × ByteArray)} (h : w.ownsRow B 52 3 (.slice ao rs.length cap) rs.length (rawCells rs)) {i : Nat} (hi : i < rs.length) : ∃ g, ao = some ⟨g, 0, none⟩ ∧ w.cell? ⟨g, i * 3 + 1, none⟩ = some (.string rs[i].2.1) := by
  obtain ⟨g, rfl⟩ := row_shape h (by omega)
  refine ⟨g, rfl, row_cells h (i * 3 + 1) _ ?_⟩
  clear h
  induction rs generalizing i with
  | nil => exact absurd hi (Nat.not_lt_zero _)
  | cons r rs ih =>
    cases i with
    | zero => rfl
    | succ i =>
      have e : rawCells (r :: rs) = [.int .i64 r.1, .string r.2.1, .string r.2.2] ++ rawCells rs := rfl
      rw [e, List.getElem?_append_right (by simp; omega)]
      have e2 : (i + 1) * 3 + 1 - [Value.int .i64 r.1, .string r.2.1, .string r.2.2].length = i * 3 + 1 := by simp; omega
      rw [e2]
      exact ih (i := i) (by simpa using hi)

set_option maxHeartbeats 8000000 in
theorem journalQuiet_walk (fs : List Fl) (a : Option Addr) (cap : Nat) (l : List De) (al : Option Addr) (capl : Nat) (z : Int) (m : Int) (w : World) (hm : w.cell? ⟨0, 0, none⟩ = some (.int .i64 m)) (hlen : fs.length ≤ 1048576) (hc : IsFiles w a fs) (hz : ∀ f ∈ fs, f.1.size ≤ maxLen ∧ f.2.2.size ≤ 1048576) (hd : IsDes w al l) (hzd : ∀ d ∈ l, d.pa.size ≤ maxLen ∧ d.da.size ≤ 100000000) (hsz : (textD l).size ≤ 4194304) (hl : l.length ≤ 1048576) (hz1 : z ≤ 9223372036854775807) :
    Calls Tryz.prog 6 #[.slice a fs.length cap, .slice al l.length capl, .int .i64 z] w fun e' w' => e' = .returned (.bool true) ∧ Below w.heap.size w w' := by
  have HDK := hide3 (disks_any fs a cap m w hm hlen hc fun f hf => ⟨(hz f hf).1, Nat.le_trans (hz f hf).2 (by decide)⟩)
  have HLV : Hid (∀ W, Below w.heap.size w W → Calls Tryz.prog 9 #[] W fun e' w' => e' = .returned (.bool true) ∧ Below W.heap.size W w') := fun W hb => lives18_any m W ((hb.cell (p := ⟨0, 0, none⟩) (cell_lt hm)).trans hm)
  have HDS : Hid (∀ W, Below w.heap.size w W → IsDes W al l) := fun W hb => hd.below hb
  by_cases hL : Loads fs
  · have hf0 := (loads_fine hL).1
    have hrd : (readT (loadD fs) pP).size ≤ 4194304 := Nat.le_trans (read_load hL (fun f hf => (hz f hf).2) pP) (by decide)
    have HCU : Hid (∀ W d, Pk w.heap.size W d ⟨loadD fs, [], -1⟩ m 1048576 → Calls Tryz.prog 10 #[.pointer (some ⟨d, 0, none⟩), .int .i64 z] W fun e1 w1 => e1 = .returned (.int .i64 (cutE (-1) z)) ∧ Pk w.heap.size w1 d ⟨loadD fs, [], cutL (-1) z⟩ m 1048577 ∧ Below w.heap.size W w1) := fun W d hB => hB.cut z hz1
    obtain ⟨lz, hlz⟩ : ∃ lz, lz = if 0 ≤ z then cutL (-1) z else -1 := ⟨_, rfl⟩
    have hlb : -1 ≤ lz ∧ lz ≤ 9223372036854775807 := by
      rw [hlz]
      split
      · exact cut_bd (by decide) (by decide) hz1
      · exact ⟨by decide, by decide⟩
    have hf1 : Fine ⟨loadD fs, [], lz⟩ := ⟨hf0.pl, hf0.so, hlb.1, hlb.2⟩
    have HCM : Hid (∀ W d, Below w.heap.size w W → Pk w.heap.size W d ⟨loadD fs, [], lz⟩ m 1048577 → Calls Tryz.prog 12 #[.pointer (some ⟨d, 0, none⟩), .slice al l.length capl] W fun e' w' => e' = .returned (.int .i64 (commitA l ⟨loadD fs, [], lz⟩).1) ∧ Pk w.heap.size w' d (commitA l ⟨loadD fs, [], lz⟩).2 m 2097160 ∧ Below w.heap.size W w') := fun W d hb hB => (hB.commit l al capl hd hb hzd hsz (by omega) (by omega)).mono fun _ _ q => ⟨q.1, q.2.1.more (by omega), q.2.2⟩
    have hs1 := com_size (l := l) (b := 4194304) hf1 hrd hsz
    have HQU := hide3 (fun hm => quiet (l := l) hf1 rfl (-1) hm)
    have HNO : Hid (l.length = 0 → (commitA l ⟨loadD fs, [], lz⟩).2.rs = []) := fun e => by
      rw [List.eq_nil_of_length_eq_zero e, commit_nothing]
    generalize commitA l ⟨loadD fs, [], lz⟩ = Y1 at *
    obtain ⟨c1, y1⟩ := Y1
    simp only at HCM hs1 HQU HNO
    have HRA : Hid (∀ W d, Pk w.heap.size W d y1 m 2097160 → Calls Tryz.prog 21 #[.pointer (some ⟨d, 0, none⟩)] W fun e' w' => ∃ ao cp, e' = .returned (.slice ao y1.rs.length cp) ∧ Pk w.heap.size w' d y1 m 2097160 ∧ Below W.heap.size W w') := fun W d hB => by
      refine (hB.raws (by decide)).mono ?_
      rintro e' w' ⟨ao, cp, rfl, _, hb⟩
      exact ⟨ao, cp, rfl, hB.below hb, hb⟩
    have HKJ : Hid (∀ W d, Pk w.heap.size W d y1 m 2097160 → Calls Tryz.prog 22 #[.pointer (some ⟨d, 0, none⟩), .string ⟨#[47, 106, 111, 117, 114, 110, 97, 108]⟩] W fun e' w' => e' = .returned (.int .i64 (kindD y1.D jn)) ∧ Pk w.heap.size w' d y1 m 2097160 ∧ Below W.heap.size W w') := fun W d hB => (hB.kind jn (by decide)).mono fun _ _ q => ⟨q.1, hB.below q.2, q.2⟩
    have HUP : Hid (∀ W d, Pk w.heap.size W d y1 m 2097160 → Calls Tryz.prog 15 #[.pointer (some ⟨d, 0, none⟩)] W fun e' w' => e' = .returned (.tuple #[]) ∧ Pk w.heap.size w' d { y1 with left := -1 } m 2097161 ∧ Below w.heap.size W w') := fun W d hB => hB.up
    obtain ⟨y2, hy2⟩ : ∃ y2 : Ab, y2 = { y1 with left := -1 } := ⟨_, rfl⟩
    rw [← hy2] at HUP HQU
    have hs2 : (readT y2.D pP).size ≤ 4194304 := by rw [hy2]; exact hs1
    have hrs2 : y2.rs = y1.rs := by rw [hy2]
    have hps := (parO_sizes (readT y2.D pP)).1
    have HRC : Hid (∀ W d, Pk w.heap.size W d y2 m 2097161 → Calls Tryz.prog 17 #[.pointer (some ⟨d, 0, none⟩)] W fun e' w' => e' = .returned (.int .i64 (recA y2).1) ∧ Pk w.heap.size w' d (recA y2).2 m 6291470 ∧ Below w.heap.size W w') := fun W d hB => (hB.recov hs2 (by omega)).mono fun _ _ q => ⟨q.1, q.2.1.more (by omega), q.2.2⟩
    have HDR : Hid (∀ y W d, Pk w.heap.size W d y m 6291470 → Calls Tryz.prog 21 #[.pointer (some ⟨d, 0, none⟩)] W fun e' w' => ∃ ao cp, e' = .returned (.slice ao y.rs.length cp) ∧ w'.ownsRow W.heap.size 52 3 (.slice ao y.rs.length cp) y.rs.length (rawCells y.rs) ∧ y.rs.length ≤ 6291470 ∧ Below W.heap.size W w') := fun y W d hB => by
      have hlr : y.rs.length ≤ 6291470 := by
        obtain ⟨_, _, _, h1⟩ := hB
        exact h1.lr
      refine (hB.raws (by decide)).mono ?_
      rintro e' w' ⟨ao, cp, rfl, hr, hb⟩
      exact ⟨ao, cp, rfl, hr, hlr, hb⟩
    have HLE : Hid (fs.length ≤ 1048576) := hlen
    have HLL := hide3 hL
    clear hs1 hs2 hps hy2 hL hc hz hd hzd hsz hf0 hf1 hrd hlb
    generalize recA y2 = Y3 at *
    obtain ⟨c3, y3⟩ := Y3
    simp only at HRC HQU
    generalize kindD y1.D jn = kj at *
    cases hkj : (kj == 0)
    · by_cases hr1 : y1.rs = []
      · have HALL : Hid (∀ z ∈ y2.rs, ofJ z.2.1 ∨ ofDs l z.2.1) := fun z hz => by rw [hrs2, hr1] at hz; cases hz
        have hn3 : decide (0 < (y1.rs.length : Int)) = false := by rw [hr1]; rfl
        have hn4 : decide (0 < y1.rs.length) = false := by rw [hr1]; rfl
        clear HQU HRC hr1 hrs2
        by_cases hl0 : l.length = 0
        · have hl1 : ((l.length : Int) == 0) = true := beq_iff_eq.2 (by omega)
          have hn1 : y1.rs.length = 0 := by rw [HNO.out hl0]; rfl
          have hn2 : ((y1.rs.length : Int) != 0) = false := bne_eq_false_iff_eq.2 (by omega)
          have HL0 : Hid (l.length = 0) := hl0
          clear hl0 hn1
          generalize y1.rs.length = n1 at *
          by_cases h0 : 0 ≤ z
          · rw [if_pos h0] at hlz
            subst hlz
            clear HNO
            go_enter Tryz.func6, Tryz.ntmps6
            go_wp2_with (first
              | (go_at_call 21; have _t := HT7; refine (HDR.out _ _ _ (HT7.out.more (by decide))).mono ?_; rintro f9 w9 ⟨ao9, cp9, rfl, hr9, hl9, hb9⟩; have HRW := hide3 hr9; have HB9 := hide3 (HB7.out.trans (hb9.mono HB7.out.size)); clear hr9 hb9)
              | (go_at_call 15; have _t := HT6; refine (HUP.out _ _ HT6.out).mono ?_; rintro f7 w7 ⟨rfl, ht7, hb7⟩; have HT7 := hide3 ht7; have HB7 := hide3 (HB6.out.trans hb7); clear ht7 hb7)
              | (go_at_call 21; have _t := HT5; refine (HRA.out _ _ HT5.out).mono ?_; rintro f6 w6 ⟨ao6, cp6, rfl, ht6, hb6⟩; have HT6 := hide3 ht6; have HB6 := hide3 (HB5.out.trans (hb6.mono HB5.out.size)); clear ht6 hb6)
              | (go_at_call 22; have _t := HT4; refine (HKJ.out _ _ HT4.out).mono ?_; rintro f5 w5 ⟨rfl, ht5, hb5⟩; have HT5 := hide3 ht5; have HB5 := hide3 (HB4.out.trans (hb5.mono HB4.out.size)); clear ht5 hb5)
              | (go_at_call 21; have _t := HT3; refine (HRA.out _ _ HT3.out).mono ?_; rintro f4 w4 ⟨ao4, cp4, rfl, ht4, hb4⟩; have HT4 := hide3 ht4; have HB4 := hide3 (HB3.out.trans (hb4.mono HB3.out.size)); clear ht4 hb4)
              | (go_at_call 12; have _t := HT2; refine (HCM.out _ _ HB2.out HT2.out).mono ?_; rintro e3 w3 ⟨rfl, ht3, hb3⟩; have HT3 := hide3 ht3; have HB3 := hide3 (HB2.out.trans hb3); clear ht3 hb3)
              | (go_at_call 10; have _t := HT1; refine (HCU.out _ _ HT1.out).mono ?_; rintro e2 w2 ⟨rfl, ht2, hb2⟩; have HT2 := hide3 ht2; have HB2 := hide3 (HB1.out.trans hb2); clear ht2 hb2)
              | (go_at_call 8; refine HDK.out.mono ?_; rintro e1 w1 ⟨hb1, hq1⟩; obtain ⟨_, d1, r1, rfl, ht1⟩ := hq1.resolve_right (fun h => h.1 HLL.out); have HB1 := hide3 hb1; have HT1 := hide3 (ht1.pk.more HLE.out); clear hb1 ht1 hq1))
            clear HDR
            generalize y2.rs = R at *
            go_loopw [12] (fun v12 wr => ∃ i : Nat, i ≤ R.length ∧ v12 = .int .i64 i ∧ wr = w9) (fun v12 _ => R.length - (intOf v12).toNat)
            case atStart => exact ⟨0, Nat.zero_le _, rfl, rfl⟩
            case round =>
              obtain ⟨i, hi, rfl, rfl⟩ := hrel
              by_cases hlt : i < R.length
              · obtain ⟨g, rfl, b1⟩ := raw_cells HRW.out hlt
                have HOW := hide3 (HALL.out R[i] (List.getElem_mem hlt))
                have hii : (i : Int) < (R.length : Int) := by omega
                have hi0 : (0 : Int) ≤ (i : Int) := by omega
                generalize R[i].2.1 = s at *
                go_upto_region 18 with fail
                go_cut [14] from 58 to 98 (fun s14 wx => s14 = .bool (ownJ s) ∧ wx = wr)
                case first =>
                  have HJ : Hid (ownJ s = ((s.toList == [47, 106, 111, 117, 114, 110, 97, 108]) || (decide (8 < (s.size : Int)) && ((s.extract 0 9).toList == [47, 106, 111, 117, 114, 110, 97, 108, 47])))) := rfl
                  cases q1 : (s.toList == [47, 106, 111, 117, 114, 110, 97, 108])
                  · cases q2 : decide (8 < (s.size : Int))
                    · rw [q1, q2] at HJ
                      go_wp2_with fail
                      go_meet
                      exact ⟨by rw [HJ.out]; rfl, rfl⟩
                    · have q2i : (8 : Int) < (s.size : Int) := of_decide_eq_true q2
                      have q2n : 9 ≤ s.size := by omega
                      rw [q1, q2] at HJ
                      clear q2
                      cases q3 : ((s.extract 0 9).toList == [47, 106, 111, 117, 114, 110, 97, 108, 47])
                      · rw [q3] at HJ
                        go_wp2_with fail
                        go_meet
                        exact ⟨by rw [HJ.out]; rfl, rfl⟩
                      · rw [q3] at HJ
                        go_wp2_with fail
                        go_meet
                        exact ⟨by rw [HJ.out]; rfl, rfl⟩
                  · rw [q1] at HJ
                    go_wp2_with fail
                    go_meet
                    exact ⟨by rw [HJ.out]; rfl, rfl⟩
                case rest =>
                  obtain ⟨rfl, hwc⟩ := hcut
                  have HOJ : Hid ((ownJ s || l.any (eqP s)) = true) := HOW.out.elim (fun h => by unfold Hid; rw [ofJ_own h]; rfl) (fun h => by unfold Hid; rw [ofDs_any h, Bool.or_true])
                  have HDW := hide3 (HDS.out wr HB9.out)
                  clear HOW b1
                  obtain ⟨WR, hWR⟩ : ∃ q, q = wr := ⟨wr, rfl⟩
                  subst hwc
                  subst hWR
                  generalize ownJ s = oj at *
                  go_wp2_with fail
                  go_loopw [14, 15] (fun v14 v15 w2 => ∃ k : Nat, k ≤ l.length ∧ v15 = .int .i64 k ∧ v14 = .bool (oj || (l.take k).any (eqP s)) ∧ w2 = WR) (fun _ v15 _ => l.length - (intOf v15).toNat)
                  case atStart => exact ⟨0, Nat.zero_le _, rfl, by simp, rfl⟩
                  case round =>
                    obtain ⟨k, hk, rfl, rfl, hwr⟩ := hrel
                    by_cases hkl : k < l.length
                    · have HTK := hide3 (any_takeS (s := s) hkl)
                      obtain ⟨gd, off, rfl, hg, hcs⟩ : ∃ gd off, al = some ⟨gd, off, none⟩ ∧ gd < WR.heap.size ∧ DesIn WR gd off l := by
                        rcases HDW.out with q | q
                        · rw [q] at hkl; exact absurd hkl (Nat.not_lt_zero _)
                        · exact q
                      obtain ⟨_, c1', _⟩ := hcs k hkl
                      have hki : (k : Int) < (l.length : Int) := by omega
                      have hk0 : (0 : Int) ≤ (k : Int) := by omega
                      have HIN : Hid (k + 1 ≤ l.length) := hkl
                      clear hcs HDW HDS
                      subst hwr
                      generalize l[k].pa = pk at *
                      have HNX : Hid (∀ V b, (oj || (l.take k).any (eqP s)) = V → (pk.toList == s.toList) = b → Value.bool (V || b) = .bool (oj || (l.take (k + 1)).any (eqP s))) := fun V b e1 e2 => by rw [HTK.out, ← Bool.or_assoc, e1, e2]
                      clear HTK
                      generalize hV : (oj || (l.take k).any (eqP s)) = V at *
                      have HV := hide3 hV
                      clear hV
                      cases V
                      · cases hb : (pk.toList == s.toList)
                        · go_wp2_with fail
                          exact ⟨⟨k + 1, HIN.out, by go_num, HNX.out _ _ rfl hb, trivial⟩, by simp [intOf]; omega⟩
                        · go_wp2_with fail
                          exact ⟨⟨k + 1, HIN.out, by go_num, HNX.out _ _ rfl hb, trivial⟩, by simp [intOf]; omega⟩
                      · have HN2 : Hid (Value.bool true = .bool (oj || (l.take (k + 1)).any (eqP s))) := HNX.out true (pk.toList == s.toList) rfl rfl
                        go_wp2_with fail
                        exact ⟨⟨k + 1, HIN.out, by go_num, HN2.out, trivial⟩, by simp [intOf]; omega⟩
                    · obtain rfl : k = l.length := by omega
                      have hki : ¬ ((l.length : Int) < (l.length : Int)) := by omega
                      rw [List.take_length, HOJ.out]
                      subst hwr
                      go_wp2_with fail
                      exact ⟨⟨i + 1, by omega, by go_num, trivial⟩, by simp [intOf]; omega⟩
              · obtain rfl : i = R.length := by omega
                have hii : ¬ ((R.length : Int) < (R.length : Int)) := by omega
                go_wp2_with (go_at_call 9; refine (HLV.out _ HB9.out).mono ?_; rintro f10 w10 ⟨rfl, hb10⟩; have HB10 := hide3 (HB9.out.trans (hb10.mono HB9.out.size)); clear hb10)
                go_ret
                exact ⟨rfl, HB10.out⟩
          · rw [if_neg h0] at hlz
            subst hlz
            clear HCU HNO
            have h0d : decide (0 ≤ z) = false := by simp; omega
            go_enter Tryz.func6, Tryz.ntmps6
            go_wp2_with (first
              | (go_at_call 21; have _t := HT7; refine (HDR.out _ _ _ (HT7.out.more (by decide))).mono ?_; rintro f9 w9 ⟨ao9, cp9, rfl, hr9, hl9, hb9⟩; have HRW := hide3 hr9; have HB9 := hide3 (HB7.out.trans (hb9.mono HB7.out.size)); clear hr9 hb9)
              | (go_at_call 15; have _t := HT6; refine (HUP.out _ _ HT6.out).mono ?_; rintro f7 w7 ⟨rfl, ht7, hb7⟩; have HT7 := hide3 ht7; have HB7 := hide3 (HB6.out.trans hb7); clear ht7 hb7)
              | (go_at_call 21; have _t := HT5; refine (HRA.out _ _ HT5.out).mono ?_; rintro f6 w6 ⟨ao6, cp6, rfl, ht6, hb6⟩; have HT6 := hide3 ht6; have HB6 := hide3 (HB5.out.trans (hb6.mono HB5.out.size)); clear ht6 hb6)
              | (go_at_call 22; have _t := HT4; refine (HKJ.out _ _ HT4.out).mono ?_; rintro f5 w5 ⟨rfl, ht5, hb5⟩; have HT5 := hide3 ht5; have HB5 := hide3 (HB4.out.trans (hb5.mono HB4.out.size)); clear ht5 hb5)
              | (go_at_call 21; have _t := HT3; refine (HRA.out _ _ HT3.out).mono ?_; rintro f4 w4 ⟨ao4, cp4, rfl, ht4, hb4⟩; have HT4 := hide3 ht4; have HB4 := hide3 (HB3.out.trans (hb4.mono HB3.out.size)); clear ht4 hb4)
              | (go_at_call 12; have _t := HT1; refine (HCM.out _ _ HB1.out HT1.out).mono ?_; rintro e3 w3 ⟨rfl, ht3, hb3⟩; have HT3 := hide3 ht3; have HB3 := hide3 (HB1.out.trans hb3); clear ht3 hb3)
              | (go_at_call 8; refine HDK.out.mono ?_; rintro e1 w1 ⟨hb1, hq1⟩; obtain ⟨_, d1, r1, rfl, ht1⟩ := hq1.resolve_right (fun h => h.1 HLL.out); have HB1 := hide3 hb1; have HT1 := hide3 ((ht1.pk.more HLE.out).more (Nat.le_succ _)); clear hb1 ht1 hq1))
            clear HDR
            generalize y2.rs = R at *
            go_loopw [12] (fun v12 wr => ∃ i : Nat, i ≤ R.length ∧ v12 = .int .i64 i ∧ wr = w9) (fun v12 _ => R.length - (intOf v12).toNat)
            case atStart => exact ⟨0, Nat.zero_le _, rfl, rfl⟩
            case round =>
              obtain ⟨i, hi, rfl, rfl⟩ := hrel
              by_cases hlt : i < R.length
              · obtain ⟨g, rfl, b1⟩ := raw_cells HRW.out hlt
                have HOW := hide3 (HALL.out R[i] (List.getElem_mem hlt))
                have hii : (i : Int) < (R.length : Int) := by omega
                have hi0 : (0 : Int) ≤ (i : Int) := by omega
                generalize R[i].2.1 = s at *
                go_upto_region 18 with fail
                go_cut [14] from 58 to 98 (fun s14 wx => s14 = .bool (ownJ s) ∧ wx = wr)
                case first =>
                  have HJ : Hid (ownJ s = ((s.toList == [47, 106, 111, 117, 114, 110, 97, 108]) || (decide (8 < (s.size : Int)) && ((s.extract 0 9).toList == [47, 106, 111, 117, 114, 110, 97, 108, 47])))) := rfl
                  cases q1 : (s.toList == [47, 106, 111, 117, 114, 110, 97, 108])
                  · cases q2 : decide (8 < (s.size : Int))
                    · rw [q1, q2] at HJ
                      go_wp2_with fail
                      go_meet
                      exact ⟨by rw [HJ.out]; rfl, rfl⟩
                    · have q2i : (8 : Int) < (s.size : Int) := of_decide_eq_true q2
                      have q2n : 9 ≤ s.size := by omega
                      rw [q1, q2] at HJ
                      clear q2
                      cases q3 : ((s.extract 0 9).toList == [47, 106, 111, 117, 114, 110, 97, 108, 47])
                      · rw [q3] at HJ
                        go_wp2_with fail
                        go_meet
                        exact ⟨by rw [HJ.out]; rfl, rfl⟩
                      · rw [q3] at HJ
                        go_wp2_with fail
                        go_meet
                        exact ⟨by rw [HJ.out]; rfl, rfl⟩
                  · rw [q1] at HJ
                    go_wp2_with fail
                    go_meet
                    exact ⟨by rw [HJ.out]; rfl, rfl⟩
                case rest =>
                  obtain ⟨rfl, hwc⟩ := hcut
                  have HOJ : Hid ((ownJ s || l.any (eqP s)) = true) := HOW.out.elim (fun h => by unfold Hid; rw [ofJ_own h]; rfl) (fun h => by unfold Hid; rw [ofDs_any h, Bool.or_true])
                  have HDW := hide3 (HDS.out wr HB9.out)
                  clear HOW b1
                  obtain ⟨WR, hWR⟩ : ∃ q, q = wr := ⟨wr, rfl⟩
                  subst hwc
                  subst hWR
                  generalize ownJ s = oj at *
                  go_wp2_with fail
                  go_loopw [14, 15] (fun v14 v15 w2 => ∃ k : Nat, k ≤ l.length ∧ v15 = .int .i64 k ∧ v14 = .bool (oj || (l.take k).any (eqP s)) ∧ w2 = WR) (fun _ v15 _ => l.length - (intOf v15).toNat)
                  case atStart => exact ⟨0, Nat.zero_le _, rfl, by simp, rfl⟩
                  case round =>
                    obtain ⟨k, hk, rfl, rfl, hwr⟩ := hrel
                    by_cases hkl : k < l.length
                    · have HTK := hide3 (any_takeS (s := s) hkl)
                      obtain ⟨gd, off, rfl, hg, hcs⟩ : ∃ gd off, al = some ⟨gd, off, none⟩ ∧ gd < WR.heap.size ∧ DesIn WR gd off l := by
                        rcases HDW.out with q | q
                        · rw [q] at hkl; exact absurd hkl (Nat.not_lt_zero _)
                        · exact q
                      obtain ⟨_, c1', _⟩ := hcs k hkl
                      have hki : (k : Int) < (l.length : Int) := by omega
                      have hk0 : (0 : Int) ≤ (k : Int) := by omega
                      have HIN : Hid (k + 1 ≤ l.length) := hkl
                      clear hcs HDW HDS
                      subst hwr
                      generalize l[k].pa = pk at *
                      have HNX : Hid (∀ V b, (oj || (l.take k).any (eqP s)) = V → (pk.toList == s.toList) = b → Value.bool (V || b) = .bool (oj || (l.take (k + 1)).any (eqP s))) := fun V b e1 e2 => by rw [HTK.out, ← Bool.or_assoc, e1, e2]
                      clear HTK
                      generalize hV : (oj || (l.take k).any (eqP s)) = V at *
                      have HV := hide3 hV
                      clear hV
                      cases V
                      · cases hb : (pk.toList == s.toList)
                        · go_wp2_with fail
                          exact ⟨⟨k + 1, HIN.out, by go_num, HNX.out _ _ rfl hb, trivial⟩, by simp [intOf]; omega⟩
                        · go_wp2_with fail
                          exact ⟨⟨k + 1, HIN.out, by go_num, HNX.out _ _ rfl hb, trivial⟩, by simp [intOf]; omega⟩
                      · have HN2 : Hid (Value.bool true = .bool (oj || (l.take (k + 1)).any (eqP s))) := HNX.out true (pk.toList == s.toList) rfl rfl
                        go_wp2_with fail
                        exact ⟨⟨k + 1, HIN.out, by go_num, HN2.out, trivial⟩, by simp [intOf]; omega⟩
                    · obtain rfl : k = l.length := by omega
                      have hki : ¬ ((l.length : Int) < (l.length : Int)) := by omega
                      rw [List.take_length, HOJ.out]
                      subst hwr
                      go_wp2_with fail
                      exact ⟨⟨i + 1, by omega, by go_num, trivial⟩, by simp [intOf]; omega⟩
              · obtain rfl : i = R.length := by omega
                have hii : ¬ ((R.length : Int) < (R.length : Int)) := by omega
                go_wp2_with (go_at_call 9; refine (HLV.out _ HB9.out).mono ?_; rintro f10 w10 ⟨rfl, hb10⟩; have HB10 := hide3 (HB9.out.trans (hb10.mono HB9.out.size)); clear hb10)
                go_ret
                exact ⟨rfl, HB10.out⟩
        · have hl1 : ((l.length : Int) == 0) = false := beq_eq_false_iff_ne.2 (by omega)
          generalize y1.rs.length = n1 at *
          by_cases h0 : 0 ≤ z
          · rw [if_pos h0] at hlz
            subst hlz
            clear HNO
            go_enter Tryz.func6, Tryz.ntmps6
            go_wp2_with (first
              | (go_at_call 21; have _t := HT6; refine (HDR.out _ _ _ (HT6.out.more (by decide))).mono ?_; rintro f9 w9 ⟨ao9, cp9, rfl, hr9, hl9, hb9⟩; have HRW := hide3 hr9; have HB9 := hide3 (HB6.out.trans (hb9.mono HB6.out.size)); clear hr9 hb9)
              | (go_at_call 15; have _t := HT5; refine (HUP.out _ _ HT5.out).mono ?_; rintro f6 w6 ⟨rfl, ht6, hb6⟩; have HT6 := hide3 ht6; have HB6 := hide3 (HB5.out.trans hb6); clear ht6 hb6)
              | (go_at_call 21; have _t := HT4; refine (HRA.out _ _ HT4.out).mono ?_; rintro f5 w5 ⟨ao5, cp5, rfl, ht5, hb5⟩; have HT5 := hide3 ht5; have HB5 := hide3 (HB4.out.trans (hb5.mono HB4.out.size)); clear ht5 hb5)
              | (go_at_call 22; have _t := HT3; refine (HKJ.out _ _ HT3.out).mono ?_; rintro f4 w4 ⟨rfl, ht4, hb4⟩; have HT4 := hide3 ht4; have HB4 := hide3 (HB3.out.trans (hb4.mono HB3.out.size)); clear ht4 hb4)
              | (go_at_call 12; have _t := HT2; refine (HCM.out _ _ HB2.out HT2.out).mono ?_; rintro e3 w3 ⟨rfl, ht3, hb3⟩; have HT3 := hide3 ht3; have HB3 := hide3 (HB2.out.trans hb3); clear ht3 hb3)
              | (go_at_call 10; have _t := HT1; refine (HCU.out _ _ HT1.out).mono ?_; rintro e2 w2 ⟨rfl, ht2, hb2⟩; have HT2 := hide3 ht2; have HB2 := hide3 (HB1.out.trans hb2); clear ht2 hb2)
              | (go_at_call 8; refine HDK.out.mono ?_; rintro e1 w1 ⟨hb1, hq1⟩; obtain ⟨_, d1, r1, rfl, ht1⟩ := hq1.resolve_right (fun h => h.1 HLL.out); have HB1 := hide3 hb1; have HT1 := hide3 (ht1.pk.more HLE.out); clear hb1 ht1 hq1))
            clear HDR
            generalize y2.rs = R at *
            go_loopw [12] (fun v12 wr => ∃ i : Nat, i ≤ R.length ∧ v12 = .int .i64 i ∧ wr = w9) (fun v12 _ => R.length - (intOf v12).toNat)
            case atStart => exact ⟨0, Nat.zero_le _, rfl, rfl⟩
            case round =>
              obtain ⟨i, hi, rfl, rfl⟩ := hrel
              by_cases hlt : i < R.length
              · obtain ⟨g, rfl, b1⟩ := raw_cells HRW.out hlt
                have HOW := hide3 (HALL.out R[i] (List.getElem_mem hlt))
                have hii : (i : Int) < (R.length : Int) := by omega
                have hi0 : (0 : Int) ≤ (i : Int) := by omega
                generalize R[i].2.1 = s at *
                go_upto_region 18 with fail
                go_cut [14] from 58 to 98 (fun s14 wx => s14 = .bool (ownJ s) ∧ wx = wr)
                case first =>
                  have HJ : Hid (ownJ s = ((s.toList == [47, 106, 111, 117, 114, 110, 97, 108]) || (decide (8 < (s.size : Int)) && ((s.extract 0 9).toList == [47, 106, 111, 117, 114, 110, 97, 108, 47])))) := rfl
                  cases q1 : (s.toList == [47, 106, 111, 117, 114, 110, 97, 108])
                  · cases q2 : decide (8 < (s.size : Int))
                    · rw [q1, q2] at HJ
                      go_wp2_with fail
                      go_meet
                      exact ⟨by rw [HJ.out]; rfl, rfl⟩
                    · have q2i : (8 : Int) < (s.size : Int) := of_decide_eq_true q2
                      have q2n : 9 ≤ s.size := by omega
                      rw [q1, q2] at HJ
                      clear q2
                      cases q3 : ((s.extract 0 9).toList == [47, 106, 111, 117, 114, 110, 97, 108, 47])
                      · rw [q3] at HJ
                        go_wp2_with fail
                        go_meet
                        exact ⟨by rw [HJ.out]; rfl, rfl⟩
                      · rw [q3] at HJ
                        go_wp2_with fail
                        go_meet
                        exact ⟨by rw [HJ.out]; rfl, rfl⟩
                  · rw [q1] at HJ
                    go_wp2_with fail
                    go_meet
                    exact ⟨by rw [HJ.out]; rfl, rfl⟩
                case rest =>
                  obtain ⟨rfl, hwc⟩ := hcut
                  have HOJ : Hid ((ownJ s || l.any (eqP s)) = true) := HOW.out.elim (fun h => by unfold Hid; rw [ofJ_own h]; rfl) (fun h => by unfold Hid; rw [ofDs_any h, Bool.or_true])
                  have HDW := hide3 (HDS.out wr HB9.out)
                  clear HOW b1
                  obtain ⟨WR, hWR⟩ : ∃ q, q = wr := ⟨wr, rfl⟩
                  subst hwc
                  subst hWR
                  generalize ownJ s = oj at *
                  go_wp2_with fail
                  go_loopw [14, 15] (fun v14 v15 w2 => ∃ k : Nat, k ≤ l.length ∧ v15 = .int .i64 k ∧ v14 = .bool (oj || (l.take k).any (eqP s)) ∧ w2 = WR) (fun _ v15 _ => l.length - (intOf v15).toNat)
                  case atStart => exact ⟨0, Nat.zero_le _, rfl, by simp, rfl⟩
                  case round =>
                    obtain ⟨k, hk, rfl, rfl, hwr⟩ := hrel
                    by_cases hkl : k < l.length
                    · have HTK := hide3 (any_takeS (s := s) hkl)
                      obtain ⟨gd, off, rfl, hg, hcs⟩ : ∃ gd off, al = some ⟨gd, off, none⟩ ∧ gd < WR.heap.size ∧ DesIn WR gd off l := by
                        rcases HDW.out with q | q
                        · rw [q] at hkl; exact absurd hkl (Nat.not_lt_zero _)
                        · exact q
                      obtain ⟨_, c1', _⟩ := hcs k hkl
                      have hki : (k : Int) < (l.length : Int) := by omega
                      have hk0 : (0 : Int) ≤ (k : Int) := by omega
                      have HIN : Hid (k + 1 ≤ l.length) := hkl
                      clear hcs HDW HDS
                      subst hwr
                      generalize l[k].pa = pk at *
                      have HNX : Hid (∀ V b, (oj || (l.take k).any (eqP s)) = V → (pk.toList == s.toList) = b → Value.bool (V || b) = .bool (oj || (l.take (k + 1)).any (eqP s))) := fun V b e1 e2 => by rw [HTK.out, ← Bool.or_assoc, e1, e2]
                      clear HTK
                      generalize hV : (oj || (l.take k).any (eqP s)) = V at *
                      have HV := hide3 hV
                      clear hV
                      cases V
                      · cases hb : (pk.toList == s.toList)
                        · go_wp2_with fail
                          exact ⟨⟨k + 1, HIN.out, by go_num, HNX.out _ _ rfl hb, trivial⟩, by simp [intOf]; omega⟩
                        · go_wp2_with fail
                          exact ⟨⟨k + 1, HIN.out, by go_num, HNX.out _ _ rfl hb, trivial⟩, by simp [intOf]; omega⟩
                      · have HN2 : Hid (Value.bool true = .bool (oj || (l.take (k + 1)).any (eqP s))) := HNX.out true (pk.toList == s.toList) rfl rfl
                        go_wp2_with fail
                        exact ⟨⟨k + 1, HIN.out, by go_num, HN2.out, trivial⟩, by simp [intOf]; omega⟩
                    · obtain rfl : k = l.length := by omega
                      have hki : ¬ ((l.length : Int) < (l.length : Int)) := by omega
                      rw [List.take_length, HOJ.out]
                      subst hwr
                      go_wp2_with fail
                      exact ⟨⟨i + 1, by omega, by go_num, trivial⟩, by simp [intOf]; omega⟩
              · obtain rfl : i = R.length := by omega
                have hii : ¬ ((R.length : Int) < (R.length : Int)) := by omega
                go_wp2_with (go_at_call 9; refine (HLV.out _ HB9.out).mono ?_; rintro f10 w10 ⟨rfl, hb10⟩; have HB10 := hide3 (HB9.out.trans (hb10.mono HB9.out.size)); clear hb10)
                go_ret
                exact ⟨rfl, HB10.out⟩
          · rw [if_neg h0] at hlz
            subst hlz
            clear HCU HNO
            have h0d : decide (0 ≤ z) = false := by simp; omega
            go_enter Tryz.func6, Tryz.ntmps6
            go_wp2_with (first
              | (go_at_call 21; have _t := HT6; refine (HDR.out _ _ _ (HT6.out.more (by decide))).mono ?_; rintro f9 w9 ⟨ao9, cp9, rfl, hr9, hl9, hb9⟩; have HRW := hide3 hr9; have HB9 := hide3 (HB6.out.trans (hb9.mono HB6.out.size)); clear hr9 hb9)
              | (go_at_call 15; have _t := HT5; refine (HUP.out _ _ HT5.out).mono ?_; rintro f6 w6 ⟨rfl, ht6, hb6⟩; have HT6 := hide3 ht6; have HB6 := hide3 (HB5.out.trans hb6); clear ht6 hb6)
              | (go_at_call 21; have _t := HT4; refine (HRA.out _ _ HT4.out).mono ?_; rintro f5 w5 ⟨ao5, cp5, rfl, ht5, hb5⟩; have HT5 := hide3 ht5; have HB5 := hide3 (HB4.out.trans (hb5.mono HB4.out.size)); clear ht5 hb5)
              | (go_at_call 22; have _t := HT3; refine (HKJ.out _ _ HT3.out).mono ?_; rintro f4 w4 ⟨rfl, ht4, hb4⟩; have HT4 := hide3 ht4; have HB4 := hide3 (HB3.out.trans (hb4.mono HB3.out.size)); clear ht4 hb4)
              | (go_at_call 12; have _t := HT1; refine (HCM.out _ _ HB1.out HT1.out).mono ?_; rintro e3 w3 ⟨rfl, ht3, hb3⟩; have HT3 := hide3 ht3; have HB3 := hide3 (HB1.out.trans hb3); clear ht3 hb3)
              | (go_at_call 8; refine HDK.out.mono ?_; rintro e1 w1 ⟨hb1, hq1⟩; obtain ⟨_, d1, r1, rfl, ht1⟩ := hq1.resolve_right (fun h => h.1 HLL.out); have HB1 := hide3 hb1; have HT1 := hide3 ((ht1.pk.more HLE.out).more (Nat.le_succ _)); clear hb1 ht1 hq1))
            clear HDR
            generalize y2.rs = R at *
            go_loopw [12] (fun v12 wr => ∃ i : Nat, i ≤ R.length ∧ v12 = .int .i64 i ∧ wr = w9) (fun v12 _ => R.length - (intOf v12).toNat)
            case atStart => exact ⟨0, Nat.zero_le _, rfl, rfl⟩
            case round =>
              obtain ⟨i, hi, rfl, rfl⟩ := hrel
              by_cases hlt : i < R.length
              · obtain ⟨g, rfl, b1⟩ := raw_cells HRW.out hlt
                have HOW := hide3 (HALL.out R[i] (List.getElem_mem hlt))
                have hii : (i : Int) < (R.length : Int) := by omega
                have hi0 : (0 : Int) ≤ (i : Int) := by omega
                generalize R[i].2.1 = s at *
                go_upto_region 18 with fail
                go_cut [14] from 58 to 98 (fun s14 wx => s14 = .bool (ownJ s) ∧ wx = wr)
                case first =>
                  have HJ : Hid (ownJ s = ((s.toList == [47, 106, 111, 117, 114, 110, 97, 108]) || (decide (8 < (s.size : Int)) && ((s.extract 0 9).toList == [47, 106, 111, 117, 114, 110, 97, 108, 47])))) := rfl
                  cases q1 : (s.toList == [47, 106, 111, 117, 114, 110, 97, 108])
                  · cases q2 : decide (8 < (s.size : Int))
                    · rw [q1, q2] at HJ
                      go_wp2_with fail
                      go_meet
                      exact ⟨by rw [HJ.out]; rfl, rfl⟩
                    · have q2i : (8 : Int) < (s.size : Int) := of_decide_eq_true q2
                      have q2n : 9 ≤ s.size := by omega
                      rw [q1, q2] at HJ
                      clear q2
                      cases q3 : ((s.extract 0 9).toList == [47, 106, 111, 117, 114, 110, 97, 108, 47])
                      · rw [q3] at HJ
                        go_wp2_with fail
                        go_meet
                        exact ⟨by rw [HJ.out]; rfl, rfl⟩
                      · rw [q3] at HJ
                        go_wp2_with fail
                        go_meet
                        exact ⟨by rw [HJ.out]; rfl, rfl⟩
                  · rw [q1] at HJ
                    go_wp2_with fail
                    go_meet
                    exact ⟨by rw [HJ.out]; rfl, rfl⟩
                case rest =>
                  obtain ⟨rfl, hwc⟩ := hcut
                  have HOJ : Hid ((ownJ s || l.any (eqP s)) = true) := HOW.out.elim (fun h => by unfold Hid; rw [ofJ_own h]; rfl) (fun h => by unfold Hid; rw [ofDs_any h, Bool.or_true])
                  have HDW := hide3 (HDS.out wr HB9.out)
                  clear HOW b1
                  obtain ⟨WR, hWR⟩ : ∃ q, q = wr := ⟨wr, rfl⟩
                  subst hwc
                  subst hWR
                  generalize ownJ s = oj at *
                  go_wp2_with fail
                  go_loopw [14, 15] (fun v14 v15 w2 => ∃ k : Nat, k ≤ l.length ∧ v15 = .int .i64 k ∧ v14 = .bool (oj || (l.take k).any (eqP s)) ∧ w2 = WR) (fun _ v15 _ => l.length - (intOf v15).toNat)
                  case atStart => exact ⟨0, Nat.zero_le _, rfl, by simp, rfl⟩
                  case round =>
                    obtain ⟨k, hk, rfl, rfl, hwr⟩ := hrel
                    by_cases hkl : k < l.length
                    · have HTK := hide3 (any_takeS (s := s) hkl)
                      obtain ⟨gd, off, rfl, hg, hcs⟩ : ∃ gd off, al = some ⟨gd, off, none⟩ ∧ gd < WR.heap.size ∧ DesIn WR gd off l := by
                        rcases HDW.out with q | q
                        · rw [q] at hkl; exact absurd hkl (Nat.not_lt_zero _)
                        · exact q
                      obtain ⟨_, c1', _⟩ := hcs k hkl
                      have hki : (k : Int) < (l.length : Int) := by omega
                      have hk0 : (0 : Int) ≤ (k : Int) := by omega
                      have HIN : Hid (k + 1 ≤ l.length) := hkl
                      clear hcs HDW HDS
                      subst hwr
                      generalize l[k].pa = pk at *
                      have HNX : Hid (∀ V b, (oj || (l.take k).any (eqP s)) = V → (pk.toList == s.toList) = b → Value.bool (V || b) = .bool (oj || (l.take (k + 1)).any (eqP s))) := fun V b e1 e2 => by rw [HTK.out, ← Bool.or_assoc, e1, e2]
                      clear HTK
                      generalize hV : (oj || (l.take k).any (eqP s)) = V at *
                      have HV := hide3 hV
                      clear hV
                      cases V
                      · cases hb : (pk.toList == s.toList)
                        · go_wp2_with fail
                          exact ⟨⟨k + 1, HIN.out, by go_num, HNX.out _ _ rfl hb, trivial⟩, by simp [intOf]; omega⟩
                        · go_wp2_with fail
                          exact ⟨⟨k + 1, HIN.out, by go_num, HNX.out _ _ rfl hb, trivial⟩, by simp [intOf]; omega⟩
                      · have HN2 : Hid (Value.bool true = .bool (oj || (l.take (k + 1)).any (eqP s))) := HNX.out true (pk.toList == s.toList) rfl rfl
                        go_wp2_with fail
                        exact ⟨⟨k + 1, HIN.out, by go_num, HN2.out, trivial⟩, by simp [intOf]; omega⟩
                    · obtain rfl : k = l.length := by omega
                      have hki : ¬ ((l.length : Int) < (l.length : Int)) := by omega
                      rw [List.take_length, HOJ.out]
                      subst hwr
                      go_wp2_with fail
                      exact ⟨⟨i + 1, by omega, by go_num, trivial⟩, by simp [intOf]; omega⟩
              · obtain rfl : i = R.length := by omega
                have hii : ¬ ((R.length : Int) < (R.length : Int)) := by omega
                go_wp2_with (go_at_call 9; refine (HLV.out _ HB9.out).mono ?_; rintro f10 w10 ⟨rfl, hb10⟩; have HB10 := hide3 (HB9.out.trans (hb10.mono HB9.out.size)); clear hb10)
                go_ret
                exact ⟨rfl, HB10.out⟩
      · have HALL : Hid (∀ z ∈ y3.rs, ofJ z.2.1 ∨ ofDs l z.2.1) := HQU.out (Or.inr hr1)
        have hn3 : decide (0 < (y1.rs.length : Int)) = true := by
          have := List.length_pos_iff.2 hr1
          rw [decide_eq_true_eq]
          omega
        have hn4 : decide (0 < y1.rs.length) = true := decide_eq_true (List.length_pos_iff.2 hr1)
        have hl0 : l.length ≠ 0 := fun e => hr1 (HNO.out e)
        have hl1 : ((l.length : Int) == 0) = false := beq_eq_false_iff_ne.2 (by omega)
        clear HQU hr1 hrs2
        generalize y1.rs.length = n1 at *
        by_cases h0 : 0 ≤ z
        · rw [if_pos h0] at hlz
          subst hlz
          clear HNO
          go_enter Tryz.func6, Tryz.ntmps6
          go_wp2_with (first
            | (go_at_call 21; have _t := HT7; refine (HDR.out _ _ _ (HT7.out)).mono ?_; rintro f9 w9 ⟨ao9, cp9, rfl, hr9, hl9, hb9⟩; have HRW := hide3 hr9; have HB9 := hide3 (HB7.out.trans (hb9.mono HB7.out.size)); clear hr9 hb9)
            | (go_at_call 17; have _t := HT6; refine (HRC.out _ _ HT6.out).mono ?_; rintro f7 w7 ⟨rfl, ht7, hb7⟩; have HT7 := hide3 ht7; have HB7 := hide3 (HB6.out.trans hb7); clear ht7 hb7)
            | (go_at_call 15; have _t := HT5; refine (HUP.out _ _ HT5.out).mono ?_; rintro f6 w6 ⟨rfl, ht6, hb6⟩; have HT6 := hide3 ht6; have HB6 := hide3 (HB5.out.trans hb6); clear ht6 hb6)
            | (go_at_call 21; have _t := HT4; refine (HRA.out _ _ HT4.out).mono ?_; rintro f5 w5 ⟨ao5, cp5, rfl, ht5, hb5⟩; have HT5 := hide3 ht5; have HB5 := hide3 (HB4.out.trans (hb5.mono HB4.out.size)); clear ht5 hb5)
            | (go_at_call 22; have _t := HT3; refine (HKJ.out _ _ HT3.out).mono ?_; rintro f4 w4 ⟨rfl, ht4, hb4⟩; have HT4 := hide3 ht4; have HB4 := hide3 (HB3.out.trans (hb4.mono HB3.out.size)); clear ht4 hb4)
            | (go_at_call 12; have _t := HT2; refine (HCM.out _ _ HB2.out HT2.out).mono ?_; rintro e3 w3 ⟨rfl, ht3, hb3⟩; have HT3 := hide3 ht3; have HB3 := hide3 (HB2.out.trans hb3); clear ht3 hb3)
            | (go_at_call 10; have _t := HT1; refine (HCU.out _ _ HT1.out).mono ?_; rintro e2 w2 ⟨rfl, ht2, hb2⟩; have HT2 := hide3 ht2; have HB2 := hide3 (HB1.out.trans hb2); clear ht2 hb2)
            | (go_at_call 8; refine HDK.out.mono ?_; rintro e1 w1 ⟨hb1, hq1⟩; obtain ⟨_, d1, r1, rfl, ht1⟩ := hq1.resolve_right (fun h => h.1 HLL.out); have HB1 := hide3 hb1; have HT1 := hide3 (ht1.pk.more HLE.out); clear hb1 ht1 hq1))
          clear HDR
          generalize y3.rs = R at *
          go_loopw [12] (fun v12 wr => ∃ i : Nat, i ≤ R.length ∧ v12 = .int .i64 i ∧ wr = w9) (fun v12 _ => R.length - (intOf v12).toNat)
          case atStart => exact ⟨0, Nat.zero_le _, rfl, rfl⟩
          case round =>
            obtain ⟨i, hi, rfl, rfl⟩ := hrel
            by_cases hlt : i < R.length
            · obtain ⟨g, rfl, b1⟩ := raw_cells HRW.out hlt
              have HOW := hide3 (HALL.out R[i] (List.getElem_mem hlt))
              have hii : (i : Int) < (R.length : Int) := by omega
              have hi0 : (0 : Int) ≤ (i : Int) := by omega
              generalize R[i].2.1 = s at *
              go_upto_region 18 with fail
              go_cut [14] from 58 to 98 (fun s14 wx => s14 = .bool (ownJ s) ∧ wx = wr)
              case first =>
                have HJ : Hid (ownJ s = ((s.toList == [47, 106, 111, 117, 114, 110, 97, 108]) || (decide (8 < (s.size : Int)) && ((s.extract 0 9).toList == [47, 106, 111, 117, 114, 110, 97, 108, 47])))) := rfl
                cases q1 : (s.toList == [47, 106, 111, 117, 114, 110, 97, 108])
                · cases q2 : decide (8 < (s.size : Int))
                  · rw [q1, q2] at HJ
                    go_wp2_with fail
                    go_meet
                    exact ⟨by rw [HJ.out]; rfl, rfl⟩
                  · have q2i : (8 : Int) < (s.size : Int) := of_decide_eq_true q2
                    have q2n : 9 ≤ s.size := by omega
                    rw [q1, q2] at HJ
                    clear q2
                    cases q3 : ((s.extract 0 9).toList == [47, 106, 111, 117, 114, 110, 97, 108, 47])
                    · rw [q3] at HJ
                      go_wp2_with fail
                      go_meet
                      exact ⟨by rw [HJ.out]; rfl, rfl⟩
                    · rw [q3] at HJ
                      go_wp2_with fail
                      go_meet
                      exact ⟨by rw [HJ.out]; rfl, rfl⟩
                · rw [q1] at HJ
                  go_wp2_with fail
                  go_meet
                  exact ⟨by rw [HJ.out]; rfl, rfl⟩
              case rest =>
                obtain ⟨rfl, hwc⟩ := hcut
                have HOJ : Hid ((ownJ s || l.any (eqP s)) = true) := HOW.out.elim (fun h => by unfold Hid; rw [ofJ_own h]; rfl) (fun h => by unfold Hid; rw [ofDs_any h, Bool.or_true])
                have HDW := hide3 (HDS.out wr HB9.out)
                clear HOW b1
                obtain ⟨WR, hWR⟩ : ∃ q, q = wr := ⟨wr, rfl⟩
                subst hwc
                subst hWR
                generalize ownJ s = oj at *
                go_wp2_with fail
                go_loopw [14, 15] (fun v14 v15 w2 => ∃ k : Nat, k ≤ l.length ∧ v15 = .int .i64 k ∧ v14 = .bool (oj || (l.take k).any (eqP s)) ∧ w2 = WR) (fun _ v15 _ => l.length - (intOf v15).toNat)
                case atStart => exact ⟨0, Nat.zero_le _, rfl, by simp, rfl⟩
                case round =>
                  obtain ⟨k, hk, rfl, rfl, hwr⟩ := hrel
                  by_cases hkl : k < l.length
                  · have HTK := hide3 (any_takeS (s := s) hkl)
                    obtain ⟨gd, off, rfl, hg, hcs⟩ : ∃ gd off, al = some ⟨gd, off, none⟩ ∧ gd < WR.heap.size ∧ DesIn WR gd off l := by
                      rcases HDW.out with q | q
                      · rw [q] at hkl; exact absurd hkl (Nat.not_lt_zero _)
                      · exact q
                    obtain ⟨_, c1', _⟩ := hcs k hkl
                    have hki : (k : Int) < (l.length : Int) := by omega
                    have hk0 : (0 : Int) ≤ (k : Int) := by omega
                    have HIN : Hid (k + 1 ≤ l.length) := hkl
                    clear hcs HDW HDS
                    subst hwr
                    generalize l[k].pa = pk at *
                    have HNX : Hid (∀ V b, (oj || (l.take k).any (eqP s)) = V → (pk.toList == s.toList) = b → Value.bool (V || b) = .bool (oj || (l.take (k + 1)).any (eqP s))) := fun V b e1 e2 => by rw [HTK.out, ← Bool.or_assoc, e1, e2]
                    clear HTK
                    generalize hV : (oj || (l.take k).any (eqP s)) = V at *
                    have HV := hide3 hV
                    clear hV
                    cases V
                    · cases hb : (pk.toList == s.toList)
                      · go_wp2_with fail
                        exact ⟨⟨k + 1, HIN.out, by go_num, HNX.out _ _ rfl hb, trivial⟩, by simp [intOf]; omega⟩
                      · go_wp2_with fail
                        exact ⟨⟨k + 1, HIN.out, by go_num, HNX.out _ _ rfl hb, trivial⟩, by simp [intOf]; omega⟩
                    · have HN2 : Hid (Value.bool true = .bool (oj || (l.take (k + 1)).any (eqP s))) := HNX.out true (pk.toList == s.toList) rfl rfl
                      go_wp2_with fail
                      exact ⟨⟨k + 1, HIN.out, by go_num, HN2.out, trivial⟩, by simp [intOf]; omega⟩
                  · obtain rfl : k = l.length := by omega
                    have hki : ¬ ((l.length : Int) < (l.length : Int)) := by omega
                    rw [List.take_length, HOJ.out]
                    subst hwr
                    go_wp2_with fail
                    exact ⟨⟨i + 1, by omega, by go_num, trivial⟩, by simp [intOf]; omega⟩
            · obtain rfl : i = R.length := by omega
              have hii : ¬ ((R.length : Int) < (R.length : Int)) := by omega
              go_wp2_with (go_at_call 9; refine (HLV.out _ HB9.out).mono ?_; rintro f10 w10 ⟨rfl, hb10⟩; have HB10 := hide3 (HB9.out.trans (hb10.mono HB9.out.size)); clear hb10)
              go_ret
              exact ⟨rfl, HB10.out⟩
        · rw [if_neg h0] at hlz
          subst hlz
          clear HCU HNO
          have h0d : decide (0 ≤ z) = false := by simp; omega
          go_enter Tryz.func6, Tryz.ntmps6
          go_wp2_with (first
            | (go_at_call 21; have _t := HT7; refine (HDR.out _ _ _ (HT7.out)).mono ?_; rintro f9 w9 ⟨ao9, cp9, rfl, hr9, hl9, hb9⟩; have HRW := hide3 hr9; have HB9 := hide3 (HB7.out.trans (hb9.mono HB7.out.size)); clear hr9 hb9)
            | (go_at_call 17; have _t := HT6; refine (HRC.out _ _ HT6.out).mono ?_; rintro f7 w7 ⟨rfl, ht7, hb7⟩; have HT7 := hide3 ht7; have HB7 := hide3 (HB6.out.trans hb7); clear ht7 hb7)
            | (go_at_call 15; have _t := HT5; refine (HUP.out _ _ HT5.out).mono ?_; rintro f6 w6 ⟨rfl, ht6, hb6⟩; have HT6 := hide3 ht6; have HB6 := hide3 (HB5.out.trans hb6); clear ht6 hb6)
            | (go_at_call 21; have _t := HT4; refine (HRA.out _ _ HT4.out).mono ?_; rintro f5 w5 ⟨ao5, cp5, rfl, ht5, hb5⟩; have HT5 := hide3 ht5; have HB5 := hide3 (HB4.out.trans (hb5.mono HB4.out.size)); clear ht5 hb5)
            | (go_at_call 22; have _t := HT3; refine (HKJ.out _ _ HT3.out).mono ?_; rintro f4 w4 ⟨rfl, ht4, hb4⟩; have HT4 := hide3 ht4; have HB4 := hide3 (HB3.out.trans (hb4.mono HB3.out.size)); clear ht4 hb4)
            | (go_at_call 12; have _t := HT1; refine (HCM.out _ _ HB1.out HT1.out).mono ?_; rintro e3 w3 ⟨rfl, ht3, hb3⟩; have HT3 := hide3 ht3; have HB3 := hide3 (HB1.out.trans hb3); clear ht3 hb3)
            | (go_at_call 8; refine HDK.out.mono ?_; rintro e1 w1 ⟨hb1, hq1⟩; obtain ⟨_, d1, r1, rfl, ht1⟩ := hq1.resolve_right (fun h => h.1 HLL.out); have HB1 := hide3 hb1; have HT1 := hide3 ((ht1.pk.more HLE.out).more (Nat.le_succ _)); clear hb1 ht1 hq1))
          clear HDR
          generalize y3.rs = R at *
          go_loopw [12] (fun v12 wr => ∃ i : Nat, i ≤ R.length ∧ v12 = .int .i64 i ∧ wr = w9) (fun v12 _ => R.length - (intOf v12).toNat)
          case atStart => exact ⟨0, Nat.zero_le _, rfl, rfl⟩
          case round =>
            obtain ⟨i, hi, rfl, rfl⟩ := hrel
            by_cases hlt : i < R.length
            · obtain ⟨g, rfl, b1⟩ := raw_cells HRW.out hlt
              have HOW := hide3 (HALL.out R[i] (List.getElem_mem hlt))
              have hii : (i : Int) < (R.length : Int) := by omega
              have hi0 : (0 : Int) ≤ (i : Int) := by omega
              generalize R[i].2.1 = s at *
              go_upto_region 18 with fail
              go_cut [14] from 58 to 98 (fun s14 wx => s14 = .bool (ownJ s) ∧ wx = wr)
              case first =>
                have HJ : Hid (ownJ s = ((s.toList == [47, 106, 111, 117, 114, 110, 97, 108]) || (decide (8 < (s.size : Int)) && ((s.extract 0 9).toList == [47, 106, 111, 117, 114, 110, 97, 108, 47])))) := rfl
                cases q1 : (s.toList == [47, 106, 111, 117, 114, 110, 97, 108])
                · cases q2 : decide (8 < (s.size : Int))
                  · rw [q1, q2] at HJ
                    go_wp2_with fail
                    go_meet
                    exact ⟨by rw [HJ.out]; rfl, rfl⟩
                  · have q2i : (8 : Int) < (s.size : Int) := of_decide_eq_true q2
                    have q2n : 9 ≤ s.size := by omega
                    rw [q1, q2] at HJ
                    clear q2
                    cases q3 : ((s.extract 0 9).toList == [47, 106, 111, 117, 114, 110, 97, 108, 47])
                    · rw [q3] at HJ
                      go_wp2_with fail
                      go_meet
                      exact ⟨by rw [HJ.out]; rfl, rfl⟩
                    · rw [q3] at HJ
                      go_wp2_with fail
                      go_meet
                      exact ⟨by rw [HJ.out]; rfl, rfl⟩
                · rw [q1] at HJ
                  go_wp2_with fail
                  go_meet
                  exact ⟨by rw [HJ.out]; rfl, rfl⟩
              case rest =>
                obtain ⟨rfl, hwc⟩ := hcut
                have HOJ : Hid ((ownJ s || l.any (eqP s)) = true) := HOW.out.elim (fun h => by unfold Hid; rw [ofJ_own h]; rfl) (fun h => by unfold Hid; rw [ofDs_any h, Bool.or_true])
                have HDW := hide3 (HDS.out wr HB9.out)
                clear HOW b1
                obtain ⟨WR, hWR⟩ : ∃ q, q = wr := ⟨wr, rfl⟩
                subst hwc
                subst hWR
                generalize ownJ s = oj at *
                go_wp2_with fail
                go_loopw [14, 15] (fun v14 v15 w2 => ∃ k : Nat, k ≤ l.length ∧ v15 = .int .i64 k ∧ v14 = .bool (oj || (l.take k).any (eqP s)) ∧ w2 = WR) (fun _ v15 _ => l.length - (intOf v15).toNat)
                case atStart => exact ⟨0, Nat.zero_le _, rfl, by simp, rfl⟩
                case round =>
                  obtain ⟨k, hk, rfl, rfl, hwr⟩ := hrel
                  by_cases hkl : k < l.length
                  · have HTK := hide3 (any_takeS (s := s) hkl)
                    obtain ⟨gd, off, rfl, hg, hcs⟩ : ∃ gd off, al = some ⟨gd, off, none⟩ ∧ gd < WR.heap.size ∧ DesIn WR gd off l := by
                      rcases HDW.out with q | q
                      · rw [q] at hkl; exact absurd hkl (Nat.not_lt_zero _)
                      · exact q
                    obtain ⟨_, c1', _⟩ := hcs k hkl
                    have hki : (k : Int) < (l.length : Int) := by omega
                    have hk0 : (0 : Int) ≤ (k : Int) := by omega
                    have HIN : Hid (k + 1 ≤ l.length) := hkl
                    clear hcs HDW HDS
                    subst hwr
                    generalize l[k].pa = pk at *
                    have HNX : Hid (∀ V b, (oj || (l.take k).any (eqP s)) = V → (pk.toList == s.toList) = b → Value.bool (V || b) = .bool (oj || (l.take (k + 1)).any (eqP s))) := fun V b e1 e2 => by rw [HTK.out, ← Bool.or_assoc, e1, e2]
                    clear HTK
                    generalize hV : (oj || (l.take k).any (eqP s)) = V at *
                    have HV := hide3 hV
                    clear hV
                    cases V
                    · cases hb : (pk.toList == s.toList)
                      · go_wp2_with fail
                        exact ⟨⟨k + 1, HIN.out, by go_num, HNX.out _ _ rfl hb, trivial⟩, by simp [intOf]; omega⟩
                      · go_wp2_with fail
                        exact ⟨⟨k + 1, HIN.out, by go_num, HNX.out _ _ rfl hb, trivial⟩, by simp [intOf]; omega⟩
                    · have HN2 : Hid (Value.bool true = .bool (oj || (l.take (k + 1)).any (eqP s))) := HNX.out true (pk.toList == s.toList) rfl rfl
                      go_wp2_with fail
                      exact ⟨⟨k + 1, HIN.out, by go_num, HN2.out, trivial⟩, by simp [intOf]; omega⟩
                  · obtain rfl : k = l.length := by omega
                    have hki : ¬ ((l.length : Int) < (l.length : Int)) := by omega
                    rw [List.take_length, HOJ.out]
                    subst hwr
                    go_wp2_with fail
                    exact ⟨⟨i + 1, by omega, by go_num, trivial⟩, by simp [intOf]; omega⟩
            · obtain rfl : i = R.length := by omega
              have hii : ¬ ((R.length : Int) < (R.length : Int)) := by omega
              go_wp2_with (go_at_call 9; refine (HLV.out _ HB9.out).mono ?_; rintro f10 w10 ⟨rfl, hb10⟩; have HB10 := hide3 (HB9.out.trans (hb10.mono HB9.out.size)); clear hb10)
              go_ret
              exact ⟨rfl, HB10.out⟩
    · have HALL : Hid (∀ z ∈ y3.rs, ofJ z.2.1 ∨ ofDs l z.2.1) := HQU.out (Or.inl (beq_iff_eq.1 hkj))
      clear HQU hrs2
      by_cases hl0 : l.length = 0
      · have hl1 : ((l.length : Int) == 0) = true := beq_iff_eq.2 (by omega)
        have hn1 : y1.rs.length = 0 := by rw [HNO.out hl0]; rfl
        have hn2 : ((y1.rs.length : Int) != 0) = false := bne_eq_false_iff_eq.2 (by omega)
        have HL0 : Hid (l.length = 0) := hl0
        clear hl0 hn1
        generalize y1.rs.length = n1 at *
        by_cases h0 : 0 ≤ z
        · rw [if_pos h0] at hlz
          subst hlz
          clear HNO
          go_enter Tryz.func6, Tryz.ntmps6
          go_wp2_with (first
            | (go_at_call 21; have _t := HT7; refine (HDR.out _ _ _ (HT7.out)).mono ?_; rintro f9 w9 ⟨ao9, cp9, rfl, hr9, hl9, hb9⟩; have HRW := hide3 hr9; have HB9 := hide3 (HB7.out.trans (hb9.mono HB7.out.size)); clear hr9 hb9)
            | (go_at_call 17; have _t := HT6; refine (HRC.out _ _ HT6.out).mono ?_; rintro f7 w7 ⟨rfl, ht7, hb7⟩; have HT7 := hide3 ht7; have HB7 := hide3 (HB6.out.trans hb7); clear ht7 hb7)
            | (go_at_call 15; have _t := HT5; refine (HUP.out _ _ HT5.out).mono ?_; rintro f6 w6 ⟨rfl, ht6, hb6⟩; have HT6 := hide3 ht6; have HB6 := hide3 (HB5.out.trans hb6); clear ht6 hb6)
            | (go_at_call 22; have _t := HT4; refine (HKJ.out _ _ HT4.out).mono ?_; rintro f5 w5 ⟨rfl, ht5, hb5⟩; have HT5 := hide3 ht5; have HB5 := hide3 (HB4.out.trans (hb5.mono HB4.out.size)); clear ht5 hb5)
            | (go_at_call 21; have _t := HT3; refine (HRA.out _ _ HT3.out).mono ?_; rintro f4 w4 ⟨ao4, cp4, rfl, ht4, hb4⟩; have HT4 := hide3 ht4; have HB4 := hide3 (HB3.out.trans (hb4.mono HB3.out.size)); clear ht4 hb4)
            | (go_at_call 12; have _t := HT2; refine (HCM.out _ _ HB2.out HT2.out).mono ?_; rintro e3 w3 ⟨rfl, ht3, hb3⟩; have HT3 := hide3 ht3; have HB3 := hide3 (HB2.out.trans hb3); clear ht3 hb3)
            | (go_at_call 10; have _t := HT1; refine (HCU.out _ _ HT1.out).mono ?_; rintro e2 w2 ⟨rfl, ht2, hb2⟩; have HT2 := hide3 ht2; have HB2 := hide3 (HB1.out.trans hb2); clear ht2 hb2)
            | (go_at_call 8; refine HDK.out.mono ?_; rintro e1 w1 ⟨hb1, hq1⟩; obtain ⟨_, d1, r1, rfl, ht1⟩ := hq1.resolve_right (fun h => h.1 HLL.out); have HB1 := hide3 hb1; have HT1 := hide3 (ht1.pk.more HLE.out); clear hb1 ht1 hq1))
          clear HDR
          generalize y3.rs = R at *
          go_loopw [12] (fun v12 wr => ∃ i : Nat, i ≤ R.length ∧ v12 = .int .i64 i ∧ wr = w9) (fun v12 _ => R.length - (intOf v12).toNat)
          case atStart => exact ⟨0, Nat.zero_le _, rfl, rfl⟩
          case round =>
            obtain ⟨i, hi, rfl, rfl⟩ := hrel
            by_cases hlt : i < R.length
            · obtain ⟨g, rfl, b1⟩ := raw_cells HRW.out hlt
              have HOW := hide3 (HALL.out R[i] (List.getElem_mem hlt))
              have hii : (i : Int) < (R.length : Int) := by omega
              have hi0 : (0 : Int) ≤ (i : Int) := by omega
              generalize R[i].2.1 = s at *
              go_upto_region 18 with fail
              go_cut [14] from 58 to 98 (fun s14 wx => s14 = .bool (ownJ s) ∧ wx = wr)
              case first =>
                have HJ : Hid (ownJ s = ((s.toList == [47, 106, 111, 117, 114, 110, 97, 108]) || (decide (8 < (s.size : Int)) && ((s.extract 0 9).toList == [47, 106, 111, 117, 114, 110, 97, 108, 47])))) := rfl
                cases q1 : (s.toList == [47, 106, 111, 117, 114, 110, 97, 108])
                · cases q2 : decide (8 < (s.size : Int))
                  · rw [q1, q2] at HJ
                    go_wp2_with fail
                    go_meet
                    exact ⟨by rw [HJ.out]; rfl, rfl⟩
                  · have q2i : (8 : Int) < (s.size : Int) := of_decide_eq_true q2
                    have q2n : 9 ≤ s.size := by omega
                    rw [q1, q2] at HJ
                    clear q2
                    cases q3 : ((s.extract 0 9).toList == [47, 106, 111, 117, 114, 110, 97, 108, 47])
                    · rw [q3] at HJ
                      go_wp2_with fail
                      go_meet
                      exact ⟨by rw [HJ.out]; rfl, rfl⟩
                    · rw [q3] at HJ
                      go_wp2_with fail
                      go_meet
                      exact ⟨by rw [HJ.out]; rfl, rfl⟩
                · rw [q1] at HJ
                  go_wp2_with fail
                  go_meet
                  exact ⟨by rw [HJ.out]; rfl, rfl⟩
              case rest =>
                obtain ⟨rfl, hwc⟩ := hcut
                have HOJ : Hid ((ownJ s || l.any (eqP s)) = true) := HOW.out.elim (fun h => by unfold Hid; rw [ofJ_own h]; rfl) (fun h => by unfold Hid; rw [ofDs_any h, Bool.or_true])
                have HDW := hide3 (HDS.out wr HB9.out)
                clear HOW b1
                obtain ⟨WR, hWR⟩ : ∃ q, q = wr := ⟨wr, rfl⟩
                subst hwc
                subst hWR
                generalize ownJ s = oj at *
                go_wp2_with fail
                go_loopw [14, 15] (fun v14 v15 w2 => ∃ k : Nat, k ≤ l.length ∧ v15 = .int .i64 k ∧ v14 = .bool (oj || (l.take k).any (eqP s)) ∧ w2 = WR) (fun _ v15 _ => l.length - (intOf v15).toNat)
                case atStart => exact ⟨0, Nat.zero_le _, rfl, by simp, rfl⟩
                case round =>
                  obtain ⟨k, hk, rfl, rfl, hwr⟩ := hrel
                  by_cases hkl : k < l.length
                  · have HTK := hide3 (any_takeS (s := s) hkl)
                    obtain ⟨gd, off, rfl, hg, hcs⟩ : ∃ gd off, al = some ⟨gd, off, none⟩ ∧ gd < WR.heap.size ∧ DesIn WR gd off l := by
                      rcases HDW.out with q | q
                      · rw [q] at hkl; exact absurd hkl (Nat.not_lt_zero _)
                      · exact q
                    obtain ⟨_, c1', _⟩ := hcs k hkl
                    have hki : (k : Int) < (l.length : Int) := by omega
                    have hk0 : (0 : Int) ≤ (k : Int) := by omega
                    have HIN : Hid (k + 1 ≤ l.length) := hkl
                    clear hcs HDW HDS
                    subst hwr
                    generalize l[k].pa = pk at *
                    have HNX : Hid (∀ V b, (oj || (l.take k).any (eqP s)) = V → (pk.toList == s.toList) = b → Value.bool (V || b) = .bool (oj || (l.take (k + 1)).any (eqP s))) := fun V b e1 e2 => by rw [HTK.out, ← Bool.or_assoc, e1, e2]
                    clear HTK
                    generalize hV : (oj || (l.take k).any (eqP s)) = V at *
                    have HV := hide3 hV
                    clear hV
                    cases V
                    · cases hb : (pk.toList == s.toList)
                      · go_wp2_with fail
                        exact ⟨⟨k + 1, HIN.out, by go_num, HNX.out _ _ rfl hb, trivial⟩, by simp [intOf]; omega⟩
                      · go_wp2_with fail
                        exact ⟨⟨k + 1, HIN.out, by go_num, HNX.out _ _ rfl hb, trivial⟩, by simp [intOf]; omega⟩
                    · have HN2 : Hid (Value.bool true = .bool (oj || (l.take (k + 1)).any (eqP s))) := HNX.out true (pk.toList == s.toList) rfl rfl
                      go_wp2_with fail
                      exact ⟨⟨k + 1, HIN.out, by go_num, HN2.out, trivial⟩, by simp [intOf]; omega⟩
                  · obtain rfl : k = l.length := by omega
                    have hki : ¬ ((l.length : Int) < (l.length : Int)) := by omega
                    rw [List.take_length, HOJ.out]
                    subst hwr
                    go_wp2_with fail
                    exact ⟨⟨i + 1, by omega, by go_num, trivial⟩, by simp [intOf]; omega⟩
            · obtain rfl : i = R.length := by omega
              have hii : ¬ ((R.length : Int) < (R.length : Int)) := by omega
              go_wp2_with (go_at_call 9; refine (HLV.out _ HB9.out).mono ?_; rintro f10 w10 ⟨rfl, hb10⟩; have HB10 := hide3 (HB9.out.trans (hb10.mono HB9.out.size)); clear hb10)
              go_ret
              exact ⟨rfl, HB10.out⟩
        · rw [if_neg h0] at hlz
          subst hlz
          clear HCU HNO
          have h0d : decide (0 ≤ z) = false := by simp; omega
          go_enter Tryz.func6, Tryz.ntmps6
          go_wp2_with (first
            | (go_at_call 21; have _t := HT7; refine (HDR.out _ _ _ (HT7.out)).mono ?_; rintro f9 w9 ⟨ao9, cp9, rfl, hr9, hl9, hb9⟩; have HRW := hide3 hr9; have HB9 := hide3 (HB7.out.trans (hb9.mono HB7.out.size)); clear hr9 hb9)
            | (go_at_call 17; have _t := HT6; refine (HRC.out _ _ HT6.out).mono ?_; rintro f7 w7 ⟨rfl, ht7, hb7⟩; have HT7 := hide3 ht7; have HB7 := hide3 (HB6.out.trans hb7); clear ht7 hb7)
            | (go_at_call 15; have _t := HT5; refine (HUP.out _ _ HT5.out).mono ?_; rintro f6 w6 ⟨rfl, ht6, hb6⟩; have HT6 := hide3 ht6; have HB6 := hide3 (HB5.out.trans hb6); clear ht6 hb6)
            | (go_at_call 22; have _t := HT4; refine (HKJ.out _ _ HT4.out).mono ?_; rintro f5 w5 ⟨rfl, ht5, hb5⟩; have HT5 := hide3 ht5; have HB5 := hide3 (HB4.out.trans (hb5.mono HB4.out.size)); clear ht5 hb5)
            | (go_at_call 21; have _t := HT3; refine (HRA.out _ _ HT3.out).mono ?_; rintro f4 w4 ⟨ao4, cp4, rfl, ht4, hb4⟩; have HT4 := hide3 ht4; have HB4 := hide3 (HB3.out.trans (hb4.mono HB3.out.size)); clear ht4 hb4)
            | (go_at_call 12; have _t := HT1; refine (HCM.out _ _ HB1.out HT1.out).mono ?_; rintro e3 w3 ⟨rfl, ht3, hb3⟩; have HT3 := hide3 ht3; have HB3 := hide3 (HB1.out.trans hb3); clear ht3 hb3)
            | (go_at_call 8; refine HDK.out.mono ?_; rintro e1 w1 ⟨hb1, hq1⟩; obtain ⟨_, d1, r1, rfl, ht1⟩ := hq1.resolve_right (fun h => h.1 HLL.out); have HB1 := hide3 hb1; have HT1 := hide3 ((ht1.pk.more HLE.out).more (Nat.le_succ _)); clear hb1 ht1 hq1))
          clear HDR
          generalize y3.rs = R at *
          go_loopw [12] (fun v12 wr => ∃ i : Nat, i ≤ R.length ∧ v12 = .int .i64 i ∧ wr = w9) (fun v12 _ => R.length - (intOf v12).toNat)
          case atStart => exact ⟨0, Nat.zero_le _, rfl, rfl⟩
          case round =>
            obtain ⟨i, hi, rfl, rfl⟩ := hrel
            by_cases hlt : i < R.length
            · obtain ⟨g, rfl, b1⟩ := raw_cells HRW.out hlt
              have HOW := hide3 (HALL.out R[i] (List.getElem_mem hlt))
              have hii : (i : Int) < (R.length : Int) := by omega
              have hi0 : (0 : Int) ≤ (i : Int) := by omega
              generalize R[i].2.1 = s at *
              go_upto_region 18 with fail
              go_cut [14] from 58 to 98 (fun s14 wx => s14 = .bool (ownJ s) ∧ wx = wr)
              case first =>
                have HJ : Hid (ownJ s = ((s.toList == [47, 106, 111, 117, 114, 110, 97, 108]) || (decide (8 < (s.size : Int)) && ((s.extract 0 9).toList == [47, 106, 111, 117, 114, 110, 97, 108, 47])))) := rfl
                cases q1 : (s.toList == [47, 106, 111, 117, 114, 110, 97, 108])
                · cases q2 : decide (8 < (s.size : Int))
                  · rw [q1, q2] at HJ
                    go_wp2_with fail
                    go_meet
                    exact ⟨by rw [HJ.out]; rfl, rfl⟩
                  · have q2i : (8 : Int) < (s.size : Int) := of_decide_eq_true q2
                    have q2n : 9 ≤ s.size := by omega
                    rw [q1, q2] at HJ
                    clear q2
                    cases q3 : ((s.extract 0 9).toList == [47, 106, 111, 117, 114, 110, 97, 108, 47])
                    · rw [q3] at HJ
                      go_wp2_with fail
                      go_meet
                      exact ⟨by rw [HJ.out]; rfl, rfl⟩
                    · rw [q3] at HJ
                      go_wp2_with fail
                      go_meet
                      exact ⟨by rw [HJ.out]; rfl, rfl⟩
                · rw [q1] at HJ
                  go_wp2_with fail
                  go_meet
                  exact ⟨by rw [HJ.out]; rfl, rfl⟩
              case rest =>
                obtain ⟨rfl, hwc⟩ := hcut
                have HOJ : Hid ((ownJ s || l.any (eqP s)) = true) := HOW.out.elim (fun h => by unfold Hid; rw [ofJ_own h]; rfl) (fun h => by unfold Hid; rw [ofDs_any h, Bool.or_true])
                have HDW := hide3 (HDS.out wr HB9.out)
                clear HOW b1
                obtain ⟨WR, hWR⟩ : ∃ q, q = wr := ⟨wr, rfl⟩
                subst hwc
                subst hWR
                generalize ownJ s = oj at *
                go_wp2_with fail
                go_loopw [14, 15] (fun v14 v15 w2 => ∃ k : Nat, k ≤ l.length ∧ v15 = .int .i64 k ∧ v14 = .bool (oj || (l.take k).any (eqP s)) ∧ w2 = WR) (fun _ v15 _ => l.length - (intOf v15).toNat)
                case atStart => exact ⟨0, Nat.zero_le _, rfl, by simp, rfl⟩
                case round =>
                  obtain ⟨k, hk, rfl, rfl, hwr⟩ := hrel
                  by_cases hkl : k < l.length
                  · have HTK := hide3 (any_takeS (s := s) hkl)
                    obtain ⟨gd, off, rfl, hg, hcs⟩ : ∃ gd off, al = some ⟨gd, off, none⟩ ∧ gd < WR.heap.size ∧ DesIn WR gd off l := by
                      rcases HDW.out with q | q
                      · rw [q] at hkl; exact absurd hkl (Nat.not_lt_zero _)
                      · exact q
                    obtain ⟨_, c1', _⟩ := hcs k hkl
                    have hki : (k : Int) < (l.length : Int) := by omega
                    have hk0 : (0 : Int) ≤ (k : Int) := by omega
                    have HIN : Hid (k + 1 ≤ l.length) := hkl
                    clear hcs HDW HDS
                    subst hwr
                    generalize l[k].pa = pk at *
                    have HNX : Hid (∀ V b, (oj || (l.take k).any (eqP s)) = V → (pk.toList == s.toList) = b → Value.bool (V || b) = .bool (oj || (l.take (k + 1)).any (eqP s))) := fun V b e1 e2 => by rw [HTK.out, ← Bool.or_assoc, e1, e2]
                    clear HTK
                    generalize hV : (oj || (l.take k).any (eqP s)) = V at *
                    have HV := hide3 hV
                    clear hV
                    cases V
                    · cases hb : (pk.toList == s.toList)
                      · go_wp2_with fail
                        exact ⟨⟨k + 1, HIN.out, by go_num, HNX.out _ _ rfl hb, trivial⟩, by simp [intOf]; omega⟩
                      · go_wp2_with fail
                        exact ⟨⟨k + 1, HIN.out, by go_num, HNX.out _ _ rfl hb, trivial⟩, by simp [intOf]; omega⟩
                    · have HN2 : Hid (Value.bool true = .bool (oj || (l.take (k + 1)).any (eqP s))) := HNX.out true (pk.toList == s.toList) rfl rfl
                      go_wp2_with fail
                      exact ⟨⟨k + 1, HIN.out, by go_num, HN2.out, trivial⟩, by simp [intOf]; omega⟩
                  · obtain rfl : k = l.length := by omega
                    have hki : ¬ ((l.length : Int) < (l.length : Int)) := by omega
                    rw [List.take_length, HOJ.out]
                    subst hwr
                    go_wp2_with fail
                    exact ⟨⟨i + 1, by omega, by go_num, trivial⟩, by simp [intOf]; omega⟩
            · obtain rfl : i = R.length := by omega
              have hii : ¬ ((R.length : Int) < (R.length : Int)) := by omega
              go_wp2_with (go_at_call 9; refine (HLV.out _ HB9.out).mono ?_; rintro f10 w10 ⟨rfl, hb10⟩; have HB10 := hide3 (HB9.out.trans (hb10.mono HB9.out.size)); clear hb10)
              go_ret
              exact ⟨rfl, HB10.out⟩
      · have hl1 : ((l.length : Int) == 0) = false := beq_eq_false_iff_ne.2 (by omega)
        generalize y1.rs.length = n1 at *
        by_cases h0 : 0 ≤ z
        · rw [if_pos h0] at hlz
          subst hlz
          clear HNO
          go_enter Tryz.func6, Tryz.ntmps6
          go_wp2_with (first
            | (go_at_call 21; have _t := HT6; refine (HDR.out _ _ _ (HT6.out)).mono ?_; rintro f9 w9 ⟨ao9, cp9, rfl, hr9, hl9, hb9⟩; have HRW := hide3 hr9; have HB9 := hide3 (HB6.out.trans (hb9.mono HB6.out.size)); clear hr9 hb9)
            | (go_at_call 17; have _t := HT5; refine (HRC.out _ _ HT5.out).mono ?_; rintro f6 w6 ⟨rfl, ht6, hb6⟩; have HT6 := hide3 ht6; have HB6 := hide3 (HB5.out.trans hb6); clear ht6 hb6)
            | (go_at_call 15; have _t := HT4; refine (HUP.out _ _ HT4.out).mono ?_; rintro f5 w5 ⟨rfl, ht5, hb5⟩; have HT5 := hide3 ht5; have HB5 := hide3 (HB4.out.trans hb5); clear ht5 hb5)
            | (go_at_call 22; have _t := HT3; refine (HKJ.out _ _ HT3.out).mono ?_; rintro f4 w4 ⟨rfl, ht4, hb4⟩; have HT4 := hide3 ht4; have HB4 := hide3 (HB3.out.trans (hb4.mono HB3.out.size)); clear ht4 hb4)
            | (go_at_call 12; have _t := HT2; refine (HCM.out _ _ HB2.out HT2.out).mono ?_; rintro e3 w3 ⟨rfl, ht3, hb3⟩; have HT3 := hide3 ht3; have HB3 := hide3 (HB2.out.trans hb3); clear ht3 hb3)
            | (go_at_call 10; have _t := HT1; refine (HCU.out _ _ HT1.out).mono ?_; rintro e2 w2 ⟨rfl, ht2, hb2⟩; have HT2 := hide3 ht2; have HB2 := hide3 (HB1.out.trans hb2); clear ht2 hb2)
            | (go_at_call 8; refine HDK.out.mono ?_; rintro e1 w1 ⟨hb1, hq1⟩; obtain ⟨_, d1, r1, rfl, ht1⟩ := hq1.resolve_right (fun h => h.1 HLL.out); have HB1 := hide3 hb1; have HT1 := hide3 (ht1.pk.more HLE.out); clear hb1 ht1 hq1))
          clear HDR
          generalize y3.rs = R at *
          go_loopw [12] (fun v12 wr => ∃ i : Nat, i ≤ R.length ∧ v12 = .int .i64 i ∧ wr = w9) (fun v12 _ => R.length - (intOf v12).toNat)
          case atStart => exact ⟨0, Nat.zero_le _, rfl, rfl⟩
          case round =>
            obtain ⟨i, hi, rfl, rfl⟩ := hrel
            by_cases hlt : i < R.length
            · obtain ⟨g, rfl, b1⟩ := raw_cells HRW.out hlt
              have HOW := hide3 (HALL.out R[i] (List.getElem_mem hlt))
              have hii : (i : Int) < (R.length : Int) := by omega
              have hi0 : (0 : Int) ≤ (i : Int) := by omega
              generalize R[i].2.1 = s at *
              go_upto_region 18 with fail
              go_cut [14] from 58 to 98 (fun s14 wx => s14 = .bool (ownJ s) ∧ wx = wr)
              case first =>
                have HJ : Hid (ownJ s = ((s.toList == [47, 106, 111, 117, 114, 110, 97, 108]) || (decide (8 < (s.size : Int)) && ((s.extract 0 9).toList == [47, 106, 111, 117, 114, 110, 97, 108, 47])))) := rfl
                cases q1 : (s.toList == [47, 106, 111, 117, 114, 110, 97, 108])
                · cases q2 : decide (8 < (s.size : Int))
                  · rw [q1, q2] at HJ
                    go_wp2_with fail
                    go_meet
                    exact ⟨by rw [HJ.out]; rfl, rfl⟩
                  · have q2i : (8 : Int) < (s.size : Int) := of_decide_eq_true q2
                    have q2n : 9 ≤ s.size := by omega
                    rw [q1, q2] at HJ
                    clear q2
                    cases q3 : ((s.extract 0 9).toList == [47, 106, 111, 117, 114, 110, 97, 108, 47])
                    · rw [q3] at HJ
                      go_wp2_with fail
                      go_meet
                      exact ⟨by rw [HJ.out]; rfl, rfl⟩
                    · rw [q3] at HJ
                      go_wp2_with fail
                      go_meet
                      exact ⟨by rw [HJ.out]; rfl, rfl⟩
                · rw [q1] at HJ
                  go_wp2_with fail
                  go_meet
                  exact ⟨by rw [HJ.out]; rfl, rfl⟩
              case rest =>
                obtain ⟨rfl, hwc⟩ := hcut
                have HOJ : Hid ((ownJ s || l.any (eqP s)) = true) := HOW.out.elim (fun h => by unfold Hid; rw [ofJ_own h]; rfl) (fun h => by unfold Hid; rw [ofDs_any h, Bool.or_true])
                have HDW := hide3 (HDS.out wr HB9.out)
                clear HOW b1
                obtain ⟨WR, hWR⟩ : ∃ q, q = wr := ⟨wr, rfl⟩
                subst hwc
                subst hWR
                generalize ownJ s = oj at *
                go_wp2_with fail
                go_loopw [14, 15] (fun v14 v15 w2 => ∃ k : Nat, k ≤ l.length ∧ v15 = .int .i64 k ∧ v14 = .bool (oj || (l.take k).any (eqP s)) ∧ w2 = WR) (fun _ v15 _ => l.length - (intOf v15).toNat)
                case atStart => exact ⟨0, Nat.zero_le _, rfl, by simp, rfl⟩
                case round =>
                  obtain ⟨k, hk, rfl, rfl, hwr⟩ := hrel
                  by_cases hkl : k < l.length
                  · have HTK := hide3 (any_takeS (s := s) hkl)
                    obtain ⟨gd, off, rfl, hg, hcs⟩ : ∃ gd off, al = some ⟨gd, off, none⟩ ∧ gd < WR.heap.size ∧ DesIn WR gd off l := by
                      rcases HDW.out with q | q
                      · rw [q] at hkl; exact absurd hkl (Nat.not_lt_zero _)
                      · exact q
                    obtain ⟨_, c1', _⟩ := hcs k hkl
                    have hki : (k : Int) < (l.length : Int) := by omega
                    have hk0 : (0 : Int) ≤ (k : Int) := by omega
                    have HIN : Hid (k + 1 ≤ l.length) := hkl
                    clear hcs HDW HDS
                    subst hwr
                    generalize l[k].pa = pk at *
                    have HNX : Hid (∀ V b, (oj || (l.take k).any (eqP s)) = V → (pk.toList == s.toList) = b → Value.bool (V || b) = .bool (oj || (l.take (k + 1)).any (eqP s))) := fun V b e1 e2 => by rw [HTK.out, ← Bool.or_assoc, e1, e2]
                    clear HTK
                    generalize hV : (oj || (l.take k).any (eqP s)) = V at *
                    have HV := hide3 hV
                    clear hV
                    cases V
                    · cases hb : (pk.toList == s.toList)
                      · go_wp2_with fail
                        exact ⟨⟨k + 1, HIN.out, by go_num, HNX.out _ _ rfl hb, trivial⟩, by simp [intOf]; omega⟩
                      · go_wp2_with fail
                        exact ⟨⟨k + 1, HIN.out, by go_num, HNX.out _ _ rfl hb, trivial⟩, by simp [intOf]; omega⟩
                    · have HN2 : Hid (Value.bool true = .bool (oj || (l.take (k + 1)).any (eqP s))) := HNX.out true (pk.toList == s.toList) rfl rfl
                      go_wp2_with fail
                      exact ⟨⟨k + 1, HIN.out, by go_num, HN2.out, trivial⟩, by simp [intOf]; omega⟩
                  · obtain rfl : k = l.length := by omega
                    have hki : ¬ ((l.length : Int) < (l.length : Int)) := by omega
                    rw [List.take_length, HOJ.out]
                    subst hwr
                    go_wp2_with fail
                    exact ⟨⟨i + 1, by omega, by go_num, trivial⟩, by simp [intOf]; omega⟩
            · obtain rfl : i = R.length := by omega
              have hii : ¬ ((R.length : Int) < (R.length : Int)) := by omega
              go_wp2_with (go_at_call 9; refine (HLV.out _ HB9.out).mono ?_; rintro f10 w10 ⟨rfl, hb10⟩; have HB10 := hide3 (HB9.out.trans (hb10.mono HB9.out.size)); clear hb10)
              go_ret
              exact ⟨rfl, HB10.out⟩
        · rw [if_neg h0] at hlz
          subst hlz
          clear HCU HNO
          have h0d : decide (0 ≤ z) = false := by simp; omega
          go_enter Tryz.func6, Tryz.ntmps6
          go_wp2_with (first
            | (go_at_call 21; have _t := HT6; refine (HDR.out _ _ _ (HT6.out)).mono ?_; rintro f9 w9 ⟨ao9, cp9, rfl, hr9, hl9, hb9⟩; have HRW := hide3 hr9; have HB9 := hide3 (HB6.out.trans (hb9.mono HB6.out.size)); clear hr9 hb9)
            | (go_at_call 17; have _t := HT5; refine (HRC.out _ _ HT5.out).mono ?_; rintro f6 w6 ⟨rfl, ht6, hb6⟩; have HT6 := hide3 ht6; have HB6 := hide3 (HB5.out.trans hb6); clear ht6 hb6)
            | (go_at_call 15; have _t := HT4; refine (HUP.out _ _ HT4.out).mono ?_; rintro f5 w5 ⟨rfl, ht5, hb5⟩; have HT5 := hide3 ht5; have HB5 := hide3 (HB4.out.trans hb5); clear ht5 hb5)
            | (go_at_call 22; have _t := HT3; refine (HKJ.out _ _ HT3.out).mono ?_; rintro f4 w4 ⟨rfl, ht4, hb4⟩; have HT4 := hide3 ht4; have HB4 := hide3 (HB3.out.trans (hb4.mono HB3.out.size)); clear ht4 hb4)
            | (go_at_call 12; have _t := HT1; refine (HCM.out _ _ HB1.out HT1.out).mono ?_; rintro e3 w3 ⟨rfl, ht3, hb3⟩; have HT3 := hide3 ht3; have HB3 := hide3 (HB1.out.trans hb3); clear ht3 hb3)
            | (go_at_call 8; refine HDK.out.mono ?_; rintro e1 w1 ⟨hb1, hq1⟩; obtain ⟨_, d1, r1, rfl, ht1⟩ := hq1.resolve_right (fun h => h.1 HLL.out); have HB1 := hide3 hb1; have HT1 := hide3 ((ht1.pk.more HLE.out).more (Nat.le_succ _)); clear hb1 ht1 hq1))
          clear HDR
          generalize y3.rs = R at *
          go_loopw [12] (fun v12 wr => ∃ i : Nat, i ≤ R.length ∧ v12 = .int .i64 i ∧ wr = w9) (fun v12 _ => R.length - (intOf v12).toNat)
          case atStart => exact ⟨0, Nat.zero_le _, rfl, rfl⟩
          case round =>
            obtain ⟨i, hi, rfl, rfl⟩ := hrel
            by_cases hlt : i < R.length
            · obtain ⟨g, rfl, b1⟩ := raw_cells HRW.out hlt
              have HOW := hide3 (HALL.out R[i] (List.getElem_mem hlt))
              have hii : (i : Int) < (R.length : Int) := by omega
              have hi0 : (0 : Int) ≤ (i : Int) := by omega
              generalize R[i].2.1 = s at *
              go_upto_region 18 with fail
              go_cut [14] from 58 to 98 (fun s14 wx => s14 = .bool (ownJ s) ∧ wx = wr)
              case first =>
                have HJ : Hid (ownJ s = ((s.toList == [47, 106, 111, 117, 114, 110, 97, 108]) || (decide (8 < (s.size : Int)) && ((s.extract 0 9).toList == [47, 106, 111, 117, 114, 110, 97, 108, 47])))) := rfl
                cases q1 : (s.toList == [47, 106, 111, 117, 114, 110, 97, 108])
                · cases q2 : decide (8 < (s.size : Int))
                  · rw [q1, q2] at HJ
                    go_wp2_with fail
                    go_meet
                    exact ⟨by rw [HJ.out]; rfl, rfl⟩
                  · have q2i : (8 : Int) < (s.size : Int) := of_decide_eq_true q2
                    have q2n : 9 ≤ s.size := by omega
                    rw [q1, q2] at HJ
                    clear q2
                    cases q3 : ((s.extract 0 9).toList == [47, 106, 111, 117, 114, 110, 97, 108, 47])
                    · rw [q3] at HJ
                      go_wp2_with fail
                      go_meet
                      exact ⟨by rw [HJ.out]; rfl, rfl⟩
                    · rw [q3] at HJ
                      go_wp2_with fail
                      go_meet
                      exact ⟨by rw [HJ.out]; rfl, rfl⟩
                · rw [q1] at HJ
                  go_wp2_with fail
                  go_meet
                  exact ⟨by rw [HJ.out]; rfl, rfl⟩
              case rest =>
                obtain ⟨rfl, hwc⟩ := hcut
                have HOJ : Hid ((ownJ s || l.any (eqP s)) = true) := HOW.out.elim (fun h => by unfold Hid; rw [ofJ_own h]; rfl) (fun h => by unfold Hid; rw [ofDs_any h, Bool.or_true])
                have HDW := hide3 (HDS.out wr HB9.out)
                clear HOW b1
                obtain ⟨WR, hWR⟩ : ∃ q, q = wr := ⟨wr, rfl⟩
                subst hwc
                subst hWR
                generalize ownJ s = oj at *
                go_wp2_with fail
                go_loopw [14, 15] (fun v14 v15 w2 => ∃ k : Nat, k ≤ l.length ∧ v15 = .int .i64 k ∧ v14 = .bool (oj || (l.take k).any (eqP s)) ∧ w2 = WR) (fun _ v15 _ => l.length - (intOf v15).toNat)
                case atStart => exact ⟨0, Nat.zero_le _, rfl, by simp, rfl⟩
                case round =>
                  obtain ⟨k, hk, rfl, rfl, hwr⟩ := hrel
                  by_cases hkl : k < l.length
                  · have HTK := hide3 (any_takeS (s := s) hkl)
                    obtain ⟨gd, off, rfl, hg, hcs⟩ : ∃ gd off, al = some ⟨gd, off, none⟩ ∧ gd < WR.heap.size ∧ DesIn WR gd off l := by
                      rcases HDW.out with q | q
                      · rw [q] at hkl; exact absurd hkl (Nat.not_lt_zero _)
                      · exact q
                    obtain ⟨_, c1', _⟩ := hcs k hkl
                    have hki : (k : Int) < (l.length : Int) := by omega
                    have hk0 : (0 : Int) ≤ (k : Int) := by omega
                    have HIN : Hid (k + 1 ≤ l.length) := hkl
                    clear hcs HDW HDS
                    subst hwr
                    generalize l[k].pa = pk at *
                    have HNX : Hid (∀ V b, (oj || (l.take k).any (eqP s)) = V → (pk.toList == s.toList) = b → Value.bool (V || b) = .bool (oj || (l.take (k + 1)).any (eqP s))) := fun V b e1 e2 => by rw [HTK.out, ← Bool.or_assoc, e1, e2]
                    clear HTK
                    generalize hV : (oj || (l.take k).any (eqP s)) = V at *
                    have HV := hide3 hV
                    clear hV
                    cases V
                    · cases hb : (pk.toList == s.toList)
                      · go_wp2_with fail
                        exact ⟨⟨k + 1, HIN.out, by go_num, HNX.out _ _ rfl hb, trivial⟩, by simp [intOf]; omega⟩
                      · go_wp2_with fail
                        exact ⟨⟨k + 1, HIN.out, by go_num, HNX.out _ _ rfl hb, trivial⟩, by simp [intOf]; omega⟩
                    · have HN2 : Hid (Value.bool true = .bool (oj || (l.take (k + 1)).any (eqP s))) := HNX.out true (pk.toList == s.toList) rfl rfl
                      go_wp2_with fail
                      exact ⟨⟨k + 1, HIN.out, by go_num, HN2.out, trivial⟩, by simp [intOf]; omega⟩
                  · obtain rfl : k = l.length := by omega
                    have hki : ¬ ((l.length : Int) < (l.length : Int)) := by omega
                    rw [List.take_length, HOJ.out]
                    subst hwr
                    go_wp2_with fail
                    exact ⟨⟨i + 1, by omega, by go_num, trivial⟩, by simp [intOf]; omega⟩
            · obtain rfl : i = R.length := by omega
              have hii : ¬ ((R.length : Int) < (R.length : Int)) := by omega
              go_wp2_with (go_at_call 9; refine (HLV.out _ HB9.out).mono ?_; rintro f10 w10 ⟨rfl, hb10⟩; have HB10 := hide3 (HB9.out.trans (hb10.mono HB9.out.size)); clear hb10)
              go_ret
              exact ⟨rfl, HB10.out⟩
  · have HLL := hide3 hL
    clear hL hm hc hz hz1 hd hzd
    go_enter Tryz.func6, Tryz.ntmps6
    go_wp2_with (first
      | (go_at_call 9; have _t := HB1; refine (HLV.out _ HB1.out).mono ?_; rintro e7 w7 ⟨rfl, hb7⟩; have HB7 := hide3 (HB1.out.trans (hb7.mono HB1.out.size)); clear hb7)
      | (go_at_call 8; refine HDK.out.mono ?_; rintro e1 w1 ⟨hb1, hq1⟩; obtain ⟨_, rfl⟩ := hq1.resolve_left (fun h => HLL.out h.1); have HB1 := hide3 hb1; clear hb1 hq1))
    go_ret
    exact ⟨rfl, HB7.out⟩
end Go.Proofs.YtpaoimhebheaeaaGreatDoor
