/- Py9, laid in one text. -/
import Derived.Test.YtpaoimhebheaeaaGreatDoorMg20
namespace Go.Proofs.YtpaoimhebheaeaaGreatDoor
open Go.RowKit Go.Maps Go.WideMaps Go.WideElems Dk
set_option maxRecDepth 100000

theorem rLines17 (t : ByteArray) (w : World) (hs : t.size ≤ 4194304) : Calls Tryz.prog 82 #[.string t, .int .i64 (t.size : Int)] w (Sc.LinesQ w (Sc.linE (Sc.scanR t.data.toList [] [] [])) (Sc.linN (Sc.scanR t.data.toList [] [] [])) (Sc.linL (Sc.scanR t.data.toList [] [] []))) := by
  have := Sc.rLines_all t hs (t.size : Int) w
  unfold Sc.ansE Sc.ansN Sc.ansL at this
  rw [if_neg (by omega), if_neg (by omega), if_neg (by omega)] at this
  exact this
/-- Lines that were read. -/
def LnsQ (w : World) (L : List (List Sc.Bs)) (e : Ending) (w' : World) : Prop := ∃ ad n cap, e = .returned (.tuple #[.slice ad n cap, .int .i64 0, .int .i64 0]) ∧ n = L.length ∧ Below w.heap.size w w' ∧ Sc.LinesAt w' (.slice ad n cap) L
theorem two_words {w : World} {ad : Option Addr} {n cap : Nat} {ws : List Sc.Bs} (h : Sc.WordsAt w (.slice ad n cap) ws) (h2 : 2 ≤ ws.length) : ∃ g o x y, ad = some ⟨g, o, none⟩ ∧ g < w.heap.size ∧ ws.getD 0 [] = x ∧ ws.getD 1 [] = y ∧ w.cell? ⟨g, o, none⟩ = some (.string (Sc.ba x)) ∧ w.cell? ⟨g, o + 1, none⟩ = some (.string (Sc.ba y)) ∧ (2 < ws.length → w.cell? ⟨g, o + 2, none⟩ = some (.string (Sc.ba (ws.getD 2 [])))) := by
  obtain ⟨ad', cap', hv, _, hl⟩ := h
  cases hv
  obtain ⟨g, o, rfl, hg, hc⟩ := hl.resolve_left (fun e => by rw [e] at h2; cases h2)
  refine ⟨g, o, _, _, rfl, hg, rfl, rfl, ?_, ?_, fun h3 => ?_⟩
  · have := hc 0 (by omega)
    rw [Nat.add_zero] at this
    rw [this, List.getD_eq_getElem?_getD, List.getElem?_eq_getElem (by omega : 0 < ws.length)]
    rfl
  · have := hc 1 (by omega)
    rw [this, List.getD_eq_getElem?_getD, List.getElem?_eq_getElem (by omega : 1 < ws.length)]
    rfl
  · have := hc 2 (by omega)
    rw [this, List.getD_eq_getElem?_getD, List.getElem?_eq_getElem h3]
    rfl

set_option maxHeartbeats 16000000 in
theorem rParse17 (t : ByteArray) (hs : t.size ≤ 4194304) (w : World) : Calls Tryz.prog 46 #[.string t] w (ParQ w (parO t)) := by
  have HL := hide3 (rLines17 t w hs)
  cases hR : Sc.scanR t.data.toList [] [] [] with
  | error n =>
    rw [hR] at HL
    have HE := hide3 (parO_err hR)
    generalize parO t = po at *
    clear hR
    have HL2 : Hid (Calls Tryz.prog 82 #[.string t, .int .i64 (t.size : Int)] w fun e w' => ∃ v, e = .returned (.tuple #[v, .int .i64 22, .int .i64 (n : Int)]) ∧ Below w.heap.size w w') := HL.out.mono fun e w' ⟨v, h1, _, h3⟩ => ⟨v, h1, h3⟩
    go_enter Tryz.func46, Tryz.ntmps46
    go_wp2_with (go_at_call 82; refine HL2.out.mono ?_; rintro e w1 ⟨v1, rfl, hb1⟩; have HB1 := hide3 hb1; clear hb1)
    go_ret2
    exact ParQ.no _ _ _ _ HE.out HB1.out
  | ok L =>
    rw [hR] at HL
    have HZ := hide3 (lines_z hR)
    have hzl := HZ.out.1
    have HOK := hide3 (fun ha hp ht => rp_ok hR ha hp ht)
    have HNO := hide3 (fun hn => rp_no hR hn)
    have HL2 : Hid (Calls Tryz.prog 82 #[.string t, .int .i64 (t.size : Int)] w (LnsQ w L)) := HL.out.mono fun e w' ⟨v, h1, ⟨ps, h2, h3⟩, h4⟩ => by
      have h5 := h3.at
      rw [h2] at h5
      obtain ⟨ad, cap, rfl, h6⟩ := h5
      exact ⟨ad, _, cap, h1, rfl, h4, ⟨ad, cap, rfl, h6⟩⟩
    clear HL hR
    generalize parO t = po at *
    obtain ⟨r, hr⟩ : ∃ r, r = L.drop 1 := ⟨_, rfl⟩
    rw [← hr] at HOK HNO
    have hrl : r.length = L.length - 1 := by rw [hr, List.length_drop]
    have HRE : Hid (∀ k (h : k < r.length) (h2 : k + 1 < L.length), r[k] = L[k + 1]) := fun k h h2 => by
      subst hr
      rw [List.getElem_drop]
      congr 1
      exact Nat.add_comm 1 k
    have HZR : Hid (∀ ws ∈ r, ws ≠ [] ∧ ws.length ≤ t.size ∧ ∀ x ∈ ws, x.length ≤ t.size) := fun ws hw => HZ.out.2 ws (by rw [hr] at hw; exact List.mem_of_mem_drop hw)
    have HRL := hide3 hrl
    clear hr hrl HZ
    go_enter Tryz.func46, Tryz.ntmps46
    go_wp2_with (go_at_call 82; refine HL2.out.mono ?_; intro e w1 hq; obtain ⟨ad, n, cap, rfl, hn, hb1, hla⟩ := hq; have HB1 := hide3 hb1; have HLA := hide3 hla; have HN := hide3 hn; clear hb1 hla hn)
    go_loopw [7, 8] (fun v7 v8 wr => ∃ (c k : Nat) (ds : List De), v8 = .int .i64 c ∧ c = k + 1 ∧ k ≤ r.length ∧ OwnDe wr w1.heap.size v7 ds ∧ ds = (r.take k).map lenD ∧ (∀ ws ∈ r.take k, 2 ≤ ws.length) ∧ Below w1.heap.size w1 wr) (fun _ v8 _ => n - (intOf v8).toNat)
    case atStart => exact ⟨1, 0, [], rfl, rfl, Nat.zero_le _, OwnDe.nil _ _, rfl, fun ws hw => (by cases hw), Below.refl _ _⟩
    case round =>
      obtain ⟨WR, hWR⟩ : ∃ WR : World, WR = wr := ⟨_, rfl⟩
      subst hWR
      obtain ⟨c, k, ds, rfl, hck, hk, hod, hds, hall, hbr⟩ := hrel
      have HCK := hide3 hck
      have HOD := hide3 hod
      have HDS := hide3 hds
      have HAL := hide3 hall
      have HBR := hide3 hbr
      have HBW : Hid (Below w.heap.size w WR) := HB1.out.trans (hbr.mono HB1.out.size)
      have HDL : Hid (ds.length = k) := by unfold Hid; rw [hds, List.length_map, List.length_take]; omega
      clear hck hod hds hall hbr HL2
      have hcb : c ≤ 4194305 := by have := HCK.out; have := HRL.out; omega
      obtain ⟨ad7, c7, rfl, hc7⟩ := HOD.out.sl
      by_cases hlt : c < n
      · have hkr : k < r.length := by have := HCK.out; have := HRL.out; have := HN.out; omega
        have hcl : c < L.length := by have := HN.out; omega
        obtain ⟨ad', cap', hv, _, hl⟩ := HLA.out
        obtain ⟨rfl, rfl⟩ : ad = ad' ∧ cap = cap' := by cases hv; exact ⟨rfl, rfl⟩
        clear hv
        obtain ⟨g, o, rfl, hg, hcs⟩ := hl.resolve_left (fun e => by rw [e] at hcl; cases hcl)
        obtain ⟨u, hu, hwu⟩ := hcs c hcl
        have HLR : Hid (L[c] = r[k]) := by
          unfold Hid
          rw [HRE.out k hkr (by have := HCK.out; omega)]
          simp only [HCK.out]
        rw [HLR.out] at hwu
        have hu2 : WR.cell? ⟨g, o + c, none⟩ = some u := (HBR.out.cell (p := ⟨g, o + c, none⟩) hg).trans hu
        obtain ⟨adu, cpu, hue, hcpu, hlu⟩ := hwu
        subst hue
        have hwu : Sc.WordsAt w1 (.slice adu r[k].length cpu) r[k] := ⟨adu, cpu, rfl, hcpu, hlu⟩
        have HW2 := hide3 (fun h2 => two_words (hwu.below HBR.out) h2)
        obtain ⟨z1, z2, z3⟩ := HZR.out r[k] (List.getElem_mem hkr)
        have hci : (c : Int) < (n : Int) := by omega
        have hc0 : (0 : Int) ≤ (c : Int) := by omega
        have HTK : Hid ((r.take (k + 1)).map lenD = ds ++ [lenD r[k]] ∧ (2 ≤ r[k].length → ∀ ws ∈ r.take (k + 1), 2 ≤ ws.length)) := by
          rw [List.take_succ_eq_append_getElem hkr]
          refine ⟨by rw [List.map_append, HDS.out]; rfl, fun h ws hw => ?_⟩
          rcases List.mem_append.1 hw with q | q
          · exact HAL.out ws q
          · rw [List.mem_singleton.1 q]; exact h
        have HNS : Hid (r[k].length < 2 → po = (44, [])) := fun h => HNO.out (Or.inl ⟨r[k], List.getElem_mem hkr, h⟩)
        have HDA : Hid (∀ W, Calls Tryz.prog 84 #[.string (Sc.ba (r[k].getD 2 []))] W fun e w' => e = .returned (.string (Sc.ba (dataL (r[k].getD 2 [])))) ∧ Below W.heap.size W w') := fun W => by
          have hz : (r[k].getD 2 []).length ≤ t.size := by
            rw [List.getD_eq_getElem?_getD]
            cases hx : r[k][2]? with
            | none => exact Nat.zero_le _
            | some x => exact z3 x (List.mem_of_getElem? hx)
          have := data_any (Sc.ba (r[k].getD 2 [])) W (by rw [Sc.ba_size]; omega)
          rw [Sc.ba_list] at this
          exact this
        have HLD : Hid (lenD r[k] = ⟨kindW (r[k].getD 0 []), Sc.ba (r[k].getD 1 []), if kindW (r[k].getD 0 []) = 4 ∧ 2 < r[k].length then Sc.ba (dataL (r[k].getD 2 [])) else ⟨#[]⟩⟩) := rfl
        clear hu hlu hwu z1 z2 z3 hl hcs hcpu HLR
        generalize lenD r[k] = ld at *
        generalize r[k].getD 2 [] = x2 at *
        generalize hnu : r[k].length = nu at *
        by_cases h2 : nu < 2
        · have h2i : (nu : Int) < 2 := by omega
          have HE := hide3 (HNS.out h2)
          clear HNS HW2 HTK HDA HLD hnu
          go_wp2_with fail
          go_ret2
          exact ParQ.no _ _ _ _ HE.out HBW.out
        · have h2i : ¬ ((nu : Int) < 2) := by omega
          have h2d : decide ((nu : Int) < 2) = false := decide_eq_false h2i
          obtain ⟨gu, ou, x, y, rfl, hgu, hx, hy, e0, e1, e2⟩ := HW2.out (by omega)
          have HE2 := hide3 e2
          rw [hx, hy] at HLD
          clear e2 HW2 HNS hx hy hnu
          have h1n : 1 < nu := by omega
          have h0n : 0 < nu := by omega
          go_wp2_with fail
          have HBX0 : Hid (BxO (WR.alloc (.cells #[.int .i64 0, .string (Sc.ba y), .string ⟨#[]⟩] 54)) WR.heap.size 0 (Sc.ba y) ⟨#[]⟩) := BxO.new _ _ _ _
          have HBB0 : Hid (Below WR.heap.size WR (WR.alloc (.cells #[.int .i64 0, .string (Sc.ba y), .string ⟨#[]⟩] 54))) := (Below.refl _ _).alloc (Nat.le_refl _) _
          go_loopw [11] (fun v11 wi => ∃ j : Nat, 1 ≤ j ∧ j ≤ 5 ∧ v11 = .int .i64 j ∧ BxO wi WR.heap.size (kindU x j) (Sc.ba y) ⟨#[]⟩ ∧ Below WR.heap.size WR wi) (fun v11 _ => 5 - (intOf v11).toNat)
          case atStart => exact ⟨1, Nat.le_refl _, by omega, rfl, by rw [kindU_one]; exact HBX0.out, HBB0.out⟩
          case round =>
            obtain ⟨j, hj1, hj5, rfl, hbx, hbi⟩ := hrel
            have HBX := hide3 hbx
            have HBI := hide3 hbi
            clear hbx hbi HBX0 HBB0
            obtain ⟨⟨f0, f1, f2⟩, f3, f4, f5⟩ := HBX.out.facts
            have d0 := (HBI.out.cell (p := ⟨gu, ou, none⟩) hgu).trans e0
            by_cases hj4 : j ≤ 4
            · have hji : (j : Int) ≤ 4 := by omega
              have HWD : Hid (∀ W, Calls Tryz.prog 83 #[.int .i64 (j : Int)] W fun e w' => e = .returned (.string (wordP j)) ∧ w' = W) := fun W => word_any (j : Int) W
              have HHI := hide3 (kindU_hit (w := x) hj1 hj4)
              have HMI := hide3 (kindU_miss (w := x) (k := j))
              generalize wordP (j : Int) = wd at *
              generalize kindU x j = ku at *
              cases hq : (wd.toList == (Sc.ba x).toList)
              · go_wp2_with fail
                go_region_held3 (fun w' => w'.cell? ⟨gu, ou, none⟩ = some (.string (Sc.ba x))) (go_keep) (first | (go_at_call 83; refine (HWD.out _).mono ?_; rintro e w5 ⟨rfl, hw5⟩; subst hw5))
                go_wp2_with fail
                exact ⟨⟨j + 1, by omega, by omega, by go_num, by rw [HMI.out hq]; exact HBX.out, HBI.out.drew⟩, by simp [intOf]; omega⟩
              · go_wp2_with fail
                go_region_held3 (fun w' => w'.cell? ⟨gu, ou, none⟩ = some (.string (Sc.ba x))) (go_keep) (first | (go_at_call 83; refine (HWD.out _).mono ?_; rintro e w5 ⟨rfl, hw5⟩; subst hw5))
                go_wp2_with fail
                exact ⟨⟨j + 1, by omega, by omega, by go_num, by rw [HHI.out hq]; exact (HBX.out.set0 _), (HBI.out.setCell (p := ⟨WR.heap.size, 0, none⟩) (Nat.le_refl _) _).drew⟩, by simp [intOf]; omega⟩
            · obtain rfl : j = 5 := by omega
              have hji : ¬ ((5 : Int) ≤ 4) := by omega
              rw [kindU_five] at HBX f0
              have HO2 : Hid (OwnDe wr w1.heap.size (.slice ad7 ds.length c7) ds) := HOD.out.below HBI.out
              have HDL2 := hide3 (by have := HDL.out; exact this)
              generalize kindW x = kw at *
              by_cases hkw : kw = 4
              · have hkb : (kw == 4) = true := beq_iff_eq.2 hkw
                by_cases h3 : 2 < nu
                · have h3i : (2 : Int) < (nu : Int) := by omega
                  have HLD2 : Hid (ld = ⟨kw, Sc.ba y, Sc.ba (dataL x2)⟩) := by unfold Hid; rw [HLD.out, if_pos ⟨hkw, h3⟩]
                  have d2 := (HBI.out.cell (p := ⟨gu, ou + 2, none⟩) hgu).trans (HE2.out h3)
                  clear HLD hkw
                  generalize Sc.ba (dataL x2) = dt at *
                  generalize Sc.ba x2 = bx2 at *
                  go_wp2_with (first
                    | (go_at_call 84; refine (HDA.out _).mono ?_; rintro e w4 ⟨rfl, hb4⟩; have HBX4 := hide3 (HBX.out.below hb4); obtain ⟨⟨p0, p1, p2⟩, p3, p4, p5⟩ := HBX4.out.facts; obtain ⟨⟨r0, r1, r2⟩, r3, r4, r5⟩ := (HBX4.out.set2 dt).facts; have HB4 : Hid (Below WR.heap.size WR (w4.setCell ⟨WR.heap.size, 2, none⟩ (.string dt))) := (HBI.out.trans (hb4.mono HBI.out.size)).setCell (p := ⟨WR.heap.size, 2, none⟩) (Nat.le_refl _) _; have HO4 := hide3 (HOD.out.below HB4.out); clear hb4)
                    | (at_builtin; refine wp_deL (B := w1.heap.size) (wx := w4.setCell ⟨WR.heap.size, 2, none⟩ (.string dt)) (v := .slice ad7 ds.length c7) (ds := ds) rfl (.tmp 65) (.tmp 67) rfl rfl HO4.out (Nat.le_trans HBR.out.size HB4.out.size) ⟨kw, Sc.ba y, dt⟩ (by simp) rfl (by have := HDL.out; have := HCK.out; omega) ?_; intro v3 w3 ho3 hg3; have HO3 := hide3 ho3; have HB3 : Hid (Below w1.heap.size w1 w3) := (HBR.out.trans (HB4.out.mono HBR.out.size)).grown hg3 (Nat.le_trans HBR.out.size HB4.out.size) (fun q hq => (HO4.out.lt hq).2); clear ho3 hg3))
                  exact ⟨⟨c + 1, k + 1, ds ++ [ld], by go_num, by have := HCK.out; omega, by omega, by rw [HLD2.out]; exact HO3.out, HTK.out.1.symm, HTK.out.2 (by omega), HB3.out⟩, by simp [intOf]; omega⟩
                · have h3i : ¬ ((2 : Int) < (nu : Int)) := by omega
                  have HLD2 : Hid (ld = ⟨kw, Sc.ba y, ⟨#[]⟩⟩) := by unfold Hid; rw [HLD.out, if_neg (fun q => h3 q.2)]
                  clear HLD HDA hkw
                  go_wp2_with (at_builtin; refine wp_deL (B := w1.heap.size) (wx := wr) (v := .slice ad7 ds.length c7) (ds := ds) rfl (.tmp 65) (.tmp 67) rfl rfl HO2.out (Nat.le_trans HBR.out.size HBI.out.size) ⟨kw, Sc.ba y, ⟨#[]⟩⟩ rfl rfl (by have := HDL.out; have := HCK.out; omega) ?_; intro v3 w3 ho3 hg3; have HO3 := hide3 ho3; have HB3 : Hid (Below w1.heap.size w1 w3) := (HBR.out.trans (HBI.out.mono HBR.out.size)).grown hg3 (Nat.le_trans HBR.out.size HBI.out.size) (fun q hq => (HO2.out.lt hq).2); clear ho3 hg3)
                  exact ⟨⟨c + 1, k + 1, ds ++ [ld], by go_num, by have := HCK.out; omega, by omega, by rw [HLD2.out]; exact HO3.out, HTK.out.1.symm, HTK.out.2 (by omega), HB3.out⟩, by simp [intOf]; omega⟩
              · have hkb : (kw == 4) = false := beq_eq_false_iff_ne.2 hkw
                have HLD2 : Hid (ld = ⟨kw, Sc.ba y, ⟨#[]⟩⟩) := by unfold Hid; rw [HLD.out, if_neg (fun q => hkw q.1)]
                clear HLD HDA hkw
                go_wp2_with (at_builtin; refine wp_deL (B := w1.heap.size) (wx := wr) (v := .slice ad7 ds.length c7) (ds := ds) rfl (.tmp 65) (.tmp 67) rfl rfl HO2.out (Nat.le_trans HBR.out.size HBI.out.size) ⟨kw, Sc.ba y, ⟨#[]⟩⟩ rfl rfl (by have := HDL.out; have := HCK.out; omega) ?_; intro v3 w3 ho3 hg3; have HO3 := hide3 ho3; have HB3 : Hid (Below w1.heap.size w1 w3) := (HBR.out.trans (HBI.out.mono HBR.out.size)).grown hg3 (Nat.le_trans HBR.out.size HBI.out.size) (fun q hq => (HO2.out.lt hq).2); clear ho3 hg3)
                exact ⟨⟨c + 1, k + 1, ds ++ [ld], by go_num, by have := HCK.out; omega, by omega, by rw [HLD2.out]; exact HO3.out, HTK.out.1.symm, HTK.out.2 (by omega), HB3.out⟩, by simp [intOf]; omega⟩
      · have hci : ¬ ((c : Int) < (n : Int)) := by omega
        have hkr : k = r.length := by have := HCK.out; have := HRL.out; have := HN.out; omega
        subst hkr
        have hd2 : ds = r.map lenD := by have := HDS.out; rw [List.take_length] at this; exact this
        have HA2 : Hid (∀ ws ∈ r, 2 ≤ ws.length) := by have := HAL.out; rw [List.take_length] at this; exact this
        obtain ⟨a7, c8, hv8, hdes⟩ := HOD.out.isDes
        cases hv8
        have HSZ : Hid (∀ d ∈ ds, d.pa.size ≤ 4194304 ∧ d.da.size ≤ 4194304) := fun d hd => by
          rw [hd2] at hd
          obtain ⟨ws, hw, rfl⟩ := List.mem_map.1 hd
          have := lenD_size (fun x hx => (HZR.out ws hw).2.2 x hx)
          omega
        have hsum : sumL ds ≤ 4194304 * 12582920 := Nat.le_trans (sum_le (M := 12582920) fun d hd => by have := HSZ.out d hd; omega) (Nat.mul_le_mul_right _ (by have := HDL.out; have := HRL.out; omega))
        have htl := text_le ds
        have HCH : Hid (Calls Tryz.prog 73 #[.slice ad7 ds.length c7] WR fun e w' => e = .returned (.int .i64 (prnE ds)) ∧ Below WR.heap.size WR w') := rCheck17 ds ad7 c7 WR (by have := HDL.out; have := HRL.out; omega) hdes fun d hd => by have := HSZ.out d hd; unfold maxLen; omega
        have HTX : Hid (∀ W, Below WR.heap.size WR W → Calls Tryz.prog 75 #[.slice ad7 ds.length c7] W fun e w' => e = .returned (.string (textD ds)) ∧ Below W.heap.size W w') := fun W hb => pText_any ds ad7 c7 W (by have := HDL.out; have := HRL.out; omega) (hdes.below hb) (fun d hd => by have := HSZ.out d hd; omega) (by omega)
        rw [← hd2] at HOK HNO
        clear hsum htl hdes HSZ
        by_cases hp : Plan ds
        · rw [(prn_yes hp).2] at HCH
          cases htt : ((textD ds).toList == t.toList)
          · have htn : ((textD ds).toList != t.toList) = true := by unfold bne; rw [htt]; rfl
            have HE : Hid (po = (44, [])) := HNO.out (Or.inr (Or.inr fun e => by rw [e] at htt; simp at htt))
            clear HOK HNO hp hd2
            generalize textD ds = td at *
            go_wp2_with (first
              | (go_at_call 75; refine (HTX.out _ HC2.out).mono ?_; rintro e w3 ⟨rfl, hb3⟩; have HB3 : Hid (Below w.heap.size w w3) := HB2.out.trans (hb3.mono HB2.out.size); clear hb3)
              | (go_at_call 73; refine HCH.out.mono ?_; rintro e w2 ⟨rfl, hb2⟩; have HC2 := hide3 hb2; have HB2 : Hid (Below w.heap.size w w2) := HBW.out.trans (hb2.mono HBW.out.size); clear hb2))
            go_ret2
            exact ParQ.no _ _ _ _ HE.out HB3.out
          · have htn : ((textD ds).toList != t.toList) = false := by unfold bne; rw [htt]; rfl
            have HE : Hid (po = (0, ds)) := HOK.out HA2.out hp (beq_bytes.1 htt)
            clear HOK HNO hp hd2
            generalize textD ds = td at *
            go_wp2_with (first
              | (go_at_call 75; refine (HTX.out _ HC2.out).mono ?_; rintro e w3 ⟨rfl, hb3⟩; have HO3 := hide3 (HO2.out.below hb3); have HB3 : Hid (Below w.heap.size w w3) := HB2.out.trans (hb3.mono HB2.out.size); clear hb3)
              | (go_at_call 73; refine HCH.out.mono ?_; rintro e w2 ⟨rfl, hb2⟩; have HC2 := hide3 hb2; have HO2 := hide3 (HOD.out.below hb2); have HB2 : Hid (Below w.heap.size w w2) := HBW.out.trans (hb2.mono HBW.out.size); clear hb2))
            go_ret2
            rw [HE.out]
            exact ⟨_, rfl, HO3.out.base HB1.out.size, HB3.out⟩
        · rw [(prn_no hp).2] at HCH
          have HE : Hid (po = (44, [])) := HNO.out (Or.inr (Or.inl hp))
          clear HOK HNO hp hd2
          go_wp2_with (go_at_call 73; refine HCH.out.mono ?_; rintro e w2 ⟨rfl, hb2⟩; have HB2 : Hid (Below w.heap.size w w2) := HBW.out.trans (hb2.mono HBW.out.size); clear hb2)
          go_ret2
          exact ParQ.no _ _ _ _ HE.out HB2.out
end Go.Proofs.YtpaoimhebheaeaaGreatDoor
