/- Parse of package plan: any text. Conditions: sizes. -/
import Derived.Test.YtefcndfeemnglaaGreatDoorPe2
import Derived.Test.YtefcndfeemnglaaGreatDoorScLi3
namespace Go.Proofs.YtefcndfeemnglaaGreatDoor
open Go.RowKit Go.Maps Go.WideMaps Go.WideElems Dk
set_option maxRecDepth 100000

theorem parO_err {t : ByteArray} {n : Nat} (h : Sc.scanR t.data.toList [] [] [] = .error n) : parO t = (22, []) := by unfold parO; rw [h]
theorem parO_head {t : ByteArray} {L : List (List Sc.Bs)} (h : Sc.scanR t.data.toList [] [] [] = .ok L) (hh : L.head? ≠ some [bsP]) : parO t = (44, []) := by
  unfold parO
  rw [h]
  simp only
  have : readL L = none := by
    cases L with
    | nil => rfl
    | cons x r => simp only [readL]; rw [if_neg (fun e => hh (by rw [e]; rfl))]
  rw [this]
theorem readL_head (r : List (List Sc.Bs)) : readL ([bsP] :: r) = readD r := by simp [readL]
theorem parO_none {t : ByteArray} {r : List (List Sc.Bs)} (h : Sc.scanR t.data.toList [] [] [] = .ok ([bsP] :: r)) (hr : readD r = none) : parO t = (44, []) := by
  unfold parO
  rw [h]
  simp only
  rw [readL_head, hr]
theorem parO_plan {t : ByteArray} {r : List (List Sc.Bs)} {l : List De} (h : Sc.scanR t.data.toList [] [] [] = .ok ([bsP] :: r)) (hr : readD r = some l) (hp : Plan l) : parO t = (0, l) := by
  unfold parO
  rw [h]
  simp only
  rw [readL_head, hr]
  simp only
  rw [if_pos hp]
theorem parO_not {t : ByteArray} {r : List (List Sc.Bs)} {l : List De} (h : Sc.scanR t.data.toList [] [] [] = .ok ([bsP] :: r)) (hr : readD r = some l) (hp : ¬ Plan l) : parO t = (44, []) := by
  unfold parO
  rw [h]
  simp only
  rw [readL_head, hr]
  simp only
  rw [if_neg hp]
theorem deedW_pa {ws : List Sc.Bs} {d : De} (h : deedW ws = some d) : ∃ x ∈ ws, d.pa.size = x.length := by
  match ws, h with
  | [k, p], h =>
    unfold deedW at h
    simp only at h
    split at h
    · cases h; exact ⟨p, by simp, Sc.ba_size p⟩
    · cases h
  | [k, p, x], h =>
    unfold deedW at h
    simp only at h
    split at h
    · cases hb : bytW x with
      | none => rw [hb] at h; cases h
      | some y => rw [hb] at h; cases h; exact ⟨p, by simp, Sc.ba_size p⟩
    · cases h
theorem readD_pa {N : Nat} : ∀ {r : List (List Sc.Bs)} {l : List De}, (∀ ws ∈ r, ∀ x ∈ ws, x.length ≤ N) → readD r = some l → ∀ d ∈ l, d.pa.size ≤ N
  | [], l, _, h, d, hd => by cases h; cases hd
  | x :: r, l, hz, h, d, hd => by
    unfold readD at h
    cases hx : deedW x with
    | none => rw [hx] at h; cases h
    | some q =>
      rw [hx] at h
      simp only at h
      cases hr : readD r with
      | none => rw [hr] at h; cases h
      | some m =>
        rw [hr] at h
        cases h
        rcases List.mem_cons.1 hd with rfl | hd
        · obtain ⟨y, hy, e⟩ := deedW_pa hx
          rw [e]
          exact hz x List.mem_cons_self y hy
        · exact readD_pa (fun ws hw => hz ws (List.mem_cons_of_mem _ hw)) hr d hd
theorem lines_z {t : ByteArray} {L : List (List Sc.Bs)} (h : Sc.scanR t.data.toList [] [] [] = .ok L) : L.length ≤ t.size ∧ ∀ ws ∈ L, ws ≠ [] ∧ ws.length ≤ t.size ∧ ∀ x ∈ ws, x.length ≤ t.size := by
  obtain ⟨hal, htx⟩ := Sc.scan_back _ _ _ _ L h rfl rfl rfl
  have htx' : Sc.textT L = t.data.toList := by rw [htx]; simp [Sc.pend, Sc.textT]
  obtain ⟨h1, h2⟩ := Sc.textT_len L
  rw [htx'] at h1 h2
  refine ⟨h1, fun ws hw => ?_⟩
  obtain ⟨_, h3, h4⟩ := Sc.lineT_len ws
  have h5 := h2 ws hw
  have h6 : Sc.isL ws = true := List.all_eq_true.1 hal ws hw
  refine ⟨fun e => (by rw [e] at h6; exact absurd h6 (by decide)), Nat.le_trans h3 h5, fun x hx => Nat.le_trans (h4 x hx) h5⟩
/-- Deeds of one's own lie there. -/
theorem OwnDe.isDes {w : World} {B : Nat} {v : Value} {l : List De} (h : OwnDe w B v l) : ∃ a cap, v = .slice a l.length cap ∧ IsDes w a l := by
  by_cases h0 : 0 < l.length
  · obtain ⟨g, cap, rfl, hg, _⟩ := h.some h0
    exact ⟨_, cap, rfl, Or.inr ⟨g, 0, rfl, hg, fun k hk => by
      have := h.cells k hk
      rw [Nat.zero_add]
      exact this⟩⟩
  · obtain ⟨ad, cap, hv, _⟩ := h.sl
    exact ⟨ad, cap, hv, Or.inl (List.eq_nil_of_length_eq_zero (by omega))⟩
/-- What Parse answers. -/
def ParQ (w : World) (r : Int × List De) (e : Ending) (w' : World) : Prop := ∃ v, e = .returned (.tuple #[v, .int .i64 r.1]) ∧ OwnDe w' w.heap.size v r.2 ∧ Below w.heap.size w w'
theorem ParQ.no (w w' : World) (r : Int × List De) (c : Int) (h : r = (c, [])) (hb : Below w.heap.size w w') : ParQ w r (.returned (.tuple #[.slice none 0 0, .int .i64 c])) w' := by
  rw [h]
  exact ⟨_, rfl, OwnDe.nil _ _, hb⟩

/-- Lines that were read, with the first one's words. -/
def HedQ (w : World) (h : List Sc.Bs) (r : List (List Sc.Bs)) (e : Ending) (w' : World) : Prop := ∃ g o n cap g0 o0 n0 cap0, e = .returned (.tuple #[.slice (some ⟨g, o, none⟩) n cap, .int .i64 0, .int .i64 0]) ∧ n = r.length + 1 ∧ n ≤ cap ∧ Below w.heap.size w w' ∧ w'.cell? ⟨g, o, none⟩ = some (.slice (some ⟨g0, o0, none⟩) n0 cap0) ∧ n0 = h.length ∧ g < w'.heap.size ∧ g0 < w'.heap.size ∧ w'.cell? ⟨g0, o0, none⟩ = (h.head?.map fun x => .string (Sc.ba x)) ∧ ∀ i (hi : i < r.length), ∃ u, w'.cell? ⟨g, o + 1 + i, none⟩ = some u ∧ Sc.WordsAt w' u r[i]

/-- A line that is no deed's. -/
def DeN (w : World) (e : Ending) (w' : World) : Prop := ∃ (k : Int) (p t : ByteArray), e = .returned (.tuple #[.agg #[.int .i64 k, .string p, .string t], .bool false]) ∧ Below w.heap.size w w'
theorem deedOf_no {w : World} {v : Value} {ws : List Sc.Bs} (h : Calls Tryz.prog 31 #[v] w (DeQ w ws)) (hd : deedW ws = none) : Calls Tryz.prog 31 #[v] w (DeN w) := by
  refine h.mono ?_
  rintro e w' ⟨k, p, t, b, rfl, hb, ⟨_, h2⟩ | ⟨rfl, _⟩⟩
  · rw [hd] at h2; cases h2
  · exact ⟨k, p, t, rfl, hb⟩
theorem deedOf_yes {w : World} {v : Value} {ws : List Sc.Bs} {d : De} (h : Calls Tryz.prog 31 #[v] w (DeQ w ws)) (hd : deedW ws = some d) : Calls Tryz.prog 31 #[v] w fun e w' => e = .returned (.tuple #[.agg #[.int .i64 d.kd, .string d.pa, .string d.da], .bool true]) ∧ Below w.heap.size w w' := by
  refine h.mono ?_
  rintro e w' ⟨k, p, t, b, rfl, hb, ⟨rfl, h2⟩ | ⟨rfl, h2⟩⟩
  · rw [hd] at h2; cases h2; exact ⟨rfl, hb⟩
  · rw [hd] at h2; cases h2

set_option maxHeartbeats 16000000 in
theorem Parse_any (t : ByteArray) (hs : t.size ≤ 4194304) (m : Int) (w : World) (hm : w.cell? ⟨0, 0, none⟩ = some (.int .i64 m)) : Calls Tryz.prog 13 #[.string t] w (ParQ w (parO t)) := by
  have HM := hide3 hm
  have HL : Hid (Calls Tryz.prog 30 #[.string t, .int .i64 (t.size : Int)] w (Sc.LinesP w (Sc.scanR t.data.toList [] [] []))) := Sc.Lines_len t w hs rfl
  clear hm
  cases hR : Sc.scanR t.data.toList [] [] [] with
  | error n =>
    rw [hR] at HL
    have HE := hide3 (parO_err hR)
    generalize parO t = po at *
    clear hR
    have HL2 : Hid (Calls Tryz.prog 30 #[.string t, .int .i64 (t.size : Int)] w fun e w' => ∃ v, e = .returned (.tuple #[v, .int .i64 22, .int .i64 (n : Int)]) ∧ Below w.heap.size w w') := HL.out.mono fun e w' ⟨v, h1, _, h3⟩ => ⟨v, h1, h3⟩
    go_enter Tryz.func13, Tryz.ntmps13
    go_wp2_with (go_at_call 30; refine HL2.out.mono ?_; rintro e w1 ⟨v1, rfl, hb1⟩; have HB1 := hide3 hb1; clear hb1)
    go_ret2
    exact ParQ.no _ _ _ _ HE.out HB1.out
  | ok L =>
    rw [hR] at HL
    have HZ := hide3 (lines_z hR)
    have HL2 : Hid (Calls Tryz.prog 30 #[.string t, .int .i64 (t.size : Int)] w fun e w' => ∃ v, e = .returned (.tuple #[v, .int .i64 0, .int .i64 0]) ∧ Sc.LinesAt w' v L ∧ Below w.heap.size w w') := HL.out.mono fun e w' ⟨v, h1, ⟨ps, h2, h3⟩, h4⟩ => ⟨v, h1, (by have := h3.at; rw [h2] at this; exact this), h4⟩
    clear HL
    cases L with
    | nil =>
      have HE := hide3 (parO_head hR (by simp))
      generalize parO t = po at *
      clear hR
      go_enter Tryz.func13, Tryz.ntmps13
      go_wp2_with (go_at_call 30; refine HL2.out.mono ?_; rintro e w1 ⟨v1, rfl, ⟨ad, cap, rfl, hl1⟩, hb1⟩; have HB1 := hide3 hb1; clear hb1 hl1)
      go_ret2
      exact ParQ.no _ _ _ _ HE.out HB1.out
    | cons h r =>
      have HL3 : Hid (Calls Tryz.prog 30 #[.string t, .int .i64 (t.size : Int)] w (HedQ w h r)) := by
        refine HL2.out.mono ?_
        rintro e w' ⟨v, rfl, ⟨ad, cap, rfl, hcap, hl⟩, hb⟩
        obtain ⟨g, o, rfl, hg, hc⟩ := hl.resolve_left (by simp)
        obtain ⟨u, hu, ⟨ad0, cap0, rfl, hcap0, hl0⟩⟩ := hc 0 (by simp)
        have hne : h ≠ [] := (HZ.out.2 h (by simp)).1
        obtain ⟨g0, o0, rfl, hg0, hc0⟩ := hl0.resolve_left hne
        have h0 := List.length_pos_iff.2 hne
        refine ⟨g, o, _, cap, g0, o0, _, cap0, rfl, by simp, hcap, hb, by simpa using hu, rfl, hg, hg0, ?_, fun i hi => ?_⟩
        · have := hc0 0 h0
          rw [Nat.add_zero] at this
          rw [this]
          cases h with
          | nil => exact absurd rfl hne
          | cons x q => rfl
        · obtain ⟨u, hu, hw⟩ := hc (i + 1) (by simpa using hi)
          exact ⟨u, by rw [show o + 1 + i = o + (i + 1) by omega]; exact hu, hw⟩
      clear HL2
      have hzl := HZ.out.1
      rw [List.length_cons] at hzl
      by_cases hh1 : h.length = 1
      · obtain ⟨x, rfl⟩ : ∃ x, h = [x] := by
          match h, hh1 with
          | [x], _ => exact ⟨x, rfl⟩
        cases hx : ((Sc.ba x).toList == [112, 108, 97, 110])
        · have hxn : ((Sc.ba x).toList != [112, 108, 97, 110]) = true := by unfold bne; rw [hx]; rfl
          have HE : Hid (parO t = (44, [])) := parO_head hR (fun e => by
            have e1 : x = bsP := by simpa using e
            rw [e1, toList_data, Sc.ba_list] at hx
            cases hx)
          generalize parO t = po at *
          clear hR
          go_enter Tryz.func13, Tryz.ntmps13
          go_wp2_with (go_at_call 30; refine HL3.out.mono ?_; intro e w1 hq; obtain ⟨g, o, n, cap, g0, o0, n0, cap0, rfl, hn, hcap, hb1, c1, hn0, hg, hg0, c2, _⟩ := hq; have HB1 := hide3 hb1; clear hb1; obtain rfl : n0 = 1 := hn0; have hn1 : ((n : Int) == 0) = false := beq_eq_false_iff_ne.2 (by omega); have hn2 : 0 < n := (by omega); simp only [List.head?_cons, Option.map_some] at c2; clear hn)
          go_ret2
          exact ParQ.no _ _ _ _ HE.out HB1.out
        · have hxn : ((Sc.ba x).toList != [112, 108, 97, 110]) = false := by unfold bne; rw [hx]; rfl
          obtain rfl : x = bsP := by
            have := beq_iff_eq.1 hx
            rw [toList_data, Sc.ba_list] at this
            exact this
          have HEN := hide3 (parO_none hR)
          have HEP := hide3 (fun l => parO_plan (l := l) hR)
          have HEX := hide3 (fun l => parO_not (l := l) hR)
          have HZR : Hid (∀ ws ∈ r, ws ≠ [] ∧ ws.length ≤ t.size ∧ ∀ x ∈ ws, x.length ≤ t.size) := fun ws hw => HZ.out.2 ws (List.mem_cons_of_mem _ hw)
          clear HZ hR
          generalize parO t = po at *
          go_enter Tryz.func13, Tryz.ntmps13
          go_wp2_with (go_at_call 30; refine HL3.out.mono ?_; intro e w1 hq; obtain ⟨g, o, n, cap, g0, o0, n0, cap0, rfl, hn, hcap, hb1, c1, hn0, hg, hg0, c2, hcs⟩ := hq; have HB1 := hide3 hb1; clear hb1; obtain rfl : n0 = 1 := hn0; have hn1 : ((n : Int) == 0) = false := beq_eq_false_iff_ne.2 (by omega); have hn2 : 0 < n := (by omega); simp only [List.head?_cons, Option.map_some] at c2; have HCS := hide3 hcs; have HN := hide3 hn; clear hcs hn)
          all_goals rw [show n - 1 = r.length by have := HN.out; omega]
          · have HCR : Hid (∀ i (hi : i < r.length), ∃ u, w1.cell? ⟨g, o + i, none⟩ = some u ∧ Sc.WordsAt w1 u r[i]) := fun i hi => by have := HN.out; omega
            clear HCS HN HL3 c1 c2 hx hxn hh1 hcap hn1 hn2
            go_loopw [7, 45] (fun v7 i wr => ∃ (k : Nat) (ds : List De), k ≤ r.length ∧ i = .int .i64 k ∧ OwnDe wr w1.heap.size v7 ds ∧ readD (r.take k) = some ds ∧ Below w1.heap.size w1 wr) (fun _ i _ => r.length - (intOf i).toNat)
            case atStart => exact ⟨0, [], Nat.zero_le _, rfl, OwnDe.nil _ _, rfl, Below.refl _ _⟩
            case round =>
              obtain ⟨k, ds, hk, rfl, hod, hrd, hbr⟩ := hrel
              have HOD := hide3 hod
              have HRD := hide3 hrd
              have HBR := hide3 hbr
              have HBW : Hid (Below w.heap.size w wr) := HB1.out.trans (hbr.mono HB1.out.size)
              have HDL : Hid (ds.length = k) := by
                have := readD_len hrd
                rw [List.length_take] at this
                unfold Hid
                omega
              clear hod hrd hbr
              by_cases hlt : k < r.length
              · obtain ⟨u, hu, hwu⟩ := HCR.out k hlt
                have hu2 : wr.cell? ⟨g, o + k, none⟩ = some u := (HBR.out.cell (p := ⟨g, o + k, none⟩) hg).trans hu
                obtain ⟨z1, z2, z3⟩ := HZR.out r[k] (List.getElem_mem hlt)
                have HDO := hide3 (deedOf_any (hwu.below HBR.out) z1 (fun x hx => by have := z3 x hx; omega) (by omega))
                obtain ⟨adu, cpu, rfl, q1, q2⟩ := hwu
                have hki : (k : Int) < (r.length : Int) := by omega
                have hk0 : (0 : Int) ≤ (k : Int) := by omega
                have HRT : Hid (readD (r.take (k + 1)) = match deedW r[k] with
                  | none => none
                  | some d => some (ds ++ [d])) := by
                  unfold Hid
                  rw [List.take_succ_eq_append_getElem hlt, readD_snoc, HRD.out]
                  rfl
                have HRN : Hid (deedW r[k] = none → readD r = none) := fun h => readD_none (List.getElem_mem hlt) h
                clear hu z1 z2 z3 q1 q2
                generalize r[k].length = nu at *
                cases hd : deedW r[k] with
                | none =>
                  have HD2 := hide3 (deedOf_no HDO.out hd)
                  have HE := hide3 (HEN.out (HRN.out hd))
                  clear HDO HRT HRN HEN HEP HEX hd
                  go_wp2_with (go_at_call 31; refine HD2.out.mono ?_; intro e w2 hq; obtain ⟨kd, p, tt, rfl, hb2⟩ := hq; have HB2 : Hid (Below w.heap.size w (w2.alloc (.cells #[.int .i64 kd, .string p, .string tt] 32))) := (HBW.out.trans (hb2.mono HBW.out.size)).alloc (Nat.le_trans HBW.out.size hb2.size) _; clear hb2)
                  go_ret2
                  exact ParQ.no _ _ _ _ HE.out HB2.out
                | some d =>
                  have HD2 := hide3 (deedOf_yes HDO.out hd)
                  rw [hd] at HRT
                  simp only at HRT
                  obtain ⟨ad7, c7, rfl, hc7⟩ := HOD.out.sl
                  clear HDO HRN HEN HEP HEX hd
                  go_wp2_with (first
                    | (go_at_call 31; refine HD2.out.mono ?_; rintro e w2 ⟨rfl, hb2⟩; have HB2 : Hid (Below wr.heap.size wr (w2.alloc (.cells #[.int .i64 d.kd, .string d.pa, .string d.da] 32))) := hb2.alloc hb2.size _; have HO2 := hide3 (HOD.out.below HB2.out); clear hb2)
                    | (at_builtin; refine wp_deL (B := w1.heap.size) (wx := w2.alloc (.cells #[.int .i64 d.kd, .string d.pa, .string d.da] 32)) (v := .slice ad7 ds.length c7) (ds := ds) rfl (.tmp 56) (.tmp 58) rfl rfl HO2.out (Nat.le_trans HBR.out.size HB2.out.size) d (by simp) rfl (by have := HDL.out; omega) ?_; intro v3 w3 ho3 hg3; have HO3 := hide3 ho3; have HB3 : Hid (Below w1.heap.size w1 w3) := (HBR.out.trans (HB2.out.mono HBR.out.size)).grown hg3 (Nat.le_trans HBR.out.size HB2.out.size) (fun q hq => (HO2.out.lt hq).2); clear ho3 hg3))
                  exact ⟨⟨k + 1, _, by omega, by go_num, HO3.out, HRT.out, HB3.out⟩, by simp [intOf]; omega⟩
              · have hki : ¬ ((k : Int) < (r.length : Int)) := by omega
                have hrr : readD r = some ds := by have := HRD.out; rw [List.take_of_length_le (by omega)] at this; exact this
                obtain ⟨a7, c7, rfl, hdes⟩ := HOD.out.isDes
                have HPA : Hid (∀ d ∈ ds, d.pa.size ≤ maxLen) := fun d hd => by
                  have := readD_pa (N := t.size) (fun ws hw => (HZR.out ws hw).2.2) hrr d hd
                  unfold maxLen
                  omega
                have HCK := hide3 (Check_is ds a7 c7 m wr ((HBW.out.cell (p := ⟨0, 0, none⟩) (cell_lt HM.out)).trans HM.out) (by have := HDL.out; omega) hdes HPA.out)
                by_cases hp : Plan ds
                · rw [(prn_yes hp).2] at HCK
                  have HE := hide3 (HEP.out ds hrr hp)
                  clear HEN HEP HEX hrr hdes hp
                  go_wp2_with (go_at_call 6; refine HCK.out.mono ?_; rintro e w3 ⟨rfl, hb3⟩; have HO3 := hide3 (HOD.out.below hb3); have HB3 : Hid (Below w.heap.size w w3) := HBW.out.trans (hb3.mono HBW.out.size); clear hb3)
                  go_ret2
                  rw [HE.out]
                  exact ⟨_, rfl, HO3.out.base HB1.out.size, HB3.out⟩
                · rw [(prn_no hp).2] at HCK
                  have HE := hide3 (HEX.out ds hrr hp)
                  clear HEN HEP HEX hrr hdes hp
                  go_wp2_with (go_at_call 6; refine HCK.out.mono ?_; rintro e w3 ⟨rfl, hb3⟩; have HB3 : Hid (Below w.heap.size w w3) := HBW.out.trans (hb3.mono HBW.out.size); clear hb3)
                  go_ret2
                  exact ParQ.no _ _ _ _ HE.out HB3.out
          · have HCR : Hid (∀ i (hi : i < r.length), ∃ u, w1.cell? ⟨g, o + 1 + i, none⟩ = some u ∧ Sc.WordsAt w1 u r[i]) := HCS.out
            clear HCS HN HL3 c1 c2 hx hxn hh1 hcap hn1 hn2
            go_loopw [7, 45] (fun v7 i wr => ∃ (k : Nat) (ds : List De), k ≤ r.length ∧ i = .int .i64 k ∧ OwnDe wr w1.heap.size v7 ds ∧ readD (r.take k) = some ds ∧ Below w1.heap.size w1 wr) (fun _ i _ => r.length - (intOf i).toNat)
            case atStart => exact ⟨0, [], Nat.zero_le _, rfl, OwnDe.nil _ _, rfl, Below.refl _ _⟩
            case round =>
              obtain ⟨k, ds, hk, rfl, hod, hrd, hbr⟩ := hrel
              have HOD := hide3 hod
              have HRD := hide3 hrd
              have HBR := hide3 hbr
              have HBW : Hid (Below w.heap.size w wr) := HB1.out.trans (hbr.mono HB1.out.size)
              have HDL : Hid (ds.length = k) := by
                have := readD_len hrd
                rw [List.length_take] at this
                unfold Hid
                omega
              clear hod hrd hbr
              by_cases hlt : k < r.length
              · obtain ⟨u, hu, hwu⟩ := HCR.out k hlt
                have hu2 : wr.cell? ⟨g, o + 1 + k, none⟩ = some u := (HBR.out.cell (p := ⟨g, o + 1 + k, none⟩) hg).trans hu
                obtain ⟨z1, z2, z3⟩ := HZR.out r[k] (List.getElem_mem hlt)
                have HDO := hide3 (deedOf_any (hwu.below HBR.out) z1 (fun x hx => by have := z3 x hx; omega) (by omega))
                obtain ⟨adu, cpu, rfl, q1, q2⟩ := hwu
                have hki : (k : Int) < (r.length : Int) := by omega
                have hk0 : (0 : Int) ≤ (k : Int) := by omega
                have HRT : Hid (readD (r.take (k + 1)) = match deedW r[k] with
                  | none => none
                  | some d => some (ds ++ [d])) := by
                  unfold Hid
                  rw [List.take_succ_eq_append_getElem hlt, readD_snoc, HRD.out]
                  rfl
                have HRN : Hid (deedW r[k] = none → readD r = none) := fun h => readD_none (List.getElem_mem hlt) h
                clear hu z1 z2 z3 q1 q2
                generalize r[k].length = nu at *
                cases hd : deedW r[k] with
                | none =>
                  have HD2 := hide3 (deedOf_no HDO.out hd)
                  have HE := hide3 (HEN.out (HRN.out hd))
                  clear HDO HRT HRN HEN HEP HEX hd
                  go_wp2_with (go_at_call 31; refine HD2.out.mono ?_; intro e w2 hq; obtain ⟨kd, p, tt, rfl, hb2⟩ := hq; have HB2 : Hid (Below w.heap.size w (w2.alloc (.cells #[.int .i64 kd, .string p, .string tt] 32))) := (HBW.out.trans (hb2.mono HBW.out.size)).alloc (Nat.le_trans HBW.out.size hb2.size) _; clear hb2)
                  go_ret2
                  exact ParQ.no _ _ _ _ HE.out HB2.out
                | some d =>
                  have HD2 := hide3 (deedOf_yes HDO.out hd)
                  rw [hd] at HRT
                  simp only at HRT
                  obtain ⟨ad7, c7, rfl, hc7⟩ := HOD.out.sl
                  clear HDO HRN HEN HEP HEX hd
                  go_wp2_with (first
                    | (go_at_call 31; refine HD2.out.mono ?_; rintro e w2 ⟨rfl, hb2⟩; have HB2 : Hid (Below wr.heap.size wr (w2.alloc (.cells #[.int .i64 d.kd, .string d.pa, .string d.da] 32))) := hb2.alloc hb2.size _; have HO2 := hide3 (HOD.out.below HB2.out); clear hb2)
                    | (at_builtin; refine wp_deL (B := w1.heap.size) (wx := w2.alloc (.cells #[.int .i64 d.kd, .string d.pa, .string d.da] 32)) (v := .slice ad7 ds.length c7) (ds := ds) rfl (.tmp 56) (.tmp 58) rfl rfl HO2.out (Nat.le_trans HBR.out.size HB2.out.size) d (by simp) rfl (by have := HDL.out; omega) ?_; intro v3 w3 ho3 hg3; have HO3 := hide3 ho3; have HB3 : Hid (Below w1.heap.size w1 w3) := (HBR.out.trans (HB2.out.mono HBR.out.size)).grown hg3 (Nat.le_trans HBR.out.size HB2.out.size) (fun q hq => (HO2.out.lt hq).2); clear ho3 hg3))
                  exact ⟨⟨k + 1, _, by omega, by go_num, HO3.out, HRT.out, HB3.out⟩, by simp [intOf]; omega⟩
              · have hki : ¬ ((k : Int) < (r.length : Int)) := by omega
                have hrr : readD r = some ds := by have := HRD.out; rw [List.take_of_length_le (by omega)] at this; exact this
                obtain ⟨a7, c7, rfl, hdes⟩ := HOD.out.isDes
                have HPA : Hid (∀ d ∈ ds, d.pa.size ≤ maxLen) := fun d hd => by
                  have := readD_pa (N := t.size) (fun ws hw => (HZR.out ws hw).2.2) hrr d hd
                  unfold maxLen
                  omega
                have HCK := hide3 (Check_is ds a7 c7 m wr ((HBW.out.cell (p := ⟨0, 0, none⟩) (cell_lt HM.out)).trans HM.out) (by have := HDL.out; omega) hdes HPA.out)
                by_cases hp : Plan ds
                · rw [(prn_yes hp).2] at HCK
                  have HE := hide3 (HEP.out ds hrr hp)
                  clear HEN HEP HEX hrr hdes hp
                  go_wp2_with (go_at_call 6; refine HCK.out.mono ?_; rintro e w3 ⟨rfl, hb3⟩; have HO3 := hide3 (HOD.out.below hb3); have HB3 : Hid (Below w.heap.size w w3) := HBW.out.trans (hb3.mono HBW.out.size); clear hb3)
                  go_ret2
                  rw [HE.out]
                  exact ⟨_, rfl, HO3.out.base HB1.out.size, HB3.out⟩
                · rw [(prn_no hp).2] at HCK
                  have HE := hide3 (HEX.out ds hrr hp)
                  clear HEN HEP HEX hrr hdes hp
                  go_wp2_with (go_at_call 6; refine HCK.out.mono ?_; rintro e w3 ⟨rfl, hb3⟩; have HB3 : Hid (Below w.heap.size w w3) := HBW.out.trans (hb3.mono HBW.out.size); clear hb3)
                  go_ret2
                  exact ParQ.no _ _ _ _ HE.out HB3.out
      · have HE : Hid (parO t = (44, [])) := parO_head hR (fun e => hh1 (by have e1 : h = [bsP] := by simpa using e
                                                                            rw [e1]; rfl))
        generalize parO t = po at *
        clear hR
        have HH1 := hide3 hh1
        clear hh1
        go_enter Tryz.func13, Tryz.ntmps13
        go_wp2_with (go_at_call 30; refine HL3.out.mono ?_; intro e w1 hq; obtain ⟨g, o, n, cap, g0, o0, n0, cap0, rfl, hn, hcap, hb1, c1, hn0, hg, hg0, c2, _⟩ := hq; have HB1 := hide3 hb1; clear hb1; have hn1 : ((n : Int) == 0) = false := beq_eq_false_iff_ne.2 (by omega); have hn2 : 0 < n := (by omega); have hn3 : ((n0 : Int) != 1) = true := bne_iff_ne.2 (by have := HH1.out; omega); clear hn hn0 c2)
        go_ret2
        exact ParQ.no _ _ _ _ HE.out HB1.out
end Go.Proofs.YtefcndfeemnglaaGreatDoor
