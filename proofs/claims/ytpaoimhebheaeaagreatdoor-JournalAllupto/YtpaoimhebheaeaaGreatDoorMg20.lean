/- ScLi3, Pe3, Pf1, Pf2, RwDl, RwPn, Py8, laid in one text. -/
import Derived.Test.YtpaoimhebheaeaaGreatDoorScA
import Derived.BigQuiet
import Derived.Test.YtpaoimhebheaeaaGreatDoorTie
import Derived.Test.YtpaoimhebheaeaaGreatDoorCards
import Derived.Deep.DeepHandedRow
import Derived.Deep.DeepWitnessRowRef
import Derived.Test.YtpaoimhebheaeaaGreatDoorMg19
namespace Go.Proofs.YtpaoimhebheaeaaGreatDoor.Sc
open Go.RowKit
set_option maxRecDepth 100000

theorem Clone_any (s : ByteArray) (hs : s.size ≤ 281474976710656) (w : World) : Calls Tryz.prog 90 #[.string s] w fun e w' => e = .returned (.string s) ∧ Below w.heap.size w w' := by
  have HC := hide3 (Tryz.stringslite_Clone s w hs)
  go_enter Tryz.func90, Tryz.ntmps90
  go_wp2_with (go_at_call 120; refine HC.out.mono ?_; rintro e w1 ⟨rfl, hb⟩; have HB := hide3 hb; clear hb)
  go_ret
  exact ⟨rfl, HB.out⟩

/-- What both answer, with a bound. -/
def ansE (t : ByteArray) (most : Int) : Int := if most < (t.size : Int) then 25 else linE (scanR t.data.toList [] [] [])
def ansN (t : ByteArray) (most : Int) : Nat := if most < (t.size : Int) then 0 else linN (scanR t.data.toList [] [] [])
def ansL (t : ByteArray) (most : Int) : List (List Bs) := if most < (t.size : Int) then [] else linL (scanR t.data.toList [] [] [])
/-- A new answer. -/
def LinesQ (w : World) (e1 : Int) (n : Nat) (L : List (List Bs)) (e : Ending) (w' : World) : Prop := ∃ v, e = .returned (.tuple #[v, .int .i64 e1, .int .i64 (n : Int)]) ∧ OwnLL w' w.heap.size v L ∧ Below w.heap.size w w'

theorem rLines_far (t : ByteArray) (most : Int) (hm : most < (t.size : Int)) (w : World) : Calls Tryz.prog 82 #[.string t, .int .i64 most] w (LinesQ w 25 0 []) := by
  go_enter Tryz.func82, Tryz.ntmps82
  go_wp2
  go_ret3
  exact ⟨_, rfl, ⟨[], rfl, LL.nil _ _⟩, Below.refl _ _⟩

theorem rLines_all (t : ByteArray) (hs : t.size ≤ 4194304) (most : Int) (w : World) : Calls Tryz.prog 82 #[.string t, .int .i64 most] w (LinesQ w (ansE t most) (ansN t most) (ansL t most)) := by
  unfold ansE ansN ansL
  by_cases h : most < (t.size : Int)
  · rw [if_pos h, if_pos h, if_pos h]; exact rLines_far t most h w
  · rw [if_neg h, if_neg h, if_neg h]; exact rLines_any t hs most h w

theorem Lines_len (t : ByteArray) (w : World) (hs : t.size ≤ 4194304) {n : Int} (hn : n = (t.size : Int)) : Calls Tryz.prog 113 #[.string t, .int .i64 n] w (LinesP w (scanR t.data.toList [] [] [])) := by
  subst hn
  exact Lines_walk t hs _ (by omega) w (fun s h1 w1 => Clone_any s (by omega) w1)

end Go.Proofs.YtpaoimhebheaeaaGreatDoor.Sc
namespace Go.Proofs.YtpaoimhebheaeaaGreatDoor
open Go.RowKit Go.Maps Go.WideMaps Go.WideElems Dk
set_option maxRecDepth 100000

theorem parO_err {t : ByteArray} {n : Nat} (h : Sc.scanR t.data.toList [] [] [] = .error n) : parO t = (22, []) := by unfold parO; rw [h]
theorem parO_head {t : ByteArray} {L : List (List Sc.Bs)} (h : Sc.scanR t.data.toList [] [] [] = .ok L) (hh : L.head? ≠ some [bsP]) : parO t = (44, []) := by
  unfold parO
  rw [h]
  simp only
  have : readL L = none := by
    cases L with
    | nil => rfl
    | cons x r => simp only [readL]; rw [if_neg (fun e => hh (by rw [e]; rfl))]
  rw [this]
theorem readL_head (r : List (List Sc.Bs)) : readL ([bsP] :: r) = readD r := by simp [readL]
theorem parO_none {t : ByteArray} {r : List (List Sc.Bs)} (h : Sc.scanR t.data.toList [] [] [] = .ok ([bsP] :: r)) (hr : readD r = none) : parO t = (44, []) := by
  unfold parO
  rw [h]
  simp only
  rw [readL_head, hr]
theorem parO_plan {t : ByteArray} {r : List (List Sc.Bs)} {l : List De} (h : Sc.scanR t.data.toList [] [] [] = .ok ([bsP] :: r)) (hr : readD r = some l) (hp : Plan l) : parO t = (0, l) := by
  unfold parO
  rw [h]
  simp only
  rw [readL_head, hr]
  simp only
  rw [if_pos hp]
theorem parO_not {t : ByteArray} {r : List (List Sc.Bs)} {l : List De} (h : Sc.scanR t.data.toList [] [] [] = .ok ([bsP] :: r)) (hr : readD r = some l) (hp : ¬ Plan l) : parO t = (44, []) := by
  unfold parO
  rw [h]
  simp only
  rw [readL_head, hr]
  simp only
  rw [if_neg hp]
theorem deedW_pa {ws : List Sc.Bs} {d : De} (h : deedW ws = some d) : ∃ x ∈ ws, d.pa.size = x.length := by
  match ws, h with
  | [k, p], h =>
    unfold deedW at h
    simp only at h
    split at h
    · cases h; exact ⟨p, by simp, Sc.ba_size p⟩
    · cases h
  | [k, p, x], h =>
    unfold deedW at h
    simp only at h
    split at h
    · cases hb : bytW x with
      | none => rw [hb] at h; cases h
      | some y => rw [hb] at h; cases h; exact ⟨p, by simp, Sc.ba_size p⟩
    · cases h
theorem readD_pa {N : Nat} : ∀ {r : List (List Sc.Bs)} {l : List De}, (∀ ws ∈ r, ∀ x ∈ ws, x.length ≤ N) → readD r = some l → ∀ d ∈ l, d.pa.size ≤ N
  | [], l, _, h, d, hd => by cases h; cases hd
  | x :: r, l, hz, h, d, hd => by
    unfold readD at h
    cases hx : deedW x with
    | none => rw [hx] at h; cases h
    | some q =>
      rw [hx] at h
      simp only at h
      cases hr : readD r with
      | none => rw [hr] at h; cases h
      | some m =>
        rw [hr] at h
        cases h
        rcases List.mem_cons.1 hd with rfl | hd
        · obtain ⟨y, hy, e⟩ := deedW_pa hx
          rw [e]
          exact hz x List.mem_cons_self y hy
        · exact readD_pa (fun ws hw => hz ws (List.mem_cons_of_mem _ hw)) hr d hd
theorem lines_z {t : ByteArray} {L : List (List Sc.Bs)} (h : Sc.scanR t.data.toList [] [] [] = .ok L) : L.length ≤ t.size ∧ ∀ ws ∈ L, ws ≠ [] ∧ ws.length ≤ t.size ∧ ∀ x ∈ ws, x.length ≤ t.size := by
  obtain ⟨hal, htx⟩ := Sc.scan_back _ _ _ _ L h rfl rfl rfl
  have htx' : Sc.textT L = t.data.toList := by rw [htx]; simp [Sc.pend, Sc.textT]
  obtain ⟨h1, h2⟩ := Sc.textT_len L
  rw [htx'] at h1 h2
  refine ⟨h1, fun ws hw => ?_⟩
  obtain ⟨_, h3, h4⟩ := Sc.lineT_len ws
  have h5 := h2 ws hw
  have h6 : Sc.isL ws = true := List.all_eq_true.1 hal ws hw
  refine ⟨fun e => (by rw [e] at h6; exact absurd h6 (by decide)), Nat.le_trans h3 h5, fun x hx => Nat.le_trans (h4 x hx) h5⟩
/-- Deeds of one's own lie there. -/
theorem OwnDe.isDes {w : World} {B : Nat} {v : Value} {l : List De} (h : OwnDe w B v l) : ∃ a cap, v = .slice a l.length cap ∧ IsDes w a l := by
  by_cases h0 : 0 < l.length
  · obtain ⟨g, cap, rfl, hg, _⟩ := h.some h0
    exact ⟨_, cap, rfl, Or.inr ⟨g, 0, rfl, hg, fun k hk => by
      have := h.cells k hk
      rw [Nat.zero_add]
      exact this⟩⟩
  · obtain ⟨ad, cap, hv, _⟩ := h.sl
    exact ⟨ad, cap, hv, Or.inl (List.eq_nil_of_length_eq_zero (by omega))⟩
/-- What Parse answers. -/
def ParQ (w : World) (r : Int × List De) (e : Ending) (w' : World) : Prop := ∃ v, e = .returned (.tuple #[v, .int .i64 r.1]) ∧ OwnDe w' w.heap.size v r.2 ∧ Below w.heap.size w w'
theorem ParQ.no (w w' : World) (r : Int × List De) (c : Int) (h : r = (c, [])) (hb : Below w.heap.size w w') : ParQ w r (.returned (.tuple #[.slice none 0 0, .int .i64 c])) w' := by
  rw [h]
  exact ⟨_, rfl, OwnDe.nil _ _, hb⟩

/-- Lines that were read, with the first one's words. -/
def HedQ (w : World) (h : List Sc.Bs) (r : List (List Sc.Bs)) (e : Ending) (w' : World) : Prop := ∃ g o n cap g0 o0 n0 cap0, e = .returned (.tuple #[.slice (some ⟨g, o, none⟩) n cap, .int .i64 0, .int .i64 0]) ∧ n = r.length + 1 ∧ n ≤ cap ∧ Below w.heap.size w w' ∧ w'.cell? ⟨g, o, none⟩ = some (.slice (some ⟨g0, o0, none⟩) n0 cap0) ∧ n0 = h.length ∧ g < w'.heap.size ∧ g0 < w'.heap.size ∧ w'.cell? ⟨g0, o0, none⟩ = (h.head?.map fun x => .string (Sc.ba x)) ∧ ∀ i (hi : i < r.length), ∃ u, w'.cell? ⟨g, o + 1 + i, none⟩ = some u ∧ Sc.WordsAt w' u r[i]

/-- A line that is no deed's. -/
def DeN (w : World) (e : Ending) (w' : World) : Prop := ∃ (k : Int) (p t : ByteArray), e = .returned (.tuple #[.agg #[.int .i64 k, .string p, .string t], .bool false]) ∧ Below w.heap.size w w'
theorem deedOf_no {w : World} {v : Value} {ws : List Sc.Bs} (h : Calls Tryz.prog 114 #[v] w (DeQ w ws)) (hd : deedW ws = none) : Calls Tryz.prog 114 #[v] w (DeN w) := by
  refine h.mono ?_
  rintro e w' ⟨k, p, t, b, rfl, hb, ⟨_, h2⟩ | ⟨rfl, _⟩⟩
  · rw [hd] at h2; cases h2
  · exact ⟨k, p, t, rfl, hb⟩
theorem deedOf_yes {w : World} {v : Value} {ws : List Sc.Bs} {d : De} (h : Calls Tryz.prog 114 #[v] w (DeQ w ws)) (hd : deedW ws = some d) : Calls Tryz.prog 114 #[v] w fun e w' => e = .returned (.tuple #[.agg #[.int .i64 d.kd, .string d.pa, .string d.da], .bool true]) ∧ Below w.heap.size w w' := by
  refine h.mono ?_
  rintro e w' ⟨k, p, t, b, rfl, hb, ⟨rfl, h2⟩ | ⟨rfl, h2⟩⟩
  · rw [hd] at h2; cases h2; exact ⟨rfl, hb⟩
  · rw [hd] at h2; cases h2

set_option maxHeartbeats 16000000 in
theorem Parse_any (t : ByteArray) (hs : t.size ≤ 4194304) (m : Int) (w : World) (hm : w.cell? ⟨0, 0, none⟩ = some (.int .i64 m)) : Calls Tryz.prog 81 #[.string t] w (ParQ w (parO t)) := by
  have HM := hide3 hm
  have HL : Hid (Calls Tryz.prog 113 #[.string t, .int .i64 (t.size : Int)] w (Sc.LinesP w (Sc.scanR t.data.toList [] [] []))) := Sc.Lines_len t w hs rfl
  clear hm
  cases hR : Sc.scanR t.data.toList [] [] [] with
  | error n =>
    rw [hR] at HL
    have HE := hide3 (parO_err hR)
    generalize parO t = po at *
    clear hR
    have HL2 : Hid (Calls Tryz.prog 113 #[.string t, .int .i64 (t.size : Int)] w fun e w' => ∃ v, e = .returned (.tuple #[v, .int .i64 22, .int .i64 (n : Int)]) ∧ Below w.heap.size w w') := HL.out.mono fun e w' ⟨v, h1, _, h3⟩ => ⟨v, h1, h3⟩
    go_enter Tryz.func81, Tryz.ntmps81
    go_wp2_with (go_at_call 113; refine HL2.out.mono ?_; rintro e w1 ⟨v1, rfl, hb1⟩; have HB1 := hide3 hb1; clear hb1)
    go_ret2
    exact ParQ.no _ _ _ _ HE.out HB1.out
  | ok L =>
    rw [hR] at HL
    have HZ := hide3 (lines_z hR)
    have HL2 : Hid (Calls Tryz.prog 113 #[.string t, .int .i64 (t.size : Int)] w fun e w' => ∃ v, e = .returned (.tuple #[v, .int .i64 0, .int .i64 0]) ∧ Sc.LinesAt w' v L ∧ Below w.heap.size w w') := HL.out.mono fun e w' ⟨v, h1, ⟨ps, h2, h3⟩, h4⟩ => ⟨v, h1, (by have := h3.at; rw [h2] at this; exact this), h4⟩
    clear HL
    cases L with
    | nil =>
      have HE := hide3 (parO_head hR (by simp))
      generalize parO t = po at *
      clear hR
      go_enter Tryz.func81, Tryz.ntmps81
      go_wp2_with (go_at_call 113; refine HL2.out.mono ?_; rintro e w1 ⟨v1, rfl, ⟨ad, cap, rfl, hl1⟩, hb1⟩; have HB1 := hide3 hb1; clear hb1 hl1)
      go_ret2
      exact ParQ.no _ _ _ _ HE.out HB1.out
    | cons h r =>
      have HL3 : Hid (Calls Tryz.prog 113 #[.string t, .int .i64 (t.size : Int)] w (HedQ w h r)) := by
        refine HL2.out.mono ?_
        rintro e w' ⟨v, rfl, ⟨ad, cap, rfl, hcap, hl⟩, hb⟩
        obtain ⟨g, o, rfl, hg, hc⟩ := hl.resolve_left (by simp)
        obtain ⟨u, hu, ⟨ad0, cap0, rfl, hcap0, hl0⟩⟩ := hc 0 (by simp)
        have hne : h ≠ [] := (HZ.out.2 h (by simp)).1
        obtain ⟨g0, o0, rfl, hg0, hc0⟩ := hl0.resolve_left hne
        have h0 := List.length_pos_iff.2 hne
        refine ⟨g, o, _, cap, g0, o0, _, cap0, rfl, by simp, hcap, hb, by simpa using hu, rfl, hg, hg0, ?_, fun i hi => ?_⟩
        · have := hc0 0 h0
          rw [Nat.add_zero] at this
          rw [this]
          cases h with
          | nil => exact absurd rfl hne
          | cons x q => rfl
        · obtain ⟨u, hu, hw⟩ := hc (i + 1) (by simpa using hi)
          exact ⟨u, by rw [show o + 1 + i = o + (i + 1) by omega]; exact hu, hw⟩
      clear HL2
      have hzl := HZ.out.1
      rw [List.length_cons] at hzl
      by_cases hh1 : h.length = 1
      · obtain ⟨x, rfl⟩ : ∃ x, h = [x] := by
          match h, hh1 with
          | [x], _ => exact ⟨x, rfl⟩
        cases hx : ((Sc.ba x).toList == [112, 108, 97, 110])
        · have hxn : ((Sc.ba x).toList != [112, 108, 97, 110]) = true := by unfold bne; rw [hx]; rfl
          have HE : Hid (parO t = (44, [])) := parO_head hR (fun e => by
            have e1 : x = bsP := by simpa using e
            rw [e1, toList_data, Sc.ba_list] at hx
            cases hx)
          generalize parO t = po at *
          clear hR
          go_enter Tryz.func81, Tryz.ntmps81
          go_wp2_with (go_at_call 113; refine HL3.out.mono ?_; intro e w1 hq; obtain ⟨g, o, n, cap, g0, o0, n0, cap0, rfl, hn, hcap, hb1, c1, hn0, hg, hg0, c2, _⟩ := hq; have HB1 := hide3 hb1; clear hb1; obtain rfl : n0 = 1 := hn0; have hn1 : ((n : Int) == 0) = false := beq_eq_false_iff_ne.2 (by omega); have hn2 : 0 < n := (by omega); simp only [List.head?_cons, Option.map_some] at c2; clear hn)
          go_ret2
          exact ParQ.no _ _ _ _ HE.out HB1.out
        · have hxn : ((Sc.ba x).toList != [112, 108, 97, 110]) = false := by unfold bne; rw [hx]; rfl
          obtain rfl : x = bsP := by
            have := beq_iff_eq.1 hx
            rw [toList_data, Sc.ba_list] at this
            exact this
          have HEN := hide3 (parO_none hR)
          have HEP := hide3 (fun l => parO_plan (l := l) hR)
          have HEX := hide3 (fun l => parO_not (l := l) hR)
          have HZR : Hid (∀ ws ∈ r, ws ≠ [] ∧ ws.length ≤ t.size ∧ ∀ x ∈ ws, x.length ≤ t.size) := fun ws hw => HZ.out.2 ws (List.mem_cons_of_mem _ hw)
          clear HZ hR
          generalize parO t = po at *
          go_enter Tryz.func81, Tryz.ntmps81
          go_wp2_with (go_at_call 113; refine HL3.out.mono ?_; intro e w1 hq; obtain ⟨g, o, n, cap, g0, o0, n0, cap0, rfl, hn, hcap, hb1, c1, hn0, hg, hg0, c2, hcs⟩ := hq; have HB1 := hide3 hb1; clear hb1; obtain rfl : n0 = 1 := hn0; have hn1 : ((n : Int) == 0) = false := beq_eq_false_iff_ne.2 (by omega); have hn2 : 0 < n := (by omega); simp only [List.head?_cons, Option.map_some] at c2; have HCS := hide3 hcs; have HN := hide3 hn; clear hcs hn)
          all_goals rw [show n - 1 = r.length by have := HN.out; omega]
          · have HCR : Hid (∀ i (hi : i < r.length), ∃ u, w1.cell? ⟨g, o + i, none⟩ = some u ∧ Sc.WordsAt w1 u r[i]) := fun i hi => by have := HN.out; omega
            clear HCS HN HL3 c1 c2 hx hxn hh1 hcap hn1 hn2
            go_loopw [7, 45] (fun v7 i wr => ∃ (k : Nat) (ds : List De), k ≤ r.length ∧ i = .int .i64 k ∧ OwnDe wr w1.heap.size v7 ds ∧ readD (r.take k) = some ds ∧ Below w1.heap.size w1 wr) (fun _ i _ => r.length - (intOf i).toNat)
            case atStart => exact ⟨0, [], Nat.zero_le _, rfl, OwnDe.nil _ _, rfl, Below.refl _ _⟩
            case round =>
              obtain ⟨k, ds, hk, rfl, hod, hrd, hbr⟩ := hrel
              have HOD := hide3 hod
              have HRD := hide3 hrd
              have HBR := hide3 hbr
              have HBW : Hid (Below w.heap.size w wr) := HB1.out.trans (hbr.mono HB1.out.size)
              have HDL : Hid (ds.length = k) := by
                have := readD_len hrd
                rw [List.length_take] at this
                unfold Hid
                omega
              clear hod hrd hbr
              by_cases hlt : k < r.length
              · obtain ⟨u, hu, hwu⟩ := HCR.out k hlt
                have hu2 : wr.cell? ⟨g, o + k, none⟩ = some u := (HBR.out.cell (p := ⟨g, o + k, none⟩) hg).trans hu
                obtain ⟨z1, z2, z3⟩ := HZR.out r[k] (List.getElem_mem hlt)
                have HDO := hide3 (deedOf_any (hwu.below HBR.out) z1 (fun x hx => by have := z3 x hx; omega) (by omega))
                obtain ⟨adu, cpu, rfl, q1, q2⟩ := hwu
                have hki : (k : Int) < (r.length : Int) := by omega
                have hk0 : (0 : Int) ≤ (k : Int) := by omega
                have HRT : Hid (readD (r.take (k + 1)) = match deedW r[k] with
                  | none => none
                  | some d => some (ds ++ [d])) := by
                  unfold Hid
                  rw [List.take_succ_eq_append_getElem hlt, readD_snoc, HRD.out]
                  rfl
                have HRN : Hid (deedW r[k] = none → readD r = none) := fun h => readD_none (List.getElem_mem hlt) h
                clear hu z1 z2 z3 q1 q2
                generalize r[k].length = nu at *
                cases hd : deedW r[k] with
                | none =>
                  have HD2 := hide3 (deedOf_no HDO.out hd)
                  have HE := hide3 (HEN.out (HRN.out hd))
                  clear HDO HRT HRN HEN HEP HEX hd
                  go_wp2_with (go_at_call 114; refine HD2.out.mono ?_; intro e w2 hq; obtain ⟨kd, p, tt, rfl, hb2⟩ := hq; have HB2 : Hid (Below w.heap.size w (w2.alloc (.cells #[.int .i64 kd, .string p, .string tt] 54))) := (HBW.out.trans (hb2.mono HBW.out.size)).alloc (Nat.le_trans HBW.out.size hb2.size) _; clear hb2)
                  go_ret2
                  exact ParQ.no _ _ _ _ HE.out HB2.out
                | some d =>
                  have HD2 := hide3 (deedOf_yes HDO.out hd)
                  rw [hd] at HRT
                  simp only at HRT
                  obtain ⟨ad7, c7, rfl, hc7⟩ := HOD.out.sl
                  clear HDO HRN HEN HEP HEX hd
                  go_wp2_with (first
                    | (go_at_call 114; refine HD2.out.mono ?_; rintro e w2 ⟨rfl, hb2⟩; have HB2 : Hid (Below wr.heap.size wr (w2.alloc (.cells #[.int .i64 d.kd, .string d.pa, .string d.da] 54))) := hb2.alloc hb2.size _; have HO2 := hide3 (HOD.out.below HB2.out); clear hb2)
                    | (at_builtin; refine wp_deL (B := w1.heap.size) (wx := w2.alloc (.cells #[.int .i64 d.kd, .string d.pa, .string d.da] 54)) (v := .slice ad7 ds.length c7) (ds := ds) rfl (.tmp 56) (.tmp 58) rfl rfl HO2.out (Nat.le_trans HBR.out.size HB2.out.size) d (by simp) rfl (by have := HDL.out; omega) ?_; intro v3 w3 ho3 hg3; have HO3 := hide3 ho3; have HB3 : Hid (Below w1.heap.size w1 w3) := (HBR.out.trans (HB2.out.mono HBR.out.size)).grown hg3 (Nat.le_trans HBR.out.size HB2.out.size) (fun q hq => (HO2.out.lt hq).2); clear ho3 hg3))
                  exact ⟨⟨k + 1, _, by omega, by go_num, HO3.out, HRT.out, HB3.out⟩, by simp [intOf]; omega⟩
              · have hki : ¬ ((k : Int) < (r.length : Int)) := by omega
                have hrr : readD r = some ds := by have := HRD.out; rw [List.take_of_length_le (by omega)] at this; exact this
                obtain ⟨a7, c7, rfl, hdes⟩ := HOD.out.isDes
                have HPA : Hid (∀ d ∈ ds, d.pa.size ≤ maxLen) := fun d hd => by
                  have := readD_pa (N := t.size) (fun ws hw => (HZR.out ws hw).2.2) hrr d hd
                  unfold maxLen
                  omega
                have HCK := hide3 (Check_is ds a7 c7 m wr ((HBW.out.cell (p := ⟨0, 0, none⟩) (cell_lt HM.out)).trans HM.out) (by have := HDL.out; omega) hdes HPA.out)
                by_cases hp : Plan ds
                · rw [(prn_yes hp).2] at HCK
                  have HE := hide3 (HEP.out ds hrr hp)
                  clear HEN HEP HEX hrr hdes hp
                  go_wp2_with (go_at_call 64; refine HCK.out.mono ?_; rintro e w3 ⟨rfl, hb3⟩; have HO3 := hide3 (HOD.out.below hb3); have HB3 : Hid (Below w.heap.size w w3) := HBW.out.trans (hb3.mono HBW.out.size); clear hb3)
                  go_ret2
                  rw [HE.out]
                  exact ⟨_, rfl, HO3.out.base HB1.out.size, HB3.out⟩
                · rw [(prn_no hp).2] at HCK
                  have HE := hide3 (HEX.out ds hrr hp)
                  clear HEN HEP HEX hrr hdes hp
                  go_wp2_with (go_at_call 64; refine HCK.out.mono ?_; rintro e w3 ⟨rfl, hb3⟩; have HB3 : Hid (Below w.heap.size w w3) := HBW.out.trans (hb3.mono HBW.out.size); clear hb3)
                  go_ret2
                  exact ParQ.no _ _ _ _ HE.out HB3.out
          · have HCR : Hid (∀ i (hi : i < r.length), ∃ u, w1.cell? ⟨g, o + 1 + i, none⟩ = some u ∧ Sc.WordsAt w1 u r[i]) := HCS.out
            clear HCS HN HL3 c1 c2 hx hxn hh1 hcap hn1 hn2
            go_loopw [7, 45] (fun v7 i wr => ∃ (k : Nat) (ds : List De), k ≤ r.length ∧ i = .int .i64 k ∧ OwnDe wr w1.heap.size v7 ds ∧ readD (r.take k) = some ds ∧ Below w1.heap.size w1 wr) (fun _ i _ => r.length - (intOf i).toNat)
            case atStart => exact ⟨0, [], Nat.zero_le _, rfl, OwnDe.nil _ _, rfl, Below.refl _ _⟩
            case round =>
              obtain ⟨k, ds, hk, rfl, hod, hrd, hbr⟩ := hrel
              have HOD := hide3 hod
              have HRD := hide3 hrd
              have HBR := hide3 hbr
              have HBW : Hid (Below w.heap.size w wr) := HB1.out.trans (hbr.mono HB1.out.size)
              have HDL : Hid (ds.length = k) := by
                have := readD_len hrd
                rw [List.length_take] at this
                unfold Hid
                omega
              clear hod hrd hbr
              by_cases hlt : k < r.length
              · obtain ⟨u, hu, hwu⟩ := HCR.out k hlt
                have hu2 : wr.cell? ⟨g, o + 1 + k, none⟩ = some u := (HBR.out.cell (p := ⟨g, o + 1 + k, none⟩) hg).trans hu
                obtain ⟨z1, z2, z3⟩ := HZR.out r[k] (List.getElem_mem hlt)
                have HDO := hide3 (deedOf_any (hwu.below HBR.out) z1 (fun x hx => by have := z3 x hx; omega) (by omega))
                obtain ⟨adu, cpu, rfl, q1, q2⟩ := hwu
                have hki : (k : Int) < (r.length : Int) := by omega
                have hk0 : (0 : Int) ≤ (k : Int) := by omega
                have HRT : Hid (readD (r.take (k + 1)) = match deedW r[k] with
                  | none => none
                  | some d => some (ds ++ [d])) := by
                  unfold Hid
                  rw [List.take_succ_eq_append_getElem hlt, readD_snoc, HRD.out]
                  rfl
                have HRN : Hid (deedW r[k] = none → readD r = none) := fun h => readD_none (List.getElem_mem hlt) h
                clear hu z1 z2 z3 q1 q2
                generalize r[k].length = nu at *
                cases hd : deedW r[k] with
                | none =>
                  have HD2 := hide3 (deedOf_no HDO.out hd)
                  have HE := hide3 (HEN.out (HRN.out hd))
                  clear HDO HRT HRN HEN HEP HEX hd
                  go_wp2_with (go_at_call 114; refine HD2.out.mono ?_; intro e w2 hq; obtain ⟨kd, p, tt, rfl, hb2⟩ := hq; have HB2 : Hid (Below w.heap.size w (w2.alloc (.cells #[.int .i64 kd, .string p, .string tt] 54))) := (HBW.out.trans (hb2.mono HBW.out.size)).alloc (Nat.le_trans HBW.out.size hb2.size) _; clear hb2)
                  go_ret2
                  exact ParQ.no _ _ _ _ HE.out HB2.out
                | some d =>
                  have HD2 := hide3 (deedOf_yes HDO.out hd)
                  rw [hd] at HRT
                  simp only at HRT
                  obtain ⟨ad7, c7, rfl, hc7⟩ := HOD.out.sl
                  clear HDO HRN HEN HEP HEX hd
                  go_wp2_with (first
                    | (go_at_call 114; refine HD2.out.mono ?_; rintro e w2 ⟨rfl, hb2⟩; have HB2 : Hid (Below wr.heap.size wr (w2.alloc (.cells #[.int .i64 d.kd, .string d.pa, .string d.da] 54))) := hb2.alloc hb2.size _; have HO2 := hide3 (HOD.out.below HB2.out); clear hb2)
                    | (at_builtin; refine wp_deL (B := w1.heap.size) (wx := w2.alloc (.cells #[.int .i64 d.kd, .string d.pa, .string d.da] 54)) (v := .slice ad7 ds.length c7) (ds := ds) rfl (.tmp 56) (.tmp 58) rfl rfl HO2.out (Nat.le_trans HBR.out.size HB2.out.size) d (by simp) rfl (by have := HDL.out; omega) ?_; intro v3 w3 ho3 hg3; have HO3 := hide3 ho3; have HB3 : Hid (Below w1.heap.size w1 w3) := (HBR.out.trans (HB2.out.mono HBR.out.size)).grown hg3 (Nat.le_trans HBR.out.size HB2.out.size) (fun q hq => (HO2.out.lt hq).2); clear ho3 hg3))
                  exact ⟨⟨k + 1, _, by omega, by go_num, HO3.out, HRT.out, HB3.out⟩, by simp [intOf]; omega⟩
              · have hki : ¬ ((k : Int) < (r.length : Int)) := by omega
                have hrr : readD r = some ds := by have := HRD.out; rw [List.take_of_length_le (by omega)] at this; exact this
                obtain ⟨a7, c7, rfl, hdes⟩ := HOD.out.isDes
                have HPA : Hid (∀ d ∈ ds, d.pa.size ≤ maxLen) := fun d hd => by
                  have := readD_pa (N := t.size) (fun ws hw => (HZR.out ws hw).2.2) hrr d hd
                  unfold maxLen
                  omega
                have HCK := hide3 (Check_is ds a7 c7 m wr ((HBW.out.cell (p := ⟨0, 0, none⟩) (cell_lt HM.out)).trans HM.out) (by have := HDL.out; omega) hdes HPA.out)
                by_cases hp : Plan ds
                · rw [(prn_yes hp).2] at HCK
                  have HE := hide3 (HEP.out ds hrr hp)
                  clear HEN HEP HEX hrr hdes hp
                  go_wp2_with (go_at_call 64; refine HCK.out.mono ?_; rintro e w3 ⟨rfl, hb3⟩; have HO3 := hide3 (HOD.out.below hb3); have HB3 : Hid (Below w.heap.size w w3) := HBW.out.trans (hb3.mono HBW.out.size); clear hb3)
                  go_ret2
                  rw [HE.out]
                  exact ⟨_, rfl, HO3.out.base HB1.out.size, HB3.out⟩
                · rw [(prn_no hp).2] at HCK
                  have HE := hide3 (HEX.out ds hrr hp)
                  clear HEN HEP HEX hrr hdes hp
                  go_wp2_with (go_at_call 64; refine HCK.out.mono ?_; rintro e w3 ⟨rfl, hb3⟩; have HB3 : Hid (Below w.heap.size w w3) := HBW.out.trans (hb3.mono HBW.out.size); clear hb3)
                  go_ret2
                  exact ParQ.no _ _ _ _ HE.out HB3.out
      · have HE : Hid (parO t = (44, [])) := parO_head hR (fun e => hh1 (by have e1 : h = [bsP] := by simpa using e
                                                                            rw [e1]; rfl))
        generalize parO t = po at *
        clear hR
        have HH1 := hide3 hh1
        clear hh1
        go_enter Tryz.func81, Tryz.ntmps81
        go_wp2_with (go_at_call 113; refine HL3.out.mono ?_; intro e w1 hq; obtain ⟨g, o, n, cap, g0, o0, n0, cap0, rfl, hn, hcap, hb1, c1, hn0, hg, hg0, c2, _⟩ := hq; have HB1 := hide3 hb1; clear hb1; have hn1 : ((n : Int) == 0) = false := beq_eq_false_iff_ne.2 (by omega); have hn2 : 0 < n := (by omega); have hn3 : ((n0 : Int) != 1) = true := bne_iff_ne.2 (by have := HH1.out; omega); clear hn hn0 c2)
        go_ret2
        exact ParQ.no _ _ _ _ HE.out HB1.out
end Go.Proofs.YtpaoimhebheaeaaGreatDoor
namespace Go.Proofs.YtpaoimhebheaeaaGreatDoor
open Go.RowKit Go.Maps Go.WideMaps Go.WideElems Dk
set_option maxRecDepth 100000

theorem hexT_size (s : ByteArray) : s.size ≤ (hexT s).size := by
  cases h : (s.toList == [])
  · have h1 := hexL_len s.data.toList
    rw [← hexT_ne h] at h1
    have h2 : (hexT s).data.toList.length = (hexT s).size := rfl
    have h3 : s.data.toList.length = s.size := rfl
    omega
  · rw [toList_nil h]; exact Nat.zero_le _
/-- A plan is no greater than its text. -/
theorem Plan.sizes {l : List De} (h : Plan l) : l.length ≤ (textD l).size ∧ ∀ d ∈ l, d.pa.size ≤ (textD l).size ∧ d.da.size ≤ (textD l).size := by
  have e : (textD l).size = (Sc.textT (linesP l)).length := by rw [← textD_list]; rfl
  obtain ⟨h1, h2⟩ := Sc.textT_len (linesP l)
  rw [← e] at h1 h2
  have h3 : (linesP l).length = l.length + 1 := by unfold linesP; simp
  refine ⟨by omega, fun d hd => ?_⟩
  have hm : lineW d ∈ linesP l := List.mem_cons_of_mem _ (List.mem_map.2 ⟨d, hd, rfl⟩)
  obtain ⟨_, _, h4⟩ := Sc.lineT_len (lineW d)
  have h5 := h2 _ hm
  refine ⟨Nat.le_trans (h4 d.pa.data.toList (by unfold lineW; simp)) h5, ?_⟩
  by_cases hk : d.kd = 4
  · have h6 := h4 (hexT d.da).data.toList (by unfold lineW; simp [hk])
    have h7 := hexT_size d.da
    have h8 : (hexT d.da).data.toList.length = (hexT d.da).size := rfl
    omega
  · rcases (h.parts d hd).2.2.1 with q | q
    · exact absurd q hk
    · rw [toList_nil q]; exact Nat.zero_le _

end Go.Proofs.YtpaoimhebheaeaaGreatDoor
namespace Go.Proofs.YtpaoimhebheaeaaGreatDoor
open Go.ChangeShapes Go.WideShapes Go.ChangeAt Go.RowKit Go.ChangeMaps Dk
set_option maxRecDepth 100000

theorem own : ownKnob Tryz.prog.godebug = none := by kernel_rfl
theorem laidOut : laidOutB Tryz.prog = true := by kernel_rfl
theorem bulk_mem {H : Type} : ∀ {l : List (DataW H)} {d : DataW H}, d ∈ l → Rows.uptoBulk d ≤ Rows.uptoBulkAll l
  | [], d, h => by cases h
  | e :: l, d, h => by
    simp only [Rows.uptoBulkAll]
    rcases List.mem_cons.1 h with rfl | h
    · omega
    · have := bulk_mem h
      omega
theorem bulk_part {H : Type} {parts : List (DataW H)} {i : Nat} {d : DataW H} (h : parts[i]? = some d) : Rows.uptoBulk d ≤ Rows.uptoBulk (.agg parts) := by
  have := bulk_mem (List.mem_of_getElem? h)
  simp only [Rows.uptoBulk]
  omega
theorem bulk_elem {H : Type} {el sp : List (DataW H)} {d : DataW H} (h : d ∈ el) : Rows.uptoBulk d ≤ Rows.uptoBulk (.slice el sp) := by
  have := bulk_mem h
  simp only [Rows.uptoBulk]
  omega

end Go.Proofs.YtpaoimhebheaeaaGreatDoor
namespace Go.Proofs.YtpaoimhebheaeaaGreatDoor
open Go.ChangeShapes Go.WideShapes Go.ChangeAt Go.RowKit Go.ChangeMaps Dk
set_option maxRecDepth 100000

theorem list_sizeP (s : ByteArray) : s.data.toList.length = s.size := rfl
/-- A bound on a plan's text. -/
def sumL (l : List De) : Nat := (l.map fun d => 8 + d.pa.size + 2 * d.da.size).sum
theorem hexT_le (s : ByteArray) : (hexT s).size ≤ 1 + 2 * s.size := by
  cases h : (s.toList == [])
  · have h1 := hexL_len s.data.toList
    rw [← hexT_ne h] at h1
    have h2 : (hexT s).data.toList.length = (hexT s).size := rfl
    have h3 : s.data.toList.length = s.size := rfl
    omega
  · have h1 : (hexT s).data.toList.length = 1 := by rw [hexT_nil h]; rfl
    have h2 : (hexT s).data.toList.length = (hexT s).size := rfl
    omega
theorem word_le (k : Int) : (wordP k).size ≤ 6 ∧ (k = 4 → (wordP k).size = 3) := by
  refine ⟨?_, fun h => by rw [h]; decide⟩
  unfold wordP
  split
  · decide
  · split
    · decide
    · split <;> decide
theorem lineD_size (d : De) (acc : ByteArray) : (lineD d acc).size ≤ acc.size + (8 + d.pa.size + 2 * d.da.size) := by
  have h1 := word_le d.kd
  have h2 := hexT_le d.da
  have s1 : sp1.size = 1 := by decide
  have s2 : nl1.size = 1 := by decide
  unfold lineD
  by_cases h4 : d.kd = 4
  · rw [if_pos (by rw [h4]; rfl)]
    have := h1.2 h4
    simp only [by_app]
    omega
  · rw [if_neg (by simpa using h4)]
    simp only [by_app]
    omega
theorem text_le (l : List De) : (textD l).size ≤ 5 + sumL l := by
  have hf : ∀ (l : List De) (acc : ByteArray), (l.foldl (fun acc d => lineD d acc) acc).size ≤ acc.size + sumL l := by
    intro l
    induction l with
    | nil => intro acc; simp [sumL]
    | cons d l ih =>
      intro acc
      rw [List.foldl_cons]
      have h1 := ih (lineD d acc)
      have h2 := lineD_size d acc
      unfold sumL at h1 ⊢
      rw [List.map_cons, List.sum_cons]
      omega
  unfold textD
  have := hf l ⟨#[112, 108, 97, 110, 10]⟩
  have h5 : (⟨#[112, 108, 97, 110, 10]⟩ : ByteArray).size = 5 := by decide
  omega
theorem sum_mem {l : List De} {d : De} (h : d ∈ l) : 8 + d.pa.size + 2 * d.da.size ≤ sumL l := by
  induction l with
  | nil => cases h
  | cons x l ih =>
    unfold sumL at ih ⊢
    rw [List.map_cons, List.sum_cons]
    rcases List.mem_cons.1 h with rfl | h
    · omega
    · have := ih h
      omega
theorem sum_len (l : List De) : 8 * l.length ≤ sumL l := by
  induction l with
  | nil => exact Nat.zero_le _
  | cons x l ih =>
    unfold sumL at ih ⊢
    rw [List.map_cons, List.sum_cons, List.length_cons]
    omega

theorem bulk_app {H : Type} : ∀ (l m : List (DataW H)), Rows.uptoBulkAll (l ++ m) = Rows.uptoBulkAll l + Rows.uptoBulkAll m
  | [], m => by simp [Rows.uptoBulkAll]
  | x :: l, m => by rw [List.cons_append]; simp only [Rows.uptoBulkAll]; rw [bulk_app l m]; omega
theorem sum_bulk {H : Type} (D : Nat → DataW H) : ∀ (n : Nat) (l : List De), l.length = n → (∀ i (hi : i < l.length), 8 + l[i].pa.size + 2 * l[i].da.size ≤ 2 * Rows.uptoBulk (D i)) → sumL l ≤ 2 * Rows.uptoBulkAll ((List.range n).map D)
  | 0, l, hl, _ => by rw [List.eq_nil_of_length_eq_zero hl]; exact Nat.zero_le _
  | n + 1, l, hl, h => by
    have hne : l ≠ [] := fun e => by rw [e] at hl; cases hl
    obtain ⟨q, x, rfl⟩ : ∃ q x, l = q ++ [x] := ⟨l.dropLast, l.getLast hne, (List.dropLast_concat_getLast hne).symm⟩
    have hq : q.length = n := by simpa using hl
    have h1 := sum_bulk D n q hq fun i hi => by
      have := h i (by simp; omega)
      rwa [List.getElem_append_left hi] at this
    have h2 := h n (by simp; omega)
    rw [List.getElem_append_right (by omega)] at h2
    simp only [hq, Nat.sub_self, List.getElem_cons_zero] at h2
    rw [List.range_succ, List.map_append, bulk_app]
    have h3 : Rows.uptoBulkAll ([n].map D) = Rows.uptoBulk (D n) := by simp [Rows.uptoBulkAll]
    have h4 : sumL (q ++ [x]) = sumL q + (8 + x.pa.size + 2 * x.da.size) := by unfold sumL; simp
    omega

theorem cellsIntP : Tryz.prog.cellsOf 3 = 1 := by kernel_rfl
theorem cellsStringP : Tryz.prog.cellsOf 9 = 1 := by kernel_rfl
theorem cellsDe : Tryz.prog.cellsOf 54 = 3 := by kernel_rfl
theorem bulk_three {H : Type} (a b c : DataW H) : Rows.uptoBulk (.agg [a, b, c]) = Rows.uptoBulk a + (Rows.uptoBulk b + (Rows.uptoBulk c + 0)) + 1 := by simp [Rows.uptoBulk, Rows.uptoBulkAll]
theorem bulk_xs {H : Type} (xs : List (DataW H × List MemPlace)) (h : xs.length = 3) : Rows.uptoBulk (.agg (xs.map (·.1))) = Rows.uptoBulk (xs[0]'(by omega)).1 + (Rows.uptoBulk (xs[1]'(by omega)).1 + (Rows.uptoBulk (xs[2]'(by omega)).1 + 0)) + 1 := by
  match xs, h with
  | [u, v, w], _ => exact bulk_three _ _ _

end Go.Proofs.YtpaoimhebheaeaaGreatDoor
namespace Go.Proofs.YtpaoimhebheaeaaGreatDoor
open Go.RowKit Go.Maps Go.WideMaps Go.WideElems Dk
set_option maxRecDepth 100000

/-- The deed of a line, leniently. -/
def lenD (ws : List Sc.Bs) : De := ⟨kindW (ws.getD 0 []), Sc.ba (ws.getD 1 []), if kindW (ws.getD 0 []) = 4 ∧ 2 < ws.length then Sc.ba (dataL (ws.getD 2 [])) else ⟨#[]⟩⟩
theorem lenD_line {d : De} (h1 : 1 ≤ d.kd) (h4 : d.kd ≤ 4) (hd : d.kd = 4 ∨ (d.da.toList == []) = true) : lenD (lineW d) = d := by
  obtain ⟨k, p, t⟩ := d
  simp only at h1 h4 hd
  have hk := kindW_word h1 h4
  by_cases h : k = 4
  · have e : lineW ⟨k, p, t⟩ = [(wordP k).data.toList, p.data.toList, (hexT t).data.toList] := by unfold lineW; simp [h]
    rw [e]
    unfold lenD
    simp only [List.getD_cons_zero, List.getD_cons_succ, List.length_cons, List.length_nil]
    rw [hk, if_pos ⟨h, by omega⟩, Sc.ba_of]
    congr 1
    cases ht : (t.toList == [])
    · rw [hexT_ne ht, dataL_hex, Sc.ba_of]
    · rw [hexT_nil ht, toList_nil ht]; rfl
  · have e : lineW ⟨k, p, t⟩ = [(wordP k).data.toList, p.data.toList] := by unfold lineW; simp [h]
    rw [e]
    unfold lenD
    simp only [List.getD_cons_zero, List.getD_cons_succ, List.length_cons, List.length_nil]
    rw [hk, if_neg (fun q => h q.1), Sc.ba_of, toList_nil (hd.resolve_left h)]
open Classical in
/-- What the document's Parse answers. -/
noncomputable def rpO (t : ByteArray) : Int × List De := match Sc.scanR t.data.toList [] [] [] with
  | .error _ => (22, [])
  | .ok L => if (L.drop 1).all (fun ws => decide (2 ≤ ws.length)) = true ∧ Plan ((L.drop 1).map lenD) ∧ textD ((L.drop 1).map lenD) = t then (0, (L.drop 1).map lenD) else (44, [])
open Classical in
theorem rpO_is (t : ByteArray) : rpO t = parO t := by
  cases hs : Sc.scanR t.data.toList [] [] [] with
  | error n => rw [parO_err hs]; unfold rpO; rw [hs]
  | ok L =>
    have hr : rpO t = if (L.drop 1).all (fun ws => decide (2 ≤ ws.length)) = true ∧ Plan ((L.drop 1).map lenD) ∧ textD ((L.drop 1).map lenD) = t then (0, (L.drop 1).map lenD) else (44, []) := by unfold rpO; rw [hs]
    have h22 : parO t ≠ (22, []) := by
      unfold parO
      rw [hs]
      simp only
      cases readL L with
      | none => simp
      | some m =>
        simp only
        split <;> simp
    rcases parO_cases t with ⟨l, hp⟩ | hp | hp
    · obtain ⟨hpl, htx⟩ := parO_ok hp
      have hL : L = linesP l := by
        rw [← htx, textD_list, Sc.scan_text _ _ hpl.lines, List.nil_append] at hs
        exact (Except.ok.inj hs).symm
      have hd : L.drop 1 = l.map lineW := by rw [hL]; rfl
      have hm : (L.drop 1).map lenD = l := by
        rw [hd, List.map_map]
        have : ∀ d ∈ l, (lenD ∘ lineW) d = d := fun d hx => lenD_line (hpl.parts d hx).1 (hpl.parts d hx).2.1 (hpl.parts d hx).2.2.1
        conv => rhs; rw [← List.map_id l]
        exact List.map_congr_left this
      have ha : (L.drop 1).all (fun ws => decide (2 ≤ ws.length)) = true := by
        rw [hd, List.all_map, List.all_eq_true]
        intro d _
        show decide (2 ≤ (lineW d).length) = true
        unfold lineW
        simp
      rw [hr, hm, if_pos ⟨ha, hpl, htx⟩, hp]
    · exact absurd hp h22
    · rw [hr, hp]
      refine if_neg fun q => ?_
      have := parO_text q.2.1
      rw [q.2.2, hp] at this
      cases this
theorem rp_err {t : ByteArray} {n : Nat} (h : Sc.scanR t.data.toList [] [] [] = .error n) : parO t = (22, []) := parO_err h
theorem rp_ok {t : ByteArray} {L : List (List Sc.Bs)} (h : Sc.scanR t.data.toList [] [] [] = .ok L) (ha : ∀ ws ∈ L.drop 1, 2 ≤ ws.length) (hp : Plan ((L.drop 1).map lenD)) (ht : textD ((L.drop 1).map lenD) = t) : parO t = (0, (L.drop 1).map lenD) := by
  rw [← rpO_is]
  unfold rpO
  rw [h]
  exact if_pos ⟨List.all_eq_true.2 fun ws hw => decide_eq_true (ha ws hw), hp, ht⟩
theorem rp_no {t : ByteArray} {L : List (List Sc.Bs)} (h : Sc.scanR t.data.toList [] [] [] = .ok L) (hn : (∃ ws ∈ L.drop 1, ws.length < 2) ∨ ¬ Plan ((L.drop 1).map lenD) ∨ textD ((L.drop 1).map lenD) ≠ t) : parO t = (44, []) := by
  rw [← rpO_is]
  unfold rpO
  rw [h]
  refine if_neg fun q => ?_
  rcases hn with ⟨ws, hw, h2⟩ | hn | hn
  · have := of_decide_eq_true (List.all_eq_true.1 q.1 ws hw)
    omega
  · exact hn q.2.1
  · exact hn q.2.2
theorem sum_le {l : List De} {M : Nat} (h : ∀ d ∈ l, 8 + d.pa.size + 2 * d.da.size ≤ M) : sumL l ≤ l.length * M := by
  induction l with
  | nil => exact Nat.zero_le _
  | cons x l ih =>
    have h1 := h x List.mem_cons_self
    have h2 := ih fun d hd => h d (List.mem_cons_of_mem _ hd)
    unfold sumL at h2 ⊢
    rw [List.map_cons, List.sum_cons, List.length_cons, Nat.add_mul]
    omega
theorem dataL_le : ∀ l : Sc.Bs, (dataL l).length ≤ l.length
  | [] => Nat.le_refl _
  | [_] => by simp [dataL]
  | a :: b :: r => by
    have := dataL_le r
    simp only [dataL, List.length_cons]
    omega
theorem lenD_size {ws : List Sc.Bs} {N : Nat} (h : ∀ x ∈ ws, x.length ≤ N) : (lenD ws).pa.size ≤ N ∧ (lenD ws).da.size ≤ N := by
  have hg : ∀ i, (ws.getD i []).length ≤ N := fun i => by
    rw [List.getD_eq_getElem?_getD]
    cases hx : ws[i]? with
    | none => exact Nat.zero_le _
    | some x => exact h x (List.mem_of_getElem? hx)
  unfold lenD
  simp only
  refine ⟨by rw [Sc.ba_size]; exact hg 1, ?_⟩
  split
  · rw [Sc.ba_size]
    exact Nat.le_trans (dataL_le _) (hg 2)
  · exact Nat.zero_le _

/-- The kind that is found among the words ahead of the k-th. -/
def kindU (w : Sc.Bs) (k : Nat) : Int := if kindW w < (k : Int) then kindW w else 0
theorem kindU_one (w : Sc.Bs) : kindU w 1 = 0 := by
  unfold kindU
  by_cases h : kindW w = 0
  · rw [h]; rfl
  · have := (word_kind h).2.1
    rw [if_neg (by omega)]
theorem kindU_five (w : Sc.Bs) : kindU w 5 = kindW w := by
  unfold kindU
  by_cases h : kindW w = 0
  · rw [h]; rfl
  · have := (word_kind h).2.2
    rw [if_pos (by omega)]
theorem kindU_hit {w : Sc.Bs} {k : Nat} (h1 : 1 ≤ k) (h4 : k ≤ 4) (h : ((wordP k).toList == (Sc.ba w).toList) = true) : kindU w (k + 1) = k := by
  have := word_eq h1 h4 h
  rw [Sc.ba_list] at this
  unfold kindU
  rw [this, if_pos (by omega)]
theorem kindU_miss {w : Sc.Bs} {k : Nat} (h : ((wordP k).toList == (Sc.ba w).toList) = false) : kindU w (k + 1) = kindU w k := by
  unfold kindU
  by_cases e : kindW w = k
  · by_cases h0 : kindW w = 0
    · rw [h0]; split <;> split <;> rfl
    · have := (word_kind h0).1
      rw [e] at this
      rw [toList_data, toList_data, Sc.ba_list, ← this] at h
      simp at h
  · by_cases h2 : kindW w < (k : Int)
    · rw [if_pos h2, if_pos (by omega)]
    · rw [if_neg h2, if_neg (by omega)]
/-- A deed's box. -/
def BxO (w : World) (N : Nat) (k : Int) (p t : ByteArray) : Prop := w.heap[N]? = some (.cells #[.int .i64 k, .string p, .string t] 54 (0, 0))
theorem BxO.facts {w : World} {N : Nat} {k : Int} {p t : ByteArray} (h : BxO w N k p t) : (w.cell? ⟨N, 0, none⟩ = some (.int .i64 k) ∧ w.cell? ⟨N, 1, none⟩ = some (.string p) ∧ w.cell? ⟨N, 2, none⟩ = some (.string t)) ∧ w.frozen? ⟨N, 0, none⟩ = false ∧ w.frozen? ⟨N, 2, none⟩ = false ∧ N < w.heap.size := by
  refine ⟨⟨?_, ?_, ?_⟩, Lib.frozen_of_heap h 0, Lib.frozen_of_heap h 2, (Array.getElem?_eq_some_iff.1 h).1⟩
  · rw [Lib.cell_of_heap h]; rfl
  · rw [Lib.cell_of_heap h]; rfl
  · rw [Lib.cell_of_heap h]; rfl
theorem BxO.below {w w' : World} {N : Nat} {k : Int} {p t : ByteArray} (h : BxO w N k p t) (hb : Below w.heap.size w w') : BxO w' N k p t := (hb.block N (Array.getElem?_eq_some_iff.1 h).1).trans h
theorem BxO.new (w : World) (k : Int) (p t : ByteArray) : BxO (w.alloc (.cells #[.int .i64 k, .string p, .string t] 54)) w.heap.size k p t := by
  show (w.heap.push _)[w.heap.size]? = _
  rw [Array.getElem?_push, if_pos rfl]
theorem BxO.set0 {w : World} {N : Nat} {k : Int} {p t : ByteArray} (h : BxO w N k p t) (k' : Int) : BxO (w.setCell ⟨N, 0, none⟩ (.int .i64 k')) N k' p t := by
  unfold BxO at h ⊢
  unfold World.setCell
  simp only
  rw [Array.getElem?_modify, if_pos rfl, h]
  rfl
theorem BxO.set2 {w : World} {N : Nat} {k : Int} {p t : ByteArray} (h : BxO w N k p t) (t' : ByteArray) : BxO (w.setCell ⟨N, 2, none⟩ (.string t')) N k p t' := by
  unfold BxO at h ⊢
  unfold World.setCell
  simp only
  rw [Array.getElem?_modify, if_pos rfl, h]
  rfl

theorem rCheck17 (l : List De) (a : Option Addr) (cap : Nat) (w : World) (hlen : l.length ≤ 8388608) (hc : IsDes w a l) (hz : ∀ d ∈ l, d.pa.size ≤ maxLen) :
    Calls Tryz.prog 73 #[.slice a l.length cap] w fun e w' => e = .returned (.int .i64 (prnE l)) ∧ Below w.heap.size w w' := by
  refine (pCheck_any l a cap w hlen hc hz).mono ?_
  rintro e w' ⟨⟨r, rfl, h | h⟩, hb⟩
  · exact ⟨by rw [(prn_yes h.1).2, h.2], hb⟩
  · exact ⟨by rw [(prn_no h.1).2, h.2], hb⟩
theorem rPrint17 (l : List De) (a : Option Addr) (cap : Nat) (w : World) (hlen : l.length ≤ 8388608) (hc : IsDes w a l) (hz : ∀ d ∈ l, d.pa.size ≤ maxLen ∧ d.da.size ≤ 100000000) (hsz : (textD l).size ≤ 9223372036854775807) :
    Calls Tryz.prog 34 #[.slice a l.length cap] w fun e w' => e = .returned (.tuple #[.string (prnT l), .int .i64 (prnE l)]) ∧ Below w.heap.size w w' := by
  refine (pPrint_any17 l a cap w hlen hc hz hsz).mono ?_
  rintro e w' ⟨⟨h, rfl⟩ | ⟨h, rfl⟩, hb⟩
  · rw [(prn_yes h).1, (prn_yes h).2]; exact ⟨rfl, hb⟩
  · rw [(prn_no h).1, (prn_no h).2]; exact ⟨rfl, hb⟩

end Go.Proofs.YtpaoimhebheaeaaGreatDoor
