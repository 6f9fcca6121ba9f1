/- The document's Join. -/
import Derived.Test.YtiahoaneinojgaaDoorJo2
import Derived.Test.YtiahoaneinojgaaDoorRf1
namespace Go.Proofs.YtiahoaneinojgaaDoor.Sc
open Go.RowKit
set_option maxRecDepth 100000

theorem join_more {l : List Bs} (h : l ≠ []) (x : Bs) : Lib.join (l ++ [x]) [32] = Lib.join l [32] ++ [32] ++ x := by
  induction l with
  | nil => exact absurd rfl h
  | cons y l ih =>
    cases l with
    | nil => simp [Lib.join, List.intercalate]
    | cons z r =>
      have e1 : Lib.join (y :: z :: r ++ [x]) [32] = y ++ [32] ++ Lib.join (z :: r ++ [x]) [32] := by simp [Lib.join, List.intercalate]
      have e2 : Lib.join (y :: z :: r) [32] = y ++ [32] ++ Lib.join (z :: r) [32] := by simp [Lib.join, List.intercalate]
      rw [e1, e2, ih (by simp)]
      simp
theorem join_take {ws : List Bs} {m : Nat} (h : m < ws.length) : Lib.join (ws.take (m + 1)) [32] = if m = 0 then ws[m] else Lib.join (ws.take m) [32] ++ [32] ++ ws[m] := by
  rw [List.take_succ_eq_append_getElem h]
  split
  · rename_i h0
    subst h0
    simp [Lib.join_one]
  · rename_i h0
    refine join_more (fun e => ?_) _
    have := congrArg List.length e
    rw [List.length_take, List.length_nil] at this
    omega
theorem join_len {ws : List Bs} : ∀ m, m ≤ ws.length → (Lib.join (ws.take m) [32]).length ≤ (Lib.join ws [32]).length := by
  have step : ∀ m, m < ws.length → (Lib.join (ws.take m) [32]).length ≤ (Lib.join (ws.take (m + 1)) [32]).length := by
    intro m hm
    rw [join_take hm]
    split
    · rename_i h0
      subst h0
      simp [Lib.join_nil]
    · simp only [List.length_append]; omega
  have key : ∀ d m, m + d = ws.length → (Lib.join (ws.take m) [32]).length ≤ (Lib.join ws [32]).length := by
    intro d
    induction d with
    | zero => intro m hm; rw [List.take_of_length_le (by omega)]; exact Nat.le_refl _
    | succ d ih => intro m hm; exact Nat.le_trans (step m (by omega)) (ih (m + 1) (by omega))
  exact fun m hm => key (ws.length - m) m (by omega)
theorem ba_cat (a b : Bs) : ba a ++ ba b = ba (a ++ b) := by
  rw [← ba_of (ba a ++ ba b)]
  congr 1

set_option maxHeartbeats 6400000 in
theorem rJoin_any {L : List (List Bs)} (hT : (textT L).length ≤ 4194304) {v : Value} {w : World} (hv : LinesAt w v L) :
    Calls Tryd.prog 13 #[v] w fun e w' => e = .returned (.tuple #[.string (joiT L), .int .i64 (joiE L)]) ∧ Below w.heap.size w w' := by
  have hLl := (textT_len L).1
  have HV := hide3 hv
  obtain ⟨ad, cap, rfl, hcap, _⟩ := hv
  go_enter Tryd.func13, Tryd.ntmps13
  go_wp2
  go_loopw [4, 5] (fun out i wr => ∃ k : Nat, k ≤ L.length ∧ i = .int .i64 k ∧ out = .string (ba (textT (L.take k))) ∧ (L.take k).all isL = true ∧ Below w.heap.size w wr) (fun _ i _ => L.length - (intOf i).toNat)
  case atStart => exact ⟨0, Nat.zero_le _, rfl, rfl, rfl, Below.refl _ _⟩
  case round =>
    obtain ⟨k, hk, rfl, rfl, hal, hbe⟩ := hrel
    have HA := hide3 hal
    have HE := hide3 hbe
    clear hal hbe
    by_cases hlt : k < L.length
    · obtain ⟨g, o, had, HG⟩ : ∃ g o, ad = some ⟨g, o, none⟩ ∧ Hid (g < w.heap.size) := by
        obtain ⟨ad', cap', hq, _, hl⟩ := HV.out
        cases hq
        rcases hl with rfl | ⟨g, o, h1, h2, h3⟩
        · simp at hlt
        · exact ⟨g, o, h1, h2⟩
      subst had
      obtain ⟨u, HCU⟩ : ∃ u, Hid (w.cell? ⟨g, o + k, none⟩ = some u ∧ WordsAt w u L[k]) := by
        obtain ⟨ad', cap', hq, _, hl⟩ := HV.out
        cases hq
        rcases hl with rfl | ⟨g', o', h1, h2, h3⟩
        · simp at hlt
        · cases h1
          obtain ⟨u, h4, h5⟩ := h3 k hlt
          exact ⟨u, h4, h5⟩
      have HCA : Hid (∀ w1, Below w.heap.size w w1 → w1.cell? ⟨g, o + k, none⟩ = some u) := fun w1 hb => (hb.cell (p := ⟨g, o + k, none⟩) HG.out).trans HCU.out.1
      obtain ⟨bd, cap2, rfl, hcap2, hwl⟩ := HCU.out.2
      have HWL := hide3 hwl
      clear hwl
      have hll := lineT_len L[k]
      have hlm := (textT_len L).2 _ (List.getElem_mem hlt)
      have HMORE := hide3 (textT_more hlt)
      have hml := textT_take L (k + 1)
      have HTK : Hid (L.take (k + 1) = L.take k ++ [L[k]]) := List.take_succ_eq_append_getElem hlt
      have HMEM : Hid (L[k] ∈ L) := List.getElem_mem hlt
      have hcA := HCA.out wr HE.out
      have hmlen : (textT (L.take k)).length + (lineT L[k]).length ≤ 4194304 := by rw [HMORE.out, List.length_append] at hml; omega
      generalize L[k] = ws at *
      by_cases h0 : ws.length = 0
      · have hws : ws = [] := List.eq_nil_of_length_eq_zero h0
        have HR := hide3 (joi_no HMEM.out (by rw [hws]; rfl))
        clear hll hlm hml hmlen hws
        go_wp2
        go_ret2
        exact ⟨ret_join HR.out.1.symm HR.out.2.symm, HE.out⟩
      · have hne : ws ≠ [] := fun e => h0 (by rw [e]; rfl)
        have hjl := join_line hne
        have hjn : (Lib.join ws [32]).length + 1 = (lineT ws).length := by rw [← hjl]; simp
        obtain ⟨g2, o2, rfl, hg2, hcw⟩ := HWL.out.resolve_left hne
        have HCW : Hid (∀ w1, Below w.heap.size w w1 → ∀ i (h : i < ws.length), w1.cell? ⟨g2, o2 + i, none⟩ = some (.string (ba ws[i]))) := fun w1 hb i hi => (hb.cell (p := ⟨g2, o2 + i, none⟩) hg2).trans (hcw i hi)
        have HJN : Hid (∀ m, m ≤ ws.length → (textT (L.take k)).length + (Lib.join (ws.take m) [32]).length + 1 ≤ 4194304) := fun m hm => by have := join_len (ws := ws) m hm; omega
        have HNXT : Hid (textT (L.take (k + 1)) = textT (L.take k) ++ Lib.join ws [32] ++ [10]) := by unfold Hid; rw [HMORE.out, ← hjl]; simp
        have HLIM : Hid (∀ x ∈ ws, x.length ≤ 4194304) := fun x hx => by have := hll.2.2 x hx; omega
        have hwsl : ws.length ≤ 4194304 := by omega
        have hx0 : ((ws.length : Int) == 0) = false := by rw [beq_eq_false_iff_ne]; omega
        clear hll hlm hml hmlen hjl hjn hcw hne
        go_wp2
        go_loopw [4, 6] (fun out j wj => ∃ m : Nat, m ≤ ws.length ∧ j = .int .i64 m ∧ out = .string (ba (textT (L.take k) ++ Lib.join (ws.take m) [32])) ∧ (ws.take m).all isW = true ∧ Below w.heap.size w wj) (fun _ j _ => ws.length - (intOf j).toNat)
        case atStart => exact ⟨0, Nat.zero_le _, rfl, by simp [Lib.join_nil], rfl, HE.out⟩
        case round =>
          obtain ⟨m, hm, rfl, rfl, haw, hbw⟩ := hrel
          have HAW := hide3 haw
          have HBW := hide3 hbw
          clear haw hbw hcA
          have hcA := HCA.out wr HBW.out
          by_cases hml : m < ws.length
          · have hcx := HCW.out wr HBW.out m hml
            have HIW : Hid (Calls Tryd.prog 28 #[.string (ba ws[m])] wr fun e w' => e = .returned (.bool (isW ws[m])) ∧ Below wr.heap.size wr w') := by
              have := isWord_any (ba ws[m]) (by rw [ba_size]; have := HLIM.out _ (List.getElem_mem hml); omega) wr
              rw [ba_list] at this
              exact this
            have hmem := List.getElem_mem hml
            have hjt := join_take hml
            have hjs := HJN.out (m + 1) (by omega)
            have htk : ws.take (m + 1) = ws.take m ++ [ws[m]] := List.take_succ_eq_append_getElem hml
            cases hw : isW ws[m]
            · have HR := hide3 (joi_no HMEM.out (by
                unfold isL
                have : ws.all isW = false := by
                  rw [Bool.eq_false_iff]
                  intro h
                  rw [List.all_eq_true] at h
                  have := h _ hmem
                  rw [hw] at this; cases this
                rw [this]; rfl))
              rw [hw] at HIW
              clear hjt hjs htk hmem hw
              generalize ba ws[m] = x at *
              go_wp2_with (go_at_call 28; refine HIW.out.mono ?_; rintro e w3 ⟨rfl, hb3⟩; have HB3 := hide3 (below_then HBW.out hb3); clear hb3)
              go_ret2
              exact ⟨ret_join HR.out.1.symm HR.out.2.symm, HB3.out⟩
            · have HAW2 : Hid ((ws.take (m + 1)).all isW = true) := by unfold Hid; rw [htk, List.all_append, HAW.out]; simp [hw]
              rw [hw] at HIW
              by_cases hz : m = 0
              · have hj0 : Lib.join (ws.take m) [32] = [] := by rw [hz]; simp [Lib.join_nil]
                have HXX : Hid (ba (textT (L.take k) ++ Lib.join (ws.take m) [32]) ++ ba ws[m] = ba (textT (L.take k) ++ Lib.join (ws.take (m + 1)) [32])) := by
                  unfold Hid
                  rw [ba_cat, hjt, if_pos hz, hj0]
                  simp
                have hz2 : ¬ (0 : Int) < (m : Int) := by omega
                have hsz : (ba (textT (L.take k) ++ Lib.join (ws.take m) [32])).size + (ba ws[m]).size ≤ 4194304 := by
                  rw [ba_size, ba_size, hj0]
                  rw [hjt, if_pos hz] at hjs
                  simp only [List.length_append, List.length_nil]
                  omega
                clear hj0 hjt hjs htk hmem hw hz
                generalize ba ws[m] = x at *
                generalize ba (textT (L.take k) ++ Lib.join (ws.take m) [32]) = y at *
                go_wp2_with (go_at_call 28; refine HIW.out.mono ?_; rintro e w3 ⟨rfl, hb3⟩; have hcA3 := HCA.out w3 (below_then HBW.out hb3); have hcx3 := (hb3.cell (p := ⟨g2, o2 + m, none⟩) (cell_in hcx)).trans hcx; have HB3 := hide3 (below_then HBW.out hb3); clear hb3)
                exact ⟨⟨m + 1, by omega, by go_num, by rw [HXX.out], HAW2.out, HB3.out⟩, by simp [intOf]; omega⟩
              · have HXX : Hid (ba (textT (L.take k) ++ Lib.join (ws.take m) [32]) ++ ⟨#[32]⟩ ++ ba ws[m] = ba (textT (L.take k) ++ Lib.join (ws.take (m + 1)) [32])) := by
                  unfold Hid
                  have e : (⟨#[32]⟩ : ByteArray) = ba [32] := rfl
                  rw [e, ba_cat, ba_cat, hjt, if_neg hz]
                  simp
                have hz2 : (0 : Int) < (m : Int) := by omega
                have hsz : (ba (textT (L.take k) ++ Lib.join (ws.take m) [32])).size + 1 + (ba ws[m]).size ≤ 4194304 := by
                  rw [ba_size, ba_size]
                  rw [hjt, if_neg hz] at hjs
                  simp only [List.length_append, List.length_cons, List.length_nil] at hjs ⊢
                  omega
                clear hjt hjs htk hmem hw hz
                generalize ba ws[m] = x at *
                generalize ba (textT (L.take k) ++ Lib.join (ws.take m) [32]) = y at *
                go_wp2_with (go_at_call 28; refine HIW.out.mono ?_; rintro e w3 ⟨rfl, hb3⟩; have hcA3 := HCA.out w3 (below_then HBW.out hb3); have hcx3 := (hb3.cell (p := ⟨g2, o2 + m, none⟩) (cell_in hcx)).trans hcx; have HB3 := hide3 (below_then HBW.out hb3); clear hb3)
                exact ⟨⟨m + 1, by omega, by go_num, by rw [HXX.out], HAW2.out, HB3.out⟩, by simp [intOf]; omega⟩
          · obtain rfl : m = ws.length := by omega
            have HAL : Hid ((L.take (k + 1)).all isL = true) := by
              unfold Hid
              rw [HTK.out, List.all_append, HA.out]
              have := HAW.out
              rw [List.take_length] at this
              simp only [List.all_cons, List.all_nil, Bool.and_true, Bool.true_and, isL, this]
              cases ws with
              | nil => simp at h0
              | cons _ _ => rfl
            have HXX : Hid (ba (textT (L.take k) ++ Lib.join (ws.take ws.length) [32]) ++ ⟨#[10]⟩ = ba (textT (L.take (k + 1)))) := by
              unfold Hid
              have e : (⟨#[10]⟩ : ByteArray) = ba [10] := rfl
              rw [e, ba_cat, List.take_length, HNXT.out]
            have hsz : (ba (textT (L.take k) ++ Lib.join (ws.take ws.length) [32])).size + 1 ≤ 4194304 := by
              have := HJN.out ws.length (Nat.le_refl _)
              rw [ba_size, List.length_append]
              omega
            generalize ba (textT (L.take k) ++ Lib.join (ws.take ws.length) [32]) = y at *
            go_wp2
            exact ⟨⟨k + 1, by omega, by go_num, by rw [HXX.out], HAL.out, HBW.out⟩, by simp [intOf]; omega⟩
    · have hke : k = L.length := by omega
      subst hke
      have HR : Hid (joiT L = ba (textT L) ∧ joiE L = 0) := joi_yes (by have := HA.out; rw [List.take_length] at this; exact this)
      have HXX : Hid (ba (textT (L.take L.length)) = ba (textT L)) := by unfold Hid; rw [List.take_length]
      go_wp2
      go_ret2
      exact ⟨ret_join (HXX.out.trans HR.out.1.symm) HR.out.2.symm, HE.out⟩
end Go.Proofs.YtiahoaneinojgaaDoor.Sc
