/- Rp5, ScBd1, Wr1, Pk6, Pk7, Pk9, Pk10, laid in one text. -/
import Derived.Shelf.Strings.Builder1
import Derived.Test.YthoacfmfpbngkaaGreatDoorScC
import Derived.Deep.RegionHeld3
import Derived.Test.YthoacfmfpbngkaaGreatDoorMg14
namespace Go.Proofs.YthoacfmfpbngkaaGreatDoor
open Go.RowKit
set_option maxRecDepth 100000

theorem word_any_doc (p : Bt) (hp : p.length ≤ 1048576) (w : World) : Calls Tryz.prog 73 #[.string (bt p)] w fun e w' => ∃ v, e = .returned (.tuple #[v, .bool (wordR (bt p)).isSome]) ∧ SpansR w' v ((wordR (bt p)).getD []) ∧ Below w.heap.size w w' := by
  rw [word_doc]
  by_cases h : p = [42]
  · subst h; exact word_star_doc w
  · exact word_walk_doc p hp h w

/-- Folded of two ranges of one span at most: what both have. -/
theorem Folded_meet {A B : Rg} (hA : RangeR A) (hB : RangeR B) (la : A.length ≤ 1) (lb : B.length ≤ 1) {va vb : Value} {w : World} (ha : SpansR w va A) (hb : SpansR w vb B) :
    Calls Tryz.prog 74 #[.int .u8 109, va, vb] w fun e w' => ∃ v, e = .returned (.tuple #[v, .int .i64 0]) ∧ SpansR w' v (meetR A B) ∧ Below w.heap.size w w' := by
  have := Folded_walk 109 _ _ va vb w (by simp; omega) ha.at hb.at
  rw [rk_sp hA, rk_sp hB, foldK_meet hA hB, full_0 (by have := meet_one hA hB la lb; omega), fit_of (by have := meet_one hA hB la lb; omega)] at this
  refine this.mono ?_
  rintro e w' ⟨v, rfl, h1, h2⟩
  exact ⟨v, rfl, h1.spans, h2⟩

theorem rk_okq {C : Rg} (hC : OkQ C) : (C.map spR).map rkS = C := by
  rw [List.map_map]
  conv => rhs; rw [← List.map_id C]
  refine List.map_congr_left fun p hp => ?_
  obtain ⟨h1, h2⟩ := hC p hp
  show (rankV (atA p.1) (atB p.1) (atC p.1), rankV (atA p.2) (atB p.2) (atC p.2)) = p
  have e1 := (may_at (n := p.1) (by unfold hasV; obtain ⟨a, b⟩ := h1; simp; omega)).2
  have e2 := (may_at (n := p.2) (by unfold hasV; obtain ⟨a, b⟩ := h2; simp; omega)).2
  rw [e1, e2]

/-- Nothing is put behind a row. -/
theorem wp_app0 {w : World} {ops : Array Oper} {rest : List Oper} {o : Oper} {f : Act} {Q : Exit → Act → World → Prop} (hgd : o.guard = none) (s x : Operand) (t : TypeId)
    (ho : o.op = .call { callee := .builtin .append, args := #[s, x], argTypes := #[t, t] }) (e : TypeId) (i : TypeInfo) (ht : Tryz.prog.underlying t = some (.slice e)) (hi : Tryz.prog.info? e = some i)
    {base : Option Addr} {n cap : Nat} (hs : f.eval s = .slice base n cap) (hn : n ≤ cap) {ad : Option Addr} {c : Nat} (hx : f.eval x = .slice ad 0 c)
    (h : wpList Tryz.prog ops Q rest (f.put o.dst (.slice base n cap)) w) : wpList Tryz.prog ops Q (o :: rest) f w := by
  refine wpList_plain hgd fun K hK => ?_
  have hr : (Builtin.append_ #[t, t] o.type #[.slice base n cap, .slice ad 0 c]).run Tryz.prog w = .ok (.slice base n cap) w := by
    cases ad <;> cases base <;> simp [Builtin.append_, run_underlying ht, sizeOf, typeInfo, hi, Builtin.lenOf, hn, Builtin.firstCells, loadCells, loadCellsFrom, storeCells]
  unfold Oper.wp execOp
  simp only [ho, resolve, invoke, builtin, Sem.run_bind, Sem.run_pure, Result.andThen_ok, List.map_toArray, List.map_cons, List.map_nil, hs, hx, hr]
  exact hK _ _ h

/-- Spans in memory, a list of one's own. -/
theorem Folded_join {B : Nat} {C : Rg} (hC : OkQ C) (lc : C.length ≤ 100000) {va : Value} {w : World} (ha : OwnS w B va (C.map spR)) :
    Calls Tryz.prog 74 #[.int .u8 106, va, .slice none 0 0] w fun e w' => ∃ v, e = .returned (.tuple #[v, .int .i64 (fullE (foldK 106 C []).length)]) ∧ OwnS w' w.heap.size v ((fitR (foldK 106 C [])).map spR) ∧ Below w.heap.size w w' := by
  obtain ⟨ad, cap, e, _, hs⟩ := ha.sp
  have := Folded_walk 106 (C.map spR) [] va (.slice none 0 0) w (by simp; omega) ⟨ad, cap, e, hs⟩ ⟨none, 0, rfl, Or.inl rfl⟩
  rw [rk_okq hC] at this
  exact this

set_option maxHeartbeats 2000000 in
theorem rParse3_walk (s : ByteArray) (hs : s.size ≤ 4096) (w : World) :
    Calls Tryz.prog 50 #[.string s] w fun e w' => ∃ v, e = .returned (.tuple #[v, .int .i64 (parE (altR s))]) ∧ OwnS w' w.heap.size v ((parL (altR s)).map spR) ∧ Below w.heap.size w w' := by
  have HAL : Hid (Calls Tryz.prog 70 #[.string s] w fun e w' => ∃ v, e = .returned v ∧ OwnK w' w.heap.size v (seg [124, 124] [] s.data.toList) ∧ (seg [124, 124] [] s.data.toList).length ≤ s.size + 1 ∧ Below w.heap.size w w') := alternatives_walk s (by omega) w
  have HWS : Hid (∀ p : Bt, p.length ≤ 4096 → ∀ w1, Calls Tryz.prog 71 #[.string (bt p)] w1 fun e w' => ∃ v, e = .returned v ∧ TxtsAt w' v (wordsD p) ∧ (wordsD p).length ≤ 4096 ∧ Below w1.heap.size w1 w') := fun p hp w1 => by
    refine (words_doc (bt p) (by rw [bt_size]; omega) w1).mono ?_
    rintro e w' ⟨v, rfl, h1, h2, h3⟩
    rw [bt_list] at h1 h2
    rw [bt_size] at h2
    exact ⟨v, rfl, h1.at, by omega, h3⟩
  have HAllR : Hid (∀ w1, Calls Tryz.prog 72 #[] w1 fun e w' => ∃ v, e = .returned v ∧ SpansR w' v allR ∧ Below w1.heap.size w1 w') := rAll_rg
  have HWD : Hid (∀ p : Bt, p.length ≤ 4096 → ∀ w1, Calls Tryz.prog 73 #[.string (bt p)] w1 fun e w' => ∃ v, e = .returned (.tuple #[v, .bool (wordR (bt p)).isSome]) ∧ SpansR w' v ((wordR (bt p)).getD []) ∧ Below w1.heap.size w1 w') := fun p hp w1 => word_any_doc p (by omega) w1
  have HFM : Hid (∀ w1 va vb (A B : Rg), RangeR A → RangeR B → A.length ≤ 1 → B.length ≤ 1 → SpansR w1 va A → SpansR w1 vb B → Calls Tryz.prog 74 #[.int .u8 109, va, vb] w1 fun e w' => ∃ v, e = .returned (.tuple #[v, .int .i64 0]) ∧ SpansR w' v (meetR A B) ∧ Below w1.heap.size w1 w') := fun w1 va vb A B h1 h2 h3 h4 h5 h6 => Folded_meet h1 h2 h3 h4 h5 h6
  have HFJ : Hid (∀ B w1 va (C : Rg), OkQ C → C.length ≤ 100000 → OwnS w1 B va (C.map spR) → Calls Tryz.prog 74 #[.int .u8 106, va, .slice none 0 0] w1 fun e w' => ∃ v, e = .returned (.tuple #[v, .int .i64 (fullE (foldK 106 C []).length)]) ∧ OwnS w' w1.heap.size v ((fitR (foldK 106 C [])).map spR) ∧ Below w1.heap.size w1 w') := fun B w1 va C h1 h2 h3 => Folded_join h1 h2 h3
  have HDA := hide3 (doc_alt s)
  have HSB : Hid (∀ p ∈ seg [124, 124] [] s.data.toList, p.length ≤ 4096) := fun p hp => by
    have h1 := pieces_of [124, 124] (by simp) s
    have h2 : bt p ∈ piecesB s (bt [124, 124]) := by rw [h1]; exact List.mem_map_of_mem hp
    have h3 := pieces_size (bt [124, 124]) _ _ _ h2
    rw [bt_size] at h3
    omega
  have h4096 : ¬ (4096 : Int) < (s.size : Int) := by omega
  obtain ⟨i0, hi, hz0, hz1, hz2⟩ := info_parts3 infoSpan
  generalize seg [124, 124] [] s.data.toList = ps at *
  generalize altR s = R at *
  go_enter Tryz.func50, Tryz.ntmps50
  go_wp2_with (go_at_call 70; refine HAL.out.mono ?_; rintro e w2 ⟨v2, rfl, h1, h2, hb2⟩; have HO2 := hide3 hb2; have HT2 := hide3 h1.at; have hpl : ps.length ≤ 4097 := (by omega); clear h1 h2 hb2 HAL)
  obtain ⟨ad2, cap2, rfl, hcs⟩ := HT2.out
  go_loopw [4, 6] (fun acc i wr => ∃ (k : Nat) (C : Rg), k ≤ ps.length ∧ i = .int .i64 k ∧ OkQ C ∧ C.length ≤ k ∧ OwnS wr w2.heap.size acc (C.map spR) ∧ Below w2.heap.size w2 wr ∧ altD [] ps = altD C (ps.drop k)) (fun _ i _ => ps.length - (intOf i).toNat)
  case atStart => exact ⟨0, [], Nat.zero_le _, rfl, (fun q h => by cases h), Nat.le_refl _, OwnS.nil _ _, Below.refl _ _, rfl⟩
  case round =>
    obtain ⟨k, C, hk, rfl, hC, hCl, hS, hb, heq⟩ := hrel
    have HC := hide3 hC
    have HS := hide3 hS
    have HB := hide3 hb
    have HEQ := hide3 heq
    clear hC hS heq
    by_cases hlt : k < ps.length
    · obtain ⟨g2, rfl, hg2, hcell⟩ : ∃ g, ad2 = some ⟨g, 0, none⟩ ∧ g < w2.heap.size ∧ ∀ i (h : i < ps.length), w2.cell? ⟨g, i, none⟩ = some (.string (bt ps[i])) := by
        rcases hcs with h | h
        · rw [h] at hlt; simp at hlt
        · exact h
      have hc := (hb.cell (p := ⟨g2, k, none⟩) hg2).trans (hcell k hlt)
      have HD : Hid (ps.drop k = ps[k] :: ps.drop (k + 1)) := List.drop_eq_getElem_cons hlt
      have hpk := HSB.out _ (List.getElem_mem hlt)
      generalize ps[k] = p at *
      have HWp := hide3 (HWS.out p hpk)
      have HED : Hid (altD [] ps = match meetsD allR (wordsD p) with
          | none => none
          | some X => if wordsD p = [] then none else altD (C ++ X) (ps.drop (k + 1))) := by unfold Hid; rw [HEQ.out, HD.out]; rfl
      have HWL : Hid (∀ q ∈ wordsD p, q.length ≤ 4096) := fun q hq => by
        have h1 := pieces_of [32] (by simp) (bt p)
        rw [bt_list] at h1
        have h2 : bt q ∈ piecesB (bt p) (bt [32]) := by rw [h1]; exact List.mem_map_of_mem (List.mem_filter.1 hq).1
        have h3 := pieces_size (bt [32]) _ _ _ h2
        rw [bt_size, bt_size] at h3
        omega
      generalize wordsD p = ws at *
      clear hb hcell HD HEQ
      go_wp2_with (first
        | (go_at_call 71; refine (HWp.out _).mono ?_; rintro e w3 ⟨v3, rfl, h1, h2, ok⟩; have HT3 := hide3 h1; have HB3 := hide3 ok; have hwl := h2; clear h1 h2 ok)
        | (go_at_call 72; refine (HAllR.out _).mono ?_; rintro e w4 ⟨v4, rfl, h1, ok⟩; have HA4 := hide3 h1; have HB4 : Hid (Below wr.heap.size wr w4) := below_then HB3.out ok; have HT4 := hide3 (HT3.out.below ok); clear h1 ok HB3 HT3))
      obtain ⟨ad3, cap3, rfl, hcw⟩ := HT4.out
      go_loopw [8, 9] (fun one j wq => ∃ (m : Nat) (X : Rg), m ≤ ws.length ∧ j = .int .i64 m ∧ RangeR X ∧ X.length ≤ 1 ∧ SpansR wq one X ∧ Below w4.heap.size w4 wq ∧ meetsD allR ws = meetsD X (ws.drop m)) (fun _ j _ => ws.length - (intOf j).toNat)
      case atStart => exact ⟨0, allR, Nat.zero_le _, rfl, allR_ok, Nat.le_refl _, HA4.out, Below.refl _ _, rfl⟩
      case round =>
        obtain ⟨m, X, hm, rfl, hX, hXl, hXs, hbq, heq⟩ := hrel
        have HX := hide3 hX
        have HXS := hide3 hXs
        have HBQ := hide3 hbq
        have HMQ := hide3 heq
        clear hX hXs heq
        by_cases hmt : m < ws.length
        · obtain ⟨g3, rfl, hg3, hcell3⟩ : ∃ g, ad3 = some ⟨g, 0, none⟩ ∧ g < w4.heap.size ∧ ∀ i (h : i < ws.length), w4.cell? ⟨g, i, none⟩ = some (.string (bt ws[i])) := by
            rcases hcw with h | h
            · rw [h] at hmt; simp at hmt
            · exact h
          have hc3 := (hbq.cell (p := ⟨g3, m, none⟩) hg3).trans (hcell3 m hmt)
          have HD3 : Hid (ws.drop m = ws[m] :: ws.drop (m + 1)) := List.drop_eq_getElem_cons hmt
          have hql := HWL.out _ (List.getElem_mem hmt)
          generalize ws[m] = q at *
          have HQ := hide3 (HWD.out q hql)
          clear hbq hcell3
          cases hw : wordR (bt q) with
          | none =>
            have HN : Hid (altD [] ps = none) := by
              unfold Hid
              have : meetsD allR ws = none := by rw [HMQ.out, HD3.out, meetsD, hw]
              rw [HED.out, this]
            have HRN : Hid (parE R = 21 ∧ parL R = []) := by rw [HDA.out]; unfold docD; rw [HN.out]; exact ⟨rfl, rfl⟩
            rw [hw] at HQ
            go_wp2_with (go_at_call 73; refine (HQ.out _).mono ?_; rintro e w5 ⟨v5, rfl, h1, ok⟩; have HB5 := hide3 (below_then HO2.out (below_then HB.out (below_then HB4.out (below_then HBQ.out ok)))); clear h1 ok)
            go_ret2
            exact ⟨_, by rw [HRN.out.1]; rfl, by rw [HRN.out.2]; exact OwnS.nil _ _, HB5.out⟩
          | some Y =>
            have HYR := hide3 (word_rg hw)
            have hY1 := word_one hw
            have HM2 : Hid (meetsD allR ws = meetsD (meetR X Y) (ws.drop (m + 1))) := by unfold Hid; rw [HMQ.out, HD3.out, meetsD, hw]
            rw [hw] at HQ
            clear hw HMQ HD3
            go_wp2_with (first
              | (go_at_call 73; refine (HQ.out _).mono ?_; rintro e w5 ⟨v5, rfl, h1, ok⟩; have HS5 : Hid (SpansR w5 v5 Y) := h1; have HX5 := hide3 (HXS.out.below ok); have HB5 := hide3 (below_then HBQ.out ok); clear h1 ok)
              | (go_at_call 74; refine (HFM.out _ _ _ X Y HX.out HYR.out hXl hY1 HX5.out HS5.out).mono ?_; rintro e w6 ⟨v6, rfl, h1, ok⟩; have HS6 := hide3 h1; have HB6 := hide3 (below_then HB5.out ok); clear h1 ok))
            exact ⟨⟨m + 1, meetR X Y, by omega, by go_num, HX.out.meet HYR.out, meet_one HX.out HYR.out hXl hY1, HS6.out, HB6.out, HM2.out⟩, by simp [intOf]; omega⟩
        · have HM2 : Hid (meetsD allR ws = some X) := by unfold Hid; rw [HMQ.out, List.drop_of_length_le (by omega)]; rfl
          obtain ⟨adX, capX, rfl, hcX, hsX⟩ := HXS.out
          by_cases h0 : ws = []
          · have HN : Hid (altD [] ps = none) := by unfold Hid; rw [HED.out, HM2.out]; simp only; rw [if_pos h0]
            have HRN : Hid (parE R = 21 ∧ parL R = []) := by rw [HDA.out]; unfold docD; rw [HN.out]; exact ⟨rfl, rfl⟩
            have hw0 : ((ws.length : Int) == 0) = true := by rw [h0]; rfl
            clear hbq
            go_wp2
            go_ret2
            exact ⟨_, by rw [HRN.out.1]; rfl, by rw [HRN.out.2]; exact OwnS.nil _ _, below_then HO2.out (below_then HB.out (below_then HB4.out HBQ.out))⟩
          · have hw0 : ((ws.length : Int) == 0) = false := by
              have : 0 < ws.length := List.length_pos_iff.2 h0
              rw [beq_eq_false_iff_ne]; omega
            have HE2 : Hid (altD [] ps = altD (C ++ X) (ps.drop (k + 1))) := by unfold Hid; rw [HED.out, HM2.out]; simp only; rw [if_neg h0]
            have HBX : Hid (Below w2.heap.size w2 wr) := below_then HB.out (below_then HB4.out HBQ.out)
            have HSQ : Hid (OwnS wr w2.heap.size u4 (C.map spR)) := (HS.out.below HB4.out).below HBQ.out
            clear hbq
            match X, hXl with
            | [], _ =>
              obtain ⟨ad4, cap4, h4, hc4, _⟩ := HSQ.out.sp
              rw [List.length_map] at h4 hc4
              subst h4
              go_wp2_with (at_builtin; refine wp_app0 rfl (.tmp 57) (.tmp 58) 58 rfl 90 i0 Tryz.underlying58 hi rfl hc4 rfl ?_)
              exact ⟨⟨k + 1, C ++ [], by omega, by go_num, by rw [List.append_nil]; exact HC.out, by simp; omega, by rw [List.append_nil]; exact HSQ.out, HBX.out, HE2.out⟩, by simp [intOf]; omega⟩
            | [(x, y)], _ =>
              obtain ⟨gX, oX, rfl, hgX, hcX2⟩ : ∃ g o, adX = some ⟨g, o, none⟩ ∧ g < wr.heap.size ∧ ∀ i (h : i < [(x, y)].length), SpAt wr g (o + i * 6) (spR [(x, y)][i]) := by
                rcases hsX with h | h
                · cases h
                · exact h
              obtain ⟨p0, p1, p2, p3, p4, p5⟩ := (hcX2 0 (by simp)).first
              have hnews : ∀ j u, ([.int .i64 (atA x), .int .i64 (atB x), .int .i64 (atC x), .int .i64 (atA y), .int .i64 (atB y), .int .i64 (atC y)] : List Value)[j]? = some u → wr.cell? ((⟨gX, oX, none⟩ : Addr).add j) = some u := by
                intro j u hj
                have ad : (⟨gX, oX, none⟩ : Addr).add j = ⟨gX, oX + j, none⟩ := by unfold Addr.add; split <;> simp_all
                rw [ad]
                match j, hj with
                | 0, hj => cases hj; exact p0
                | 1, hj => cases hj; exact p1
                | 2, hj => cases hj; exact p2
                | 3, hj => cases hj; exact p3
                | 4, hj => cases hj; exact p4
                | 5, hj => cases hj; exact p5
              have hX1 := HX.out.okq (x, y) List.mem_cons_self
              have HOK : Hid (OkQ (C ++ [(x, y)])) := okq_append HC.out HX.out.okq
              have HNW := hide3 hnews
              clear hcX2 p0 p1 p2 p3 p4 p5 hnews hX1
              go_wp2_with (at_builtin; refine wpList_append_own_at _ rfl _ _ 58 rfl w2.heap.size 90 i0 _ 6 48 Tryz.underlying58 hi hz0 hz1 hz2 rfl (by decide) u4 _ _ rfl HSQ.out ⟨gX, oX, none⟩ 1 capX [.int .i64 (atA x), .int .i64 (atB x), .int .i64 (atC x), .int .i64 (atA y), .int .i64 (atB y), .int .i64 (atC y)] rfl rfl HNW.out (by simp [Value.oneCell']) (by unfold maxLen; rw [List.length_map]; omega) (by rw [List.length_map]; omega) HBX.out.size ?_; intro v7 w7 hown7 hg7 hnil7 hat7; have HO7 : Hid (OwnS w7 w2.heap.size v7 ((C ++ [(x, y)]).map spR) ∧ Below w2.heap.size w2 w7) := (⟨by unfold OwnS; rw [List.map_append, List.map_singleton, spCells_snoc, List.length_append]; exact hown7, HBX.out.grown hg7 HBX.out.size fun j hj => (HSQ.out.lt hj).2⟩); clear hown7 hg7 hnil7 hat7; go_frame)
              exact ⟨⟨k + 1, C ++ [(x, y)], by omega, by go_num, HOK.out, by simp; omega, HO7.out.1, HO7.out.2, HE2.out⟩, by simp [intOf]; omega⟩
    · have HN : Hid (altD [] ps = some C) := by unfold Hid; rw [HEQ.out, List.drop_of_length_le (by omega)]; rfl
      have HRN : Hid (parE R = fullE (foldK 106 C []).length ∧ parL R = fitR (foldK 106 C [])) := by rw [HDA.out]; unfold docD; rw [HN.out]; exact ⟨rfl, rfl⟩
      clear hb
      go_wp2_with (go_at_call 74; refine (HFJ.out _ _ _ C HC.out (by omega) HS.out).mono ?_; rintro e w5 ⟨v5, rfl, h1, ok⟩; have HS5 : Hid (OwnS w5 w.heap.size v5 ((fitR (foldK 106 C [])).map spR)) := h1.base (Nat.le_trans HO2.out.size HB.out.size); have HB5 := hide3 (below_then HO2.out (below_then HB.out ok)); clear h1 ok)
      go_ret2
      exact ⟨_, by rw [HRN.out.1]; rfl, by rw [HRN.out.2]; exact HS5.out, HB5.out⟩

theorem rParse3_far (s : ByteArray) (hs : 4096 < s.size) (w : World) :
    Calls Tryz.prog 50 #[.string s] w fun e w' => ∃ v, e = .returned (.tuple #[v, .int .i64 21]) ∧ OwnS w' w.heap.size v (([] : Rg).map spR) ∧ Below w.heap.size w w' := by
  have h : (4096 : Int) < (s.size : Int) := by omega
  go_enter Tryz.func50, Tryz.ntmps50
  go_wp2
  go_ret2
  exact ⟨_, rfl, OwnS.nil _ _, Below.refl _ _⟩

/-- The document's Parse of any text. -/
theorem rParse3_all (s : ByteArray) (w : World) :
    Calls Tryz.prog 50 #[.string s] w fun e w' => ∃ v, e = .returned (.tuple #[v, .int .i64 (parE (parR s))]) ∧ OwnS w' w.heap.size v ((parL (parR s)).map spR) ∧ Below w.heap.size w w' := by
  unfold parR
  by_cases h : s.size ≤ 4096
  · rw [if_pos h]; exact rParse3_walk s h w
  · rw [if_neg h]; exact rParse3_far s (by omega) w
end Go.Proofs.YthoacfmfpbngkaaGreatDoor
namespace Go.Proofs.YthoacfmfpbngkaaGreatDoor.Sc
open Go.RowKit
set_option maxRecDepth 100000

theorem bSize : (Tryz.prog.info? 72).map (·.size) = some 2 := by kernel_rfl
theorem bLies : liesAt Tryz.prog Tryz.prog.depth 72 (2 / Tryz.prog.cellsOf 72) 0 72 1 = true := by kernel_rfl
theorem bByte : (Tryz.prog.info? 5).map (fun i => (i.zero, i.size, i.bytes)) = some (some (.int .u8 0), 1, 1) := by kernel_rfl

set_option maxHeartbeats 1600000 in
theorem check_used (b : Nat) (w : World) (h0 : w.cell? ⟨b, 0, none⟩ = some (.pointer (some ⟨b, 0, none⟩))) :
    Calls Tryz.prog 67 #[.pointer (some ⟨b, 0, none⟩)] w fun e w' => e = .returned (.tuple #[]) ∧ w' = w := by
  obtain ⟨j, hj, _⟩ := Option.map_eq_some_iff.1 bSize
  go_enter Tryz.func67, Tryz.ntmps67
  go_wp2
  rw [Lib.run_neq_ptr_same w _ Tryz.underlying69 hj]
  go_wp2
  go_end0
  exact ⟨rfl, rfl⟩

set_option maxHeartbeats 1600000 in
theorem check_fresh (b : Nat) (w : World) (h0 : w.cell? ⟨b, 0, none⟩ = some (.pointer none)) (hsh : w.shape? b = some (72, 2)) (hfz : w.frozen? ⟨b, 0, none⟩ = false) :
    Calls Tryz.prog 67 #[.pointer (some ⟨b, 0, none⟩)] w fun e w' => e = .returned (.tuple #[]) ∧ w' = w.setCell ⟨b, 0, none⟩ (.pointer (some ⟨b, 0, none⟩)) := by
  obtain ⟨j, hj, hjs⟩ := Option.map_eq_some_iff.1 bSize
  go_enter Tryz.func67, Tryz.ntmps67
  go_wp2
  rw [Lib.run_to_unsafe w ⟨b, 0, none⟩ Tryz.underlying69 Tryz.underlying112 hj (by rw [hjs]; decide) hsh (Nat.zero_lt_succ 1)]
  simp only [Result.andThen]
  rw [Oper.upon_value]
  go_wp2
  rw [run_callFunc_extern Tryz.func87 (by kernel_rfl) (by kernel_rfl) (by kernel_rfl) (e := Extern.AbiNoEscape.same) (by kernel_rfl), Lib.run_noEscape]
  simp only [Result.andThen]
  rw [Oper.upon_value]
  go_wp2
  rw [Lib.run_from_unsafe w ⟨b, 0, none⟩ Tryz.underlying112 Tryz.underlying69 hj hsh bLies]
  simp only [Result.andThen]
  rw [Oper.upon_value]
  go_wp2
  go_end0
  exact ⟨rfl, rfl⟩

/-- A builder at a block, with these bytes. -/
def Bld (B b : Nat) (l : Bs) (w : World) : Prop := Lib.IsBuilder 72 5 B b (Lib.byteCells l) w
theorem check_any {B b : Nat} {l : Bs} {w : World} (h : Bld B b l w) :
    Calls Tryz.prog 67 #[.pointer (some ⟨b, 0, none⟩)] w fun e w' => e = .returned (.tuple #[]) ∧ Lib.BuilderAt 72 5 B b (.pointer (some ⟨b, 0, none⟩)) (Lib.byteCells l) w' ∧ Below B w w' := by
  rcases h with h | h
  · refine (check_fresh b w h.cell0 h.shape h.frozen0).mono ?_
    rintro e w' ⟨rfl, rfl⟩
    exact ⟨rfl, h.used _, (Below.refl B w).setCell (p := ⟨b, 0, none⟩) h.1 _⟩
  · refine (check_used b w h.cell0).mono ?_
    rintro e w' ⟨rfl, rfl⟩
    exact ⟨rfl, h, Below.refl B _⟩

set_option maxHeartbeats 1600000 in
theorem putText {B b : Nat} {l : Bs} {w : World} (s : ByteArray) (h : Bld B b l w) (hl : l.length + s.size ≤ 140737488355328) (hB : B ≤ w.heap.size) :
    Calls Tryz.prog 41 #[.pointer (some ⟨b, 0, none⟩), .string s] w fun e w' => e = .returned (.tuple #[.int .i64 s.size, .nilIface]) ∧ Bld B b (l ++ s.data.toList) w' ∧ Below B w w' := by
  obtain ⟨i0, hi, hz0, hz1, hz2⟩ := info_parts bByte
  have HC := hide3 (check_any h)
  have hlc : (Lib.byteCells l).length = l.length := Lib.byteCells_length l
  go_enter Tryz.func41, Tryz.ntmps41
  go_wp2_with (go_at_call 67; refine HC.out.mono ?_)
  rintro e w1 ⟨rfl, h1, hb1⟩
  obtain ⟨hBb, v, hbk, hown, hne⟩ := h1
  have c0 : w1.cell? ⟨b, 0, none⟩ = some (.pointer (some ⟨b, 0, none⟩)) := by rw [Lib.cell_of_heap hbk]; rfl
  have c1 : w1.cell? ⟨b, 1, none⟩ = some v := by rw [Lib.cell_of_heap hbk]; rfl
  have hs1 := hb1.size
  go_wp2_with (at_builtin; refine Lib.wpList_append_own_string _ rfl _ _ 70 9 rfl B 5 i0 Tryz.underlying70 Tryz.underlying9 hi hz0 hz1 hz2 _ _ _ rfl hown s rfl (by unfold maxLen; omega) (by omega) (by omega) ?_)
  intro v' w2 hown' hgrow _
  have hlt : b < w1.heap.size := (Array.getElem?_eq_some_iff.1 hbk).1
  have hb2 : w2.heap[b]? = some (.cells #[.pointer (some ⟨b, 0, none⟩), v] 72 (0, 0)) := by
    rw [hgrow.block b hlt (fun e => hne e.symm)]
    exact hbk
  have d0 : w2.cell? ⟨b, 0, none⟩ = some (.pointer (some ⟨b, 0, none⟩)) := by rw [Lib.cell_of_heap hb2]; rfl
  have d1 : w2.cell? ⟨b, 1, none⟩ = some v := by rw [Lib.cell_of_heap hb2]; rfl
  have f1 : w2.frozen? ⟨b, 1, none⟩ = false := Lib.frozen_of_heap hb2 1
  obtain ⟨ao, n', cap, rfl⟩ : ∃ ao n' cap, v' = .slice ao n' cap := by
    rcases hown'.2 with ⟨hv, _⟩ | ⟨g, cap, cur, hv, _⟩
    · exact ⟨_, _, _, hv⟩
    · exact ⟨_, _, _, hv⟩
  go_wp2
  go_ret2
  refine ⟨rfl, Or.inr ?_, ?_⟩
  · refine Lib.BuilderAt.put (T := 72) (e := 5) hBb hb2 ?_ (by decide)
    rw [Lib.byteCells_append, List.length_append, ← Lib.strCells_eq, hlc]
    simpa [Lib.strCells_length] using hown'
  · exact (hb1.grown hgrow (by omega) (fun k hk => (hown.lt k hk).1)).setCell (p := ⟨b, 1, none⟩) hBb _
end Go.Proofs.YthoacfmfpbngkaaGreatDoor.Sc
namespace Go.Proofs.YthoacfmfpbngkaaGreatDoor
open Go.RowKit
set_option maxRecDepth 100000

theorem same_list {s t : ByteArray} (h : s.data.toList = t.data.toList) : s = t := (of_list h).trans (list_of_bytes t)
theorem empty_cat (s : ByteArray) : (⟨#[]⟩ : ByteArray) ++ s = s := same_list (by rw [cat_list]; rfl)
theorem cat_empty (s : ByteArray) : s ++ (⟨#[]⟩ : ByteArray) = s := same_list (by rw [cat_list]; exact List.append_nil _)
theorem pieces_empty (c : UInt8) : piecesB ⟨#[]⟩ ⟨#[c]⟩ = [⟨#[]⟩] := pieces_one (c := c) (tl := []) rfl (fun x hx => by cases hx)

/-- A blank ahead, a blank behind. -/
theorem pad_left {s : ByteArray} (hs : ∀ x ∈ s.data.toList, x ≠ 124) {A : Rg} (ha : altR s = some A) : altR (⟨#[32]⟩ ++ s) = some A ∧ ∀ x ∈ (⟨#[32]⟩ ++ s).data.toList, x ≠ 124 := by
  have hb : ∀ x ∈ (⟨#[32]⟩ ++ s).data.toList, x ≠ 124 := by
    intro x hx
    rw [cat_list] at hx
    rcases List.mem_append.1 hx with hx | hx
    · simp at hx; rw [hx]; decide
    · exact hs x hx
  refine ⟨?_, hb⟩
  have e : (⟨#[32]⟩ : ByteArray) ++ s = ((⟨#[]⟩ : ByteArray) ++ ⟨#[32]⟩) ++ s := by rw [empty_cat]
  have hp := pieces_append (sep := ⟨#[32]⟩) (c := 32) (tl := []) rfl s 0 ⟨#[]⟩ (Nat.le_refl _) (pieces_clean 32 0 ⟨#[]⟩ (Nat.le_refl _))
  rw [alt_plain hb, e, hp, pieces_empty, List.singleton_append, wordsF_cons, if_pos (show (⟨#[]⟩ : ByteArray).size = 0 from rfl)]
  exact (alt_plain hs).1 ha
theorem pad_right {s : ByteArray} (hs : ∀ x ∈ s.data.toList, x ≠ 124) {A : Rg} (ha : altR s = some A) : altR (s ++ ⟨#[32]⟩) = some A ∧ ∀ x ∈ (s ++ ⟨#[32]⟩).data.toList, x ≠ 124 := by
  have hb : ∀ x ∈ (s ++ ⟨#[32]⟩).data.toList, x ≠ 124 := by
    intro x hx
    rw [cat_list] at hx
    rcases List.mem_append.1 hx with hx | hx
    · exact hs x hx
    · simp at hx; rw [hx]; decide
  refine ⟨?_, hb⟩
  have e : s ++ (⟨#[32]⟩ : ByteArray) = (s ++ ⟨#[32]⟩) ++ ⟨#[]⟩ := by rw [cat_empty]
  have hp := pieces_append (sep := ⟨#[32]⟩) (c := 32) (tl := []) rfl ⟨#[]⟩ s.size s (Nat.le_refl _) (pieces_clean 32 s.size s (Nat.le_refl _))
  rw [alt_plain hb, e, hp, pieces_empty, wordsF_append, (alt_plain hs).1 ha]
  simp only [Option.bind_some]
  rw [wordsF_cons, if_pos (show (⟨#[]⟩ : ByteArray).size = 0 from rfl)]
  rfl

theorem sign_alt {sg : ByteArray} (hs : SignB sg) {a b c : Int} (h : mayV a b c = true) {X : Rg} (hX : signR sg.data.toList (rankV a b c) = some X) : altR (sg ++ textV a b c) = some X ∧ ∀ x ∈ (sg ++ textV a b c).data.toList, x ≠ 124 := by
  have hp := sign_plain hs h
  have hl := text_long h
  refine ⟨alt_word (fun x hx => ⟨(hp x hx).1, (hp x hx).2.1⟩) ?_ ((word_sign hs h).trans hX), fun x hx e => (hp x hx).2.1 (by rw [e]; rfl)⟩
  rw [size_cat]
  rw [list_size] at hl
  omega
theorem star_alt : altR ⟨#[42]⟩ = some allR ∧ ∀ x ∈ (⟨#[42]⟩ : ByteArray).data.toList, x ≠ 124 := by
  refine ⟨alt_word ?_ (by decide) ?_, ?_⟩
  · intro x hx; simp at hx; rw [hx]; decide
  · unfold wordR; rw [if_pos rfl]
  · intro x hx; simp at hx; rw [hx]; decide

theorem le_sign : SignB ⟨#[60, 61]⟩ := by intro x hx; simp at hx; rcases hx with rfl | rfl <;> decide
theorem ge_sign : SignB ⟨#[62, 61]⟩ := by intro x hx; simp at hx; rcases hx with rfl | rfl <;> decide
theorem no_sign : SignB ⟨#[]⟩ := by intro x hx; simp at hx
theorem rank_000 : rankV 0 0 0 = 0 := by decide +kernel
theorem rank_999 : rankV 999 999 999 = 999999999 := by decide +kernel

/-- A span's text says that span. -/
theorem spT_alt {lo hi : Int} (h1 : okR lo) (h2 : okR hi) (h : lo ≤ hi) : altR (spT (lo, hi)) = some [(lo, hi)] ∧ ∀ x ∈ (spT (lo, hi)).data.toList, x ≠ 124 := by
  obtain ⟨m1, e1⟩ := may_at h1.has
  obtain ⟨m2, e2⟩ := may_at h2.has
  unfold spT spanT
  simp only
  split
  · rename_i hq
    have hlh : lo = hi := by rw [← e1, ← e2, hq.1, hq.2.1, hq.2.2]
    have := sign_alt no_sign m1 (X := [(lo, lo)]) (by rw [e1]; rfl)
    rw [empty_cat] at this
    rw [← hlh]
    exact this
  · split
    · rename_i _ hq
      have hl : lo = 0 := by rw [← e1, hq.1.1, hq.1.2.1, hq.1.2.2]; exact rank_000
      have hh : hi = 999999999 := by rw [← e2, hq.2.1, hq.2.2.1, hq.2.2.2]; exact rank_999
      rw [hl, hh]
      exact star_alt
    · split
      · rename_i _ _ hq
        have hl : lo = 0 := by rw [← e1, hq.1, hq.2.1, hq.2.2]; exact rank_000
        have := sign_alt le_sign m2 (X := [(0, hi)]) (by rw [e2]; rfl)
        rw [hl]
        exact this
      · split
        · rename_i _ _ _ hq
          have hh : hi = 999999999 := by rw [← e2, hq.1, hq.2.1, hq.2.2]; exact rank_999
          have := sign_alt ge_sign m1 (X := [(lo, 999999999)]) (by rw [e1]; rfl)
          rw [hh]
          exact this
        · obtain ⟨a1, b1⟩ := sign_alt ge_sign m1 (X := [(lo, 999999999)]) (by rw [e1]; rfl)
          obtain ⟨a2, b2⟩ := sign_alt le_sign m2 (X := [(0, hi)]) (by rw [e2]; rfl)
          have r1 := one_ok h1 okL h1.2
          have r2 := one_ok okF h2 h2.1
          have hm : meetR [(lo, 999999999)] [(0, hi)] = [(lo, hi)] := range_one (r1.meet r2) (one_ok h1 h2 h) fun n => by
            rw [meet_in r1 r2]
            simp only [InR, or_false]
            have := h1.1
            have := h2.2
            omega
          have e : ((⟨#[62, 61]⟩ ++ textV (atA lo) (atB lo) (atC lo)) ++ ⟨#[32, 60, 61]⟩) ++ textV (atA hi) (atB hi) (atC hi) = ((⟨#[62, 61]⟩ ++ textV (atA lo) (atB lo) (atC lo)) ++ ⟨#[32]⟩) ++ (⟨#[60, 61]⟩ ++ textV (atA hi) (atB hi) (atC hi)) := same_list (by simp only [cat_list]; simp)
          rw [e]
          refine ⟨by rw [alt_blank b1 b2 a1 a2, hm], ?_⟩
          intro x hx
          rw [cat_list, cat_list] at hx
          simp only [List.mem_append] at hx
          rcases hx with (hx | hx) | hx
          · exact b1 x hx
          · simp at hx; rw [hx]; decide
          · exact b2 x hx

theorem rise_head {k M : Int} {p : Int × Int} {A : Rg} (h : RiseR k M (p :: A)) : k ≤ p.1 ∧ p.1 ≤ p.2 ∧ p.2 ≤ M ∧ RiseR (p.2 + 2) M A := h
theorem rise_down {k j M : Int} (hj : j ≤ k) : ∀ {A : Rg}, RiseR k M A → RiseR j M A
  | [], _ => trivial
  | (_, _) :: _, h => ⟨by have := h.1; omega, h.2.1, h.2.2.1, h.2.2.2⟩

/-- A range's text, and that with a blank ahead, says that range. -/
theorem print_alt : ∀ {A : Rg}, RangeR A → A ≠ [] → altR (printR A) = some A ∧ altR (⟨#[32]⟩ ++ printR A) = some A
  | [], _, h => absurd rfl h
  | [(lo, hi)], hA, _ => by
    obtain ⟨q1, q2, q3, _⟩ := rise_head hA
    obtain ⟨a, b⟩ := spT_alt (lo := lo) (hi := hi) ⟨q1, by simp at q2 q3; omega⟩ ⟨by simp at q1 q2; omega, q3⟩ q2
    have e : printR [(lo, hi)] = spT (lo, hi) := by
      unfold printR
      simp only [List.map_cons, List.map_nil]
      rw [Lib.join_one, list_of_bytes]
    rw [e]
    exact ⟨a, (pad_left b a).1⟩
  | (lo, hi) :: q :: r, hA, _ => by
    obtain ⟨q1, q2, q3, q4⟩ := rise_head hA
    have hB : RangeR (q :: r) := rise_down (by simp at q1 q2; omega) q4
    have hP : RangeR [(lo, hi)] := ⟨q1, q2, q3, trivial⟩
    obtain ⟨a, b⟩ := spT_alt (lo := lo) (hi := hi) ⟨q1, by simp at q2 q3; omega⟩ ⟨by simp at q1 q2; omega, q3⟩ q2
    obtain ⟨_, i2⟩ := print_alt hB (by simp)
    have hj : joinR [(lo, hi)] (q :: r) = (lo, hi) :: q :: r := range_one (hP.join hB) hA fun n => by
      rw [join_in hP hB]
      simp only [InR, or_false]
    have e : printR ((lo, hi) :: q :: r) = ((spT (lo, hi) ++ ⟨#[32]⟩) ++ ⟨#[124, 124]⟩) ++ (⟨#[32]⟩ ++ printR (q :: r)) := by
      refine same_list ?_
      simp only [cat_list]
      unfold printR
      simp only [List.map_cons]
      rw [Lib.join_cons]
      have : Lib.joinTail [32, 124, 124, 32] ((spT q).data.toList :: r.map fun p => (spT p).data.toList) = [32, 124, 124, 32] ++ Lib.join ((spT q).data.toList :: r.map fun p => (spT p).data.toList) [32, 124, 124, 32] := by
        rw [Lib.join_cons]
        simp [Lib.joinTail]
      rw [this]
      simp
    obtain ⟨c1, d1⟩ := pad_right b a
    obtain ⟨c2, d2⟩ := pad_left b a
    obtain ⟨c3, d3⟩ := pad_right d2 c2
    refine ⟨by rw [e, alt_both c1 i2, hj], ?_⟩
    have e2 : ⟨#[32]⟩ ++ printR ((lo, hi) :: q :: r) = (((⟨#[32]⟩ ++ spT (lo, hi)) ++ ⟨#[32]⟩) ++ ⟨#[124, 124]⟩) ++ (⟨#[32]⟩ ++ printR (q :: r)) := by
      rw [e]
      refine same_list ?_
      simp only [cat_list]
      simp
    rw [e2, alt_both c3 i2, hj]

theorem lt_sign : SignB ⟨#[60]⟩ := by intro x hx; simp at hx; rw [hx]; decide
theorem print_says {A : Rg} (hA : RangeR A) : altR (printR A) = some A := by
  cases A with
  | cons p A => exact (print_alt hA (by simp)).1
  | nil =>
    have := (sign_alt lt_sign (a := 0) (b := 0) (c := 0) (by decide +kernel) (X := cutR allR [(0, 999999999)]) (by rw [rank_000]; rfl)).1
    have e : cutR allR [(0, 999999999)] = [] := by decide +kernel
    rw [e] at this
    exact this
theorem print_size {A : Rg} (hl : A.length ≤ 64) : (printR A).size ≤ 4096 := by
  cases A with
  | nil => have := text_size 0 0 0; have z : (⟨#[60]⟩ : ByteArray).size = 1 := rfl; show (⟨#[60]⟩ ++ textV 0 0 0).size ≤ 4096; rw [size_cat]; omega
  | cons p A =>
    show (⟨(Lib.join ((p :: A).map fun p => (spT p).data.toList) [32, 124, 124, 32]).toArray⟩ : ByteArray).size ≤ 4096
    rw [bytes_size, List.map_cons, Lib.join_length, ← List.map_cons (f := fun p => (spT p).data.toList)]
    have := lens_le 27 ((p :: A).map fun p => (spT p).data.toList) (by
      intro x hx
      obtain ⟨q, _, rfl⟩ := List.mem_map.1 hx
      exact spanT_size _ _ _ _ _ _)
    simp only [List.length_map, List.length_cons, List.length_nil] at *
    omega
theorem print_par {A : Rg} (hA : RangeR A) (hl : A.length ≤ 64) : parR (printR A) = some A := by
  unfold parR
  rw [if_pos (print_size hl)]
  exact print_says hA
end Go.Proofs.YthoacfmfpbngkaaGreatDoor
namespace Go.Proofs.YthoacfmfpbngkaaGreatDoor
open Go.RowKit
set_option maxRecDepth 100000

/-- All but a builder's own memory is as it was. -/
def FarB (b : Nat) (w w' : World) : Prop := ∀ N cs t fr, w.heap[N]? = some (.cells cs t fr) → t ≠ 5 → N ≠ b → w'.heap[N]? = some (.cells cs t fr)
theorem FarB.refl (b : Nat) (w : World) : FarB b w w := fun _ _ _ _ h _ _ => h
theorem FarB.trans {b : Nat} {w w1 w2 : World} (h : FarB b w w1) (h2 : FarB b w1 w2) : FarB b w w2 := fun N cs t fr hh ht hn => h2 N cs t fr (h N cs t fr hh ht hn) ht hn
theorem FarB.set {b : Nat} {w w1 : World} (h : FarB b w w1) (i : Nat) (u : Value) : FarB b w (w1.setCell ⟨b, i, none⟩ u) := fun N cs t fr hh ht hn => (Below.heap_setCell _ _ _ _ hn).trans (h N cs t fr hh ht hn)

theorem FarB.below {b : Nat} {w w' : World} (h : Below w.heap.size w w') : FarB b w w' := fun N _ _ _ hh _ _ => (h.block N (Array.getElem?_eq_some_iff.1 hh).1).trans hh

theorem check_far {B b : Nat} {l : Sc.Bs} {w : World} (h : Sc.Bld B b l w) :
    Calls Tryz.prog 67 #[.pointer (some ⟨b, 0, none⟩)] w fun e w' => e = .returned (.tuple #[]) ∧ Lib.BuilderAt 72 5 B b (.pointer (some ⟨b, 0, none⟩)) (Lib.byteCells l) w' ∧ Below B w w' ∧ FarB b w w' := by
  rcases h with h | h
  · refine (Sc.check_fresh b w h.cell0 h.shape h.frozen0).mono ?_
    rintro e w' ⟨rfl, rfl⟩
    exact ⟨rfl, h.used _, (Below.refl B w).setCell (p := ⟨b, 0, none⟩) h.1 _, (FarB.refl b w).set _ _⟩
  · refine (Sc.check_used b w h.cell0).mono ?_
    rintro e w' ⟨rfl, rfl⟩
    exact ⟨rfl, h, Below.refl B _, FarB.refl b _⟩

set_option maxHeartbeats 1600000 in
theorem putText_far {B b : Nat} {l : Sc.Bs} {w : World} (s : ByteArray) (h : Sc.Bld B b l w) (hl : l.length + s.size ≤ 140737488355328) (hB : B ≤ w.heap.size) :
    Calls Tryz.prog 41 #[.pointer (some ⟨b, 0, none⟩), .string s] w fun e w' => e = .returned (.tuple #[.int .i64 s.size, .nilIface]) ∧ Sc.Bld B b (l ++ s.data.toList) w' ∧ Below B w w' ∧ FarB b w w' := by
  obtain ⟨i0, hi, hz0, hz1, hz2⟩ := Sc.info_parts Sc.bByte
  have HC := hide3 (check_far h)
  have hlc : (Lib.byteCells l).length = l.length := Lib.byteCells_length l
  go_enter Tryz.func41, Tryz.ntmps41
  go_wp2_with (go_at_call 67; refine HC.out.mono ?_)
  rintro e w1 ⟨rfl, h1, hb1, hf1⟩
  obtain ⟨hBb, v, hbk, hown, hne⟩ := h1
  have c0 : w1.cell? ⟨b, 0, none⟩ = some (.pointer (some ⟨b, 0, none⟩)) := by rw [Lib.cell_of_heap hbk]; rfl
  have c1 : w1.cell? ⟨b, 1, none⟩ = some v := by rw [Lib.cell_of_heap hbk]; rfl
  have hs1 := hb1.size
  go_wp2_with (at_builtin; refine Lib.wpList_append_own_string _ rfl _ _ 70 9 rfl B 5 i0 Tryz.underlying70 Tryz.underlying9 hi hz0 hz1 hz2 _ _ _ rfl hown s rfl (by unfold maxLen; omega) (by omega) (by omega) ?_)
  intro v' w2 hown' hgrow _
  have hlt : b < w1.heap.size := (Array.getElem?_eq_some_iff.1 hbk).1
  have hb2 : w2.heap[b]? = some (.cells #[.pointer (some ⟨b, 0, none⟩), v] 72 (0, 0)) := by
    rw [hgrow.block b hlt (fun e => hne e.symm)]
    exact hbk
  have HFA : Hid (FarB b w w2) := fun N cs t fr hh ht hn => by
    have hN := hf1 N cs t fr hh ht hn
    refine (hgrow.block N (Array.getElem?_eq_some_iff.1 hN).1 (fun e => ?_)).trans hN
    rcases hown.2 with ⟨hv, _⟩ | ⟨g, cap, cur, hv, _, hg, _⟩
    · rw [hv] at e; cases e
    · rw [hv] at e
      obtain rfl : N = g := Option.some.inj e
      rw [hN] at hg
      injection hg with hg
      injection hg with _ hg _
      exact ht hg
  have d0 : w2.cell? ⟨b, 0, none⟩ = some (.pointer (some ⟨b, 0, none⟩)) := by rw [Lib.cell_of_heap hb2]; rfl
  have d1 : w2.cell? ⟨b, 1, none⟩ = some v := by rw [Lib.cell_of_heap hb2]; rfl
  have f1 : w2.frozen? ⟨b, 1, none⟩ = false := Lib.frozen_of_heap hb2 1
  obtain ⟨ao, n', cap, rfl⟩ : ∃ ao n' cap, v' = .slice ao n' cap := by
    rcases hown'.2 with ⟨hv, _⟩ | ⟨g, cap, cur, hv, _⟩
    · exact ⟨_, _, _, hv⟩
    · exact ⟨_, _, _, hv⟩
  clear hf1
  go_wp2
  go_ret2
  refine ⟨rfl, Or.inr ?_, ?_, HFA.out.set _ _⟩
  · refine Lib.BuilderAt.put (T := 72) (e := 5) hBb hb2 ?_ (by decide)
    rw [Lib.byteCells_append, List.length_append, ← Lib.strCells_eq, hlc]
    simpa [Lib.strCells_length] using hown'
  · exact (hb1.grown hgrow (by omega) (fun k hk => (hown.lt k hk).1)).setCell (p := ⟨b, 1, none⟩) hBb _

/-- A line: three texts, blanks between, a line's end. -/
def lineB (x n r : ByteArray) : Sc.Bs := x.data.toList ++ ([32] ++ (n.data.toList ++ ([32] ++ (r.data.toList ++ [10]))))

theorem Len_any {B b : Nat} {l : Sc.Bs} {w : World} (h : Sc.Bld B b l w) : Calls Tryz.prog 45 #[.pointer (some ⟨b, 0, none⟩)] w fun e w' => e = .returned (.int .i64 l.length) ∧ w' = w := by
  obtain ⟨v, c1, hv⟩ : ∃ v, w.cell? ⟨b, 1, none⟩ = some v ∧ ∃ ad cap, v = .slice ad l.length cap := by
    rcases h with ⟨_, v, hbk, hown, _⟩ | ⟨_, v, hbk, hown, _⟩ <;>
    · refine ⟨v, by rw [Lib.cell_of_heap hbk]; rfl, ?_⟩
      rcases hown.2 with ⟨hv, hn⟩ | ⟨g, cap, cur, hv, _⟩
      · rw [Lib.byteCells_length] at hn
        exact ⟨none, 0, by rw [hv, hn]⟩
      · rw [Lib.byteCells_length] at hv
        exact ⟨_, _, hv⟩
  obtain ⟨ad, cap, rfl⟩ := hv
  go_enter Tryz.func45, Tryz.ntmps45
  go_wp2
  go_ret
  exact ⟨rfl, rfl⟩
end Go.Proofs.YthoacfmfpbngkaaGreatDoor
namespace Go.Proofs.YthoacfmfpbngkaaGreatDoor
open Go.RowKit
set_option maxRecDepth 100000

def plS (s : Sp) : Int × Int := (rankV s.a s.b s.c, rankV s.x s.y s.z)
theorem pl_sp {A : Rg} (hA : RangeR A) : (A.map spR).map plS = A := by
  rw [List.map_map]
  conv => rhs; rw [← List.map_id A]
  refine List.map_congr_left fun p hp => ?_
  obtain ⟨h1, h2, _⟩ := hA.ok p hp
  show (rankV (atA p.1) (atB p.1) (atC p.1), rankV (atA p.2) (atB p.2) (atC p.2)) = p
  have e1 := (may_at (n := p.1) (by unfold hasV; obtain ⟨a, b⟩ := h1; simp; omega)).2
  have e2 := (may_at (n := p.2) (by unfold hasV; obtain ⟨a, b⟩ := h2; simp; omega)).2
  rw [e1, e2]
/-- A range's text. -/
def prS (L : List Sp) : ByteArray := printR (L.map plS)
theorem sPrint_sp {L : List Sp} {u : Value} {w : World} (h : rangeB L = true) (hu : SpansC w u L) (he : Env w) (hf : FL w) :
    Calls Tryz.prog 69 #[u] w fun e w' => e = .returned (.string (prS L)) ∧ Below w.heap.size w w' := by
  unfold rangeB at h
  rw [Bool.and_eq_true] at h
  obtain ⟨A, rfl, hA, hl⟩ := may_iff.1 h.2
  unfold prS
  rw [pl_sp hA]
  exact sPrint_rg hA hl hu.rg he hf
theorem prS_size {L : List Sp} (h : rangeB L = true) : (prS L).size ≤ 4096 := by
  unfold rangeB at h
  rw [Bool.and_eq_true] at h
  obtain ⟨A, rfl, hA, hl⟩ := may_iff.1 h.2
  unfold prS
  rw [pl_sp hA]
  exact print_size hl

/-- The lines of a list. -/
def listT (x : ByteArray) (L : List Dp) : Sc.Bs := L.flatMap fun d => lineB x d.nm (prS d.rg)

theorem listT_snoc {x : ByteArray} {L : List Dp} {k : Nat} (h : k < L.length) : listT x (L.take (k + 1)) = listT x (L.take k) ++ lineB x L[k].nm (prS L[k].rg) := by
  unfold listT
  rw [List.take_succ_eq_append_getElem h, List.flatMap_append]
  simp
theorem rise_all : ∀ {L : List Dp} {q : Option ByteArray}, riseD q L = true → ∀ d ∈ L, d.nm.size ≤ 16 ∧ rangeB d.rg = true
  | [], _, _, d, hd => by cases hd
  | e :: M, q, hq, d, hd => by
    rw [riseD, Bool.and_eq_true, Bool.and_eq_true] at hq
    rcases List.mem_cons.1 hd with rfl | hd
    · have := hq.1.1
      unfold followB at this
      rw [Bool.and_eq_true] at this
      have := this.1
      unfold Sc.nameA at this
      rw [Bool.and_eq_true, decide_eq_true_eq, list_size] at this
      exact ⟨this.2, hq.1.2⟩
    · exact rise_all hq.2 d hd
theorem line_len {x n r : ByteArray} (hx : x.size ≤ 16) (hn : n.size ≤ 16) (hr : r.size ≤ 4096) : (lineB x n r).length ≤ 5000 := by
  unfold lineB
  simp only [List.length_append, list_size, List.length_cons, List.length_nil]
  omega
theorem list_len {x : ByteArray} (hx : x.size ≤ 16) {L : List Dp} (h : mayD L = true) (k : Nat) : (listT x (L.take k)).length ≤ 80000 := by
  unfold mayD at h
  rw [Bool.and_eq_true, decide_eq_true_eq] at h
  have : ∀ M : List Dp, (∀ d ∈ M, d.nm.size ≤ 16 ∧ rangeB d.rg = true) → (listT x M).length ≤ 5000 * M.length := by
    intro M
    induction M with
    | nil => intro _; simp [listT]
    | cons d M ih =>
      intro hM
      have h1 := ih fun e he => hM e (List.mem_cons_of_mem _ he)
      have h2 := line_len (x := x) hx (hM d List.mem_cons_self).1 (prS_size (hM d List.mem_cons_self).2)
      have : listT x (d :: M) = lineB x d.nm (prS d.rg) ++ listT x M := by unfold listT; simp
      rw [this, List.length_append, List.length_cons]
      omega
  have h2 := this (L.take k) fun d hd => rise_all h.2 d (List.mem_of_mem_take hd)
  have h3 : (L.take k).length ≤ 16 := by rw [List.length_take]; omega
  omega

/-- The text under way. -/
def TW (w1 : World) (l : Sc.Bs) (w' : World) : Prop := Sc.Bld w1.heap.size w1.heap.size l w' ∧ Below w1.heap.size w1 w'
theorem bld_below {B b : Nat} {l : Sc.Bs} {w w' : World} (h : Sc.Bld B b l w) (hb : Below w.heap.size w w') : Sc.Bld B b l w' := by
  have step : ∀ p, Lib.BuilderAt 72 5 B b p (Lib.byteCells l) w → Lib.BuilderAt 72 5 B b p (Lib.byteCells l) w' := by
    rintro p ⟨hB, v, hbk, hown, hne⟩
    refine ⟨hB, v, (hb.block b (Array.getElem?_eq_some_iff.1 hbk).1).trans hbk, ⟨hown.1, hown.2.imp id ?_⟩, hne⟩
    rintro ⟨g, cap, cur, rfl, h1, hg, h2⟩
    exact ⟨g, cap, cur, rfl, h1, (hb.block g (Array.getElem?_eq_some_iff.1 hg).1).trans hg, h2⟩
  exact h.imp (step _) (step _)
theorem keepTW (w1 : World) (l : Sc.Bs) : KeepP (TW w1 l) := fun _ _ h hb => ⟨bld_below h.1 hb, below_then h.2 hb⟩
theorem TW.new (w1 : World) : TW w1 [] (w1.alloc (.cells #[.pointer none, .slice none 0 0] 72)) := ⟨Lib.fresh_isBuilder _ _ w1, boxB _ _⟩
theorem TW.far {w1 : World} {l : Sc.Bs} {w' : World} (h : TW w1 l w') : w1.heap.size < w'.heap.size := by
  rcases h.1 with h | h <;> exact h.lt
theorem TW.put {w1 wz : World} {l : Sc.Bs} (h : TW w1 l wz) (s : ByteArray) (hl : l.length ≤ 1000000000) (hs : s.size ≤ 1000000) :
    Calls Tryz.prog 41 #[.pointer (some ⟨w1.heap.size, 0, none⟩), .string s] wz fun e w' => e = .returned (.tuple #[.int .i64 s.size, .nilIface]) ∧ TW w1 (l ++ s.data.toList) w' ∧ FarB w1.heap.size wz w' := by
  refine (putText_far s h.1 (by omega) h.2.size).mono ?_
  rintro e w' ⟨rfl, g1, g2, g3⟩
  exact ⟨rfl, ⟨g1, h.2.trans g2⟩, g3⟩
end Go.Proofs.YthoacfmfpbngkaaGreatDoor
namespace Go.Proofs.YthoacfmfpbngkaaGreatDoor
open Go.RowKit
set_option maxRecDepth 100000

theorem ba_toList (l : Sc.Bs) : (Sc.ba l).toList = l := by rw [ByteArray.toList_eq]; simp [Sc.ba]

/-- Words with a blank between. -/
def jnT (ws : List Sc.Bs) : ByteArray := ⟨(Lib.join ws [32]).toArray⟩
theorem Join_words {w : World} {v : Value} {ws : List Sc.Bs} (h : Sc.WordsAt w v ws) (hne : ws ≠ []) (hl : ws.length ≤ 1000000) (hj : (Lib.join ws [32]).length ≤ 1000000) :
    Calls Tryz.prog 63 #[v, .string ⟨#[32]⟩] w fun e w' => e = .returned (.string (jnT ws)) ∧ Below w.heap.size w w' := by
  obtain ⟨ad, cap, rfl, hc, hs⟩ := h
  rcases hs with hs | ⟨g, o, rfl, hg, hs⟩
  · exact (hne hs).elim
  · have e1 : (ws.map Sc.ba).map (·.data.toList) = ws := by
      rw [List.map_map]
      conv => rhs; rw [← List.map_id ws]
      exact List.map_congr_left fun x _ => by simp [Sc.ba]
    have := Tryz.strings_Join g o cap (ws.map Sc.ba) ⟨#[32]⟩ w (fun j x hx => by
      rw [List.getElem?_map] at hx
      cases hw : ws[j]? with
      | none => rw [hw] at hx; cases hx
      | some y =>
        rw [hw] at hx
        obtain ⟨hlt, rfl⟩ := List.getElem?_eq_some_iff.1 hw
        cases hx
        exact hs j hlt) hg (by rw [List.length_map]; omega) (by rw [List.length_map]; exact hc) (by rw [e1]; show (Lib.join ws [32]).length ≤ _; omega)
    rw [List.length_map, e1] at this
    exact this

/-- What readDep answers: the range, or an error's number. -/
def depE (q : Option ByteArray) (n : ByteArray) (ws : List Sc.Bs) : Int := if followB q n = true then (if parE (parR (jnT ws)) = 0 ∧ rangeB ((parL (parR (jnT ws))).map spR) = true then 0 else 21) else 23
/-- Nothing of a dependency, beside an error. -/
def DepQ (w : World) (n : ByteArray) (ws : List Sc.Bs) (er : Int) (e : Ending) (w' : World) : Prop := ∃ nm ad len cap, e = .returned (.tuple #[.agg #[.string nm, .slice ad len cap], .int .i64 er]) ∧ Below w.heap.size w w' ∧ (er = 0 → nm = n ∧ OwnS w' w.heap.size (.slice ad len cap) ((parL (parR (jnT ws))).map spR)) ∧ (er ≠ 0 → nm = ⟨#[]⟩ ∧ ad = none ∧ len = 0 ∧ cap = 0)
end Go.Proofs.YthoacfmfpbngkaaGreatDoor
namespace Go.Proofs.YthoacfmfpbngkaaGreatDoor
open Go.RowKit
set_option maxRecDepth 100000

/-- A dependency's variable that may be written. -/
def BxDF (w : World) (N : Nat) (s : ByteArray) (u : Value) : Prop := BxD w N s u ∧ w.frozen? ⟨N, 0, none⟩ = false ∧ w.frozen? ⟨N, 1, none⟩ = false
theorem keepBxDF (N : Nat) (s : ByteArray) (u : Value) : KeepP fun w1 => BxDF w1 N s u := fun _ _ h hb =>
  ⟨keepBxD _ _ _ _ _ h.1 hb, (hb.frozen (p := ⟨N, 0, none⟩) h.1.2.2).trans h.2.1, (hb.frozen (p := ⟨N, 1, none⟩) h.1.2.2).trans h.2.2⟩
theorem BxDF.new {w : World} {N : Nat} (hN : w.heap.size = N) (s : ByteArray) (u : Value) : BxDF (w.alloc (.cells #[.string s, u] 60)) N s u := by
  refine ⟨BxD.new hN _ _, ?_, ?_⟩ <;> subst hN <;> simp
theorem set2 {w : World} {N : Nat} {x y : Value} (j0 : w.cell? ⟨N, 0, none⟩ = some x) (j1 : w.cell? ⟨N, 1, none⟩ = some y) :
    (∀ u, (w.setCell ⟨N, 0, none⟩ u).cell? ⟨N, 0, none⟩ = some u) ∧ (∀ u, (w.setCell ⟨N, 0, none⟩ u).cell? ⟨N, 1, none⟩ = some y) ∧ (∀ u v, ((w.setCell ⟨N, 0, none⟩ u).setCell ⟨N, 1, none⟩ v).cell? ⟨N, 0, none⟩ = some u) ∧ (∀ u v, ((w.setCell ⟨N, 0, none⟩ u).setCell ⟨N, 1, none⟩ v).cell? ⟨N, 1, none⟩ = some v) := by
  have k1 : ∀ u, (w.setCell ⟨N, 0, none⟩ u).cell? ⟨N, 1, none⟩ = some y := fun u => (World.cell?_setCell_other _ _ _ _ (by simp)).trans j1
  have k0 : ∀ u, (w.setCell ⟨N, 0, none⟩ u).cell? ⟨N, 0, none⟩ = some u := fun u => World.cell?_setCell_same _ _ _ j0
  exact ⟨k0, k1, fun u v => (World.cell?_setCell_other _ _ _ _ (by simp)).trans (k0 u), fun u v => World.cell?_setCell_same _ _ _ (k1 u)⟩
theorem below_set2 {w w' : World} {N B : Nat} {x y : Value} (hN : B ≤ N) (h : Below B w w') : Below B w ((w'.setCell ⟨N, 0, none⟩ x).setCell ⟨N, 1, none⟩ y) := (h.setCell (p := ⟨N, 0, none⟩) hN _).setCell (p := ⟨N, 1, none⟩) hN _

theorem DepQ.err {w w' : World} {n : ByteArray} {ws : List Sc.Bs} {er : Int} (h : er ≠ 0) (hb : Below w.heap.size w w') : DepQ w n ws er (.returned (.tuple #[.agg #[.string ⟨#[]⟩, .slice none 0 0], .int .i64 er])) w' := ⟨⟨#[]⟩, none, 0, 0, rfl, hb, fun e => absurd e h, fun _ => ⟨rfl, rfl, rfl, rfl⟩⟩
theorem DepQ.ok {w w' : World} {n : ByteArray} {ws : List Sc.Bs} {ad : Option Addr} {len cap : Nat} (hb : Below w.heap.size w w') (h : OwnS w' w.heap.size (.slice ad len cap) ((parL (parR (jnT ws))).map spR)) : DepQ w n ws 0 (.returned (.tuple #[.agg #[.string n, .slice ad len cap], .int .i64 0])) w' := ⟨n, ad, len, cap, rfl, hb, fun _ => ⟨rfl, h⟩, fun e => absurd rfl e⟩

set_option maxHeartbeats 1000000 in
theorem readDep_any {n : ByteArray} {vw va : Value} {ws : List Sc.Bs} {A : List Dp} {w : World} (hw : Sc.WordsAt w vw ws) (hne : ws ≠ []) (hl : ws.length ≤ 1000000) (hj : (Lib.join ws [32]).length ≤ 1000000) (ha : DepsAt w va A) (hal : A.length ≤ 1000000000000) (he : Env w) (hf : FL w) :
    Calls Tryz.prog 39 #[.string n, vw, va] w (DepQ w n ws (depE (lastN A) n ws)) := by
  have HFO : Hid (∀ w1, Below w.heap.size w w1 → Calls Tryz.prog 61 #[va, .string n] w1 fun e w' => e = .returned (.bool (followB (lastN A) n)) ∧ w' = w1) := fun w1 hb => mayFollow_any (ha.below hb) hal n
  have HJO : Hid (∀ w1, Below w.heap.size w w1 → Calls Tryz.prog 63 #[vw, .string ⟨#[32]⟩] w1 fun e w' => e = .returned (.string (jnT ws)) ∧ Below w1.heap.size w1 w') := fun w1 hb => Join_words (hw.below hb) hne hl hj
  have HPA : Hid (∀ w1, Below w.heap.size w w1 → Calls Tryz.prog 62 #[.string (jnT ws)] w1 fun e w' => ∃ v, e = .returned (.tuple #[v, .int .i64 (parE (parR (jnT ws)))]) ∧ OwnS w' w1.heap.size v ((parL (parR (jnT ws))).map spR) ∧ Below w1.heap.size w1 w') := fun w1 hb => sParse_all _ w1 (he.below hb) (hf.below hb)
  have HRA : Hid (∀ w1 B v, OwnS w1 B v ((parL (parR (jnT ws))).map spR) → Calls Tryz.prog 64 #[v] w1 fun e w' => e = .returned (.bool (rangeB ((parL (parR (jnT ws))).map spR))) ∧ Below w1.heap.size w1 w') := fun w1 B v h => mayRange_any h.spans.at
  have HB0 : Hid (BxDF (w.alloc (.cells #[.string ⟨#[]⟩, .slice none 0 0] 60)) w.heap.size ⟨#[]⟩ (.slice none 0 0)) := BxDF.new rfl _ _
  have HKB : Hid (KeepP fun w1 => BxDF w1 w.heap.size ⟨#[]⟩ (.slice none 0 0)) := keepBxDF _ _ _
  have HE : Hid (depE (lastN A) n ws = if followB (lastN A) n = true then (if parE (parR (jnT ws)) = 0 ∧ rangeB ((parL (parR (jnT ws))).map spR) = true then 0 else 21) else 23) := rfl
  have HER : Hid (∀ (er : Int) w', er ≠ 0 → Below w.heap.size w w' → DepQ w n ws er (.returned (.tuple #[.agg #[.string ⟨#[]⟩, .slice none 0 0], .int .i64 er])) w') := fun er w' h hb => DepQ.err h hb
  have HOK : Hid (∀ ad len cap w', Below w.heap.size w w' → OwnS w' w.heap.size (.slice ad len cap) ((parL (parR (jnT ws))).map spR) → DepQ w n ws 0 (.returned (.tuple #[.agg #[.string n, .slice ad len cap], .int .i64 0])) w') := fun ad len cap w' hb h => DepQ.ok hb h
  clear hw ha he hf hne hl hj hal
  generalize followB (lastN A) n = fo at *
  generalize depE (lastN A) n ws = de at *
  generalize hQ : DepQ w n ws = DQ at *
  clear hQ
  generalize (parL (parR (jnT ws))).map spR = X at *
  generalize parE (parR (jnT ws)) = er at *
  generalize jnT ws = tx at *
  generalize rangeB X = rb at *
  cases fo
  · obtain rfl : de = 23 := by rw [HE.out]; rfl
    go_enter Tryz.func39, Tryz.ntmps39
    go_wp2_with (go_at_call 61; refine (HFO.out _ (boxB _ _)).mono ?_; rintro e w1 ⟨rfl, rfl⟩)
    try simp only [Exit.inBlock, Exit.then]
    refine bodyPost_ret (by simp [results, Tryz.results39, go_sem]; try rfl) rfl ?_
    exact HER.out 23 _ (by decide) (boxB _ _)
  · by_cases hpe : er = 0
    · subst hpe
      cases rb
      · obtain rfl : de = 21 := by rw [HE.out]; rfl
        go_enter Tryz.func39, Tryz.ntmps39
        go_wp2_with (first
          | (go_at_call 61; refine (HFO.out _ (boxB _ _)).mono ?_; rintro e w1 ⟨rfl, rfl⟩)
          | (go_at_call 63; refine (HJO.out _ (boxB _ _)).mono ?_; rintro e w2 ⟨rfl, ok⟩; have HO2 : Hid (Below w.heap.size w w2 ∧ BxDF w2 w.heap.size ⟨#[]⟩ (.slice none 0 0)) := ⟨below_then (boxB _ _) ok, HKB.out _ _ HB0.out ok⟩; clear ok)
          | (go_at_call 62; refine (HPA.out _ HO2.out.1).mono ?_; rintro e w3 ⟨v3, rfl, h1, ok⟩; have HO3 : Hid ((Below w.heap.size w w3 ∧ BxDF w3 w.heap.size ⟨#[]⟩ (.slice none 0 0)) ∧ OwnS w3 w2.heap.size v3 X) := ⟨⟨below_then HO2.out.1 ok, HKB.out _ _ HO2.out.2 ok⟩, h1⟩; clear ok h1)
          | (go_at_call 64; refine (HRA.out _ _ _ HO3.out.2).mono ?_; rintro e w4 ⟨rfl, ok⟩; have HO4 : Hid (Below w.heap.size w w4 ∧ BxDF w4 w.heap.size ⟨#[]⟩ (.slice none 0 0)) := ⟨below_then HO3.out.1.1 ok, HKB.out _ _ HO3.out.1.2 ok⟩; obtain ⟨⟨b0, b1, b2⟩, b3, b4⟩ := HO4.out.2; obtain ⟨s0, s1, s2, s3⟩ := set2 b0 b1; clear ok))
        try simp only [Exit.inBlock, Exit.then]
        refine bodyPost_ret (by simp [results, Tryz.results39, s2, s3, go_sem]; try rfl) rfl ?_
        exact HER.out 21 _ (by decide) (below_set2 (Nat.le_refl _) HO4.out.1)
      · obtain rfl : de = 0 := by rw [HE.out]; rfl
        go_enter Tryz.func39, Tryz.ntmps39
        go_wp2_with (first
          | (go_at_call 61; refine (HFO.out _ (boxB _ _)).mono ?_; rintro e w1 ⟨rfl, rfl⟩)
          | (go_at_call 63; refine (HJO.out _ (boxB _ _)).mono ?_; rintro e w2 ⟨rfl, ok⟩; have HO2 : Hid (Below w.heap.size w w2 ∧ BxDF w2 w.heap.size ⟨#[]⟩ (.slice none 0 0)) := ⟨below_then (boxB _ _) ok, HKB.out _ _ HB0.out ok⟩; clear ok)
          | (go_at_call 62; refine (HPA.out _ HO2.out.1).mono ?_; rintro e w3 ⟨v3, rfl, h1, ok⟩; obtain ⟨ad3, cap3, rfl, _⟩ := h1.sp; have HO3 : Hid ((Below w.heap.size w w3 ∧ BxDF w3 w.heap.size ⟨#[]⟩ (.slice none 0 0)) ∧ OwnS w3 w2.heap.size (.slice ad3 X.length cap3) X) := ⟨⟨below_then HO2.out.1 ok, HKB.out _ _ HO2.out.2 ok⟩, h1⟩; clear ok h1)
          | (go_at_call 64; refine (HRA.out _ _ _ HO3.out.2).mono ?_; rintro e w4 ⟨rfl, ok⟩; have HO4 : Hid ((Below w.heap.size w w4 ∧ BxDF w4 w.heap.size ⟨#[]⟩ (.slice none 0 0)) ∧ OwnS w4 w2.heap.size (.slice ad3 X.length cap3) X) := ⟨⟨below_then HO3.out.1.1 ok, HKB.out _ _ HO3.out.1.2 ok⟩, HO3.out.2.below ok⟩; obtain ⟨⟨b0, b1, b2⟩, b3, b4⟩ := HO4.out.1.2; obtain ⟨s0, s1, s2, s3⟩ := set2 b0 b1; clear ok))
        try simp only [Exit.inBlock, Exit.then]
        refine bodyPost_ret (by simp [results, Tryz.results39, s2, s3, go_sem]; try rfl) rfl ?_
        have hg2 : w.heap.size < w2.heap.size := HO2.out.2.1.2.2
        have hne : (Value.slice ad3 X.length cap3).ownBlock ≠ some w.heap.size := fun e => by
          have := (HO4.out.2.lt e).2
          omega
        exact HOK.out ad3 X.length cap3 _ (below_set2 (Nat.le_refl _) HO4.out.1.1) (((HO4.out.2.base HO2.out.1.size).set hne 0 _).set hne 1 _)
    · obtain rfl : de = 21 := by rw [HE.out, if_pos rfl, if_neg (fun h => hpe h.1)]
      have hpe' : (er == 0) = false := beq_eq_false_iff_ne.2 hpe
      go_enter Tryz.func39, Tryz.ntmps39
      go_wp2_with (first
        | (go_at_call 61; refine (HFO.out _ (boxB _ _)).mono ?_; rintro e w1 ⟨rfl, rfl⟩)
        | (go_at_call 63; refine (HJO.out _ (boxB _ _)).mono ?_; rintro e w2 ⟨rfl, ok⟩; have HO2 : Hid (Below w.heap.size w w2 ∧ BxDF w2 w.heap.size ⟨#[]⟩ (.slice none 0 0)) := ⟨below_then (boxB _ _) ok, HKB.out _ _ HB0.out ok⟩; clear ok)
        | (go_at_call 62; refine (HPA.out _ HO2.out.1).mono ?_; rintro e w3 ⟨v3, rfl, h1, ok⟩; have HO3 : Hid (Below w.heap.size w w3 ∧ BxDF w3 w.heap.size ⟨#[]⟩ (.slice none 0 0)) := ⟨below_then HO2.out.1 ok, HKB.out _ _ HO2.out.2 ok⟩; obtain ⟨⟨b0, b1, b2⟩, b3, b4⟩ := HO3.out.2; obtain ⟨s0, s1, s2, s3⟩ := set2 b0 b1; clear ok h1))
      try simp only [Exit.inBlock, Exit.then]
      refine bodyPost_ret (by simp [results, Tryz.results39, s2, s3, go_sem]; try rfl) rfl ?_
      exact HER.out 21 _ (by decide) (below_set2 (Nat.le_refl _) HO3.out.1)
end Go.Proofs.YthoacfmfpbngkaaGreatDoor
