/- Rp5, Rk10, laid in one text. -/
import Derived.Test.YtjfbgiajjkjghaaGreatDoorMg22
namespace Go.Proofs.YtjfbgiajjkjghaaGreatDoor
open Go.RowKit
set_option maxRecDepth 100000

theorem word_any_doc (p : Bt) (hp : p.length ≤ 1048576) (w : World) : Calls Tryz.prog 76 #[.string (bt p)] w fun e w' => ∃ v, e = .returned (.tuple #[v, .bool (wordR (bt p)).isSome]) ∧ SpansR w' v ((wordR (bt p)).getD []) ∧ Below w.heap.size w w' := by
  rw [word_doc]
  by_cases h : p = [42]
  · subst h; exact word_star_doc w
  · exact word_walk_doc p hp h w

/-- Folded of two ranges of one span at most: what both have. -/
theorem Folded_meet {A B : Rg} (hA : RangeR A) (hB : RangeR B) (la : A.length ≤ 1) (lb : B.length ≤ 1) {va vb : Value} {w : World} (ha : SpansR w va A) (hb : SpansR w vb B) :
    Calls Tryz.prog 77 #[.int .u8 109, va, vb] w fun e w' => ∃ v, e = .returned (.tuple #[v, .int .i64 0]) ∧ SpansR w' v (meetR A B) ∧ Below w.heap.size w w' := by
  have := Folded_walk 109 _ _ va vb w (by simp; omega) ha.at hb.at
  rw [rk_sp hA, rk_sp hB, foldK_meet hA hB, full_0 (by have := meet_one hA hB la lb; omega), fit_of (by have := meet_one hA hB la lb; omega)] at this
  refine this.mono ?_
  rintro e w' ⟨v, rfl, h1, h2⟩
  exact ⟨v, rfl, h1.spans, h2⟩

theorem rk_okq {C : Rg} (hC : OkQ C) : (C.map spR).map rkS = C := by
  rw [List.map_map]
  conv => rhs; rw [← List.map_id C]
  refine List.map_congr_left fun p hp => ?_
  obtain ⟨h1, h2⟩ := hC p hp
  show (rankV (atA p.1) (atB p.1) (atC p.1), rankV (atA p.2) (atB p.2) (atC p.2)) = p
  have e1 := (may_at (n := p.1) (by unfold hasV; obtain ⟨a, b⟩ := h1; simp; omega)).2
  have e2 := (may_at (n := p.2) (by unfold hasV; obtain ⟨a, b⟩ := h2; simp; omega)).2
  rw [e1, e2]

/-- Nothing is put behind a row. -/
theorem wp_app0 {w : World} {ops : Array Oper} {rest : List Oper} {o : Oper} {f : Act} {Q : Exit → Act → World → Prop} (hgd : o.guard = none) (s x : Operand) (t : TypeId)
    (ho : o.op = .call { callee := .builtin .append, args := #[s, x], argTypes := #[t, t] }) (e : TypeId) (i : TypeInfo) (ht : Tryz.prog.underlying t = some (.slice e)) (hi : Tryz.prog.info? e = some i)
    {base : Option Addr} {n cap : Nat} (hs : f.eval s = .slice base n cap) (hn : n ≤ cap) {ad : Option Addr} {c : Nat} (hx : f.eval x = .slice ad 0 c)
    (h : wpList Tryz.prog ops Q rest (f.put o.dst (.slice base n cap)) w) : wpList Tryz.prog ops Q (o :: rest) f w := by
  refine wpList_plain hgd fun K hK => ?_
  have hr : (Builtin.append_ #[t, t] o.type #[.slice base n cap, .slice ad 0 c]).run Tryz.prog w = .ok (.slice base n cap) w := by
    cases ad <;> cases base <;> simp [Builtin.append_, run_underlying ht, sizeOf, typeInfo, hi, Builtin.lenOf, hn, Builtin.firstCells, loadCells, loadCellsFrom, storeCells]
  unfold Oper.wp execOp
  simp only [ho, resolve, invoke, builtin, Sem.run_bind, Sem.run_pure, Result.andThen_ok, List.map_toArray, List.map_cons, List.map_nil, hs, hx, hr]
  exact hK _ _ h

/-- Spans in memory, a list of one's own. -/
theorem Folded_join {B : Nat} {C : Rg} (hC : OkQ C) (lc : C.length ≤ 100000) {va : Value} {w : World} (ha : OwnS w B va (C.map spR)) :
    Calls Tryz.prog 77 #[.int .u8 106, va, .slice none 0 0] w fun e w' => ∃ v, e = .returned (.tuple #[v, .int .i64 (fullE (foldK 106 C []).length)]) ∧ OwnS w' w.heap.size v ((fitR (foldK 106 C [])).map spR) ∧ Below w.heap.size w w' := by
  obtain ⟨ad, cap, e, _, hs⟩ := ha.sp
  have := Folded_walk 106 (C.map spR) [] va (.slice none 0 0) w (by simp; omega) ⟨ad, cap, e, hs⟩ ⟨none, 0, rfl, Or.inl rfl⟩
  rw [rk_okq hC] at this
  exact this

set_option maxHeartbeats 2000000 in
theorem rParse3_walk (s : ByteArray) (hs : s.size ≤ 4096) (w : World) :
    Calls Tryz.prog 60 #[.string s] w fun e w' => ∃ v, e = .returned (.tuple #[v, .int .i64 (parE (altR s))]) ∧ OwnS w' w.heap.size v ((parL (altR s)).map spR) ∧ Below w.heap.size w w' := by
  have HAL : Hid (Calls Tryz.prog 73 #[.string s] w fun e w' => ∃ v, e = .returned v ∧ OwnK w' w.heap.size v (seg [124, 124] [] s.data.toList) ∧ (seg [124, 124] [] s.data.toList).length ≤ s.size + 1 ∧ Below w.heap.size w w') := alternatives_walk s (by omega) w
  have HWS : Hid (∀ p : Bt, p.length ≤ 4096 → ∀ w1, Calls Tryz.prog 74 #[.string (bt p)] w1 fun e w' => ∃ v, e = .returned v ∧ TxtsAt w' v (wordsD p) ∧ (wordsD p).length ≤ 4096 ∧ Below w1.heap.size w1 w') := fun p hp w1 => by
    refine (words_doc (bt p) (by rw [bt_size]; omega) w1).mono ?_
    rintro e w' ⟨v, rfl, h1, h2, h3⟩
    rw [bt_list] at h1 h2
    rw [bt_size] at h2
    exact ⟨v, rfl, h1.at, by omega, h3⟩
  have HAllR : Hid (∀ w1, Calls Tryz.prog 75 #[] w1 fun e w' => ∃ v, e = .returned v ∧ SpansR w' v allR ∧ Below w1.heap.size w1 w') := rAll_rg
  have HWD : Hid (∀ p : Bt, p.length ≤ 4096 → ∀ w1, Calls Tryz.prog 76 #[.string (bt p)] w1 fun e w' => ∃ v, e = .returned (.tuple #[v, .bool (wordR (bt p)).isSome]) ∧ SpansR w' v ((wordR (bt p)).getD []) ∧ Below w1.heap.size w1 w') := fun p hp w1 => word_any_doc p (by omega) w1
  have HFM : Hid (∀ w1 va vb (A B : Rg), RangeR A → RangeR B → A.length ≤ 1 → B.length ≤ 1 → SpansR w1 va A → SpansR w1 vb B → Calls Tryz.prog 77 #[.int .u8 109, va, vb] w1 fun e w' => ∃ v, e = .returned (.tuple #[v, .int .i64 0]) ∧ SpansR w' v (meetR A B) ∧ Below w1.heap.size w1 w') := fun w1 va vb A B h1 h2 h3 h4 h5 h6 => Folded_meet h1 h2 h3 h4 h5 h6
  have HFJ : Hid (∀ B w1 va (C : Rg), OkQ C → C.length ≤ 100000 → OwnS w1 B va (C.map spR) → Calls Tryz.prog 77 #[.int .u8 106, va, .slice none 0 0] w1 fun e w' => ∃ v, e = .returned (.tuple #[v, .int .i64 (fullE (foldK 106 C []).length)]) ∧ OwnS w' w1.heap.size v ((fitR (foldK 106 C [])).map spR) ∧ Below w1.heap.size w1 w') := fun B w1 va C h1 h2 h3 => Folded_join h1 h2 h3
  have HDA := hide3 (doc_alt s)
  have HSB : Hid (∀ p ∈ seg [124, 124] [] s.data.toList, p.length ≤ 4096) := fun p hp => by
    have h1 := pieces_of [124, 124] (by simp) s
    have h2 : bt p ∈ piecesB s (bt [124, 124]) := by rw [h1]; exact List.mem_map_of_mem hp
    have h3 := pieces_size (bt [124, 124]) _ _ _ h2
    rw [bt_size] at h3
    omega
  have h4096 : ¬ (4096 : Int) < (s.size : Int) := by omega
  obtain ⟨i0, hi, hz0, hz1, hz2⟩ := info_parts3 infoSpan
  generalize seg [124, 124] [] s.data.toList = ps at *
  generalize altR s = R at *
  go_enter Tryz.func60, Tryz.ntmps60
  go_wp2_with (go_at_call 73; refine HAL.out.mono ?_; rintro e w2 ⟨v2, rfl, h1, h2, hb2⟩; have HO2 := hide3 hb2; have HT2 := hide3 h1.at; have hpl : ps.length ≤ 4097 := (by omega); clear h1 h2 hb2 HAL)
  obtain ⟨ad2, cap2, rfl, hcs⟩ := HT2.out
  go_loopw [4, 6] (fun acc i wr => ∃ (k : Nat) (C : Rg), k ≤ ps.length ∧ i = .int .i64 k ∧ OkQ C ∧ C.length ≤ k ∧ OwnS wr w2.heap.size acc (C.map spR) ∧ Below w2.heap.size w2 wr ∧ altD [] ps = altD C (ps.drop k)) (fun _ i _ => ps.length - (intOf i).toNat)
  case atStart => exact ⟨0, [], Nat.zero_le _, rfl, (fun q h => by cases h), Nat.le_refl _, OwnS.nil _ _, Below.refl _ _, rfl⟩
  case round =>
    obtain ⟨k, C, hk, rfl, hC, hCl, hS, hb, heq⟩ := hrel
    have HC := hide3 hC
    have HS := hide3 hS
    have HB := hide3 hb
    have HEQ := hide3 heq
    clear hC hS heq
    by_cases hlt : k < ps.length
    · obtain ⟨g2, rfl, hg2, hcell⟩ : ∃ g, ad2 = some ⟨g, 0, none⟩ ∧ g < w2.heap.size ∧ ∀ i (h : i < ps.length), w2.cell? ⟨g, i, none⟩ = some (.string (bt ps[i])) := by
        rcases hcs with h | h
        · rw [h] at hlt; simp at hlt
        · exact h
      have hc := (hb.cell (p := ⟨g2, k, none⟩) hg2).trans (hcell k hlt)
      have HD : Hid (ps.drop k = ps[k] :: ps.drop (k + 1)) := List.drop_eq_getElem_cons hlt
      have hpk := HSB.out _ (List.getElem_mem hlt)
      generalize ps[k] = p at *
      have HWp := hide3 (HWS.out p hpk)
      have HED : Hid (altD [] ps = match meetsD allR (wordsD p) with
          | none => none
          | some X => if wordsD p = [] then none else altD (C ++ X) (ps.drop (k + 1))) := by unfold Hid; rw [HEQ.out, HD.out]; rfl
      have HWL : Hid (∀ q ∈ wordsD p, q.length ≤ 4096) := fun q hq => by
        have h1 := pieces_of [32] (by simp) (bt p)
        rw [bt_list] at h1
        have h2 : bt q ∈ piecesB (bt p) (bt [32]) := by rw [h1]; exact List.mem_map_of_mem (List.mem_filter.1 hq).1
        have h3 := pieces_size (bt [32]) _ _ _ h2
        rw [bt_size, bt_size] at h3
        omega
      generalize wordsD p = ws at *
      clear hb hcell HD HEQ
      go_wp2_with (first
        | (go_at_call 74; refine (HWp.out _).mono ?_; rintro e w3 ⟨v3, rfl, h1, h2, ok⟩; have HT3 := hide3 h1; have HB3 := hide3 ok; have hwl := h2; clear h1 h2 ok)
        | (go_at_call 75; refine (HAllR.out _).mono ?_; rintro e w4 ⟨v4, rfl, h1, ok⟩; have HA4 := hide3 h1; have HB4 : Hid (Below wr.heap.size wr w4) := below_then HB3.out ok; have HT4 := hide3 (HT3.out.below ok); clear h1 ok HB3 HT3))
      obtain ⟨ad3, cap3, rfl, hcw⟩ := HT4.out
      go_loopw [8, 9] (fun one j wq => ∃ (m : Nat) (X : Rg), m ≤ ws.length ∧ j = .int .i64 m ∧ RangeR X ∧ X.length ≤ 1 ∧ SpansR wq one X ∧ Below w4.heap.size w4 wq ∧ meetsD allR ws = meetsD X (ws.drop m)) (fun _ j _ => ws.length - (intOf j).toNat)
      case atStart => exact ⟨0, allR, Nat.zero_le _, rfl, allR_ok, Nat.le_refl _, HA4.out, Below.refl _ _, rfl⟩
      case round =>
        obtain ⟨m, X, hm, rfl, hX, hXl, hXs, hbq, heq⟩ := hrel
        have HX := hide3 hX
        have HXS := hide3 hXs
        have HBQ := hide3 hbq
        have HMQ := hide3 heq
        clear hX hXs heq
        by_cases hmt : m < ws.length
        · obtain ⟨g3, rfl, hg3, hcell3⟩ : ∃ g, ad3 = some ⟨g, 0, none⟩ ∧ g < w4.heap.size ∧ ∀ i (h : i < ws.length), w4.cell? ⟨g, i, none⟩ = some (.string (bt ws[i])) := by
            rcases hcw with h | h
            · rw [h] at hmt; simp at hmt
            · exact h
          have hc3 := (hbq.cell (p := ⟨g3, m, none⟩) hg3).trans (hcell3 m hmt)
          have HD3 : Hid (ws.drop m = ws[m] :: ws.drop (m + 1)) := List.drop_eq_getElem_cons hmt
          have hql := HWL.out _ (List.getElem_mem hmt)
          generalize ws[m] = q at *
          have HQ := hide3 (HWD.out q hql)
          clear hbq hcell3
          cases hw : wordR (bt q) with
          | none =>
            have HN : Hid (altD [] ps = none) := by
              unfold Hid
              have : meetsD allR ws = none := by rw [HMQ.out, HD3.out, meetsD, hw]
              rw [HED.out, this]
            have HRN : Hid (parE R = 21 ∧ parL R = []) := by rw [HDA.out]; unfold docD; rw [HN.out]; exact ⟨rfl, rfl⟩
            rw [hw] at HQ
            go_wp2_with (go_at_call 76; refine (HQ.out _).mono ?_; rintro e w5 ⟨v5, rfl, h1, ok⟩; have HB5 := hide3 (below_then HO2.out (below_then HB.out (below_then HB4.out (below_then HBQ.out ok)))); clear h1 ok)
            go_ret2
            exact ⟨_, by rw [HRN.out.1]; rfl, by rw [HRN.out.2]; exact OwnS.nil _ _, HB5.out⟩
          | some Y =>
            have HYR := hide3 (word_rg hw)
            have hY1 := word_one hw
            have HM2 : Hid (meetsD allR ws = meetsD (meetR X Y) (ws.drop (m + 1))) := by unfold Hid; rw [HMQ.out, HD3.out, meetsD, hw]
            rw [hw] at HQ
            clear hw HMQ HD3
            go_wp2_with (first
              | (go_at_call 76; refine (HQ.out _).mono ?_; rintro e w5 ⟨v5, rfl, h1, ok⟩; have HS5 : Hid (SpansR w5 v5 Y) := h1; have HX5 := hide3 (HXS.out.below ok); have HB5 := hide3 (below_then HBQ.out ok); clear h1 ok)
              | (go_at_call 77; refine (HFM.out _ _ _ X Y HX.out HYR.out hXl hY1 HX5.out HS5.out).mono ?_; rintro e w6 ⟨v6, rfl, h1, ok⟩; have HS6 := hide3 h1; have HB6 := hide3 (below_then HB5.out ok); clear h1 ok))
            exact ⟨⟨m + 1, meetR X Y, by omega, by go_num, HX.out.meet HYR.out, meet_one HX.out HYR.out hXl hY1, HS6.out, HB6.out, HM2.out⟩, by simp [intOf]; omega⟩
        · have HM2 : Hid (meetsD allR ws = some X) := by unfold Hid; rw [HMQ.out, List.drop_of_length_le (by omega)]; rfl
          obtain ⟨adX, capX, rfl, hcX, hsX⟩ := HXS.out
          by_cases h0 : ws = []
          · have HN : Hid (altD [] ps = none) := by unfold Hid; rw [HED.out, HM2.out]; simp only; rw [if_pos h0]
            have HRN : Hid (parE R = 21 ∧ parL R = []) := by rw [HDA.out]; unfold docD; rw [HN.out]; exact ⟨rfl, rfl⟩
            have hw0 : ((ws.length : Int) == 0) = true := by rw [h0]; rfl
            clear hbq
            go_wp2
            go_ret2
            exact ⟨_, by rw [HRN.out.1]; rfl, by rw [HRN.out.2]; exact OwnS.nil _ _, below_then HO2.out (below_then HB.out (below_then HB4.out HBQ.out))⟩
          · have hw0 : ((ws.length : Int) == 0) = false := by
              have : 0 < ws.length := List.length_pos_iff.2 h0
              rw [beq_eq_false_iff_ne]; omega
            have HE2 : Hid (altD [] ps = altD (C ++ X) (ps.drop (k + 1))) := by unfold Hid; rw [HED.out, HM2.out]; simp only; rw [if_neg h0]
            have HBX : Hid (Below w2.heap.size w2 wr) := below_then HB.out (below_then HB4.out HBQ.out)
            have HSQ : Hid (OwnS wr w2.heap.size u4 (C.map spR)) := (HS.out.below HB4.out).below HBQ.out
            clear hbq
            match X, hXl with
            | [], _ =>
              obtain ⟨ad4, cap4, h4, hc4, _⟩ := HSQ.out.sp
              rw [List.length_map] at h4 hc4
              subst h4
              go_wp2_with (at_builtin; refine wp_app0 rfl (.tmp 57) (.tmp 58) 34 rfl 40 i0 Tryz.underlying34 hi rfl hc4 rfl ?_)
              exact ⟨⟨k + 1, C ++ [], by omega, by go_num, by rw [List.append_nil]; exact HC.out, by simp; omega, by rw [List.append_nil]; exact HSQ.out, HBX.out, HE2.out⟩, by simp [intOf]; omega⟩
            | [(x, y)], _ =>
              obtain ⟨gX, oX, rfl, hgX, hcX2⟩ : ∃ g o, adX = some ⟨g, o, none⟩ ∧ g < wr.heap.size ∧ ∀ i (h : i < [(x, y)].length), SpAt wr g (o + i * 6) (spR [(x, y)][i]) := by
                rcases hsX with h | h
                · cases h
                · exact h
              obtain ⟨p0, p1, p2, p3, p4, p5⟩ := (hcX2 0 (by simp)).first
              have hnews : ∀ j u, ([.int .i64 (atA x), .int .i64 (atB x), .int .i64 (atC x), .int .i64 (atA y), .int .i64 (atB y), .int .i64 (atC y)] : List Value)[j]? = some u → wr.cell? ((⟨gX, oX, none⟩ : Addr).add j) = some u := by
                intro j u hj
                have ad : (⟨gX, oX, none⟩ : Addr).add j = ⟨gX, oX + j, none⟩ := by unfold Addr.add; split <;> simp_all
                rw [ad]
                match j, hj with
                | 0, hj => cases hj; exact p0
                | 1, hj => cases hj; exact p1
                | 2, hj => cases hj; exact p2
                | 3, hj => cases hj; exact p3
                | 4, hj => cases hj; exact p4
                | 5, hj => cases hj; exact p5
              have hX1 := HX.out.okq (x, y) List.mem_cons_self
              have HOK : Hid (OkQ (C ++ [(x, y)])) := okq_append HC.out HX.out.okq
              have HNW := hide3 hnews
              clear hcX2 p0 p1 p2 p3 p4 p5 hnews hX1
              go_wp2_with (at_builtin; refine wpList_append_own_at _ rfl _ _ 34 rfl w2.heap.size 40 i0 _ 6 48 Tryz.underlying34 hi hz0 hz1 hz2 rfl (by decide) u4 _ _ rfl HSQ.out ⟨gX, oX, none⟩ 1 capX [.int .i64 (atA x), .int .i64 (atB x), .int .i64 (atC x), .int .i64 (atA y), .int .i64 (atB y), .int .i64 (atC y)] rfl rfl HNW.out (by simp [Value.oneCell']) (by unfold maxLen; rw [List.length_map]; omega) (by rw [List.length_map]; omega) HBX.out.size ?_; intro v7 w7 hown7 hg7 hnil7 hat7; have HO7 : Hid (OwnS w7 w2.heap.size v7 ((C ++ [(x, y)]).map spR) ∧ Below w2.heap.size w2 w7) := (⟨by unfold OwnS; rw [List.map_append, List.map_singleton, spCells_snoc, List.length_append]; exact hown7, HBX.out.grown hg7 HBX.out.size fun j hj => (HSQ.out.lt hj).2⟩); clear hown7 hg7 hnil7 hat7; go_frame)
              exact ⟨⟨k + 1, C ++ [(x, y)], by omega, by go_num, HOK.out, by simp; omega, HO7.out.1, HO7.out.2, HE2.out⟩, by simp [intOf]; omega⟩
    · have HN : Hid (altD [] ps = some C) := by unfold Hid; rw [HEQ.out, List.drop_of_length_le (by omega)]; rfl
      have HRN : Hid (parE R = fullE (foldK 106 C []).length ∧ parL R = fitR (foldK 106 C [])) := by rw [HDA.out]; unfold docD; rw [HN.out]; exact ⟨rfl, rfl⟩
      clear hb
      go_wp2_with (go_at_call 77; refine (HFJ.out _ _ _ C HC.out (by omega) HS.out).mono ?_; rintro e w5 ⟨v5, rfl, h1, ok⟩; have HS5 : Hid (OwnS w5 w.heap.size v5 ((fitR (foldK 106 C [])).map spR)) := h1.base (Nat.le_trans HO2.out.size HB.out.size); have HB5 := hide3 (below_then HO2.out (below_then HB.out ok)); clear h1 ok)
      go_ret2
      exact ⟨_, by rw [HRN.out.1]; rfl, by rw [HRN.out.2]; exact HS5.out, HB5.out⟩

theorem rParse3_far (s : ByteArray) (hs : 4096 < s.size) (w : World) :
    Calls Tryz.prog 60 #[.string s] w fun e w' => ∃ v, e = .returned (.tuple #[v, .int .i64 21]) ∧ OwnS w' w.heap.size v (([] : Rg).map spR) ∧ Below w.heap.size w w' := by
  have h : (4096 : Int) < (s.size : Int) := by omega
  go_enter Tryz.func60, Tryz.ntmps60
  go_wp2
  go_ret2
  exact ⟨_, rfl, OwnS.nil _ _, Below.refl _ _⟩

/-- The document's Parse of any text. -/
theorem rParse3_all (s : ByteArray) (w : World) :
    Calls Tryz.prog 60 #[.string s] w fun e w' => ∃ v, e = .returned (.tuple #[v, .int .i64 (parE (parR s))]) ∧ OwnS w' w.heap.size v ((parL (parR s)).map spR) ∧ Below w.heap.size w w' := by
  unfold parR
  by_cases h : s.size ≤ 4096
  · rw [if_pos h]; exact rParse3_walk s h w
  · rw [if_neg h]; exact rParse3_far s (by omega) w
end Go.Proofs.YtjfbgiajjkjghaaGreatDoor
namespace Go.Proofs.YtjfbgiajjkjghaaGreatDoor
open Go.RowKit
set_option maxRecDepth 100000

theorem catLd (a b : ByteArray) : (a ++ b).data.toList = a.data.toList ++ b.data.toList := by simp
theorem catZd (a b : ByteArray) : (a ++ b).size = a.size + b.size := by simp
theorem par_range0 {t : ByteArray} (h : parE (parR t) = 0) : rangeB ((parL (parR t)).map spR) = decide (0 < ((parL (parR t)).map spR).length) := by
  have hm : mayL ((parL (parR t)).map spR) = true := by
    cases hp : parR t with
    | none => rw [hp] at h; cases h
    | some R =>
      rw [hp] at h
      have hR : RangeR R := by
        unfold parR at hp
        split at hp
        · exact altR_rg hp
        · cases hp
      exact may_iff.2 ⟨fitR R, rfl, fit_ok hR, fit_len R⟩
  unfold rangeB
  rw [hm, Bool.and_true]
theorem depE_is (q : Option ByteArray) (n : ByteArray) (ws : List Sc.Bs) : depE q n ws = if followB q n = true then (if parE (parR (jnT ws)) = 0 ∧ 0 < ((parL (parR (jnT ws))).map spR).length then 0 else 21) else 23 := by
  unfold depE
  by_cases h : parE (parR (jnT ws)) = 0
  · rw [par_range0 h]
    simp only [decide_eq_true_eq]
  · simp only [h, false_and]
theorem follow_is (q : Option ByteArray) (n : ByteArray) : followB q n = (Sc.nameA n.data.toList && (match q with | none => true | some p => ltS p n)) := by
  unfold followB
  cases q <;> rfl
/-- What the document's Dep answers. -/
def rdepE (q : Option ByteArray) (ln : List Sc.Bs) : Int := if ln.length < 3 then 22 else depE q (Sc.ba (ln.getD 1 [])) (ln.drop 2)

set_option maxHeartbeats 1000000 in
theorem rDep_short {n0 : ByteArray} {ws : List Sc.Bs} {ad : Option Addr} {n cap : Nat} {last : ByteArray} {w : World} (h : n < 3) :
    Calls Tryz.prog 46 #[.slice ad n cap, .string last] w (DepQ w n0 ws 22) := by
  have HER : Hid (∀ w', Below w.heap.size w w' → DepQ w n0 ws 22 (.returned (.tuple #[.agg #[.string ⟨#[]⟩, .slice none 0 0], .int .i64 22])) w') := fun w' hb => DepQ.err (by decide) hb
  generalize DepQ w n0 ws 22 = HQ at *
  have h3 : decide ((n : Int) < 3) = true := decide_eq_true (by omega)
  go_enter Tryz.func46, Tryz.ntmps46
  go_wp2
  try simp only [Exit.inBlock, Exit.then]
  refine bodyPost_ret (by simp [results, Tryz.results46, go_sem]; try rfl) rfl ?_
  exact HER.out _ (boxB _ _)

set_option maxHeartbeats 6400000 in
theorem rDep_long {p1 x : Sc.Bs} {r : List Sc.Bs} {gw ow n cap : Nat} {q : Option ByteArray} {last : ByteArray} {w : World} (hn : n = r.length + 3) (hg : gw < w.heap.size) (c1 : w.cell? ⟨gw, ow + 1, none⟩ = some (.string (Sc.ba p1))) (c2 : w.cell? ⟨gw, ow + 2, none⟩ = some (.string (Sc.ba x)))
    (cr : ∀ i (h : i < r.length), w.cell? ⟨gw, ow + (i + 3), none⟩ = some (.string (Sc.ba r[i]))) (hr : r.length ≤ 5000) (hj : (Lib.join (x :: r) [32]).length ≤ 5000) (hp : p1.length ≤ 1000000) (hq : last = q.getD ⟨#[]⟩) (hq0 : ∀ s, q = some s → s.size ≠ 0) (hlz : last.size ≤ 1000000) :
    Calls Tryz.prog 46 #[.slice (some ⟨gw, ow, none⟩) n cap, .string last] w (DepQ w (Sc.ba p1) (x :: r) (depE q (Sc.ba p1) (x :: r))) := by
  have HN : Hid (∀ w1, Calls Tryz.prog 34 #[.string (Sc.ba p1)] w1 fun e w' => e = .returned (.bool (Sc.nameA p1)) ∧ w' = w1) := fun w1 => by have := Sc.rName_any (Sc.ba p1) (by rw [Sc.ba_size]; omega) w1; rw [Sc.ba_list] at this; exact this
  have HL : Hid (∀ w1, Calls Tryz.prog 36 #[.string last, .string (Sc.ba p1)] w1 fun e w' => e = .returned (.bool (ltS last (Sc.ba p1))) ∧ Below w1.heap.size w1 w') := fun w1 => rLess_any _ _ w1 (by omega)
  have HPA : Hid (∀ w1, Calls Tryz.prog 60 #[.string (jnT (x :: r))] w1 fun e w' => ∃ v, e = .returned (.tuple #[v, .int .i64 (parE (parR (jnT (x :: r))))]) ∧ OwnS w' w1.heap.size v ((parL (parR (jnT (x :: r)))).map spR) ∧ Below w1.heap.size w1 w') := fun w1 => rParse3_all _ w1
  have HFO : Hid (followB q (Sc.ba p1) = (Sc.nameA p1 && (last.toList == [] || ltS last (Sc.ba p1)))) := by
    unfold Hid
    rw [follow_is, Sc.ba_list, hq]
    cases hqq : q with
    | none => simp [ByteArray.toList_eq]
    | some s =>
      have hs : (s.toList == []) = false := by
        rw [beq_eq_false_iff_ne, ByteArray.toList_eq]
        intro e
        exact hq0 s hqq (by rw [← list_size, e]; rfl)
      simp [hs]
  have HDE := hide3 (depE_is q (Sc.ba p1) (x :: r))
  have HER : Hid (∀ (er : Int) w', depE q (Sc.ba p1) (x :: r) = er → er ≠ 0 → Below w.heap.size w w' → DepQ w (Sc.ba p1) (x :: r) (depE q (Sc.ba p1) (x :: r)) (.returned (.tuple #[.agg #[.string ⟨#[]⟩, .slice none 0 0], .int .i64 er])) w') := fun er w' h1 h hb => by rw [h1]; exact DepQ.err h hb
  have HOK : Hid (∀ ad len cap w', depE q (Sc.ba p1) (x :: r) = 0 → Below w.heap.size w w' → OwnS w' w.heap.size (.slice ad len cap) ((parL (parR (jnT (x :: r)))).map spR) → DepQ w (Sc.ba p1) (x :: r) (depE q (Sc.ba p1) (x :: r)) (.returned (.tuple #[.agg #[.string (Sc.ba p1), .slice ad len cap], .int .i64 0])) w') := fun ad len cap w' h1 hb h => by rw [h1]; exact DepQ.ok hb h
  have HTX : Hid (∀ T : ByteArray, T.data.toList = x ++ Lib.joinTail [32] r → T = jnT (x :: r)) := fun T hT => same_list (by rw [hT]; unfold jnT; rw [Lib.join_cons])
  have HTL : Hid (∀ k, (x ++ Lib.joinTail [32] (r.take k)).length ≤ 5000) := fun k => by
    rw [Lib.join_cons] at hj
    have := Lib.joinTail_take_le [32] r k
    simp only [List.length_append] at *
    omega
  have HXL : Hid (∀ i (h : i < r.length), r[i].length ≤ 5000) := fun i h => by
    have h1 := HTL.out (i + 1)
    rw [Lib.joinTail_take_succ [32] r i r[i] (List.getElem?_eq_getElem h)] at h1
    simp only [List.length_append] at h1
    omega
  have HCR : Hid (∀ w1, Below w.heap.size w w1 → ∀ i (h : i < r.length), w1.cell? ⟨gw, ow + (i + 3), none⟩ = some (.string (Sc.ba r[i]))) := fun w1 hb i h => (hb.cell (p := ⟨gw, ow + (i + 3), none⟩) hg).trans (cr i h)
  have HC1 : Hid (∀ w1, Below w.heap.size w w1 → w1.cell? ⟨gw, ow + 1, none⟩ = some (.string (Sc.ba p1))) := fun w1 hb => (hb.cell (p := ⟨gw, ow + 1, none⟩) hg).trans c1
  have HC2 : Hid (∀ w1, Below w.heap.size w w1 → w1.cell? ⟨gw, ow + 2, none⟩ = some (.string (Sc.ba x))) := fun w1 hb => (hb.cell (p := ⟨gw, ow + 2, none⟩) hg).trans c2
  have HB0 : Hid (Below w.heap.size w (w.alloc (.cells #[.string ⟨#[]⟩, .slice none 0 0] 36)) ∧ BxDF (w.alloc (.cells #[.string ⟨#[]⟩, .slice none 0 0] 36)) w.heap.size ⟨#[]⟩ (.slice none 0 0)) := ⟨boxB _ _, BxDF.new rfl _ _⟩
  have HKB : Hid (KeepP fun w1 => Below w.heap.size w w1 ∧ BxDF w1 w.heap.size ⟨#[]⟩ (.slice none 0 0)) := (keepBelow w).and (keepBxDF _ _ _)
  have hn1 : (1 : Int) < (n : Int) := by omega
  have hn2 : (2 : Int) < (n : Int) := by omega
  have hn3 : decide ((n : Int) < 3) = false := decide_eq_false (by omega)
  have c1' := HC1.out _ HB0.out.1
  have c2' := HC2.out _ HB0.out.1
  clear cr hj hq hq0 c1 c2
  generalize hHQ : DepQ w (Sc.ba p1) (x :: r) (depE q (Sc.ba p1) (x :: r)) = HQ at *
  clear hHQ
  generalize depE q (Sc.ba p1) (x :: r) = de at *
  generalize followB q (Sc.ba p1) = fo at *
  generalize Sc.nameA p1 = nb at *
  generalize ltS last (Sc.ba p1) = lb at *
  generalize (parL (parR (jnT (x :: r)))).map spR = X at *
  generalize parE (parR (jnT (x :: r))) = er at *
  generalize jnT (x :: r) = tx at *
  generalize hP1 : Sc.ba p1 = s1 at *
  clear hP1
  cases nb
  · have hd : de = 23 := by rw [HDE.out, HFO.out]; rfl
    go_enter Tryz.func46, Tryz.ntmps46
    go_wp2_with (go_at_call 34; refine (HN.out _).mono ?_; rintro e w1 ⟨rfl, rfl⟩)
    try simp only [Exit.inBlock, Exit.then]
    refine bodyPost_ret (by simp [results, Tryz.results46, go_sem]; try rfl) rfl ?_
    exact HER.out 23 _ hd (by decide) (boxB _ _)
  · cases heb : (last.toList == [])
    · have heb2 : last.toList.isEmpty = false := by rw [← heb]; cases last.toList <;> rfl
      cases lb
      · have hd : de = 23 := by rw [HDE.out, HFO.out, heb]; rfl
        go_enter Tryz.func46, Tryz.ntmps46
        go_wp2_with (first
          | (go_at_call 34; refine (HN.out _).mono ?_; rintro e w1 ⟨rfl, rfl⟩)
          | (go_at_call 36; refine (HL.out _).mono ?_; rintro e w2 ⟨rfl, ok⟩; have HO4 := hide3 (HKB.out _ _ HB0.out ok); obtain ⟨⟨b0, b1, b2⟩, b3, b4⟩ := HO4.out.2; obtain ⟨s0, s1, s2, s3⟩ := set2 b0 b1; clear ok))
        try simp only [Exit.inBlock, Exit.then]
        refine bodyPost_ret (by simp [results, Tryz.results46, s2, s3, go_sem]; try rfl) rfl ?_
        exact HER.out 23 _ hd (by decide) (below_set2 (Nat.le_refl _) HO4.out.1)
      · have hfo : fo = true := by rw [HFO.out, heb]; rfl
        go_enter Tryz.func46, Tryz.ntmps46
        go_wp2_with (first
          | (go_at_call 34; refine (HN.out _).mono ?_; rintro e w1 ⟨rfl, rfl⟩)
          | (go_at_call 36; refine (HL.out _).mono ?_; rintro e w2 ⟨rfl, ok⟩; have HO2 := hide3 (HKB.out _ _ HB0.out ok); have d2 := HC2.out _ HO2.out.1; clear ok))
        go_loop [6, 7] (fun vt i => ∃ (m : Nat) (T : ByteArray), 3 ≤ m ∧ m ≤ n ∧ i = .int .i64 m ∧ vt = .string T ∧ T.data.toList = x ++ Lib.joinTail [32] (r.take (m - 3))) (fun _ i => n - (intOf i).toNat)
        case atStart => exact ⟨3, Sc.ba x, Nat.le_refl _, by omega, rfl, rfl, by rw [Sc.ba_list]; simp [Lib.joinTail]⟩
        case round =>
          obtain ⟨m, T, hm3, hmn, rfl, rfl, hT⟩ := hrel
          have HT := hide3 hT
          by_cases hlt : m < n
          · obtain ⟨k, rfl⟩ : ∃ k, m = k + 3 := ⟨m - 3, by omega⟩
            have hk : k < r.length := by omega
            have ck := HCR.out _ HO2.out.1 k hk
            have hTz : T.size ≤ 5000 := by rw [← list_size, hT]; exact HTL.out _
            have hXz : (Sc.ba r[k]).size ≤ 5000 := by rw [Sc.ba_size]; exact HXL.out k hk
            have z1 : (⟨#[32]⟩ : ByteArray).size = 1 := rfl
            have HJS : Hid (x ++ Lib.joinTail [32] (r.take (k + 1)) = x ++ Lib.joinTail [32] (r.take k) ++ [32] ++ r[k]) := by
              unfold Hid
              rw [Lib.joinTail_take_succ [32] r k r[k] (List.getElem?_eq_getElem hk)]
              simp
            have HBA : Hid ((Sc.ba r[k]).data.toList = r[k]) := Sc.ba_list _
            have e1 := fun W : World => run_string_add_sum (P := Tryz.prog) (w := W) T ⟨#[32]⟩ (by omega)
            have e2 := fun W : World => run_string_add_sum (P := Tryz.prog) (w := W) (T ++ ⟨#[32]⟩) (Sc.ba r[k]) (by rw [catZd]; omega)
            generalize hk3 : k + 3 = m at *
            have hmi : (m : Int) < (n : Int) := by omega
            clear hT z1
            go_wp2
            refine ⟨⟨m + 1, _, by omega, by omega, by go_num, rfl, ?_⟩, by simp [intOf]; omega⟩
            rw [show m + 1 - 3 = k + 1 by omega, HJS.out, catLd, catLd, HT.out, HBA.out, show m - 3 = k by omega]
          · obtain rfl : m = n := by omega
            rw [show m - 3 = r.length by omega, List.take_length] at hT
            obtain rfl := HTX.out T hT
            clear hT HT
            by_cases her : er = 0
            · subst her
              by_cases hX : 0 < X.length
              · have hd : de = 0 := by rw [HDE.out, if_pos hfo, if_pos ⟨rfl, hX⟩]
                have hXi : ((X.length : Int) == 0) = false := by rw [beq_eq_false_iff_ne]; omega
                have d1 := HC1.out _ HO2.out.1
                go_wp2_with (go_at_call 60; refine (HPA.out _).mono ?_; rintro e w3 ⟨v3, rfl, h1, ok⟩; obtain ⟨ad3, cap3, rfl, _⟩ := h1.sp; have HO3 : Hid ((Below w.heap.size w w3 ∧ BxDF w3 w.heap.size ⟨#[]⟩ (.slice none 0 0)) ∧ OwnS w3 w2.heap.size (.slice ad3 X.length cap3) X) := ⟨HKB.out _ _ HO2.out ok, h1⟩; obtain ⟨⟨b0, b1, b2⟩, b3, b4⟩ := HO3.out.1.2; obtain ⟨s0, s1, s2, s3⟩ := set2 b0 b1; have d3 := HC1.out _ HO3.out.1.1; clear ok h1)
                try simp only [Exit.inBlock, Exit.then]
                refine bodyPost_ret (by simp [results, Tryz.results46, s2, s3, go_sem]; try rfl) rfl ?_
                have hg2 : w.heap.size < w2.heap.size := HO2.out.2.1.2.2
                have hne : (Value.slice ad3 X.length cap3).ownBlock ≠ some w.heap.size := fun e => by
                  have := (HO3.out.2.lt e).2
                  omega
                exact HOK.out ad3 X.length cap3 _ hd (below_set2 (Nat.le_refl _) HO3.out.1.1) (((HO3.out.2.base HO2.out.1.size).set hne 0 _).set hne 1 _)
              · have hd : de = 21 := by rw [HDE.out, if_pos hfo, if_neg (fun h => hX h.2)]
                have hX0 : X.length = 0 := by omega
                go_wp2_with (go_at_call 60; refine (HPA.out _).mono ?_; rintro e w3 ⟨v3, rfl, h1, ok⟩; obtain ⟨ad3, cap3, rfl, _⟩ := h1.sp; rw [hX0]; have HO3 := hide3 (HKB.out _ _ HO2.out ok); obtain ⟨⟨b0, b1, b2⟩, b3, b4⟩ := HO3.out.2; obtain ⟨s0, s1, s2, s3⟩ := set2 b0 b1; clear ok h1)
                try simp only [Exit.inBlock, Exit.then]
                refine bodyPost_ret (by simp [results, Tryz.results46, s2, s3, go_sem]; try rfl) rfl ?_
                exact HER.out 21 _ hd (by decide) (below_set2 (Nat.le_refl _) HO3.out.1)
            · have hd : de = 21 := by rw [HDE.out, if_pos hfo, if_neg (fun h => her h.1)]
              have hre : (er == 0) = false := by simpa using her
              go_wp2_with (go_at_call 60; refine (HPA.out _).mono ?_; rintro e w3 ⟨v3, rfl, h1, ok⟩; obtain ⟨ad3, cap3, rfl, _⟩ := h1.sp; have HO3 := hide3 (HKB.out _ _ HO2.out ok); obtain ⟨⟨b0, b1, b2⟩, b3, b4⟩ := HO3.out.2; obtain ⟨s0, s1, s2, s3⟩ := set2 b0 b1; clear ok h1)
              try simp only [Exit.inBlock, Exit.then]
              refine bodyPost_ret (by simp [results, Tryz.results46, s2, s3, go_sem]; try rfl) rfl ?_
              exact HER.out 21 _ hd (by decide) (below_set2 (Nat.le_refl _) HO3.out.1)
    · have heb2 : last.toList.isEmpty = true := by rw [← heb]; cases last.toList <;> rfl
      have hfo : fo = true := by rw [HFO.out, heb]; rfl
      go_enter Tryz.func46, Tryz.ntmps46
      go_wp2_with (go_at_call 34; refine (HN.out _).mono ?_; rintro e w1 ⟨rfl, rfl⟩)
      have HO2 := hide3 HB0.out
      generalize w.alloc (.cells #[.string ⟨#[]⟩, .slice none 0 0] 36) = w2 at *
      go_loop [6, 7] (fun vt i => ∃ (m : Nat) (T : ByteArray), 3 ≤ m ∧ m ≤ n ∧ i = .int .i64 m ∧ vt = .string T ∧ T.data.toList = x ++ Lib.joinTail [32] (r.take (m - 3))) (fun _ i => n - (intOf i).toNat)
      case atStart => exact ⟨3, Sc.ba x, Nat.le_refl _, by omega, rfl, rfl, by rw [Sc.ba_list]; simp [Lib.joinTail]⟩
      case round =>
        obtain ⟨m, T, hm3, hmn, rfl, rfl, hT⟩ := hrel
        have HT := hide3 hT
        by_cases hlt : m < n
        · obtain ⟨k, rfl⟩ : ∃ k, m = k + 3 := ⟨m - 3, by omega⟩
          have hk : k < r.length := by omega
          have ck := HCR.out _ HO2.out.1 k hk
          have hTz : T.size ≤ 5000 := by rw [← list_size, hT]; exact HTL.out _
          have hXz : (Sc.ba r[k]).size ≤ 5000 := by rw [Sc.ba_size]; exact HXL.out k hk
          have z1 : (⟨#[32]⟩ : ByteArray).size = 1 := rfl
          have HJS : Hid (x ++ Lib.joinTail [32] (r.take (k + 1)) = x ++ Lib.joinTail [32] (r.take k) ++ [32] ++ r[k]) := by
            unfold Hid
            rw [Lib.joinTail_take_succ [32] r k r[k] (List.getElem?_eq_getElem hk)]
            simp
          have HBA : Hid ((Sc.ba r[k]).data.toList = r[k]) := Sc.ba_list _
          have e1 := fun W : World => run_string_add_sum (P := Tryz.prog) (w := W) T ⟨#[32]⟩ (by omega)
          have e2 := fun W : World => run_string_add_sum (P := Tryz.prog) (w := W) (T ++ ⟨#[32]⟩) (Sc.ba r[k]) (by rw [catZd]; omega)
          generalize hk3 : k + 3 = m at *
          have hmi : (m : Int) < (n : Int) := by omega
          clear hT z1
          go_wp2
          refine ⟨⟨m + 1, _, by omega, by omega, by go_num, rfl, ?_⟩, by simp [intOf]; omega⟩
          rw [show m + 1 - 3 = k + 1 by omega, HJS.out, catLd, catLd, HT.out, HBA.out, show m - 3 = k by omega]
        · obtain rfl : m = n := by omega
          rw [show m - 3 = r.length by omega, List.take_length] at hT
          obtain rfl := HTX.out T hT
          clear hT HT
          by_cases her : er = 0
          · subst her
            by_cases hX : 0 < X.length
            · have hd : de = 0 := by rw [HDE.out, if_pos hfo, if_pos ⟨rfl, hX⟩]
              have hXi : ((X.length : Int) == 0) = false := by rw [beq_eq_false_iff_ne]; omega
              have d1 := HC1.out _ HO2.out.1
              go_wp2_with (go_at_call 60; refine (HPA.out _).mono ?_; rintro e w3 ⟨v3, rfl, h1, ok⟩; obtain ⟨ad3, cap3, rfl, _⟩ := h1.sp; have HO3 : Hid ((Below w.heap.size w w3 ∧ BxDF w3 w.heap.size ⟨#[]⟩ (.slice none 0 0)) ∧ OwnS w3 w2.heap.size (.slice ad3 X.length cap3) X) := ⟨HKB.out _ _ HO2.out ok, h1⟩; obtain ⟨⟨b0, b1, b2⟩, b3, b4⟩ := HO3.out.1.2; obtain ⟨s0, s1, s2, s3⟩ := set2 b0 b1; have d3 := HC1.out _ HO3.out.1.1; clear ok h1)
              try simp only [Exit.inBlock, Exit.then]
              refine bodyPost_ret (by simp [results, Tryz.results46, s2, s3, go_sem]; try rfl) rfl ?_
              have hg2 : w.heap.size < w2.heap.size := HO2.out.2.1.2.2
              have hne : (Value.slice ad3 X.length cap3).ownBlock ≠ some w.heap.size := fun e => by
                have := (HO3.out.2.lt e).2
                omega
              exact HOK.out ad3 X.length cap3 _ hd (below_set2 (Nat.le_refl _) HO3.out.1.1) (((HO3.out.2.base HO2.out.1.size).set hne 0 _).set hne 1 _)
            · have hd : de = 21 := by rw [HDE.out, if_pos hfo, if_neg (fun h => hX h.2)]
              have hX0 : X.length = 0 := by omega
              go_wp2_with (go_at_call 60; refine (HPA.out _).mono ?_; rintro e w3 ⟨v3, rfl, h1, ok⟩; obtain ⟨ad3, cap3, rfl, _⟩ := h1.sp; rw [hX0]; have HO3 := hide3 (HKB.out _ _ HO2.out ok); obtain ⟨⟨b0, b1, b2⟩, b3, b4⟩ := HO3.out.2; obtain ⟨s0, s1, s2, s3⟩ := set2 b0 b1; clear ok h1)
              try simp only [Exit.inBlock, Exit.then]
              refine bodyPost_ret (by simp [results, Tryz.results46, s2, s3, go_sem]; try rfl) rfl ?_
              exact HER.out 21 _ hd (by decide) (below_set2 (Nat.le_refl _) HO3.out.1)
          · have hd : de = 21 := by rw [HDE.out, if_pos hfo, if_neg (fun h => her h.1)]
            have hre : (er == 0) = false := by simpa using her
            go_wp2_with (go_at_call 60; refine (HPA.out _).mono ?_; rintro e w3 ⟨v3, rfl, h1, ok⟩; obtain ⟨ad3, cap3, rfl, _⟩ := h1.sp; have HO3 := hide3 (HKB.out _ _ HO2.out ok); obtain ⟨⟨b0, b1, b2⟩, b3, b4⟩ := HO3.out.2; obtain ⟨s0, s1, s2, s3⟩ := set2 b0 b1; clear ok h1)
            try simp only [Exit.inBlock, Exit.then]
            refine bodyPost_ret (by simp [results, Tryz.results46, s2, s3, go_sem]; try rfl) rfl ?_
            exact HER.out 21 _ hd (by decide) (below_set2 (Nat.le_refl _) HO3.out.1)

theorem rDep_any {ln : List Sc.Bs} {vw : Value} {q : Option ByteArray} {last : ByteArray} {w : World} (hw : Sc.WordsAt w vw ln) (hs : ShortLn ln) (hz : ∀ x ∈ ln, x.length ≤ 5000) (hq : last = q.getD ⟨#[]⟩) (hq0 : ∀ s, q = some s → s.size ≠ 0) (hlz : last.size ≤ 1000000) :
    Calls Tryz.prog 46 #[vw, .string last] w (DepQ w (Sc.ba (ln.getD 1 [])) (ln.drop 2) (rdepE q ln)) := by
  obtain ⟨ad, cap, rfl, hc, hcs⟩ := hw
  unfold rdepE
  by_cases h3 : ln.length < 3
  · rw [if_pos h3]
    exact rDep_short h3
  · rw [if_neg h3]
    match ln, h3 with
    | [], h => exact absurd (by simp) h
    | [_], h => exact absurd (by simp) h
    | [_, _], h => exact absurd (by simp) h
    | p0 :: p1 :: x :: r, _ =>
      rcases hcs with hcs | ⟨g, o, rfl, hg, hcs⟩
      · cases hcs
      · refine rDep_long (p1 := p1) (x := x) (r := r) (by simp) hg (hcs 1 (by simp)) (hcs 2 (by simp)) (fun i hi => ?_) ?_ hs.2 ?_ hq hq0 hlz
        · have := hcs (i + 3) (by simp; omega)
          simpa using this
        · have := hs.1
          simp at this
          omega
        · have := hz p1 (by simp)
          omega
end Go.Proofs.YtjfbgiajjkjghaaGreatDoor
