/- PlanCut: the walk. Conditions: sizes. -/
import Derived.Test.YtefcndfeemnglaaDoorPm2
import Derived.Test.YtefcndfeemnglaaDoorPf2
import Derived.Test.YtefcndfeemnglaaDoorRwPn
namespace Go.Proofs.YtefcndfeemnglaaDoor
open Go.RowKit Go.Maps Go.WideMaps Go.WideElems Dk
set_option maxRecDepth 100000

theorem nls_take {T : ByteArray} {i : Nat} (h : i < T.size) : Sc.nls (T.data.toList.take (i + 1)) = Sc.nls (T.data.toList.take i) + (if (T[i].toNat == 10) = true then 1 else 0) := by
  rw [List.take_succ_eq_append_getElem (by rw [size_list]; exact h), nls_app]
  congr 1
  show Sc.nls [T[i]] = _
  unfold Sc.nls
  rw [List.countP_cons, List.countP_nil]
  by_cases e : T[i] = 10
  · rw [e]; rfl
  · have : (T[i].toNat == 10) = false := beq_eq_false_iff_ne.2 fun q => e (UInt8.toNat_inj.1 q)
    simp [e, this]
theorem nls_le (t : Sc.Bs) : Sc.nls t ≤ t.length := List.countP_le_length
theorem IsDes.take {w : World} {a : Option Addr} {l : List De} (h : IsDes w a l) (j : Nat) : IsDes w a (l.take j) := by
  rcases h with rfl | ⟨g, off, rfl, hg, hc⟩
  · exact Or.inl (by simp)
  · refine Or.inr ⟨g, off, rfl, hg, fun k hk => ?_⟩
    have hk' : k < l.length := by rw [List.length_take] at hk; omega
    rw [List.getElem_take]
    exact hc k hk'

set_option maxHeartbeats 8000000 in
theorem planCut_walk (l : List De) (a : Option Addr) (cap : Nat) (z : Int) (hcap : l.length ≤ cap) (m : Int) (w : World) (hm : w.cell? ⟨0, 0, none⟩ = some (.int .i64 m)) (hc : IsDes w a l) (hz : ∀ d ∈ l, d.pa.size ≤ maxLen) (hsum : sumL l ≤ 2097152) :
    Calls Tryd.prog 6 #[.slice a l.length cap, .int .i64 z] w fun e w' => e = .returned (.bool true) ∧ Below w.heap.size w w' := by
  have hlen : l.length ≤ 8388608 := by have := sum_len l; omega
  have htx := text_le l
  have hzz : ∀ d ∈ l, d.pa.size ≤ maxLen ∧ d.da.size ≤ 100000000 := fun d hd => ⟨hz d hd, by have := sum_mem hd; omega⟩
  have HMW : Hid (∀ W, Below w.heap.size w W → W.cell? ⟨0, 0, none⟩ = some (.int .i64 m)) := fun W hb => (hb.cell (p := ⟨0, 0, none⟩) (cell_lt hm)).trans hm
  have HDW : Hid (∀ W, Below w.heap.size w W → IsDes W a l) := fun W hb => hc.below hb
  have HP := hide3 (Print_any l a cap m w hm hlen hc hzz (by omega))
  have HK : Hid (∀ W, Below w.heap.size w W → Calls Tryd.prog 11 #[] W fun e w' => e = .returned (.bool true) ∧ Below W.heap.size W w') := fun W hb => known17_any m W (HMW.out W hb)
  by_cases hp : Plan l
  · obtain ⟨e1, e2⟩ := prn_yes hp
    rw [e1, e2] at HP
    have HPN := hide3 hp
    have hTs : (textD l).size ≤ 2097157 := by omega
    have HPA : Hid (∀ k W, k ≤ (textD l).size → Below w.heap.size w W → Calls Tryd.prog 12 #[.string ((textD l).extract 0 k)] W (ParQ W (parO ((textD l).extract 0 k)))) := fun k W hk hb => Parse_any _ (by rw [ByteArray.size_extract]; omega) m W (HMW.out W hb)
    have HYE : Hid (∀ k, 0 < k → k ≤ (textD l).size → (textD l).data.toList[k - 1]? = some 10 → ∃ j, j ≤ l.length ∧ Sc.nls ((textD l).data.toList.take k) = j + 1 ∧ parO ((textD l).extract 0 k) = (0, l.take j)) := fun k h0 hk h => cut_yes hp h0 hk (by rw [List.getElem?_eq_getElem (by rw [size_list]; omega)] at h; exact Option.some.inj h)
    have HNO : Hid (∀ k, k ≤ (textD l).size → (k = 0 ∨ (0 < k ∧ (textD l).data.toList[k - 1]? ≠ some 10)) → parO ((textD l).extract 0 k) = (44, []) ∨ parO ((textD l).extract 0 k) = (22, [])) := fun k hk h => cut_no hk (h.imp id fun ⟨h0, h1⟩ => ⟨h0, fun e => h1 (by rw [List.getElem?_eq_getElem (by rw [size_list]; omega), e])⟩)
    have HS : Hid (∀ W b cp j cc, IsDes W a l → IsDes W b (l.take j) → j ≤ l.length → Calls Tryd.prog 13 #[.slice b j cp, .slice a j cc] W fun e w' => e = .returned (.bool true) ∧ Below W.heap.size W w') := fun W b cp j cc h1 h2 hj => sameDe_any (l.take j) (by rw [List.length_take]; omega) (by omega) h2 (h1.take j)
    clear hm hc hz hzz hsum htx hp e1 e2 HMW
    generalize textD l = T at *
    obtain ⟨r, hr⟩ : ∃ r, r = z.tmod ((T.size : Int) + 1) := ⟨_, rfl⟩
    have hr1 : -(T.size : Int) ≤ r ∧ r ≤ (T.size : Int) := by
      have h1 := Int.lt_tmod_of_pos z (b := (T.size : Int) + 1) (by omega)
      have h2 := Int.tmod_lt_of_pos z (b := (T.size : Int) + 1) (by omega)
      omega
    go_enter Tryd.func6, Tryd.ntmps6
    go_wp2_with (first
      | (go_at_call 11; have _t := HB1; refine (HK.out _ HB1.out).mono ?_; rintro e w2 ⟨rfl, hb2⟩; have HB2 : Hid (Below w.heap.size w w2) := HB1.out.trans (hb2.mono HB1.out.size); clear hb2)
      | (go_at_call 7; refine HP.out.mono ?_; rintro e w1 ⟨rfl, hb1⟩; have HB1 := hide3 hb1; clear hb1))
    · obtain ⟨K, hK⟩ : ∃ K : Nat, z.tmod ((T.size : Int) + 1) + (T.size : Int) + 1 = (K : Int) := ⟨(z.tmod ((T.size : Int) + 1) + (T.size : Int) + 1).toNat, by omega⟩
      have hKs : K ≤ T.size := by omega
      rw [hK]
      have HNK := hide3 (HNO.out K hKs)
      have HYK := hide3 (fun h0 => HYE.out K h0 hKs)
      have HPK := hide3 (fun W => HPA.out K W hKs)
      clear HNO HYE HPA hr1 hr hK
      go_loop [8, 9] (fun v8 v9 => ∃ i : Nat, i ≤ K ∧ v9 = .int .i64 i ∧ v8 = .int .i64 ((Sc.nls (T.data.toList.take i) : Nat) : Int)) (fun _ v9 => K - (intOf v9).toNat)
      case atStart => exact ⟨0, Nat.zero_le _, rfl, rfl⟩
      case round =>
        obtain ⟨i, hi, rfl, rfl⟩ := hrel
        by_cases hlt : i < K
        · have hii : (i : Int) < (K : Int) := by omega
          have hit : i < T.size := by omega
          have HNT := hide3 (nls_take hit)
          have hnb : Sc.nls (T.data.toList.take i) ≤ 2097157 := Nat.le_trans (nls_le _) (by rw [List.length_take, size_list]; omega)
          generalize Sc.nls (T.data.toList.take i) = c at *
          cases hb : (T[i].toNat == 10)
          · have hb2 : ((T[i].toNat : Int) == 10) = false := beq_eq_false_iff_ne.2 (by have := beq_eq_false_iff_ne.1 hb; omega)
            rw [hb] at HNT
            go_wp2_with fail
            exact ⟨⟨i + 1, by omega, by go_num, by rw [HNT.out]; rfl⟩, by simp [intOf]; omega⟩
          · have hb2 : ((T[i].toNat : Int) == 10) = true := beq_iff_eq.2 (by have := beq_iff_eq.1 hb; omega)
            rw [hb] at HNT
            go_wp2_with fail
            exact ⟨⟨i + 1, by omega, by go_num, by rw [HNT.out]; go_num⟩, by simp [intOf]; omega⟩
        · obtain rfl : i = K := by omega
          have hii : ¬ ((i : Int) < (i : Int)) := by omega
          have his : (i : Int) ≤ (T.size : Int) := by omega
          have hnb : Sc.nls (T.data.toList.take i) ≤ 2097157 := Nat.le_trans (nls_le _) (by rw [List.length_take, size_list]; omega)
          by_cases h0 : i = 0
          · have HR : Hid (∃ c : Int, (c != 0) = true ∧ parO (T.extract 0 i) = (c, [])) := (HNK.out (Or.inl h0)).elim (fun h => ⟨44, rfl, h⟩) (fun h => ⟨22, rfl, h⟩)
            obtain ⟨c, hc0, hc1⟩ := HR.out
            rw [hc1] at HPK
            have HP2 : Hid (∀ W, Below w.heap.size w W → Calls Tryd.prog 12 #[.string (T.extract 0 i)] W fun e w' => ∃ a cap, e = .returned (.tuple #[.slice a 0 cap, .int .i64 c]) ∧ Below W.heap.size W w') := fun W hb => (HPK.out W hb).mono fun e w' ⟨v, h1, h2, h3⟩ => by
              obtain ⟨a, cap, rfl, _⟩ := h2.sl
              exact ⟨a, cap, h1, h3⟩
            have hi0 : ((i : Int) == 0) = true := beq_iff_eq.2 (by omega)
            clear HPK HNK HYK HR hc1 HS h0
            go_wp2_with (go_at_call 12; refine (HP2.out _ HB2.out).mono ?_; rintro e w3 ⟨a3, c3, rfl, hb3⟩; have HB3 : Hid (Below w.heap.size w w3) := HB2.out.trans (hb3.mono HB2.out.size); clear hb3)
            go_ret
            exact ⟨rfl, HB3.out⟩
          · obtain ⟨q, hq⟩ : ∃ q : Nat, q = i - 1 := ⟨_, rfl⟩
            have hqw : IntKind.i64.wrap ((i : Int) - 1) = (q : Int) := by rw [hq, IntKind.wrap_i64]; omega
            have hqe : (i : Int) - 1 = (q : Int) := by omega
            have hqs : q < T.size := by omega
            have hqi : (q : Int) < (T.size : Int) := by omega
            have hi0 : ((i : Int) == 0) = false := beq_eq_false_iff_ne.2 (by omega)
            have HG : Hid (T.data.toList[i - 1]? = some T[q]) := by
              unfold Hid
              rw [← hq, List.getElem?_eq_getElem (by rw [size_list]; exact hqs)]
              rfl
            clear hq
            by_cases h10 : T[q] = 10
            · have hb2 : ((T[q].toNat : Int) != 10) = false := by rw [h10]; rfl
              obtain ⟨j, hj, hn, hpo⟩ := HYK.out (by omega) (by rw [HG.out, h10])
              rw [hpo] at HPK
              rw [hn]
              have HP2 : Hid (∀ W, Below w.heap.size w W → Calls Tryd.prog 12 #[.string (T.extract 0 i)] W fun e w' => ∃ a cap, e = .returned (.tuple #[.slice a j cap, .int .i64 0]) ∧ IsDes w' a (l.take j) ∧ Below W.heap.size W w') := fun W hb => (HPK.out W hb).mono fun e w' ⟨v, h1, h2, h3⟩ => by
                obtain ⟨a, cap, rfl, h4⟩ := h2.isDes
                rw [List.length_take, Nat.min_eq_left hj] at h1
                exact ⟨a, cap, h1, h4, h3⟩
              have hjw : IntKind.i64.wrap (((j + 1 : Nat) : Int) - 1) = (j : Int) := by rw [IntKind.wrap_i64]; omega
              have hjl : (j : Int) ≤ (l.length : Int) := by omega
              have hjc : (j : Int) ≤ (cap : Int) := by omega
              clear HPK HNK HYK hpo hn HG h10 hnb
              go_wp2_with (first
                | (go_at_call 13; have _t := HD3; refine (HS.out _ _ _ _ _ (HDW.out _ HB3.out) HD3.out hj).mono ?_; rintro e w4 ⟨rfl, hb4⟩; have HB4 : Hid (Below w.heap.size w w4) := HB3.out.trans (hb4.mono HB3.out.size); clear hb4)
                | (go_at_call 12; refine (HP2.out _ HB2.out).mono ?_; rintro e w3 ⟨a3, c3, rfl, hd3, hb3⟩; have HD3 := hide3 hd3; have HB3 : Hid (Below w.heap.size w w3) := HB2.out.trans (hb3.mono HB2.out.size); clear hb3 hd3))
              go_ret
              exact ⟨rfl, HB4.out⟩
            · have hb1 : T[q].toNat ≠ 10 := fun e => h10 (UInt8.toNat_inj.1 e)
              have hb2 : ((T[q].toNat : Int) != 10) = true := bne_iff_ne.2 (by omega)
              have HR : Hid (∃ c : Int, (c != 0) = true ∧ parO (T.extract 0 i) = (c, [])) := (HNK.out (Or.inr ⟨by omega, fun e => h10 (by rw [HG.out] at e; exact Option.some.inj e)⟩)).elim (fun h => ⟨44, rfl, h⟩) (fun h => ⟨22, rfl, h⟩)
              obtain ⟨c, hc0, hc1⟩ := HR.out
              rw [hc1] at HPK
              have HP2 : Hid (∀ W, Below w.heap.size w W → Calls Tryd.prog 12 #[.string (T.extract 0 i)] W fun e w' => ∃ a cap, e = .returned (.tuple #[.slice a 0 cap, .int .i64 c]) ∧ Below W.heap.size W w') := fun W hb => (HPK.out W hb).mono fun e w' ⟨v, h1, h2, h3⟩ => by
                obtain ⟨a, cap, rfl, _⟩ := h2.sl
                exact ⟨a, cap, h1, h3⟩
              clear HPK HNK HYK HR hc1 HS HG h10
              go_wp2_with (go_at_call 12; refine (HP2.out _ HB2.out).mono ?_; rintro e w3 ⟨a3, c3, rfl, hb3⟩; have HB3 : Hid (Below w.heap.size w w3) := HB2.out.trans (hb3.mono HB2.out.size); clear hb3)
              go_ret
              exact ⟨rfl, HB3.out⟩
    · obtain ⟨K, hK⟩ : ∃ K : Nat, z.tmod ((T.size : Int) + 1) = (K : Int) := ⟨(z.tmod ((T.size : Int) + 1)).toNat, by omega⟩
      have hKs : K ≤ T.size := by omega
      rw [hK]
      have HNK := hide3 (HNO.out K hKs)
      have HYK := hide3 (fun h0 => HYE.out K h0 hKs)
      have HPK := hide3 (fun W => HPA.out K W hKs)
      clear HNO HYE HPA hr1 hr hK
      go_loop [8, 9] (fun v8 v9 => ∃ i : Nat, i ≤ K ∧ v9 = .int .i64 i ∧ v8 = .int .i64 ((Sc.nls (T.data.toList.take i) : Nat) : Int)) (fun _ v9 => K - (intOf v9).toNat)
      case atStart => exact ⟨0, Nat.zero_le _, rfl, rfl⟩
      case round =>
        obtain ⟨i, hi, rfl, rfl⟩ := hrel
        by_cases hlt : i < K
        · have hii : (i : Int) < (K : Int) := by omega
          have hit : i < T.size := by omega
          have HNT := hide3 (nls_take hit)
          have hnb : Sc.nls (T.data.toList.take i) ≤ 2097157 := Nat.le_trans (nls_le _) (by rw [List.length_take, size_list]; omega)
          generalize Sc.nls (T.data.toList.take i) = c at *
          cases hb : (T[i].toNat == 10)
          · have hb2 : ((T[i].toNat : Int) == 10) = false := beq_eq_false_iff_ne.2 (by have := beq_eq_false_iff_ne.1 hb; omega)
            rw [hb] at HNT
            go_wp2_with fail
            exact ⟨⟨i + 1, by omega, by go_num, by rw [HNT.out]; rfl⟩, by simp [intOf]; omega⟩
          · have hb2 : ((T[i].toNat : Int) == 10) = true := beq_iff_eq.2 (by have := beq_iff_eq.1 hb; omega)
            rw [hb] at HNT
            go_wp2_with fail
            exact ⟨⟨i + 1, by omega, by go_num, by rw [HNT.out]; go_num⟩, by simp [intOf]; omega⟩
        · obtain rfl : i = K := by omega
          have hii : ¬ ((i : Int) < (i : Int)) := by omega
          have his : (i : Int) ≤ (T.size : Int) := by omega
          have hnb : Sc.nls (T.data.toList.take i) ≤ 2097157 := Nat.le_trans (nls_le _) (by rw [List.length_take, size_list]; omega)
          by_cases h0 : i = 0
          · have HR : Hid (∃ c : Int, (c != 0) = true ∧ parO (T.extract 0 i) = (c, [])) := (HNK.out (Or.inl h0)).elim (fun h => ⟨44, rfl, h⟩) (fun h => ⟨22, rfl, h⟩)
            obtain ⟨c, hc0, hc1⟩ := HR.out
            rw [hc1] at HPK
            have HP2 : Hid (∀ W, Below w.heap.size w W → Calls Tryd.prog 12 #[.string (T.extract 0 i)] W fun e w' => ∃ a cap, e = .returned (.tuple #[.slice a 0 cap, .int .i64 c]) ∧ Below W.heap.size W w') := fun W hb => (HPK.out W hb).mono fun e w' ⟨v, h1, h2, h3⟩ => by
              obtain ⟨a, cap, rfl, _⟩ := h2.sl
              exact ⟨a, cap, h1, h3⟩
            have hi0 : ((i : Int) == 0) = true := beq_iff_eq.2 (by omega)
            clear HPK HNK HYK HR hc1 HS h0
            go_wp2_with (go_at_call 12; refine (HP2.out _ HB2.out).mono ?_; rintro e w3 ⟨a3, c3, rfl, hb3⟩; have HB3 : Hid (Below w.heap.size w w3) := HB2.out.trans (hb3.mono HB2.out.size); clear hb3)
            go_ret
            exact ⟨rfl, HB3.out⟩
          · obtain ⟨q, hq⟩ : ∃ q : Nat, q = i - 1 := ⟨_, rfl⟩
            have hqw : IntKind.i64.wrap ((i : Int) - 1) = (q : Int) := by rw [hq, IntKind.wrap_i64]; omega
            have hqe : (i : Int) - 1 = (q : Int) := by omega
            have hqs : q < T.size := by omega
            have hqi : (q : Int) < (T.size : Int) := by omega
            have hi0 : ((i : Int) == 0) = false := beq_eq_false_iff_ne.2 (by omega)
            have HG : Hid (T.data.toList[i - 1]? = some T[q]) := by
              unfold Hid
              rw [← hq, List.getElem?_eq_getElem (by rw [size_list]; exact hqs)]
              rfl
            clear hq
            by_cases h10 : T[q] = 10
            · have hb2 : ((T[q].toNat : Int) != 10) = false := by rw [h10]; rfl
              obtain ⟨j, hj, hn, hpo⟩ := HYK.out (by omega) (by rw [HG.out, h10])
              rw [hpo] at HPK
              rw [hn]
              have HP2 : Hid (∀ W, Below w.heap.size w W → Calls Tryd.prog 12 #[.string (T.extract 0 i)] W fun e w' => ∃ a cap, e = .returned (.tuple #[.slice a j cap, .int .i64 0]) ∧ IsDes w' a (l.take j) ∧ Below W.heap.size W w') := fun W hb => (HPK.out W hb).mono fun e w' ⟨v, h1, h2, h3⟩ => by
                obtain ⟨a, cap, rfl, h4⟩ := h2.isDes
                rw [List.length_take, Nat.min_eq_left hj] at h1
                exact ⟨a, cap, h1, h4, h3⟩
              have hjw : IntKind.i64.wrap (((j + 1 : Nat) : Int) - 1) = (j : Int) := by rw [IntKind.wrap_i64]; omega
              have hjl : (j : Int) ≤ (l.length : Int) := by omega
              have hjc : (j : Int) ≤ (cap : Int) := by omega
              clear HPK HNK HYK hpo hn HG h10 hnb
              go_wp2_with (first
                | (go_at_call 13; have _t := HD3; refine (HS.out _ _ _ _ _ (HDW.out _ HB3.out) HD3.out hj).mono ?_; rintro e w4 ⟨rfl, hb4⟩; have HB4 : Hid (Below w.heap.size w w4) := HB3.out.trans (hb4.mono HB3.out.size); clear hb4)
                | (go_at_call 12; refine (HP2.out _ HB2.out).mono ?_; rintro e w3 ⟨a3, c3, rfl, hd3, hb3⟩; have HD3 := hide3 hd3; have HB3 : Hid (Below w.heap.size w w3) := HB2.out.trans (hb3.mono HB2.out.size); clear hb3 hd3))
              go_ret
              exact ⟨rfl, HB4.out⟩
            · have hb1 : T[q].toNat ≠ 10 := fun e => h10 (UInt8.toNat_inj.1 e)
              have hb2 : ((T[q].toNat : Int) != 10) = true := bne_iff_ne.2 (by omega)
              have HR : Hid (∃ c : Int, (c != 0) = true ∧ parO (T.extract 0 i) = (c, [])) := (HNK.out (Or.inr ⟨by omega, fun e => h10 (by rw [HG.out] at e; exact Option.some.inj e)⟩)).elim (fun h => ⟨44, rfl, h⟩) (fun h => ⟨22, rfl, h⟩)
              obtain ⟨c, hc0, hc1⟩ := HR.out
              rw [hc1] at HPK
              have HP2 : Hid (∀ W, Below w.heap.size w W → Calls Tryd.prog 12 #[.string (T.extract 0 i)] W fun e w' => ∃ a cap, e = .returned (.tuple #[.slice a 0 cap, .int .i64 c]) ∧ Below W.heap.size W w') := fun W hb => (HPK.out W hb).mono fun e w' ⟨v, h1, h2, h3⟩ => by
                obtain ⟨a, cap, rfl, _⟩ := h2.sl
                exact ⟨a, cap, h1, h3⟩
              clear HPK HNK HYK HR hc1 HS HG h10
              go_wp2_with (go_at_call 12; refine (HP2.out _ HB2.out).mono ?_; rintro e w3 ⟨a3, c3, rfl, hb3⟩; have HB3 : Hid (Below w.heap.size w w3) := HB2.out.trans (hb3.mono HB2.out.size); clear hb3)
              go_ret
              exact ⟨rfl, HB3.out⟩
  · obtain ⟨e1, e2⟩ := prn_no hp
    rw [e1, e2] at HP
    have HC : Hid (∀ W, Below w.heap.size w W → Calls Tryd.prog 9 #[.slice a l.length cap] W fun e w' => e = .returned (.int .i64 44) ∧ Below W.heap.size W w') := fun W hb => by
      have := Check_is l a cap m W (HMW.out W hb) hlen (HDW.out W hb) hz
      rw [e2] at this
      exact this
    clear hm hc hz hzz hsum htx hp e1 e2 HMW HDW
    generalize l.length = n at *
    go_enter Tryd.func6, Tryd.ntmps6
    go_wp2_with (first
      | (go_at_call 9; have _t := HB2; refine (HC.out _ HB2.out).mono ?_; rintro e w3 ⟨rfl, hb3⟩; have HB3 : Hid (Below w.heap.size w w3) := HB2.out.trans (hb3.mono HB2.out.size); clear hb3)
      | (go_at_call 11; have _t := HB1; refine (HK.out _ HB1.out).mono ?_; rintro e w2 ⟨rfl, hb2⟩; have HB2 : Hid (Below w.heap.size w w2) := HB1.out.trans (hb2.mono HB1.out.size); clear hb2)
      | (go_at_call 7; refine HP.out.mono ?_; rintro e w1 ⟨rfl, hb1⟩; have HB1 := hide3 hb1; clear hb1))
    go_ret
    exact ⟨rfl, HB3.out⟩
end Go.Proofs.YtefcndfeemnglaaDoor
