/- ScanBack: the walk. -/
import Derived.Test.YtiahoaneinojgaaDoorKn1
import Derived.Test.YtiahoaneinojgaaDoorJo2
namespace Go.Proofs.YtiahoaneinojgaaDoor.Sc
open Go.RowKit
set_option maxRecDepth 100000

theorem nls_le (t : Bs) : nls t ≤ t.length := List.countP_le_length
theorem nls_snoc (t : Bs) (b : UInt8) : nls (t ++ [b]) = nls t + if b = 10 then 1 else 0 := by
  unfold nls
  rw [List.countP_append]
  by_cases h : b = 10 <;> simp [h]
theorem ahead_nl {m : Nat} (r : Bs) : aheadN (m + 1) (10 :: r) = 10 :: aheadN m r := by
  conv => lhs; unfold aheadN; rw [if_pos rfl]
theorem ahead_other {m : Nat} {b : UInt8} (h : b ≠ 10) (r : Bs) : aheadN (m + 1) (b :: r) = b :: aheadN (m + 1) r := by
  conv => lhs; unfold aheadN; rw [if_neg h]
theorem ahead_zero (t : Bs) : aheadN 0 t = [] := by unfold aheadN; rfl
theorem take_snoc {t : ByteArray} {a : Nat} (h : a < t.size) : t.data.toList.take (a + 1) = t.data.toList.take a ++ [t[a]] := by
  rw [List.take_succ_eq_append_getElem (by rw [list_size]; exact h)]; rfl

theorem OwnLL.nil {w : World} {B : Nat} {v : Value} (h : OwnLL w B v []) : ∃ ad cap, v = .slice ad 0 cap := by
  obtain ⟨ps, hp, h⟩ := h
  obtain ⟨ad, cap, rfl⟩ := h.len
  have : ps.length = 0 := by have := congrArg List.length hp; simpa using this
  exact ⟨ad, cap, by rw [this]⟩
theorem LinesAt.slice {w : World} {v : Value} {L : List (List Bs)} (h : LinesAt w v L) : ∃ ad cap, v = .slice ad L.length cap := by
  obtain ⟨ad, cap, rfl, _⟩ := h
  exact ⟨ad, cap, rfl⟩

set_option maxHeartbeats 3200000 in
theorem scanBack_ok (t : ByteArray) (hs : t.size ≤ 1048576) (L : List (List Bs)) (hR : scanR t.data.toList [] [] [] = .ok L) (w : World) (he : EnvS w) : Calls Tryd.prog 6 #[.string t] w fun e w' => e = .returned (.bool true) ∧ Below w.heap.size w w' := by
  obtain ⟨hal, htx⟩ := scan_back _ _ _ _ L hR rfl rfl rfl
  have htx' : textT L = t.data.toList := by rw [htx]; simp [pend, textT]
  have HL : Hid (Calls Tryd.prog 9 #[.string t, .int .i64 (t.size : Int)] w fun e w' => ∃ v, e = .returned (.tuple #[v, .int .i64 0, .int .i64 0]) ∧ LinesAt w' v L ∧ Below w.heap.size w w') := by
    refine (Lines_len t w (by omega) rfl).mono ?_
    rintro e w' ⟨v, rfl, ho, hb⟩
    rw [hR] at ho ⊢
    exact ⟨v, rfl, ho.at, hb⟩
  have HK : Hid (∀ w1, Below w.heap.size w w1 → Calls Tryd.prog 11 #[] w1 fun e w' => e = .returned (.bool true) ∧ Below w1.heap.size w1 w') := fun w1 hb => known_any w1 (he.below hb)
  have HJ : Hid (∀ w1 v, LinesAt w1 v L → Calls Tryd.prog 12 #[v] w1 fun e w' => e = .returned (.tuple #[.string t, .int .i64 0]) ∧ Below w1.heap.size w1 w') := by
    intro w1 v hv
    have := Join_any (by rw [htx', list_size]; omega) hv
    obtain ⟨j1, j2⟩ := joi_yes hal
    rw [j1, j2, htx', ba_of] at this
    exact this
  clear hR hal htx htx' he
  go_enter Tryd.func6, Tryd.ntmps6
  go_wp2_with (first
    | (go_at_call 9; refine HL.out.mono ?_; rintro e w1 ⟨v1, rfl, hl1, hb1⟩; have HL1 := hide3 hl1; have HB1 := hide3 hb1; clear hl1 hb1)
    | (go_at_call 11; refine (HK.out _ HB1.out).mono ?_; rintro e w2 ⟨rfl, hb2⟩; have HL2 := hide3 (HL1.out.below hb2); have HB2 : Hid (Below w.heap.size w w2) := below_then HB1.out hb2; clear hb2)
    | (go_at_call 12; refine (HJ.out _ _ HL2.out).mono ?_; rintro e w3 ⟨rfl, hb3⟩; have HB3 : Hid (Below w.heap.size w w3) := below_then HB2.out hb3; clear hb3))
  go_ret
  exact ⟨rfl, HB3.out⟩

set_option maxHeartbeats 6400000 in
theorem scanBack_no (t : ByteArray) (hs : t.size ≤ 1048576) (n : Nat) (hR : scanR t.data.toList [] [] [] = .error n) (w : World) (he : EnvS w) : Calls Tryd.prog 6 #[.string t] w fun e w' => e = .returned (.bool true) ∧ Below w.heap.size w w' := by
  obtain ⟨m, hn, hm, hL⟩ := scan_wrong _ _ _ _ n hR
  have hml := nls_le t.data.toList
  rw [list_size] at hml
  obtain ⟨L, hsc, hLl⟩ : ∃ L, scanR (aheadN m t.data.toList) [] [] [] = .ok L ∧ L.length + 1 = n := by
    rcases Nat.eq_zero_or_pos m with rfl | h
    · refine ⟨[], ?_, by rw [hn]⟩
      rw [ahead_zero]; rfl
    · exact hL h
  have hn' : n = m + 1 := by rw [hn]; simp; omega
  have HL : Hid (Calls Tryd.prog 9 #[.string t, .int .i64 (t.size : Int)] w fun e w' => ∃ ad cap, e = .returned (.tuple #[.slice ad 0 cap, .int .i64 22, .int .i64 ((m + 1 : Nat) : Int)]) ∧ Below w.heap.size w w') := by
    refine (Lines_len t w (by omega) rfl).mono ?_
    rintro e w' ⟨v, rfl, ho, hb⟩
    rw [hR, hn'] at ho ⊢
    obtain ⟨ad, cap, rfl⟩ := ho.nil
    exact ⟨ad, cap, rfl, hb⟩
  have HK : Hid (∀ w1, Below w.heap.size w w1 → Calls Tryd.prog 11 #[] w1 fun e w' => e = .returned (.bool true) ∧ Below w1.heap.size w1 w') := fun w1 hb => known_any w1 (he.below hb)
  have HA : Hid (∀ a w1, t.data.toList.take a = aheadN m t.data.toList → Calls Tryd.prog 9 #[.string (t.extract 0 a), .int .i64 (t.size : Int)] w1 fun e w' => ∃ ad cap, e = .returned (.tuple #[.slice ad m cap, .int .i64 0, .int .i64 0]) ∧ Below w1.heap.size w1 w') := by
    intro a w1 ha
    have hz : (t.extract 0 a).size ≤ t.size := by rw [ByteArray.size_extract]; omega
    refine (Lines_walk (t.extract 0 a) (by omega) _ (by omega) w1 (fun s h1 w1 => Clone_any s (by omega) w1)).mono ?_
    rintro e w' ⟨v, rfl, ho, hb⟩
    have e1 : (t.extract 0 a).data.toList = aheadN m t.data.toList := by rw [ba_extract, ba_list, List.drop_zero, ha]
    rw [e1, hsc] at ho ⊢
    obtain ⟨ad, cap, rfl⟩ := ho.at.slice
    have : L.length = m := by omega
    exact ⟨ad, cap, by rw [show (linL (.ok L)).length = m from this]; rfl, hb⟩
  have HM := hide3 hm
  have hmb : m ≤ 1048576 := by omega
  clear hml
  clear hR he hL hsc hLl hn hn' hm
  go_enter Tryd.func6, Tryd.ntmps6
  go_wp2_with (first
    | (go_at_call 9; refine HL.out.mono ?_; rintro e w1 ⟨ad1, cap1, rfl, hb1⟩; have HB1 := hide3 hb1; clear hb1)
    | (go_at_call 11; refine (HK.out _ HB1.out).mono ?_; rintro e w2 ⟨rfl, hb2⟩; have HB2 : Hid (Below w.heap.size w w2) := below_then HB1.out hb2; clear hb2))
  go_loop [8, 9] (fun i j => ∃ a c : Nat, a ≤ t.size ∧ i = .int .i64 a ∧ j = .int .i64 ((c + 1 : Nat) : Int) ∧ c = nls (t.data.toList.take a) ∧ c ≤ m ∧ aheadN m t.data.toList = t.data.toList.take a ++ aheadN (m - c) (t.data.toList.drop a)) (fun i _ => t.size - (intOf i).toNat)
  case atStart => exact ⟨0, 0, Nat.zero_le _, rfl, rfl, rfl, Nat.zero_le _, by simp⟩
  case round =>
    obtain ⟨a, c, ha, rfl, rfl, hc, hcm, hah⟩ := hrel
    have HC := hide3 hc
    have HH := hide3 hah
    clear hc hah
    by_cases hlt : a < t.size
    · by_cases hcl : c < m
      · have hd : t.data.toList.drop a = t[a] :: t.data.toList.drop (a + 1) := drop_at hlt
        obtain ⟨q, hq⟩ : ∃ q, m - c = q + 1 := ⟨m - c - 1, by omega⟩
        by_cases h10 : t[a] = 10
        · have e10 : ((t[a].toNat : Int) == 10) = true := by rw [h10]; rfl
          have HC2 : Hid (c + 1 = nls (t.data.toList.take (a + 1))) := by unfold Hid; rw [take_snoc hlt, nls_snoc, ← HC.out, if_pos h10]
          have HH2 : Hid (aheadN m t.data.toList = t.data.toList.take (a + 1) ++ aheadN (m - (c + 1)) (t.data.toList.drop (a + 1))) := by
            unfold Hid
            rw [HH.out, hd, hq, h10, ahead_nl, take_snoc hlt, h10, show m - (c + 1) = q by omega]
            simp
          clear hd hq h10
          go_wp2
          exact ⟨⟨a + 1, c + 1, by omega, by go_num, by go_num, HC2.out, by omega, HH2.out⟩, by simp [intOf]; omega⟩
        · have e10 : ((t[a].toNat : Int) == 10) = false := by rw [beq_eq_false_iff_ne]; intro e; exact h10 (UInt8.toNat_inj.1 (by show t[a].toNat = 10; omega))
          have HC2 : Hid (c = nls (t.data.toList.take (a + 1))) := by unfold Hid; rw [take_snoc hlt, nls_snoc, ← HC.out, if_neg h10]; rfl
          have HH2 : Hid (aheadN m t.data.toList = t.data.toList.take (a + 1) ++ aheadN (m - c) (t.data.toList.drop (a + 1))) := by
            unfold Hid
            rw [HH.out, hd, hq, ahead_other h10, take_snoc hlt]
            simp
          clear hd hq h10
          go_wp2
          exact ⟨⟨a + 1, c, by omega, by go_num, by go_num, HC2.out, by omega, HH2.out⟩, by simp [intOf]; omega⟩
      · obtain rfl : c = m := by omega
        have HX := hide3 (HA.out a w2 (by rw [HH.out, Nat.sub_self, ahead_zero, List.append_nil]))
        go_wp2_with (go_at_call 9; refine HX.out.mono ?_; rintro e w3 ⟨ad3, cap3, rfl, hb3⟩; have HB3 : Hid (Below w.heap.size w w3) := below_then HB2.out hb3; clear hb3)
        go_ret
        exact ⟨rfl, HB3.out⟩
    · have hcn : c = nls t.data.toList := by rw [HC.out, List.take_of_length_le (by rw [list_size]; omega)]
      obtain rfl : c = m := by have := HM.out; omega
      clear hcn
      have HX := hide3 (HA.out a w2 (by rw [HH.out, Nat.sub_self, ahead_zero, List.append_nil]))
      go_wp2_with (go_at_call 9; refine HX.out.mono ?_; rintro e w3 ⟨ad3, cap3, rfl, hb3⟩; have HB3 : Hid (Below w.heap.size w w3) := below_then HB2.out hb3; clear hb3)
      go_ret
      exact ⟨rfl, HB3.out⟩

theorem scanBack_walk (t : ByteArray) (hs : t.size ≤ 1048576) (w : World) (he : EnvS w) : Calls Tryd.prog 6 #[.string t] w fun e w' => e = .returned (.bool true) ∧ Below w.heap.size w w' := by
  cases h : scanR t.data.toList [] [] [] with
  | ok L => exact scanBack_ok t hs L h w he
  | error n => exact scanBack_no t hs n h w he
end Go.Proofs.YtiahoaneinojgaaDoor.Sc
