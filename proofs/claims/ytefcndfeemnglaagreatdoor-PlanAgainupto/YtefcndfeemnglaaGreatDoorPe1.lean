/- Package plan: the kind of a word, the bytes of a word. Conditions: sizes. -/
import Derived.Test.YtefcndfeemnglaaGreatDoorPd3
namespace Go.Proofs.YtefcndfeemnglaaGreatDoor
open Go.RowKit Go.Maps Go.WideMaps Go.WideElems Dk
open Sc (KeepP keepBelow callC callC' wp_region_keep)
set_option maxRecDepth 100000

theorem word_eq {k : Nat} (h1 : 1 ≤ k) (h4 : k ≤ 4) {s : ByteArray} (h : ((wordP k).toList == s.toList) = true) : kindW s.data.toList = k := by
  rw [← toList_data, ← beq_iff_eq.1 h, toList_data]
  exact kindW_word (by omega) (by omega)
theorem word_none {s : ByteArray} (h : ∀ j : Nat, 1 ≤ j → j ≤ 4 → ((wordP j).toList == s.toList) = false) : kindW s.data.toList = 0 := by
  by_cases q : kindW s.data.toList = 0
  · exact q
  · obtain ⟨h1, h2, h3⟩ := word_kind q
    have := h (kindW s.data.toList).toNat (by omega) (by omega)
    rw [show (((kindW s.data.toList).toNat : Nat) : Int) = kindW s.data.toList by omega, toList_data, ← h1, toList_data] at this
    simp at this

theorem plKind_any (s : ByteArray) (w : World) : Calls Tryz.prog 53 #[.string s] w fun e w' => e = .returned (.int .i64 (kindW s.data.toList)) ∧ w' = w := by
  have HY : Hid (∀ k : Nat, 1 ≤ k → k ≤ 4 → ((wordP k).toList == s.toList) = true → kindW s.data.toList = k) := fun k h1 h4 h => word_eq h1 h4 h
  have HN := hide3 (word_none (s := s))
  have HW : Hid (∀ (k : Nat) w1, 1 ≤ k → k ≤ 4 → Calls Tryz.prog 44 #[.int .i64 (k : Int)] w1 fun e w' => e = .returned (.string (wordP k)) ∧ w' = w1) := fun k w1 h1 h4 => by
    have := wordOf_any (k : Int) w1
    rw [wordO_is (by omega) (by omega)] at this
    exact this
  generalize kindW s.data.toList = r at *
  go_enter Tryz.func53, Tryz.ntmps53
  go_wp2_with fail
  go_loop [3] (fun i => ∃ k : Nat, 1 ≤ k ∧ k ≤ 5 ∧ i = .int .i64 k ∧ ∀ j : Nat, 1 ≤ j → j < k → ((wordP j).toList == s.toList) = false) (fun i => 5 - (intOf i).toNat)
  case atStart => exact ⟨1, Nat.le_refl _, by omega, rfl, fun j h1 h2 => by omega⟩
  case round =>
    obtain ⟨k, h1, h5, rfl, hall⟩ := hrel
    have HA := hide3 hall
    clear hall
    by_cases h4 : k ≤ 4
    · have HWK := hide3 (fun w1 => HW.out k w1 h1 h4)
      have HYK := hide3 (HY.out k h1 h4)
      have HST : Hid (((wordP k).toList == s.toList) = false → ∀ j : Nat, 1 ≤ j → j < k + 1 → ((wordP j).toList == s.toList) = false) := fun h j hj hjk => by
        by_cases e : j = k
        · subst e; exact h
        · exact HA.out j hj (by omega)
      have hki : (k : Int) ≤ 4 := by omega
      generalize wordP k = wd at *
      cases hq : (wd.toList == s.toList)
      · go_wp2_with (go_at_call 44; refine (HWK.out _).mono ?_; rintro e w1 ⟨rfl, rfl⟩)
        exact ⟨⟨k + 1, by omega, by omega, by go_num, HST.out hq⟩, by simp [intOf]; omega⟩
      · have HR := hide3 (HYK.out hq)
        go_wp2_with (go_at_call 44; refine (HWK.out _).mono ?_; rintro e w1 ⟨rfl, rfl⟩)
        go_ret
        exact ⟨ret_int HR.out.symm, rfl⟩
    · have hki : ¬ ((k : Int) ≤ 4) := by omega
      have HR : Hid (r = 0) := HN.out fun j h1 h4 => HA.out j h1 (by omega)
      go_wp2_with fail
      go_ret
      exact ⟨ret_int HR.out.symm, rfl⟩

/-- What a word's bytes are told as. -/
def bytO (w : Sc.Bs) : ByteArray := match bytW w with
  | some y => Sc.ba y
  | none => ⟨#[]⟩
theorem idx_all : ∀ n, n < 256 → Lib.indexByte hexD.data.toList (UInt8.ofNat n) = if isHx (UInt8.ofNat n) = true then (digN n : Int) else -1 := by decide +kernel
theorem idx_is (b : UInt8) : Lib.indexByte hexD.data.toList ((b.toNat : Int).toNat.toUInt8) = if isHx b = true then (digN b.toNat : Int) else -1 := by
  have := idx_all b.toNat (by have := b.toNat_lt; omega)
  rw [UInt8.ofNat_toNat] at this
  rw [← this]
  congr 1
  simp
theorem byt_dash {s : ByteArray} (h : (s.toList == [45]) = true) : bytO s.data.toList = ⟨#[]⟩ ∧ (bytW s.data.toList).isSome = true := by
  have h2 : bytW s.data.toList = some [] := by unfold bytW; rw [if_pos (by rw [← toList_data]; exact beq_iff_eq.1 h)]
  unfold bytO
  rw [h2]
  exact ⟨rfl, rfl⟩
theorem byt_no {s : ByteArray} (h : (s.toList == [45]) = false) (h2 : ¬ (s.data.toList.length % 2 = 0 ∧ s.data.toList.all isHx = true)) : bytO s.data.toList = ⟨#[]⟩ ∧ (bytW s.data.toList).isSome = false := by
  have h3 : bytW s.data.toList = none := by unfold bytW; rw [if_neg (fun e => by rw [← toList_data] at e; rw [e] at h; cases h), if_neg h2]
  unfold bytO
  rw [h3]
  exact ⟨rfl, rfl⟩
theorem byt_yes {s : ByteArray} (h : (s.toList == [45]) = false) (h2 : s.data.toList.length % 2 = 0 ∧ s.data.toList.all isHx = true) : bytO s.data.toList = Sc.ba (dataL s.data.toList) ∧ (bytW s.data.toList).isSome = true := by
  have h3 : bytW s.data.toList = some (dataL s.data.toList) := by unfold bytW; rw [if_neg (fun e => by rw [← toList_data] at e; rw [e] at h; cases h), if_pos h2]
  unfold bytO
  rw [h3]
  exact ⟨rfl, rfl⟩
theorem bits_all : ∀ a, a < 16 → ∀ b, b < 16 → bits BinOp.or IntKind.i64 ((a : Nat) * 16 : Int) ((b : Nat) : Int) % 256 = ((UInt8.ofNat (16 * a + b)).toNat : Int) := by decide +kernel

set_option maxHeartbeats 4000000 in
theorem bytesOf_any (s : ByteArray) (w : World) (hs : s.size ≤ 1000000000) : Calls Tryz.prog 54 #[.string s] w fun e w' => e = .returned (.tuple #[.string (bytO s.data.toList), .bool (bytW s.data.toList).isSome]) ∧ Below w.heap.size w w' := by
  cases h45 : (s.toList == [45])
  · have HYE := hide3 (byt_yes h45)
    have HNO := hide3 (byt_no h45)
    generalize bytO s.data.toList = r at *
    generalize (bytW s.data.toList).isSome = b at *
    by_cases h2 : s.size % 2 = 0
    · have h2i : (IntKind.i64.wrap ((s.size : Int).tmod 2) != 0) = false := by
        have : (s.size : Int).tmod 2 = 0 := by rw [Int.tmod_eq_emod_of_nonneg (by omega)]; omega
        rw [this]; rfl
      have h2j : (s.size : Int) % 2 = 0 := by omega
      have HN := hide3 (Sc.Bld.new w)
      have HE0 : Hid (Below w.heap.size w (w.alloc (.cells #[.pointer none, .slice none 0 0] 91))) := (Below.refl _ _).alloc (Nat.le_refl _) _
      go_enter Tryz.func54, Tryz.ntmps54
      go_wp2_with fail
      go_loopw [5] (fun v5 wr => ∃ a k : Nat, v5 = .int .i64 a ∧ a = 2 * k ∧ a ≤ s.size ∧ Sc.Bld w.heap.size w.heap.size (dataL (s.data.toList.take a)) wr ∧ Below w.heap.size w wr ∧ ∀ j (hj : j < s.data.toList.length), j < a → isHx s.data.toList[j] = true) (fun v5 _ => s.size - (intOf v5).toNat)
      case atStart => exact ⟨0, 0, rfl, rfl, Nat.zero_le _, HN.out, HE0.out, fun j _ h => by omega⟩
      case round =>
        obtain ⟨a, k, rfl, hak, hle, ho, hb, hall⟩ := hrel
        have HAK := hide3 hak
        have HO := hide3 ho
        have HB := hide3 hb
        have HA := hide3 hall
        clear hak ho hb hall
        by_cases hlt : a < s.size
        · obtain ⟨c, hc⟩ : ∃ c : Nat, c = a + 1 := ⟨_, rfl⟩
          have HC := hide3 hc
          have hcl : c < s.size := by have := HAK.out; omega
          have hw1 : IntKind.i64.wrap ((a : Int) + 1) = (c : Int) := by rw [hc, IntKind.wrap_i64]; omega
          have hai : (a : Int) < (s.size : Int) := by omega
          have hci : (c : Int) < (s.size : Int) := by omega
          have hTK : isHx s[a] = true → isHx s[c] = true → dataL (s.data.toList.take (a + 2)) = dataL (s.data.toList.take a) ++ [UInt8.ofNat (16 * digN s[a].toNat + digN s[c].toNat)] := fun _ _ => by
            have hk := HAK.out
            subst hc
            subst hk
            have h := dataL_take (l := s.data.toList) (k := k) (by rw [size_list]; omega)
            rw [show 2 * (k + 1) = 2 * k + 2 by omega] at h
            exact h
          have HI : Hid (∀ (x : UInt8) w1, Calls Tryz.prog 76 #[.string ⟨#[48, 49, 50, 51, 52, 53, 54, 55, 56, 57, 97, 98, 99, 100, 101, 102]⟩, .int .u8 (x.toNat : Int)] w1 fun e w' => e = .returned (.int .i64 (if isHx x = true then (digN x.toNat : Int) else -1)) ∧ Below w1.heap.size w1 w') := fun x w1 => by
            have := Tryz.strings_IndexByte hexD (x.toNat : Int) w1
            rw [idx_is] at this
            exact this.mono fun e w' h => ⟨h.1, by rw [h.2]; exact Below.refl _ _⟩
          have HLS : Hid (isHx s[a] = true → isHx s[c] = true → ∀ j (hj : j < s.data.toList.length), j < a + 2 → isHx s.data.toList[j] = true) := fun h1 h2 j hj hja => by
            by_cases e : j = a
            · subst e; exact h1
            · by_cases e2 : j = c
              · subst e2; exact h2
              · exact HA.out j hj (by omega)
          have HFL : Hid (isHx s[a] = false ∨ isHx s[c] = false → ¬ (s.data.toList.length % 2 = 0 ∧ s.data.toList.all isHx = true)) := fun h q => by
            have q2 := List.all_eq_true.1 q.2
            rcases h with h | h
            · have := q2 s[a] (List.getElem_mem (by rw [size_list]; exact hlt))
              rw [h] at this; cases this
            · have := q2 s[c] (List.getElem_mem (by rw [size_list]; exact hcl))
              rw [h] at this; cases this
          have HTK := hide3 hTK
          have hd1 := digN_lt s[a].toNat
          have hd2 := digN_lt s[c].toNat
          have HLN : Hid ((dataL (s.data.toList.take a)).length ≤ 1000000000) := by
            have hk := HAK.out
            have := dataL_len k (s.data.toList.take a) (by rw [List.length_take, size_list]; omega)
            unfold Hid
            omega
          clear hc hTK HYE h2i h2j
          generalize hx1 : s[a] = x1 at *
          generalize hx2 : s[c] = x2 at *
          generalize dataL (s.data.toList.take a) = old at *
          have HK : Hid (KeepP fun w1 => Below w.heap.size w w1 ∧ Sc.Bld w.heap.size w.heap.size old w1) := (keepBelow w).and (fun _ _ h hb => h.below hb)
          have HO : Hid (Below w.heap.size w wr ∧ Sc.Bld w.heap.size w.heap.size old wr) := ⟨HB.out, HO.out⟩
          have HI1 := hide3 (HI.out x1)
          have HI2 := hide3 (HI.out x2)
          clear HN HE0 HI HB HA
          cases hh1 : isHx x1
          · obtain ⟨e1, e2⟩ := HNO.out (HFL.out (Or.inl hh1))
            subst e1 e2
            rw [hh1] at HI1
            simp only [Bool.false_eq_true, if_false] at HI1
            generalize (if isHx x2 = true then (digN x2.toNat : Int) else -1) = i2 at *
            clear HNO HFL HTK HLS hh1
            go_wp2_with fail
            refine wp_region_keep HK.out (by kernel_rfl) (by kernel_rfl) (by first | exact HO.out | exact HK.out.drew HO.out) ?_
            intro C hin hout
            have HIN := hide3 hin
            have HOUT := hide3 hout
            clear hin hout HO
            repeat
              (with_reducible refine wpQuiet_step (fun K hK => ?_)
               go_simp
               first
                 | (refine hK _ ?_; clear hK K)
                 | (apply Exists.intro; refine ⟨fun w1 hC => ?_, hK _ ?_⟩; (focus ((first | (go_at_call 76; with_reducible exact callC HIN.out HOUT.out HK.out HI1.out w1 hC) | (go_at_call 76; with_reducible exact callC HIN.out HOUT.out HK.out HI2.out w1 hC) | (exact rfl) | (obtain ⟨hb1, hbl⟩ := HOUT.out w1 hC; clear hC; go_simp; first | done | exact rfl)); done)); clear hK K))
            refine wpQuiet_nil ?_
            intro wn hC
            have HO := hide3 (HOUT.out _ hC)
            clear hC HIN HOUT C
            obtain ⟨hb1, hbl⟩ := HO.out
            go_wp2_with fail
            go_ret2
            exact ⟨rfl, HO.out.1⟩
          · cases hh2 : isHx x2
            · obtain ⟨e1, e2⟩ := HNO.out (HFL.out (Or.inr hh2))
              subst e1 e2
              rw [hh1] at HI1
              rw [hh2] at HI2
              simp only [Bool.false_eq_true, if_false, if_true] at HI1 HI2
              generalize digN x1.toNat = d1 at *
              clear HNO HFL HTK HLS hh1 hh2
              go_wp2_with fail
              refine wp_region_keep HK.out (by kernel_rfl) (by kernel_rfl) (by first | exact HO.out | exact HK.out.drew HO.out) ?_
              intro C hin hout
              have HIN := hide3 hin
              have HOUT := hide3 hout
              clear hin hout HO
              repeat
                (with_reducible refine wpQuiet_step (fun K hK => ?_)
                 go_simp
                 first
                   | (refine hK _ ?_; clear hK K)
                   | (apply Exists.intro; refine ⟨fun w1 hC => ?_, hK _ ?_⟩; (focus ((first | (go_at_call 76; with_reducible exact callC HIN.out HOUT.out HK.out HI1.out w1 hC) | (go_at_call 76; with_reducible exact callC HIN.out HOUT.out HK.out HI2.out w1 hC) | (exact rfl) | (obtain ⟨hb1, hbl⟩ := HOUT.out w1 hC; clear hC; go_simp; first | done | exact rfl)); done)); clear hK K))
              refine wpQuiet_nil ?_
              intro wn hC
              have HO := hide3 (HOUT.out _ hC)
              clear hC HIN HOUT C
              obtain ⟨hb1, hbl⟩ := HO.out
              go_wp2_with fail
              go_ret2
              exact ⟨rfl, HO.out.1⟩
            · have HTK2 := hide3 (HTK.out hh1 hh2)
              have HLS2 := hide3 (HLS.out hh1 hh2)
              rw [hh1] at HI1
              rw [hh2] at HI2
              simp only [if_true] at HI1 HI2
              generalize digN x1.toNat = d1 at *
              generalize digN x2.toNat = d2 at *
              clear HNO HFL HTK HLS hh1 hh2
              go_wp2_with fail
              refine wp_region_keep HK.out (by kernel_rfl) (by kernel_rfl) (by first | exact HO.out | exact HK.out.drew HO.out) ?_
              intro C hin hout
              have HIN := hide3 hin
              have HOUT := hide3 hout
              clear hin hout HO
              repeat
                (with_reducible refine wpQuiet_step (fun K hK => ?_)
                 go_simp
                 first
                   | (refine hK _ ?_; clear hK K)
                   | (apply Exists.intro; refine ⟨fun w1 hC => ?_, hK _ ?_⟩; (focus ((first | (go_at_call 76; with_reducible exact callC HIN.out HOUT.out HK.out HI1.out w1 hC) | (go_at_call 76; with_reducible exact callC HIN.out HOUT.out HK.out HI2.out w1 hC) | (exact rfl) | (obtain ⟨hb1, hbl⟩ := HOUT.out w1 hC; clear hC; go_simp; first | done | exact rfl)); done)); clear hK K))
              refine wpQuiet_nil ?_
              intro wn hC
              have HO := hide3 (HOUT.out _ hC)
              clear hC HIN HOUT C
              obtain ⟨hb1, hbl⟩ := HO.out
              have hbt := bits_all d1 hd1 d2 hd2
              generalize UInt8.ofNat (16 * d1 + d2) = y at *
              go_wp2_with (go_at_call 49; refine (Sc.putByte y HO.out.2 (by have := HLN.out; omega) HO.out.1.size).mono ?_; rintro e w2 ⟨rfl, ho2, hb2⟩; have HO2 := hide3 ho2; have HB2 := hide3 (HO.out.1.trans hb2); clear ho2 hb2)
              exact ⟨⟨a + 2, k + 1, by go_num, by have := HAK.out; omega, by have := HC.out; omega, by rw [HTK2.out]; exact HO2.out, HB2.out, HLS2.out⟩, by simp [intOf]; omega⟩
        · obtain rfl : a = s.size := by omega
          have hfull : s.data.toList.take s.size = s.data.toList := List.take_of_length_le (by rw [size_list]; exact Nat.le_refl _)
          obtain ⟨e1, e2⟩ := HYE.out ⟨by rw [size_list]; exact h2, all_get fun j hj => HA.out j hj (by rw [size_list] at hj; exact hj)⟩
          subst e1 e2
          rw [hfull] at HO
          have HS := hide3 (Tryz.Builder_String_any w.heap.size w.heap.size _ wr HO.out HB.out.size)
          clear HYE HNO HN HE0
          go_wp2_with (go_at_call 50; refine HS.out.mono ?_; rintro e w1 ⟨rfl, hb1⟩; have HB1 := hide3 (HB.out.trans hb1); clear hb1)
          go_ret2
          exact ⟨rfl, HB1.out⟩
    · have h2i : (IntKind.i64.wrap ((s.size : Int).tmod 2) != 0) = true := by
        have : (s.size : Int).tmod 2 = 1 := by rw [Int.tmod_eq_emod_of_nonneg (by omega)]; omega
        rw [this]; rfl
      have h2j : (s.size : Int) % 2 = 1 := by omega
      obtain ⟨e1, e2⟩ := HNO.out (fun q => h2 (by rw [size_list] at q; exact q.1))
      subst e1 e2
      go_enter Tryz.func54, Tryz.ntmps54
      go_wp2_with fail
      go_ret2
      exact ⟨rfl, Below.refl _ _⟩
  · obtain ⟨e1, e2⟩ := byt_dash h45
    rw [e1, e2]
    clear e1 e2
    go_enter Tryz.func54, Tryz.ntmps54
    go_wp2
    go_ret2
    exact ⟨rfl, Below.refl _ _⟩
end Go.Proofs.YtefcndfeemnglaaGreatDoor
