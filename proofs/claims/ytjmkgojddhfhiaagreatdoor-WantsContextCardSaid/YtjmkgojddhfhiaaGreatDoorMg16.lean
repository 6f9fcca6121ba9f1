/- Rk3, ScNm3, Rk4, laid in one text. -/
import Derived.Test.YtjmkgojddhfhiaaGreatDoorMg15
namespace Go.Proofs.YtjmkgojddhfhiaaGreatDoor
open Go.RowKit
set_option maxRecDepth 100000

theorem drop_byte {s : ByteArray} {k : Nat} (h : k < s.size) : s.toList.drop k = s[k] :: s.toList.drop (k + 1) := by
  have := List.drop_eq_getElem_cons (l := s.data.toList) (i := k) (by rw [list_size]; exact h)
  rw [ByteArray.toList_eq]
  exact this
theorem drop_all {s : ByteArray} {k : Nat} (h : s.size ≤ k) : s.toList.drop k = [] := by
  rw [ByteArray.toList_eq]
  exact List.drop_of_length_le (by rw [list_size]; exact h)
theorem bl_hit {a b : ByteArray} {k : Nat} (ha : k < a.size) (hb : k < b.size) (h : a[k] ≠ b[k]) : Op.bytesLess (a.toList.drop k) (b.toList.drop k) = decide (a[k].toNat < b[k].toNat) := by
  rw [drop_byte ha, drop_byte hb]
  show (decide (a[k] < b[k]) || (a[k] == b[k] && _)) = _
  rw [show (a[k] == b[k]) = false from beq_eq_false_iff_ne.2 h, Bool.false_and, Bool.or_false]
  rfl
theorem bl_step {a b : ByteArray} {k : Nat} (ha : k < a.size) (hb : k < b.size) (h : a[k] = b[k]) : Op.bytesLess (a.toList.drop k) (b.toList.drop k) = Op.bytesLess (a.toList.drop (k + 1)) (b.toList.drop (k + 1)) := by
  rw [drop_byte ha, drop_byte hb, h]
  show (decide (b[k] < b[k]) || (b[k] == b[k] && _)) = _
  simp
theorem bl_end {a b : ByteArray} {k : Nat} (hka : k ≤ a.size) (hkb : k ≤ b.size) (h : ¬ (k < a.size ∧ k < b.size)) : Op.bytesLess (a.toList.drop k) (b.toList.drop k) = decide (a.size < b.size) := by
  by_cases hb : k < b.size
  · have ha : a.size = k := by omega
    rw [drop_all (by omega), drop_byte hb]
    show true = _
    rw [decide_eq_true (by omega)]
  · rw [drop_all (s := b) (by omega)]
    rw [decide_eq_false (by omega)]
    cases List.drop k a.toList <;> rfl

set_option maxHeartbeats 1600000 in
theorem rLess_any (a b : ByteArray) (w : World) (ha : a.size ≤ 9223372036854775807) : Calls Tryz.prog 100 #[.string a, .string b] w fun e w' => e = .returned (.bool (ltS a b)) ∧ Below w.heap.size w w' := by
  have HR0 : Hid (ltS a b = Op.bytesLess (a.toList.drop 0) (b.toList.drop 0)) := rfl
  have HK : Hid (KeepP fun w1 => Below w.heap.size w w1) := keepBelow w
  go_enter Tryz.func100, Tryz.ntmps100
  go_wp2_with fail
  go_loopw [5] (fun i wr => ∃ k : Nat, k ≤ a.size ∧ k ≤ b.size ∧ i = .int .i64 k ∧ Below w.heap.size w wr ∧ ltS a b = Op.bytesLess (a.toList.drop k) (b.toList.drop k)) (fun i _ => a.size - (intOf i).toNat)
  case atStart => exact ⟨0, Nat.zero_le _, Nat.zero_le _, rfl, Below.refl _ _, HR0.out⟩
  case round =>
    clear HR0
    obtain ⟨k, hka, hkb, rfl, hbw, hrl⟩ := hrel
    have HO := hide3 hbw
    have HRL := hide3 hrl
    clear hbw hrl
    by_cases hh : k < a.size ∧ k < b.size
    · obtain ⟨h1, h2⟩ := hh
      have g1 : (k : Int) < (a.size : Int) := by omega
      have g2 : (k : Int) < (b.size : Int) := by omega
      by_cases he : a[k] = b[k]
      · have HS : Hid (ltS a b = Op.bytesLess (a.toList.drop (k + 1)) (b.toList.drop (k + 1))) := by unfold Hid; rw [HRL.out, bl_step h1 h2 he]
        have e1 : ((a[k].toNat : Int) == (b[k].toNat : Int)) = true := by rw [he]; simp
        clear he
        go_wp2_with fail
        refine wp_region_keep HK.out (by kernel_rfl) (by kernel_rfl) (by first | exact HO.out | exact HK.out.drew HO.out) ?_
        intro C hin hout
        have HIN := hide3 hin
        have HOUT := hide3 hout
        clear hin hout HO
        repeat
          (with_reducible refine wpQuiet_step (fun K hK => ?_)
           go_simp
           first
             | (refine hK _ ?_; clear hK K)
             | (apply Exists.intro; refine ⟨fun w1 hC => ?_, hK _ ?_⟩; (focus ((first | (exact rfl) | (obtain hb1 := HOUT.out w1 hC; clear hC; go_simp; first | done | exact rfl)); done)); clear hK K))
        refine wpQuiet_nil ?_
        intro wn hC
        have HO := hide3 (HOUT.out _ hC)
        clear hC HIN HOUT C
        obtain hb1 := HO.out
        go_wp2
        exact ⟨⟨k + 1, by omega, by omega, by go_num, HO.out, HS.out⟩, by simp [intOf]; omega⟩
      · have HS : Hid (ltS a b = decide (a[k].toNat < b[k].toNat)) := by unfold Hid; rw [HRL.out, bl_hit h1 h2 he]
        have e1 : ((a[k].toNat : Int) == (b[k].toNat : Int)) = false := by
          rw [beq_eq_false_iff_ne]
          intro e
          exact he (UInt8.toNat_inj.1 (by omega))
        clear he
        by_cases hl : a[k].toNat < b[k].toNat
        · have HR : Hid (ltS a b = true) := by unfold Hid; rw [HS.out, decide_eq_true hl]
          have e2 : decide ((a[k].toNat : Int) < (b[k].toNat : Int)) = true := decide_eq_true (by omega)
          go_wp2_with fail
          refine wp_region_keep HK.out (by kernel_rfl) (by kernel_rfl) (by first | exact HO.out | exact HK.out.drew HO.out) ?_
          intro C hin hout
          have HIN := hide3 hin
          have HOUT := hide3 hout
          clear hin hout HO
          repeat
            (with_reducible refine wpQuiet_step (fun K hK => ?_)
             go_simp
             first
               | (refine hK _ ?_; clear hK K)
               | (apply Exists.intro; refine ⟨fun w1 hC => ?_, hK _ ?_⟩; (focus ((first | (exact rfl) | (obtain hb1 := HOUT.out w1 hC; clear hC; go_simp; first | done | exact rfl)); done)); clear hK K))
          refine wpQuiet_nil ?_
          intro wn hC
          have HO := hide3 (HOUT.out _ hC)
          clear hC HIN HOUT C
          obtain hb1 := HO.out
          go_wp2_with fail
          refine wp_region_keep HK.out (by kernel_rfl) (by kernel_rfl) (by first | exact HO.out | exact HK.out.drew HO.out) ?_
          intro C hin hout
          have HIN := hide3 hin
          have HOUT := hide3 hout
          clear hin hout HO
          repeat
            (with_reducible refine wpQuiet_step (fun K hK => ?_)
             go_simp
             first
               | (refine hK _ ?_; clear hK K)
               | (apply Exists.intro; refine ⟨fun w1 hC => ?_, hK _ ?_⟩; (focus ((first | (exact rfl) | (obtain hb2 := HOUT.out w1 hC; clear hC; go_simp; first | done | exact rfl)); done)); clear hK K))
          refine wpQuiet_nil ?_
          intro wm hC
          have HO := hide3 (HOUT.out _ hC)
          clear hC HIN HOUT C
          obtain hb2 := HO.out
          go_wp2
          go_ret
          exact ⟨ret_bool HR.out.symm, HO.out⟩
        · have HR : Hid (ltS a b = false) := by unfold Hid; rw [HS.out, decide_eq_false hl]
          have e2 : decide ((a[k].toNat : Int) < (b[k].toNat : Int)) = false := decide_eq_false (by omega)
          go_wp2_with fail
          refine wp_region_keep HK.out (by kernel_rfl) (by kernel_rfl) (by first | exact HO.out | exact HK.out.drew HO.out) ?_
          intro C hin hout
          have HIN := hide3 hin
          have HOUT := hide3 hout
          clear hin hout HO
          repeat
            (with_reducible refine wpQuiet_step (fun K hK => ?_)
             go_simp
             first
               | (refine hK _ ?_; clear hK K)
               | (apply Exists.intro; refine ⟨fun w1 hC => ?_, hK _ ?_⟩; (focus ((first | (exact rfl) | (obtain hb1 := HOUT.out w1 hC; clear hC; go_simp; first | done | exact rfl)); done)); clear hK K))
          refine wpQuiet_nil ?_
          intro wn hC
          have HO := hide3 (HOUT.out _ hC)
          clear hC HIN HOUT C
          obtain hb1 := HO.out
          go_wp2_with fail
          refine wp_region_keep HK.out (by kernel_rfl) (by kernel_rfl) (by first | exact HO.out | exact HK.out.drew HO.out) ?_
          intro C hin hout
          have HIN := hide3 hin
          have HOUT := hide3 hout
          clear hin hout HO
          repeat
            (with_reducible refine wpQuiet_step (fun K hK => ?_)
             go_simp
             first
               | (refine hK _ ?_; clear hK K)
               | (apply Exists.intro; refine ⟨fun w1 hC => ?_, hK _ ?_⟩; (focus ((first | (exact rfl) | (obtain hb2 := HOUT.out w1 hC; clear hC; go_simp; first | done | exact rfl)); done)); clear hK K))
          refine wpQuiet_nil ?_
          intro wm hC
          have HO := hide3 (HOUT.out _ hC)
          clear hC HIN HOUT C
          obtain hb2 := HO.out
          go_wp2
          go_ret
          exact ⟨ret_bool HR.out.symm, HO.out⟩
    · have HR : Hid (ltS a b = decide (a.size < b.size)) := by
        unfold Hid
        rw [HRL.out, bl_end hka hkb hh]
      by_cases h1 : k < a.size
      · have h2 : decide ((k : Int) < (b.size : Int)) = false := decide_eq_false (by omega)
        have g1 : (k : Int) < (a.size : Int) := by omega
        go_wp2
        go_ret
        exact ⟨ret_bool HR.out.symm, HO.out⟩
      · have h2 : decide ((k : Int) < (a.size : Int)) = false := decide_eq_false (by omega)
        go_wp2
        go_ret
        exact ⟨ret_bool HR.out.symm, HO.out⟩

/-- No name stands in both. -/
def apartB (A B : List Dp) : Bool := A.all fun d => B.all fun e => !(d.nm.toList == e.nm.toList)
theorem apart_no {A B : List Dp} {i k : Nat} (hi : i < A.length) (hk : k < B.length) (h : (A[i].nm.toList == B[k].nm.toList) = true) : apartB A B = false := by
  rw [Bool.eq_false_iff]
  intro ha
  have := List.all_eq_true.1 (List.all_eq_true.1 ha _ (List.getElem_mem hi)) _ (List.getElem_mem hk)
  rw [h] at this
  cases this

set_option maxHeartbeats 3200000 in
theorem rApart_any {A B : List Dp} {va vb : Value} {w : World} (ha : DepsAt w va A) (hb : DepsAt w vb B) (hz : A.length ≤ 1000000 ∧ B.length ≤ 1000000) : Calls Tryz.prog 126 #[va, vb] w fun e w' => e = .returned (.bool (apartB A B)) ∧ Below w.heap.size w w' := by
  have HA : Hid (∀ w1, Below w.heap.size w w1 → DepsAt w1 va A) := fun w1 h => ha.below h
  have HB : Hid (∀ w1, Below w.heap.size w w1 → DepsAt w1 vb B) := fun w1 h => hb.below h
  obtain ⟨aa, ca, rfl⟩ := ha.sl
  obtain ⟨ab, cb, rfl⟩ := hb.sl
  obtain ⟨z1, z2⟩ := hz
  clear ha hb
  go_enter Tryz.func126, Tryz.ntmps126
  go_wp2_with fail
  go_loopw [5] (fun i wr => ∃ k : Nat, k ≤ A.length ∧ i = .int .i64 k ∧ Below w.heap.size w wr ∧ apartB A B = apartB (A.drop k) B) (fun i _ => A.length - (intOf i).toNat)
  case atStart => exact ⟨0, Nat.zero_le _, rfl, Below.refl _ _, rfl⟩
  case round =>
    obtain ⟨k, hk, rfl, hbw, hap⟩ := hrel
    have HBW := hide3 hbw
    have HAP := hide3 hap
    clear hap
    by_cases hlt : k < A.length
    · have HAPK : Hid (apartB A B = ((B.all fun e => !(A[k].nm.toList == e.nm.toList)) && apartB (A.drop (k + 1)) B)) := by
        unfold Hid
        rw [HAP.out, List.drop_eq_getElem_cons hlt]
        rfl
      clear hbw HAP
      go_wp2_with fail
      go_loopw [6] (fun j wq => ∃ m : Nat, m ≤ B.length ∧ j = .int .i64 m ∧ Below w.heap.size w wq ∧ (B.all fun e => !(A[k].nm.toList == e.nm.toList)) = ((B.drop m).all fun e => !(A[k].nm.toList == e.nm.toList))) (fun j _ => B.length - (intOf j).toNat)
      case atStart => exact ⟨0, Nat.zero_le _, rfl, HBW.out, rfl⟩
      case round =>
        clear HBW
        obtain ⟨m, hm, rfl, hbw, hal⟩ := hrel
        have HAL := hide3 hal
        have HBW := hide3 hbw
        clear hal
        by_cases hml : m < B.length
        · obtain ⟨ad1, cap1, e1, _, h1⟩ := HA.out wr hbw
          cases e1
          obtain ⟨ad2, cap2, e2, _, h2⟩ := HB.out wr hbw
          cases e2
          obtain ⟨ga, oa, rfl, _, h1⟩ : ∃ g o, aa = some ⟨g, o, none⟩ ∧ g < wr.heap.size ∧ ∀ i (h : i < A.length), ∃ u, DpIn wr g (o + i * 2) A[i] u := by
            rcases h1 with h | h
            · rw [h] at hlt; simp at hlt
            · exact h
          obtain ⟨gb, ob, rfl, _, h2⟩ : ∃ g o, ab = some ⟨g, o, none⟩ ∧ g < wr.heap.size ∧ ∀ i (h : i < B.length), ∃ u, DpIn wr g (o + i * 2) B[i] u := by
            rcases h2 with h | h
            · rw [h] at hml; simp at hml
            · exact h
          obtain ⟨u, hu⟩ := h1 k hlt
          obtain ⟨v, hv⟩ := h2 m hml
          have HO : Hid (Below w.heap.size w wr ∧ DpIn wr ga (oa + k * 2) A[k] u ∧ DpIn wr gb (ob + m * 2) B[m] v) := ⟨hbw, hu, hv⟩
          have HK : Hid (KeepP fun w1 => Below w.heap.size w w1 ∧ DpIn w1 ga (oa + k * 2) A[k] u ∧ DpIn w1 gb (ob + m * 2) B[m] v) := (keepBelow w).and ((keepDp _ _ _ _).and (keepDp _ _ _ _))
          have HNO : Hid ((A[k].nm.toList == B[m].nm.toList) = true → apartB A B = false) := fun h => apart_no hlt hml h
          have HST : Hid ((A[k].nm.toList == B[m].nm.toList) = false → (B.all fun e => !(A[k].nm.toList == e.nm.toList)) = ((B.drop (m + 1)).all fun e => !(A[k].nm.toList == e.nm.toList))) := fun h => by
            rw [HAL.out, List.drop_eq_getElem_cons hml, List.all_cons, h]
            rfl
          clear h1 h2 hu hv hbw HAL
          cases hq : (A[k].nm.toList == B[m].nm.toList)
          · have HR := hide3 (HST.out hq)
            clear HST HNO HAPK
            generalize A[k] = d at *
            generalize B[m] = e at *
            go_wp2_with fail
            refine wp_region_keep HK.out (by kernel_rfl) (by kernel_rfl) (by first | exact HO.out | exact HK.out.drew HO.out) ?_
            intro C hin hout
            have HIN := hide3 hin
            have HOUT := hide3 hout
            clear hin hout HO
            repeat
              (with_reducible refine wpQuiet_step (fun K hK => ?_)
               go_simp
               first
                 | (refine hK _ ?_; clear hK K)
                 | (apply Exists.intro; refine ⟨fun w1 hC => ?_, hK _ ?_⟩; (focus ((first | (exact rfl) | (obtain ⟨hb1, ⟨p0, p1, ph, p3⟩, ⟨q0, q1, qh, q3⟩⟩ := HOUT.out w1 hC; clear hC; go_simp; first | done | exact rfl)); done)); clear hK K))
            refine wpQuiet_nil ?_
            intro wn hC
            have HO := hide3 (HOUT.out _ hC)
            clear hC HIN HOUT C
            obtain ⟨hb1, ⟨p0, p1, ph, p3⟩, ⟨q0, q1, qh, q3⟩⟩ := HO.out
            go_wp2
            exact ⟨⟨m + 1, by omega, by go_num, HO.out.1, HR.out⟩, by simp [intOf]; omega⟩
          · have HR := hide3 (HNO.out hq)
            clear HST HNO HAPK
            generalize A[k] = d at *
            generalize B[m] = e at *
            go_wp2_with fail
            refine wp_region_keep HK.out (by kernel_rfl) (by kernel_rfl) (by first | exact HO.out | exact HK.out.drew HO.out) ?_
            intro C hin hout
            have HIN := hide3 hin
            have HOUT := hide3 hout
            clear hin hout HO
            repeat
              (with_reducible refine wpQuiet_step (fun K hK => ?_)
               go_simp
               first
                 | (refine hK _ ?_; clear hK K)
                 | (apply Exists.intro; refine ⟨fun w1 hC => ?_, hK _ ?_⟩; (focus ((first | (exact rfl) | (obtain ⟨hb1, ⟨p0, p1, ph, p3⟩, ⟨q0, q1, qh, q3⟩⟩ := HOUT.out w1 hC; clear hC; go_simp; first | done | exact rfl)); done)); clear hK K))
            refine wpQuiet_nil ?_
            intro wn hC
            have HO := hide3 (HOUT.out _ hC)
            clear hC HIN HOUT C
            obtain ⟨hb1, ⟨p0, p1, ph, p3⟩, ⟨q0, q1, qh, q3⟩⟩ := HO.out
            go_wp2
            go_ret
            exact ⟨ret_bool HR.out.symm, HO.out.1⟩
        · have HN : Hid (apartB A B = apartB (A.drop (k + 1)) B) := by
            unfold Hid
            rw [HAPK.out, HAL.out, List.drop_of_length_le (by omega)]
            rfl
          clear hbw
          go_wp2
          exact ⟨⟨k + 1, by omega, by go_num, HBW.out, HN.out⟩, by simp [intOf]; omega⟩
    · have HR : Hid (apartB A B = true) := by unfold Hid; rw [HAP.out, List.drop_of_length_le (by omega)]; rfl
      clear hbw
      go_wp2
      go_ret
      exact ⟨ret_bool HR.out.symm, HBW.out⟩
end Go.Proofs.YtjmkgojddhfhiaaGreatDoor
namespace Go.Proofs.YtjmkgojddhfhiaaGreatDoor.Sc
open Go.RowKit
set_option maxRecDepth 100000

theorem ltB_iff (b : UInt8) : ltB b = true ↔ 97 ≤ b.toNat ∧ b.toNat ≤ 122 := by simp [ltB]
theorem dgB_iff (b : UInt8) : dgB b = true ↔ 48 ≤ b.toNat ∧ b.toNat ≤ 57 := by simp [dgB]
theorem nmB_iff (b : UInt8) : nmB b = true ↔ (97 ≤ b.toNat ∧ b.toNat ≤ 122) ∨ (48 ≤ b.toNat ∧ b.toNat ≤ 57) ∨ b.toNat = 45 := by
  unfold nmB
  rw [Bool.or_eq_true, Bool.or_eq_true, ltB_iff, dgB_iff, decide_eq_true_eq, or_assoc]

set_option maxHeartbeats 6400000 in
theorem rName_any (s : ByteArray) (hs : s.size ≤ 9223372036854775807) (w : World) : Calls Tryz.prog 124 #[.string s] w fun e w' => e = .returned (.bool (nameA s.data.toList)) ∧ w' = w := by
  go_enter Tryz.func124, Tryz.ntmps124
  go_wp2
  go_loop [3] (fun i => ∃ k : Nat, k ≤ s.size ∧ i = .int .i64 k ∧ (s.data.toList.take k).all nmB = true ∧ (k = 0 ∨ headB s.data.toList = true)) (fun i => s.size - (intOf i).toNat)
  case atStart => exact ⟨0, Nat.zero_le _, rfl, rfl, Or.inl rfl⟩
  case round =>
    obtain ⟨k, hk, rfl, hal, hhd⟩ := hrel
    have HA := hide3 hal
    have HH := hide3 hhd
    clear hal hhd
    by_cases hlt : k < s.size
    · by_cases h1 : 97 ≤ s[k].toNat ∧ s[k].toNat ≤ 122
      · have HA2 := hide3 (all_more hlt HA.out ((nmB_iff _).2 (Or.inl h1)))
        have HH2 : Hid (k + 1 = 0 ∨ headB s.data.toList = true) := by
          rcases HH.out with rfl | h
          · exact Or.inr (by rw [head_at hlt]; exact (ltB_iff _).2 h1)
          · exact Or.inr h
        obtain ⟨a1, a2⟩ := h1
        have b2 : decide ((s[k].toNat : Int) ≤ 122) = true := decide_eq_true (by omega)
        have b4 : decide ((s[k].toNat : Int) ≤ 57) = false := decide_eq_false (by omega)
        go_wp2
        exact ⟨⟨k + 1, by omega, by go_num, HA2.out, HH2.out⟩, by simp [intOf]; omega⟩
      · by_cases hz : k = 0
        · have HR : Hid (nameA s.data.toList = false) := by
            unfold Hid nameA
            subst hz
            rw [head_at hlt]
            have : ltB s[0] = false := by rw [Bool.eq_false_iff]; intro h; exact h1 ((ltB_iff _).1 h)
            rw [this]; rfl
          have ez : ((k : Int) == 0) = true := by rw [hz]; rfl
          by_cases h2 : 97 ≤ s[k].toNat
          · have h3 : 122 < s[k].toNat := by omega
            have b2 : decide ((s[k].toNat : Int) ≤ 122) = false := decide_eq_false (by omega)
            have b4 : decide ((s[k].toNat : Int) ≤ 57) = false := decide_eq_false (by omega)
            clear h1 hz
            go_wp2
            go_ret
            exact ⟨ret_bool HR.out.symm, rfl⟩
          · clear h1 hz
            by_cases d1 : 48 ≤ s[k].toNat
            · by_cases d2 : s[k].toNat ≤ 57
              · have b4 : decide ((s[k].toNat : Int) ≤ 57) = true := decide_eq_true (by omega)
                go_wp2
                go_ret
                exact ⟨ret_bool HR.out.symm, rfl⟩
              · have b4 : decide ((s[k].toNat : Int) ≤ 57) = false := decide_eq_false (by omega)
                go_wp2
                go_ret
                exact ⟨ret_bool HR.out.symm, rfl⟩
            · go_wp2
              all_goals
                go_ret
                exact ⟨ret_bool HR.out.symm, rfl⟩
        · have ez : ((k : Int) == 0) = false := by rw [beq_eq_false_iff_ne]; omega
          have HH2 : Hid (k + 1 = 0 ∨ headB s.data.toList = true) := Or.inr (HH.out.resolve_left hz)
          by_cases h2 : (48 ≤ s[k].toNat ∧ s[k].toNat ≤ 57) ∨ s[k].toNat = 45
          · have HA2 := hide3 (all_more hlt HA.out ((nmB_iff _).2 (Or.inr h2)))
            by_cases hm : s[k].toNat = 45
            · have em : ((s[k].toNat : Int) == 45) = true := by rw [beq_iff_eq]; omega
              have c1 : ¬ 97 ≤ s[k].toNat := by omega
              have c2 : ¬ 48 ≤ s[k].toNat := by omega
              clear h1 h2 hz hm
              go_wp2
              exact ⟨⟨k + 1, by omega, by go_num, HA2.out, HH2.out⟩, by simp [intOf]; omega⟩
            · obtain ⟨d1, d2⟩ := h2.resolve_right hm
              have c1 : ¬ 97 ≤ s[k].toNat := by omega
              have b4 : decide ((s[k].toNat : Int) ≤ 57) = true := decide_eq_true (by omega)
              clear h1 h2 hz hm
              go_wp2
              exact ⟨⟨k + 1, by omega, by go_num, HA2.out, HH2.out⟩, by simp [intOf]; omega⟩
          · have hn : nmB s[k] = false := by rw [Bool.eq_false_iff]; intro h; rcases (nmB_iff _).1 h with h | h; exact h1 h; exact h2 h
            have HR : Hid (nameA s.data.toList = false) := by unfold Hid nameA; rw [all_bad hlt hn]; simp
            have em : ((s[k].toNat : Int) == 45) = false := by rw [beq_eq_false_iff_ne]; omega
            by_cases c1 : 97 ≤ s[k].toNat
            · have c2 : 122 < s[k].toNat := by omega
              have b2 : decide ((s[k].toNat : Int) ≤ 122) = false := decide_eq_false (by omega)
              have b4 : decide ((s[k].toNat : Int) ≤ 57) = false := decide_eq_false (by omega)
              clear h1 h2 hz hn
              go_wp2
              go_ret
              exact ⟨ret_bool HR.out.symm, rfl⟩
            · by_cases d1 : 48 ≤ s[k].toNat
              · have d2 : 57 < s[k].toNat := by omega
                have b4 : decide ((s[k].toNat : Int) ≤ 57) = false := decide_eq_false (by omega)
                clear h1 h2 hz hn
                go_wp2
                go_ret
                exact ⟨ret_bool HR.out.symm, rfl⟩
              · clear h1 h2 hz hn
                go_wp2
                go_ret
                exact ⟨ret_bool HR.out.symm, rfl⟩
    · have hke : k = s.size := by omega
      subst hke
      cases he : s.toList.isEmpty
      · have h0 := size_pos he
        have hh := HH.out.resolve_left (by omega)
        by_cases h16 : s.size ≤ 16
        · have HR : Hid (nameA s.data.toList = true) := by unfold Hid nameA; rw [hh, all_end HA.out, list_size, decide_eq_true h16]; rfl
          clear hh
          go_wp2
          go_ret
          exact ⟨ret_bool ((decide_eq_true (by omega)).trans HR.out.symm), rfl⟩
        · have HR : Hid (nameA s.data.toList = false) := by unfold Hid nameA; rw [list_size, decide_eq_false h16]; simp
          clear hh
          go_wp2
          go_ret
          exact ⟨ret_bool ((decide_eq_false (by omega)).trans HR.out.symm), rfl⟩
      · have HR : Hid (nameA s.data.toList = false) := nameA_empty (by rw [← empty_is]; exact he)
        go_wp2
        go_ret
        exact ⟨ret_bool HR.out.symm, rfl⟩
end Go.Proofs.YtjmkgojddhfhiaaGreatDoor.Sc
namespace Go.Proofs.YtjmkgojddhfhiaaGreatDoor
open Go.RowKit
set_option maxRecDepth 100000

theorem rise_cons {q : Option ByteArray} {d : Dp} {r : List Dp} : riseD q (d :: r) = (followB q d.nm && rangeB d.rg && riseD (some d.nm) r) := rfl
theorem lastN_some {L : List Dp} {j : Nat} (h : j < L.length) : lastN (L.take (j + 1)) = some L[j].nm := lastN_take h

set_option maxHeartbeats 6400000 in
theorem rList_walk (L : List Dp) (hz : L.length ≤ 9223372036854775807) (g o cap : Nat) (w : World) (hs : ∀ i (h : i < L.length), ∃ u, DpIn w g (o + i * 2) L[i] u) (hnm : ∀ d ∈ L, d.nm.size ≤ 9223372036854775807) :
    Calls Tryz.prog 125 #[.slice (some ⟨g, o, none⟩) L.length cap] w fun e w' => e = .returned (.bool (mayD L)) ∧ Below w.heap.size w w' := by
  have HL : Hid (∀ w1, Below w.heap.size w w1 → ∀ i (h : i < L.length), ∃ u, DpIn w1 g (o + i * 2) L[i] u) := fun w1 hb i hi => (hs i hi).imp fun u h => h.below hb
  have HN : Hid (∀ (i : Nat) (h : i < L.length) w1, Calls Tryz.prog 124 #[.string L[i].nm] w1 fun e w' => e = .returned (.bool (Sc.nameA L[i].nm.data.toList)) ∧ Below w1.heap.size w1 w') := fun i hi w1 => (Sc.rName_any L[i].nm (hnm _ (List.getElem_mem hi)) w1).mono fun e w' ⟨h1, h2⟩ => ⟨h1, by rw [h2]; exact Below.refl _ _⟩
  have HMD : Hid (mayD L = (decide (L.length ≤ 16) && riseD none L)) := rfl
  clear hs hnm
  go_enter Tryz.func125, Tryz.ntmps125
  go_wp2_with fail
  go_loopw [3] (fun i wr => ∃ k : Nat, k ≤ L.length ∧ i = .int .i64 k ∧ Below w.heap.size w wr ∧ riseD none L = riseD (lastN (L.take k)) (L.drop k) ∧ ∀ q, lastN (L.take k) = some q → q.size ≤ 16) (fun i _ => L.length - (intOf i).toNat)
  case atStart => exact ⟨0, Nat.zero_le _, rfl, Below.refl _ _, rfl, fun q h => by cases h⟩
  case round =>
    obtain ⟨k, hk, rfl, hb, hall, hq16⟩ := hrel
    have HALL := hide3 hall
    have HQ := hide3 hq16
    have HB := hide3 hb
    clear hall hq16
    by_cases hlt : k < L.length
    · have hdr : L.drop k = L[k] :: L.drop (k + 1) := List.drop_eq_getElem_cons hlt
      have HST : Hid (riseD none L = (followB (lastN (L.take k)) L[k].nm && rangeB L[k].rg && riseD (lastN (L.take (k + 1))) (L.drop (k + 1)))) := by
        unfold Hid
        rw [HALL.out, hdr, lastN_take hlt]
        rfl
      have HQN : Hid (Sc.nameA L[k].nm.data.toList = true → ∀ q, lastN (L.take (k + 1)) = some q → q.size ≤ 16) := fun hn q hq => by
        rw [lastN_take hlt] at hq
        cases hq
        unfold Sc.nameA at hn
        rw [Bool.and_eq_true, decide_eq_true_eq, list_size] at hn
        exact hn.2
      have HSZ : Hid (Sc.nameA L[k].nm.data.toList = true → L[k].nm.size ≤ 16) := fun hn => by
        unfold Sc.nameA at hn
        rw [Bool.and_eq_true, decide_eq_true_eq, list_size] at hn
        exact hn.2
      have HFO : Hid (followB (lastN (L.take k)) L[k].nm = (Sc.nameA L[k].nm.data.toList && (match lastN (L.take k) with
        | none => true
        | some p => ltS p L[k].nm))) := rfl
      have HRB : Hid (rangeB L[k].rg = (decide (0 < L[k].rg.length) && mayL L[k].rg)) := rfl
      clear hdr HALL
      rcases Nat.eq_zero_or_pos k with hk0 | hk0
      · subst hk0
        obtain ⟨u, hu⟩ := HL.out wr hb 0 hlt
        have HO : Hid (Below w.heap.size w wr ∧ DpIn wr g (o + 0 * 2) L[0] u) := ⟨hb, hu⟩
        have HK : Hid (KeepP fun w1 => Below w.heap.size w w1 ∧ DpIn w1 g (o + 0 * 2) L[0] u) := (keepBelow w).and (keepDp _ _ _ _)
        have HC1 : Hid (∀ w1, Calls Tryz.prog 124 #[.string L[0].nm] w1 fun e w' => e = .returned (.bool (Sc.nameA L[0].nm.data.toList)) ∧ Below w1.heap.size w1 w') := HN.out 0 hlt
        have HC2 : Hid (∀ w1, (Below w.heap.size w w1 ∧ DpIn w1 g (o + 0 * 2) L[0] u) → Calls Tryz.prog 81 #[u] w1 fun e w' => e = .returned (.bool (mayL L[0].rg)) ∧ Below w1.heap.size w1 w') := fun w1 h => rMayL_any h.2.2.2.1.1.1
        obtain ⟨au, cu, rfl⟩ := hu.2.2.1.1.1.sl
        rw [Nat.zero_mul, Nat.add_zero] at HO HK HC2
        have hlf : lastN (L.take 0) = none := rfl
        rw [hlf] at HFO HST
        clear hu hb HQ hlf
        generalize followB none L[0].nm = fo at *
        generalize rangeB L[0].rg = rb at *
        generalize Sc.nameA L[0].nm.data.toList = b1 at *
        generalize mayL L[0].rg = b2 at *
        generalize L[0].rg.length = ln at *
        generalize L[0] = d at *
        cases b1
        · have HR : Hid (mayD L = false) := by unfold Hid; rw [HMD.out, HST.out, HFO.out]; simp
          clear HST HFO HRB HQN HSZ
          go_wp2_with fail
          refine wp_region_keep HK.out (by kernel_rfl) (by kernel_rfl) (by first | exact HO.out | exact HK.out.drew HO.out) ?_
          intro C hin hout
          have HIN := hide3 hin
          have HOUT := hide3 hout
          clear hin hout HO
          repeat
            (with_reducible refine wpQuiet_step (fun K hK => ?_)
             go_simp
             first
               | (refine hK _ ?_; clear hK K)
               | (apply Exists.intro; refine ⟨fun w1 hC => ?_, hK _ ?_⟩; (focus ((first | (go_at_call 124; with_reducible exact callC HIN.out HOUT.out HK.out HC1.out w1 hC) | (exact rfl) | (obtain ⟨hb1, ⟨p0, p1, ph, p3⟩⟩ := HOUT.out w1 hC; clear hC; go_simp; first | done | exact rfl)); done)); clear hK K))
          refine wpQuiet_nil ?_
          intro wn hC
          have HO := hide3 (HOUT.out _ hC)
          clear hC HIN HOUT C
          obtain ⟨hb1, ⟨p0, p1, ph, p3⟩⟩ := HO.out
          go_wp2
          go_ret
          exact ⟨ret_bool HR.out.symm, HO.out.1⟩
        · cases b2
          · have HR : Hid (mayD L = false) := by unfold Hid; rw [HMD.out, HST.out, HRB.out]; simp
            clear HST HFO HRB HQN HSZ
            go_wp2_with fail
            refine wp_region_keep HK.out (by kernel_rfl) (by kernel_rfl) (by first | exact HO.out | exact HK.out.drew HO.out) ?_
            intro C hin hout
            have HIN := hide3 hin
            have HOUT := hide3 hout
            clear hin hout HO
            repeat
              (with_reducible refine wpQuiet_step (fun K hK => ?_)
               go_simp
               first
                 | (refine hK _ ?_; clear hK K)
                 | (apply Exists.intro; refine ⟨fun w1 hC => ?_, hK _ ?_⟩; (focus ((first | (go_at_call 124; with_reducible exact callC HIN.out HOUT.out HK.out HC1.out w1 hC) | (go_at_call 81; with_reducible exact callC' HIN.out HOUT.out HK.out HC2.out w1 hC) | (exact rfl) | (obtain ⟨hb1, ⟨p0, p1, ph, p3⟩⟩ := HOUT.out w1 hC; clear hC; go_simp; first | done | exact rfl)); done)); clear hK K))
            refine wpQuiet_nil ?_
            intro wn hC
            have HO := hide3 (HOUT.out _ hC)
            clear hC HIN HOUT C
            obtain ⟨hb1, ⟨p0, p1, ph, p3⟩⟩ := HO.out
            go_wp2
            go_ret
            exact ⟨ret_bool HR.out.symm, HO.out.1⟩
          · by_cases hl0 : ln = 0
            · have HR : Hid (mayD L = false) := by unfold Hid; rw [HMD.out, HST.out, HRB.out]; simp [hl0]
              clear HST HFO HRB HQN HSZ
              have hl1 : ((ln : Int) == 0) = true := by rw [hl0]; rfl
              subst hl0
              go_wp2_with fail
              refine wp_region_keep HK.out (by kernel_rfl) (by kernel_rfl) (by first | exact HO.out | exact HK.out.drew HO.out) ?_
              intro C hin hout
              have HIN := hide3 hin
              have HOUT := hide3 hout
              clear hin hout HO
              repeat
                (with_reducible refine wpQuiet_step (fun K hK => ?_)
                 go_simp
                 first
                   | (refine hK _ ?_; clear hK K)
                   | (apply Exists.intro; refine ⟨fun w1 hC => ?_, hK _ ?_⟩; (focus ((first | (go_at_call 124; with_reducible exact callC HIN.out HOUT.out HK.out HC1.out w1 hC) | (go_at_call 81; with_reducible exact callC' HIN.out HOUT.out HK.out HC2.out w1 hC) | (exact rfl) | (obtain ⟨hb1, ⟨p0, p1, ph, p3⟩⟩ := HOUT.out w1 hC; clear hC; go_simp; first | done | exact rfl)); done)); clear hK K))
              refine wpQuiet_nil ?_
              intro wn hC
              have HO := hide3 (HOUT.out _ hC)
              clear hC HIN HOUT C
              obtain ⟨hb1, ⟨p0, p1, ph, p3⟩⟩ := HO.out
              go_wp2
              go_ret
              exact ⟨ret_bool HR.out.symm, HO.out.1⟩
            · have hl1 : ((ln : Int) == 0) = false := by rw [beq_eq_false_iff_ne]; omega
              have HR : Hid (riseD none L = riseD (lastN (L.take 1)) (L.drop 1)) := by unfold Hid; rw [HST.out, HFO.out, HRB.out]; simp; omega
              clear HST HFO HRB HSZ
              go_wp2_with fail
              refine wp_region_keep HK.out (by kernel_rfl) (by kernel_rfl) (by first | exact HO.out | exact HK.out.drew HO.out) ?_
              intro C hin hout
              have HIN := hide3 hin
              have HOUT := hide3 hout
              clear hin hout HO
              repeat
                (with_reducible refine wpQuiet_step (fun K hK => ?_)
                 go_simp
                 first
                   | (refine hK _ ?_; clear hK K)
                   | (apply Exists.intro; refine ⟨fun w1 hC => ?_, hK _ ?_⟩; (focus ((first | (go_at_call 124; with_reducible exact callC HIN.out HOUT.out HK.out HC1.out w1 hC) | (go_at_call 81; with_reducible exact callC' HIN.out HOUT.out HK.out HC2.out w1 hC) | (exact rfl) | (obtain ⟨hb1, ⟨p0, p1, ph, p3⟩⟩ := HOUT.out w1 hC; clear hC; go_simp; first | done | exact rfl)); done)); clear hK K))
              refine wpQuiet_nil ?_
              intro wn hC
              have HO := hide3 (HOUT.out _ hC)
              clear hC HIN HOUT C
              obtain ⟨hb1, ⟨p0, p1, ph, p3⟩⟩ := HO.out
              go_wp2
              exact ⟨⟨0 + 1, by omega, by go_num, HO.out.1, HR.out, HQN.out (by first | rfl | trivial)⟩, by simp [intOf]; omega⟩
      · obtain ⟨j, hkj⟩ : ∃ j, k = j + 1 := ⟨k - 1, by omega⟩
        have hjl : j < L.length := by omega
        obtain ⟨u, hu⟩ := HL.out wr hb k hlt
        obtain ⟨u', hu'⟩ := HL.out wr hb j hjl
        have hlf : lastN (L.take k) = some L[j].nm := by subst hkj; exact lastN_some hjl
        have h16 := HQ.out _ hlf
        rw [hlf] at HST
        clear HFO
        have HFO : Hid (followB (some L[j].nm) L[k].nm = (Sc.nameA L[k].nm.data.toList && ltS L[j].nm L[k].nm)) := rfl
        have HO : Hid (Below w.heap.size w wr ∧ DpIn wr g (o + k * 2) L[k] u ∧ DpIn wr g (o + j * 2) L[j] u') := ⟨hb, hu, hu'⟩
        have HK : Hid (KeepP fun w1 => Below w.heap.size w w1 ∧ DpIn w1 g (o + k * 2) L[k] u ∧ DpIn w1 g (o + j * 2) L[j] u') := (keepBelow w).and ((keepDp _ _ _ _).and (keepDp _ _ _ _))
        have HC1 : Hid (∀ w1, Calls Tryz.prog 124 #[.string L[k].nm] w1 fun e w' => e = .returned (.bool (Sc.nameA L[k].nm.data.toList)) ∧ Below w1.heap.size w1 w') := HN.out k hlt
        have HC2 : Hid (∀ w1, (Below w.heap.size w w1 ∧ DpIn w1 g (o + k * 2) L[k] u ∧ DpIn w1 g (o + j * 2) L[j] u') → Calls Tryz.prog 81 #[u] w1 fun e w' => e = .returned (.bool (mayL L[k].rg)) ∧ Below w1.heap.size w1 w') := fun w1 h => rMayL_any h.2.1.2.2.1.1.1
        have HC3 : Hid (Sc.nameA L[k].nm.data.toList = true → ∀ w1, Calls Tryz.prog 100 #[.string L[j].nm, .string L[k].nm] w1 fun e w' => e = .returned (.bool (ltS L[j].nm L[k].nm)) ∧ Below w1.heap.size w1 w') := fun _ w1 => rLess_any _ _ w1 (by omega)
        obtain ⟨au, cu, rfl⟩ := hu.2.2.1.1.1.sl
        have hw1 : IntKind.i64.wrap ((k : Int) - 1) = (j : Int) := by rw [IntKind.wrap_i64]; omega
        have hj1 : (0 : Int) < (k : Int) := by omega
        have hj2 : decide ((0 : Int) < (k : Int)) = true := decide_eq_true hj1
        have hj3 : decide (0 < k) = true := decide_eq_true hk0
        have hji : (j : Int) < (L.length : Int) := by omega
        clear hu hu' hb HQ hlf h16 hkj
        generalize followB (some L[j].nm) L[k].nm = fo at *
        generalize rangeB L[k].rg = rb at *
        generalize Sc.nameA L[k].nm.data.toList = b1 at *
        generalize mayL L[k].rg = b2 at *
        generalize ltS L[j].nm L[k].nm = b3 at *
        generalize L[k].rg.length = ln at *
        generalize L[k] = d at *
        generalize L[j] = d' at *
        cases b1
        · have HR : Hid (mayD L = false) := by unfold Hid; rw [HMD.out, HST.out, HFO.out]; simp
          clear HST HFO HRB HQN HSZ HC3
          go_wp2_with fail
          refine wp_region_keep HK.out (by kernel_rfl) (by kernel_rfl) (by first | exact HO.out | exact HK.out.drew HO.out) ?_
          intro C hin hout
          have HIN := hide3 hin
          have HOUT := hide3 hout
          clear hin hout HO
          repeat
            (with_reducible refine wpQuiet_step (fun K hK => ?_)
             go_simp
             first
               | (refine hK _ ?_; clear hK K)
               | (apply Exists.intro; refine ⟨fun w1 hC => ?_, hK _ ?_⟩; (focus ((first | (go_at_call 124; with_reducible exact callC HIN.out HOUT.out HK.out HC1.out w1 hC) | (exact rfl) | (obtain ⟨hb1, ⟨p0, p1, ph, p3⟩, ⟨q0, q1, qh, q3⟩⟩ := HOUT.out w1 hC; clear hC; go_simp; first | done | exact rfl)); done)); clear hK K))
          refine wpQuiet_nil ?_
          intro wn hC
          have HO := hide3 (HOUT.out _ hC)
          clear hC HIN HOUT C
          obtain ⟨hb1, ⟨p0, p1, ph, p3⟩, ⟨q0, q1, qh, q3⟩⟩ := HO.out
          go_wp2
          go_ret
          exact ⟨ret_bool HR.out.symm, HO.out.1⟩
        · cases b2
          · have HR : Hid (mayD L = false) := by unfold Hid; rw [HMD.out, HST.out, HRB.out]; simp
            clear HST HFO HRB HQN HSZ HC3
            go_wp2_with fail
            refine wp_region_keep HK.out (by kernel_rfl) (by kernel_rfl) (by first | exact HO.out | exact HK.out.drew HO.out) ?_
            intro C hin hout
            have HIN := hide3 hin
            have HOUT := hide3 hout
            clear hin hout HO
            repeat
              (with_reducible refine wpQuiet_step (fun K hK => ?_)
               go_simp
               first
                 | (refine hK _ ?_; clear hK K)
                 | (apply Exists.intro; refine ⟨fun w1 hC => ?_, hK _ ?_⟩; (focus ((first | (go_at_call 124; with_reducible exact callC HIN.out HOUT.out HK.out HC1.out w1 hC) | (go_at_call 81; with_reducible exact callC' HIN.out HOUT.out HK.out HC2.out w1 hC) | (exact rfl) | (obtain ⟨hb1, ⟨p0, p1, ph, p3⟩, ⟨q0, q1, qh, q3⟩⟩ := HOUT.out w1 hC; clear hC; go_simp; first | done | exact rfl)); done)); clear hK K))
            refine wpQuiet_nil ?_
            intro wn hC
            have HO := hide3 (HOUT.out _ hC)
            clear hC HIN HOUT C
            obtain ⟨hb1, ⟨p0, p1, ph, p3⟩, ⟨q0, q1, qh, q3⟩⟩ := HO.out
            go_wp2
            go_ret
            exact ⟨ret_bool HR.out.symm, HO.out.1⟩
          · by_cases hl0 : ln = 0
            · have HR : Hid (mayD L = false) := by unfold Hid; rw [HMD.out, HST.out, HRB.out]; simp [hl0]
              clear HST HFO HRB HQN HSZ HC3
              have hl1 : ((ln : Int) == 0) = true := by rw [hl0]; rfl
              subst hl0
              go_wp2_with fail
              refine wp_region_keep HK.out (by kernel_rfl) (by kernel_rfl) (by first | exact HO.out | exact HK.out.drew HO.out) ?_
              intro C hin hout
              have HIN := hide3 hin
              have HOUT := hide3 hout
              clear hin hout HO
              repeat
                (with_reducible refine wpQuiet_step (fun K hK => ?_)
                 go_simp
                 first
                   | (refine hK _ ?_; clear hK K)
                   | (apply Exists.intro; refine ⟨fun w1 hC => ?_, hK _ ?_⟩; (focus ((first | (go_at_call 124; with_reducible exact callC HIN.out HOUT.out HK.out HC1.out w1 hC) | (go_at_call 81; with_reducible exact callC' HIN.out HOUT.out HK.out HC2.out w1 hC) | (exact rfl) | (obtain ⟨hb1, ⟨p0, p1, ph, p3⟩, ⟨q0, q1, qh, q3⟩⟩ := HOUT.out w1 hC; clear hC; go_simp; first | done | exact rfl)); done)); clear hK K))
              refine wpQuiet_nil ?_
              intro wn hC
              have HO := hide3 (HOUT.out _ hC)
              clear hC HIN HOUT C
              obtain ⟨hb1, ⟨p0, p1, ph, p3⟩, ⟨q0, q1, qh, q3⟩⟩ := HO.out
              go_wp2
              go_ret
              exact ⟨ret_bool HR.out.symm, HO.out.1⟩
            · have hl1 : ((ln : Int) == 0) = false := by rw [beq_eq_false_iff_ne]; omega
              have HC4 := hide3 (HC3.out (by first | rfl | trivial))
              cases b3
              · have HR : Hid (mayD L = false) := by unfold Hid; rw [HMD.out, HST.out, HFO.out]; simp
                clear HST HFO HRB HQN HSZ HC3
                go_wp2_with fail
                refine wp_region_keep HK.out (by kernel_rfl) (by kernel_rfl) (by first | exact HO.out | exact HK.out.drew HO.out) ?_
                intro C hin hout
                have HIN := hide3 hin
                have HOUT := hide3 hout
                clear hin hout HO
                repeat
                  (with_reducible refine wpQuiet_step (fun K hK => ?_)
                   go_simp
                   first
                     | (refine hK _ ?_; clear hK K)
                     | (apply Exists.intro; refine ⟨fun w1 hC => ?_, hK _ ?_⟩; (focus ((first | (go_at_call 124; with_reducible exact callC HIN.out HOUT.out HK.out HC1.out w1 hC) | (go_at_call 81; with_reducible exact callC' HIN.out HOUT.out HK.out HC2.out w1 hC) | (go_at_call 100; with_reducible exact callC HIN.out HOUT.out HK.out HC4.out w1 hC) | (exact rfl) | (obtain ⟨hb1, ⟨p0, p1, ph, p3⟩, ⟨q0, q1, qh, q3⟩⟩ := HOUT.out w1 hC; clear hC; go_simp; first | done | exact rfl)); done)); clear hK K))
                refine wpQuiet_nil ?_
                intro wn hC
                have HO := hide3 (HOUT.out _ hC)
                clear hC HIN HOUT C
                obtain ⟨hb1, ⟨p0, p1, ph, p3⟩, ⟨q0, q1, qh, q3⟩⟩ := HO.out
                go_wp2
                go_ret
                exact ⟨ret_bool HR.out.symm, HO.out.1⟩
              · have HR : Hid (riseD none L = riseD (lastN (L.take (k + 1))) (L.drop (k + 1))) := by unfold Hid; rw [HST.out, HFO.out, HRB.out]; simp; omega
                clear HST HFO HRB HSZ HC3
                go_wp2_with fail
                refine wp_region_keep HK.out (by kernel_rfl) (by kernel_rfl) (by first | exact HO.out | exact HK.out.drew HO.out) ?_
                intro C hin hout
                have HIN := hide3 hin
                have HOUT := hide3 hout
                clear hin hout HO
                repeat
                  (with_reducible refine wpQuiet_step (fun K hK => ?_)
                   go_simp
                   first
                     | (refine hK _ ?_; clear hK K)
                     | (apply Exists.intro; refine ⟨fun w1 hC => ?_, hK _ ?_⟩; (focus ((first | (go_at_call 124; with_reducible exact callC HIN.out HOUT.out HK.out HC1.out w1 hC) | (go_at_call 81; with_reducible exact callC' HIN.out HOUT.out HK.out HC2.out w1 hC) | (go_at_call 100; with_reducible exact callC HIN.out HOUT.out HK.out HC4.out w1 hC) | (exact rfl) | (obtain ⟨hb1, ⟨p0, p1, ph, p3⟩, ⟨q0, q1, qh, q3⟩⟩ := HOUT.out w1 hC; clear hC; go_simp; first | done | exact rfl)); done)); clear hK K))
                refine wpQuiet_nil ?_
                intro wn hC
                have HO := hide3 (HOUT.out _ hC)
                clear hC HIN HOUT C
                obtain ⟨hb1, ⟨p0, p1, ph, p3⟩, ⟨q0, q1, qh, q3⟩⟩ := HO.out
                go_wp2
                exact ⟨⟨k + 1, by omega, by go_num, HO.out.1, HR.out, HQN.out (by first | rfl | trivial)⟩, by simp [intOf]; omega⟩
    · have hke : k = L.length := by omega
      subst hke
      by_cases h16 : L.length ≤ 16
      · have HR : Hid (mayD L = true) := by unfold Hid; rw [HMD.out, HALL.out, List.drop_length, decide_eq_true h16]; rfl
        have hle : decide ((L.length : Int) ≤ 16) = true := decide_eq_true (by omega)
        clear hb
        go_wp2
        go_ret
        exact ⟨ret_bool HR.out.symm, HB.out⟩
      · have HR : Hid (mayD L = false) := by unfold Hid; rw [HMD.out, decide_eq_false h16]; rfl
        have hle : decide ((L.length : Int) ≤ 16) = false := decide_eq_false (by omega)
        clear hb
        go_wp2
        go_ret
        exact ⟨ret_bool HR.out.symm, HB.out⟩

theorem rList_nil (ad : Option Addr) (cap : Nat) (w : World) :
    Calls Tryz.prog 125 #[.slice ad 0 cap] w fun e w' => e = .returned (.bool true) ∧ Below w.heap.size w w' := by
  go_enter Tryz.func125, Tryz.ntmps125
  go_wp2_with fail
  go_loop [3] (fun i => i = .int .i64 0) (fun _ => 0)
  case atStart => rfl
  case round =>
    subst hrel
    go_wp2
    go_ret
    exact ⟨rfl, Below.refl _ _⟩

theorem rList_any {v : Value} {L : List Dp} {w : World} (h : DepsAt w v L) (hz : L.length ≤ 9223372036854775807) (hnm : ∀ d ∈ L, d.nm.size ≤ 9223372036854775807) :
    Calls Tryz.prog 125 #[v] w fun e w' => e = .returned (.bool (mayD L)) ∧ Below w.heap.size w w' := by
  obtain ⟨ad, cap, rfl, hc, hs⟩ := h
  rcases hs with rfl | ⟨g, o, rfl, hg, hs⟩
  · exact rList_nil _ _ w
  · exact rList_walk L hz g o cap w hs hnm
end Go.Proofs.YtjmkgojddhfhiaaGreatDoor
