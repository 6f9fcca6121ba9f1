/- Rk4, Fd1, Fd2, laid in one text. -/
import Derived.Test.YthoacfmfpbngkaaGreatDoorMg09
namespace Go.Proofs.YthoacfmfpbngkaaGreatDoor
open Go.RowKit
set_option maxRecDepth 100000

theorem rise_cons {q : Option ByteArray} {d : Dp} {r : List Dp} : riseD q (d :: r) = (followB q d.nm && rangeB d.rg && riseD (some d.nm) r) := rfl
theorem lastN_some {L : List Dp} {j : Nat} (h : j < L.length) : lastN (L.take (j + 1)) = some L[j].nm := lastN_take h

set_option maxHeartbeats 6400000 in
theorem rList_walk (L : List Dp) (hz : L.length ≤ 9223372036854775807) (g o cap : Nat) (w : World) (hs : ∀ i (h : i < L.length), ∃ u, DpIn w g (o + i * 2) L[i] u) (hnm : ∀ d ∈ L, d.nm.size ≤ 9223372036854775807) :
    Calls Tryz.prog 30 #[.slice (some ⟨g, o, none⟩) L.length cap] w fun e w' => e = .returned (.bool (mayD L)) ∧ Below w.heap.size w w' := by
  have HL : Hid (∀ w1, Below w.heap.size w w1 → ∀ i (h : i < L.length), ∃ u, DpIn w1 g (o + i * 2) L[i] u) := fun w1 hb i hi => (hs i hi).imp fun u h => h.below hb
  have HN : Hid (∀ (i : Nat) (h : i < L.length) w1, Calls Tryz.prog 12 #[.string L[i].nm] w1 fun e w' => e = .returned (.bool (Sc.nameA L[i].nm.data.toList)) ∧ Below w1.heap.size w1 w') := fun i hi w1 => (Sc.rName_any L[i].nm (hnm _ (List.getElem_mem hi)) w1).mono fun e w' ⟨h1, h2⟩ => ⟨h1, by rw [h2]; exact Below.refl _ _⟩
  have HMD : Hid (mayD L = (decide (L.length ≤ 16) && riseD none L)) := rfl
  clear hs hnm
  go_enter Tryz.func30, Tryz.ntmps30
  go_wp2_with fail
  go_loopw [3] (fun i wr => ∃ k : Nat, k ≤ L.length ∧ i = .int .i64 k ∧ Below w.heap.size w wr ∧ riseD none L = riseD (lastN (L.take k)) (L.drop k) ∧ ∀ q, lastN (L.take k) = some q → q.size ≤ 16) (fun i _ => L.length - (intOf i).toNat)
  case atStart => exact ⟨0, Nat.zero_le _, rfl, Below.refl _ _, rfl, fun q h => by cases h⟩
  case round =>
    obtain ⟨k, hk, rfl, hb, hall, hq16⟩ := hrel
    have HALL := hide3 hall
    have HQ := hide3 hq16
    have HB := hide3 hb
    clear hall hq16
    by_cases hlt : k < L.length
    · have hdr : L.drop k = L[k] :: L.drop (k + 1) := List.drop_eq_getElem_cons hlt
      have HST : Hid (riseD none L = (followB (lastN (L.take k)) L[k].nm && rangeB L[k].rg && riseD (lastN (L.take (k + 1))) (L.drop (k + 1)))) := by
        unfold Hid
        rw [HALL.out, hdr, lastN_take hlt]
        rfl
      have HQN : Hid (Sc.nameA L[k].nm.data.toList = true → ∀ q, lastN (L.take (k + 1)) = some q → q.size ≤ 16) := fun hn q hq => by
        rw [lastN_take hlt] at hq
        cases hq
        unfold Sc.nameA at hn
        rw [Bool.and_eq_true, decide_eq_true_eq, list_size] at hn
        exact hn.2
      have HSZ : Hid (Sc.nameA L[k].nm.data.toList = true → L[k].nm.size ≤ 16) := fun hn => by
        unfold Sc.nameA at hn
        rw [Bool.and_eq_true, decide_eq_true_eq, list_size] at hn
        exact hn.2
      have HFO : Hid (followB (lastN (L.take k)) L[k].nm = (Sc.nameA L[k].nm.data.toList && (match lastN (L.take k) with
        | none => true
        | some p => ltS p L[k].nm))) := rfl
      have HRB : Hid (rangeB L[k].rg = (decide (0 < L[k].rg.length) && mayL L[k].rg)) := rfl
      clear hdr HALL
      rcases Nat.eq_zero_or_pos k with hk0 | hk0
      · subst hk0
        obtain ⟨u, hu⟩ := HL.out wr hb 0 hlt
        have HO : Hid (Below w.heap.size w wr ∧ DpIn wr g (o + 0 * 2) L[0] u) := ⟨hb, hu⟩
        have HK : Hid (KeepP fun w1 => Below w.heap.size w w1 ∧ DpIn w1 g (o + 0 * 2) L[0] u) := (keepBelow w).and (keepDp _ _ _ _)
        have HC1 : Hid (∀ w1, Calls Tryz.prog 12 #[.string L[0].nm] w1 fun e w' => e = .returned (.bool (Sc.nameA L[0].nm.data.toList)) ∧ Below w1.heap.size w1 w') := HN.out 0 hlt
        have HC2 : Hid (∀ w1, (Below w.heap.size w w1 ∧ DpIn w1 g (o + 0 * 2) L[0] u) → Calls Tryz.prog 52 #[u] w1 fun e w' => e = .returned (.bool (mayL L[0].rg)) ∧ Below w1.heap.size w1 w') := fun w1 h => rMayL_any h.2.2.2.1.1.1
        obtain ⟨au, cu, rfl⟩ := hu.2.2.1.1.1.sl
        rw [Nat.zero_mul, Nat.add_zero] at HO HK HC2
        have hlf : lastN (L.take 0) = none := rfl
        rw [hlf] at HFO HST
        clear hu hb HQ hlf
        generalize followB none L[0].nm = fo at *
        generalize rangeB L[0].rg = rb at *
        generalize Sc.nameA L[0].nm.data.toList = b1 at *
        generalize mayL L[0].rg = b2 at *
        generalize L[0].rg.length = ln at *
        generalize L[0] = d at *
        cases b1
        · have HR : Hid (mayD L = false) := by unfold Hid; rw [HMD.out, HST.out, HFO.out]; simp
          clear HST HFO HRB HQN HSZ
          go_wp2_with fail
          refine wp_region_keep HK.out (by kernel_rfl) (by kernel_rfl) (by first | exact HO.out | exact HK.out.drew HO.out) ?_
          intro C hin hout
          have HIN := hide3 hin
          have HOUT := hide3 hout
          clear hin hout HO
          repeat
            (with_reducible refine wpQuiet_step (fun K hK => ?_)
             go_simp
             first
               | (refine hK _ ?_; clear hK K)
               | (apply Exists.intro; refine ⟨fun w1 hC => ?_, hK _ ?_⟩; (focus ((first | (go_at_call 12; with_reducible exact callC HIN.out HOUT.out HK.out HC1.out w1 hC) | (exact rfl) | (obtain ⟨hb1, ⟨p0, p1, ph, p3⟩⟩ := HOUT.out w1 hC; clear hC; go_simp; first | done | exact rfl)); done)); clear hK K))
          refine wpQuiet_nil ?_
          intro wn hC
          have HO := hide3 (HOUT.out _ hC)
          clear hC HIN HOUT C
          obtain ⟨hb1, ⟨p0, p1, ph, p3⟩⟩ := HO.out
          go_wp2
          go_ret
          exact ⟨ret_bool HR.out.symm, HO.out.1⟩
        · cases b2
          · have HR : Hid (mayD L = false) := by unfold Hid; rw [HMD.out, HST.out, HRB.out]; simp
            clear HST HFO HRB HQN HSZ
            go_wp2_with fail
            refine wp_region_keep HK.out (by kernel_rfl) (by kernel_rfl) (by first | exact HO.out | exact HK.out.drew HO.out) ?_
            intro C hin hout
            have HIN := hide3 hin
            have HOUT := hide3 hout
            clear hin hout HO
            repeat
              (with_reducible refine wpQuiet_step (fun K hK => ?_)
               go_simp
               first
                 | (refine hK _ ?_; clear hK K)
                 | (apply Exists.intro; refine ⟨fun w1 hC => ?_, hK _ ?_⟩; (focus ((first | (go_at_call 12; with_reducible exact callC HIN.out HOUT.out HK.out HC1.out w1 hC) | (go_at_call 52; with_reducible exact callC' HIN.out HOUT.out HK.out HC2.out w1 hC) | (exact rfl) | (obtain ⟨hb1, ⟨p0, p1, ph, p3⟩⟩ := HOUT.out w1 hC; clear hC; go_simp; first | done | exact rfl)); done)); clear hK K))
            refine wpQuiet_nil ?_
            intro wn hC
            have HO := hide3 (HOUT.out _ hC)
            clear hC HIN HOUT C
            obtain ⟨hb1, ⟨p0, p1, ph, p3⟩⟩ := HO.out
            go_wp2
            go_ret
            exact ⟨ret_bool HR.out.symm, HO.out.1⟩
          · by_cases hl0 : ln = 0
            · have HR : Hid (mayD L = false) := by unfold Hid; rw [HMD.out, HST.out, HRB.out]; simp [hl0]
              clear HST HFO HRB HQN HSZ
              have hl1 : ((ln : Int) == 0) = true := by rw [hl0]; rfl
              subst hl0
              go_wp2_with fail
              refine wp_region_keep HK.out (by kernel_rfl) (by kernel_rfl) (by first | exact HO.out | exact HK.out.drew HO.out) ?_
              intro C hin hout
              have HIN := hide3 hin
              have HOUT := hide3 hout
              clear hin hout HO
              repeat
                (with_reducible refine wpQuiet_step (fun K hK => ?_)
                 go_simp
                 first
                   | (refine hK _ ?_; clear hK K)
                   | (apply Exists.intro; refine ⟨fun w1 hC => ?_, hK _ ?_⟩; (focus ((first | (go_at_call 12; with_reducible exact callC HIN.out HOUT.out HK.out HC1.out w1 hC) | (go_at_call 52; with_reducible exact callC' HIN.out HOUT.out HK.out HC2.out w1 hC) | (exact rfl) | (obtain ⟨hb1, ⟨p0, p1, ph, p3⟩⟩ := HOUT.out w1 hC; clear hC; go_simp; first | done | exact rfl)); done)); clear hK K))
              refine wpQuiet_nil ?_
              intro wn hC
              have HO := hide3 (HOUT.out _ hC)
              clear hC HIN HOUT C
              obtain ⟨hb1, ⟨p0, p1, ph, p3⟩⟩ := HO.out
              go_wp2
              go_ret
              exact ⟨ret_bool HR.out.symm, HO.out.1⟩
            · have hl1 : ((ln : Int) == 0) = false := by rw [beq_eq_false_iff_ne]; omega
              have HR : Hid (riseD none L = riseD (lastN (L.take 1)) (L.drop 1)) := by unfold Hid; rw [HST.out, HFO.out, HRB.out]; simp; omega
              clear HST HFO HRB HSZ
              go_wp2_with fail
              refine wp_region_keep HK.out (by kernel_rfl) (by kernel_rfl) (by first | exact HO.out | exact HK.out.drew HO.out) ?_
              intro C hin hout
              have HIN := hide3 hin
              have HOUT := hide3 hout
              clear hin hout HO
              repeat
                (with_reducible refine wpQuiet_step (fun K hK => ?_)
                 go_simp
                 first
                   | (refine hK _ ?_; clear hK K)
                   | (apply Exists.intro; refine ⟨fun w1 hC => ?_, hK _ ?_⟩; (focus ((first | (go_at_call 12; with_reducible exact callC HIN.out HOUT.out HK.out HC1.out w1 hC) | (go_at_call 52; with_reducible exact callC' HIN.out HOUT.out HK.out HC2.out w1 hC) | (exact rfl) | (obtain ⟨hb1, ⟨p0, p1, ph, p3⟩⟩ := HOUT.out w1 hC; clear hC; go_simp; first | done | exact rfl)); done)); clear hK K))
              refine wpQuiet_nil ?_
              intro wn hC
              have HO := hide3 (HOUT.out _ hC)
              clear hC HIN HOUT C
              obtain ⟨hb1, ⟨p0, p1, ph, p3⟩⟩ := HO.out
              go_wp2
              exact ⟨⟨0 + 1, by omega, by go_num, HO.out.1, HR.out, HQN.out (by first | rfl | trivial)⟩, by simp [intOf]; omega⟩
      · obtain ⟨j, hkj⟩ : ∃ j, k = j + 1 := ⟨k - 1, by omega⟩
        have hjl : j < L.length := by omega
        obtain ⟨u, hu⟩ := HL.out wr hb k hlt
        obtain ⟨u', hu'⟩ := HL.out wr hb j hjl
        have hlf : lastN (L.take k) = some L[j].nm := by subst hkj; exact lastN_some hjl
        have h16 := HQ.out _ hlf
        rw [hlf] at HST
        clear HFO
        have HFO : Hid (followB (some L[j].nm) L[k].nm = (Sc.nameA L[k].nm.data.toList && ltS L[j].nm L[k].nm)) := rfl
        have HO : Hid (Below w.heap.size w wr ∧ DpIn wr g (o + k * 2) L[k] u ∧ DpIn wr g (o + j * 2) L[j] u') := ⟨hb, hu, hu'⟩
        have HK : Hid (KeepP fun w1 => Below w.heap.size w w1 ∧ DpIn w1 g (o + k * 2) L[k] u ∧ DpIn w1 g (o + j * 2) L[j] u') := (keepBelow w).and ((keepDp _ _ _ _).and (keepDp _ _ _ _))
        have HC1 : Hid (∀ w1, Calls Tryz.prog 12 #[.string L[k].nm] w1 fun e w' => e = .returned (.bool (Sc.nameA L[k].nm.data.toList)) ∧ Below w1.heap.size w1 w') := HN.out k hlt
        have HC2 : Hid (∀ w1, (Below w.heap.size w w1 ∧ DpIn w1 g (o + k * 2) L[k] u ∧ DpIn w1 g (o + j * 2) L[j] u') → Calls Tryz.prog 52 #[u] w1 fun e w' => e = .returned (.bool (mayL L[k].rg)) ∧ Below w1.heap.size w1 w') := fun w1 h => rMayL_any h.2.1.2.2.1.1.1
        have HC3 : Hid (Sc.nameA L[k].nm.data.toList = true → ∀ w1, Calls Tryz.prog 49 #[.string L[j].nm, .string L[k].nm] w1 fun e w' => e = .returned (.bool (ltS L[j].nm L[k].nm)) ∧ Below w1.heap.size w1 w') := fun _ w1 => rLess_any _ _ w1 (by omega)
        obtain ⟨au, cu, rfl⟩ := hu.2.2.1.1.1.sl
        have hw1 : IntKind.i64.wrap ((k : Int) - 1) = (j : Int) := by rw [IntKind.wrap_i64]; omega
        have hj1 : (0 : Int) < (k : Int) := by omega
        have hj2 : decide ((0 : Int) < (k : Int)) = true := decide_eq_true hj1
        have hj3 : decide (0 < k) = true := decide_eq_true hk0
        have hji : (j : Int) < (L.length : Int) := by omega
        clear hu hu' hb HQ hlf h16 hkj
        generalize followB (some L[j].nm) L[k].nm = fo at *
        generalize rangeB L[k].rg = rb at *
        generalize Sc.nameA L[k].nm.data.toList = b1 at *
        generalize mayL L[k].rg = b2 at *
        generalize ltS L[j].nm L[k].nm = b3 at *
        generalize L[k].rg.length = ln at *
        generalize L[k] = d at *
        generalize L[j] = d' at *
        cases b1
        · have HR : Hid (mayD L = false) := by unfold Hid; rw [HMD.out, HST.out, HFO.out]; simp
          clear HST HFO HRB HQN HSZ HC3
          go_wp2_with fail
          refine wp_region_keep HK.out (by kernel_rfl) (by kernel_rfl) (by first | exact HO.out | exact HK.out.drew HO.out) ?_
          intro C hin hout
          have HIN := hide3 hin
          have HOUT := hide3 hout
          clear hin hout HO
          repeat
            (with_reducible refine wpQuiet_step (fun K hK => ?_)
             go_simp
             first
               | (refine hK _ ?_; clear hK K)
               | (apply Exists.intro; refine ⟨fun w1 hC => ?_, hK _ ?_⟩; (focus ((first | (go_at_call 12; with_reducible exact callC HIN.out HOUT.out HK.out HC1.out w1 hC) | (exact rfl) | (obtain ⟨hb1, ⟨p0, p1, ph, p3⟩, ⟨q0, q1, qh, q3⟩⟩ := HOUT.out w1 hC; clear hC; go_simp; first | done | exact rfl)); done)); clear hK K))
          refine wpQuiet_nil ?_
          intro wn hC
          have HO := hide3 (HOUT.out _ hC)
          clear hC HIN HOUT C
          obtain ⟨hb1, ⟨p0, p1, ph, p3⟩, ⟨q0, q1, qh, q3⟩⟩ := HO.out
          go_wp2
          go_ret
          exact ⟨ret_bool HR.out.symm, HO.out.1⟩
        · cases b2
          · have HR : Hid (mayD L = false) := by unfold Hid; rw [HMD.out, HST.out, HRB.out]; simp
            clear HST HFO HRB HQN HSZ HC3
            go_wp2_with fail
            refine wp_region_keep HK.out (by kernel_rfl) (by kernel_rfl) (by first | exact HO.out | exact HK.out.drew HO.out) ?_
            intro C hin hout
            have HIN := hide3 hin
            have HOUT := hide3 hout
            clear hin hout HO
            repeat
              (with_reducible refine wpQuiet_step (fun K hK => ?_)
               go_simp
               first
                 | (refine hK _ ?_; clear hK K)
                 | (apply Exists.intro; refine ⟨fun w1 hC => ?_, hK _ ?_⟩; (focus ((first | (go_at_call 12; with_reducible exact callC HIN.out HOUT.out HK.out HC1.out w1 hC) | (go_at_call 52; with_reducible exact callC' HIN.out HOUT.out HK.out HC2.out w1 hC) | (exact rfl) | (obtain ⟨hb1, ⟨p0, p1, ph, p3⟩, ⟨q0, q1, qh, q3⟩⟩ := HOUT.out w1 hC; clear hC; go_simp; first | done | exact rfl)); done)); clear hK K))
            refine wpQuiet_nil ?_
            intro wn hC
            have HO := hide3 (HOUT.out _ hC)
            clear hC HIN HOUT C
            obtain ⟨hb1, ⟨p0, p1, ph, p3⟩, ⟨q0, q1, qh, q3⟩⟩ := HO.out
            go_wp2
            go_ret
            exact ⟨ret_bool HR.out.symm, HO.out.1⟩
          · by_cases hl0 : ln = 0
            · have HR : Hid (mayD L = false) := by unfold Hid; rw [HMD.out, HST.out, HRB.out]; simp [hl0]
              clear HST HFO HRB HQN HSZ HC3
              have hl1 : ((ln : Int) == 0) = true := by rw [hl0]; rfl
              subst hl0
              go_wp2_with fail
              refine wp_region_keep HK.out (by kernel_rfl) (by kernel_rfl) (by first | exact HO.out | exact HK.out.drew HO.out) ?_
              intro C hin hout
              have HIN := hide3 hin
              have HOUT := hide3 hout
              clear hin hout HO
              repeat
                (with_reducible refine wpQuiet_step (fun K hK => ?_)
                 go_simp
                 first
                   | (refine hK _ ?_; clear hK K)
                   | (apply Exists.intro; refine ⟨fun w1 hC => ?_, hK _ ?_⟩; (focus ((first | (go_at_call 12; with_reducible exact callC HIN.out HOUT.out HK.out HC1.out w1 hC) | (go_at_call 52; with_reducible exact callC' HIN.out HOUT.out HK.out HC2.out w1 hC) | (exact rfl) | (obtain ⟨hb1, ⟨p0, p1, ph, p3⟩, ⟨q0, q1, qh, q3⟩⟩ := HOUT.out w1 hC; clear hC; go_simp; first | done | exact rfl)); done)); clear hK K))
              refine wpQuiet_nil ?_
              intro wn hC
              have HO := hide3 (HOUT.out _ hC)
              clear hC HIN HOUT C
              obtain ⟨hb1, ⟨p0, p1, ph, p3⟩, ⟨q0, q1, qh, q3⟩⟩ := HO.out
              go_wp2
              go_ret
              exact ⟨ret_bool HR.out.symm, HO.out.1⟩
            · have hl1 : ((ln : Int) == 0) = false := by rw [beq_eq_false_iff_ne]; omega
              have HC4 := hide3 (HC3.out (by first | rfl | trivial))
              cases b3
              · have HR : Hid (mayD L = false) := by unfold Hid; rw [HMD.out, HST.out, HFO.out]; simp
                clear HST HFO HRB HQN HSZ HC3
                go_wp2_with fail
                refine wp_region_keep HK.out (by kernel_rfl) (by kernel_rfl) (by first | exact HO.out | exact HK.out.drew HO.out) ?_
                intro C hin hout
                have HIN := hide3 hin
                have HOUT := hide3 hout
                clear hin hout HO
                repeat
                  (with_reducible refine wpQuiet_step (fun K hK => ?_)
                   go_simp
                   first
                     | (refine hK _ ?_; clear hK K)
                     | (apply Exists.intro; refine ⟨fun w1 hC => ?_, hK _ ?_⟩; (focus ((first | (go_at_call 12; with_reducible exact callC HIN.out HOUT.out HK.out HC1.out w1 hC) | (go_at_call 52; with_reducible exact callC' HIN.out HOUT.out HK.out HC2.out w1 hC) | (go_at_call 49; with_reducible exact callC HIN.out HOUT.out HK.out HC4.out w1 hC) | (exact rfl) | (obtain ⟨hb1, ⟨p0, p1, ph, p3⟩, ⟨q0, q1, qh, q3⟩⟩ := HOUT.out w1 hC; clear hC; go_simp; first | done | exact rfl)); done)); clear hK K))
                refine wpQuiet_nil ?_
                intro wn hC
                have HO := hide3 (HOUT.out _ hC)
                clear hC HIN HOUT C
                obtain ⟨hb1, ⟨p0, p1, ph, p3⟩, ⟨q0, q1, qh, q3⟩⟩ := HO.out
                go_wp2
                go_ret
                exact ⟨ret_bool HR.out.symm, HO.out.1⟩
              · have HR : Hid (riseD none L = riseD (lastN (L.take (k + 1))) (L.drop (k + 1))) := by unfold Hid; rw [HST.out, HFO.out, HRB.out]; simp; omega
                clear HST HFO HRB HSZ HC3
                go_wp2_with fail
                refine wp_region_keep HK.out (by kernel_rfl) (by kernel_rfl) (by first | exact HO.out | exact HK.out.drew HO.out) ?_
                intro C hin hout
                have HIN := hide3 hin
                have HOUT := hide3 hout
                clear hin hout HO
                repeat
                  (with_reducible refine wpQuiet_step (fun K hK => ?_)
                   go_simp
                   first
                     | (refine hK _ ?_; clear hK K)
                     | (apply Exists.intro; refine ⟨fun w1 hC => ?_, hK _ ?_⟩; (focus ((first | (go_at_call 12; with_reducible exact callC HIN.out HOUT.out HK.out HC1.out w1 hC) | (go_at_call 52; with_reducible exact callC' HIN.out HOUT.out HK.out HC2.out w1 hC) | (go_at_call 49; with_reducible exact callC HIN.out HOUT.out HK.out HC4.out w1 hC) | (exact rfl) | (obtain ⟨hb1, ⟨p0, p1, ph, p3⟩, ⟨q0, q1, qh, q3⟩⟩ := HOUT.out w1 hC; clear hC; go_simp; first | done | exact rfl)); done)); clear hK K))
                refine wpQuiet_nil ?_
                intro wn hC
                have HO := hide3 (HOUT.out _ hC)
                clear hC HIN HOUT C
                obtain ⟨hb1, ⟨p0, p1, ph, p3⟩, ⟨q0, q1, qh, q3⟩⟩ := HO.out
                go_wp2
                exact ⟨⟨k + 1, by omega, by go_num, HO.out.1, HR.out, HQN.out (by first | rfl | trivial)⟩, by simp [intOf]; omega⟩
    · have hke : k = L.length := by omega
      subst hke
      by_cases h16 : L.length ≤ 16
      · have HR : Hid (mayD L = true) := by unfold Hid; rw [HMD.out, HALL.out, List.drop_length, decide_eq_true h16]; rfl
        have hle : decide ((L.length : Int) ≤ 16) = true := decide_eq_true (by omega)
        clear hb
        go_wp2
        go_ret
        exact ⟨ret_bool HR.out.symm, HB.out⟩
      · have HR : Hid (mayD L = false) := by unfold Hid; rw [HMD.out, decide_eq_false h16]; rfl
        have hle : decide ((L.length : Int) ≤ 16) = false := decide_eq_false (by omega)
        clear hb
        go_wp2
        go_ret
        exact ⟨ret_bool HR.out.symm, HB.out⟩

theorem rList_nil (ad : Option Addr) (cap : Nat) (w : World) :
    Calls Tryz.prog 30 #[.slice ad 0 cap] w fun e w' => e = .returned (.bool true) ∧ Below w.heap.size w w' := by
  go_enter Tryz.func30, Tryz.ntmps30
  go_wp2_with fail
  go_loop [3] (fun i => i = .int .i64 0) (fun _ => 0)
  case atStart => rfl
  case round =>
    subst hrel
    go_wp2
    go_ret
    exact ⟨rfl, Below.refl _ _⟩

theorem rList_any {v : Value} {L : List Dp} {w : World} (h : DepsAt w v L) (hz : L.length ≤ 9223372036854775807) (hnm : ∀ d ∈ L, d.nm.size ≤ 9223372036854775807) :
    Calls Tryz.prog 30 #[v] w fun e w' => e = .returned (.bool (mayD L)) ∧ Below w.heap.size w w' := by
  obtain ⟨ad, cap, rfl, hc, hs⟩ := h
  rcases hs with rfl | ⟨g, o, rfl, hg, hs⟩
  · exact rList_nil _ _ w
  · exact rList_walk L hz g o cap w hs hnm
end Go.Proofs.YthoacfmfpbngkaaGreatDoor
namespace Go.Proofs.YthoacfmfpbngkaaGreatDoor
set_option maxRecDepth 100000

/-- A number more in a list that rises. -/
def insF : List Int → Int → List Int
  | [], n => [n]
  | x :: r, n => if x < n then x :: insF r n else if x = n then x :: r else n :: x :: r
def endsF : List Int → Rg → List Int
  | l, [] => l
  | l, q :: Q => endsF (insF (insF l q.1) (q.2 + 1)) Q

theorem ins_mem {n x : Int} : ∀ {l : List Int}, x ∈ insF l n ↔ x = n ∨ x ∈ l
  | [] => by simp [insF]
  | y :: r => by
    unfold insF
    split
    · rw [List.mem_cons, ins_mem, List.mem_cons]
      constructor
      · rintro (h | h | h); exact Or.inr (Or.inl h); exact Or.inl h; exact Or.inr (Or.inr h)
      · rintro (h | h | h); exact Or.inr (Or.inl h); exact Or.inl h; exact Or.inr (Or.inr h)
    · split
      · rename_i e
        rw [List.mem_cons]
        constructor
        · rintro (h | h); exact Or.inr (Or.inl h); exact Or.inr (Or.inr h)
        · rintro (h | h | h); exact Or.inl (h.trans e.symm); exact Or.inl h; exact Or.inr h
      · rw [List.mem_cons]
theorem ins_rise {n : Int} : ∀ {l : List Int}, l.Pairwise (· < ·) → (insF l n).Pairwise (· < ·)
  | [], _ => by simp [insF]
  | y :: r, h => by
    rw [List.pairwise_cons] at h
    unfold insF
    split
    · rename_i hy
      rw [List.pairwise_cons]
      refine ⟨fun a ha => ?_, ins_rise h.2⟩
      rcases ins_mem.1 ha with rfl | ha
      · exact hy
      · exact h.1 a ha
    · split
      · rw [List.pairwise_cons]; exact h
      · rename_i h1 h2
        rw [List.pairwise_cons, List.pairwise_cons]
        refine ⟨fun a ha => ?_, h⟩
        rcases List.mem_cons.1 ha with rfl | ha
        · omega
        · have := h.1 a ha; omega
theorem ins_len {n : Int} : ∀ {l : List Int}, (insF l n).length ≤ l.length + 1 ∧ l.length ≤ (insF l n).length
  | [] => by simp [insF]
  | y :: r => by
    have := ins_len (n := n) (l := r)
    unfold insF
    split
    · simp; omega
    · split <;> simp
theorem ends_mem {x : Int} : ∀ {Q : Rg} {l : List Int}, x ∈ endsF l Q ↔ x ∈ l ∨ ∃ q ∈ Q, x = q.1 ∨ x = q.2 + 1
  | [], l => by simp [endsF]
  | q :: Q, l => by
    unfold endsF
    rw [ends_mem, ins_mem, ins_mem]
    constructor
    · rintro ((h | h | h) | ⟨p, hp, h⟩)
      · exact Or.inr ⟨q, List.mem_cons_self, Or.inr h⟩
      · exact Or.inr ⟨q, List.mem_cons_self, Or.inl h⟩
      · exact Or.inl h
      · exact Or.inr ⟨p, List.mem_cons_of_mem _ hp, h⟩
    · rintro (h | ⟨p, hp, h⟩)
      · exact Or.inl (Or.inr (Or.inr h))
      · rcases List.mem_cons.1 hp with rfl | hp
        · rcases h with h | h
          · exact Or.inl (Or.inr (Or.inl h))
          · exact Or.inl (Or.inl h)
        · exact Or.inr ⟨p, hp, h⟩
theorem ends_rise : ∀ {Q : Rg} {l : List Int}, l.Pairwise (· < ·) → (endsF l Q).Pairwise (· < ·)
  | [], _, h => h
  | q :: Q, l, h => by
    unfold endsF
    exact ends_rise (Q := Q) (ins_rise (ins_rise h))
theorem ends_len : ∀ {Q : Rg} {l : List Int}, (endsF l Q).length ≤ l.length + 2 * Q.length
  | [], _ => by simp [endsF]
  | q :: Q, l => by
    unfold endsF
    have h1 := ends_len (Q := Q) (l := insF (insF l q.1) (q.2 + 1))
    have h2 := ins_len (n := q.1) (l := l)
    have h3 := ins_len (n := q.2 + 1) (l := insF l q.1)
    simp; omega
theorem ends_append (l : List Int) : ∀ (Q1 Q2 : Rg), endsF l (Q1 ++ Q2) = endsF (endsF l Q1) Q2 := by
  intro Q1
  induction Q1 generalizing l with
  | nil => intro Q2; rfl
  | cons q Q ih => intro Q2; exact ih _ Q2

/-- Is a place in one of some spans? -/
def hasQ (Q : Rg) (n : Int) : Bool := Q.any fun q => decide (q.1 ≤ n) && decide (n ≤ q.2)
/-- By the kind: m both, j one, c the first alone. -/
def wantK (kind : UInt8) (x y : Bool) : Bool := if kind = 109 then x && y else if kind = 106 then x || y else x && !y

/-- The range of what is wanted, place by place. -/
def foldG (P : Int → Bool) : List Int → Option Int → Rg
  | [], _ => []
  | x :: r, none => if decide (x ≤ 999999999) && P x then foldG P r (some x) else foldG P r none
  | x :: r, some f => if decide (x ≤ 999999999) && P x then foldG P r (some f) else (f, x - 1) :: foldG P r none

/-- Between two places next to one another nothing changes. -/
def Ch (P : Int → Bool) : List Int → Prop
  | [] => False
  | [x] => x = 1000000000
  | x :: y :: r => x < y ∧ (∀ n, x ≤ n → n < y → P n = P x) ∧ Ch P (y :: r)
theorem ch_le {P : Int → Bool} : ∀ {x : Int} {r : List Int}, Ch P (x :: r) → x ≤ 1000000000
  | x, [], h => by have : x = 1000000000 := h; omega
  | x, y :: r, h => by have := ch_le h.2.2; have := h.1; omega
theorem ch_lt {P : Int → Bool} {x y : Int} {r : List Int} (h : Ch P (x :: y :: r)) : x ≤ 999999999 := by have := ch_le h.2.2; have := h.1; omega

theorem fold_spec {P : Int → Bool} : ∀ (l : List Int) (x : Int) (r : List Int), l = x :: r → Ch P l →
    (RiseR x 999999999 (foldG P l none) ∧ ∀ n, InR (foldG P l none) n ↔ x ≤ n ∧ n ≤ 999999999 ∧ P n = true) ∧
    ∀ f, f < x → (∀ n, f ≤ n → n < x → P n = true) → RiseR f 999999999 (foldG P l (some f)) ∧ ∀ n, InR (foldG P l (some f)) n ↔ f ≤ n ∧ n ≤ 999999999 ∧ P n = true
  | [], x, r, h, _ => by cases h
  | [z], x, r, h, hc => by
    obtain ⟨rfl, rfl⟩ : z = x ∧ [] = r := by simpa using h
    have hx : z = 1000000000 := hc
    subst hx
    have e1 : foldG P [1000000000] none = [] := by unfold foldG; rw [if_neg (by simp)]; rfl
    have e2 : ∀ f, foldG P [1000000000] (some f) = [(f, 999999999)] := by intro f; unfold foldG; rw [if_neg (by simp)]; rfl
    rw [e1]
    refine ⟨⟨trivial, fun n => ⟨fun q => q.elim, fun q => by omega⟩⟩, fun f hf hp => ?_⟩
    rw [e2]
    refine ⟨⟨Int.le_refl _, by omega, Int.le_refl _, trivial⟩, fun n => ?_⟩
    simp only [InR, or_false]
    constructor
    · rintro ⟨a, b⟩
      exact ⟨a, b, hp n a (by omega)⟩
    · rintro ⟨a, b, _⟩
      exact ⟨a, b⟩
  | z :: y :: r', x, r, h, hc => by
    obtain ⟨rfl, rfl⟩ : z = x ∧ y :: r' = r := by simpa using h
    have hlt := ch_lt hc
    generalize z = x at *
    obtain ⟨hxy, hcon, hcr⟩ := hc
    obtain ⟨ih1, ih2⟩ := fold_spec (y :: r') y r' rfl hcr
    cases hp : P x
    · have e1 : foldG P (x :: y :: r') none = foldG P (y :: r') none := by conv => lhs; unfold foldG; rw [if_neg (by rw [hp]; simp)]
      have e2 : ∀ f, foldG P (x :: y :: r') (some f) = (f, x - 1) :: foldG P (y :: r') none := by intro f; conv => lhs; unfold foldG; rw [if_neg (by rw [hp]; simp)]
      refine ⟨?_, fun f hf hpf => ?_⟩
      · rw [e1]
        refine ⟨ih1.1.weak (by omega), fun n => ?_⟩
        rw [ih1.2]
        constructor
        · rintro ⟨a, b, c⟩; exact ⟨by omega, b, c⟩
        · rintro ⟨a, b, c⟩
          refine ⟨?_, b, c⟩
          rcases Int.lt_or_le n y with hn | hn
          · rw [hcon n a hn, hp] at c; cases c
          · exact hn
      · rw [e2]
        refine ⟨⟨Int.le_refl _, by omega, by omega, ih1.1.weak (by omega)⟩, fun n => ?_⟩
        simp only [InR]
        rw [ih1.2]
        constructor
        · rintro (⟨a, b⟩ | ⟨a, b, c⟩)
          · exact ⟨a, by omega, hpf n a (by omega)⟩
          · exact ⟨by omega, b, c⟩
        · rintro ⟨a, b, c⟩
          rcases Int.lt_or_le n x with hn | hn
          · exact Or.inl ⟨a, by omega⟩
          · rcases Int.lt_or_le n y with hm | hm
            · rw [hcon n hn hm, hp] at c; cases c
            · exact Or.inr ⟨hm, b, c⟩
    · have hd : (decide (x ≤ 999999999) && P x) = true := by rw [hp, decide_eq_true hlt]; rfl
      have e1 : foldG P (x :: y :: r') none = foldG P (y :: r') (some x) := by conv => lhs; unfold foldG; rw [if_pos hd]
      have e2 : ∀ f, foldG P (x :: y :: r') (some f) = foldG P (y :: r') (some f) := by intro f; conv => lhs; unfold foldG; rw [if_pos hd]
      refine ⟨?_, fun f hf hpf => ?_⟩
      · rw [e1]
        exact ih2 x hxy (fun n a b => by rw [hcon n a b, hp])
      · rw [e2]
        refine ih2 f (by omega) (fun n a b => ?_)
        rcases Int.lt_or_le n x with hn | hn
        · exact hpf n a hn
        · rw [hcon n hn b, hp]

theorem ch_of {P : Int → Bool} {B : Int → Prop} (hC : ∀ x n, x ≤ n → (∀ y, B y → ¬ (x < y ∧ y ≤ n)) → P n = P x) : ∀ {l : List Int}, l ≠ [] → l.Pairwise (· < ·) → (1000000000 : Int) ∈ l → (∀ z ∈ l, z ≤ 1000000000) → (∀ z, B z → z ∈ l ∨ ∀ x ∈ l, z < x) → Ch P l
  | [], h, _, _, _, _ => absurd rfl h
  | [x], _, _, hm, _, _ => (List.mem_singleton.1 hm).symm
  | x :: y :: r, _, hr, hm, hle, hB => by
    rw [List.pairwise_cons] at hr
    have hxy := hr.1 y List.mem_cons_self
    refine ⟨hxy, fun n h1 h2 => hC x n h1 fun z hz hq => ?_, ?_⟩
    · rcases hB z hz with hz | hz
      · rcases List.mem_cons.1 hz with rfl | hz
        · omega
        · rcases List.mem_cons.1 hz with rfl | hz
          · omega
          · have := (List.pairwise_cons.1 hr.2).1 z hz; omega
      · have := hz x List.mem_cons_self; omega
    · refine ch_of hC (by simp) hr.2 ?_ (fun z hz => hle z (List.mem_cons_of_mem _ hz)) ?_
      · rcases List.mem_cons.1 hm with e | h
        · have := hle y (List.mem_cons_of_mem _ List.mem_cons_self); omega
        · exact h
      · intro z hz
        rcases hB z hz with h | h
        · rcases List.mem_cons.1 h with rfl | h
          · exact Or.inr fun x hx => hr.1 x hx
          · exact Or.inl h
        · exact Or.inr fun x hx => h x (List.mem_cons_of_mem _ hx)

/-- Spans whose places are some. -/
def OkQ (Q : Rg) : Prop := ∀ q ∈ Q, okP2' q
where okP2' (q : Int × Int) : Prop := (0 ≤ q.1 ∧ q.1 ≤ 999999999) ∧ (0 ≤ q.2 ∧ q.2 ≤ 999999999)

theorem has_same {Q : Rg} {x n : Int} (hxn : x ≤ n) (h : ∀ q ∈ Q, ¬ (x < q.1 ∧ q.1 ≤ n) ∧ ¬ (x < q.2 + 1 ∧ q.2 + 1 ≤ n)) : hasQ Q n = hasQ Q x := by
  unfold hasQ
  induction Q with
  | nil => rfl
  | cons q Q ih =>
    rw [List.any_cons, List.any_cons, ih fun p hp => h p (List.mem_cons_of_mem _ hp)]
    have hq := h q List.mem_cons_self
    have e1 : decide (q.1 ≤ n) = decide (q.1 ≤ x) := by rw [decide_eq_decide]; omega
    have e2 : (decide (q.1 ≤ x) && decide (n ≤ q.2)) = (decide (q.1 ≤ x) && decide (x ≤ q.2)) := by
      have : decide (n ≤ q.2) = decide (x ≤ q.2) := by rw [decide_eq_decide]; omega
      rw [this]
    rw [e1, e2]

/-- The places of two lists of spans. -/
def placesF (a b : Rg) : List Int := endsF (endsF [0, 1000000000] a) b
/-- What Folded makes of two lists of spans. -/
def foldK (kind : UInt8) (a b : Rg) : Rg := foldG (fun n => wantK kind (hasQ a n) (hasQ b n)) (placesF a b) none

theorem foldK_spec (kind : UInt8) {a b : Rg} (ha : OkQ a) (hb : OkQ b) : RangeR (foldK kind a b) ∧ ∀ n, InR (foldK kind a b) n ↔ 0 ≤ n ∧ n ≤ 999999999 ∧ wantK kind (hasQ a n) (hasQ b n) = true := by
  have hmem : ∀ x, x ∈ placesF a b ↔ (x = 0 ∨ x = 1000000000) ∨ (∃ q ∈ a, x = q.1 ∨ x = q.2 + 1) ∨ ∃ q ∈ b, x = q.1 ∨ x = q.2 + 1 := by
    intro x
    unfold placesF
    rw [ends_mem, ends_mem]
    simp only [List.mem_cons, List.not_mem_nil, or_false, or_assoc]
  have hrise : (placesF a b).Pairwise (· < ·) := ends_rise (ends_rise (by decide))
  have hrng : ∀ x ∈ placesF a b, 0 ≤ x ∧ x ≤ 1000000000 := by
    intro x hx
    rcases (hmem x).1 hx with (rfl | rfl) | ⟨q, hq, h⟩ | ⟨q, hq, h⟩
    · decide
    · decide
    · obtain ⟨q1, q2⟩ := ha q hq; rcases h with rfl | rfl <;> omega
    · obtain ⟨q1, q2⟩ := hb q hq; rcases h with rfl | rfl <;> omega
  have h0 : (0 : Int) ∈ placesF a b := (hmem 0).2 (Or.inl (Or.inl rfl))
  have hE : (1000000000 : Int) ∈ placesF a b := (hmem _).2 (Or.inl (Or.inr rfl))
  cases hl : placesF a b with
  | nil => rw [hl] at h0; cases h0
  | cons x r =>
    have hx0 : x = 0 := by
      rw [hl] at h0 hrng hrise
      rcases List.mem_cons.1 h0 with e | h
      · exact e.symm
      · have := (List.pairwise_cons.1 hrise).1 0 h
        have := (hrng x List.mem_cons_self).1
        omega
    have hch : Ch (fun n => wantK kind (hasQ a n) (hasQ b n)) (x :: r) := by
      rw [← hl]
      refine ch_of (B := fun z => z ∈ placesF a b) ?_ (by rw [hl]; simp) hrise hE (fun z hz => (hrng z hz).2) (fun z hz => Or.inl hz)
      intro x n hxn hno
      have ea : hasQ a n = hasQ a x := has_same hxn fun q hq => ⟨hno _ ((hmem _).2 (Or.inr (Or.inl ⟨q, hq, Or.inl rfl⟩))), hno _ ((hmem _).2 (Or.inr (Or.inl ⟨q, hq, Or.inr rfl⟩)))⟩
      have eb : hasQ b n = hasQ b x := has_same hxn fun q hq => ⟨hno _ ((hmem _).2 (Or.inr (Or.inr ⟨q, hq, Or.inl rfl⟩))), hno _ ((hmem _).2 (Or.inr (Or.inr ⟨q, hq, Or.inr rfl⟩)))⟩
      simp only [ea, eb]
    obtain ⟨⟨r1, r2⟩, _⟩ := fold_spec (x :: r) x r rfl hch
    unfold foldK
    rw [hl]
    rw [hx0] at r1 r2 ⊢
    exact ⟨r1, r2⟩

theorem has_in {A : Rg} {n : Int} : hasQ A n = true ↔ InR A n := by
  induction A with
  | nil => simp [hasQ, InR]
  | cons p A ih =>
    obtain ⟨g, h⟩ := p
    unfold hasQ at *
    rw [List.any_cons, Bool.or_eq_true, ih]
    simp [InR]
theorem rise_okq {A : Rg} {k : Int} (h : RiseR k 999999999 A) (hk : 0 ≤ k) : OkQ A := by
  induction A generalizing k with
  | nil => intro q hq; cases hq
  | cons p A ih =>
    obtain ⟨g, e⟩ := p
    obtain ⟨h1, h2, h3, h4⟩ := h
    intro q hq
    rcases List.mem_cons.1 hq with rfl | hq
    · exact ⟨⟨by simp; omega, by simp; omega⟩, by simp; omega, by simp; omega⟩
    · exact ih h4 (by omega) q hq
theorem RangeR.okq {A : Rg} (h : RangeR A) : OkQ A := rise_okq h (Int.le_refl 0)

theorem foldK_meet {A B : Rg} (hA : RangeR A) (hB : RangeR B) : foldK 109 A B = meetR A B := by
  obtain ⟨h1, h2⟩ := foldK_spec 109 hA.okq hB.okq
  refine range_one h1 (hA.meet hB) fun n => ?_
  rw [h2, meet_in hA hB]
  unfold wantK
  rw [if_pos rfl, Bool.and_eq_true, has_in, has_in]
  exact ⟨fun h => h.2.2, fun h => ⟨(hA.in h.1).1, (hA.in h.1).2, h⟩⟩
theorem foldK_join {A B : Rg} (hA : RangeR A) (hB : RangeR B) : foldK 106 A B = joinR A B := by
  obtain ⟨h1, h2⟩ := foldK_spec 106 hA.okq hB.okq
  refine range_one h1 (hA.join hB) fun n => ?_
  rw [h2, join_in hA hB]
  unfold wantK
  rw [if_neg (by decide), if_pos rfl, Bool.or_eq_true, has_in, has_in]
  refine ⟨fun h => h.2.2, fun h => ?_⟩
  rcases h with h | h
  · exact ⟨(hA.in h).1, (hA.in h).2, Or.inl h⟩
  · exact ⟨(hB.in h).1, (hB.in h).2, Or.inr h⟩
theorem foldK_cut {A B : Rg} (hA : RangeR A) (hB : RangeR B) : foldK 99 A B = cutR A B := by
  obtain ⟨h1, h2⟩ := foldK_spec 99 hA.okq hB.okq
  refine range_one h1 (hA.cut hB) fun n => ?_
  rw [h2, cut_in hA hB]
  unfold wantK
  rw [if_neg (by decide), if_neg (by decide), Bool.and_eq_true, has_in, Bool.not_eq_true', ← Bool.not_eq_true, has_in]
  exact ⟨fun h => h.2.2, fun h => ⟨(hA.in h.1).1, (hA.in h.1).2, h⟩⟩
end Go.Proofs.YthoacfmfpbngkaaGreatDoor
namespace Go.Proofs.YthoacfmfpbngkaaGreatDoor
open Go.RowKit
set_option maxRecDepth 100000

/-- Ints that lie in memory. -/
def IntsAt (w : World) (v : Value) (l : List Int) : Prop := ∃ g o cap, v = .slice (some ⟨g, o, none⟩) l.length cap ∧ l.length ≤ cap ∧ g < w.heap.size ∧ ∀ i (h : i < l.length), w.cell? ⟨g, o + i, none⟩ = some (.int .i64 l[i])
theorem IntsAt.below {w w' : World} {v : Value} {l : List Int} (h : IntsAt w v l) (hb : Below w.heap.size w w') : IntsAt w' v l := by
  obtain ⟨g, o, cap, hv, hc, hg, hs⟩ := h
  exact ⟨g, o, cap, hv, hc, Nat.lt_of_lt_of_le hg hb.size, fun i hi => (hb.cell (p := ⟨g, o + i, none⟩) hg).trans (hs i hi)⟩
theorem keepInts (v : Value) (l : List Int) : KeepP fun w1 => IntsAt w1 v l := fun _ _ h hb => h.below hb
theorem infoInt3 : (Tryz.prog.info? 3).map (fun i => (i.zero, i.size, i.bytes)) = some (some (.int .i64 0), 1, 8) := by kernel_rfl
theorem info_parts3 {e : TypeId} {z : Value} {n b : Nat} (h : (Tryz.prog.info? e).map (fun i => (i.zero, i.size, i.bytes)) = some (some z, n, b)) : ∃ i, Tryz.prog.info? e = some i ∧ i.zero = some z ∧ i.size = n ∧ i.bytes = b := by
  cases hi : Tryz.prog.info? e with
  | none => rw [hi] at h; cases h
  | some i =>
    rw [hi] at h
    simp only [Option.map_some, Option.some.injEq, Prod.mk.injEq] at h
    exact ⟨i, rfl, h.1, h.2.1, h.2.2⟩
def ints (l : List Int) : List Value := l.map (Value.int .i64)
theorem row_ints {w : World} {B : Nat} {v : Value} {l : List Int} (h : w.ownsRow B 3 1 v l.length (ints l)) (hl : l ≠ []) : IntsAt w v l := by
  have h0 := h
  rcases h.2 with ⟨_, hn⟩ | ⟨g, cap, cur, rfl, hB, hg, hc, _⟩
  · exact absurd (List.eq_nil_of_length_eq_zero hn) hl
  · refine ⟨g, 0, cap, rfl, hc, (Array.getElem?_eq_some_iff.1 hg).1, fun i hi => ?_⟩
    rw [Nat.zero_add, World.ownsRow.cellAt h0 i (by omega)]
    simp [ints, hi]
theorem ints_one (l : List Int) : ∀ u ∈ ints l, u.oneCell' = true := by
  intro u hu
  obtain ⟨x, _, rfl⟩ := List.mem_map.1 hu
  rfl

theorem ins_prefix {n : Int} : ∀ {a b : List Int}, (∀ x ∈ a, x < n) → insF (a ++ b) n = a ++ insF b n
  | [], _, _ => rfl
  | x :: a, b, h => by
    rw [List.cons_append]
    conv => lhs; unfold insF; rw [if_pos (h x List.mem_cons_self)]
    rw [ins_prefix fun y hy => h y (List.mem_cons_of_mem _ hy)]
    rfl
theorem ins_there {l : List Int} {n : Int} {k : Nat} (hk : k < l.length) (hp : ∀ x ∈ l.take k, x < n) (h : l[k] = n) : insF l n = l := by
  have e : l = l.take k ++ l.drop k := (List.take_append_drop k l).symm
  have hd : l.drop k = l[k] :: l.drop (k + 1) := List.drop_eq_getElem_cons hk
  conv => lhs; rw [e, ins_prefix hp, hd]
  unfold insF
  rw [if_neg (by omega), if_pos h, ← hd, List.take_append_drop]
theorem ins_new {l : List Int} {n : Int} {k : Nat} (hp : ∀ x ∈ l.take k, x < n) (h : ∀ (hk : k < l.length), n < l[k]) : insF l n = l.take k ++ [n] ++ l.drop k := by
  have e : l = l.take k ++ l.drop k := (List.take_append_drop k l).symm
  conv => lhs; rw [e, ins_prefix hp]
  rw [List.append_assoc]
  congr 1
  by_cases hk : k < l.length
  · have hd : l.drop k = l[k] :: l.drop (k + 1) := List.drop_eq_getElem_cons hk
    have := h hk
    rw [hd]
    unfold insF
    rw [if_neg (by omega), if_neg (by omega)]
    rfl
  · rw [List.drop_of_length_le (by omega)]
    rfl

theorem add_addr (g o j : Nat) : (⟨g, o, none⟩ : Addr).add j = ⟨g, o + j, none⟩ := by unfold Addr.add; split <;> simp_all
theorem newsA {w : World} {l : List Int} {g o : Nat} (hc : ∀ i (h : i < l.length), w.cell? ⟨g, o + i, none⟩ = some (.int .i64 l[i])) (hg : g < w.heap.size) (k : Nat) (j : Nat) (u : Value) (hj : (ints (l.take k))[j]? = some u) (w1 : World) (hb : Below w.heap.size w w1) : w1.cell? ((⟨g, o, none⟩ : Addr).add j) = some u := by
  rw [add_addr, (hb.cell (p := ⟨g, o + j, none⟩) hg)]
  unfold ints at hj
  rw [List.getElem?_map, List.getElem?_take] at hj
  split at hj
  · by_cases hl : j < l.length
    · rw [List.getElem?_eq_getElem hl] at hj
      simp only [Option.map_some, Option.some.injEq] at hj
      rw [hc j hl, hj]
    · rw [List.getElem?_eq_none (by omega)] at hj; cases hj
  · cases hj
theorem newsB {w : World} {l : List Int} {g o : Nat} (hc : ∀ i (h : i < l.length), w.cell? ⟨g, o + i, none⟩ = some (.int .i64 l[i])) (hg : g < w.heap.size) (k : Nat) (j : Nat) (u : Value) (hj : (ints (l.drop k))[j]? = some u) (w1 : World) (hb : Below w.heap.size w w1) : w1.cell? ((⟨g, o + k, none⟩ : Addr).add j) = some u := by
  rw [add_addr, (hb.cell (p := ⟨g, o + k + j, none⟩) hg)]
  unfold ints at hj
  rw [List.getElem?_map, List.getElem?_drop] at hj
  by_cases hl : k + j < l.length
  · rw [List.getElem?_eq_getElem hl] at hj
    simp only [Option.map_some, Option.some.injEq] at hj
    rw [Nat.add_assoc, hc (k + j) hl, hj]
  · rw [List.getElem?_eq_none (by omega)] at hj; cases hj

set_option maxHeartbeats 3200000 in
theorem added_walk (l : List Int) (n : Int) (g o cap : Nat) (w : World) (hlen : l.length ≤ 1000000) (hcap : l.length ≤ cap) (hg : g < w.heap.size) (hc : ∀ i (h : i < l.length), w.cell? ⟨g, o + i, none⟩ = some (.int .i64 l[i])) :
    Calls Tryz.prog 110 #[.slice (some ⟨g, o, none⟩) l.length cap, .int .i64 n] w fun e w' => ∃ v, e = .returned v ∧ IntsAt w' v (insF l n) ∧ Below w.heap.size w w' := by
  obtain ⟨i0, hi, hz0, hz1, hz2⟩ := info_parts3 infoInt3
  have HC := hide3 hc
  clear hc
  go_enter Tryz.func110, Tryz.ntmps110
  go_wp2
  go_loop [5] (fun i => ∃ k : Nat, k ≤ l.length ∧ i = .int .i64 k ∧ ∀ x ∈ l.take k, x < n) (fun i => l.length - (intOf i).toNat)
  case atStart => exact ⟨0, Nat.zero_le _, rfl, fun x hx => by simp at hx⟩
  case round =>
    obtain ⟨k, hk, rfl, hp⟩ := hrel
    have HP := hide3 hp
    clear hp
    by_cases hlt : k < l.length
    · have hcell := HC.out k hlt
      by_cases hlk : l[k] < n
      · have HP2 : Hid (∀ x ∈ l.take (k + 1), x < n) := by
          intro x hx
          rw [List.take_succ_eq_append_getElem hlt] at hx
          rcases List.mem_append.1 hx with hx | hx
          · exact HP.out x hx
          · rw [List.mem_singleton.1 hx]; exact hlk
        generalize l[k] = y at *
        go_wp2
        exact ⟨⟨k + 1, by omega, by go_num, HP2.out⟩, by simp [intOf]; omega⟩
      · by_cases he : l[k] = n
        · have HR : Hid (insF l n = l) := ins_there hlt HP.out he
          have e2 : (l[k] == n) = true := by rw [beq_iff_eq]; exact he
          clear he
          generalize l[k] = y at *
          go_wp2
          go_ret
          exact ⟨_, rfl, by rw [HR.out]; exact ⟨g, o, cap, rfl, hcap, hg, HC.out⟩, Below.refl _ _⟩
        · have HR : Hid (insF l n = l.take k ++ [n] ++ l.drop k) := ins_new HP.out fun _ => by omega
          have e2 : (l[k] == n) = false := by rw [beq_eq_false_iff_ne]; exact he
          have hck : ¬ cap = k := by omega
          have hck2 : ¬ cap - k = 0 := by omega
          have HN1 : Hid (∀ j u, (ints (l.take k))[j]? = some u → ∀ w1, Below w.heap.size w w1 → w1.cell? ((⟨g, o, none⟩ : Addr).add j) = some u) := newsA HC.out hg k
          have HN3 : Hid (∀ j u, (ints (l.drop k))[j]? = some u → ∀ w1, Below w.heap.size w w1 → w1.cell? ((⟨g, o + k, none⟩ : Addr).add j) = some u) := newsB HC.out hg k
          have t1 : True := trivial
          have t2 : True := trivial
          clear he
          generalize l[k] = y at *
          go_wp2_with (first
            | (have _t := t1; at_builtin; refine wpList_append_own_at _ rfl _ _ 56 rfl w.heap.size 3 i0 _ 1 8 Tryz.underlying56 hi hz0 hz1 hz2 rfl (by decide) (.slice none 0 0) 0 [] rfl (World.ownsRow_nil _ _ _ _) ⟨g, o, none⟩ k cap (ints (l.take k)) rfl (by simp [ints]; omega) (fun j u h => HN1.out j u h _ (Below.refl _ _)) (ints_one _) (by unfold maxLen; omega) (by omega) (Nat.le_refl _) ?_; intro v1 w1 hown1 hg1 hnil1 hat1; have HR1 : Hid (w1.ownsRow w.heap.size 3 1 v1 k (ints (l.take k)) ∧ Below w.heap.size w w1) := ⟨by simpa using hown1, (Below.refl _ _).grown hg1 (Nat.le_refl _) (fun q hq => by cases hq)⟩; clear hown1 hg1 hnil1 hat1 t1; go_frame)
            | (have _t := t2; at_builtin; refine wpList_append_own_at _ rfl _ _ 56 rfl w.heap.size 3 i0 _ 1 8 Tryz.underlying56 hi hz0 hz1 hz2 rfl (by decide) v1 k (ints (l.take k)) rfl (HR1.out.1.alloc _) ⟨w1.heap.size, 0, none⟩ 1 1 [.int .i64 n] rfl rfl (cell_one_new _ _ _) (by simp [Value.oneCell']) (by unfold maxLen; omega) (by omega) (by have := HR1.out.2.size; simp; omega) ?_; intro v2 w2 hown2 hg2 hnil2 hat2; have HR2 : Hid (w2.ownsRow w.heap.size 3 1 v2 (k + 1) (ints (l.take k) ++ [.int .i64 n]) ∧ Below w.heap.size w w2) := ⟨hown2, (below_then HR1.out.2 (boxB _ _)).grown hg2 (below_then HR1.out.2 (boxB _ _)).size (fun q hq => (World.ownsRow.lt HR1.out.1 q hq).1)⟩; clear hown2 hg2 hnil2 hat2 t2; go_frame)
            | (have _h := HR2; at_builtin; refine wpList_append_own_at _ rfl _ _ 56 rfl w.heap.size 3 i0 _ 1 8 Tryz.underlying56 hi hz0 hz1 hz2 rfl (by decide) v2 (k + 1) (ints (l.take k) ++ [.int .i64 n]) rfl HR2.out.1 ⟨g, o + k, none⟩ (l.length - k) (cap - k) (ints (l.drop k)) rfl (by simp [ints]) (fun j u h => HN3.out j u h _ HR2.out.2) (ints_one _) (by unfold maxLen; omega) (by omega) HR2.out.2.size ?_; intro v3 w3 hown3 hg3 hnil3 hat3; have HR3 : Hid (w3.ownsRow w.heap.size 3 1 v3 (k + 1 + (l.length - k)) (ints (l.take k) ++ [.int .i64 n] ++ ints (l.drop k)) ∧ Below w.heap.size w w3) := ⟨hown3, HR2.out.2.grown hg3 HR2.out.2.size (fun q hq => (World.ownsRow.lt HR2.out.1 q hq).1)⟩; clear hown3 hg3 hnil3 hat3; go_frame))
          go_ret
          refine ⟨v3, rfl, ?_, HR3.out.2⟩
          rw [HR.out]
          refine row_ints (B := w.heap.size) ?_ (by simp)
          have el : (l.take k ++ [n] ++ l.drop k).length = k + 1 + (l.length - k) := by simp; omega
          have ec : ints (l.take k ++ [n] ++ l.drop k) = ints (l.take k) ++ [.int .i64 n] ++ ints (l.drop k) := by simp [ints]
          rw [el, ec]
          exact HR3.out.1
    · obtain rfl : k = l.length := by omega
      have HR : Hid (insF l n = l.take l.length ++ [n] ++ l.drop l.length) := ins_new HP.out fun h => absurd h hlt
      have HN1 : Hid (∀ j u, (ints (l.take l.length))[j]? = some u → ∀ w1, Below w.heap.size w w1 → w1.cell? ((⟨g, o, none⟩ : Addr).add j) = some u) := newsA HC.out hg l.length
      have t1 : True := trivial
      have t2 : True := trivial
      by_cases hcl : cap = l.length
      · subst hcl
        go_wp2_with (first
          | (have _t := t1; at_builtin; refine wpList_append_own_at _ rfl _ _ 56 rfl w.heap.size 3 i0 _ 1 8 Tryz.underlying56 hi hz0 hz1 hz2 rfl (by decide) (.slice none 0 0) 0 [] rfl (World.ownsRow_nil _ _ _ _) ⟨g, o, none⟩ l.length l.length (ints (l.take l.length)) rfl (by simp [ints]) (fun j u h => HN1.out j u h _ (Below.refl _ _)) (ints_one _) (by unfold maxLen; omega) (by omega) (Nat.le_refl _) ?_; intro v1 w1 hown1 hg1 hnil1 hat1; have HR1 : Hid (w1.ownsRow w.heap.size 3 1 v1 l.length (ints (l.take l.length)) ∧ Below w.heap.size w w1) := ⟨by simpa using hown1, (Below.refl _ _).grown hg1 (Nat.le_refl _) (fun q hq => by cases hq)⟩; clear hown1 hg1 hnil1 hat1 t1; go_frame)
          | (have _t := t2; at_builtin; refine wpList_append_own_at _ rfl _ _ 56 rfl w.heap.size 3 i0 _ 1 8 Tryz.underlying56 hi hz0 hz1 hz2 rfl (by decide) v1 l.length (ints (l.take l.length)) rfl (HR1.out.1.alloc _) ⟨w1.heap.size, 0, none⟩ 1 1 [.int .i64 n] rfl rfl (cell_one_new _ _ _) (by simp [Value.oneCell']) (by unfold maxLen; omega) (by omega) (by have := HR1.out.2.size; simp; omega) ?_; intro v2 w2 hown2 hg2 hnil2 hat2; have HR2 : Hid (w2.ownsRow w.heap.size 3 1 v2 (l.length + 1) (ints (l.take l.length) ++ [.int .i64 n]) ∧ Below w.heap.size w w2) := ⟨hown2, (below_then HR1.out.2 (boxB _ _)).grown hg2 (below_then HR1.out.2 (boxB _ _)).size (fun q hq => (World.ownsRow.lt HR1.out.1 q hq).1)⟩; clear hown2 hg2 hnil2 hat2 t2; go_frame)
          | (have _h := HR2; at_builtin; refine wpList_append_own_at _ rfl _ _ 56 rfl w.heap.size 3 i0 _ 1 8 Tryz.underlying56 hi hz0 hz1 hz2 rfl (by decide) v2 (l.length + 1) (ints (l.take l.length) ++ [.int .i64 n]) rfl HR2.out.1 ⟨g, o, none⟩ 0 0 (ints (l.drop l.length)) rfl (by simp [ints]) (fun j u h => by simp [ints] at h) (ints_one _) (by unfold maxLen; omega) (by omega) HR2.out.2.size ?_; intro v3 w3 hown3 hg3 hnil3 hat3; have HR3 : Hid (w3.ownsRow w.heap.size 3 1 v3 (l.length + 1 + (0)) (ints (l.take l.length) ++ [.int .i64 n] ++ ints (l.drop l.length)) ∧ Below w.heap.size w w3) := ⟨hown3, HR2.out.2.grown hg3 HR2.out.2.size (fun q hq => (World.ownsRow.lt HR2.out.1 q hq).1)⟩; clear hown3 hg3 hnil3 hat3; go_frame))
        go_ret
        refine ⟨v3, rfl, ?_, HR3.out.2⟩
        rw [HR.out]
        refine row_ints (B := w.heap.size) ?_ (by simp)
        have el : (l.take l.length ++ [n] ++ l.drop l.length).length = l.length + 1 + (0) := by simp
        have ec : ints (l.take l.length ++ [n] ++ l.drop l.length) = ints (l.take l.length) ++ [.int .i64 n] ++ ints (l.drop l.length) := by simp [ints]
        rw [el, ec]
        exact HR3.out.1
      · have hc0 : ¬ cap - l.length = 0 := by omega
        go_wp2_with (first
          | (have _t := t1; at_builtin; refine wpList_append_own_at _ rfl _ _ 56 rfl w.heap.size 3 i0 _ 1 8 Tryz.underlying56 hi hz0 hz1 hz2 rfl (by decide) (.slice none 0 0) 0 [] rfl (World.ownsRow_nil _ _ _ _) ⟨g, o, none⟩ l.length cap (ints (l.take l.length)) rfl (by simp [ints]) (fun j u h => HN1.out j u h _ (Below.refl _ _)) (ints_one _) (by unfold maxLen; omega) (by omega) (Nat.le_refl _) ?_; intro v1 w1 hown1 hg1 hnil1 hat1; have HR1 : Hid (w1.ownsRow w.heap.size 3 1 v1 l.length (ints (l.take l.length)) ∧ Below w.heap.size w w1) := ⟨by simpa using hown1, (Below.refl _ _).grown hg1 (Nat.le_refl _) (fun q hq => by cases hq)⟩; clear hown1 hg1 hnil1 hat1 t1; go_frame)
          | (have _t := t2; at_builtin; refine wpList_append_own_at _ rfl _ _ 56 rfl w.heap.size 3 i0 _ 1 8 Tryz.underlying56 hi hz0 hz1 hz2 rfl (by decide) v1 l.length (ints (l.take l.length)) rfl (HR1.out.1.alloc _) ⟨w1.heap.size, 0, none⟩ 1 1 [.int .i64 n] rfl rfl (cell_one_new _ _ _) (by simp [Value.oneCell']) (by unfold maxLen; omega) (by omega) (by have := HR1.out.2.size; simp; omega) ?_; intro v2 w2 hown2 hg2 hnil2 hat2; have HR2 : Hid (w2.ownsRow w.heap.size 3 1 v2 (l.length + 1) (ints (l.take l.length) ++ [.int .i64 n]) ∧ Below w.heap.size w w2) := ⟨hown2, (below_then HR1.out.2 (boxB _ _)).grown hg2 (below_then HR1.out.2 (boxB _ _)).size (fun q hq => (World.ownsRow.lt HR1.out.1 q hq).1)⟩; clear hown2 hg2 hnil2 hat2 t2; go_frame)
          | (have _h := HR2; at_builtin; refine wpList_append_own_at _ rfl _ _ 56 rfl w.heap.size 3 i0 _ 1 8 Tryz.underlying56 hi hz0 hz1 hz2 rfl (by decide) v2 (l.length + 1) (ints (l.take l.length) ++ [.int .i64 n]) rfl HR2.out.1 ⟨g, o + l.length, none⟩ 0 (cap - l.length) (ints (l.drop l.length)) rfl (by simp [ints]) (fun j u h => by simp [ints] at h) (ints_one _) (by unfold maxLen; omega) (by omega) HR2.out.2.size ?_; intro v3 w3 hown3 hg3 hnil3 hat3; have HR3 : Hid (w3.ownsRow w.heap.size 3 1 v3 (l.length + 1 + (0)) (ints (l.take l.length) ++ [.int .i64 n] ++ ints (l.drop l.length)) ∧ Below w.heap.size w w3) := ⟨hown3, HR2.out.2.grown hg3 HR2.out.2.size (fun q hq => (World.ownsRow.lt HR2.out.1 q hq).1)⟩; clear hown3 hg3 hnil3 hat3; go_frame))
        go_ret
        refine ⟨v3, rfl, ?_, HR3.out.2⟩
        rw [HR.out]
        refine row_ints (B := w.heap.size) ?_ (by simp)
        have el : (l.take l.length ++ [n] ++ l.drop l.length).length = l.length + 1 + (0) := by simp
        have ec : ints (l.take l.length ++ [n] ++ l.drop l.length) = ints (l.take l.length) ++ [.int .i64 n] ++ ints (l.drop l.length) := by simp [ints]
        rw [el, ec]
        exact HR3.out.1

theorem added_any {l : List Int} {v : Value} {w : World} (h : IntsAt w v l) (hlen : l.length ≤ 1000000) (n : Int) :
    Calls Tryz.prog 110 #[v, .int .i64 n] w fun e w' => ∃ v', e = .returned v' ∧ IntsAt w' v' (insF l n) ∧ Below w.heap.size w w' := by
  obtain ⟨g, o, cap, rfl, hc, hg, hs⟩ := h
  exact added_walk l n g o cap w hlen hc hg hs
end Go.Proofs.YthoacfmfpbngkaaGreatDoor
