/- Ts3, laid in one text. -/
import Derived.Test.YtcclfaioicklaaaGreatDoorMg24
namespace Go.Proofs.YtcclfaioicklaaaGreatDoor
open Go.RowKit
set_option maxRecDepth 100000

set_option maxHeartbeats 6400000 in
theorem rCheck_any {L : List Dr} {v : Value} {w : World} (h : DirsAt w v L) (hz : L.length ≤ 9223372036854775807) (hk : DrsOk L) (hn : ∀ d ∈ L, PgN d.pk ∧ ∀ s ∈ d.pa, s.size ≤ 9223372036854775807) :
    Calls Tryz.prog 10 #[.agg #[v]] w fun e w' => e = .returned (.int .i64 (errT (checkB L))) ∧ Below w.heap.size w w' := by
  have HYE : Hid (checkB L = true → errT (checkB L) = 0) := fun e => by rw [e]; rfl
  have HNO : Hid (checkB L = false → errT (checkB L) = 42) := fun e => by rw [e]; rfl
  have HSD : Hid (∀ w1, Below w.heap.size w w1 → ∀ i (hi : i < L.length), Calls Tryz.prog 32 #[.agg #[v], .int .i64 i] w1 fun e w' => e = .returned (.bool (follI L i)) ∧ Below w1.heap.size w1 w') := fun w1 hb i hi => stands_any (h.below hb) hz hk hn hi
  obtain ⟨ad, cap, rfl, hc, hsl⟩ := h.sl
  by_cases h0 : L.length = 0
  · have HR : Hid (checkB L = false) := checkB_no fun h => by omega
    clear hsl h
    rw [h0]
    go_enter Tryz.func10, Tryz.ntmps10
    go_wp2
    go_ret
    exact ⟨ret_int (HNO.out HR.out).symm, boxB _ _⟩
  · have hn0 : decide ((L.length : Int) < 1) = false := decide_eq_false (by omega)
    have hn1 : ¬ ((L.length : Int) < 1) := by omega
    by_cases h1 : 257 < L.length
    · have HR : Hid (checkB L = false) := checkB_no fun h => by omega
      have hg1 : decide ((L.length : Int) > 257) = true := decide_eq_true (by omega)
      clear hsl h
      go_enter Tryz.func10, Tryz.ntmps10
      go_wp2
      go_ret
      exact ⟨ret_int (HNO.out HR.out).symm, boxB _ _⟩
    · have hg1 : decide ((L.length : Int) > 257) = false := decide_eq_false (by omega)
      have hpos : 0 < L.length := by omega
      have hposI : (0 : Int) < (L.length : Int) := by omega
      obtain ⟨g, o, rfl, u, v1, v2, v3, hd0⟩ := hsl 0 hpos
      rw [Nat.zero_mul, Nat.add_zero] at hd0
      have HRL := hide3 (rootL_at hpos)
      have HSM : Hid (∀ w1, Below w.heap.size w w1 → Calls Tryz.prog 31 #[.agg #[.string L[0].pk.nm, .int .i64 L[0].pk.a, .int .i64 L[0].pk.b, .int .i64 L[0].pk.c, v1, v2, v3], .agg #[.string ⟨#[]⟩, .int .i64 0, .int .i64 0, .int .i64 0, .slice none 0 0, .slice none 0 0, .slice none 0 0]] w1 fun e w' => e = .returned (.bool (eqB L[0].pk zeroPg)) ∧ Below w1.heap.size w1 w') := fun w1 hb => by
        have hz0 := hk.2 _ (List.getElem_mem hpos)
        exact rSamePk_any (hd0.2.1.2.below hb) (zero_at w1) hz0.1 hz0.2.1 hz0.2.2
      have HRB : Hid (rootB L[0] = (decide (L[0].pa.length = 0) && decide (L[0].nd = 0) && eqB L[0].pk zeroPg)) := rfl
      obtain ⟨ua, uc, rfl⟩ := hd0.2.1.1.sl
      obtain ⟨x1, y1, rfl⟩ := hd0.2.1.2.1.sl
      obtain ⟨x2, y2, rfl⟩ := hd0.2.1.2.2.1.sl
      obtain ⟨x3, y3, rfl⟩ := hd0.2.1.2.2.2.sl
      have HDR : Hid (∀ w1, Below w.heap.size w w1 → (w1.cell? ⟨g, o, none⟩ = some (.slice ua L[0].pa.length uc) ∧ w1.cell? ⟨g, o + 1, none⟩ = some (.string L[0].pk.nm) ∧ w1.cell? ⟨g, o + 2, none⟩ = some (.int .i64 L[0].pk.a) ∧ w1.cell? ⟨g, o + 3, none⟩ = some (.int .i64 L[0].pk.b) ∧ w1.cell? ⟨g, o + 4, none⟩ = some (.int .i64 L[0].pk.c) ∧ w1.cell? ⟨g, o + 5, none⟩ = some (.slice x1 L[0].pk.d.length y1) ∧ w1.cell? ⟨g, o + 6, none⟩ = some (.slice x2 L[0].pk.p.length y2) ∧ w1.cell? ⟨g, o + 7, none⟩ = some (.slice x3 L[0].pk.o.length y3) ∧ w1.cell? ⟨g, o + 8, none⟩ = some (.int .i64 L[0].nd))) := fun w1 hb => (hd0.below hb).1
      clear hsl h hk hn hd0
      generalize L[0] = d at *
      obtain ⟨c0, c1, c2, c3, c4, c5, c6, c7, c8⟩ := HDR.out _ (boxB w (.cells #[.slice (some ⟨g, o, none⟩) L.length cap] 24))
      have HKB : Hid (KeepP fun w1 => Below w.heap.size w w1 ∧ BxT w1 w.heap.size (.slice (some ⟨g, o, none⟩) L.length cap)) := (keepBelow w).and (keepBxT _ _)
      have HBX : Hid (Below w.heap.size w (w.alloc (.cells #[.slice (some ⟨g, o, none⟩) L.length cap] 24)) ∧ BxT (w.alloc (.cells #[.slice (some ⟨g, o, none⟩) L.length cap] 24)) w.heap.size (.slice (some ⟨g, o, none⟩) L.length cap)) := ⟨boxB _ _, BxT.new _ _⟩
      generalize rootB d = rb at *
      generalize eqB d.pk zeroPg = eb at *
      generalize d.pa.length = n at *
      generalize d.nd = nd at *
      cases hrb : rb
      · have HR : Hid (checkB L = false) := checkB_no fun h => by rw [HRL.out, hrb] at h; cases h.2.1
        have HOR : Hid (¬ n = 0 ∨ ¬ nd = 0 ∨ eb = false) := by
          unfold Hid
          by_cases a1 : n = 0
          · by_cases a2 : nd = 0
            · refine Or.inr (Or.inr ?_)
              have := HRB.out
              rw [hrb, decide_eq_true a1, decide_eq_true a2] at this
              simpa using this.symm
            · exact Or.inr (Or.inl a2)
          · exact Or.inl a1
        clear HRB hrb
        by_cases a1 : n = 0
        · subst a1
          cases eb
          · go_enter Tryz.func10, Tryz.ntmps10
            go_wp2_with (go_at_call 31; refine (HSM.out _ HBX.out.1).mono ?_; rintro e w1 ⟨rfl, ok⟩; have HB1 := hide3 (HKB.out _ _ HBX.out ok); obtain ⟨_, z0, z1⟩ := HB1.out; clear c0 c1 c2 c3 c4 c5 c6 c7 c8 ok; obtain ⟨c0, c1, c2, c3, c4, c5, c6, c7, c8⟩ := HDR.out _ HB1.out.1)
            go_ret
            exact ⟨ret_int (HNO.out HR.out).symm, HB1.out.1⟩
          · have a2 : ¬ nd = 0 := by
              rcases HOR.out with h | h | h
              · exact absurd rfl h
              · exact h
              · cases h
            have a3 : (nd == 0) = false := by rw [beq_eq_false_iff_ne]; exact a2
            have a4 : (nd != 0) = true := by rw [bne, a3]; rfl
            go_enter Tryz.func10, Tryz.ntmps10
            go_wp2_with (go_at_call 31; refine (HSM.out _ HBX.out.1).mono ?_; rintro e w1 ⟨rfl, ok⟩; have HB1 := hide3 (HKB.out _ _ HBX.out ok); obtain ⟨_, z0, z1⟩ := HB1.out; clear c0 c1 c2 c3 c4 c5 c6 c7 c8 ok; obtain ⟨c0, c1, c2, c3, c4, c5, c6, c7, c8⟩ := HDR.out _ HB1.out.1)
            go_ret
            exact ⟨ret_int (HNO.out HR.out).symm, HB1.out.1⟩
        · have a3 : ((n : Int) == 0) = false := by rw [beq_eq_false_iff_ne]; omega
          have a4 : ((n : Int) != 0) = true := by rw [bne, a3]; rfl
          go_enter Tryz.func10, Tryz.ntmps10
          go_wp2_with (go_at_call 31; refine (HSM.out _ HBX.out.1).mono ?_; rintro e w1 ⟨rfl, ok⟩; have HB1 := hide3 (HKB.out _ _ HBX.out ok); obtain ⟨_, z0, z1⟩ := HB1.out; clear c0 c1 c2 c3 c4 c5 c6 c7 c8 ok; obtain ⟨c0, c1, c2, c3, c4, c5, c6, c7, c8⟩ := HDR.out _ HB1.out.1)
          go_ret
          exact ⟨ret_int (HNO.out HR.out).symm, HB1.out.1⟩
      · rw [hrb] at HRB HRL
        have hall : n = 0 ∧ nd = 0 ∧ eb = true := by
          have := HRB.out.symm
          simp only [Bool.and_eq_true, decide_eq_true_eq] at this
          exact ⟨this.1.1, this.1.2, this.2⟩
        obtain ⟨rfl, rfl, rfl⟩ := hall
        clear HRB hrb
        go_enter Tryz.func10, Tryz.ntmps10
        go_wp2_with (go_at_call 31; refine (HSM.out _ HBX.out.1).mono ?_; rintro e w1 ⟨rfl, ok⟩; have HB1 := hide3 (HKB.out _ _ HBX.out ok); obtain ⟨_, z0, z1⟩ := HB1.out; clear c0 c1 c2 c3 c4 c5 c6 c7 c8 ok; obtain ⟨c0, c1, c2, c3, c4, c5, c6, c7, c8⟩ := HDR.out _ HB1.out.1)
        clear c0 c1 c2 c3 c4 c5 c6 c7 c8 z0 z1 HDR HSM
        go_loopw [4] (fun vi wr => ∃ k : Nat, (1 ≤ k ∧ k ≤ L.length) ∧ vi = .int .i64 k ∧ (Below w.heap.size w wr ∧ BxT wr w.heap.size (.slice (some ⟨g, o, none⟩) L.length cap)) ∧ ∀ j, j < k → j ≠ 0 → follI L j = true) (fun vi _ => L.length - (intOf vi).toNat)
        case atStart => exact ⟨1, ⟨Nat.le_refl _, hpos⟩, rfl, HB1.out, fun j h h2 => by omega⟩
        case round =>
          obtain ⟨k, ⟨hk1, hk⟩, rfl, ⟨hb, bx0, bx1⟩, hall⟩ := hrel
          have HALL := hide3 hall
          have HBX2 : Hid (Below w.heap.size w wr ∧ BxT wr w.heap.size (.slice (some ⟨g, o, none⟩) L.length cap)) := ⟨hb, bx0, bx1⟩
          clear hall
          by_cases hlt : k < L.length
          · have HC := hide3 (HSD.out wr hb k hlt)
            have HNX : Hid (follI L k = true → ∀ j, j < k + 1 → j ≠ 0 → follI L j = true) := fun h j hj h2 => by
              rcases Nat.lt_or_ge j k with hjk | hjk
              · exact HALL.out j hjk h2
              · obtain rfl : j = k := by omega
                exact h
            have HBD : Hid (follI L k = false → checkB L = false) := fun h => checkB_no fun hh => by have := hh.2.2 k hlt (by omega); rw [h] at this; cases this
            clear hb
            cases hfo : follI L k
            · have HR := hide3 (HBD.out hfo)
              rw [hfo] at HC
              clear HNX HBD HALL
              go_wp2_with (go_at_call 32; refine HC.out.mono ?_; rintro e w2 ⟨rfl, ok⟩; have HB2 := hide3 (HKB.out _ _ HBX2.out ok); clear ok)
              go_ret
              exact ⟨ret_int (HNO.out HR.out).symm, HB2.out.1⟩
            · have HR := hide3 (HNX.out hfo)
              rw [hfo] at HC
              clear HNX HBD HALL
              go_wp2_with (go_at_call 32; refine HC.out.mono ?_; rintro e w2 ⟨rfl, ok⟩; have HB2 := hide3 (HKB.out _ _ HBX2.out ok); clear ok)
              exact ⟨⟨k + 1, ⟨by omega, by omega⟩, by go_num, HB2.out, HR.out⟩, by simp [intOf]; omega⟩
          · obtain rfl : k = L.length := by omega
            have HR : Hid (checkB L = true) := checkB_iff.2 ⟨⟨hpos, by omega⟩, HRL.out, HALL.out⟩
            clear hb
            go_wp2
            go_ret
            exact ⟨ret_int (HYE.out HR.out).symm, HBX2.out.1⟩
end Go.Proofs.YtcclfaioicklaaaGreatDoor
