/- Rf1, Rf2, ScNm3, Rk4, laid in one text. -/
import Derived.Test.YtjpmlagofcgheaaGreatDoorMg18
namespace Go.Proofs.YtjpmlagofcgheaaGreatDoor
open Go.RowKit
set_option maxRecDepth 100000

theorem rrank_any (a b c : Int) (w : World) :
    Calls Tryz.prog 65 #[.agg #[.int .i64 a, .int .i64 b, .int .i64 c]] w fun e w' => e = .returned (.int .i64 (rankV a b c)) ∧ Below w.heap.size w w' := by
  have HR : Hid (∀ w1, Calls Tryz.prog 89 #[.agg #[.int .i64 a, .int .i64 b, .int .i64 c]] w1 fun e w' => e = .returned (.tuple #[.int .i64 (rankV a b c), .bool (mayV a b c)]) ∧ Below w1.heap.size w1 w') := rRank_any a b c
  go_enter Tryz.func65, Tryz.ntmps65
  go_wp2_with (go_at_call 89; refine (HR.out _).mono ?_; rintro e w1 ⟨rfl, hb⟩)
  go_ret
  exact ⟨rfl, below_then (boxB _ _) hb⟩

theorem rank_small (a b c : Int) : 0 ≤ rankV a b c ∧ rankV a b c < 1000000000 := by
  cases h : mayV a b c
  · have : rankV a b c = 0 := by unfold rankV; rw [h]; rfl
    omega
  · exact rank_low h

/-- What the document's May asks of the span at a place, if those ahead are right. -/
theorem okAt_first {L : List Sp} {s : Sp} (h : L[0]? = some s) : okAt L 0 = (mayV s.a s.b s.c && mayV s.x s.y s.z && decide (rankV s.a s.b s.c ≤ rankV s.x s.y s.z)) := by
  unfold okAt
  rw [h]
  simp only [Bool.and_true]
  rw [Bool.eq_iff_iff, maySp_true, Bool.and_eq_true, Bool.and_eq_true, decide_eq_true_eq]
  constructor
  · rintro ⟨h1, h2, h3⟩; exact ⟨⟨h1, h2⟩, (cmp_lek h1 h2).1 h3⟩
  · rintro ⟨⟨h1, h2⟩, h3⟩; exact ⟨h1, h2, (cmp_lek h1 h2).2 h3⟩
theorem okAt_next {L : List Sp} {j : Nat} {s p : Sp} (h : L[j + 1]? = some s) (hp : L[j]? = some p) (hok : okAt L j = true) :
    okAt L (j + 1) = ((mayV s.a s.b s.c && mayV s.x s.y s.z && decide (rankV s.a s.b s.c ≤ rankV s.x s.y s.z)) && decide (rankV p.x p.y p.z + 1 < rankV s.a s.b s.c)) := by
  have hpm : mayV p.x p.y p.z = true := by
    unfold okAt at hok
    rw [hp] at hok
    simp only [Bool.and_eq_true] at hok
    exact (maySp_true.1 hok.1).2.1
  unfold okAt
  rw [h]
  simp only
  rw [hp]
  simp only
  rw [Bool.eq_iff_iff, Bool.and_eq_true, maySp_true, Bool.and_eq_true, Bool.and_eq_true, Bool.and_eq_true, decide_eq_true_eq, decide_eq_true_eq]
  constructor
  · rintro ⟨⟨h1, h2, h3⟩, h4⟩
    have := (apart_rk hpm h1).1 h4
    exact ⟨⟨⟨h1, h2⟩, (cmp_lek h1 h2).1 h3⟩, by omega⟩
  · rintro ⟨⟨⟨h1, h2⟩, h3⟩, h4⟩
    exact ⟨⟨h1, h2, (cmp_lek h1 h2).2 h3⟩, (apart_rk hpm h1).2 (by omega)⟩

set_option maxHeartbeats 6400000 in
theorem rMay_walk (L : List Sp) (g o cap : Nat) (w : World) (hlen : L.length ≤ 64) (hg : g < w.heap.size) (hl : ∀ i (h : i < L.length), SpAt w g (o + i * 6) L[i]) :
    Calls Tryz.prog 62 #[.slice (some ⟨g, o, none⟩) L.length cap] w fun e w' => e = .returned (.bool (mayL L)) ∧ Below w.heap.size w w' := by
  have HL : Hid (∀ w1, Below w.heap.size w w1 → ∀ i (h : i < L.length), SpIn w1 g (o + i * 6) L[i]) := fun w1 hb i hi => ⟨(hl i hi).below hb hg, Nat.lt_of_lt_of_le hg hb.size⟩
  clear hl
  have HT : Hid (mayL L = (List.range L.length).all (okAt L)) := by unfold Hid mayL; simp [hlen]
  have h64 : decide ((64 : Int) < (L.length : Int)) = false := decide_eq_false (by omega)
  go_enter Tryz.func62, Tryz.ntmps62
  go_wp2_with fail
  go_loopw [3] (fun i wr => ∃ k : Nat, k ≤ L.length ∧ i = .int .i64 k ∧ Below w.heap.size w wr ∧ ∀ j, j < k → okAt L j = true) (fun i _ => L.length - (intOf i).toNat)
  case atStart => exact ⟨0, Nat.zero_le _, rfl, Below.refl _ _, fun j hj => by omega⟩
  case round =>
    obtain ⟨k, hk, rfl, hb, hok⟩ := hrel
    have HOK := hide3 hok
    clear hok
    by_cases hlt : k < L.length
    · have HO : Hid (Below w.heap.size w wr ∧ SpIn wr g (o + k * 6) L[k]) := ⟨hb, HL.out wr hb k hlt⟩
      have HK : Hid (KeepP fun w1 => Below w.heap.size w w1 ∧ SpIn w1 g (o + k * 6) L[k]) := (keepBelow w).and (keepSp _ _ _)
      have HS : Hid (L[k]? = some L[k]) := List.getElem?_eq_getElem hlt
      generalize L[k] = s at *
      obtain ⟨a, b, c, x, y, z⟩ := s
      have HM1 : Hid (∀ w1, Calls Tryz.prog 63 #[.agg #[.int .i64 a, .int .i64 b, .int .i64 c]] w1 fun e w' => e = .returned (.bool (mayV a b c)) ∧ Below w1.heap.size w1 w') := rMay_any a b c
      have HM2 : Hid (∀ w1, Calls Tryz.prog 63 #[.agg #[.int .i64 x, .int .i64 y, .int .i64 z]] w1 fun e w' => e = .returned (.bool (mayV x y z)) ∧ Below w1.heap.size w1 w') := rMay_any x y z
      have HR1 : Hid (∀ w1, Calls Tryz.prog 65 #[.agg #[.int .i64 a, .int .i64 b, .int .i64 c]] w1 fun e w' => e = .returned (.int .i64 (rankV a b c)) ∧ Below w1.heap.size w1 w') := rrank_any a b c
      have HR2 : Hid (∀ w1, Calls Tryz.prog 65 #[.agg #[.int .i64 x, .int .i64 y, .int .i64 z]] w1 fun e w' => e = .returned (.int .i64 (rankV x y z)) ∧ Below w1.heap.size w1 w') := rrank_any x y z
      have HOKs : Hid (∀ v : Bool, (okAt L k = true → v = true) → (mayV a b c && mayV x y z && decide (rankV a b c ≤ rankV x y z)) = false → mayL L = false) := fun v _ hf => may_no HT.out hlt (by
        cases k with
        | zero => rw [okAt_first HS.out]; exact hf
        | succ j => rw [okAt_next HS.out (List.getElem?_eq_getElem (by omega)) (HOK.out j (by omega))]; simp only; rw [hf]; rfl)
      clear hb
      cases m1 : mayV a b c
      · have HF : Hid (mayL L = false) := HOKs.out true (fun _ => rfl) (by rw [m1]; rfl)
        rw [m1] at HM1
        clear HOKs
        go_wp2_with fail
        refine wp_region_keep HK.out (by kernel_rfl) (by kernel_rfl) (by first | exact HO.out | exact HK.out.drew HO.out) ?_
        intro C hin hout
        have HIN := hide3 hin
        have HOUT := hide3 hout
        clear hin hout HO
        repeat
          (with_reducible refine wpQuiet_step (fun K hK => ?_)
           go_simp
           first
             | (refine hK _ ?_; clear hK K)
             | (apply Exists.intro; refine ⟨fun w1 hC => ?_, hK _ ?_⟩; (focus ((first | (go_at_call 63; with_reducible exact callC HIN.out HOUT.out HK.out HM1.out w1 hC) | (exact rfl) | (obtain ⟨hb1, ⟨p0, p1, p2, p3, p4, p5⟩, p6⟩ := HOUT.out w1 hC; clear hC; go_simp; first | done | exact rfl)); done)); clear hK K))
        refine wpQuiet_nil ?_
        intro wn hC
        have HO := hide3 (HOUT.out _ hC)
        clear hC HIN HOUT C
        obtain ⟨hb1, ⟨p0, p1, p2, p3, p4, p5⟩, p6⟩ := HO.out
        go_wp2
        go_ret
        exact ⟨ret_bool HF.out.symm, HO.out.1⟩
      rw [m1] at HM1
      cases m2 : mayV x y z
      · have HF : Hid (mayL L = false) := HOKs.out true (fun _ => rfl) (by rw [m1, m2]; rfl)
        rw [m2] at HM2
        clear HOKs
        go_wp2_with fail
        refine wp_region_keep HK.out (by kernel_rfl) (by kernel_rfl) (by first | exact HO.out | exact HK.out.drew HO.out) ?_
        intro C hin hout
        have HIN := hide3 hin
        have HOUT := hide3 hout
        clear hin hout HO
        repeat
          (with_reducible refine wpQuiet_step (fun K hK => ?_)
           go_simp
           first
             | (refine hK _ ?_; clear hK K)
             | (apply Exists.intro; refine ⟨fun w1 hC => ?_, hK _ ?_⟩; (focus ((first | (go_at_call 63; with_reducible exact callC HIN.out HOUT.out HK.out HM1.out w1 hC) | (go_at_call 63; with_reducible exact callC HIN.out HOUT.out HK.out HM2.out w1 hC) | (exact rfl) | (obtain ⟨hb1, ⟨p0, p1, p2, p3, p4, p5⟩, p6⟩ := HOUT.out w1 hC; clear hC; go_simp; first | done | exact rfl)); done)); clear hK K))
        refine wpQuiet_nil ?_
        intro wn hC
        have HO := hide3 (HOUT.out _ hC)
        clear hC HIN HOUT C
        obtain ⟨hb1, ⟨p0, p1, p2, p3, p4, p5⟩, p6⟩ := HO.out
        go_wp2
        go_ret
        exact ⟨ret_bool HF.out.symm, HO.out.1⟩
      rw [m2] at HM2
      by_cases hr : rankV x y z < rankV a b c
      · have HF : Hid (mayL L = false) := HOKs.out true (fun _ => rfl) (by rw [m1, m2, decide_eq_false (by omega)]; rfl)
        clear HOKs
        generalize rankV a b c = r1 at *
        generalize rankV x y z = r2 at *
        go_wp2_with fail
        refine wp_region_keep HK.out (by kernel_rfl) (by kernel_rfl) (by first | exact HO.out | exact HK.out.drew HO.out) ?_
        intro C hin hout
        have HIN := hide3 hin
        have HOUT := hide3 hout
        clear hin hout HO
        repeat
          (with_reducible refine wpQuiet_step (fun K hK => ?_)
           go_simp
           first
             | (refine hK _ ?_; clear hK K)
             | (apply Exists.intro; refine ⟨fun w1 hC => ?_, hK _ ?_⟩; (focus ((first | (go_at_call 63; with_reducible exact callC HIN.out HOUT.out HK.out HM1.out w1 hC) | (go_at_call 63; with_reducible exact callC HIN.out HOUT.out HK.out HM2.out w1 hC) | (go_at_call 65; with_reducible exact callC HIN.out HOUT.out HK.out HR1.out w1 hC) | (go_at_call 65; with_reducible exact callC HIN.out HOUT.out HK.out HR2.out w1 hC) | (exact rfl) | (obtain ⟨hb1, ⟨p0, p1, p2, p3, p4, p5⟩, p6⟩ := HOUT.out w1 hC; clear hC; go_simp; first | done | exact rfl)); done)); clear hK K))
        refine wpQuiet_nil ?_
        intro wn hC
        have HO := hide3 (HOUT.out _ hC)
        clear hC HIN HOUT C
        obtain ⟨hb1, ⟨p0, p1, p2, p3, p4, p5⟩, p6⟩ := HO.out
        go_wp2
        go_ret
        exact ⟨ret_bool HF.out.symm, HO.out.1⟩
      · rcases Nat.eq_zero_or_pos k with h0 | h0
        · have HF : Hid (okAt L k = true) := by unfold Hid; subst h0; rw [okAt_first HS.out]; simp only; rw [m1, m2, decide_eq_true (by omega)]; rfl
          have H0 := hide3 h0
          have hk0 : decide ((0 : Int) < (k : Int)) = false := decide_eq_false (by omega)
          have hk1 : decide (0 < k) = false := decide_eq_false (by omega)
          clear HOKs h0
          generalize rankV a b c = r1 at *
          generalize rankV x y z = r2 at *
          go_wp2_with fail
          refine wp_region_keep HK.out (by kernel_rfl) (by kernel_rfl) (by first | exact HO.out | exact HK.out.drew HO.out) ?_
          intro C hin hout
          have HIN := hide3 hin
          have HOUT := hide3 hout
          clear hin hout HO
          repeat
            (with_reducible refine wpQuiet_step (fun K hK => ?_)
             go_simp
             first
               | (refine hK _ ?_; clear hK K)
               | (apply Exists.intro; refine ⟨fun w1 hC => ?_, hK _ ?_⟩; (focus ((first | (go_at_call 63; with_reducible exact callC HIN.out HOUT.out HK.out HM1.out w1 hC) | (go_at_call 63; with_reducible exact callC HIN.out HOUT.out HK.out HM2.out w1 hC) | (go_at_call 65; with_reducible exact callC HIN.out HOUT.out HK.out HR1.out w1 hC) | (go_at_call 65; with_reducible exact callC HIN.out HOUT.out HK.out HR2.out w1 hC) | (exact rfl) | (obtain ⟨hb1, ⟨p0, p1, p2, p3, p4, p5⟩, p6⟩ := HOUT.out w1 hC; clear hC; go_simp; first | done | exact rfl)); done)); clear hK K))
          refine wpQuiet_nil ?_
          intro wn hC
          have HO := hide3 (HOUT.out _ hC)
          clear hC HIN HOUT C
          obtain ⟨hb1, ⟨p0, p1, p2, p3, p4, p5⟩, p6⟩ := HO.out
          go_wp2_with fail
          clear hb1 p0 p1 p2 p3 p4 p5 p6
          refine wp_region_keep HK.out (by kernel_rfl) (by kernel_rfl) (by first | exact HO.out | exact HK.out.drew HO.out) ?_
          intro C hin hout
          have HIN := hide3 hin
          have HOUT := hide3 hout
          clear hin hout HO
          repeat
            (with_reducible refine wpQuiet_step (fun K hK => ?_)
             go_simp
             first
               | (refine hK _ ?_; clear hK K)
               | (apply Exists.intro; refine ⟨fun w1 hC => ?_, hK _ ?_⟩; (focus ((first | (exact rfl) | (obtain ⟨hb1, ⟨p0, p1, p2, p3, p4, p5⟩, p6⟩ := HOUT.out w1 hC; clear hC; go_simp; first | done | exact rfl)); done)); clear hK K))
          refine wpQuiet_nil ?_
          intro wm hC
          have HO := hide3 (HOUT.out _ hC)
          clear hC HIN HOUT C
          obtain ⟨hb1, ⟨p0, p1, p2, p3, p4, p5⟩, p6⟩ := HO.out
          go_wp2
          exact ⟨⟨k + 1, by omega, by go_num, HO.out.1, fun j hj => by rw [show j = k by have := H0.out; omega]; exact HF.out⟩, by simp [intOf]; omega⟩
        · obtain ⟨j, hj⟩ : ∃ j, k = j + 1 := ⟨k - 1, by omega⟩
          have hjl : j < L.length := by omega
          have HJ := hide3 hj
          have HPP : Hid (L[j]? = some L[j]) := List.getElem?_eq_getElem hjl
          have HO2 : Hid ((Below w.heap.size w wr ∧ SpIn wr g (o + k * 6) ⟨a, b, c, x, y, z⟩) ∧ SpIn wr g (o + j * 6) L[j]) := ⟨HO.out, HL.out wr HO.out.1 j hjl⟩
          have HK2 : Hid (KeepP fun w1 => (Below w.heap.size w w1 ∧ SpIn w1 g (o + k * 6) ⟨a, b, c, x, y, z⟩) ∧ SpIn w1 g (o + j * 6) L[j]) := HK.out.and (keepSp _ _ _)
          have HN : Hid (okAt L k = ((mayV a b c && mayV x y z && decide (rankV a b c ≤ rankV x y z)) && decide (rankV L[j].x L[j].y L[j].z + 1 < rankV a b c))) := by
            subst hj
            exact okAt_next HS.out HPP.out (HOK.out j (by omega))
          clear HO HK
          have HO := HO2
          have HK := HK2
          clear HO2 HK2
          generalize L[j] = p at *
          obtain ⟨p, q, r, u, v, t⟩ := p
          have HR3 : Hid (∀ w1, Calls Tryz.prog 65 #[.agg #[.int .i64 u, .int .i64 v, .int .i64 t]] w1 fun e w' => e = .returned (.int .i64 (rankV u v t)) ∧ Below w1.heap.size w1 w') := rrank_any u v t
          have hk0 : decide ((0 : Int) < (k : Int)) = true := decide_eq_true (by omega)
          have hk1 : decide (0 < k) = true := decide_eq_true (by omega)
          have hkj : (k : Int) - 1 = (j : Int) := by omega
          have hj2 : (j : Int) < (L.length : Int) := by omega
          have hwj : IntKind.i64.wrap (j : Int) = (j : Int) := wrap_small (by omega) (by omega)
          have hsm := rank_small u v t
          have hwr : IntKind.i64.wrap (rankV u v t + 1) = rankV u v t + 1 := wrap_small (by omega) (by omega)
          clear hj h0 hsm
          by_cases hp : rankV a b c ≤ rankV u v t + 1
          · have HF : Hid (mayL L = false) := may_no HT.out hlt (by rw [HN.out]; rw [decide_eq_false (p := rankV u v t + 1 < rankV a b c) (by omega), Bool.and_false])
            clear HOKs HN
            generalize rankV a b c = r1 at *
            generalize rankV x y z = r2 at *
            generalize rankV u v t = r3 at *
            go_wp2_with fail
            refine wp_region_keep HK.out (by kernel_rfl) (by kernel_rfl) (by first | exact HO.out | exact HK.out.drew HO.out) ?_
            intro C hin hout
            have HIN := hide3 hin
            have HOUT := hide3 hout
            clear hin hout HO
            repeat
              (with_reducible refine wpQuiet_step (fun K hK => ?_)
               go_simp
               first
                 | (refine hK _ ?_; clear hK K)
                 | (apply Exists.intro; refine ⟨fun w1 hC => ?_, hK _ ?_⟩; (focus ((first | (go_at_call 63; with_reducible exact callC HIN.out HOUT.out HK.out HM1.out w1 hC) | (go_at_call 63; with_reducible exact callC HIN.out HOUT.out HK.out HM2.out w1 hC) | (go_at_call 65; with_reducible exact callC HIN.out HOUT.out HK.out HR1.out w1 hC) | (go_at_call 65; with_reducible exact callC HIN.out HOUT.out HK.out HR2.out w1 hC) | (exact rfl) | (obtain ⟨⟨hb1, ⟨p0, p1, p2, p3, p4, p5⟩, p6⟩, ⟨q0, q1, q2, q3, q4, q5⟩, q6⟩ := HOUT.out w1 hC; clear hC; go_simp; first | done | exact rfl)); done)); clear hK K))
            refine wpQuiet_nil ?_
            intro wn hC
            have HO := hide3 (HOUT.out _ hC)
            clear hC HIN HOUT C
            obtain ⟨⟨hb1, ⟨p0, p1, p2, p3, p4, p5⟩, p6⟩, ⟨q0, q1, q2, q3, q4, q5⟩, q6⟩ := HO.out
            go_wp2_with fail
            clear hb1 p0 p1 p2 p3 p4 p5 p6 q0 q1 q2 q3 q4 q5 q6
            refine wp_region_keep HK.out (by kernel_rfl) (by kernel_rfl) (by first | exact HO.out | exact HK.out.drew HO.out) ?_
            intro C hin hout
            have HIN := hide3 hin
            have HOUT := hide3 hout
            clear hin hout HO
            repeat
              (with_reducible refine wpQuiet_step (fun K hK => ?_)
               go_simp
               first
                 | (refine hK _ ?_; clear hK K)
                 | (apply Exists.intro; refine ⟨fun w1 hC => ?_, hK _ ?_⟩; (focus ((first | (go_at_call 65; with_reducible exact callC HIN.out HOUT.out HK.out HR1.out w1 hC) | (go_at_call 65; with_reducible exact callC HIN.out HOUT.out HK.out HR3.out w1 hC) | (exact rfl) | (obtain ⟨⟨hb1, ⟨p0, p1, p2, p3, p4, p5⟩, p6⟩, ⟨q0, q1, q2, q3, q4, q5⟩, q6⟩ := HOUT.out w1 hC; clear hC; go_simp; first | done | exact rfl)); done)); clear hK K))
            refine wpQuiet_nil ?_
            intro wm hC
            have HO := hide3 (HOUT.out _ hC)
            clear hC HIN HOUT C
            obtain ⟨⟨hb1, ⟨p0, p1, p2, p3, p4, p5⟩, p6⟩, ⟨q0, q1, q2, q3, q4, q5⟩, q6⟩ := HO.out
            go_wp2
            go_ret
            exact ⟨ret_bool HF.out.symm, HO.out.1.1⟩
          · have HF : Hid (okAt L k = true) := by unfold Hid; rw [HN.out]; rw [m1, m2, decide_eq_true (p := rankV u v t + 1 < rankV a b c) (by omega), decide_eq_true (p := rankV a b c ≤ rankV x y z) (by omega)]; rfl
            clear HOKs HN
            generalize rankV a b c = r1 at *
            generalize rankV x y z = r2 at *
            generalize rankV u v t = r3 at *
            go_wp2_with fail
            refine wp_region_keep HK.out (by kernel_rfl) (by kernel_rfl) (by first | exact HO.out | exact HK.out.drew HO.out) ?_
            intro C hin hout
            have HIN := hide3 hin
            have HOUT := hide3 hout
            clear hin hout HO
            repeat
              (with_reducible refine wpQuiet_step (fun K hK => ?_)
               go_simp
               first
                 | (refine hK _ ?_; clear hK K)
                 | (apply Exists.intro; refine ⟨fun w1 hC => ?_, hK _ ?_⟩; (focus ((first | (go_at_call 63; with_reducible exact callC HIN.out HOUT.out HK.out HM1.out w1 hC) | (go_at_call 63; with_reducible exact callC HIN.out HOUT.out HK.out HM2.out w1 hC) | (go_at_call 65; with_reducible exact callC HIN.out HOUT.out HK.out HR1.out w1 hC) | (go_at_call 65; with_reducible exact callC HIN.out HOUT.out HK.out HR2.out w1 hC) | (exact rfl) | (obtain ⟨⟨hb1, ⟨p0, p1, p2, p3, p4, p5⟩, p6⟩, ⟨q0, q1, q2, q3, q4, q5⟩, q6⟩ := HOUT.out w1 hC; clear hC; go_simp; first | done | exact rfl)); done)); clear hK K))
            refine wpQuiet_nil ?_
            intro wn hC
            have HO := hide3 (HOUT.out _ hC)
            clear hC HIN HOUT C
            obtain ⟨⟨hb1, ⟨p0, p1, p2, p3, p4, p5⟩, p6⟩, ⟨q0, q1, q2, q3, q4, q5⟩, q6⟩ := HO.out
            go_wp2_with fail
            clear hb1 p0 p1 p2 p3 p4 p5 p6 q0 q1 q2 q3 q4 q5 q6
            refine wp_region_keep HK.out (by kernel_rfl) (by kernel_rfl) (by first | exact HO.out | exact HK.out.drew HO.out) ?_
            intro C hin hout
            have HIN := hide3 hin
            have HOUT := hide3 hout
            clear hin hout HO
            repeat
              (with_reducible refine wpQuiet_step (fun K hK => ?_)
               go_simp
               first
                 | (refine hK _ ?_; clear hK K)
                 | (apply Exists.intro; refine ⟨fun w1 hC => ?_, hK _ ?_⟩; (focus ((first | (go_at_call 65; with_reducible exact callC HIN.out HOUT.out HK.out HR1.out w1 hC) | (go_at_call 65; with_reducible exact callC HIN.out HOUT.out HK.out HR3.out w1 hC) | (exact rfl) | (obtain ⟨⟨hb1, ⟨p0, p1, p2, p3, p4, p5⟩, p6⟩, ⟨q0, q1, q2, q3, q4, q5⟩, q6⟩ := HOUT.out w1 hC; clear hC; go_simp; first | done | exact rfl)); done)); clear hK K))
            refine wpQuiet_nil ?_
            intro wm hC
            have HO := hide3 (HOUT.out _ hC)
            clear hC HIN HOUT C
            obtain ⟨⟨hb1, ⟨p0, p1, p2, p3, p4, p5⟩, p6⟩, ⟨q0, q1, q2, q3, q4, q5⟩, q6⟩ := HO.out
            go_wp2
            refine ⟨⟨k + 1, by omega, by go_num, HO.out.1.1, fun i hi => ?_⟩, by simp [intOf]; omega⟩
            rcases Nat.lt_or_ge i k with h | h
            · exact HOK.out i h
            · rw [show i = k by omega]; exact HF.out
    · have hke : k = L.length := by omega
      subst hke
      have HF : Hid (mayL L = true) := may_yes HT.out HOK.out
      have HB := hide3 hb
      clear hb
      go_wp2
      go_ret
      exact ⟨ret_bool HF.out.symm, HB.out⟩
end Go.Proofs.YtjpmlagofcgheaaGreatDoor
namespace Go.Proofs.YtjpmlagofcgheaaGreatDoor
open Go.RowKit
set_option maxRecDepth 100000

theorem rMay_nil (ad : Option Addr) (cap : Nat) (w : World) :
    Calls Tryz.prog 62 #[.slice ad 0 cap] w fun e w' => e = .returned (.bool true) ∧ Below w.heap.size w w' := by
  go_enter Tryz.func62, Tryz.ntmps62
  go_wp2_with fail
  go_loop [3] (fun i => i = .int .i64 0) (fun _ => 0)
  case atStart => rfl
  case round =>
    subst hrel
    go_wp2
    go_ret
    exact ⟨rfl, Below.refl _ _⟩

theorem rMay_many (ad : Option Addr) (n cap : Nat) (w : World) (h : 64 < n) :
    Calls Tryz.prog 62 #[.slice ad n cap] w fun e w' => e = .returned (.bool false) ∧ Below w.heap.size w w' := by
  have h1 : (64 : Int) < (n : Int) := by omega
  go_enter Tryz.func62, Tryz.ntmps62
  go_wp2
  go_ret
  exact ⟨rfl, Below.refl _ _⟩

theorem rMayL_any {w : World} {v : Value} {L : List Sp} (h : SpansAt w v L) :
    Calls Tryz.prog 62 #[v] w fun e w' => e = .returned (.bool (mayL L)) ∧ Below w.heap.size w w' := by
  obtain ⟨ad, cap, rfl, hl⟩ := h
  by_cases h64 : L.length ≤ 64
  · rcases hl with rfl | ⟨g, o, rfl, hg, hs⟩
    · exact rMay_nil ad cap w
    · exact rMay_walk L g o cap w h64 hg hs
  · have : mayL L = false := by unfold mayL; rw [decide_eq_false h64]; rfl
    rw [this]
    exact rMay_many ad _ cap w (by omega)

/-- A place is in one of some spans, by their ranks. -/
def hasN (n : Int) (s : Sp) : Bool := decide (rankV s.a s.b s.c ≤ n) && decide (n ≤ rankV s.x s.y s.z)

set_option maxHeartbeats 3200000 in
theorem has_walk (L : List Sp) (g o cap : Nat) (n : Int) (w : World) (hlen : L.length ≤ 1000000000000) (hg : g < w.heap.size) (hl : ∀ i (h : i < L.length), SpAt w g (o + i * 6) L[i]) :
    Calls Tryz.prog 64 #[.slice (some ⟨g, o, none⟩) L.length cap, .int .i64 n] w fun e w' => e = .returned (.bool (L.any (hasN n))) ∧ Below w.heap.size w w' := by
  have HL : Hid (∀ w1, Below w.heap.size w w1 → ∀ i (h : i < L.length), SpIn w1 g (o + i * 6) L[i]) := fun w1 hb i hi => ⟨(hl i hi).below hb hg, Nat.lt_of_lt_of_le hg hb.size⟩
  clear hl
  go_enter Tryz.func64, Tryz.ntmps64
  go_wp2_with fail
  go_loopw [5] (fun i wr => ∃ k : Nat, k ≤ L.length ∧ i = .int .i64 k ∧ Below w.heap.size w wr ∧ (L.take k).any (hasN n) = false) (fun i _ => L.length - (intOf i).toNat)
  case atStart => exact ⟨0, Nat.zero_le _, rfl, Below.refl _ _, rfl⟩
  case round =>
    obtain ⟨k, hk, rfl, hb, hno⟩ := hrel
    have HN := hide3 hno
    have HB := hide3 hb
    clear hno
    by_cases hlt : k < L.length
    · have hs := HL.out wr hb k hlt
      have HS : Hid ((L.take (k + 1)).any (hasN n) = hasN n L[k]) := by
        unfold Hid
        rw [List.take_succ_eq_append_getElem hlt, List.any_append, HN.out]; simp
      have HS2 : Hid (hasN n L[k] = true → L.any (hasN n) = true) := fun h => List.any_eq_true.2 ⟨L[k], List.getElem_mem hlt, h⟩
      have HKs : Hid (KeepP fun w1 => Below w.heap.size w w1 ∧ SpIn w1 g (o + k * 6) L[k]) := (keepBelow w).and (keepSp _ _ _)
      have HOs : Hid (Below w.heap.size w wr ∧ SpIn wr g (o + k * 6) L[k]) := ⟨hb, hs⟩
      generalize L[k] = s at *
      obtain ⟨a, b, c, x, y, z⟩ := s
      have HR1 : Hid (∀ w1, Calls Tryz.prog 65 #[.agg #[.int .i64 a, .int .i64 b, .int .i64 c]] w1 fun e w' => e = .returned (.int .i64 (rankV a b c)) ∧ Below w1.heap.size w1 w') := rrank_any a b c
      have HR2 : Hid (∀ w1, Calls Tryz.prog 65 #[.agg #[.int .i64 x, .int .i64 y, .int .i64 z]] w1 fun e w' => e = .returned (.int .i64 (rankV x y z)) ∧ Below w1.heap.size w1 w') := rrank_any x y z
      have HH : Hid (hasN n ⟨a, b, c, x, y, z⟩ = (decide (rankV a b c ≤ n) && decide (n ≤ rankV x y z))) := rfl
      obtain ⟨⟨p0, p1, p2, p3, p4, p5⟩, p6⟩ := hs
      simp only at p0 p1 p2 p3 p4 p5
      clear hb
      generalize rankV a b c = r1 at *
      generalize rankV x y z = r2 at *
      by_cases h1 : r1 ≤ n
      · by_cases h2 : n ≤ r2
        · have HT : Hid (L.any (hasN n) = true) := HS2.out (by rw [HH.out]; simp [h1, h2])
          go_wp2_with (first
            | (have _h := HOs; go_at_call 65; refine (HR1.out _).mono ?_; rintro e w1 ⟨rfl, ok⟩; have HO1 := hide3 (HKs.out _ _ HOs.out ok); clear ok HOs p0 p1 p2 p3 p4 p5 p6; obtain ⟨_, ⟨p0, p1, p2, p3, p4, p5⟩, p6⟩ := HO1.out)
            | (have _h := HO1; go_at_call 65; refine (HR2.out _).mono ?_; rintro e w2 ⟨rfl, ok⟩; have HO2 := hide3 (HKs.out _ _ HO1.out ok); clear ok HO1 p0 p1 p2 p3 p4 p5 p6))
          go_ret
          exact ⟨ret_bool HT.out.symm, HO2.out.1⟩
        · have HT : Hid ((L.take (k + 1)).any (hasN n) = false) := by unfold Hid; rw [HS.out, HH.out]; simp [h1, h2]
          go_wp2_with (first
            | (have _h := HOs; go_at_call 65; refine (HR1.out _).mono ?_; rintro e w1 ⟨rfl, ok⟩; have HO1 := hide3 (HKs.out _ _ HOs.out ok); clear ok HOs p0 p1 p2 p3 p4 p5 p6; obtain ⟨_, ⟨p0, p1, p2, p3, p4, p5⟩, p6⟩ := HO1.out)
            | (have _h := HO1; go_at_call 65; refine (HR2.out _).mono ?_; rintro e w2 ⟨rfl, ok⟩; have HO2 := hide3 (HKs.out _ _ HO1.out ok); clear ok HO1 p0 p1 p2 p3 p4 p5 p6))
          exact ⟨⟨k + 1, by omega, by go_num, HO2.out.1, HT.out⟩, by simp [intOf]; omega⟩
      · have HT : Hid ((L.take (k + 1)).any (hasN n) = false) := by unfold Hid; rw [HS.out, HH.out]; simp [h1]
        go_wp2_with (first
          | (have _h := HOs; go_at_call 65; refine (HR1.out _).mono ?_; rintro e w1 ⟨rfl, ok⟩; have HO1 := hide3 (HKs.out _ _ HOs.out ok); clear ok HOs p0 p1 p2 p3 p4 p5 p6))
        exact ⟨⟨k + 1, by omega, by go_num, HO1.out.1, HT.out⟩, by simp [intOf]; omega⟩
    · have hke : k = L.length := by omega
      subst hke
      have HF : Hid (L.any (hasN n) = false) := by have := HN.out; rw [List.take_length] at this; exact this
      clear hb
      go_wp2
      go_ret
      exact ⟨ret_bool HF.out.symm, HB.out⟩

theorem has_nil (ad : Option Addr) (cap : Nat) (n : Int) (w : World) :
    Calls Tryz.prog 64 #[.slice ad 0 cap, .int .i64 n] w fun e w' => e = .returned (.bool false) ∧ Below w.heap.size w w' := by
  go_enter Tryz.func64, Tryz.ntmps64
  go_wp2_with fail
  go_loop [5] (fun i => i = .int .i64 0) (fun _ => 0)
  case atStart => rfl
  case round =>
    subst hrel
    go_wp2
    go_ret
    exact ⟨rfl, Below.refl _ _⟩

theorem has_any {w : World} {v : Value} {L : List Sp} (h : SpansAt w v L) (hlen : L.length ≤ 1000000000000) (n : Int) :
    Calls Tryz.prog 64 #[v, .int .i64 n] w fun e w' => e = .returned (.bool (L.any (hasN n))) ∧ Below w.heap.size w w' := by
  obtain ⟨ad, cap, rfl, hl⟩ := h
  rcases hl with rfl | ⟨g, o, rfl, hg, hs⟩
  · exact has_nil ad cap n w
  · exact has_walk L g o cap n w hlen hg hs

theorem hasN_in {L : List Sp} {p q r : Int} (hm : mayL L = true) (hv : mayV p q r = true) : L.any (hasN (rankV p q r)) = L.any (hasS p q r) := by
  obtain ⟨A, rfl, hA, hlen⟩ := may_iff.1 hm
  have ho : ∀ x ∈ A, okP2 x := fun x hx => by have := RiseR.mem hA hx; unfold okP2 okR; omega
  clear hm hA hlen
  induction A with
  | nil => rfl
  | cons x A ih =>
    rw [List.map_cons, List.any_cons, List.any_cons, ih fun y hy => ho y (List.mem_cons_of_mem _ hy)]
    have hx := ho x List.mem_cons_self
    congr 1
    rw [Bool.eq_iff_iff, has_rg hx hv]
    obtain ⟨_, e1⟩ := may_at hx.1.has
    obtain ⟨_, e2⟩ := may_at hx.2.1.has
    unfold hasN spR
    simp only
    rw [Bool.and_eq_true, decide_eq_true_eq, decide_eq_true_eq, e1, e2]

theorem rIn_any {w : World} {v : Value} {L : List Sp} (h : SpansAt w v L) (p q r : Int) :
    Calls Tryz.prog 30 #[v, .agg #[.int .i64 p, .int .i64 q, .int .i64 r]] w fun e w' => e = .returned (.bool (inL L p q r)) ∧ Below w.heap.size w w' := by
  have HM : Hid (∀ w1, Below w.heap.size w w1 → Calls Tryz.prog 62 #[v] w1 fun e w' => e = .returned (.bool (mayL L)) ∧ Below w1.heap.size w1 w') := fun w1 hb => rMayL_any (h.below hb)
  have HV : Hid (∀ w1, Calls Tryz.prog 63 #[.agg #[.int .i64 p, .int .i64 q, .int .i64 r]] w1 fun e w' => e = .returned (.bool (mayV p q r)) ∧ Below w1.heap.size w1 w') := rMay_any p q r
  have HR : Hid (∀ w1, Calls Tryz.prog 65 #[.agg #[.int .i64 p, .int .i64 q, .int .i64 r]] w1 fun e w' => e = .returned (.int .i64 (rankV p q r)) ∧ Below w1.heap.size w1 w') := rrank_any p q r
  have HO0 : Hid (Below w.heap.size w (w.alloc (.cells #[.int .i64 p, .int .i64 q, .int .i64 r] 31)) ∧ BxAt (w.alloc (.cells #[.int .i64 p, .int .i64 q, .int .i64 r] 31)) ⟨w.heap.size, .int .i64 p, .int .i64 q, .int .i64 r⟩) := ⟨boxB _ _, ((OKs.nil w).box rfl _ _ _).one⟩
  have HK : Hid (KeepP fun w1 => Below w.heap.size w w1 ∧ BxAt w1 ⟨w.heap.size, .int .i64 p, .int .i64 q, .int .i64 r⟩) := (keepBelow w).and (keepV3 _)
  cases hm : mayL L
  · have HF : Hid (inL L p q r = false) := by unfold Hid inL; rw [hm]; rfl
    rw [hm] at HM
    clear h
    go_enter Tryz.func30, Tryz.ntmps30
    go_wp2_with (go_at_call 62; refine (HM.out _ HO0.out.1).mono ?_; rintro e w1 ⟨rfl, ok⟩; have HO1 := hide3 (HK.out _ _ HO0.out ok); clear ok HO0)
    go_ret
    exact ⟨ret_bool HF.out.symm, HO1.out.1⟩
  rw [hm] at HM
  cases hv : mayV p q r
  · have HF : Hid (inL L p q r = false) := by unfold Hid inL; rw [hm, hv]; rfl
    rw [hv] at HV
    clear h
    go_enter Tryz.func30, Tryz.ntmps30
    go_wp2_with (first
      | (go_at_call 62; refine (HM.out _ HO0.out.1).mono ?_; rintro e w1 ⟨rfl, ok⟩; have HO1 := hide3 (HK.out _ _ HO0.out ok); clear ok HO0; obtain ⟨_, b0, b1, b2, b3⟩ := HO1.out)
      | (go_at_call 63; refine (HV.out _).mono ?_; rintro e w2 ⟨rfl, ok⟩; have HO2 := hide3 (HK.out _ _ HO1.out ok); clear ok HO1 b0 b1 b2 b3))
    go_ret
    exact ⟨ret_bool HF.out.symm, HO2.out.1⟩
  rw [hv] at HV
  have HF : Hid (inL L p q r = L.any (hasN (rankV p q r))) := by unfold Hid inL; rw [hm, hv, hasN_in hm hv]; rfl
  have hl : L.length ≤ 64 := by unfold mayL at hm; simp at hm; exact hm.1
  have HH : Hid (∀ w1, Below w.heap.size w w1 → Calls Tryz.prog 64 #[v, .int .i64 (rankV p q r)] w1 fun e w' => e = .returned (.bool (L.any (hasN (rankV p q r)))) ∧ Below w1.heap.size w1 w') := fun w1 hb => has_any (h.below hb) (by omega) _
  clear h
  generalize rankV p q r = n at *
  generalize L.any (hasN n) = bb at *
  go_enter Tryz.func30, Tryz.ntmps30
  go_wp2_with (first
    | (go_at_call 62; refine (HM.out _ HO0.out.1).mono ?_; rintro e w1 ⟨rfl, ok⟩; have HO1 := hide3 (HK.out _ _ HO0.out ok); clear ok HO0; obtain ⟨_, b0, b1, b2, b3⟩ := HO1.out)
    | (go_at_call 63; refine (HV.out _).mono ?_; rintro e w2 ⟨rfl, ok⟩; have HO2 := hide3 (HK.out _ _ HO1.out ok); clear ok HO1 b0 b1 b2 b3; obtain ⟨_, b0, b1, b2, b3⟩ := HO2.out)
    | (go_at_call 65; refine (HR.out _).mono ?_; rintro e w3 ⟨rfl, ok⟩; have HO3 := hide3 (HK.out _ _ HO2.out ok); clear ok HO2 b0 b1 b2 b3)
    | (go_at_call 64; refine (HH.out _ HO3.out.1).mono ?_; rintro e w4 ⟨rfl, ok⟩; have HO4 := hide3 (HK.out _ _ HO3.out ok); clear ok HO3))
  go_ret
  exact ⟨ret_bool HF.out.symm, HO4.out.1⟩
end Go.Proofs.YtjpmlagofcgheaaGreatDoor
namespace Go.Proofs.YtjpmlagofcgheaaGreatDoor.Sc
open Go.RowKit
set_option maxRecDepth 100000

theorem ltB_iff (b : UInt8) : ltB b = true ↔ 97 ≤ b.toNat ∧ b.toNat ≤ 122 := by simp [ltB]
theorem dgB_iff (b : UInt8) : dgB b = true ↔ 48 ≤ b.toNat ∧ b.toNat ≤ 57 := by simp [dgB]
theorem nmB_iff (b : UInt8) : nmB b = true ↔ (97 ≤ b.toNat ∧ b.toNat ≤ 122) ∨ (48 ≤ b.toNat ∧ b.toNat ≤ 57) ∨ b.toNat = 45 := by
  unfold nmB
  rw [Bool.or_eq_true, Bool.or_eq_true, ltB_iff, dgB_iff, decide_eq_true_eq, or_assoc]

set_option maxHeartbeats 6400000 in
theorem rName_any (s : ByteArray) (hs : s.size ≤ 9223372036854775807) (w : World) : Calls Tryz.prog 69 #[.string s] w fun e w' => e = .returned (.bool (nameA s.data.toList)) ∧ w' = w := by
  go_enter Tryz.func69, Tryz.ntmps69
  go_wp2
  go_loop [3] (fun i => ∃ k : Nat, k ≤ s.size ∧ i = .int .i64 k ∧ (s.data.toList.take k).all nmB = true ∧ (k = 0 ∨ headB s.data.toList = true)) (fun i => s.size - (intOf i).toNat)
  case atStart => exact ⟨0, Nat.zero_le _, rfl, rfl, Or.inl rfl⟩
  case round =>
    obtain ⟨k, hk, rfl, hal, hhd⟩ := hrel
    have HA := hide3 hal
    have HH := hide3 hhd
    clear hal hhd
    by_cases hlt : k < s.size
    · by_cases h1 : 97 ≤ s[k].toNat ∧ s[k].toNat ≤ 122
      · have HA2 := hide3 (all_more hlt HA.out ((nmB_iff _).2 (Or.inl h1)))
        have HH2 : Hid (k + 1 = 0 ∨ headB s.data.toList = true) := by
          rcases HH.out with rfl | h
          · exact Or.inr (by rw [head_at hlt]; exact (ltB_iff _).2 h1)
          · exact Or.inr h
        obtain ⟨a1, a2⟩ := h1
        have b2 : decide ((s[k].toNat : Int) ≤ 122) = true := decide_eq_true (by omega)
        have b4 : decide ((s[k].toNat : Int) ≤ 57) = false := decide_eq_false (by omega)
        go_wp2
        exact ⟨⟨k + 1, by omega, by go_num, HA2.out, HH2.out⟩, by simp [intOf]; omega⟩
      · by_cases hz : k = 0
        · have HR : Hid (nameA s.data.toList = false) := by
            unfold Hid nameA
            subst hz
            rw [head_at hlt]
            have : ltB s[0] = false := by rw [Bool.eq_false_iff]; intro h; exact h1 ((ltB_iff _).1 h)
            rw [this]; rfl
          have ez : ((k : Int) == 0) = true := by rw [hz]; rfl
          by_cases h2 : 97 ≤ s[k].toNat
          · have h3 : 122 < s[k].toNat := by omega
            have b2 : decide ((s[k].toNat : Int) ≤ 122) = false := decide_eq_false (by omega)
            have b4 : decide ((s[k].toNat : Int) ≤ 57) = false := decide_eq_false (by omega)
            clear h1 hz
            go_wp2
            go_ret
            exact ⟨ret_bool HR.out.symm, rfl⟩
          · clear h1 hz
            by_cases d1 : 48 ≤ s[k].toNat
            · by_cases d2 : s[k].toNat ≤ 57
              · have b4 : decide ((s[k].toNat : Int) ≤ 57) = true := decide_eq_true (by omega)
                go_wp2
                go_ret
                exact ⟨ret_bool HR.out.symm, rfl⟩
              · have b4 : decide ((s[k].toNat : Int) ≤ 57) = false := decide_eq_false (by omega)
                go_wp2
                go_ret
                exact ⟨ret_bool HR.out.symm, rfl⟩
            · go_wp2
              all_goals
                go_ret
                exact ⟨ret_bool HR.out.symm, rfl⟩
        · have ez : ((k : Int) == 0) = false := by rw [beq_eq_false_iff_ne]; omega
          have HH2 : Hid (k + 1 = 0 ∨ headB s.data.toList = true) := Or.inr (HH.out.resolve_left hz)
          by_cases h2 : (48 ≤ s[k].toNat ∧ s[k].toNat ≤ 57) ∨ s[k].toNat = 45
          · have HA2 := hide3 (all_more hlt HA.out ((nmB_iff _).2 (Or.inr h2)))
            by_cases hm : s[k].toNat = 45
            · have em : ((s[k].toNat : Int) == 45) = true := by rw [beq_iff_eq]; omega
              have c1 : ¬ 97 ≤ s[k].toNat := by omega
              have c2 : ¬ 48 ≤ s[k].toNat := by omega
              clear h1 h2 hz hm
              go_wp2
              exact ⟨⟨k + 1, by omega, by go_num, HA2.out, HH2.out⟩, by simp [intOf]; omega⟩
            · obtain ⟨d1, d2⟩ := h2.resolve_right hm
              have c1 : ¬ 97 ≤ s[k].toNat := by omega
              have b4 : decide ((s[k].toNat : Int) ≤ 57) = true := decide_eq_true (by omega)
              clear h1 h2 hz hm
              go_wp2
              exact ⟨⟨k + 1, by omega, by go_num, HA2.out, HH2.out⟩, by simp [intOf]; omega⟩
          · have hn : nmB s[k] = false := by rw [Bool.eq_false_iff]; intro h; rcases (nmB_iff _).1 h with h | h; exact h1 h; exact h2 h
            have HR : Hid (nameA s.data.toList = false) := by unfold Hid nameA; rw [all_bad hlt hn]; simp
            have em : ((s[k].toNat : Int) == 45) = false := by rw [beq_eq_false_iff_ne]; omega
            by_cases c1 : 97 ≤ s[k].toNat
            · have c2 : 122 < s[k].toNat := by omega
              have b2 : decide ((s[k].toNat : Int) ≤ 122) = false := decide_eq_false (by omega)
              have b4 : decide ((s[k].toNat : Int) ≤ 57) = false := decide_eq_false (by omega)
              clear h1 h2 hz hn
              go_wp2
              go_ret
              exact ⟨ret_bool HR.out.symm, rfl⟩
            · by_cases d1 : 48 ≤ s[k].toNat
              · have d2 : 57 < s[k].toNat := by omega
                have b4 : decide ((s[k].toNat : Int) ≤ 57) = false := decide_eq_false (by omega)
                clear h1 h2 hz hn
                go_wp2
                go_ret
                exact ⟨ret_bool HR.out.symm, rfl⟩
              · clear h1 h2 hz hn
                go_wp2
                go_ret
                exact ⟨ret_bool HR.out.symm, rfl⟩
    · have hke : k = s.size := by omega
      subst hke
      cases he : s.toList.isEmpty
      · have h0 := size_pos he
        have hh := HH.out.resolve_left (by omega)
        by_cases h16 : s.size ≤ 16
        · have HR : Hid (nameA s.data.toList = true) := by unfold Hid nameA; rw [hh, all_end HA.out, list_size, decide_eq_true h16]; rfl
          clear hh
          go_wp2
          go_ret
          exact ⟨ret_bool ((decide_eq_true (by omega)).trans HR.out.symm), rfl⟩
        · have HR : Hid (nameA s.data.toList = false) := by unfold Hid nameA; rw [list_size, decide_eq_false h16]; simp
          clear hh
          go_wp2
          go_ret
          exact ⟨ret_bool ((decide_eq_false (by omega)).trans HR.out.symm), rfl⟩
      · have HR : Hid (nameA s.data.toList = false) := nameA_empty (by rw [← empty_is]; exact he)
        go_wp2
        go_ret
        exact ⟨ret_bool HR.out.symm, rfl⟩
end Go.Proofs.YtjpmlagofcgheaaGreatDoor.Sc
namespace Go.Proofs.YtjpmlagofcgheaaGreatDoor
open Go.RowKit
set_option maxRecDepth 100000

theorem rise_cons {q : Option ByteArray} {d : Dp} {r : List Dp} : riseD q (d :: r) = (followB q d.nm && rangeB d.rg && riseD (some d.nm) r) := rfl
theorem lastN_some {L : List Dp} {j : Nat} (h : j < L.length) : lastN (L.take (j + 1)) = some L[j].nm := lastN_take h

set_option maxHeartbeats 6400000 in
theorem rList_walk (L : List Dp) (hz : L.length ≤ 9223372036854775807) (g o cap : Nat) (w : World) (hs : ∀ i (h : i < L.length), ∃ u, DpIn w g (o + i * 2) L[i] u) (hnm : ∀ d ∈ L, d.nm.size ≤ 9223372036854775807) :
    Calls Tryz.prog 70 #[.slice (some ⟨g, o, none⟩) L.length cap] w fun e w' => e = .returned (.bool (mayD L)) ∧ Below w.heap.size w w' := by
  have HL : Hid (∀ w1, Below w.heap.size w w1 → ∀ i (h : i < L.length), ∃ u, DpIn w1 g (o + i * 2) L[i] u) := fun w1 hb i hi => (hs i hi).imp fun u h => h.below hb
  have HN : Hid (∀ (i : Nat) (h : i < L.length) w1, Calls Tryz.prog 69 #[.string L[i].nm] w1 fun e w' => e = .returned (.bool (Sc.nameA L[i].nm.data.toList)) ∧ Below w1.heap.size w1 w') := fun i hi w1 => (Sc.rName_any L[i].nm (hnm _ (List.getElem_mem hi)) w1).mono fun e w' ⟨h1, h2⟩ => ⟨h1, by rw [h2]; exact Below.refl _ _⟩
  have HMD : Hid (mayD L = (decide (L.length ≤ 16) && riseD none L)) := rfl
  clear hs hnm
  go_enter Tryz.func70, Tryz.ntmps70
  go_wp2_with fail
  go_loopw [3] (fun i wr => ∃ k : Nat, k ≤ L.length ∧ i = .int .i64 k ∧ Below w.heap.size w wr ∧ riseD none L = riseD (lastN (L.take k)) (L.drop k) ∧ ∀ q, lastN (L.take k) = some q → q.size ≤ 16) (fun i _ => L.length - (intOf i).toNat)
  case atStart => exact ⟨0, Nat.zero_le _, rfl, Below.refl _ _, rfl, fun q h => by cases h⟩
  case round =>
    obtain ⟨k, hk, rfl, hb, hall, hq16⟩ := hrel
    have HALL := hide3 hall
    have HQ := hide3 hq16
    have HB := hide3 hb
    clear hall hq16
    by_cases hlt : k < L.length
    · have hdr : L.drop k = L[k] :: L.drop (k + 1) := List.drop_eq_getElem_cons hlt
      have HST : Hid (riseD none L = (followB (lastN (L.take k)) L[k].nm && rangeB L[k].rg && riseD (lastN (L.take (k + 1))) (L.drop (k + 1)))) := by
        unfold Hid
        rw [HALL.out, hdr, lastN_take hlt]
        rfl
      have HQN : Hid (Sc.nameA L[k].nm.data.toList = true → ∀ q, lastN (L.take (k + 1)) = some q → q.size ≤ 16) := fun hn q hq => by
        rw [lastN_take hlt] at hq
        cases hq
        unfold Sc.nameA at hn
        rw [Bool.and_eq_true, decide_eq_true_eq, list_size] at hn
        exact hn.2
      have HSZ : Hid (Sc.nameA L[k].nm.data.toList = true → L[k].nm.size ≤ 16) := fun hn => by
        unfold Sc.nameA at hn
        rw [Bool.and_eq_true, decide_eq_true_eq, list_size] at hn
        exact hn.2
      have HFO : Hid (followB (lastN (L.take k)) L[k].nm = (Sc.nameA L[k].nm.data.toList && (match lastN (L.take k) with
        | none => true
        | some p => ltS p L[k].nm))) := rfl
      have HRB : Hid (rangeB L[k].rg = (decide (0 < L[k].rg.length) && mayL L[k].rg)) := rfl
      clear hdr HALL
      rcases Nat.eq_zero_or_pos k with hk0 | hk0
      · subst hk0
        obtain ⟨u, hu⟩ := HL.out wr hb 0 hlt
        have HO : Hid (Below w.heap.size w wr ∧ DpIn wr g (o + 0 * 2) L[0] u) := ⟨hb, hu⟩
        have HK : Hid (KeepP fun w1 => Below w.heap.size w w1 ∧ DpIn w1 g (o + 0 * 2) L[0] u) := (keepBelow w).and (keepDp _ _ _ _)
        have HC1 : Hid (∀ w1, Calls Tryz.prog 69 #[.string L[0].nm] w1 fun e w' => e = .returned (.bool (Sc.nameA L[0].nm.data.toList)) ∧ Below w1.heap.size w1 w') := HN.out 0 hlt
        have HC2 : Hid (∀ w1, (Below w.heap.size w w1 ∧ DpIn w1 g (o + 0 * 2) L[0] u) → Calls Tryz.prog 62 #[u] w1 fun e w' => e = .returned (.bool (mayL L[0].rg)) ∧ Below w1.heap.size w1 w') := fun w1 h => rMayL_any h.2.2.2.1.1.1
        obtain ⟨au, cu, rfl⟩ := hu.2.2.1.1.1.sl
        rw [Nat.zero_mul, Nat.add_zero] at HO HK HC2
        have hlf : lastN (L.take 0) = none := rfl
        rw [hlf] at HFO HST
        clear hu hb HQ hlf
        generalize followB none L[0].nm = fo at *
        generalize rangeB L[0].rg = rb at *
        generalize Sc.nameA L[0].nm.data.toList = b1 at *
        generalize mayL L[0].rg = b2 at *
        generalize L[0].rg.length = ln at *
        generalize L[0] = d at *
        cases b1
        · have HR : Hid (mayD L = false) := by unfold Hid; rw [HMD.out, HST.out, HFO.out]; simp
          clear HST HFO HRB HQN HSZ
          go_wp2_with fail
          refine wp_region_keep HK.out (by kernel_rfl) (by kernel_rfl) (by first | exact HO.out | exact HK.out.drew HO.out) ?_
          intro C hin hout
          have HIN := hide3 hin
          have HOUT := hide3 hout
          clear hin hout HO
          repeat
            (with_reducible refine wpQuiet_step (fun K hK => ?_)
             go_simp
             first
               | (refine hK _ ?_; clear hK K)
               | (apply Exists.intro; refine ⟨fun w1 hC => ?_, hK _ ?_⟩; (focus ((first | (go_at_call 69; with_reducible exact callC HIN.out HOUT.out HK.out HC1.out w1 hC) | (exact rfl) | (obtain ⟨hb1, ⟨p0, p1, ph, p3⟩⟩ := HOUT.out w1 hC; clear hC; go_simp; first | done | exact rfl)); done)); clear hK K))
          refine wpQuiet_nil ?_
          intro wn hC
          have HO := hide3 (HOUT.out _ hC)
          clear hC HIN HOUT C
          obtain ⟨hb1, ⟨p0, p1, ph, p3⟩⟩ := HO.out
          go_wp2
          go_ret
          exact ⟨ret_bool HR.out.symm, HO.out.1⟩
        · cases b2
          · have HR : Hid (mayD L = false) := by unfold Hid; rw [HMD.out, HST.out, HRB.out]; simp
            clear HST HFO HRB HQN HSZ
            go_wp2_with fail
            refine wp_region_keep HK.out (by kernel_rfl) (by kernel_rfl) (by first | exact HO.out | exact HK.out.drew HO.out) ?_
            intro C hin hout
            have HIN := hide3 hin
            have HOUT := hide3 hout
            clear hin hout HO
            repeat
              (with_reducible refine wpQuiet_step (fun K hK => ?_)
               go_simp
               first
                 | (refine hK _ ?_; clear hK K)
                 | (apply Exists.intro; refine ⟨fun w1 hC => ?_, hK _ ?_⟩; (focus ((first | (go_at_call 69; with_reducible exact callC HIN.out HOUT.out HK.out HC1.out w1 hC) | (go_at_call 62; with_reducible exact callC' HIN.out HOUT.out HK.out HC2.out w1 hC) | (exact rfl) | (obtain ⟨hb1, ⟨p0, p1, ph, p3⟩⟩ := HOUT.out w1 hC; clear hC; go_simp; first | done | exact rfl)); done)); clear hK K))
            refine wpQuiet_nil ?_
            intro wn hC
            have HO := hide3 (HOUT.out _ hC)
            clear hC HIN HOUT C
            obtain ⟨hb1, ⟨p0, p1, ph, p3⟩⟩ := HO.out
            go_wp2
            go_ret
            exact ⟨ret_bool HR.out.symm, HO.out.1⟩
          · by_cases hl0 : ln = 0
            · have HR : Hid (mayD L = false) := by unfold Hid; rw [HMD.out, HST.out, HRB.out]; simp [hl0]
              clear HST HFO HRB HQN HSZ
              have hl1 : ((ln : Int) == 0) = true := by rw [hl0]; rfl
              subst hl0
              go_wp2_with fail
              refine wp_region_keep HK.out (by kernel_rfl) (by kernel_rfl) (by first | exact HO.out | exact HK.out.drew HO.out) ?_
              intro C hin hout
              have HIN := hide3 hin
              have HOUT := hide3 hout
              clear hin hout HO
              repeat
                (with_reducible refine wpQuiet_step (fun K hK => ?_)
                 go_simp
                 first
                   | (refine hK _ ?_; clear hK K)
                   | (apply Exists.intro; refine ⟨fun w1 hC => ?_, hK _ ?_⟩; (focus ((first | (go_at_call 69; with_reducible exact callC HIN.out HOUT.out HK.out HC1.out w1 hC) | (go_at_call 62; with_reducible exact callC' HIN.out HOUT.out HK.out HC2.out w1 hC) | (exact rfl) | (obtain ⟨hb1, ⟨p0, p1, ph, p3⟩⟩ := HOUT.out w1 hC; clear hC; go_simp; first | done | exact rfl)); done)); clear hK K))
              refine wpQuiet_nil ?_
              intro wn hC
              have HO := hide3 (HOUT.out _ hC)
              clear hC HIN HOUT C
              obtain ⟨hb1, ⟨p0, p1, ph, p3⟩⟩ := HO.out
              go_wp2
              go_ret
              exact ⟨ret_bool HR.out.symm, HO.out.1⟩
            · have hl1 : ((ln : Int) == 0) = false := by rw [beq_eq_false_iff_ne]; omega
              have HR : Hid (riseD none L = riseD (lastN (L.take 1)) (L.drop 1)) := by unfold Hid; rw [HST.out, HFO.out, HRB.out]; simp; omega
              clear HST HFO HRB HSZ
              go_wp2_with fail
              refine wp_region_keep HK.out (by kernel_rfl) (by kernel_rfl) (by first | exact HO.out | exact HK.out.drew HO.out) ?_
              intro C hin hout
              have HIN := hide3 hin
              have HOUT := hide3 hout
              clear hin hout HO
              repeat
                (with_reducible refine wpQuiet_step (fun K hK => ?_)
                 go_simp
                 first
                   | (refine hK _ ?_; clear hK K)
                   | (apply Exists.intro; refine ⟨fun w1 hC => ?_, hK _ ?_⟩; (focus ((first | (go_at_call 69; with_reducible exact callC HIN.out HOUT.out HK.out HC1.out w1 hC) | (go_at_call 62; with_reducible exact callC' HIN.out HOUT.out HK.out HC2.out w1 hC) | (exact rfl) | (obtain ⟨hb1, ⟨p0, p1, ph, p3⟩⟩ := HOUT.out w1 hC; clear hC; go_simp; first | done | exact rfl)); done)); clear hK K))
              refine wpQuiet_nil ?_
              intro wn hC
              have HO := hide3 (HOUT.out _ hC)
              clear hC HIN HOUT C
              obtain ⟨hb1, ⟨p0, p1, ph, p3⟩⟩ := HO.out
              go_wp2
              exact ⟨⟨0 + 1, by omega, by go_num, HO.out.1, HR.out, HQN.out (by first | rfl | trivial)⟩, by simp [intOf]; omega⟩
      · obtain ⟨j, hkj⟩ : ∃ j, k = j + 1 := ⟨k - 1, by omega⟩
        have hjl : j < L.length := by omega
        obtain ⟨u, hu⟩ := HL.out wr hb k hlt
        obtain ⟨u', hu'⟩ := HL.out wr hb j hjl
        have hlf : lastN (L.take k) = some L[j].nm := by subst hkj; exact lastN_some hjl
        have h16 := HQ.out _ hlf
        rw [hlf] at HST
        clear HFO
        have HFO : Hid (followB (some L[j].nm) L[k].nm = (Sc.nameA L[k].nm.data.toList && ltS L[j].nm L[k].nm)) := rfl
        have HO : Hid (Below w.heap.size w wr ∧ DpIn wr g (o + k * 2) L[k] u ∧ DpIn wr g (o + j * 2) L[j] u') := ⟨hb, hu, hu'⟩
        have HK : Hid (KeepP fun w1 => Below w.heap.size w w1 ∧ DpIn w1 g (o + k * 2) L[k] u ∧ DpIn w1 g (o + j * 2) L[j] u') := (keepBelow w).and ((keepDp _ _ _ _).and (keepDp _ _ _ _))
        have HC1 : Hid (∀ w1, Calls Tryz.prog 69 #[.string L[k].nm] w1 fun e w' => e = .returned (.bool (Sc.nameA L[k].nm.data.toList)) ∧ Below w1.heap.size w1 w') := HN.out k hlt
        have HC2 : Hid (∀ w1, (Below w.heap.size w w1 ∧ DpIn w1 g (o + k * 2) L[k] u ∧ DpIn w1 g (o + j * 2) L[j] u') → Calls Tryz.prog 62 #[u] w1 fun e w' => e = .returned (.bool (mayL L[k].rg)) ∧ Below w1.heap.size w1 w') := fun w1 h => rMayL_any h.2.1.2.2.1.1.1
        have HC3 : Hid (Sc.nameA L[k].nm.data.toList = true → ∀ w1, Calls Tryz.prog 58 #[.string L[j].nm, .string L[k].nm] w1 fun e w' => e = .returned (.bool (ltS L[j].nm L[k].nm)) ∧ Below w1.heap.size w1 w') := fun _ w1 => rLess_any _ _ w1 (by omega)
        obtain ⟨au, cu, rfl⟩ := hu.2.2.1.1.1.sl
        have hw1 : IntKind.i64.wrap ((k : Int) - 1) = (j : Int) := by rw [IntKind.wrap_i64]; omega
        have hj1 : (0 : Int) < (k : Int) := by omega
        have hj2 : decide ((0 : Int) < (k : Int)) = true := decide_eq_true hj1
        have hj3 : decide (0 < k) = true := decide_eq_true hk0
        have hji : (j : Int) < (L.length : Int) := by omega
        clear hu hu' hb HQ hlf h16 hkj
        generalize followB (some L[j].nm) L[k].nm = fo at *
        generalize rangeB L[k].rg = rb at *
        generalize Sc.nameA L[k].nm.data.toList = b1 at *
        generalize mayL L[k].rg = b2 at *
        generalize ltS L[j].nm L[k].nm = b3 at *
        generalize L[k].rg.length = ln at *
        generalize L[k] = d at *
        generalize L[j] = d' at *
        cases b1
        · have HR : Hid (mayD L = false) := by unfold Hid; rw [HMD.out, HST.out, HFO.out]; simp
          clear HST HFO HRB HQN HSZ HC3
          go_wp2_with fail
          refine wp_region_keep HK.out (by kernel_rfl) (by kernel_rfl) (by first | exact HO.out | exact HK.out.drew HO.out) ?_
          intro C hin hout
          have HIN := hide3 hin
          have HOUT := hide3 hout
          clear hin hout HO
          repeat
            (with_reducible refine wpQuiet_step (fun K hK => ?_)
             go_simp
             first
               | (refine hK _ ?_; clear hK K)
               | (apply Exists.intro; refine ⟨fun w1 hC => ?_, hK _ ?_⟩; (focus ((first | (go_at_call 69; with_reducible exact callC HIN.out HOUT.out HK.out HC1.out w1 hC) | (exact rfl) | (obtain ⟨hb1, ⟨p0, p1, ph, p3⟩, ⟨q0, q1, qh, q3⟩⟩ := HOUT.out w1 hC; clear hC; go_simp; first | done | exact rfl)); done)); clear hK K))
          refine wpQuiet_nil ?_
          intro wn hC
          have HO := hide3 (HOUT.out _ hC)
          clear hC HIN HOUT C
          obtain ⟨hb1, ⟨p0, p1, ph, p3⟩, ⟨q0, q1, qh, q3⟩⟩ := HO.out
          go_wp2
          go_ret
          exact ⟨ret_bool HR.out.symm, HO.out.1⟩
        · cases b2
          · have HR : Hid (mayD L = false) := by unfold Hid; rw [HMD.out, HST.out, HRB.out]; simp
            clear HST HFO HRB HQN HSZ HC3
            go_wp2_with fail
            refine wp_region_keep HK.out (by kernel_rfl) (by kernel_rfl) (by first | exact HO.out | exact HK.out.drew HO.out) ?_
            intro C hin hout
            have HIN := hide3 hin
            have HOUT := hide3 hout
            clear hin hout HO
            repeat
              (with_reducible refine wpQuiet_step (fun K hK => ?_)
               go_simp
               first
                 | (refine hK _ ?_; clear hK K)
                 | (apply Exists.intro; refine ⟨fun w1 hC => ?_, hK _ ?_⟩; (focus ((first | (go_at_call 69; with_reducible exact callC HIN.out HOUT.out HK.out HC1.out w1 hC) | (go_at_call 62; with_reducible exact callC' HIN.out HOUT.out HK.out HC2.out w1 hC) | (exact rfl) | (obtain ⟨hb1, ⟨p0, p1, ph, p3⟩, ⟨q0, q1, qh, q3⟩⟩ := HOUT.out w1 hC; clear hC; go_simp; first | done | exact rfl)); done)); clear hK K))
            refine wpQuiet_nil ?_
            intro wn hC
            have HO := hide3 (HOUT.out _ hC)
            clear hC HIN HOUT C
            obtain ⟨hb1, ⟨p0, p1, ph, p3⟩, ⟨q0, q1, qh, q3⟩⟩ := HO.out
            go_wp2
            go_ret
            exact ⟨ret_bool HR.out.symm, HO.out.1⟩
          · by_cases hl0 : ln = 0
            · have HR : Hid (mayD L = false) := by unfold Hid; rw [HMD.out, HST.out, HRB.out]; simp [hl0]
              clear HST HFO HRB HQN HSZ HC3
              have hl1 : ((ln : Int) == 0) = true := by rw [hl0]; rfl
              subst hl0
              go_wp2_with fail
              refine wp_region_keep HK.out (by kernel_rfl) (by kernel_rfl) (by first | exact HO.out | exact HK.out.drew HO.out) ?_
              intro C hin hout
              have HIN := hide3 hin
              have HOUT := hide3 hout
              clear hin hout HO
              repeat
                (with_reducible refine wpQuiet_step (fun K hK => ?_)
                 go_simp
                 first
                   | (refine hK _ ?_; clear hK K)
                   | (apply Exists.intro; refine ⟨fun w1 hC => ?_, hK _ ?_⟩; (focus ((first | (go_at_call 69; with_reducible exact callC HIN.out HOUT.out HK.out HC1.out w1 hC) | (go_at_call 62; with_reducible exact callC' HIN.out HOUT.out HK.out HC2.out w1 hC) | (exact rfl) | (obtain ⟨hb1, ⟨p0, p1, ph, p3⟩, ⟨q0, q1, qh, q3⟩⟩ := HOUT.out w1 hC; clear hC; go_simp; first | done | exact rfl)); done)); clear hK K))
              refine wpQuiet_nil ?_
              intro wn hC
              have HO := hide3 (HOUT.out _ hC)
              clear hC HIN HOUT C
              obtain ⟨hb1, ⟨p0, p1, ph, p3⟩, ⟨q0, q1, qh, q3⟩⟩ := HO.out
              go_wp2
              go_ret
              exact ⟨ret_bool HR.out.symm, HO.out.1⟩
            · have hl1 : ((ln : Int) == 0) = false := by rw [beq_eq_false_iff_ne]; omega
              have HC4 := hide3 (HC3.out (by first | rfl | trivial))
              cases b3
              · have HR : Hid (mayD L = false) := by unfold Hid; rw [HMD.out, HST.out, HFO.out]; simp
                clear HST HFO HRB HQN HSZ HC3
                go_wp2_with fail
                refine wp_region_keep HK.out (by kernel_rfl) (by kernel_rfl) (by first | exact HO.out | exact HK.out.drew HO.out) ?_
                intro C hin hout
                have HIN := hide3 hin
                have HOUT := hide3 hout
                clear hin hout HO
                repeat
                  (with_reducible refine wpQuiet_step (fun K hK => ?_)
                   go_simp
                   first
                     | (refine hK _ ?_; clear hK K)
                     | (apply Exists.intro; refine ⟨fun w1 hC => ?_, hK _ ?_⟩; (focus ((first | (go_at_call 69; with_reducible exact callC HIN.out HOUT.out HK.out HC1.out w1 hC) | (go_at_call 62; with_reducible exact callC' HIN.out HOUT.out HK.out HC2.out w1 hC) | (go_at_call 58; with_reducible exact callC HIN.out HOUT.out HK.out HC4.out w1 hC) | (exact rfl) | (obtain ⟨hb1, ⟨p0, p1, ph, p3⟩, ⟨q0, q1, qh, q3⟩⟩ := HOUT.out w1 hC; clear hC; go_simp; first | done | exact rfl)); done)); clear hK K))
                refine wpQuiet_nil ?_
                intro wn hC
                have HO := hide3 (HOUT.out _ hC)
                clear hC HIN HOUT C
                obtain ⟨hb1, ⟨p0, p1, ph, p3⟩, ⟨q0, q1, qh, q3⟩⟩ := HO.out
                go_wp2
                go_ret
                exact ⟨ret_bool HR.out.symm, HO.out.1⟩
              · have HR : Hid (riseD none L = riseD (lastN (L.take (k + 1))) (L.drop (k + 1))) := by unfold Hid; rw [HST.out, HFO.out, HRB.out]; simp; omega
                clear HST HFO HRB HSZ HC3
                go_wp2_with fail
                refine wp_region_keep HK.out (by kernel_rfl) (by kernel_rfl) (by first | exact HO.out | exact HK.out.drew HO.out) ?_
                intro C hin hout
                have HIN := hide3 hin
                have HOUT := hide3 hout
                clear hin hout HO
                repeat
                  (with_reducible refine wpQuiet_step (fun K hK => ?_)
                   go_simp
                   first
                     | (refine hK _ ?_; clear hK K)
                     | (apply Exists.intro; refine ⟨fun w1 hC => ?_, hK _ ?_⟩; (focus ((first | (go_at_call 69; with_reducible exact callC HIN.out HOUT.out HK.out HC1.out w1 hC) | (go_at_call 62; with_reducible exact callC' HIN.out HOUT.out HK.out HC2.out w1 hC) | (go_at_call 58; with_reducible exact callC HIN.out HOUT.out HK.out HC4.out w1 hC) | (exact rfl) | (obtain ⟨hb1, ⟨p0, p1, ph, p3⟩, ⟨q0, q1, qh, q3⟩⟩ := HOUT.out w1 hC; clear hC; go_simp; first | done | exact rfl)); done)); clear hK K))
                refine wpQuiet_nil ?_
                intro wn hC
                have HO := hide3 (HOUT.out _ hC)
                clear hC HIN HOUT C
                obtain ⟨hb1, ⟨p0, p1, ph, p3⟩, ⟨q0, q1, qh, q3⟩⟩ := HO.out
                go_wp2
                exact ⟨⟨k + 1, by omega, by go_num, HO.out.1, HR.out, HQN.out (by first | rfl | trivial)⟩, by simp [intOf]; omega⟩
    · have hke : k = L.length := by omega
      subst hke
      by_cases h16 : L.length ≤ 16
      · have HR : Hid (mayD L = true) := by unfold Hid; rw [HMD.out, HALL.out, List.drop_length, decide_eq_true h16]; rfl
        have hle : decide ((L.length : Int) ≤ 16) = true := decide_eq_true (by omega)
        clear hb
        go_wp2
        go_ret
        exact ⟨ret_bool HR.out.symm, HB.out⟩
      · have HR : Hid (mayD L = false) := by unfold Hid; rw [HMD.out, decide_eq_false h16]; rfl
        have hle : decide ((L.length : Int) ≤ 16) = false := decide_eq_false (by omega)
        clear hb
        go_wp2
        go_ret
        exact ⟨ret_bool HR.out.symm, HB.out⟩

theorem rList_nil (ad : Option Addr) (cap : Nat) (w : World) :
    Calls Tryz.prog 70 #[.slice ad 0 cap] w fun e w' => e = .returned (.bool true) ∧ Below w.heap.size w w' := by
  go_enter Tryz.func70, Tryz.ntmps70
  go_wp2_with fail
  go_loop [3] (fun i => i = .int .i64 0) (fun _ => 0)
  case atStart => rfl
  case round =>
    subst hrel
    go_wp2
    go_ret
    exact ⟨rfl, Below.refl _ _⟩

theorem rList_any {v : Value} {L : List Dp} {w : World} (h : DepsAt w v L) (hz : L.length ≤ 9223372036854775807) (hnm : ∀ d ∈ L, d.nm.size ≤ 9223372036854775807) :
    Calls Tryz.prog 70 #[v] w fun e w' => e = .returned (.bool (mayD L)) ∧ Below w.heap.size w w' := by
  obtain ⟨ad, cap, rfl, hc, hs⟩ := h
  rcases hs with rfl | ⟨g, o, rfl, hg, hs⟩
  · exact rList_nil _ _ w
  · exact rList_walk L hz g o cap w hs hnm
end Go.Proofs.YtjpmlagofcgheaaGreatDoor
