/- The document's rank, May, has and In of ranges. -/
import Derived.Test.YtkmgfemhfibikaaGreatDoorKn2
namespace Go.Proofs.YtkmgfemhfibikaaGreatDoor
open Go.RowKit
set_option maxRecDepth 100000

theorem rrank_any (a b c : Int) (w : World) :
    Calls Tryz.prog 47 #[.agg #[.int .i64 a, .int .i64 b, .int .i64 c]] w fun e w' => e = .returned (.int .i64 (rankV a b c)) ∧ Below w.heap.size w w' := by
  have HR : Hid (∀ w1, Calls Tryz.prog 70 #[.agg #[.int .i64 a, .int .i64 b, .int .i64 c]] w1 fun e w' => e = .returned (.tuple #[.int .i64 (rankV a b c), .bool (mayV a b c)]) ∧ Below w1.heap.size w1 w') := rRank_any a b c
  go_enter Tryz.func47, Tryz.ntmps47
  go_wp2_with (go_at_call 70; refine (HR.out _).mono ?_; rintro e w1 ⟨rfl, hb⟩)
  go_ret
  exact ⟨rfl, below_then (boxB _ _) hb⟩

theorem rank_small (a b c : Int) : 0 ≤ rankV a b c ∧ rankV a b c < 1000000000 := by
  cases h : mayV a b c
  · have : rankV a b c = 0 := by unfold rankV; rw [h]; rfl
    omega
  · exact rank_low h

/-- What the document's May asks of the span at a place, if those ahead are right. -/
theorem okAt_first {L : List Sp} {s : Sp} (h : L[0]? = some s) : okAt L 0 = (mayV s.a s.b s.c && mayV s.x s.y s.z && decide (rankV s.a s.b s.c ≤ rankV s.x s.y s.z)) := by
  unfold okAt
  rw [h]
  simp only [Bool.and_true]
  rw [Bool.eq_iff_iff, maySp_true, Bool.and_eq_true, Bool.and_eq_true, decide_eq_true_eq]
  constructor
  · rintro ⟨h1, h2, h3⟩; exact ⟨⟨h1, h2⟩, (cmp_lek h1 h2).1 h3⟩
  · rintro ⟨⟨h1, h2⟩, h3⟩; exact ⟨h1, h2, (cmp_lek h1 h2).2 h3⟩
theorem okAt_next {L : List Sp} {j : Nat} {s p : Sp} (h : L[j + 1]? = some s) (hp : L[j]? = some p) (hok : okAt L j = true) :
    okAt L (j + 1) = ((mayV s.a s.b s.c && mayV s.x s.y s.z && decide (rankV s.a s.b s.c ≤ rankV s.x s.y s.z)) && decide (rankV p.x p.y p.z + 1 < rankV s.a s.b s.c)) := by
  have hpm : mayV p.x p.y p.z = true := by
    unfold okAt at hok
    rw [hp] at hok
    simp only [Bool.and_eq_true] at hok
    exact (maySp_true.1 hok.1).2.1
  unfold okAt
  rw [h]
  simp only
  rw [hp]
  simp only
  rw [Bool.eq_iff_iff, Bool.and_eq_true, maySp_true, Bool.and_eq_true, Bool.and_eq_true, Bool.and_eq_true, decide_eq_true_eq, decide_eq_true_eq]
  constructor
  · rintro ⟨⟨h1, h2, h3⟩, h4⟩
    have := (apart_rk hpm h1).1 h4
    exact ⟨⟨⟨h1, h2⟩, (cmp_lek h1 h2).1 h3⟩, by omega⟩
  · rintro ⟨⟨⟨h1, h2⟩, h3⟩, h4⟩
    exact ⟨⟨h1, h2, (cmp_lek h1 h2).2 h3⟩, (apart_rk hpm h1).2 (by omega)⟩

set_option maxHeartbeats 6400000 in
theorem rMay_walk (L : List Sp) (g o cap : Nat) (w : World) (hlen : L.length ≤ 64) (hg : g < w.heap.size) (hl : ∀ i (h : i < L.length), SpAt w g (o + i * 6) L[i]) :
    Calls Tryz.prog 33 #[.slice (some ⟨g, o, none⟩) L.length cap] w fun e w' => e = .returned (.bool (mayL L)) ∧ Below w.heap.size w w' := by
  have HL : Hid (∀ w1, Below w.heap.size w w1 → ∀ i (h : i < L.length), SpIn w1 g (o + i * 6) L[i]) := fun w1 hb i hi => ⟨(hl i hi).below hb hg, Nat.lt_of_lt_of_le hg hb.size⟩
  clear hl
  have HT : Hid (mayL L = (List.range L.length).all (okAt L)) := by unfold Hid mayL; simp [hlen]
  have h64 : decide ((64 : Int) < (L.length : Int)) = false := decide_eq_false (by omega)
  go_enter Tryz.func33, Tryz.ntmps33
  go_wp2_with fail
  go_loopw [3] (fun i wr => ∃ k : Nat, k ≤ L.length ∧ i = .int .i64 k ∧ Below w.heap.size w wr ∧ ∀ j, j < k → okAt L j = true) (fun i _ => L.length - (intOf i).toNat)
  case atStart => exact ⟨0, Nat.zero_le _, rfl, Below.refl _ _, fun j hj => by omega⟩
  case round =>
    obtain ⟨k, hk, rfl, hb, hok⟩ := hrel
    have HOK := hide3 hok
    clear hok
    by_cases hlt : k < L.length
    · have HO : Hid (Below w.heap.size w wr ∧ SpIn wr g (o + k * 6) L[k]) := ⟨hb, HL.out wr hb k hlt⟩
      have HK : Hid (KeepP fun w1 => Below w.heap.size w w1 ∧ SpIn w1 g (o + k * 6) L[k]) := (keepBelow w).and (keepSp _ _ _)
      have HS : Hid (L[k]? = some L[k]) := List.getElem?_eq_getElem hlt
      generalize L[k] = s at *
      obtain ⟨a, b, c, x, y, z⟩ := s
      have HM1 : Hid (∀ w1, Calls Tryz.prog 54 #[.agg #[.int .i64 a, .int .i64 b, .int .i64 c]] w1 fun e w' => e = .returned (.bool (mayV a b c)) ∧ Below w1.heap.size w1 w') := rMay_any a b c
      have HM2 : Hid (∀ w1, Calls Tryz.prog 54 #[.agg #[.int .i64 x, .int .i64 y, .int .i64 z]] w1 fun e w' => e = .returned (.bool (mayV x y z)) ∧ Below w1.heap.size w1 w') := rMay_any x y z
      have HR1 : Hid (∀ w1, Calls Tryz.prog 47 #[.agg #[.int .i64 a, .int .i64 b, .int .i64 c]] w1 fun e w' => e = .returned (.int .i64 (rankV a b c)) ∧ Below w1.heap.size w1 w') := rrank_any a b c
      have HR2 : Hid (∀ w1, Calls Tryz.prog 47 #[.agg #[.int .i64 x, .int .i64 y, .int .i64 z]] w1 fun e w' => e = .returned (.int .i64 (rankV x y z)) ∧ Below w1.heap.size w1 w') := rrank_any x y z
      have HOKs : Hid (∀ v : Bool, (okAt L k = true → v = true) → (mayV a b c && mayV x y z && decide (rankV a b c ≤ rankV x y z)) = false → mayL L = false) := fun v _ hf => may_no HT.out hlt (by
        cases k with
        | zero => rw [okAt_first HS.out]; exact hf
        | succ j => rw [okAt_next HS.out (List.getElem?_eq_getElem (by omega)) (HOK.out j (by omega))]; simp only; rw [hf]; rfl)
      clear hb
      cases m1 : mayV a b c
      · have HF : Hid (mayL L = false) := HOKs.out true (fun _ => rfl) (by rw [m1]; rfl)
        rw [m1] at HM1
        clear HOKs
        go_wp2_with fail
        refine wp_region_keep HK.out (by kernel_rfl) (by kernel_rfl) (by first | exact HO.out | exact HK.out.drew HO.out) ?_
        intro C hin hout
        have HIN := hide3 hin
        have HOUT := hide3 hout
        clear hin hout HO
        repeat
          (with_reducible refine wpQuiet_step (fun K hK => ?_)
           go_simp
           first
             | (refine hK _ ?_; clear hK K)
             | (apply Exists.intro; refine ⟨fun w1 hC => ?_, hK _ ?_⟩; (focus ((first | (go_at_call 54; with_reducible exact callC HIN.out HOUT.out HK.out HM1.out w1 hC) | (exact rfl) | (obtain ⟨hb1, ⟨p0, p1, p2, p3, p4, p5⟩, p6⟩ := HOUT.out w1 hC; clear hC; go_simp; first | done | exact rfl)); done)); clear hK K))
        refine wpQuiet_nil ?_
        intro wn hC
        have HO := hide3 (HOUT.out _ hC)
        clear hC HIN HOUT C
        obtain ⟨hb1, ⟨p0, p1, p2, p3, p4, p5⟩, p6⟩ := HO.out
        go_wp2
        go_ret
        exact ⟨ret_bool HF.out.symm, HO.out.1⟩
      rw [m1] at HM1
      cases m2 : mayV x y z
      · have HF : Hid (mayL L = false) := HOKs.out true (fun _ => rfl) (by rw [m1, m2]; rfl)
        rw [m2] at HM2
        clear HOKs
        go_wp2_with fail
        refine wp_region_keep HK.out (by kernel_rfl) (by kernel_rfl) (by first | exact HO.out | exact HK.out.drew HO.out) ?_
        intro C hin hout
        have HIN := hide3 hin
        have HOUT := hide3 hout
        clear hin hout HO
        repeat
          (with_reducible refine wpQuiet_step (fun K hK => ?_)
           go_simp
           first
             | (refine hK _ ?_; clear hK K)
             | (apply Exists.intro; refine ⟨fun w1 hC => ?_, hK _ ?_⟩; (focus ((first | (go_at_call 54; with_reducible exact callC HIN.out HOUT.out HK.out HM1.out w1 hC) | (go_at_call 54; with_reducible exact callC HIN.out HOUT.out HK.out HM2.out w1 hC) | (exact rfl) | (obtain ⟨hb1, ⟨p0, p1, p2, p3, p4, p5⟩, p6⟩ := HOUT.out w1 hC; clear hC; go_simp; first | done | exact rfl)); done)); clear hK K))
        refine wpQuiet_nil ?_
        intro wn hC
        have HO := hide3 (HOUT.out _ hC)
        clear hC HIN HOUT C
        obtain ⟨hb1, ⟨p0, p1, p2, p3, p4, p5⟩, p6⟩ := HO.out
        go_wp2
        go_ret
        exact ⟨ret_bool HF.out.symm, HO.out.1⟩
      rw [m2] at HM2
      by_cases hr : rankV x y z < rankV a b c
      · have HF : Hid (mayL L = false) := HOKs.out true (fun _ => rfl) (by rw [m1, m2, decide_eq_false (by omega)]; rfl)
        clear HOKs
        generalize rankV a b c = r1 at *
        generalize rankV x y z = r2 at *
        go_wp2_with fail
        refine wp_region_keep HK.out (by kernel_rfl) (by kernel_rfl) (by first | exact HO.out | exact HK.out.drew HO.out) ?_
        intro C hin hout
        have HIN := hide3 hin
        have HOUT := hide3 hout
        clear hin hout HO
        repeat
          (with_reducible refine wpQuiet_step (fun K hK => ?_)
           go_simp
           first
             | (refine hK _ ?_; clear hK K)
             | (apply Exists.intro; refine ⟨fun w1 hC => ?_, hK _ ?_⟩; (focus ((first | (go_at_call 54; with_reducible exact callC HIN.out HOUT.out HK.out HM1.out w1 hC) | (go_at_call 54; with_reducible exact callC HIN.out HOUT.out HK.out HM2.out w1 hC) | (go_at_call 47; with_reducible exact callC HIN.out HOUT.out HK.out HR1.out w1 hC) | (go_at_call 47; with_reducible exact callC HIN.out HOUT.out HK.out HR2.out w1 hC) | (exact rfl) | (obtain ⟨hb1, ⟨p0, p1, p2, p3, p4, p5⟩, p6⟩ := HOUT.out w1 hC; clear hC; go_simp; first | done | exact rfl)); done)); clear hK K))
        refine wpQuiet_nil ?_
        intro wn hC
        have HO := hide3 (HOUT.out _ hC)
        clear hC HIN HOUT C
        obtain ⟨hb1, ⟨p0, p1, p2, p3, p4, p5⟩, p6⟩ := HO.out
        go_wp2
        go_ret
        exact ⟨ret_bool HF.out.symm, HO.out.1⟩
      · rcases Nat.eq_zero_or_pos k with h0 | h0
        · have HF : Hid (okAt L k = true) := by unfold Hid; subst h0; rw [okAt_first HS.out]; simp only; rw [m1, m2, decide_eq_true (by omega)]; rfl
          have H0 := hide3 h0
          have hk0 : decide ((0 : Int) < (k : Int)) = false := decide_eq_false (by omega)
          have hk1 : decide (0 < k) = false := decide_eq_false (by omega)
          clear HOKs h0
          generalize rankV a b c = r1 at *
          generalize rankV x y z = r2 at *
          go_wp2_with fail
          refine wp_region_keep HK.out (by kernel_rfl) (by kernel_rfl) (by first | exact HO.out | exact HK.out.drew HO.out) ?_
          intro C hin hout
          have HIN := hide3 hin
          have HOUT := hide3 hout
          clear hin hout HO
          repeat
            (with_reducible refine wpQuiet_step (fun K hK => ?_)
             go_simp
             first
               | (refine hK _ ?_; clear hK K)
               | (apply Exists.intro; refine ⟨fun w1 hC => ?_, hK _ ?_⟩; (focus ((first | (go_at_call 54; with_reducible exact callC HIN.out HOUT.out HK.out HM1.out w1 hC) | (go_at_call 54; with_reducible exact callC HIN.out HOUT.out HK.out HM2.out w1 hC) | (go_at_call 47; with_reducible exact callC HIN.out HOUT.out HK.out HR1.out w1 hC) | (go_at_call 47; with_reducible exact callC HIN.out HOUT.out HK.out HR2.out w1 hC) | (exact rfl) | (obtain ⟨hb1, ⟨p0, p1, p2, p3, p4, p5⟩, p6⟩ := HOUT.out w1 hC; clear hC; go_simp; first | done | exact rfl)); done)); clear hK K))
          refine wpQuiet_nil ?_
          intro wn hC
          have HO := hide3 (HOUT.out _ hC)
          clear hC HIN HOUT C
          obtain ⟨hb1, ⟨p0, p1, p2, p3, p4, p5⟩, p6⟩ := HO.out
          go_wp2_with fail
          clear hb1 p0 p1 p2 p3 p4 p5 p6
          refine wp_region_keep HK.out (by kernel_rfl) (by kernel_rfl) (by first | exact HO.out | exact HK.out.drew HO.out) ?_
          intro C hin hout
          have HIN := hide3 hin
          have HOUT := hide3 hout
          clear hin hout HO
          repeat
            (with_reducible refine wpQuiet_step (fun K hK => ?_)
             go_simp
             first
               | (refine hK _ ?_; clear hK K)
               | (apply Exists.intro; refine ⟨fun w1 hC => ?_, hK _ ?_⟩; (focus ((first | (exact rfl) | (obtain ⟨hb1, ⟨p0, p1, p2, p3, p4, p5⟩, p6⟩ := HOUT.out w1 hC; clear hC; go_simp; first | done | exact rfl)); done)); clear hK K))
          refine wpQuiet_nil ?_
          intro wm hC
          have HO := hide3 (HOUT.out _ hC)
          clear hC HIN HOUT C
          obtain ⟨hb1, ⟨p0, p1, p2, p3, p4, p5⟩, p6⟩ := HO.out
          go_wp2
          exact ⟨⟨k + 1, by omega, by go_num, HO.out.1, fun j hj => by rw [show j = k by have := H0.out; omega]; exact HF.out⟩, by simp [intOf]; omega⟩
        · obtain ⟨j, hj⟩ : ∃ j, k = j + 1 := ⟨k - 1, by omega⟩
          have hjl : j < L.length := by omega
          have HJ := hide3 hj
          have HPP : Hid (L[j]? = some L[j]) := List.getElem?_eq_getElem hjl
          have HO2 : Hid ((Below w.heap.size w wr ∧ SpIn wr g (o + k * 6) ⟨a, b, c, x, y, z⟩) ∧ SpIn wr g (o + j * 6) L[j]) := ⟨HO.out, HL.out wr HO.out.1 j hjl⟩
          have HK2 : Hid (KeepP fun w1 => (Below w.heap.size w w1 ∧ SpIn w1 g (o + k * 6) ⟨a, b, c, x, y, z⟩) ∧ SpIn w1 g (o + j * 6) L[j]) := HK.out.and (keepSp _ _ _)
          have HN : Hid (okAt L k = ((mayV a b c && mayV x y z && decide (rankV a b c ≤ rankV x y z)) && decide (rankV L[j].x L[j].y L[j].z + 1 < rankV a b c))) := by
            subst hj
            exact okAt_next HS.out HPP.out (HOK.out j (by omega))
          clear HO HK
          have HO := HO2
          have HK := HK2
          clear HO2 HK2
          generalize L[j] = p at *
          obtain ⟨p, q, r, u, v, t⟩ := p
          have HR3 : Hid (∀ w1, Calls Tryz.prog 47 #[.agg #[.int .i64 u, .int .i64 v, .int .i64 t]] w1 fun e w' => e = .returned (.int .i64 (rankV u v t)) ∧ Below w1.heap.size w1 w') := rrank_any u v t
          have hk0 : decide ((0 : Int) < (k : Int)) = true := decide_eq_true (by omega)
          have hk1 : decide (0 < k) = true := decide_eq_true (by omega)
          have hkj : (k : Int) - 1 = (j : Int) := by omega
          have hj2 : (j : Int) < (L.length : Int) := by omega
          have hwj : IntKind.i64.wrap (j : Int) = (j : Int) := wrap_small (by omega) (by omega)
          have hsm := rank_small u v t
          have hwr : IntKind.i64.wrap (rankV u v t + 1) = rankV u v t + 1 := wrap_small (by omega) (by omega)
          clear hj h0 hsm
          by_cases hp : rankV a b c ≤ rankV u v t + 1
          · have HF : Hid (mayL L = false) := may_no HT.out hlt (by rw [HN.out]; rw [decide_eq_false (p := rankV u v t + 1 < rankV a b c) (by omega), Bool.and_false])
            clear HOKs HN
            generalize rankV a b c = r1 at *
            generalize rankV x y z = r2 at *
            generalize rankV u v t = r3 at *
            go_wp2_with fail
            refine wp_region_keep HK.out (by kernel_rfl) (by kernel_rfl) (by first | exact HO.out | exact HK.out.drew HO.out) ?_
            intro C hin hout
            have HIN := hide3 hin
            have HOUT := hide3 hout
            clear hin hout HO
            repeat
              (with_reducible refine wpQuiet_step (fun K hK => ?_)
               go_simp
               first
                 | (refine hK _ ?_; clear hK K)
                 | (apply Exists.intro; refine ⟨fun w1 hC => ?_, hK _ ?_⟩; (focus ((first | (go_at_call 54; with_reducible exact callC HIN.out HOUT.out HK.out HM1.out w1 hC) | (go_at_call 54; with_reducible exact callC HIN.out HOUT.out HK.out HM2.out w1 hC) | (go_at_call 47; with_reducible exact callC HIN.out HOUT.out HK.out HR1.out w1 hC) | (go_at_call 47; with_reducible exact callC HIN.out HOUT.out HK.out HR2.out w1 hC) | (exact rfl) | (obtain ⟨⟨hb1, ⟨p0, p1, p2, p3, p4, p5⟩, p6⟩, ⟨q0, q1, q2, q3, q4, q5⟩, q6⟩ := HOUT.out w1 hC; clear hC; go_simp; first | done | exact rfl)); done)); clear hK K))
            refine wpQuiet_nil ?_
            intro wn hC
            have HO := hide3 (HOUT.out _ hC)
            clear hC HIN HOUT C
            obtain ⟨⟨hb1, ⟨p0, p1, p2, p3, p4, p5⟩, p6⟩, ⟨q0, q1, q2, q3, q4, q5⟩, q6⟩ := HO.out
            go_wp2_with fail
            clear hb1 p0 p1 p2 p3 p4 p5 p6 q0 q1 q2 q3 q4 q5 q6
            refine wp_region_keep HK.out (by kernel_rfl) (by kernel_rfl) (by first | exact HO.out | exact HK.out.drew HO.out) ?_
            intro C hin hout
            have HIN := hide3 hin
            have HOUT := hide3 hout
            clear hin hout HO
            repeat
              (with_reducible refine wpQuiet_step (fun K hK => ?_)
               go_simp
               first
                 | (refine hK _ ?_; clear hK K)
                 | (apply Exists.intro; refine ⟨fun w1 hC => ?_, hK _ ?_⟩; (focus ((first | (go_at_call 47; with_reducible exact callC HIN.out HOUT.out HK.out HR1.out w1 hC) | (go_at_call 47; with_reducible exact callC HIN.out HOUT.out HK.out HR3.out w1 hC) | (exact rfl) | (obtain ⟨⟨hb1, ⟨p0, p1, p2, p3, p4, p5⟩, p6⟩, ⟨q0, q1, q2, q3, q4, q5⟩, q6⟩ := HOUT.out w1 hC; clear hC; go_simp; first | done | exact rfl)); done)); clear hK K))
            refine wpQuiet_nil ?_
            intro wm hC
            have HO := hide3 (HOUT.out _ hC)
            clear hC HIN HOUT C
            obtain ⟨⟨hb1, ⟨p0, p1, p2, p3, p4, p5⟩, p6⟩, ⟨q0, q1, q2, q3, q4, q5⟩, q6⟩ := HO.out
            go_wp2
            go_ret
            exact ⟨ret_bool HF.out.symm, HO.out.1.1⟩
          · have HF : Hid (okAt L k = true) := by unfold Hid; rw [HN.out]; rw [m1, m2, decide_eq_true (p := rankV u v t + 1 < rankV a b c) (by omega), decide_eq_true (p := rankV a b c ≤ rankV x y z) (by omega)]; rfl
            clear HOKs HN
            generalize rankV a b c = r1 at *
            generalize rankV x y z = r2 at *
            generalize rankV u v t = r3 at *
            go_wp2_with fail
            refine wp_region_keep HK.out (by kernel_rfl) (by kernel_rfl) (by first | exact HO.out | exact HK.out.drew HO.out) ?_
            intro C hin hout
            have HIN := hide3 hin
            have HOUT := hide3 hout
            clear hin hout HO
            repeat
              (with_reducible refine wpQuiet_step (fun K hK => ?_)
               go_simp
               first
                 | (refine hK _ ?_; clear hK K)
                 | (apply Exists.intro; refine ⟨fun w1 hC => ?_, hK _ ?_⟩; (focus ((first | (go_at_call 54; with_reducible exact callC HIN.out HOUT.out HK.out HM1.out w1 hC) | (go_at_call 54; with_reducible exact callC HIN.out HOUT.out HK.out HM2.out w1 hC) | (go_at_call 47; with_reducible exact callC HIN.out HOUT.out HK.out HR1.out w1 hC) | (go_at_call 47; with_reducible exact callC HIN.out HOUT.out HK.out HR2.out w1 hC) | (exact rfl) | (obtain ⟨⟨hb1, ⟨p0, p1, p2, p3, p4, p5⟩, p6⟩, ⟨q0, q1, q2, q3, q4, q5⟩, q6⟩ := HOUT.out w1 hC; clear hC; go_simp; first | done | exact rfl)); done)); clear hK K))
            refine wpQuiet_nil ?_
            intro wn hC
            have HO := hide3 (HOUT.out _ hC)
            clear hC HIN HOUT C
            obtain ⟨⟨hb1, ⟨p0, p1, p2, p3, p4, p5⟩, p6⟩, ⟨q0, q1, q2, q3, q4, q5⟩, q6⟩ := HO.out
            go_wp2_with fail
            clear hb1 p0 p1 p2 p3 p4 p5 p6 q0 q1 q2 q3 q4 q5 q6
            refine wp_region_keep HK.out (by kernel_rfl) (by kernel_rfl) (by first | exact HO.out | exact HK.out.drew HO.out) ?_
            intro C hin hout
            have HIN := hide3 hin
            have HOUT := hide3 hout
            clear hin hout HO
            repeat
              (with_reducible refine wpQuiet_step (fun K hK => ?_)
               go_simp
               first
                 | (refine hK _ ?_; clear hK K)
                 | (apply Exists.intro; refine ⟨fun w1 hC => ?_, hK _ ?_⟩; (focus ((first | (go_at_call 47; with_reducible exact callC HIN.out HOUT.out HK.out HR1.out w1 hC) | (go_at_call 47; with_reducible exact callC HIN.out HOUT.out HK.out HR3.out w1 hC) | (exact rfl) | (obtain ⟨⟨hb1, ⟨p0, p1, p2, p3, p4, p5⟩, p6⟩, ⟨q0, q1, q2, q3, q4, q5⟩, q6⟩ := HOUT.out w1 hC; clear hC; go_simp; first | done | exact rfl)); done)); clear hK K))
            refine wpQuiet_nil ?_
            intro wm hC
            have HO := hide3 (HOUT.out _ hC)
            clear hC HIN HOUT C
            obtain ⟨⟨hb1, ⟨p0, p1, p2, p3, p4, p5⟩, p6⟩, ⟨q0, q1, q2, q3, q4, q5⟩, q6⟩ := HO.out
            go_wp2
            refine ⟨⟨k + 1, by omega, by go_num, HO.out.1.1, fun i hi => ?_⟩, by simp [intOf]; omega⟩
            rcases Nat.lt_or_ge i k with h | h
            · exact HOK.out i h
            · rw [show i = k by omega]; exact HF.out
    · have hke : k = L.length := by omega
      subst hke
      have HF : Hid (mayL L = true) := may_yes HT.out HOK.out
      have HB := hide3 hb
      clear hb
      go_wp2
      go_ret
      exact ⟨ret_bool HF.out.symm, HB.out⟩
end Go.Proofs.YtkmgfemhfibikaaGreatDoor
