/- Rf1, Rf2, Texts1, Wr1, Wr2, Wr3, laid in one text. -/
import Derived.Test.YtipibibhkmhihaaGreatDoorKn2
import Derived.Test.YtipibibhkmhihaaGreatDoorTx6
import Derived.Test.YtipibibhkmhihaaGreatDoorPr2
import Derived.Test.YtipibibhkmhihaaGreatDoorSh1
namespace Go.Proofs.YtipibibhkmhihaaGreatDoor
open Go.RowKit
set_option maxRecDepth 100000

theorem rrank_any (a b c : Int) (w : World) :
    Calls Tryz.prog 40 #[.agg #[.int .i64 a, .int .i64 b, .int .i64 c]] w fun e w' => e = .returned (.int .i64 (rankV a b c)) ∧ Below w.heap.size w w' := by
  have HR : Hid (∀ w1, Calls Tryz.prog 63 #[.agg #[.int .i64 a, .int .i64 b, .int .i64 c]] w1 fun e w' => e = .returned (.tuple #[.int .i64 (rankV a b c), .bool (mayV a b c)]) ∧ Below w1.heap.size w1 w') := rRank_any a b c
  go_enter Tryz.func40, Tryz.ntmps40
  go_wp2_with (go_at_call 63; refine (HR.out _).mono ?_; rintro e w1 ⟨rfl, hb⟩)
  go_ret
  exact ⟨rfl, below_then (boxB _ _) hb⟩

theorem rank_small (a b c : Int) : 0 ≤ rankV a b c ∧ rankV a b c < 1000000000 := by
  cases h : mayV a b c
  · have : rankV a b c = 0 := by unfold rankV; rw [h]; rfl
    omega
  · exact rank_low h

/-- What the document's May asks of the span at a place, if those ahead are right. -/
theorem okAt_first {L : List Sp} {s : Sp} (h : L[0]? = some s) : okAt L 0 = (mayV s.a s.b s.c && mayV s.x s.y s.z && decide (rankV s.a s.b s.c ≤ rankV s.x s.y s.z)) := by
  unfold okAt
  rw [h]
  simp only [Bool.and_true]
  rw [Bool.eq_iff_iff, maySp_true, Bool.and_eq_true, Bool.and_eq_true, decide_eq_true_eq]
  constructor
  · rintro ⟨h1, h2, h3⟩; exact ⟨⟨h1, h2⟩, (cmp_lek h1 h2).1 h3⟩
  · rintro ⟨⟨h1, h2⟩, h3⟩; exact ⟨h1, h2, (cmp_lek h1 h2).2 h3⟩
theorem okAt_next {L : List Sp} {j : Nat} {s p : Sp} (h : L[j + 1]? = some s) (hp : L[j]? = some p) (hok : okAt L j = true) :
    okAt L (j + 1) = ((mayV s.a s.b s.c && mayV s.x s.y s.z && decide (rankV s.a s.b s.c ≤ rankV s.x s.y s.z)) && decide (rankV p.x p.y p.z + 1 < rankV s.a s.b s.c)) := by
  have hpm : mayV p.x p.y p.z = true := by
    unfold okAt at hok
    rw [hp] at hok
    simp only [Bool.and_eq_true] at hok
    exact (maySp_true.1 hok.1).2.1
  unfold okAt
  rw [h]
  simp only
  rw [hp]
  simp only
  rw [Bool.eq_iff_iff, Bool.and_eq_true, maySp_true, Bool.and_eq_true, Bool.and_eq_true, Bool.and_eq_true, decide_eq_true_eq, decide_eq_true_eq]
  constructor
  · rintro ⟨⟨h1, h2, h3⟩, h4⟩
    have := (apart_rk hpm h1).1 h4
    exact ⟨⟨⟨h1, h2⟩, (cmp_lek h1 h2).1 h3⟩, by omega⟩
  · rintro ⟨⟨⟨h1, h2⟩, h3⟩, h4⟩
    exact ⟨⟨h1, h2, (cmp_lek h1 h2).2 h3⟩, (apart_rk hpm h1).2 (by omega)⟩

set_option maxHeartbeats 6400000 in
theorem rMay_walk (L : List Sp) (g o cap : Nat) (w : World) (hlen : L.length ≤ 64) (hg : g < w.heap.size) (hl : ∀ i (h : i < L.length), SpAt w g (o + i * 6) L[i]) :
    Calls Tryz.prog 19 #[.slice (some ⟨g, o, none⟩) L.length cap] w fun e w' => e = .returned (.bool (mayL L)) ∧ Below w.heap.size w w' := by
  have HL : Hid (∀ w1, Below w.heap.size w w1 → ∀ i (h : i < L.length), SpIn w1 g (o + i * 6) L[i]) := fun w1 hb i hi => ⟨(hl i hi).below hb hg, Nat.lt_of_lt_of_le hg hb.size⟩
  clear hl
  have HT : Hid (mayL L = (List.range L.length).all (okAt L)) := by unfold Hid mayL; simp [hlen]
  have h64 : decide ((64 : Int) < (L.length : Int)) = false := decide_eq_false (by omega)
  go_enter Tryz.func19, Tryz.ntmps19
  go_wp2_with fail
  go_loopw [3] (fun i wr => ∃ k : Nat, k ≤ L.length ∧ i = .int .i64 k ∧ Below w.heap.size w wr ∧ ∀ j, j < k → okAt L j = true) (fun i _ => L.length - (intOf i).toNat)
  case atStart => exact ⟨0, Nat.zero_le _, rfl, Below.refl _ _, fun j hj => by omega⟩
  case round =>
    obtain ⟨k, hk, rfl, hb, hok⟩ := hrel
    have HOK := hide3 hok
    clear hok
    by_cases hlt : k < L.length
    · have HO : Hid (Below w.heap.size w wr ∧ SpIn wr g (o + k * 6) L[k]) := ⟨hb, HL.out wr hb k hlt⟩
      have HK : Hid (KeepP fun w1 => Below w.heap.size w w1 ∧ SpIn w1 g (o + k * 6) L[k]) := (keepBelow w).and (keepSp _ _ _)
      have HS : Hid (L[k]? = some L[k]) := List.getElem?_eq_getElem hlt
      generalize L[k] = s at *
      obtain ⟨a, b, c, x, y, z⟩ := s
      have HM1 : Hid (∀ w1, Calls Tryz.prog 41 #[.agg #[.int .i64 a, .int .i64 b, .int .i64 c]] w1 fun e w' => e = .returned (.bool (mayV a b c)) ∧ Below w1.heap.size w1 w') := rMay_any a b c
      have HM2 : Hid (∀ w1, Calls Tryz.prog 41 #[.agg #[.int .i64 x, .int .i64 y, .int .i64 z]] w1 fun e w' => e = .returned (.bool (mayV x y z)) ∧ Below w1.heap.size w1 w') := rMay_any x y z
      have HR1 : Hid (∀ w1, Calls Tryz.prog 40 #[.agg #[.int .i64 a, .int .i64 b, .int .i64 c]] w1 fun e w' => e = .returned (.int .i64 (rankV a b c)) ∧ Below w1.heap.size w1 w') := rrank_any a b c
      have HR2 : Hid (∀ w1, Calls Tryz.prog 40 #[.agg #[.int .i64 x, .int .i64 y, .int .i64 z]] w1 fun e w' => e = .returned (.int .i64 (rankV x y z)) ∧ Below w1.heap.size w1 w') := rrank_any x y z
      have HOKs : Hid (∀ v : Bool, (okAt L k = true → v = true) → (mayV a b c && mayV x y z && decide (rankV a b c ≤ rankV x y z)) = false → mayL L = false) := fun v _ hf => may_no HT.out hlt (by
        cases k with
        | zero => rw [okAt_first HS.out]; exact hf
        | succ j => rw [okAt_next HS.out (List.getElem?_eq_getElem (by omega)) (HOK.out j (by omega))]; simp only; rw [hf]; rfl)
      clear hb
      cases m1 : mayV a b c
      · have HF : Hid (mayL L = false) := HOKs.out true (fun _ => rfl) (by rw [m1]; rfl)
        rw [m1] at HM1
        clear HOKs
        go_wp2_with fail
        refine wp_region_keep HK.out (by kernel_rfl) (by kernel_rfl) (by first | exact HO.out | exact HK.out.drew HO.out) ?_
        intro C hin hout
        have HIN := hide3 hin
        have HOUT := hide3 hout
        clear hin hout HO
        repeat
          (with_reducible refine wpQuiet_step (fun K hK => ?_)
           go_simp
           first
             | (refine hK _ ?_; clear hK K)
             | (apply Exists.intro; refine ⟨fun w1 hC => ?_, hK _ ?_⟩; (focus ((first | (go_at_call 41; with_reducible exact callC HIN.out HOUT.out HK.out HM1.out w1 hC) | (exact rfl) | (obtain ⟨hb1, ⟨p0, p1, p2, p3, p4, p5⟩, p6⟩ := HOUT.out w1 hC; clear hC; go_simp; first | done | exact rfl)); done)); clear hK K))
        refine wpQuiet_nil ?_
        intro wn hC
        have HO := hide3 (HOUT.out _ hC)
        clear hC HIN HOUT C
        obtain ⟨hb1, ⟨p0, p1, p2, p3, p4, p5⟩, p6⟩ := HO.out
        go_wp2
        go_ret
        exact ⟨ret_bool HF.out.symm, HO.out.1⟩
      rw [m1] at HM1
      cases m2 : mayV x y z
      · have HF : Hid (mayL L = false) := HOKs.out true (fun _ => rfl) (by rw [m1, m2]; rfl)
        rw [m2] at HM2
        clear HOKs
        go_wp2_with fail
        refine wp_region_keep HK.out (by kernel_rfl) (by kernel_rfl) (by first | exact HO.out | exact HK.out.drew HO.out) ?_
        intro C hin hout
        have HIN := hide3 hin
        have HOUT := hide3 hout
        clear hin hout HO
        repeat
          (with_reducible refine wpQuiet_step (fun K hK => ?_)
           go_simp
           first
             | (refine hK _ ?_; clear hK K)
             | (apply Exists.intro; refine ⟨fun w1 hC => ?_, hK _ ?_⟩; (focus ((first | (go_at_call 41; with_reducible exact callC HIN.out HOUT.out HK.out HM1.out w1 hC) | (go_at_call 41; with_reducible exact callC HIN.out HOUT.out HK.out HM2.out w1 hC) | (exact rfl) | (obtain ⟨hb1, ⟨p0, p1, p2, p3, p4, p5⟩, p6⟩ := HOUT.out w1 hC; clear hC; go_simp; first | done | exact rfl)); done)); clear hK K))
        refine wpQuiet_nil ?_
        intro wn hC
        have HO := hide3 (HOUT.out _ hC)
        clear hC HIN HOUT C
        obtain ⟨hb1, ⟨p0, p1, p2, p3, p4, p5⟩, p6⟩ := HO.out
        go_wp2
        go_ret
        exact ⟨ret_bool HF.out.symm, HO.out.1⟩
      rw [m2] at HM2
      by_cases hr : rankV x y z < rankV a b c
      · have HF : Hid (mayL L = false) := HOKs.out true (fun _ => rfl) (by rw [m1, m2, decide_eq_false (by omega)]; rfl)
        clear HOKs
        generalize rankV a b c = r1 at *
        generalize rankV x y z = r2 at *
        go_wp2_with fail
        refine wp_region_keep HK.out (by kernel_rfl) (by kernel_rfl) (by first | exact HO.out | exact HK.out.drew HO.out) ?_
        intro C hin hout
        have HIN := hide3 hin
        have HOUT := hide3 hout
        clear hin hout HO
        repeat
          (with_reducible refine wpQuiet_step (fun K hK => ?_)
           go_simp
           first
             | (refine hK _ ?_; clear hK K)
             | (apply Exists.intro; refine ⟨fun w1 hC => ?_, hK _ ?_⟩; (focus ((first | (go_at_call 41; with_reducible exact callC HIN.out HOUT.out HK.out HM1.out w1 hC) | (go_at_call 41; with_reducible exact callC HIN.out HOUT.out HK.out HM2.out w1 hC) | (go_at_call 40; with_reducible exact callC HIN.out HOUT.out HK.out HR1.out w1 hC) | (go_at_call 40; with_reducible exact callC HIN.out HOUT.out HK.out HR2.out w1 hC) | (exact rfl) | (obtain ⟨hb1, ⟨p0, p1, p2, p3, p4, p5⟩, p6⟩ := HOUT.out w1 hC; clear hC; go_simp; first | done | exact rfl)); done)); clear hK K))
        refine wpQuiet_nil ?_
        intro wn hC
        have HO := hide3 (HOUT.out _ hC)
        clear hC HIN HOUT C
        obtain ⟨hb1, ⟨p0, p1, p2, p3, p4, p5⟩, p6⟩ := HO.out
        go_wp2
        go_ret
        exact ⟨ret_bool HF.out.symm, HO.out.1⟩
      · rcases Nat.eq_zero_or_pos k with h0 | h0
        · have HF : Hid (okAt L k = true) := by unfold Hid; subst h0; rw [okAt_first HS.out]; simp only; rw [m1, m2, decide_eq_true (by omega)]; rfl
          have H0 := hide3 h0
          have hk0 : decide ((0 : Int) < (k : Int)) = false := decide_eq_false (by omega)
          have hk1 : decide (0 < k) = false := decide_eq_false (by omega)
          clear HOKs h0
          generalize rankV a b c = r1 at *
          generalize rankV x y z = r2 at *
          go_wp2_with fail
          refine wp_region_keep HK.out (by kernel_rfl) (by kernel_rfl) (by first | exact HO.out | exact HK.out.drew HO.out) ?_
          intro C hin hout
          have HIN := hide3 hin
          have HOUT := hide3 hout
          clear hin hout HO
          repeat
            (with_reducible refine wpQuiet_step (fun K hK => ?_)
             go_simp
             first
               | (refine hK _ ?_; clear hK K)
               | (apply Exists.intro; refine ⟨fun w1 hC => ?_, hK _ ?_⟩; (focus ((first | (go_at_call 41; with_reducible exact callC HIN.out HOUT.out HK.out HM1.out w1 hC) | (go_at_call 41; with_reducible exact callC HIN.out HOUT.out HK.out HM2.out w1 hC) | (go_at_call 40; with_reducible exact callC HIN.out HOUT.out HK.out HR1.out w1 hC) | (go_at_call 40; with_reducible exact callC HIN.out HOUT.out HK.out HR2.out w1 hC) | (exact rfl) | (obtain ⟨hb1, ⟨p0, p1, p2, p3, p4, p5⟩, p6⟩ := HOUT.out w1 hC; clear hC; go_simp; first | done | exact rfl)); done)); clear hK K))
          refine wpQuiet_nil ?_
          intro wn hC
          have HO := hide3 (HOUT.out _ hC)
          clear hC HIN HOUT C
          obtain ⟨hb1, ⟨p0, p1, p2, p3, p4, p5⟩, p6⟩ := HO.out
          go_wp2_with fail
          clear hb1 p0 p1 p2 p3 p4 p5 p6
          refine wp_region_keep HK.out (by kernel_rfl) (by kernel_rfl) (by first | exact HO.out | exact HK.out.drew HO.out) ?_
          intro C hin hout
          have HIN := hide3 hin
          have HOUT := hide3 hout
          clear hin hout HO
          repeat
            (with_reducible refine wpQuiet_step (fun K hK => ?_)
             go_simp
             first
               | (refine hK _ ?_; clear hK K)
               | (apply Exists.intro; refine ⟨fun w1 hC => ?_, hK _ ?_⟩; (focus ((first | (exact rfl) | (obtain ⟨hb1, ⟨p0, p1, p2, p3, p4, p5⟩, p6⟩ := HOUT.out w1 hC; clear hC; go_simp; first | done | exact rfl)); done)); clear hK K))
          refine wpQuiet_nil ?_
          intro wm hC
          have HO := hide3 (HOUT.out _ hC)
          clear hC HIN HOUT C
          obtain ⟨hb1, ⟨p0, p1, p2, p3, p4, p5⟩, p6⟩ := HO.out
          go_wp2
          exact ⟨⟨k + 1, by omega, by go_num, HO.out.1, fun j hj => by rw [show j = k by have := H0.out; omega]; exact HF.out⟩, by simp [intOf]; omega⟩
        · obtain ⟨j, hj⟩ : ∃ j, k = j + 1 := ⟨k - 1, by omega⟩
          have hjl : j < L.length := by omega
          have HJ := hide3 hj
          have HPP : Hid (L[j]? = some L[j]) := List.getElem?_eq_getElem hjl
          have HO2 : Hid ((Below w.heap.size w wr ∧ SpIn wr g (o + k * 6) ⟨a, b, c, x, y, z⟩) ∧ SpIn wr g (o + j * 6) L[j]) := ⟨HO.out, HL.out wr HO.out.1 j hjl⟩
          have HK2 : Hid (KeepP fun w1 => (Below w.heap.size w w1 ∧ SpIn w1 g (o + k * 6) ⟨a, b, c, x, y, z⟩) ∧ SpIn w1 g (o + j * 6) L[j]) := HK.out.and (keepSp _ _ _)
          have HN : Hid (okAt L k = ((mayV a b c && mayV x y z && decide (rankV a b c ≤ rankV x y z)) && decide (rankV L[j].x L[j].y L[j].z + 1 < rankV a b c))) := by
            subst hj
            exact okAt_next HS.out HPP.out (HOK.out j (by omega))
          clear HO HK
          have HO := HO2
          have HK := HK2
          clear HO2 HK2
          generalize L[j] = p at *
          obtain ⟨p, q, r, u, v, t⟩ := p
          have HR3 : Hid (∀ w1, Calls Tryz.prog 40 #[.agg #[.int .i64 u, .int .i64 v, .int .i64 t]] w1 fun e w' => e = .returned (.int .i64 (rankV u v t)) ∧ Below w1.heap.size w1 w') := rrank_any u v t
          have hk0 : decide ((0 : Int) < (k : Int)) = true := decide_eq_true (by omega)
          have hk1 : decide (0 < k) = true := decide_eq_true (by omega)
          have hkj : (k : Int) - 1 = (j : Int) := by omega
          have hj2 : (j : Int) < (L.length : Int) := by omega
          have hwj : IntKind.i64.wrap (j : Int) = (j : Int) := wrap_small (by omega) (by omega)
          have hsm := rank_small u v t
          have hwr : IntKind.i64.wrap (rankV u v t + 1) = rankV u v t + 1 := wrap_small (by omega) (by omega)
          clear hj h0 hsm
          by_cases hp : rankV a b c ≤ rankV u v t + 1
          · have HF : Hid (mayL L = false) := may_no HT.out hlt (by rw [HN.out]; rw [decide_eq_false (p := rankV u v t + 1 < rankV a b c) (by omega), Bool.and_false])
            clear HOKs HN
            generalize rankV a b c = r1 at *
            generalize rankV x y z = r2 at *
            generalize rankV u v t = r3 at *
            go_wp2_with fail
            refine wp_region_keep HK.out (by kernel_rfl) (by kernel_rfl) (by first | exact HO.out | exact HK.out.drew HO.out) ?_
            intro C hin hout
            have HIN := hide3 hin
            have HOUT := hide3 hout
            clear hin hout HO
            repeat
              (with_reducible refine wpQuiet_step (fun K hK => ?_)
               go_simp
               first
                 | (refine hK _ ?_; clear hK K)
                 | (apply Exists.intro; refine ⟨fun w1 hC => ?_, hK _ ?_⟩; (focus ((first | (go_at_call 41; with_reducible exact callC HIN.out HOUT.out HK.out HM1.out w1 hC) | (go_at_call 41; with_reducible exact callC HIN.out HOUT.out HK.out HM2.out w1 hC) | (go_at_call 40; with_reducible exact callC HIN.out HOUT.out HK.out HR1.out w1 hC) | (go_at_call 40; with_reducible exact callC HIN.out HOUT.out HK.out HR2.out w1 hC) | (exact rfl) | (obtain ⟨⟨hb1, ⟨p0, p1, p2, p3, p4, p5⟩, p6⟩, ⟨q0, q1, q2, q3, q4, q5⟩, q6⟩ := HOUT.out w1 hC; clear hC; go_simp; first | done | exact rfl)); done)); clear hK K))
            refine wpQuiet_nil ?_
            intro wn hC
            have HO := hide3 (HOUT.out _ hC)
            clear hC HIN HOUT C
            obtain ⟨⟨hb1, ⟨p0, p1, p2, p3, p4, p5⟩, p6⟩, ⟨q0, q1, q2, q3, q4, q5⟩, q6⟩ := HO.out
            go_wp2_with fail
            clear hb1 p0 p1 p2 p3 p4 p5 p6 q0 q1 q2 q3 q4 q5 q6
            refine wp_region_keep HK.out (by kernel_rfl) (by kernel_rfl) (by first | exact HO.out | exact HK.out.drew HO.out) ?_
            intro C hin hout
            have HIN := hide3 hin
            have HOUT := hide3 hout
            clear hin hout HO
            repeat
              (with_reducible refine wpQuiet_step (fun K hK => ?_)
               go_simp
               first
                 | (refine hK _ ?_; clear hK K)
                 | (apply Exists.intro; refine ⟨fun w1 hC => ?_, hK _ ?_⟩; (focus ((first | (go_at_call 40; with_reducible exact callC HIN.out HOUT.out HK.out HR1.out w1 hC) | (go_at_call 40; with_reducible exact callC HIN.out HOUT.out HK.out HR3.out w1 hC) | (exact rfl) | (obtain ⟨⟨hb1, ⟨p0, p1, p2, p3, p4, p5⟩, p6⟩, ⟨q0, q1, q2, q3, q4, q5⟩, q6⟩ := HOUT.out w1 hC; clear hC; go_simp; first | done | exact rfl)); done)); clear hK K))
            refine wpQuiet_nil ?_
            intro wm hC
            have HO := hide3 (HOUT.out _ hC)
            clear hC HIN HOUT C
            obtain ⟨⟨hb1, ⟨p0, p1, p2, p3, p4, p5⟩, p6⟩, ⟨q0, q1, q2, q3, q4, q5⟩, q6⟩ := HO.out
            go_wp2
            go_ret
            exact ⟨ret_bool HF.out.symm, HO.out.1.1⟩
          · have HF : Hid (okAt L k = true) := by unfold Hid; rw [HN.out]; rw [m1, m2, decide_eq_true (p := rankV u v t + 1 < rankV a b c) (by omega), decide_eq_true (p := rankV a b c ≤ rankV x y z) (by omega)]; rfl
            clear HOKs HN
            generalize rankV a b c = r1 at *
            generalize rankV x y z = r2 at *
            generalize rankV u v t = r3 at *
            go_wp2_with fail
            refine wp_region_keep HK.out (by kernel_rfl) (by kernel_rfl) (by first | exact HO.out | exact HK.out.drew HO.out) ?_
            intro C hin hout
            have HIN := hide3 hin
            have HOUT := hide3 hout
            clear hin hout HO
            repeat
              (with_reducible refine wpQuiet_step (fun K hK => ?_)
               go_simp
               first
                 | (refine hK _ ?_; clear hK K)
                 | (apply Exists.intro; refine ⟨fun w1 hC => ?_, hK _ ?_⟩; (focus ((first | (go_at_call 41; with_reducible exact callC HIN.out HOUT.out HK.out HM1.out w1 hC) | (go_at_call 41; with_reducible exact callC HIN.out HOUT.out HK.out HM2.out w1 hC) | (go_at_call 40; with_reducible exact callC HIN.out HOUT.out HK.out HR1.out w1 hC) | (go_at_call 40; with_reducible exact callC HIN.out HOUT.out HK.out HR2.out w1 hC) | (exact rfl) | (obtain ⟨⟨hb1, ⟨p0, p1, p2, p3, p4, p5⟩, p6⟩, ⟨q0, q1, q2, q3, q4, q5⟩, q6⟩ := HOUT.out w1 hC; clear hC; go_simp; first | done | exact rfl)); done)); clear hK K))
            refine wpQuiet_nil ?_
            intro wn hC
            have HO := hide3 (HOUT.out _ hC)
            clear hC HIN HOUT C
            obtain ⟨⟨hb1, ⟨p0, p1, p2, p3, p4, p5⟩, p6⟩, ⟨q0, q1, q2, q3, q4, q5⟩, q6⟩ := HO.out
            go_wp2_with fail
            clear hb1 p0 p1 p2 p3 p4 p5 p6 q0 q1 q2 q3 q4 q5 q6
            refine wp_region_keep HK.out (by kernel_rfl) (by kernel_rfl) (by first | exact HO.out | exact HK.out.drew HO.out) ?_
            intro C hin hout
            have HIN := hide3 hin
            have HOUT := hide3 hout
            clear hin hout HO
            repeat
              (with_reducible refine wpQuiet_step (fun K hK => ?_)
               go_simp
               first
                 | (refine hK _ ?_; clear hK K)
                 | (apply Exists.intro; refine ⟨fun w1 hC => ?_, hK _ ?_⟩; (focus ((first | (go_at_call 40; with_reducible exact callC HIN.out HOUT.out HK.out HR1.out w1 hC) | (go_at_call 40; with_reducible exact callC HIN.out HOUT.out HK.out HR3.out w1 hC) | (exact rfl) | (obtain ⟨⟨hb1, ⟨p0, p1, p2, p3, p4, p5⟩, p6⟩, ⟨q0, q1, q2, q3, q4, q5⟩, q6⟩ := HOUT.out w1 hC; clear hC; go_simp; first | done | exact rfl)); done)); clear hK K))
            refine wpQuiet_nil ?_
            intro wm hC
            have HO := hide3 (HOUT.out _ hC)
            clear hC HIN HOUT C
            obtain ⟨⟨hb1, ⟨p0, p1, p2, p3, p4, p5⟩, p6⟩, ⟨q0, q1, q2, q3, q4, q5⟩, q6⟩ := HO.out
            go_wp2
            refine ⟨⟨k + 1, by omega, by go_num, HO.out.1.1, fun i hi => ?_⟩, by simp [intOf]; omega⟩
            rcases Nat.lt_or_ge i k with h | h
            · exact HOK.out i h
            · rw [show i = k by omega]; exact HF.out
    · have hke : k = L.length := by omega
      subst hke
      have HF : Hid (mayL L = true) := may_yes HT.out HOK.out
      have HB := hide3 hb
      clear hb
      go_wp2
      go_ret
      exact ⟨ret_bool HF.out.symm, HB.out⟩
end Go.Proofs.YtipibibhkmhihaaGreatDoor
namespace Go.Proofs.YtipibibhkmhihaaGreatDoor
open Go.RowKit
set_option maxRecDepth 100000

theorem rMay_nil (ad : Option Addr) (cap : Nat) (w : World) :
    Calls Tryz.prog 19 #[.slice ad 0 cap] w fun e w' => e = .returned (.bool true) ∧ Below w.heap.size w w' := by
  go_enter Tryz.func19, Tryz.ntmps19
  go_wp2_with fail
  go_loop [3] (fun i => i = .int .i64 0) (fun _ => 0)
  case atStart => rfl
  case round =>
    subst hrel
    go_wp2
    go_ret
    exact ⟨rfl, Below.refl _ _⟩

theorem rMay_many (ad : Option Addr) (n cap : Nat) (w : World) (h : 64 < n) :
    Calls Tryz.prog 19 #[.slice ad n cap] w fun e w' => e = .returned (.bool false) ∧ Below w.heap.size w w' := by
  have h1 : (64 : Int) < (n : Int) := by omega
  go_enter Tryz.func19, Tryz.ntmps19
  go_wp2
  go_ret
  exact ⟨rfl, Below.refl _ _⟩

theorem rMayL_any {w : World} {v : Value} {L : List Sp} (h : SpansAt w v L) :
    Calls Tryz.prog 19 #[v] w fun e w' => e = .returned (.bool (mayL L)) ∧ Below w.heap.size w w' := by
  obtain ⟨ad, cap, rfl, hl⟩ := h
  by_cases h64 : L.length ≤ 64
  · rcases hl with rfl | ⟨g, o, rfl, hg, hs⟩
    · exact rMay_nil ad cap w
    · exact rMay_walk L g o cap w h64 hg hs
  · have : mayL L = false := by unfold mayL; rw [decide_eq_false h64]; rfl
    rw [this]
    exact rMay_many ad _ cap w (by omega)

/-- A place is in one of some spans, by their ranks. -/
def hasN (n : Int) (s : Sp) : Bool := decide (rankV s.a s.b s.c ≤ n) && decide (n ≤ rankV s.x s.y s.z)

set_option maxHeartbeats 3200000 in
theorem has_walk (L : List Sp) (g o cap : Nat) (n : Int) (w : World) (hlen : L.length ≤ 1000000000000) (hg : g < w.heap.size) (hl : ∀ i (h : i < L.length), SpAt w g (o + i * 6) L[i]) :
    Calls Tryz.prog 55 #[.slice (some ⟨g, o, none⟩) L.length cap, .int .i64 n] w fun e w' => e = .returned (.bool (L.any (hasN n))) ∧ Below w.heap.size w w' := by
  have HL : Hid (∀ w1, Below w.heap.size w w1 → ∀ i (h : i < L.length), SpIn w1 g (o + i * 6) L[i]) := fun w1 hb i hi => ⟨(hl i hi).below hb hg, Nat.lt_of_lt_of_le hg hb.size⟩
  clear hl
  go_enter Tryz.func55, Tryz.ntmps55
  go_wp2_with fail
  go_loopw [5] (fun i wr => ∃ k : Nat, k ≤ L.length ∧ i = .int .i64 k ∧ Below w.heap.size w wr ∧ (L.take k).any (hasN n) = false) (fun i _ => L.length - (intOf i).toNat)
  case atStart => exact ⟨0, Nat.zero_le _, rfl, Below.refl _ _, rfl⟩
  case round =>
    obtain ⟨k, hk, rfl, hb, hno⟩ := hrel
    have HN := hide3 hno
    have HB := hide3 hb
    clear hno
    by_cases hlt : k < L.length
    · have hs := HL.out wr hb k hlt
      have HS : Hid ((L.take (k + 1)).any (hasN n) = hasN n L[k]) := by
        unfold Hid
        rw [List.take_succ_eq_append_getElem hlt, List.any_append, HN.out]; simp
      have HS2 : Hid (hasN n L[k] = true → L.any (hasN n) = true) := fun h => List.any_eq_true.2 ⟨L[k], List.getElem_mem hlt, h⟩
      have HKs : Hid (KeepP fun w1 => Below w.heap.size w w1 ∧ SpIn w1 g (o + k * 6) L[k]) := (keepBelow w).and (keepSp _ _ _)
      have HOs : Hid (Below w.heap.size w wr ∧ SpIn wr g (o + k * 6) L[k]) := ⟨hb, hs⟩
      generalize L[k] = s at *
      obtain ⟨a, b, c, x, y, z⟩ := s
      have HR1 : Hid (∀ w1, Calls Tryz.prog 40 #[.agg #[.int .i64 a, .int .i64 b, .int .i64 c]] w1 fun e w' => e = .returned (.int .i64 (rankV a b c)) ∧ Below w1.heap.size w1 w') := rrank_any a b c
      have HR2 : Hid (∀ w1, Calls Tryz.prog 40 #[.agg #[.int .i64 x, .int .i64 y, .int .i64 z]] w1 fun e w' => e = .returned (.int .i64 (rankV x y z)) ∧ Below w1.heap.size w1 w') := rrank_any x y z
      have HH : Hid (hasN n ⟨a, b, c, x, y, z⟩ = (decide (rankV a b c ≤ n) && decide (n ≤ rankV x y z))) := rfl
      obtain ⟨⟨p0, p1, p2, p3, p4, p5⟩, p6⟩ := hs
      simp only at p0 p1 p2 p3 p4 p5
      clear hb
      generalize rankV a b c = r1 at *
      generalize rankV x y z = r2 at *
      by_cases h1 : r1 ≤ n
      · by_cases h2 : n ≤ r2
        · have HT : Hid (L.any (hasN n) = true) := HS2.out (by rw [HH.out]; simp [h1, h2])
          go_wp2_with (first
            | (have _h := HOs; go_at_call 40; refine (HR1.out _).mono ?_; rintro e w1 ⟨rfl, ok⟩; have HO1 := hide3 (HKs.out _ _ HOs.out ok); clear ok HOs p0 p1 p2 p3 p4 p5 p6; obtain ⟨_, ⟨p0, p1, p2, p3, p4, p5⟩, p6⟩ := HO1.out)
            | (have _h := HO1; go_at_call 40; refine (HR2.out _).mono ?_; rintro e w2 ⟨rfl, ok⟩; have HO2 := hide3 (HKs.out _ _ HO1.out ok); clear ok HO1 p0 p1 p2 p3 p4 p5 p6))
          go_ret
          exact ⟨ret_bool HT.out.symm, HO2.out.1⟩
        · have HT : Hid ((L.take (k + 1)).any (hasN n) = false) := by unfold Hid; rw [HS.out, HH.out]; simp [h1, h2]
          go_wp2_with (first
            | (have _h := HOs; go_at_call 40; refine (HR1.out _).mono ?_; rintro e w1 ⟨rfl, ok⟩; have HO1 := hide3 (HKs.out _ _ HOs.out ok); clear ok HOs p0 p1 p2 p3 p4 p5 p6; obtain ⟨_, ⟨p0, p1, p2, p3, p4, p5⟩, p6⟩ := HO1.out)
            | (have _h := HO1; go_at_call 40; refine (HR2.out _).mono ?_; rintro e w2 ⟨rfl, ok⟩; have HO2 := hide3 (HKs.out _ _ HO1.out ok); clear ok HO1 p0 p1 p2 p3 p4 p5 p6))
          exact ⟨⟨k + 1, by omega, by go_num, HO2.out.1, HT.out⟩, by simp [intOf]; omega⟩
      · have HT : Hid ((L.take (k + 1)).any (hasN n) = false) := by unfold Hid; rw [HS.out, HH.out]; simp [h1]
        go_wp2_with (first
          | (have _h := HOs; go_at_call 40; refine (HR1.out _).mono ?_; rintro e w1 ⟨rfl, ok⟩; have HO1 := hide3 (HKs.out _ _ HOs.out ok); clear ok HOs p0 p1 p2 p3 p4 p5 p6))
        exact ⟨⟨k + 1, by omega, by go_num, HO1.out.1, HT.out⟩, by simp [intOf]; omega⟩
    · have hke : k = L.length := by omega
      subst hke
      have HF : Hid (L.any (hasN n) = false) := by have := HN.out; rw [List.take_length] at this; exact this
      clear hb
      go_wp2
      go_ret
      exact ⟨ret_bool HF.out.symm, HB.out⟩

theorem has_nil (ad : Option Addr) (cap : Nat) (n : Int) (w : World) :
    Calls Tryz.prog 55 #[.slice ad 0 cap, .int .i64 n] w fun e w' => e = .returned (.bool false) ∧ Below w.heap.size w w' := by
  go_enter Tryz.func55, Tryz.ntmps55
  go_wp2_with fail
  go_loop [5] (fun i => i = .int .i64 0) (fun _ => 0)
  case atStart => rfl
  case round =>
    subst hrel
    go_wp2
    go_ret
    exact ⟨rfl, Below.refl _ _⟩

theorem has_any {w : World} {v : Value} {L : List Sp} (h : SpansAt w v L) (hlen : L.length ≤ 1000000000000) (n : Int) :
    Calls Tryz.prog 55 #[v, .int .i64 n] w fun e w' => e = .returned (.bool (L.any (hasN n))) ∧ Below w.heap.size w w' := by
  obtain ⟨ad, cap, rfl, hl⟩ := h
  rcases hl with rfl | ⟨g, o, rfl, hg, hs⟩
  · exact has_nil ad cap n w
  · exact has_walk L g o cap n w hlen hg hs

theorem hasN_in {L : List Sp} {p q r : Int} (hm : mayL L = true) (hv : mayV p q r = true) : L.any (hasN (rankV p q r)) = L.any (hasS p q r) := by
  obtain ⟨A, rfl, hA, hlen⟩ := may_iff.1 hm
  have ho : ∀ x ∈ A, okP2 x := fun x hx => by have := RiseR.mem hA hx; unfold okP2 okR; omega
  clear hm hA hlen
  induction A with
  | nil => rfl
  | cons x A ih =>
    rw [List.map_cons, List.any_cons, List.any_cons, ih fun y hy => ho y (List.mem_cons_of_mem _ hy)]
    have hx := ho x List.mem_cons_self
    congr 1
    rw [Bool.eq_iff_iff, has_rg hx hv]
    obtain ⟨_, e1⟩ := may_at hx.1.has
    obtain ⟨_, e2⟩ := may_at hx.2.1.has
    unfold hasN spR
    simp only
    rw [Bool.and_eq_true, decide_eq_true_eq, decide_eq_true_eq, e1, e2]

theorem bytes_append (l r : List UInt8) : (⟨(l ++ r).toArray⟩ : ByteArray) = ⟨l.toArray⟩ ++ ⟨r.toArray⟩ := by
  have : ((⟨l.toArray⟩ : ByteArray) ++ ⟨r.toArray⟩).data.toList = l ++ r := by rw [cat_list]
  rw [of_list this]

/-- A text is one piece, or a piece, the separator and the rest. -/
theorem pieces_cases (s sep : ByteArray) (h1 : 1 ≤ sep.size) : piecesB s sep = [s] ∨ ∃ l r : List UInt8, s.data.toList = l ++ (sep.data.toList ++ r) ∧ piecesB s sep = ⟨l.toArray⟩ :: piecesB ⟨r.toArray⟩ sep ∧ r.length < s.size := by
  rcases Lib.indexB_cases s sep with hi | ⟨i, hi, hr⟩
  · left; unfold piecesB; exact Lib.splitB_miss _ _ _ _ hi
  · right
    have ho : Lib.occAt s.data.toList sep.data.toList i = true := by
      rcases Lib.index_spec s.data.toList sep.data.toList with ⟨h2, _⟩ | ⟨j, h2, _, h3, _⟩
      · rw [indexB_eq, h2] at hi; omega
      · rw [indexB_eq, h2] at hi
        have : j = i := by omega
        subst this; exact h3
    unfold Lib.occAt at ho
    obtain ⟨r, hr2⟩ := List.isPrefixOf_iff_prefix.1 ho
    have e0 : s.data.toList = s.data.toList.take i ++ (sep.data.toList ++ r) := by rw [hr2, List.take_append_drop]
    have hle : i ≤ s.data.toList.length := by rw [list_size]; omega
    have e1 : s.extract 0 (i + 0) = ⟨(s.data.toList.take i).toArray⟩ := of_list (by rw [Lib.extract_from_zero, Nat.add_zero])
    have e2 : s.extract (i + sep.size) s.size = ⟨r.toArray⟩ := by
      refine of_list ?_
      rw [Lib.extract_to_end, ← List.drop_drop, ← hr2, ← list_size sep, List.drop_left]
    refine ⟨s.data.toList.take i, r, e0, ?_, ?_⟩
    · unfold piecesB
      rw [Lib.countB_hit s sep i h1 hi, Nat.add_comm 1, Lib.splitB_hit _ _ _ _ _ hi, e1, e2]
    · have := congrArg List.length e0
      rw [List.length_append, List.length_append, list_size, list_size, List.length_take] at this
      omega

theorem pieces_append {sep : ByteArray} {c : UInt8} {tl : List UInt8} (hsep : sep.data.toList = c :: tl) (t : ByteArray) : ∀ (n : Nat) (s : ByteArray), s.size ≤ n → (∀ p ∈ piecesB s sep, ∀ x ∈ p.data.toList, x ≠ c) → piecesB ((s ++ sep) ++ t) sep = piecesB s sep ++ piecesB t sep
  | n, s, hn, h => by
    have h1 : 1 ≤ sep.size := by rw [← list_size, hsep]; simp
    rcases pieces_cases s sep h1 with e | ⟨l, r, e0, e1, hlt⟩
    · rw [e] at h ⊢
      have := pieces_more (s := (s ++ sep) ++ t) (l := s.data.toList) (r := t.data.toList) hsep (by rw [cat_list, cat_list, List.append_assoc]) (h s List.mem_cons_self)
      rw [this, list_of_bytes, list_of_bytes]; rfl
    · rw [e1] at h ⊢
      have hl : ∀ x ∈ l, x ≠ c := fun x hx => h ⟨l.toArray⟩ List.mem_cons_self x (by simpa using hx)
      have := pieces_more (s := (s ++ sep) ++ t) (l := l) (r := r ++ (sep.data.toList ++ t.data.toList)) hsep (by rw [cat_list, cat_list, e0]; simp [List.append_assoc]) hl
      rw [this, List.cons_append]
      have er : (⟨(r ++ (sep.data.toList ++ t.data.toList)).toArray⟩ : ByteArray) = ((⟨r.toArray⟩ : ByteArray) ++ sep) ++ t := by
        refine (of_list ?_).symm
        rw [cat_list, cat_list]; simp [List.append_assoc]
      rw [er]
      cases n with
      | zero => omega
      | succ n =>
        have hs : (⟨r.toArray⟩ : ByteArray).size ≤ n := by rw [bytes_size]; omega
        rw [pieces_append hsep t n ⟨r.toArray⟩ hs fun p hp => h p (List.mem_cons_of_mem _ hp)]

/-- Between single signs there are none. -/
theorem pieces_clean (c : UInt8) : ∀ (n : Nat) (s : ByteArray), s.size ≤ n → ∀ p ∈ piecesB s ⟨#[c]⟩, ∀ x ∈ p.data.toList, x ≠ c
  | n, s, hn => by
    have h1 : 1 ≤ (⟨#[c]⟩ : ByteArray).size := Nat.le_refl _
    rcases Lib.indexB_cases s ⟨#[c]⟩ with hi | ⟨i, hi, hr⟩
    · have e : piecesB s ⟨#[c]⟩ = [s] := by unfold piecesB; exact Lib.splitB_miss _ _ _ _ hi
      rw [e]
      intro p hp x hx hc
      rw [List.mem_singleton] at hp
      subst hp
      subst hc
      obtain ⟨j, hj⟩ := List.getElem?_of_mem hx
      rcases Lib.index_spec p.data.toList [x] with ⟨_, h3⟩ | ⟨j', h2, _⟩
      · have hlt : j < p.data.toList.length := (List.getElem?_eq_some_iff.1 hj).1
        have := h3 j (by omega)
        unfold Lib.occAt at this
        rw [List.drop_eq_getElem_cons hlt] at this
        rw [List.getElem?_eq_getElem hlt, Option.some.injEq] at hj
        rw [hj] at this
        simp at this
      · rw [indexB_eq] at hi
        change Lib.index p.data.toList [x] = -1 at hi
        omega
    · have hno : ∀ x ∈ s.data.toList.take i, x ≠ c := by
        intro x hx hc
        subst hc
        obtain ⟨j, hj⟩ := List.getElem?_of_mem hx
        have hji : j < i ∧ s.data.toList[j]? = some x := by
          rw [List.getElem?_take] at hj
          split at hj
          · exact ⟨by assumption, hj⟩
          · cases hj
        rcases Lib.index_spec s.data.toList [x] with ⟨h2, _⟩ | ⟨j', h2, _, _, h3⟩
        · rw [indexB_eq] at hi
          change Lib.index s.data.toList [x] = _ at hi
          omega
        · rw [indexB_eq] at hi
          change Lib.index s.data.toList [x] = _ at hi
          have : j' = i := by omega
          subst this
          have h4 := h3 j hji.1
          unfold Lib.occAt at h4
          have hlt : j < s.data.toList.length := (List.getElem?_eq_some_iff.1 hji.2).1
          rw [List.drop_eq_getElem_cons hlt] at h4
          have h5 := hji.2
          rw [List.getElem?_eq_getElem hlt, Option.some.injEq] at h5
          rw [h5] at h4
          simp at h4
      have e1 : s.extract 0 (i + 0) = ⟨(s.data.toList.take i).toArray⟩ := of_list (by rw [Lib.extract_from_zero, Nat.add_zero])
      have e : piecesB s ⟨#[c]⟩ = ⟨(s.data.toList.take i).toArray⟩ :: piecesB (s.extract (i + 1) s.size) ⟨#[c]⟩ := by
        unfold piecesB
        rw [Lib.countB_hit s ⟨#[c]⟩ i h1 hi, Nat.add_comm 1, Lib.splitB_hit _ _ _ _ _ hi, e1]
        rfl
      rw [e]
      intro p hp
      rcases List.mem_cons.1 hp with rfl | hp
      · intro x hx; exact hno x (by simpa using hx)
      · cases n with
        | zero => have : (⟨#[c]⟩ : ByteArray).size = 1 := rfl; omega
        | succ n =>
          have hz : (s.extract (i + 1) s.size).size ≤ n := by
            rw [ByteArray.size_extract]
            have : (⟨#[c]⟩ : ByteArray).size = 1 := rfl
            omega
          exact pieces_clean c n _ hz p hp

theorem join_assoc {A B C : Rg} (hA : RangeR A) (hB : RangeR B) (hC : RangeR C) : joinR (joinR A B) C = joinR A (joinR B C) := range_one ((hA.join hB).join hC) (hA.join (hB.join hC)) fun n => by
  rw [join_in (hA.join hB) hC, join_in hA hB, join_in hA (hB.join hC), join_in hB hC, or_assoc]

theorem altF_from : ∀ {l : List ByteArray} {R : Rg}, RangeR R → altF R l = (altF [] l).map (joinR R)
  | [], R, hR => by
    have : joinR R [] = R := range_one (hR.join (B := []) trivial) hR fun n => by rw [join_in hR (B := []) trivial]; exact ⟨fun h => h.elim id (fun x => x.elim), Or.inl⟩
    simp [altF, this]
  | a :: l, R, hR => by
    unfold altF
    split
    · have hX := wordsL_rg (piecesB a ⟨#[32]⟩)
      rw [altF_from (hR.join hX), join_none hX, altF_from hX, Option.map_map]
      cases hq : altF [] l with
      | none => rfl
      | some Y =>
        have hY := altF_rg (R := []) trivial hq
        simp only [Option.map_some, Function.comp_apply, Option.some.injEq]
        exact join_assoc hR hX hY
    · rfl
theorem altF_cons {a : ByteArray} {l : List ByteArray} {R : Rg} : altF R (a :: l) = if wordsB (piecesB a ⟨#[32]⟩) = true then altF (joinR R (wordsL (piecesB a ⟨#[32]⟩))) l else none := rfl
theorem altF_append : ∀ {l m : List ByteArray} {R : Rg}, altF R (l ++ m) = (altF R l).bind fun Q => altF Q m
  | [], m, R => rfl
  | a :: l, m, R => by
    rw [List.cons_append, altF_cons, altF_cons]
    split
    · exact altF_append
    · rfl

/-- A word has no bar. -/
theorem word_bar {s : ByteArray} {X : Rg} (h : wordR s = some X) : ∀ x ∈ s.data.toList, x.toNat ≠ 124 := by
  unfold wordR at h
  split at h
  · rename_i e
    intro x hx
    rw [e] at hx
    simp at hx
    subst hx
    decide
  · split at h
    · rename_i ho
      obtain ⟨m, e⟩ := okP_text ho
      have hb := text_bytes m
      rw [← e, Lib.extract_to_end] at hb
      intro x hx
      rw [← List.take_append_drop (idxK s) s.data.toList, List.mem_append] at hx
      rcases hx with hx | hx
      · rw [Lib.extract_from_zero] at h
        generalize List.take (idxK s) s.data.toList = sg at *
        intro e124
        have no : ∀ l : List UInt8, (∀ y ∈ l, y.toNat ≠ 124) → ¬ sg = l := fun l hl e => by subst e; exact hl x hx e124
        unfold signR at h
        rw [if_neg (by rintro (e | e); exact no [] (by simp) e; exact no [61] (by decide) e), if_neg (no [60] (by decide)), if_neg (no [60, 61] (by decide)), if_neg (no [62] (by decide)), if_neg (no [62, 61] (by decide)), if_neg (no [94] (by decide)), if_neg (no [126] (by decide))] at h
        cases h
      · have := hb x hx; omega
    · cases h
theorem words_bar : ∀ {ps : List ByteArray} {R : Rg} {f : Bool}, (wordsF R f ps).isSome = true → ∀ p ∈ ps, ∀ x ∈ p.data.toList, x.toNat ≠ 124
  | [], _, _, _, p, hp => by cases hp
  | q :: ps, R, f, h, p, hp => by
    unfold wordsF at h
    split at h
    · rename_i h0
      rcases List.mem_cons.1 hp with rfl | hp
      · intro x hx
        rw [← list_size] at h0
        rw [List.eq_nil_of_length_eq_zero h0] at hx
        cases hx
      · exact words_bar h p hp
    · split at h
      · cases h
      · rename_i X hX
        rcases List.mem_cons.1 hp with rfl | hp
        · exact word_bar hX
        · exact words_bar h p hp

/-- The bytes of a text are those of its pieces and of the separators. -/
theorem pieces_bytes (sep : ByteArray) (h1 : 1 ≤ sep.size) : ∀ (n : Nat) (s : ByteArray), s.size ≤ n → ∀ x ∈ s.data.toList, x ∈ sep.data.toList ∨ ∃ p ∈ piecesB s sep, x ∈ p.data.toList
  | n, s, hn, x, hx => by
    rcases pieces_cases s sep h1 with e | ⟨l, r, e0, e1, hlt⟩
    · rw [e]; exact Or.inr ⟨s, List.mem_cons_self, hx⟩
    · rw [e0] at hx
      rw [e1]
      simp only [List.mem_append] at hx
      rcases hx with hx | hx | hx
      · exact Or.inr ⟨_, List.mem_cons_self, by simpa using hx⟩
      · exact Or.inl hx
      · cases n with
        | zero => omega
        | succ n =>
          rcases pieces_bytes sep h1 n ⟨r.toArray⟩ (by rw [bytes_size]; omega) x (by simpa using hx) with h | ⟨p, hp, hpx⟩
          · exact Or.inl h
          · exact Or.inr ⟨p, List.mem_cons_of_mem _ hp, hpx⟩

theorem alt_bar : ∀ {l : List ByteArray} {R : Rg}, (altF R l).isSome = true → ∀ p ∈ l, ∀ x ∈ p.data.toList, x ≠ 124
  | [], _, _, p, hp => by cases hp
  | a :: l, R, h, p, hp => by
    unfold altF at h
    split at h
    · rename_i hb
      rcases List.mem_cons.1 hp with rfl | hp
      · intro x hx e
        have hs : (wordsF allR false (piecesB p ⟨#[32]⟩)).isSome = true := by
          unfold wordsB at hb
          split at hb
          · rename_i e2; rw [e2]; rfl
          · cases hb
        rcases pieces_bytes ⟨#[32]⟩ (by decide) p.size p (Nat.le_refl _) x hx with h2 | ⟨q, hq, hxq⟩
        · simp at h2; rw [h2] at e; exact absurd e (by decide)
        · exact words_bar hs q hq x hxq (by rw [e]; rfl)
      · exact alt_bar h p hp
    · cases h

theorem alt_both {s t : ByteArray} {A B : Rg} (ha : altR s = some A) (hb : altR t = some B) : altR ((s ++ ⟨#[124, 124]⟩) ++ t) = some (joinR A B) := by
  unfold altR at *
  rw [pieces_append (c := 124) (tl := [124]) rfl t s.size s (Nat.le_refl _) (alt_bar (by rw [ha]; rfl)), altF_append, ha, Option.bind_some, altF_from (altF_rg (R := []) trivial ha), hb]
  rfl

theorem meet_allr {R : Rg} (hR : RangeR R) : meetR R allR = R := range_one (hR.meet allR_ok) hR fun n => by
  rw [meet_in hR allR_ok, allR_in]
  exact ⟨fun h => h.1, fun h => ⟨h, hR.in h⟩⟩
theorem meet_asc {A B C : Rg} (hA : RangeR A) (hB : RangeR B) (hC : RangeR C) : meetR (meetR A B) C = meetR A (meetR B C) := range_one ((hA.meet hB).meet hC) (hA.meet (hB.meet hC)) fun n => by
  rw [meet_in hA (hB.meet hC), meet_in hB hC, meet_in (hA.meet hB) hC, meet_in hA hB]
  exact ⟨fun h => ⟨h.1.1, h.1.2, h.2⟩, fun h => ⟨⟨h.1, h.2.1⟩, h.2.2⟩⟩
theorem wordsF_from : ∀ {ps : List ByteArray} {R : Rg} {f : Bool}, RangeR R → wordsF R f ps = (wordsF allR false ps).map fun q => (meetR R q.1, f || q.2)
  | [], R, f, hR => by simp [wordsF, meet_allr hR]
  | p :: ps, R, f, hR => by
    unfold wordsF
    split
    · exact wordsF_from hR
    · split
      · rfl
      · rename_i X hX
        have hXr := word_rg hX
        rw [wordsF_from (hR.meet hXr), meet_all hXr, wordsF_from hXr, Option.map_map]
        cases hq : wordsF allR false ps with
        | none => rfl
        | some Y =>
          obtain ⟨Y, g⟩ := Y
          have hY := wordsF_rg allR_ok hq
          simp only [Option.map_some, Function.comp_apply, Option.some.injEq, Prod.mk.injEq, Bool.true_or, Bool.or_true, and_true]
          exact meet_asc hR hXr hY
theorem wordsF_cons {p : ByteArray} {ps : List ByteArray} {R : Rg} {f : Bool} : wordsF R f (p :: ps) = if p.size = 0 then wordsF R f ps else match wordR p with
    | none => none
    | some X => wordsF (meetR R X) true ps := rfl
theorem wordsF_append : ∀ {ps qs : List ByteArray} {R : Rg} {f : Bool}, wordsF R f (ps ++ qs) = (wordsF R f ps).bind fun q => wordsF q.1 q.2 qs
  | [], qs, R, f => rfl
  | p :: ps, qs, R, f => by
    rw [List.cons_append, wordsF_cons, wordsF_cons]
    split
    · exact wordsF_append
    · cases wordR p with
      | none => rfl
      | some X => exact wordsF_append

/-- A text without bars. -/
theorem alt_plain {s : ByteArray} (h : ∀ x ∈ s.data.toList, x ≠ 124) {A : Rg} : altR s = some A ↔ wordsF allR false (piecesB s ⟨#[32]⟩) = some (A, true) := by
  have p1 : piecesB s ⟨#[124, 124]⟩ = [s] := pieces_one (c := 124) (tl := [124]) rfl h
  unfold altR
  rw [p1]
  unfold altF
  have hj := join_none (wordsL_rg (piecesB s ⟨#[32]⟩))
  rw [hj]
  unfold wordsB wordsL
  cases hq : wordsF allR false (piecesB s ⟨#[32]⟩) with
  | none => simp
  | some q =>
    obtain ⟨X, f⟩ := q
    cases f <;> simp [altF]

theorem alt_blank {s t : ByteArray} {A B : Rg} (hs : ∀ x ∈ s.data.toList, x ≠ 124) (ht : ∀ x ∈ t.data.toList, x ≠ 124) (ha : altR s = some A) (hb : altR t = some B) : altR ((s ++ ⟨#[32]⟩) ++ t) = some (meetR A B) := by
  have hst : ∀ x ∈ ((s ++ ⟨#[32]⟩) ++ t).data.toList, x ≠ 124 := by
    intro x hx
    rw [cat_list, cat_list] at hx
    simp only [List.mem_append] at hx
    rcases hx with (hx | hx) | hx
    · exact hs x hx
    · simp at hx; rw [hx]; decide
    · exact ht x hx
  have ea := (alt_plain hs).1 ha
  have eb := (alt_plain ht).1 hb
  rw [alt_plain hst, pieces_append (c := 32) (tl := []) rfl t s.size s (Nat.le_refl _) (pieces_clean 32 s.size s (Nat.le_refl _)), wordsF_append, ea, Option.bind_some, wordsF_from (altR_rg ha), eb]
  rfl
end Go.Proofs.YtipibibhkmhihaaGreatDoor
namespace Go.Proofs.YtipibibhkmhihaaGreatDoor
open Go.RowKit
set_option maxRecDepth 100000

theorem same_list {s t : ByteArray} (h : s.data.toList = t.data.toList) : s = t := (of_list h).trans (list_of_bytes t)
theorem empty_cat (s : ByteArray) : (⟨#[]⟩ : ByteArray) ++ s = s := same_list (by rw [cat_list]; rfl)
theorem cat_empty (s : ByteArray) : s ++ (⟨#[]⟩ : ByteArray) = s := same_list (by rw [cat_list]; exact List.append_nil _)
theorem pieces_empty (c : UInt8) : piecesB ⟨#[]⟩ ⟨#[c]⟩ = [⟨#[]⟩] := pieces_one (c := c) (tl := []) rfl (fun x hx => by cases hx)

/-- A blank ahead, a blank behind. -/
theorem pad_left {s : ByteArray} (hs : ∀ x ∈ s.data.toList, x ≠ 124) {A : Rg} (ha : altR s = some A) : altR (⟨#[32]⟩ ++ s) = some A ∧ ∀ x ∈ (⟨#[32]⟩ ++ s).data.toList, x ≠ 124 := by
  have hb : ∀ x ∈ (⟨#[32]⟩ ++ s).data.toList, x ≠ 124 := by
    intro x hx
    rw [cat_list] at hx
    rcases List.mem_append.1 hx with hx | hx
    · simp at hx; rw [hx]; decide
    · exact hs x hx
  refine ⟨?_, hb⟩
  have e : (⟨#[32]⟩ : ByteArray) ++ s = ((⟨#[]⟩ : ByteArray) ++ ⟨#[32]⟩) ++ s := by rw [empty_cat]
  have hp := pieces_append (sep := ⟨#[32]⟩) (c := 32) (tl := []) rfl s 0 ⟨#[]⟩ (Nat.le_refl _) (pieces_clean 32 0 ⟨#[]⟩ (Nat.le_refl _))
  rw [alt_plain hb, e, hp, pieces_empty, List.singleton_append, wordsF_cons, if_pos (show (⟨#[]⟩ : ByteArray).size = 0 from rfl)]
  exact (alt_plain hs).1 ha
theorem pad_right {s : ByteArray} (hs : ∀ x ∈ s.data.toList, x ≠ 124) {A : Rg} (ha : altR s = some A) : altR (s ++ ⟨#[32]⟩) = some A ∧ ∀ x ∈ (s ++ ⟨#[32]⟩).data.toList, x ≠ 124 := by
  have hb : ∀ x ∈ (s ++ ⟨#[32]⟩).data.toList, x ≠ 124 := by
    intro x hx
    rw [cat_list] at hx
    rcases List.mem_append.1 hx with hx | hx
    · exact hs x hx
    · simp at hx; rw [hx]; decide
  refine ⟨?_, hb⟩
  have e : s ++ (⟨#[32]⟩ : ByteArray) = (s ++ ⟨#[32]⟩) ++ ⟨#[]⟩ := by rw [cat_empty]
  have hp := pieces_append (sep := ⟨#[32]⟩) (c := 32) (tl := []) rfl ⟨#[]⟩ s.size s (Nat.le_refl _) (pieces_clean 32 s.size s (Nat.le_refl _))
  rw [alt_plain hb, e, hp, pieces_empty, wordsF_append, (alt_plain hs).1 ha]
  simp only [Option.bind_some]
  rw [wordsF_cons, if_pos (show (⟨#[]⟩ : ByteArray).size = 0 from rfl)]
  rfl

theorem sign_alt {sg : ByteArray} (hs : SignB sg) {a b c : Int} (h : mayV a b c = true) {X : Rg} (hX : signR sg.data.toList (rankV a b c) = some X) : altR (sg ++ textV a b c) = some X ∧ ∀ x ∈ (sg ++ textV a b c).data.toList, x ≠ 124 := by
  have hp := sign_plain hs h
  have hl := text_long h
  refine ⟨alt_word (fun x hx => ⟨(hp x hx).1, (hp x hx).2.1⟩) ?_ ((word_sign hs h).trans hX), fun x hx e => (hp x hx).2.1 (by rw [e]; rfl)⟩
  rw [size_cat]
  rw [list_size] at hl
  omega
theorem star_alt : altR ⟨#[42]⟩ = some allR ∧ ∀ x ∈ (⟨#[42]⟩ : ByteArray).data.toList, x ≠ 124 := by
  refine ⟨alt_word ?_ (by decide) ?_, ?_⟩
  · intro x hx; simp at hx; rw [hx]; decide
  · unfold wordR; rw [if_pos rfl]
  · intro x hx; simp at hx; rw [hx]; decide

theorem le_sign : SignB ⟨#[60, 61]⟩ := by intro x hx; simp at hx; rcases hx with rfl | rfl <;> decide
theorem ge_sign : SignB ⟨#[62, 61]⟩ := by intro x hx; simp at hx; rcases hx with rfl | rfl <;> decide
theorem no_sign : SignB ⟨#[]⟩ := by intro x hx; simp at hx
theorem rank_000 : rankV 0 0 0 = 0 := by decide +kernel
theorem rank_999 : rankV 999 999 999 = 999999999 := by decide +kernel

/-- A span's text says that span. -/
theorem spT_alt {lo hi : Int} (h1 : okR lo) (h2 : okR hi) (h : lo ≤ hi) : altR (spT (lo, hi)) = some [(lo, hi)] ∧ ∀ x ∈ (spT (lo, hi)).data.toList, x ≠ 124 := by
  obtain ⟨m1, e1⟩ := may_at h1.has
  obtain ⟨m2, e2⟩ := may_at h2.has
  unfold spT spanT
  simp only
  split
  · rename_i hq
    have hlh : lo = hi := by rw [← e1, ← e2, hq.1, hq.2.1, hq.2.2]
    have := sign_alt no_sign m1 (X := [(lo, lo)]) (by rw [e1]; rfl)
    rw [empty_cat] at this
    rw [← hlh]
    exact this
  · split
    · rename_i _ hq
      have hl : lo = 0 := by rw [← e1, hq.1.1, hq.1.2.1, hq.1.2.2]; exact rank_000
      have hh : hi = 999999999 := by rw [← e2, hq.2.1, hq.2.2.1, hq.2.2.2]; exact rank_999
      rw [hl, hh]
      exact star_alt
    · split
      · rename_i _ _ hq
        have hl : lo = 0 := by rw [← e1, hq.1, hq.2.1, hq.2.2]; exact rank_000
        have := sign_alt le_sign m2 (X := [(0, hi)]) (by rw [e2]; rfl)
        rw [hl]
        exact this
      · split
        · rename_i _ _ _ hq
          have hh : hi = 999999999 := by rw [← e2, hq.1, hq.2.1, hq.2.2]; exact rank_999
          have := sign_alt ge_sign m1 (X := [(lo, 999999999)]) (by rw [e1]; rfl)
          rw [hh]
          exact this
        · obtain ⟨a1, b1⟩ := sign_alt ge_sign m1 (X := [(lo, 999999999)]) (by rw [e1]; rfl)
          obtain ⟨a2, b2⟩ := sign_alt le_sign m2 (X := [(0, hi)]) (by rw [e2]; rfl)
          have r1 := one_ok h1 okL h1.2
          have r2 := one_ok okF h2 h2.1
          have hm : meetR [(lo, 999999999)] [(0, hi)] = [(lo, hi)] := range_one (r1.meet r2) (one_ok h1 h2 h) fun n => by
            rw [meet_in r1 r2]
            simp only [InR, or_false]
            have := h1.1
            have := h2.2
            omega
          have e : ((⟨#[62, 61]⟩ ++ textV (atA lo) (atB lo) (atC lo)) ++ ⟨#[32, 60, 61]⟩) ++ textV (atA hi) (atB hi) (atC hi) = ((⟨#[62, 61]⟩ ++ textV (atA lo) (atB lo) (atC lo)) ++ ⟨#[32]⟩) ++ (⟨#[60, 61]⟩ ++ textV (atA hi) (atB hi) (atC hi)) := same_list (by simp only [cat_list]; simp)
          rw [e]
          refine ⟨by rw [alt_blank b1 b2 a1 a2, hm], ?_⟩
          intro x hx
          rw [cat_list, cat_list] at hx
          simp only [List.mem_append] at hx
          rcases hx with (hx | hx) | hx
          · exact b1 x hx
          · simp at hx; rw [hx]; decide
          · exact b2 x hx

theorem rise_head {k M : Int} {p : Int × Int} {A : Rg} (h : RiseR k M (p :: A)) : k ≤ p.1 ∧ p.1 ≤ p.2 ∧ p.2 ≤ M ∧ RiseR (p.2 + 2) M A := h
theorem rise_down {k j M : Int} (hj : j ≤ k) : ∀ {A : Rg}, RiseR k M A → RiseR j M A
  | [], _ => trivial
  | (_, _) :: _, h => ⟨by have := h.1; omega, h.2.1, h.2.2.1, h.2.2.2⟩

/-- A range's text, and that with a blank ahead, says that range. -/
theorem print_alt : ∀ {A : Rg}, RangeR A → A ≠ [] → altR (printR A) = some A ∧ altR (⟨#[32]⟩ ++ printR A) = some A
  | [], _, h => absurd rfl h
  | [(lo, hi)], hA, _ => by
    obtain ⟨q1, q2, q3, _⟩ := rise_head hA
    obtain ⟨a, b⟩ := spT_alt (lo := lo) (hi := hi) ⟨q1, by simp at q2 q3; omega⟩ ⟨by simp at q1 q2; omega, q3⟩ q2
    have e : printR [(lo, hi)] = spT (lo, hi) := by
      unfold printR
      simp only [List.map_cons, List.map_nil]
      rw [Lib.join_one, list_of_bytes]
    rw [e]
    exact ⟨a, (pad_left b a).1⟩
  | (lo, hi) :: q :: r, hA, _ => by
    obtain ⟨q1, q2, q3, q4⟩ := rise_head hA
    have hB : RangeR (q :: r) := rise_down (by simp at q1 q2; omega) q4
    have hP : RangeR [(lo, hi)] := ⟨q1, q2, q3, trivial⟩
    obtain ⟨a, b⟩ := spT_alt (lo := lo) (hi := hi) ⟨q1, by simp at q2 q3; omega⟩ ⟨by simp at q1 q2; omega, q3⟩ q2
    obtain ⟨_, i2⟩ := print_alt hB (by simp)
    have hj : joinR [(lo, hi)] (q :: r) = (lo, hi) :: q :: r := range_one (hP.join hB) hA fun n => by
      rw [join_in hP hB]
      simp only [InR, or_false]
    have e : printR ((lo, hi) :: q :: r) = ((spT (lo, hi) ++ ⟨#[32]⟩) ++ ⟨#[124, 124]⟩) ++ (⟨#[32]⟩ ++ printR (q :: r)) := by
      refine same_list ?_
      simp only [cat_list]
      unfold printR
      simp only [List.map_cons]
      rw [Lib.join_cons]
      have : Lib.joinTail [32, 124, 124, 32] ((spT q).data.toList :: r.map fun p => (spT p).data.toList) = [32, 124, 124, 32] ++ Lib.join ((spT q).data.toList :: r.map fun p => (spT p).data.toList) [32, 124, 124, 32] := by
        rw [Lib.join_cons]
        simp [Lib.joinTail]
      rw [this]
      simp
    obtain ⟨c1, d1⟩ := pad_right b a
    obtain ⟨c2, d2⟩ := pad_left b a
    obtain ⟨c3, d3⟩ := pad_right d2 c2
    refine ⟨by rw [e, alt_both c1 i2, hj], ?_⟩
    have e2 : ⟨#[32]⟩ ++ printR ((lo, hi) :: q :: r) = (((⟨#[32]⟩ ++ spT (lo, hi)) ++ ⟨#[32]⟩) ++ ⟨#[124, 124]⟩) ++ (⟨#[32]⟩ ++ printR (q :: r)) := by
      rw [e]
      refine same_list ?_
      simp only [cat_list]
      simp
    rw [e2, alt_both c3 i2, hj]

theorem lt_sign : SignB ⟨#[60]⟩ := by intro x hx; simp at hx; rw [hx]; decide
theorem print_says {A : Rg} (hA : RangeR A) : altR (printR A) = some A := by
  cases A with
  | cons p A => exact (print_alt hA (by simp)).1
  | nil =>
    have := (sign_alt lt_sign (a := 0) (b := 0) (c := 0) (by decide +kernel) (X := cutR allR [(0, 999999999)]) (by rw [rank_000]; rfl)).1
    have e : cutR allR [(0, 999999999)] = [] := by decide +kernel
    rw [e] at this
    exact this
theorem print_size {A : Rg} (hl : A.length ≤ 64) : (printR A).size ≤ 4096 := by
  cases A with
  | nil => have := text_size 0 0 0; have z : (⟨#[60]⟩ : ByteArray).size = 1 := rfl; show (⟨#[60]⟩ ++ textV 0 0 0).size ≤ 4096; rw [size_cat]; omega
  | cons p A =>
    show (⟨(Lib.join ((p :: A).map fun p => (spT p).data.toList) [32, 124, 124, 32]).toArray⟩ : ByteArray).size ≤ 4096
    rw [bytes_size, List.map_cons, Lib.join_length, ← List.map_cons (f := fun p => (spT p).data.toList)]
    have := lens_le 27 ((p :: A).map fun p => (spT p).data.toList) (by
      intro x hx
      obtain ⟨q, _, rfl⟩ := List.mem_map.1 hx
      exact spanT_size _ _ _ _ _ _)
    simp only [List.length_map, List.length_cons, List.length_nil] at *
    omega
theorem print_par {A : Rg} (hA : RangeR A) (hl : A.length ≤ 64) : parR (printR A) = some A := by
  unfold parR
  rw [if_pos (print_size hl)]
  exact print_says hA
end Go.Proofs.YtipibibhkmhihaaGreatDoor
namespace Go.Proofs.YtipibibhkmhihaaGreatDoor
open Go.RowKit
set_option maxRecDepth 100000

/-- Spans' texts, with bars between. -/
def joinT (l : Rg) : ByteArray := ⟨(Lib.join (l.map fun p => (spT p).data.toList) [32, 124, 124, 32]).toArray⟩
theorem jmore {l : List (List UInt8)} (h : l ≠ []) (x sep : List UInt8) : Lib.join (l ++ [x]) sep = Lib.join l sep ++ sep ++ x := by
  cases l with
  | nil => exact absurd rfl h
  | cons y l =>
    rw [List.cons_append, Lib.join_cons, Lib.join_cons]
    simp [Lib.joinTail]
theorem joinT_zero {A : Rg} (h : 0 < A.length) : joinT (A.take (0 + 1)) = spT A[0] := by
  unfold joinT
  rw [List.take_succ_eq_append_getElem h]
  simp only [List.take_zero, List.nil_append, List.map_cons, List.map_nil]
  rw [Lib.join_one, list_of_bytes]
theorem joinT_more {A : Rg} {k : Nat} (h : k < A.length) (h0 : k ≠ 0) : joinT (A.take (k + 1)) = (joinT (A.take k) ++ ⟨#[32, 124, 124, 32]⟩) ++ spT A[k] := by
  have hne : (A.take k).map (fun p => (spT p).data.toList) ≠ [] := by
    intro e
    have := congrArg List.length e
    rw [List.length_map, List.length_take, List.length_nil] at this
    omega
  refine same_list ?_
  simp only [cat_list]
  unfold joinT
  rw [List.take_succ_eq_append_getElem h, List.map_append]
  simp only [List.map_cons, List.map_nil]
  rw [jmore hne]
theorem joinT_size {A : Rg} (hl : A.length ≤ 64) (k : Nat) : (joinT (A.take k)).size ≤ 10000 := by
  unfold joinT
  rw [bytes_size]
  exact join_fits (by rw [List.length_take]; omega)
theorem printR_join {A : Rg} (h : A ≠ []) : printR A = joinT A := by
  cases A with
  | nil => exact absurd rfl h
  | cons _ _ => rfl

theorem triple_eq {lo hi : Int} (h1 : okR lo) (h2 : okR hi) : (atA lo = atA hi ∧ atB lo = atB hi ∧ atC lo = atC hi) ↔ lo = hi := by
  obtain ⟨m1, e1⟩ := may_at h1.has
  obtain ⟨m2, e2⟩ := may_at h2.has
  constructor
  · rintro ⟨a, b, c⟩
    rw [← e1, ← e2, a, b, c]
  · rintro rfl
    exact ⟨rfl, rfl, rfl⟩
theorem triple_zero {lo : Int} (h1 : okR lo) : (atA lo = 0 ∧ atB lo = 0 ∧ atC lo = 0) ↔ lo = 0 := by
  obtain ⟨m1, e1⟩ := may_at h1.has
  constructor
  · rintro ⟨a, b, c⟩
    rw [← e1, a, b, c]; exact rank_000
  · rintro rfl
    decide +kernel
theorem triple_last {hi : Int} (h1 : okR hi) : (atA hi = 999 ∧ atB hi = 999 ∧ atC hi = 999) ↔ hi = 999999999 := by
  obtain ⟨m1, e1⟩ := may_at h1.has
  constructor
  · rintro ⟨a, b, c⟩
    rw [← e1, a, b, c]; exact rank_999
  · rintro rfl
    decide +kernel
theorem spT_is {lo hi : Int} (h1 : okR lo) (h2 : okR hi) : spT (lo, hi) = if lo = hi then textV (atA lo) (atB lo) (atC lo) else if lo = 0 ∧ hi = 999999999 then ⟨#[42]⟩ else if lo = 0 then ⟨#[60, 61]⟩ ++ textV (atA hi) (atB hi) (atC hi) else
    if hi = 999999999 then ⟨#[62, 61]⟩ ++ textV (atA lo) (atB lo) (atC lo) else ((⟨#[62, 61]⟩ ++ textV (atA lo) (atB lo) (atC lo)) ++ ⟨#[32, 60, 61]⟩) ++ textV (atA hi) (atB hi) (atC hi) := by
  unfold spT spanT
  simp only [triple_eq h1 h2, triple_zero h1, triple_last h2]

theorem range_ok {A : Rg} {k M : Int} (h : RiseR k M A) (hk : 0 ≤ k) : ∀ p ∈ A, 0 ≤ p.1 ∧ p.1 ≤ p.2 ∧ p.2 ≤ M := by
  induction A generalizing k with
  | nil => intro p hp; cases hp
  | cons q A ih =>
    obtain ⟨q1, q2, q3, q4⟩ := rise_head h
    intro p hp
    rcases List.mem_cons.1 hp with rfl | hp
    · exact ⟨by omega, q2, q3⟩
    · exact ih q4 (by omega) p hp

set_option maxHeartbeats 12800000 in
theorem rPrint_walk (A : Rg) (hA : RangeR A) (h0 : A ≠ []) (g o cap : Nat) (w : World) (hlen : A.length ≤ 64) (hg : g < w.heap.size) (hl : ∀ i (h : i < A.length), SpAt w g (o + i * 6) (spR A[i]))
    (HMay : Hid (Calls Tryz.prog 19 #[.slice (some ⟨g, o, none⟩) A.length cap] w fun e w' => e = .returned (.bool true) ∧ Below w.heap.size w w')) :
    Calls Tryz.prog 18 #[.slice (some ⟨g, o, none⟩) A.length cap] w fun e w' => e = .returned (.string (printR A)) ∧ Below w.heap.size w w' := by
  have HL : Hid (∀ w1, Below w.heap.size w w1 → ∀ i (h : i < A.length), SpIn w1 g (o + i * 6) (spR A[i])) := fun w1 hb i hi => ⟨(hl i hi).below hb hg, Nat.lt_of_lt_of_le hg hb.size⟩
  have HPJ := hide3 (printR_join h0)
  have HRO : Hid (∀ p ∈ A, 0 ≤ p.1 ∧ p.1 ≤ p.2 ∧ p.2 ≤ 999999999) := range_ok hA (Int.le_refl 0)
  have hl0 : ((A.length : Int) == 0) = false := by
    rw [beq_eq_false_iff_ne]
    have := List.length_pos_iff.2 h0
    omega
  have hgd := guardV
  clear hl hA
  go_enter Tryz.func18, Tryz.ntmps18
  go_wp2_with (go_at_call 19; refine HMay.out.mono ?_; rintro e w1 ⟨rfl, ok1⟩; have HO1 := hide3 ok1; clear ok1)
  go_loopw [3, 4] (fun out i wr => ∃ k : Nat, k ≤ A.length ∧ i = .int .i64 k ∧ out = .string (joinT (A.take k)) ∧ Below w.heap.size w wr) (fun _ i _ => A.length - (intOf i).toNat)
  case atStart => exact ⟨0, Nat.zero_le _, rfl, by rw [List.take_zero]; rfl, HO1.out⟩
  case round =>
    obtain ⟨k, hk, rfl, rfl, hb⟩ := hrel
    have HB := hide3 hb
    by_cases hlt : k < A.length
    · have hs := HL.out wr hb k hlt
      obtain ⟨ok1, ok2, ok3⟩ := HRO.out _ (List.getElem_mem hlt)
      have hyz := joinT_size hlen k
      have HN0 : Hid (k = 0 → joinT (A.take (k + 1)) = joinT (A.take k) ++ spT A[k]) := by
        intro e
        subst e
        rw [joinT_zero hlt]
        exact (empty_cat _).symm
      have HN1 : Hid (k ≠ 0 → joinT (A.take (k + 1)) = (joinT (A.take k) ++ ⟨#[32, 124, 124, 32]⟩) ++ spT A[k]) := joinT_more hlt
      have HO : Hid (Below w.heap.size w wr ∧ SpIn wr g (o + k * 6) (spR A[k])) := ⟨hb, hs⟩
      have HK : Hid (KeepP fun w1 => Below w.heap.size w w1 ∧ SpIn w1 g (o + k * 6) (spR A[k])) := (keepBelow w).and (keepSp _ _ _)
      clear hb
      generalize A[k] = p at *
      obtain ⟨lo, hi⟩ := p
      simp only at ok1 ok2 ok3
      have h1 : okR lo := ⟨ok1, by omega⟩
      have h2 : okR hi := ⟨by omega, ok3⟩
      have hsp := spT_is h1 h2
      obtain ⟨m1, q1⟩ := may_at h1.has
      obtain ⟨m2, q2⟩ := may_at h2.has
      have zL := text_size (atA lo) (atB lo) (atC lo)
      have zH := text_size (atA hi) (atB hi) (atC hi)
      have e1 := eqlV (atA lo) (atB lo) (atC lo) (atA hi) (atB hi) (atC hi)
      have HPL : Hid (∀ w1, Calls Tryz.prog 39 #[.agg #[.int .i64 (atA lo), .int .i64 (atB lo), .int .i64 (atC lo)]] w1 fun e w' => e = .returned (.string (textV (atA lo) (atB lo) (atC lo))) ∧ Below w1.heap.size w1 w') := rPrint_any _ _ _
      have HPH : Hid (∀ w1, Calls Tryz.prog 39 #[.agg #[.int .i64 (atA hi), .int .i64 (atB hi), .int .i64 (atC hi)]] w1 fun e w' => e = .returned (.string (textV (atA hi) (atB hi) (atC hi))) ∧ Below w1.heap.size w1 w') := rPrint_any _ _ _
      have HRL : Hid (∀ w1, Calls Tryz.prog 40 #[.agg #[.int .i64 (atA lo), .int .i64 (atB lo), .int .i64 (atC lo)]] w1 fun e w' => e = .returned (.int .i64 lo) ∧ Below w1.heap.size w1 w') := fun w1 => by have := rrank_any (atA lo) (atB lo) (atC lo) w1; rw [q1] at this; exact this
      have HRH : Hid (∀ w1, Calls Tryz.prog 40 #[.agg #[.int .i64 (atA hi), .int .i64 (atB hi), .int .i64 (atC hi)]] w1 fun e w' => e = .returned (.int .i64 hi) ∧ Below w1.heap.size w1 w') := fun w1 => by have := rrank_any (atA hi) (atB hi) (atC hi) w1; rw [q2] at this; exact this
      simp only [triple_eq h1 h2] at e1
      simp only [spR] at HO HK hs
      clear m1 m2 q1 q2 h1 h2
      generalize textV (atA lo) (atB lo) (atC lo) = TL at *
      generalize textV (atA hi) (atB hi) (atC hi) = TH at *
      generalize joinT (A.take k) = y at *
      generalize spT (lo, hi) = S at *
      generalize atA lo = a at *
      generalize atB lo = b at *
      generalize atC lo = c at *
      generalize atA hi = x at *
      generalize atB hi = y' at *
      generalize atC hi = z at *
      obtain ⟨⟨p0, p1, p2, p3, p4, p5⟩, p6⟩ := hs
      simp only at p0 p1 p2 p3 p4 p5
      have z1 : (⟨#[32, 124, 124, 32]⟩ : ByteArray).size = 4 := rfl
      have z2 : (⟨#[60, 61]⟩ : ByteArray).size = 2 := rfl
      have z3 : (⟨#[62, 61]⟩ : ByteArray).size = 2 := rfl
      have z4 : (⟨#[42]⟩ : ByteArray).size = 1 := rfl
      have z5 : (⟨#[32]⟩ : ByteArray).size = 1 := rfl
      have t1 : True := trivial
      have t2 : True := trivial
      have t3 : True := trivial
      have t4 : True := trivial
      have t5 : True := trivial
      by_cases c1 : lo = hi
      · rw [decide_eq_true c1] at e1
        rw [if_pos c1] at hsp
        clear c1
        by_cases hk0 : k = 0
        · have HX : Hid (y ++ TL = joinT (A.take (k + 1))) := by
            unfold Hid
            rw [HN0.out hk0, hsp]
          have hkk : ¬ (0 : Int) < (k : Int) := by omega
          clear hsp hk0 HN0 HN1
          go_wp2_with (first | (have _h := t1; go_at_call 39; refine (HPL.out _).mono ?_; rintro e wz ⟨rfl, ok⟩; have HO9 := hide3 (HK.out _ _ HO.out ok); clear ok HO t1 p0 p1 p2 p3 p4 p5 p6; have HO := HO9; clear HO9; obtain ⟨_, ⟨p0, p1, p2, p3, p4, p5⟩, p6⟩ := HO.out) | (have _h := t2; go_at_call 39; refine (HPH.out _).mono ?_; rintro e wz ⟨rfl, ok⟩; have HO9 := hide3 (HK.out _ _ HO.out ok); clear ok HO t2 p0 p1 p2 p3 p4 p5 p6; have HO := HO9; clear HO9; obtain ⟨_, ⟨p0, p1, p2, p3, p4, p5⟩, p6⟩ := HO.out) | (have _h := t3; go_at_call 40; refine (HRL.out _).mono ?_; rintro e wz ⟨rfl, ok⟩; have HO9 := hide3 (HK.out _ _ HO.out ok); clear ok HO t3 p0 p1 p2 p3 p4 p5 p6; have HO := HO9; clear HO9; obtain ⟨_, ⟨p0, p1, p2, p3, p4, p5⟩, p6⟩ := HO.out) | (have _h := t4; go_at_call 40; refine (HRH.out _).mono ?_; rintro e wz ⟨rfl, ok⟩; have HO9 := hide3 (HK.out _ _ HO.out ok); clear ok HO t4 p0 p1 p2 p3 p4 p5 p6; have HO := HO9; clear HO9; obtain ⟨_, ⟨p0, p1, p2, p3, p4, p5⟩, p6⟩ := HO.out))
          refine wp_region_keep HK.out (by kernel_rfl) (by kernel_rfl) (by first | exact HO.out | exact HK.out.drew HO.out) ?_
          intro C hin hout
          have HIN := hide3 hin
          have HOUT := hide3 hout
          clear hin hout HO
          repeat
            (with_reducible refine wpQuiet_step (fun K hK => ?_)
             go_simp
             first
               | (refine hK _ ?_; clear hK K)
               | (apply Exists.intro; refine ⟨fun w1 hC => ?_, hK _ ?_⟩; (focus ((first | (exact rfl) | (obtain ⟨hb1, ⟨p0, p1, p2, p3, p4, p5⟩, p6⟩ := HOUT.out w1 hC; clear hC; go_simp; first | done | exact rfl)); done)); clear hK K))
          refine wpQuiet_nil ?_
          intro wn hC
          have HO := hide3 (HOUT.out _ hC)
          clear hC HIN HOUT C
          obtain ⟨hb1, ⟨p0, p1, p2, p3, p4, p5⟩, p6⟩ := HO.out
          go_wp2_with (have _h := t5; go_at_call 39; refine (HPL.out _).mono ?_; rintro e wz ⟨rfl, ok⟩; have HO9 := hide3 (HK.out _ _ HO.out ok); clear ok HO t5 p0 p1 p2 p3 p4 p5 p6; have HO := HO9; clear HO9; obtain ⟨_, ⟨p0, p1, p2, p3, p4, p5⟩, p6⟩ := HO.out)
          exact ⟨⟨k + 1, by omega, by go_num, by rw [HX.out], HO.out.1⟩, by simp [intOf]; omega⟩
        · have HX : Hid ((y ++ ⟨#[32, 124, 124, 32]⟩) ++ TL = joinT (A.take (k + 1))) := by
            unfold Hid
            rw [HN1.out hk0, hsp]
          have hkk : (0 : Int) < (k : Int) := by omega
          clear hsp hk0 HN0 HN1
          go_wp2_with (first | (have _h := t1; go_at_call 39; refine (HPL.out _).mono ?_; rintro e wz ⟨rfl, ok⟩; have HO9 := hide3 (HK.out _ _ HO.out ok); clear ok HO t1 p0 p1 p2 p3 p4 p5 p6; have HO := HO9; clear HO9; obtain ⟨_, ⟨p0, p1, p2, p3, p4, p5⟩, p6⟩ := HO.out) | (have _h := t2; go_at_call 39; refine (HPH.out _).mono ?_; rintro e wz ⟨rfl, ok⟩; have HO9 := hide3 (HK.out _ _ HO.out ok); clear ok HO t2 p0 p1 p2 p3 p4 p5 p6; have HO := HO9; clear HO9; obtain ⟨_, ⟨p0, p1, p2, p3, p4, p5⟩, p6⟩ := HO.out) | (have _h := t3; go_at_call 40; refine (HRL.out _).mono ?_; rintro e wz ⟨rfl, ok⟩; have HO9 := hide3 (HK.out _ _ HO.out ok); clear ok HO t3 p0 p1 p2 p3 p4 p5 p6; have HO := HO9; clear HO9; obtain ⟨_, ⟨p0, p1, p2, p3, p4, p5⟩, p6⟩ := HO.out) | (have _h := t4; go_at_call 40; refine (HRH.out _).mono ?_; rintro e wz ⟨rfl, ok⟩; have HO9 := hide3 (HK.out _ _ HO.out ok); clear ok HO t4 p0 p1 p2 p3 p4 p5 p6; have HO := HO9; clear HO9; obtain ⟨_, ⟨p0, p1, p2, p3, p4, p5⟩, p6⟩ := HO.out))
          refine wp_region_keep HK.out (by kernel_rfl) (by kernel_rfl) (by first | exact HO.out | exact HK.out.drew HO.out) ?_
          intro C hin hout
          have HIN := hide3 hin
          have HOUT := hide3 hout
          clear hin hout HO
          repeat
            (with_reducible refine wpQuiet_step (fun K hK => ?_)
             go_simp
             first
               | (refine hK _ ?_; clear hK K)
               | (apply Exists.intro; refine ⟨fun w1 hC => ?_, hK _ ?_⟩; (focus ((first | (exact rfl) | (obtain ⟨hb1, ⟨p0, p1, p2, p3, p4, p5⟩, p6⟩ := HOUT.out w1 hC; clear hC; go_simp; first | done | exact rfl)); done)); clear hK K))
          refine wpQuiet_nil ?_
          intro wn hC
          have HO := hide3 (HOUT.out _ hC)
          clear hC HIN HOUT C
          obtain ⟨hb1, ⟨p0, p1, p2, p3, p4, p5⟩, p6⟩ := HO.out
          go_wp2_with (have _h := t5; go_at_call 39; refine (HPL.out _).mono ?_; rintro e wz ⟨rfl, ok⟩; have HO9 := hide3 (HK.out _ _ HO.out ok); clear ok HO t5 p0 p1 p2 p3 p4 p5 p6; have HO := HO9; clear HO9; obtain ⟨_, ⟨p0, p1, p2, p3, p4, p5⟩, p6⟩ := HO.out)
          exact ⟨⟨k + 1, by omega, by go_num, by rw [HX.out], HO.out.1⟩, by simp [intOf]; omega⟩
      · rw [decide_eq_false c1] at e1
        rw [if_neg c1] at hsp
        clear c1
        by_cases c2 : lo = 0
        · have f1 : (lo == 0) = true := by rw [beq_iff_eq]; exact c2
          by_cases c3 : hi = 999999999
          · have f2 : (hi == 999999999) = true := by rw [beq_iff_eq]; exact c3
            rw [if_pos ⟨c2, c3⟩] at hsp
            clear c2 c3
            by_cases hk0 : k = 0
            · have HX : Hid (y ++ ⟨#[42]⟩ = joinT (A.take (k + 1))) := by
                unfold Hid
                rw [HN0.out hk0, hsp]
              have hkk : ¬ (0 : Int) < (k : Int) := by omega
              clear hsp hk0 HN0 HN1 t5
              go_wp2_with (first | (have _h := t1; go_at_call 39; refine (HPL.out _).mono ?_; rintro e wz ⟨rfl, ok⟩; have HO9 := hide3 (HK.out _ _ HO.out ok); clear ok HO t1 p0 p1 p2 p3 p4 p5 p6; have HO := HO9; clear HO9; obtain ⟨_, ⟨p0, p1, p2, p3, p4, p5⟩, p6⟩ := HO.out) | (have _h := t2; go_at_call 39; refine (HPH.out _).mono ?_; rintro e wz ⟨rfl, ok⟩; have HO9 := hide3 (HK.out _ _ HO.out ok); clear ok HO t2 p0 p1 p2 p3 p4 p5 p6; have HO := HO9; clear HO9; obtain ⟨_, ⟨p0, p1, p2, p3, p4, p5⟩, p6⟩ := HO.out) | (have _h := t3; go_at_call 40; refine (HRL.out _).mono ?_; rintro e wz ⟨rfl, ok⟩; have HO9 := hide3 (HK.out _ _ HO.out ok); clear ok HO t3 p0 p1 p2 p3 p4 p5 p6; have HO := HO9; clear HO9; obtain ⟨_, ⟨p0, p1, p2, p3, p4, p5⟩, p6⟩ := HO.out) | (have _h := t4; go_at_call 40; refine (HRH.out _).mono ?_; rintro e wz ⟨rfl, ok⟩; have HO9 := hide3 (HK.out _ _ HO.out ok); clear ok HO t4 p0 p1 p2 p3 p4 p5 p6; have HO := HO9; clear HO9; obtain ⟨_, ⟨p0, p1, p2, p3, p4, p5⟩, p6⟩ := HO.out))
              refine wp_region_keep HK.out (by kernel_rfl) (by kernel_rfl) (by first | exact HO.out | exact HK.out.drew HO.out) ?_
              intro C hin hout
              have HIN := hide3 hin
              have HOUT := hide3 hout
              clear hin hout HO
              repeat
                (with_reducible refine wpQuiet_step (fun K hK => ?_)
                 go_simp
                 first
                   | (refine hK _ ?_; clear hK K)
                   | (apply Exists.intro; refine ⟨fun w1 hC => ?_, hK _ ?_⟩; (focus ((first | (exact rfl) | (obtain ⟨hb1, ⟨p0, p1, p2, p3, p4, p5⟩, p6⟩ := HOUT.out w1 hC; clear hC; go_simp; first | done | exact rfl)); done)); clear hK K))
              refine wpQuiet_nil ?_
              intro wn hC
              have HO := hide3 (HOUT.out _ hC)
              clear hC HIN HOUT C
              obtain ⟨hb1, ⟨p0, p1, p2, p3, p4, p5⟩, p6⟩ := HO.out
              go_wp2
              exact ⟨⟨k + 1, by omega, by go_num, by rw [HX.out], HO.out.1⟩, by simp [intOf]; omega⟩
            · have HX : Hid ((y ++ ⟨#[32, 124, 124, 32]⟩) ++ ⟨#[42]⟩ = joinT (A.take (k + 1))) := by
                unfold Hid
                rw [HN1.out hk0, hsp]
              have hkk : (0 : Int) < (k : Int) := by omega
              clear hsp hk0 HN0 HN1 t5
              go_wp2_with (first | (have _h := t1; go_at_call 39; refine (HPL.out _).mono ?_; rintro e wz ⟨rfl, ok⟩; have HO9 := hide3 (HK.out _ _ HO.out ok); clear ok HO t1 p0 p1 p2 p3 p4 p5 p6; have HO := HO9; clear HO9; obtain ⟨_, ⟨p0, p1, p2, p3, p4, p5⟩, p6⟩ := HO.out) | (have _h := t2; go_at_call 39; refine (HPH.out _).mono ?_; rintro e wz ⟨rfl, ok⟩; have HO9 := hide3 (HK.out _ _ HO.out ok); clear ok HO t2 p0 p1 p2 p3 p4 p5 p6; have HO := HO9; clear HO9; obtain ⟨_, ⟨p0, p1, p2, p3, p4, p5⟩, p6⟩ := HO.out) | (have _h := t3; go_at_call 40; refine (HRL.out _).mono ?_; rintro e wz ⟨rfl, ok⟩; have HO9 := hide3 (HK.out _ _ HO.out ok); clear ok HO t3 p0 p1 p2 p3 p4 p5 p6; have HO := HO9; clear HO9; obtain ⟨_, ⟨p0, p1, p2, p3, p4, p5⟩, p6⟩ := HO.out) | (have _h := t4; go_at_call 40; refine (HRH.out _).mono ?_; rintro e wz ⟨rfl, ok⟩; have HO9 := hide3 (HK.out _ _ HO.out ok); clear ok HO t4 p0 p1 p2 p3 p4 p5 p6; have HO := HO9; clear HO9; obtain ⟨_, ⟨p0, p1, p2, p3, p4, p5⟩, p6⟩ := HO.out))
              refine wp_region_keep HK.out (by kernel_rfl) (by kernel_rfl) (by first | exact HO.out | exact HK.out.drew HO.out) ?_
              intro C hin hout
              have HIN := hide3 hin
              have HOUT := hide3 hout
              clear hin hout HO
              repeat
                (with_reducible refine wpQuiet_step (fun K hK => ?_)
                 go_simp
                 first
                   | (refine hK _ ?_; clear hK K)
                   | (apply Exists.intro; refine ⟨fun w1 hC => ?_, hK _ ?_⟩; (focus ((first | (exact rfl) | (obtain ⟨hb1, ⟨p0, p1, p2, p3, p4, p5⟩, p6⟩ := HOUT.out w1 hC; clear hC; go_simp; first | done | exact rfl)); done)); clear hK K))
              refine wpQuiet_nil ?_
              intro wn hC
              have HO := hide3 (HOUT.out _ hC)
              clear hC HIN HOUT C
              obtain ⟨hb1, ⟨p0, p1, p2, p3, p4, p5⟩, p6⟩ := HO.out
              go_wp2
              exact ⟨⟨k + 1, by omega, by go_num, by rw [HX.out], HO.out.1⟩, by simp [intOf]; omega⟩
          · have f2 : (hi == 999999999) = false := by rw [beq_eq_false_iff_ne]; exact c3
            rw [if_neg (fun h => c3 h.2), if_pos c2] at hsp
            clear c2 c3
            by_cases hk0 : k = 0
            · have HX : Hid (y ++ (⟨#[60, 61]⟩ ++ TH) = joinT (A.take (k + 1))) := by
                unfold Hid
                rw [HN0.out hk0, hsp]
              have hkk : ¬ (0 : Int) < (k : Int) := by omega
              clear hsp hk0 HN0 HN1 t5
              go_wp2_with (first | (have _h := t1; go_at_call 39; refine (HPL.out _).mono ?_; rintro e wz ⟨rfl, ok⟩; have HO9 := hide3 (HK.out _ _ HO.out ok); clear ok HO t1 p0 p1 p2 p3 p4 p5 p6; have HO := HO9; clear HO9; obtain ⟨_, ⟨p0, p1, p2, p3, p4, p5⟩, p6⟩ := HO.out) | (have _h := t2; go_at_call 39; refine (HPH.out _).mono ?_; rintro e wz ⟨rfl, ok⟩; have HO9 := hide3 (HK.out _ _ HO.out ok); clear ok HO t2 p0 p1 p2 p3 p4 p5 p6; have HO := HO9; clear HO9; obtain ⟨_, ⟨p0, p1, p2, p3, p4, p5⟩, p6⟩ := HO.out) | (have _h := t3; go_at_call 40; refine (HRL.out _).mono ?_; rintro e wz ⟨rfl, ok⟩; have HO9 := hide3 (HK.out _ _ HO.out ok); clear ok HO t3 p0 p1 p2 p3 p4 p5 p6; have HO := HO9; clear HO9; obtain ⟨_, ⟨p0, p1, p2, p3, p4, p5⟩, p6⟩ := HO.out) | (have _h := t4; go_at_call 40; refine (HRH.out _).mono ?_; rintro e wz ⟨rfl, ok⟩; have HO9 := hide3 (HK.out _ _ HO.out ok); clear ok HO t4 p0 p1 p2 p3 p4 p5 p6; have HO := HO9; clear HO9; obtain ⟨_, ⟨p0, p1, p2, p3, p4, p5⟩, p6⟩ := HO.out))
              refine wp_region_keep HK.out (by kernel_rfl) (by kernel_rfl) (by first | exact HO.out | exact HK.out.drew HO.out) ?_
              intro C hin hout
              have HIN := hide3 hin
              have HOUT := hide3 hout
              clear hin hout HO
              repeat
                (with_reducible refine wpQuiet_step (fun K hK => ?_)
                 go_simp
                 first
                   | (refine hK _ ?_; clear hK K)
                   | (apply Exists.intro; refine ⟨fun w1 hC => ?_, hK _ ?_⟩; (focus ((first | (exact rfl) | (obtain ⟨hb1, ⟨p0, p1, p2, p3, p4, p5⟩, p6⟩ := HOUT.out w1 hC; clear hC; go_simp; first | done | exact rfl)); done)); clear hK K))
              refine wpQuiet_nil ?_
              intro wn hC
              have HO := hide3 (HOUT.out _ hC)
              clear hC HIN HOUT C
              obtain ⟨hb1, ⟨p0, p1, p2, p3, p4, p5⟩, p6⟩ := HO.out
              go_wp2
              exact ⟨⟨k + 1, by omega, by go_num, by rw [HX.out], HO.out.1⟩, by simp [intOf]; omega⟩
            · have HX : Hid ((y ++ ⟨#[32, 124, 124, 32]⟩) ++ (⟨#[60, 61]⟩ ++ TH) = joinT (A.take (k + 1))) := by
                unfold Hid
                rw [HN1.out hk0, hsp]
              have hkk : (0 : Int) < (k : Int) := by omega
              clear hsp hk0 HN0 HN1 t5
              go_wp2_with (first | (have _h := t1; go_at_call 39; refine (HPL.out _).mono ?_; rintro e wz ⟨rfl, ok⟩; have HO9 := hide3 (HK.out _ _ HO.out ok); clear ok HO t1 p0 p1 p2 p3 p4 p5 p6; have HO := HO9; clear HO9; obtain ⟨_, ⟨p0, p1, p2, p3, p4, p5⟩, p6⟩ := HO.out) | (have _h := t2; go_at_call 39; refine (HPH.out _).mono ?_; rintro e wz ⟨rfl, ok⟩; have HO9 := hide3 (HK.out _ _ HO.out ok); clear ok HO t2 p0 p1 p2 p3 p4 p5 p6; have HO := HO9; clear HO9; obtain ⟨_, ⟨p0, p1, p2, p3, p4, p5⟩, p6⟩ := HO.out) | (have _h := t3; go_at_call 40; refine (HRL.out _).mono ?_; rintro e wz ⟨rfl, ok⟩; have HO9 := hide3 (HK.out _ _ HO.out ok); clear ok HO t3 p0 p1 p2 p3 p4 p5 p6; have HO := HO9; clear HO9; obtain ⟨_, ⟨p0, p1, p2, p3, p4, p5⟩, p6⟩ := HO.out) | (have _h := t4; go_at_call 40; refine (HRH.out _).mono ?_; rintro e wz ⟨rfl, ok⟩; have HO9 := hide3 (HK.out _ _ HO.out ok); clear ok HO t4 p0 p1 p2 p3 p4 p5 p6; have HO := HO9; clear HO9; obtain ⟨_, ⟨p0, p1, p2, p3, p4, p5⟩, p6⟩ := HO.out))
              refine wp_region_keep HK.out (by kernel_rfl) (by kernel_rfl) (by first | exact HO.out | exact HK.out.drew HO.out) ?_
              intro C hin hout
              have HIN := hide3 hin
              have HOUT := hide3 hout
              clear hin hout HO
              repeat
                (with_reducible refine wpQuiet_step (fun K hK => ?_)
                 go_simp
                 first
                   | (refine hK _ ?_; clear hK K)
                   | (apply Exists.intro; refine ⟨fun w1 hC => ?_, hK _ ?_⟩; (focus ((first | (exact rfl) | (obtain ⟨hb1, ⟨p0, p1, p2, p3, p4, p5⟩, p6⟩ := HOUT.out w1 hC; clear hC; go_simp; first | done | exact rfl)); done)); clear hK K))
              refine wpQuiet_nil ?_
              intro wn hC
              have HO := hide3 (HOUT.out _ hC)
              clear hC HIN HOUT C
              obtain ⟨hb1, ⟨p0, p1, p2, p3, p4, p5⟩, p6⟩ := HO.out
              go_wp2
              exact ⟨⟨k + 1, by omega, by go_num, by rw [HX.out], HO.out.1⟩, by simp [intOf]; omega⟩
        · have f1 : (lo == 0) = false := by rw [beq_eq_false_iff_ne]; exact c2
          by_cases c3 : hi = 999999999
          · have f2 : (hi == 999999999) = true := by rw [beq_iff_eq]; exact c3
            rw [if_neg (fun h => c2 h.1), if_neg c2, if_pos c3] at hsp
            clear c2 c3
            by_cases hk0 : k = 0
            · have HX : Hid (y ++ (⟨#[62, 61]⟩ ++ TL) = joinT (A.take (k + 1))) := by
                unfold Hid
                rw [HN0.out hk0, hsp]
              have hkk : ¬ (0 : Int) < (k : Int) := by omega
              clear hsp hk0 HN0 HN1 t5
              go_wp2_with (first | (have _h := t1; go_at_call 39; refine (HPL.out _).mono ?_; rintro e wz ⟨rfl, ok⟩; have HO9 := hide3 (HK.out _ _ HO.out ok); clear ok HO t1 p0 p1 p2 p3 p4 p5 p6; have HO := HO9; clear HO9; obtain ⟨_, ⟨p0, p1, p2, p3, p4, p5⟩, p6⟩ := HO.out) | (have _h := t2; go_at_call 39; refine (HPH.out _).mono ?_; rintro e wz ⟨rfl, ok⟩; have HO9 := hide3 (HK.out _ _ HO.out ok); clear ok HO t2 p0 p1 p2 p3 p4 p5 p6; have HO := HO9; clear HO9; obtain ⟨_, ⟨p0, p1, p2, p3, p4, p5⟩, p6⟩ := HO.out) | (have _h := t3; go_at_call 40; refine (HRL.out _).mono ?_; rintro e wz ⟨rfl, ok⟩; have HO9 := hide3 (HK.out _ _ HO.out ok); clear ok HO t3 p0 p1 p2 p3 p4 p5 p6; have HO := HO9; clear HO9; obtain ⟨_, ⟨p0, p1, p2, p3, p4, p5⟩, p6⟩ := HO.out) | (have _h := t4; go_at_call 40; refine (HRH.out _).mono ?_; rintro e wz ⟨rfl, ok⟩; have HO9 := hide3 (HK.out _ _ HO.out ok); clear ok HO t4 p0 p1 p2 p3 p4 p5 p6; have HO := HO9; clear HO9; obtain ⟨_, ⟨p0, p1, p2, p3, p4, p5⟩, p6⟩ := HO.out))
              refine wp_region_keep HK.out (by kernel_rfl) (by kernel_rfl) (by first | exact HO.out | exact HK.out.drew HO.out) ?_
              intro C hin hout
              have HIN := hide3 hin
              have HOUT := hide3 hout
              clear hin hout HO
              repeat
                (with_reducible refine wpQuiet_step (fun K hK => ?_)
                 go_simp
                 first
                   | (refine hK _ ?_; clear hK K)
                   | (apply Exists.intro; refine ⟨fun w1 hC => ?_, hK _ ?_⟩; (focus ((first | (exact rfl) | (obtain ⟨hb1, ⟨p0, p1, p2, p3, p4, p5⟩, p6⟩ := HOUT.out w1 hC; clear hC; go_simp; first | done | exact rfl)); done)); clear hK K))
              refine wpQuiet_nil ?_
              intro wn hC
              have HO := hide3 (HOUT.out _ hC)
              clear hC HIN HOUT C
              obtain ⟨hb1, ⟨p0, p1, p2, p3, p4, p5⟩, p6⟩ := HO.out
              go_wp2
              exact ⟨⟨k + 1, by omega, by go_num, by rw [HX.out], HO.out.1⟩, by simp [intOf]; omega⟩
            · have HX : Hid ((y ++ ⟨#[32, 124, 124, 32]⟩) ++ (⟨#[62, 61]⟩ ++ TL) = joinT (A.take (k + 1))) := by
                unfold Hid
                rw [HN1.out hk0, hsp]
              have hkk : (0 : Int) < (k : Int) := by omega
              clear hsp hk0 HN0 HN1 t5
              go_wp2_with (first | (have _h := t1; go_at_call 39; refine (HPL.out _).mono ?_; rintro e wz ⟨rfl, ok⟩; have HO9 := hide3 (HK.out _ _ HO.out ok); clear ok HO t1 p0 p1 p2 p3 p4 p5 p6; have HO := HO9; clear HO9; obtain ⟨_, ⟨p0, p1, p2, p3, p4, p5⟩, p6⟩ := HO.out) | (have _h := t2; go_at_call 39; refine (HPH.out _).mono ?_; rintro e wz ⟨rfl, ok⟩; have HO9 := hide3 (HK.out _ _ HO.out ok); clear ok HO t2 p0 p1 p2 p3 p4 p5 p6; have HO := HO9; clear HO9; obtain ⟨_, ⟨p0, p1, p2, p3, p4, p5⟩, p6⟩ := HO.out) | (have _h := t3; go_at_call 40; refine (HRL.out _).mono ?_; rintro e wz ⟨rfl, ok⟩; have HO9 := hide3 (HK.out _ _ HO.out ok); clear ok HO t3 p0 p1 p2 p3 p4 p5 p6; have HO := HO9; clear HO9; obtain ⟨_, ⟨p0, p1, p2, p3, p4, p5⟩, p6⟩ := HO.out) | (have _h := t4; go_at_call 40; refine (HRH.out _).mono ?_; rintro e wz ⟨rfl, ok⟩; have HO9 := hide3 (HK.out _ _ HO.out ok); clear ok HO t4 p0 p1 p2 p3 p4 p5 p6; have HO := HO9; clear HO9; obtain ⟨_, ⟨p0, p1, p2, p3, p4, p5⟩, p6⟩ := HO.out))
              refine wp_region_keep HK.out (by kernel_rfl) (by kernel_rfl) (by first | exact HO.out | exact HK.out.drew HO.out) ?_
              intro C hin hout
              have HIN := hide3 hin
              have HOUT := hide3 hout
              clear hin hout HO
              repeat
                (with_reducible refine wpQuiet_step (fun K hK => ?_)
                 go_simp
                 first
                   | (refine hK _ ?_; clear hK K)
                   | (apply Exists.intro; refine ⟨fun w1 hC => ?_, hK _ ?_⟩; (focus ((first | (exact rfl) | (obtain ⟨hb1, ⟨p0, p1, p2, p3, p4, p5⟩, p6⟩ := HOUT.out w1 hC; clear hC; go_simp; first | done | exact rfl)); done)); clear hK K))
              refine wpQuiet_nil ?_
              intro wn hC
              have HO := hide3 (HOUT.out _ hC)
              clear hC HIN HOUT C
              obtain ⟨hb1, ⟨p0, p1, p2, p3, p4, p5⟩, p6⟩ := HO.out
              go_wp2
              exact ⟨⟨k + 1, by omega, by go_num, by rw [HX.out], HO.out.1⟩, by simp [intOf]; omega⟩
          · have f2 : (hi == 999999999) = false := by rw [beq_eq_false_iff_ne]; exact c3
            rw [if_neg (fun h => c2 h.1), if_neg c2, if_neg c3] at hsp
            clear c2 c3
            by_cases hk0 : k = 0
            · have HX : Hid (((y ++ (⟨#[62, 61]⟩ ++ TL)) ++ ⟨#[32]⟩) ++ (⟨#[60, 61]⟩ ++ TH) = joinT (A.take (k + 1))) := by
                unfold Hid
                rw [HN0.out hk0, hsp]
                refine same_list ?_
                simp only [cat_list]
                simp
              have hkk : ¬ (0 : Int) < (k : Int) := by omega
              clear hsp hk0 HN0 HN1 t5
              go_wp2_with (first | (have _h := t1; go_at_call 39; refine (HPL.out _).mono ?_; rintro e wz ⟨rfl, ok⟩; have HO9 := hide3 (HK.out _ _ HO.out ok); clear ok HO t1 p0 p1 p2 p3 p4 p5 p6; have HO := HO9; clear HO9; obtain ⟨_, ⟨p0, p1, p2, p3, p4, p5⟩, p6⟩ := HO.out) | (have _h := t2; go_at_call 39; refine (HPH.out _).mono ?_; rintro e wz ⟨rfl, ok⟩; have HO9 := hide3 (HK.out _ _ HO.out ok); clear ok HO t2 p0 p1 p2 p3 p4 p5 p6; have HO := HO9; clear HO9; obtain ⟨_, ⟨p0, p1, p2, p3, p4, p5⟩, p6⟩ := HO.out) | (have _h := t3; go_at_call 40; refine (HRL.out _).mono ?_; rintro e wz ⟨rfl, ok⟩; have HO9 := hide3 (HK.out _ _ HO.out ok); clear ok HO t3 p0 p1 p2 p3 p4 p5 p6; have HO := HO9; clear HO9; obtain ⟨_, ⟨p0, p1, p2, p3, p4, p5⟩, p6⟩ := HO.out) | (have _h := t4; go_at_call 40; refine (HRH.out _).mono ?_; rintro e wz ⟨rfl, ok⟩; have HO9 := hide3 (HK.out _ _ HO.out ok); clear ok HO t4 p0 p1 p2 p3 p4 p5 p6; have HO := HO9; clear HO9; obtain ⟨_, ⟨p0, p1, p2, p3, p4, p5⟩, p6⟩ := HO.out))
              refine wp_region_keep HK.out (by kernel_rfl) (by kernel_rfl) (by first | exact HO.out | exact HK.out.drew HO.out) ?_
              intro C hin hout
              have HIN := hide3 hin
              have HOUT := hide3 hout
              clear hin hout HO
              repeat
                (with_reducible refine wpQuiet_step (fun K hK => ?_)
                 go_simp
                 first
                   | (refine hK _ ?_; clear hK K)
                   | (apply Exists.intro; refine ⟨fun w1 hC => ?_, hK _ ?_⟩; (focus ((first | (exact rfl) | (obtain ⟨hb1, ⟨p0, p1, p2, p3, p4, p5⟩, p6⟩ := HOUT.out w1 hC; clear hC; go_simp; first | done | exact rfl)); done)); clear hK K))
              refine wpQuiet_nil ?_
              intro wn hC
              have HO := hide3 (HOUT.out _ hC)
              clear hC HIN HOUT C
              obtain ⟨hb1, ⟨p0, p1, p2, p3, p4, p5⟩, p6⟩ := HO.out
              go_wp2
              exact ⟨⟨k + 1, by omega, by go_num, by rw [HX.out], HO.out.1⟩, by simp [intOf]; omega⟩
            · have HX : Hid ((((y ++ ⟨#[32, 124, 124, 32]⟩) ++ (⟨#[62, 61]⟩ ++ TL)) ++ ⟨#[32]⟩) ++ (⟨#[60, 61]⟩ ++ TH) = joinT (A.take (k + 1))) := by
                unfold Hid
                rw [HN1.out hk0, hsp]
                refine same_list ?_
                simp only [cat_list]
                simp
              have hkk : (0 : Int) < (k : Int) := by omega
              clear hsp hk0 HN0 HN1 t5
              go_wp2_with (first | (have _h := t1; go_at_call 39; refine (HPL.out _).mono ?_; rintro e wz ⟨rfl, ok⟩; have HO9 := hide3 (HK.out _ _ HO.out ok); clear ok HO t1 p0 p1 p2 p3 p4 p5 p6; have HO := HO9; clear HO9; obtain ⟨_, ⟨p0, p1, p2, p3, p4, p5⟩, p6⟩ := HO.out) | (have _h := t2; go_at_call 39; refine (HPH.out _).mono ?_; rintro e wz ⟨rfl, ok⟩; have HO9 := hide3 (HK.out _ _ HO.out ok); clear ok HO t2 p0 p1 p2 p3 p4 p5 p6; have HO := HO9; clear HO9; obtain ⟨_, ⟨p0, p1, p2, p3, p4, p5⟩, p6⟩ := HO.out) | (have _h := t3; go_at_call 40; refine (HRL.out _).mono ?_; rintro e wz ⟨rfl, ok⟩; have HO9 := hide3 (HK.out _ _ HO.out ok); clear ok HO t3 p0 p1 p2 p3 p4 p5 p6; have HO := HO9; clear HO9; obtain ⟨_, ⟨p0, p1, p2, p3, p4, p5⟩, p6⟩ := HO.out) | (have _h := t4; go_at_call 40; refine (HRH.out _).mono ?_; rintro e wz ⟨rfl, ok⟩; have HO9 := hide3 (HK.out _ _ HO.out ok); clear ok HO t4 p0 p1 p2 p3 p4 p5 p6; have HO := HO9; clear HO9; obtain ⟨_, ⟨p0, p1, p2, p3, p4, p5⟩, p6⟩ := HO.out))
              refine wp_region_keep HK.out (by kernel_rfl) (by kernel_rfl) (by first | exact HO.out | exact HK.out.drew HO.out) ?_
              intro C hin hout
              have HIN := hide3 hin
              have HOUT := hide3 hout
              clear hin hout HO
              repeat
                (with_reducible refine wpQuiet_step (fun K hK => ?_)
                 go_simp
                 first
                   | (refine hK _ ?_; clear hK K)
                   | (apply Exists.intro; refine ⟨fun w1 hC => ?_, hK _ ?_⟩; (focus ((first | (exact rfl) | (obtain ⟨hb1, ⟨p0, p1, p2, p3, p4, p5⟩, p6⟩ := HOUT.out w1 hC; clear hC; go_simp; first | done | exact rfl)); done)); clear hK K))
              refine wpQuiet_nil ?_
              intro wn hC
              have HO := hide3 (HOUT.out _ hC)
              clear hC HIN HOUT C
              obtain ⟨hb1, ⟨p0, p1, p2, p3, p4, p5⟩, p6⟩ := HO.out
              go_wp2
              exact ⟨⟨k + 1, by omega, by go_num, by rw [HX.out], HO.out.1⟩, by simp [intOf]; omega⟩
    · have hke : k = A.length := by omega
      subst hke
      have HX : Hid (joinT (A.take A.length) = printR A) := by unfold Hid; rw [List.take_length, HPJ.out]
      clear hb
      go_wp2
      go_ret
      exact ⟨by rw [HX.out]; rfl, HB.out⟩
end Go.Proofs.YtipibibhkmhihaaGreatDoor
namespace Go.Proofs.YtipibibhkmhihaaGreatDoor
open Go.RowKit
set_option maxRecDepth 100000

theorem rPrint_no (v : Value) (w : World) (HMay : Hid (Says 19 #[v] w false)) :
    Calls Tryz.prog 18 #[v] w fun e w' => e = .returned (.string ⟨#[]⟩) ∧ Below w.heap.size w w' := by
  unfold Says at HMay
  go_enter Tryz.func18, Tryz.ntmps18
  go_wp2_with (go_at_call 19; refine HMay.out.mono ?_; rintro e w1 ⟨rfl, ok1⟩; have HO1 := hide3 ok1; clear ok1)
  go_ret
  exact ⟨rfl, HO1.out⟩

theorem print_nil_is : (⟨#[60, 48, 46, 48, 46, 48]⟩ : ByteArray) = printR [] := same_list (by decide +kernel)

theorem rPrint_nil (ad : Option Addr) (cap : Nat) (w : World) :
    Calls Tryz.prog 18 #[.slice ad 0 cap] w fun e w' => e = .returned (.string (printR [])) ∧ Below w.heap.size w w' := by
  have HMay := hide3 (rMay_nil ad cap w)
  have HP := hide3 print_nil_is
  go_enter Tryz.func18, Tryz.ntmps18
  go_wp2_with (go_at_call 19; refine HMay.out.mono ?_; rintro e w1 ⟨rfl, ok1⟩; have HO1 := hide3 ok1; clear ok1)
  go_ret
  exact ⟨by rw [← HP.out]; rfl, HO1.out⟩

theorem rPrint_rg {A : Rg} (hA : RangeR A) (hl : A.length ≤ 64) {v : Value} {w : World} (h : SpansR w v A) :
    Calls Tryz.prog 18 #[v] w fun e w' => e = .returned (.string (printR A)) ∧ Below w.heap.size w w' := by
  have HM : Hid (Calls Tryz.prog 19 #[v] w fun e w' => e = .returned (.bool true) ∧ Below w.heap.size w w') := by have := rMayL_any h.at; rw [may_rg hA hl] at this; exact this
  obtain ⟨ad, cap, rfl, hc, hs⟩ := h
  cases A with
  | nil => exact rPrint_nil ad cap w
  | cons p A =>
    rcases hs with hs | ⟨g, o, rfl, hg, hs⟩
    · cases hs
    · exact rPrint_walk (p :: A) hA (by simp) g o cap w hl hg hs HM

set_option maxHeartbeats 1600000 in
theorem writes_no {L : List Sp} {v : Value} {w : World} (h : SpansC w v L) (hm : mayL L = false) (he : Env w) (hf : FL w) :
    Says 5 #[v] w true := by
  have HP : Hid (Calls Tryz.prog 17 #[v] w fun e w' => e = .returned (.string ByteArray.empty) ∧ Below w.heap.size w w') := sPrint_no v w (by have := sMay_any h.1; rw [hm] at this; exact this)
  have HQ : Hid (∀ w1, Below w.heap.size w w1 → Calls Tryz.prog 18 #[v] w1 fun e w' => e = .returned (.string ⟨#[]⟩) ∧ Below w1.heap.size w1 w') := fun w1 hb => rPrint_no v w1 (by have := rMayL_any (h.below hb).1; rw [hm] at this; exact this)
  have HK : Hid (∀ w1, Below w.heap.size w w1 → Says 14 #[] w1 true) := fun w1 hb => known_any w1 (he.below hb) (hf.below hb)
  have HM : Hid (∀ w1, Below w.heap.size w w1 → Says 19 #[v] w1 false) := fun w1 hb => by have := rMayL_any (h.below hb).1; rw [hm] at this; exact this
  have hemp : (ByteArray.empty) = (⟨#[]⟩ : ByteArray) := rfl
  rw [hemp] at HP
  unfold Says at *
  clear h hm he hf hemp
  go_enter Tryz.func5, Tryz.ntmps5
  go_wp2_with (first
    | (go_at_call 17; refine HP.out.mono ?_; rintro e w1 ⟨rfl, ok⟩; have HB1 := hide3 ok; clear ok)
    | (go_at_call 18; refine (HQ.out _ HB1.out).mono ?_; rintro e w2 ⟨rfl, ok⟩; have HB2 := hide3 (below_then HB1.out ok); clear ok)
    | (go_at_call 14; refine (HK.out _ HB2.out).mono ?_; rintro e w3 ⟨rfl, ok⟩; have HB3 := hide3 (below_then HB2.out ok); clear ok)
    | (go_at_call 19; refine (HM.out _ HB3.out).mono ?_; rintro e w4 ⟨rfl, ok⟩; have HB4 := hide3 (below_then HB3.out ok); clear ok))
  go_ret
  exact ⟨rfl, HB4.out⟩

set_option maxHeartbeats 1600000 in
theorem writes_yes {A : Rg} (hA : RangeR A) (hl : A.length ≤ 64) {v : Value} {w : World} (h : SpansR w v A) (he : Env w) (hf : FL w) :
    Says 5 #[v] w true := by
  have HP : Hid (Calls Tryz.prog 17 #[v] w fun e w' => e = .returned (.string (printR A)) ∧ Below w.heap.size w w') := sPrint_rg hA hl h he hf
  have HQ : Hid (∀ w1, Below w.heap.size w w1 → Calls Tryz.prog 18 #[v] w1 fun e w' => e = .returned (.string (printR A)) ∧ Below w1.heap.size w1 w') := fun w1 hb => rPrint_rg hA hl (h.below hb)
  have HK : Hid (∀ w1, Below w.heap.size w w1 → Says 14 #[] w1 true) := fun w1 hb => known_any w1 (he.below hb) (hf.below hb)
  have HM : Hid (∀ w1, Below w.heap.size w w1 → Says 19 #[v] w1 true) := fun w1 hb => by have := rMayL_any (h.below hb).at; rw [may_rg hA hl] at this; exact this
  have HS : Hid (∀ w1, Below w.heap.size w w1 → Calls Tryz.prog 15 #[.string (printR A)] w1 fun e w' => ∃ u, e = .returned (.tuple #[u, .int .i64 0]) ∧ SpansR w' u A ∧ Below w1.heap.size w1 w') := by
    intro w1 hb
    refine (sParse_all (printR A) w1 (he.below hb) (hf.below hb)).mono ?_
    rintro e w' ⟨u, rfl, ho, hb1⟩
    rw [print_par hA hl] at ho ⊢
    have e1 : parE (some A) = 0 := by show fullE A.length = 0; exact full_0 hl
    have e2 : parL (some A) = A := by show fitR A = A; unfold fitR; rw [if_pos hl]
    rw [e1]
    rw [e2] at ho
    exact ⟨u, rfl, ho.spans, hb1⟩
  have HE : Hid (∀ w1 u, Below w.heap.size w w1 → SpansR w1 u A → Says 8 #[v, u] w1 true) := fun w1 u hb hu => same_rg hl (h.below hb) hu
  unfold Says at *
  clear h hA he hf
  generalize printR A = s at *
  go_enter Tryz.func5, Tryz.ntmps5
  go_wp2_with (first
    | (go_at_call 17; refine HP.out.mono ?_; rintro e w1 ⟨rfl, ok⟩; have HB1 := hide3 ok; clear ok)
    | (go_at_call 18; refine (HQ.out _ HB1.out).mono ?_; rintro e w2 ⟨rfl, ok⟩; have HB2 := hide3 (below_then HB1.out ok); clear ok)
    | (go_at_call 14; refine (HK.out _ HB2.out).mono ?_; rintro e w3 ⟨rfl, ok⟩; have HB3 := hide3 (below_then HB2.out ok); clear ok)
    | (go_at_call 19; refine (HM.out _ HB3.out).mono ?_; rintro e w4 ⟨rfl, ok⟩; have HB4 := hide3 (below_then HB3.out ok); clear ok)
    | (go_at_call 15; refine (HS.out _ HB4.out).mono ?_; rintro e w5 ⟨u5, rfl, hu5, ok⟩; have HU5 := hide3 hu5; have HB5 := hide3 (below_then HB4.out ok); clear ok hu5)
    | (go_at_call 8; refine (HE.out _ _ HB5.out HU5.out).mono ?_; rintro e w6 ⟨rfl, ok⟩; have HB6 := hide3 (below_then HB5.out ok); clear ok))
  go_ret
  exact ⟨rfl, HB6.out⟩

theorem writes_all {L : List Sp} {v : Value} {w : World} (h : SpansC w v L) (hq : Env w ∧ FL w) :
    Calls Tryz.prog 5 #[v] w fun e w' => e = .returned (.bool true) ∧ Below w.heap.size w w' := by
  rcases rg_or h with hm | ⟨A, rfl, hA, hl, hs⟩
  · exact writes_no h hm hq.1 hq.2
  · exact writes_yes hA hl hs hq.1 hq.2
end Go.Proofs.YtipibibhkmhihaaGreatDoor
