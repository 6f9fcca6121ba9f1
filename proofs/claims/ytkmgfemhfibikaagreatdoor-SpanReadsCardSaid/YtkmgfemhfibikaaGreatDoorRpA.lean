/- Rf1, Rf2, Fd2, Fd3, Fd4, Texts1, Rp1, Rp2, Rp3, Rp4, Sh1, Fd5, Rp5, Rp6, laid in one text. -/
import Derived.Test.YtkmgfemhfibikaaGreatDoorKn2
import Derived.Test.YtkmgfemhfibikaaGreatDoorFd1
import Derived.Deep.RegionHeld3
import Derived.Test.YtkmgfemhfibikaaGreatDoorTx6
import Derived.Test.YtkmgfemhfibikaaGreatDoorRef2
namespace Go.Proofs.YtkmgfemhfibikaaGreatDoor
open Go.RowKit
set_option maxRecDepth 100000

theorem rrank_any (a b c : Int) (w : World) :
    Calls Tryz.prog 47 #[.agg #[.int .i64 a, .int .i64 b, .int .i64 c]] w fun e w' => e = .returned (.int .i64 (rankV a b c)) ∧ Below w.heap.size w w' := by
  have HR : Hid (∀ w1, Calls Tryz.prog 70 #[.agg #[.int .i64 a, .int .i64 b, .int .i64 c]] w1 fun e w' => e = .returned (.tuple #[.int .i64 (rankV a b c), .bool (mayV a b c)]) ∧ Below w1.heap.size w1 w') := rRank_any a b c
  go_enter Tryz.func47, Tryz.ntmps47
  go_wp2_with (go_at_call 70; refine (HR.out _).mono ?_; rintro e w1 ⟨rfl, hb⟩)
  go_ret
  exact ⟨rfl, below_then (boxB _ _) hb⟩

theorem rank_small (a b c : Int) : 0 ≤ rankV a b c ∧ rankV a b c < 1000000000 := by
  cases h : mayV a b c
  · have : rankV a b c = 0 := by unfold rankV; rw [h]; rfl
    omega
  · exact rank_low h

/-- What the document's May asks of the span at a place, if those ahead are right. -/
theorem okAt_first {L : List Sp} {s : Sp} (h : L[0]? = some s) : okAt L 0 = (mayV s.a s.b s.c && mayV s.x s.y s.z && decide (rankV s.a s.b s.c ≤ rankV s.x s.y s.z)) := by
  unfold okAt
  rw [h]
  simp only [Bool.and_true]
  rw [Bool.eq_iff_iff, maySp_true, Bool.and_eq_true, Bool.and_eq_true, decide_eq_true_eq]
  constructor
  · rintro ⟨h1, h2, h3⟩; exact ⟨⟨h1, h2⟩, (cmp_lek h1 h2).1 h3⟩
  · rintro ⟨⟨h1, h2⟩, h3⟩; exact ⟨h1, h2, (cmp_lek h1 h2).2 h3⟩
theorem okAt_next {L : List Sp} {j : Nat} {s p : Sp} (h : L[j + 1]? = some s) (hp : L[j]? = some p) (hok : okAt L j = true) :
    okAt L (j + 1) = ((mayV s.a s.b s.c && mayV s.x s.y s.z && decide (rankV s.a s.b s.c ≤ rankV s.x s.y s.z)) && decide (rankV p.x p.y p.z + 1 < rankV s.a s.b s.c)) := by
  have hpm : mayV p.x p.y p.z = true := by
    unfold okAt at hok
    rw [hp] at hok
    simp only [Bool.and_eq_true] at hok
    exact (maySp_true.1 hok.1).2.1
  unfold okAt
  rw [h]
  simp only
  rw [hp]
  simp only
  rw [Bool.eq_iff_iff, Bool.and_eq_true, maySp_true, Bool.and_eq_true, Bool.and_eq_true, Bool.and_eq_true, decide_eq_true_eq, decide_eq_true_eq]
  constructor
  · rintro ⟨⟨h1, h2, h3⟩, h4⟩
    have := (apart_rk hpm h1).1 h4
    exact ⟨⟨⟨h1, h2⟩, (cmp_lek h1 h2).1 h3⟩, by omega⟩
  · rintro ⟨⟨⟨h1, h2⟩, h3⟩, h4⟩
    exact ⟨⟨h1, h2, (cmp_lek h1 h2).2 h3⟩, (apart_rk hpm h1).2 (by omega)⟩

set_option maxHeartbeats 6400000 in
theorem rMay_walk (L : List Sp) (g o cap : Nat) (w : World) (hlen : L.length ≤ 64) (hg : g < w.heap.size) (hl : ∀ i (h : i < L.length), SpAt w g (o + i * 6) L[i]) :
    Calls Tryz.prog 33 #[.slice (some ⟨g, o, none⟩) L.length cap] w fun e w' => e = .returned (.bool (mayL L)) ∧ Below w.heap.size w w' := by
  have HL : Hid (∀ w1, Below w.heap.size w w1 → ∀ i (h : i < L.length), SpIn w1 g (o + i * 6) L[i]) := fun w1 hb i hi => ⟨(hl i hi).below hb hg, Nat.lt_of_lt_of_le hg hb.size⟩
  clear hl
  have HT : Hid (mayL L = (List.range L.length).all (okAt L)) := by unfold Hid mayL; simp [hlen]
  have h64 : decide ((64 : Int) < (L.length : Int)) = false := decide_eq_false (by omega)
  go_enter Tryz.func33, Tryz.ntmps33
  go_wp2_with fail
  go_loopw [3] (fun i wr => ∃ k : Nat, k ≤ L.length ∧ i = .int .i64 k ∧ Below w.heap.size w wr ∧ ∀ j, j < k → okAt L j = true) (fun i _ => L.length - (intOf i).toNat)
  case atStart => exact ⟨0, Nat.zero_le _, rfl, Below.refl _ _, fun j hj => by omega⟩
  case round =>
    obtain ⟨k, hk, rfl, hb, hok⟩ := hrel
    have HOK := hide3 hok
    clear hok
    by_cases hlt : k < L.length
    · have HO : Hid (Below w.heap.size w wr ∧ SpIn wr g (o + k * 6) L[k]) := ⟨hb, HL.out wr hb k hlt⟩
      have HK : Hid (KeepP fun w1 => Below w.heap.size w w1 ∧ SpIn w1 g (o + k * 6) L[k]) := (keepBelow w).and (keepSp _ _ _)
      have HS : Hid (L[k]? = some L[k]) := List.getElem?_eq_getElem hlt
      generalize L[k] = s at *
      obtain ⟨a, b, c, x, y, z⟩ := s
      have HM1 : Hid (∀ w1, Calls Tryz.prog 54 #[.agg #[.int .i64 a, .int .i64 b, .int .i64 c]] w1 fun e w' => e = .returned (.bool (mayV a b c)) ∧ Below w1.heap.size w1 w') := rMay_any a b c
      have HM2 : Hid (∀ w1, Calls Tryz.prog 54 #[.agg #[.int .i64 x, .int .i64 y, .int .i64 z]] w1 fun e w' => e = .returned (.bool (mayV x y z)) ∧ Below w1.heap.size w1 w') := rMay_any x y z
      have HR1 : Hid (∀ w1, Calls Tryz.prog 47 #[.agg #[.int .i64 a, .int .i64 b, .int .i64 c]] w1 fun e w' => e = .returned (.int .i64 (rankV a b c)) ∧ Below w1.heap.size w1 w') := rrank_any a b c
      have HR2 : Hid (∀ w1, Calls Tryz.prog 47 #[.agg #[.int .i64 x, .int .i64 y, .int .i64 z]] w1 fun e w' => e = .returned (.int .i64 (rankV x y z)) ∧ Below w1.heap.size w1 w') := rrank_any x y z
      have HOKs : Hid (∀ v : Bool, (okAt L k = true → v = true) → (mayV a b c && mayV x y z && decide (rankV a b c ≤ rankV x y z)) = false → mayL L = false) := fun v _ hf => may_no HT.out hlt (by
        cases k with
        | zero => rw [okAt_first HS.out]; exact hf
        | succ j => rw [okAt_next HS.out (List.getElem?_eq_getElem (by omega)) (HOK.out j (by omega))]; simp only; rw [hf]; rfl)
      clear hb
      cases m1 : mayV a b c
      · have HF : Hid (mayL L = false) := HOKs.out true (fun _ => rfl) (by rw [m1]; rfl)
        rw [m1] at HM1
        clear HOKs
        go_wp2_with fail
        refine wp_region_keep HK.out (by kernel_rfl) (by kernel_rfl) (by first | exact HO.out | exact HK.out.drew HO.out) ?_
        intro C hin hout
        have HIN := hide3 hin
        have HOUT := hide3 hout
        clear hin hout HO
        repeat
          (with_reducible refine wpQuiet_step (fun K hK => ?_)
           go_simp
           first
             | (refine hK _ ?_; clear hK K)
             | (apply Exists.intro; refine ⟨fun w1 hC => ?_, hK _ ?_⟩; (focus ((first | (go_at_call 54; with_reducible exact callC HIN.out HOUT.out HK.out HM1.out w1 hC) | (exact rfl) | (obtain ⟨hb1, ⟨p0, p1, p2, p3, p4, p5⟩, p6⟩ := HOUT.out w1 hC; clear hC; go_simp; first | done | exact rfl)); done)); clear hK K))
        refine wpQuiet_nil ?_
        intro wn hC
        have HO := hide3 (HOUT.out _ hC)
        clear hC HIN HOUT C
        obtain ⟨hb1, ⟨p0, p1, p2, p3, p4, p5⟩, p6⟩ := HO.out
        go_wp2
        go_ret
        exact ⟨ret_bool HF.out.symm, HO.out.1⟩
      rw [m1] at HM1
      cases m2 : mayV x y z
      · have HF : Hid (mayL L = false) := HOKs.out true (fun _ => rfl) (by rw [m1, m2]; rfl)
        rw [m2] at HM2
        clear HOKs
        go_wp2_with fail
        refine wp_region_keep HK.out (by kernel_rfl) (by kernel_rfl) (by first | exact HO.out | exact HK.out.drew HO.out) ?_
        intro C hin hout
        have HIN := hide3 hin
        have HOUT := hide3 hout
        clear hin hout HO
        repeat
          (with_reducible refine wpQuiet_step (fun K hK => ?_)
           go_simp
           first
             | (refine hK _ ?_; clear hK K)
             | (apply Exists.intro; refine ⟨fun w1 hC => ?_, hK _ ?_⟩; (focus ((first | (go_at_call 54; with_reducible exact callC HIN.out HOUT.out HK.out HM1.out w1 hC) | (go_at_call 54; with_reducible exact callC HIN.out HOUT.out HK.out HM2.out w1 hC) | (exact rfl) | (obtain ⟨hb1, ⟨p0, p1, p2, p3, p4, p5⟩, p6⟩ := HOUT.out w1 hC; clear hC; go_simp; first | done | exact rfl)); done)); clear hK K))
        refine wpQuiet_nil ?_
        intro wn hC
        have HO := hide3 (HOUT.out _ hC)
        clear hC HIN HOUT C
        obtain ⟨hb1, ⟨p0, p1, p2, p3, p4, p5⟩, p6⟩ := HO.out
        go_wp2
        go_ret
        exact ⟨ret_bool HF.out.symm, HO.out.1⟩
      rw [m2] at HM2
      by_cases hr : rankV x y z < rankV a b c
      · have HF : Hid (mayL L = false) := HOKs.out true (fun _ => rfl) (by rw [m1, m2, decide_eq_false (by omega)]; rfl)
        clear HOKs
        generalize rankV a b c = r1 at *
        generalize rankV x y z = r2 at *
        go_wp2_with fail
        refine wp_region_keep HK.out (by kernel_rfl) (by kernel_rfl) (by first | exact HO.out | exact HK.out.drew HO.out) ?_
        intro C hin hout
        have HIN := hide3 hin
        have HOUT := hide3 hout
        clear hin hout HO
        repeat
          (with_reducible refine wpQuiet_step (fun K hK => ?_)
           go_simp
           first
             | (refine hK _ ?_; clear hK K)
             | (apply Exists.intro; refine ⟨fun w1 hC => ?_, hK _ ?_⟩; (focus ((first | (go_at_call 54; with_reducible exact callC HIN.out HOUT.out HK.out HM1.out w1 hC) | (go_at_call 54; with_reducible exact callC HIN.out HOUT.out HK.out HM2.out w1 hC) | (go_at_call 47; with_reducible exact callC HIN.out HOUT.out HK.out HR1.out w1 hC) | (go_at_call 47; with_reducible exact callC HIN.out HOUT.out HK.out HR2.out w1 hC) | (exact rfl) | (obtain ⟨hb1, ⟨p0, p1, p2, p3, p4, p5⟩, p6⟩ := HOUT.out w1 hC; clear hC; go_simp; first | done | exact rfl)); done)); clear hK K))
        refine wpQuiet_nil ?_
        intro wn hC
        have HO := hide3 (HOUT.out _ hC)
        clear hC HIN HOUT C
        obtain ⟨hb1, ⟨p0, p1, p2, p3, p4, p5⟩, p6⟩ := HO.out
        go_wp2
        go_ret
        exact ⟨ret_bool HF.out.symm, HO.out.1⟩
      · rcases Nat.eq_zero_or_pos k with h0 | h0
        · have HF : Hid (okAt L k = true) := by unfold Hid; subst h0; rw [okAt_first HS.out]; simp only; rw [m1, m2, decide_eq_true (by omega)]; rfl
          have H0 := hide3 h0
          have hk0 : decide ((0 : Int) < (k : Int)) = false := decide_eq_false (by omega)
          have hk1 : decide (0 < k) = false := decide_eq_false (by omega)
          clear HOKs h0
          generalize rankV a b c = r1 at *
          generalize rankV x y z = r2 at *
          go_wp2_with fail
          refine wp_region_keep HK.out (by kernel_rfl) (by kernel_rfl) (by first | exact HO.out | exact HK.out.drew HO.out) ?_
          intro C hin hout
          have HIN := hide3 hin
          have HOUT := hide3 hout
          clear hin hout HO
          repeat
            (with_reducible refine wpQuiet_step (fun K hK => ?_)
             go_simp
             first
               | (refine hK _ ?_; clear hK K)
               | (apply Exists.intro; refine ⟨fun w1 hC => ?_, hK _ ?_⟩; (focus ((first | (go_at_call 54; with_reducible exact callC HIN.out HOUT.out HK.out HM1.out w1 hC) | (go_at_call 54; with_reducible exact callC HIN.out HOUT.out HK.out HM2.out w1 hC) | (go_at_call 47; with_reducible exact callC HIN.out HOUT.out HK.out HR1.out w1 hC) | (go_at_call 47; with_reducible exact callC HIN.out HOUT.out HK.out HR2.out w1 hC) | (exact rfl) | (obtain ⟨hb1, ⟨p0, p1, p2, p3, p4, p5⟩, p6⟩ := HOUT.out w1 hC; clear hC; go_simp; first | done | exact rfl)); done)); clear hK K))
          refine wpQuiet_nil ?_
          intro wn hC
          have HO := hide3 (HOUT.out _ hC)
          clear hC HIN HOUT C
          obtain ⟨hb1, ⟨p0, p1, p2, p3, p4, p5⟩, p6⟩ := HO.out
          go_wp2_with fail
          clear hb1 p0 p1 p2 p3 p4 p5 p6
          refine wp_region_keep HK.out (by kernel_rfl) (by kernel_rfl) (by first | exact HO.out | exact HK.out.drew HO.out) ?_
          intro C hin hout
          have HIN := hide3 hin
          have HOUT := hide3 hout
          clear hin hout HO
          repeat
            (with_reducible refine wpQuiet_step (fun K hK => ?_)
             go_simp
             first
               | (refine hK _ ?_; clear hK K)
               | (apply Exists.intro; refine ⟨fun w1 hC => ?_, hK _ ?_⟩; (focus ((first | (exact rfl) | (obtain ⟨hb1, ⟨p0, p1, p2, p3, p4, p5⟩, p6⟩ := HOUT.out w1 hC; clear hC; go_simp; first | done | exact rfl)); done)); clear hK K))
          refine wpQuiet_nil ?_
          intro wm hC
          have HO := hide3 (HOUT.out _ hC)
          clear hC HIN HOUT C
          obtain ⟨hb1, ⟨p0, p1, p2, p3, p4, p5⟩, p6⟩ := HO.out
          go_wp2
          exact ⟨⟨k + 1, by omega, by go_num, HO.out.1, fun j hj => by rw [show j = k by have := H0.out; omega]; exact HF.out⟩, by simp [intOf]; omega⟩
        · obtain ⟨j, hj⟩ : ∃ j, k = j + 1 := ⟨k - 1, by omega⟩
          have hjl : j < L.length := by omega
          have HJ := hide3 hj
          have HPP : Hid (L[j]? = some L[j]) := List.getElem?_eq_getElem hjl
          have HO2 : Hid ((Below w.heap.size w wr ∧ SpIn wr g (o + k * 6) ⟨a, b, c, x, y, z⟩) ∧ SpIn wr g (o + j * 6) L[j]) := ⟨HO.out, HL.out wr HO.out.1 j hjl⟩
          have HK2 : Hid (KeepP fun w1 => (Below w.heap.size w w1 ∧ SpIn w1 g (o + k * 6) ⟨a, b, c, x, y, z⟩) ∧ SpIn w1 g (o + j * 6) L[j]) := HK.out.and (keepSp _ _ _)
          have HN : Hid (okAt L k = ((mayV a b c && mayV x y z && decide (rankV a b c ≤ rankV x y z)) && decide (rankV L[j].x L[j].y L[j].z + 1 < rankV a b c))) := by
            subst hj
            exact okAt_next HS.out HPP.out (HOK.out j (by omega))
          clear HO HK
          have HO := HO2
          have HK := HK2
          clear HO2 HK2
          generalize L[j] = p at *
          obtain ⟨p, q, r, u, v, t⟩ := p
          have HR3 : Hid (∀ w1, Calls Tryz.prog 47 #[.agg #[.int .i64 u, .int .i64 v, .int .i64 t]] w1 fun e w' => e = .returned (.int .i64 (rankV u v t)) ∧ Below w1.heap.size w1 w') := rrank_any u v t
          have hk0 : decide ((0 : Int) < (k : Int)) = true := decide_eq_true (by omega)
          have hk1 : decide (0 < k) = true := decide_eq_true (by omega)
          have hkj : (k : Int) - 1 = (j : Int) := by omega
          have hj2 : (j : Int) < (L.length : Int) := by omega
          have hwj : IntKind.i64.wrap (j : Int) = (j : Int) := wrap_small (by omega) (by omega)
          have hsm := rank_small u v t
          have hwr : IntKind.i64.wrap (rankV u v t + 1) = rankV u v t + 1 := wrap_small (by omega) (by omega)
          clear hj h0 hsm
          by_cases hp : rankV a b c ≤ rankV u v t + 1
          · have HF : Hid (mayL L = false) := may_no HT.out hlt (by rw [HN.out]; rw [decide_eq_false (p := rankV u v t + 1 < rankV a b c) (by omega), Bool.and_false])
            clear HOKs HN
            generalize rankV a b c = r1 at *
            generalize rankV x y z = r2 at *
            generalize rankV u v t = r3 at *
            go_wp2_with fail
            refine wp_region_keep HK.out (by kernel_rfl) (by kernel_rfl) (by first | exact HO.out | exact HK.out.drew HO.out) ?_
            intro C hin hout
            have HIN := hide3 hin
            have HOUT := hide3 hout
            clear hin hout HO
            repeat
              (with_reducible refine wpQuiet_step (fun K hK => ?_)
               go_simp
               first
                 | (refine hK _ ?_; clear hK K)
                 | (apply Exists.intro; refine ⟨fun w1 hC => ?_, hK _ ?_⟩; (focus ((first | (go_at_call 54; with_reducible exact callC HIN.out HOUT.out HK.out HM1.out w1 hC) | (go_at_call 54; with_reducible exact callC HIN.out HOUT.out HK.out HM2.out w1 hC) | (go_at_call 47; with_reducible exact callC HIN.out HOUT.out HK.out HR1.out w1 hC) | (go_at_call 47; with_reducible exact callC HIN.out HOUT.out HK.out HR2.out w1 hC) | (exact rfl) | (obtain ⟨⟨hb1, ⟨p0, p1, p2, p3, p4, p5⟩, p6⟩, ⟨q0, q1, q2, q3, q4, q5⟩, q6⟩ := HOUT.out w1 hC; clear hC; go_simp; first | done | exact rfl)); done)); clear hK K))
            refine wpQuiet_nil ?_
            intro wn hC
            have HO := hide3 (HOUT.out _ hC)
            clear hC HIN HOUT C
            obtain ⟨⟨hb1, ⟨p0, p1, p2, p3, p4, p5⟩, p6⟩, ⟨q0, q1, q2, q3, q4, q5⟩, q6⟩ := HO.out
            go_wp2_with fail
            clear hb1 p0 p1 p2 p3 p4 p5 p6 q0 q1 q2 q3 q4 q5 q6
            refine wp_region_keep HK.out (by kernel_rfl) (by kernel_rfl) (by first | exact HO.out | exact HK.out.drew HO.out) ?_
            intro C hin hout
            have HIN := hide3 hin
            have HOUT := hide3 hout
            clear hin hout HO
            repeat
              (with_reducible refine wpQuiet_step (fun K hK => ?_)
               go_simp
               first
                 | (refine hK _ ?_; clear hK K)
                 | (apply Exists.intro; refine ⟨fun w1 hC => ?_, hK _ ?_⟩; (focus ((first | (go_at_call 47; with_reducible exact callC HIN.out HOUT.out HK.out HR1.out w1 hC) | (go_at_call 47; with_reducible exact callC HIN.out HOUT.out HK.out HR3.out w1 hC) | (exact rfl) | (obtain ⟨⟨hb1, ⟨p0, p1, p2, p3, p4, p5⟩, p6⟩, ⟨q0, q1, q2, q3, q4, q5⟩, q6⟩ := HOUT.out w1 hC; clear hC; go_simp; first | done | exact rfl)); done)); clear hK K))
            refine wpQuiet_nil ?_
            intro wm hC
            have HO := hide3 (HOUT.out _ hC)
            clear hC HIN HOUT C
            obtain ⟨⟨hb1, ⟨p0, p1, p2, p3, p4, p5⟩, p6⟩, ⟨q0, q1, q2, q3, q4, q5⟩, q6⟩ := HO.out
            go_wp2
            go_ret
            exact ⟨ret_bool HF.out.symm, HO.out.1.1⟩
          · have HF : Hid (okAt L k = true) := by unfold Hid; rw [HN.out]; rw [m1, m2, decide_eq_true (p := rankV u v t + 1 < rankV a b c) (by omega), decide_eq_true (p := rankV a b c ≤ rankV x y z) (by omega)]; rfl
            clear HOKs HN
            generalize rankV a b c = r1 at *
            generalize rankV x y z = r2 at *
            generalize rankV u v t = r3 at *
            go_wp2_with fail
            refine wp_region_keep HK.out (by kernel_rfl) (by kernel_rfl) (by first | exact HO.out | exact HK.out.drew HO.out) ?_
            intro C hin hout
            have HIN := hide3 hin
            have HOUT := hide3 hout
            clear hin hout HO
            repeat
              (with_reducible refine wpQuiet_step (fun K hK => ?_)
               go_simp
               first
                 | (refine hK _ ?_; clear hK K)
                 | (apply Exists.intro; refine ⟨fun w1 hC => ?_, hK _ ?_⟩; (focus ((first | (go_at_call 54; with_reducible exact callC HIN.out HOUT.out HK.out HM1.out w1 hC) | (go_at_call 54; with_reducible exact callC HIN.out HOUT.out HK.out HM2.out w1 hC) | (go_at_call 47; with_reducible exact callC HIN.out HOUT.out HK.out HR1.out w1 hC) | (go_at_call 47; with_reducible exact callC HIN.out HOUT.out HK.out HR2.out w1 hC) | (exact rfl) | (obtain ⟨⟨hb1, ⟨p0, p1, p2, p3, p4, p5⟩, p6⟩, ⟨q0, q1, q2, q3, q4, q5⟩, q6⟩ := HOUT.out w1 hC; clear hC; go_simp; first | done | exact rfl)); done)); clear hK K))
            refine wpQuiet_nil ?_
            intro wn hC
            have HO := hide3 (HOUT.out _ hC)
            clear hC HIN HOUT C
            obtain ⟨⟨hb1, ⟨p0, p1, p2, p3, p4, p5⟩, p6⟩, ⟨q0, q1, q2, q3, q4, q5⟩, q6⟩ := HO.out
            go_wp2_with fail
            clear hb1 p0 p1 p2 p3 p4 p5 p6 q0 q1 q2 q3 q4 q5 q6
            refine wp_region_keep HK.out (by kernel_rfl) (by kernel_rfl) (by first | exact HO.out | exact HK.out.drew HO.out) ?_
            intro C hin hout
            have HIN := hide3 hin
            have HOUT := hide3 hout
            clear hin hout HO
            repeat
              (with_reducible refine wpQuiet_step (fun K hK => ?_)
               go_simp
               first
                 | (refine hK _ ?_; clear hK K)
                 | (apply Exists.intro; refine ⟨fun w1 hC => ?_, hK _ ?_⟩; (focus ((first | (go_at_call 47; with_reducible exact callC HIN.out HOUT.out HK.out HR1.out w1 hC) | (go_at_call 47; with_reducible exact callC HIN.out HOUT.out HK.out HR3.out w1 hC) | (exact rfl) | (obtain ⟨⟨hb1, ⟨p0, p1, p2, p3, p4, p5⟩, p6⟩, ⟨q0, q1, q2, q3, q4, q5⟩, q6⟩ := HOUT.out w1 hC; clear hC; go_simp; first | done | exact rfl)); done)); clear hK K))
            refine wpQuiet_nil ?_
            intro wm hC
            have HO := hide3 (HOUT.out _ hC)
            clear hC HIN HOUT C
            obtain ⟨⟨hb1, ⟨p0, p1, p2, p3, p4, p5⟩, p6⟩, ⟨q0, q1, q2, q3, q4, q5⟩, q6⟩ := HO.out
            go_wp2
            refine ⟨⟨k + 1, by omega, by go_num, HO.out.1.1, fun i hi => ?_⟩, by simp [intOf]; omega⟩
            rcases Nat.lt_or_ge i k with h | h
            · exact HOK.out i h
            · rw [show i = k by omega]; exact HF.out
    · have hke : k = L.length := by omega
      subst hke
      have HF : Hid (mayL L = true) := may_yes HT.out HOK.out
      have HB := hide3 hb
      clear hb
      go_wp2
      go_ret
      exact ⟨ret_bool HF.out.symm, HB.out⟩
end Go.Proofs.YtkmgfemhfibikaaGreatDoor
namespace Go.Proofs.YtkmgfemhfibikaaGreatDoor
open Go.RowKit
set_option maxRecDepth 100000

theorem rMay_nil (ad : Option Addr) (cap : Nat) (w : World) :
    Calls Tryz.prog 33 #[.slice ad 0 cap] w fun e w' => e = .returned (.bool true) ∧ Below w.heap.size w w' := by
  go_enter Tryz.func33, Tryz.ntmps33
  go_wp2_with fail
  go_loop [3] (fun i => i = .int .i64 0) (fun _ => 0)
  case atStart => rfl
  case round =>
    subst hrel
    go_wp2
    go_ret
    exact ⟨rfl, Below.refl _ _⟩

theorem rMay_many (ad : Option Addr) (n cap : Nat) (w : World) (h : 64 < n) :
    Calls Tryz.prog 33 #[.slice ad n cap] w fun e w' => e = .returned (.bool false) ∧ Below w.heap.size w w' := by
  have h1 : (64 : Int) < (n : Int) := by omega
  go_enter Tryz.func33, Tryz.ntmps33
  go_wp2
  go_ret
  exact ⟨rfl, Below.refl _ _⟩

theorem rMayL_any {w : World} {v : Value} {L : List Sp} (h : SpansAt w v L) :
    Calls Tryz.prog 33 #[v] w fun e w' => e = .returned (.bool (mayL L)) ∧ Below w.heap.size w w' := by
  obtain ⟨ad, cap, rfl, hl⟩ := h
  by_cases h64 : L.length ≤ 64
  · rcases hl with rfl | ⟨g, o, rfl, hg, hs⟩
    · exact rMay_nil ad cap w
    · exact rMay_walk L g o cap w h64 hg hs
  · have : mayL L = false := by unfold mayL; rw [decide_eq_false h64]; rfl
    rw [this]
    exact rMay_many ad _ cap w (by omega)

/-- A place is in one of some spans, by their ranks. -/
def hasN (n : Int) (s : Sp) : Bool := decide (rankV s.a s.b s.c ≤ n) && decide (n ≤ rankV s.x s.y s.z)

set_option maxHeartbeats 3200000 in
theorem has_walk (L : List Sp) (g o cap : Nat) (n : Int) (w : World) (hlen : L.length ≤ 1000000000000) (hg : g < w.heap.size) (hl : ∀ i (h : i < L.length), SpAt w g (o + i * 6) L[i]) :
    Calls Tryz.prog 51 #[.slice (some ⟨g, o, none⟩) L.length cap, .int .i64 n] w fun e w' => e = .returned (.bool (L.any (hasN n))) ∧ Below w.heap.size w w' := by
  have HL : Hid (∀ w1, Below w.heap.size w w1 → ∀ i (h : i < L.length), SpIn w1 g (o + i * 6) L[i]) := fun w1 hb i hi => ⟨(hl i hi).below hb hg, Nat.lt_of_lt_of_le hg hb.size⟩
  clear hl
  go_enter Tryz.func51, Tryz.ntmps51
  go_wp2_with fail
  go_loopw [5] (fun i wr => ∃ k : Nat, k ≤ L.length ∧ i = .int .i64 k ∧ Below w.heap.size w wr ∧ (L.take k).any (hasN n) = false) (fun i _ => L.length - (intOf i).toNat)
  case atStart => exact ⟨0, Nat.zero_le _, rfl, Below.refl _ _, rfl⟩
  case round =>
    obtain ⟨k, hk, rfl, hb, hno⟩ := hrel
    have HN := hide3 hno
    have HB := hide3 hb
    clear hno
    by_cases hlt : k < L.length
    · have hs := HL.out wr hb k hlt
      have HS : Hid ((L.take (k + 1)).any (hasN n) = hasN n L[k]) := by
        unfold Hid
        rw [List.take_succ_eq_append_getElem hlt, List.any_append, HN.out]; simp
      have HS2 : Hid (hasN n L[k] = true → L.any (hasN n) = true) := fun h => List.any_eq_true.2 ⟨L[k], List.getElem_mem hlt, h⟩
      have HKs : Hid (KeepP fun w1 => Below w.heap.size w w1 ∧ SpIn w1 g (o + k * 6) L[k]) := (keepBelow w).and (keepSp _ _ _)
      have HOs : Hid (Below w.heap.size w wr ∧ SpIn wr g (o + k * 6) L[k]) := ⟨hb, hs⟩
      generalize L[k] = s at *
      obtain ⟨a, b, c, x, y, z⟩ := s
      have HR1 : Hid (∀ w1, Calls Tryz.prog 47 #[.agg #[.int .i64 a, .int .i64 b, .int .i64 c]] w1 fun e w' => e = .returned (.int .i64 (rankV a b c)) ∧ Below w1.heap.size w1 w') := rrank_any a b c
      have HR2 : Hid (∀ w1, Calls Tryz.prog 47 #[.agg #[.int .i64 x, .int .i64 y, .int .i64 z]] w1 fun e w' => e = .returned (.int .i64 (rankV x y z)) ∧ Below w1.heap.size w1 w') := rrank_any x y z
      have HH : Hid (hasN n ⟨a, b, c, x, y, z⟩ = (decide (rankV a b c ≤ n) && decide (n ≤ rankV x y z))) := rfl
      obtain ⟨⟨p0, p1, p2, p3, p4, p5⟩, p6⟩ := hs
      simp only at p0 p1 p2 p3 p4 p5
      clear hb
      generalize rankV a b c = r1 at *
      generalize rankV x y z = r2 at *
      by_cases h1 : r1 ≤ n
      · by_cases h2 : n ≤ r2
        · have HT : Hid (L.any (hasN n) = true) := HS2.out (by rw [HH.out]; simp [h1, h2])
          go_wp2_with (first
            | (have _h := HOs; go_at_call 47; refine (HR1.out _).mono ?_; rintro e w1 ⟨rfl, ok⟩; have HO1 := hide3 (HKs.out _ _ HOs.out ok); clear ok HOs p0 p1 p2 p3 p4 p5 p6; obtain ⟨_, ⟨p0, p1, p2, p3, p4, p5⟩, p6⟩ := HO1.out)
            | (have _h := HO1; go_at_call 47; refine (HR2.out _).mono ?_; rintro e w2 ⟨rfl, ok⟩; have HO2 := hide3 (HKs.out _ _ HO1.out ok); clear ok HO1 p0 p1 p2 p3 p4 p5 p6))
          go_ret
          exact ⟨ret_bool HT.out.symm, HO2.out.1⟩
        · have HT : Hid ((L.take (k + 1)).any (hasN n) = false) := by unfold Hid; rw [HS.out, HH.out]; simp [h1, h2]
          go_wp2_with (first
            | (have _h := HOs; go_at_call 47; refine (HR1.out _).mono ?_; rintro e w1 ⟨rfl, ok⟩; have HO1 := hide3 (HKs.out _ _ HOs.out ok); clear ok HOs p0 p1 p2 p3 p4 p5 p6; obtain ⟨_, ⟨p0, p1, p2, p3, p4, p5⟩, p6⟩ := HO1.out)
            | (have _h := HO1; go_at_call 47; refine (HR2.out _).mono ?_; rintro e w2 ⟨rfl, ok⟩; have HO2 := hide3 (HKs.out _ _ HO1.out ok); clear ok HO1 p0 p1 p2 p3 p4 p5 p6))
          exact ⟨⟨k + 1, by omega, by go_num, HO2.out.1, HT.out⟩, by simp [intOf]; omega⟩
      · have HT : Hid ((L.take (k + 1)).any (hasN n) = false) := by unfold Hid; rw [HS.out, HH.out]; simp [h1]
        go_wp2_with (first
          | (have _h := HOs; go_at_call 47; refine (HR1.out _).mono ?_; rintro e w1 ⟨rfl, ok⟩; have HO1 := hide3 (HKs.out _ _ HOs.out ok); clear ok HOs p0 p1 p2 p3 p4 p5 p6))
        exact ⟨⟨k + 1, by omega, by go_num, HO1.out.1, HT.out⟩, by simp [intOf]; omega⟩
    · have hke : k = L.length := by omega
      subst hke
      have HF : Hid (L.any (hasN n) = false) := by have := HN.out; rw [List.take_length] at this; exact this
      clear hb
      go_wp2
      go_ret
      exact ⟨ret_bool HF.out.symm, HB.out⟩

theorem has_nil (ad : Option Addr) (cap : Nat) (n : Int) (w : World) :
    Calls Tryz.prog 51 #[.slice ad 0 cap, .int .i64 n] w fun e w' => e = .returned (.bool false) ∧ Below w.heap.size w w' := by
  go_enter Tryz.func51, Tryz.ntmps51
  go_wp2_with fail
  go_loop [5] (fun i => i = .int .i64 0) (fun _ => 0)
  case atStart => rfl
  case round =>
    subst hrel
    go_wp2
    go_ret
    exact ⟨rfl, Below.refl _ _⟩

theorem has_any {w : World} {v : Value} {L : List Sp} (h : SpansAt w v L) (hlen : L.length ≤ 1000000000000) (n : Int) :
    Calls Tryz.prog 51 #[v, .int .i64 n] w fun e w' => e = .returned (.bool (L.any (hasN n))) ∧ Below w.heap.size w w' := by
  obtain ⟨ad, cap, rfl, hl⟩ := h
  rcases hl with rfl | ⟨g, o, rfl, hg, hs⟩
  · exact has_nil ad cap n w
  · exact has_walk L g o cap n w hlen hg hs

theorem hasN_in {L : List Sp} {p q r : Int} (hm : mayL L = true) (hv : mayV p q r = true) : L.any (hasN (rankV p q r)) = L.any (hasS p q r) := by
  obtain ⟨A, rfl, hA, hlen⟩ := may_iff.1 hm
  have ho : ∀ x ∈ A, okP2 x := fun x hx => by have := RiseR.mem hA hx; unfold okP2 okR; omega
  clear hm hA hlen
  induction A with
  | nil => rfl
  | cons x A ih =>
    rw [List.map_cons, List.any_cons, List.any_cons, ih fun y hy => ho y (List.mem_cons_of_mem _ hy)]
    have hx := ho x List.mem_cons_self
    congr 1
    rw [Bool.eq_iff_iff, has_rg hx hv]
    obtain ⟨_, e1⟩ := may_at hx.1.has
    obtain ⟨_, e2⟩ := may_at hx.2.1.has
    unfold hasN spR
    simp only
    rw [Bool.and_eq_true, decide_eq_true_eq, decide_eq_true_eq, e1, e2]

/-- Ints that lie in memory. -/
def IntsAt (w : World) (v : Value) (l : List Int) : Prop := ∃ g o cap, v = .slice (some ⟨g, o, none⟩) l.length cap ∧ l.length ≤ cap ∧ g < w.heap.size ∧ ∀ i (h : i < l.length), w.cell? ⟨g, o + i, none⟩ = some (.int .i64 l[i])
theorem IntsAt.below {w w' : World} {v : Value} {l : List Int} (h : IntsAt w v l) (hb : Below w.heap.size w w') : IntsAt w' v l := by
  obtain ⟨g, o, cap, hv, hc, hg, hs⟩ := h
  exact ⟨g, o, cap, hv, hc, Nat.lt_of_lt_of_le hg hb.size, fun i hi => (hb.cell (p := ⟨g, o + i, none⟩) hg).trans (hs i hi)⟩
theorem keepInts (v : Value) (l : List Int) : KeepP fun w1 => IntsAt w1 v l := fun _ _ h hb => h.below hb
theorem infoInt3 : (Tryz.prog.info? 3).map (fun i => (i.zero, i.size, i.bytes)) = some (some (.int .i64 0), 1, 8) := by kernel_rfl
theorem info_parts3 {e : TypeId} {z : Value} {n b : Nat} (h : (Tryz.prog.info? e).map (fun i => (i.zero, i.size, i.bytes)) = some (some z, n, b)) : ∃ i, Tryz.prog.info? e = some i ∧ i.zero = some z ∧ i.size = n ∧ i.bytes = b := by
  cases hi : Tryz.prog.info? e with
  | none => rw [hi] at h; cases h
  | some i =>
    rw [hi] at h
    simp only [Option.map_some, Option.some.injEq, Prod.mk.injEq] at h
    exact ⟨i, rfl, h.1, h.2.1, h.2.2⟩
def ints (l : List Int) : List Value := l.map (Value.int .i64)
theorem row_ints {w : World} {B : Nat} {v : Value} {l : List Int} (h : w.ownsRow B 3 1 v l.length (ints l)) (hl : l ≠ []) : IntsAt w v l := by
  have h0 := h
  rcases h.2 with ⟨_, hn⟩ | ⟨g, cap, cur, rfl, hB, hg, hc, _⟩
  · exact absurd (List.eq_nil_of_length_eq_zero hn) hl
  · refine ⟨g, 0, cap, rfl, hc, (Array.getElem?_eq_some_iff.1 hg).1, fun i hi => ?_⟩
    rw [Nat.zero_add, World.ownsRow.cellAt h0 i (by omega)]
    simp [ints, hi]
theorem ints_one (l : List Int) : ∀ u ∈ ints l, u.oneCell' = true := by
  intro u hu
  obtain ⟨x, _, rfl⟩ := List.mem_map.1 hu
  rfl

theorem ins_prefix {n : Int} : ∀ {a b : List Int}, (∀ x ∈ a, x < n) → insF (a ++ b) n = a ++ insF b n
  | [], _, _ => rfl
  | x :: a, b, h => by
    rw [List.cons_append]
    conv => lhs; unfold insF; rw [if_pos (h x List.mem_cons_self)]
    rw [ins_prefix fun y hy => h y (List.mem_cons_of_mem _ hy)]
    rfl
theorem ins_there {l : List Int} {n : Int} {k : Nat} (hk : k < l.length) (hp : ∀ x ∈ l.take k, x < n) (h : l[k] = n) : insF l n = l := by
  have e : l = l.take k ++ l.drop k := (List.take_append_drop k l).symm
  have hd : l.drop k = l[k] :: l.drop (k + 1) := List.drop_eq_getElem_cons hk
  conv => lhs; rw [e, ins_prefix hp, hd]
  unfold insF
  rw [if_neg (by omega), if_pos h, ← hd, List.take_append_drop]
theorem ins_new {l : List Int} {n : Int} {k : Nat} (hp : ∀ x ∈ l.take k, x < n) (h : ∀ (hk : k < l.length), n < l[k]) : insF l n = l.take k ++ [n] ++ l.drop k := by
  have e : l = l.take k ++ l.drop k := (List.take_append_drop k l).symm
  conv => lhs; rw [e, ins_prefix hp]
  rw [List.append_assoc]
  congr 1
  by_cases hk : k < l.length
  · have hd : l.drop k = l[k] :: l.drop (k + 1) := List.drop_eq_getElem_cons hk
    have := h hk
    rw [hd]
    unfold insF
    rw [if_neg (by omega), if_neg (by omega)]
    rfl
  · rw [List.drop_of_length_le (by omega)]
    rfl

theorem add_addr (g o j : Nat) : (⟨g, o, none⟩ : Addr).add j = ⟨g, o + j, none⟩ := by unfold Addr.add; split <;> simp_all
theorem newsA {w : World} {l : List Int} {g o : Nat} (hc : ∀ i (h : i < l.length), w.cell? ⟨g, o + i, none⟩ = some (.int .i64 l[i])) (hg : g < w.heap.size) (k : Nat) (j : Nat) (u : Value) (hj : (ints (l.take k))[j]? = some u) (w1 : World) (hb : Below w.heap.size w w1) : w1.cell? ((⟨g, o, none⟩ : Addr).add j) = some u := by
  rw [add_addr, (hb.cell (p := ⟨g, o + j, none⟩) hg)]
  unfold ints at hj
  rw [List.getElem?_map, List.getElem?_take] at hj
  split at hj
  · by_cases hl : j < l.length
    · rw [List.getElem?_eq_getElem hl] at hj
      simp only [Option.map_some, Option.some.injEq] at hj
      rw [hc j hl, hj]
    · rw [List.getElem?_eq_none (by omega)] at hj; cases hj
  · cases hj
theorem newsB {w : World} {l : List Int} {g o : Nat} (hc : ∀ i (h : i < l.length), w.cell? ⟨g, o + i, none⟩ = some (.int .i64 l[i])) (hg : g < w.heap.size) (k : Nat) (j : Nat) (u : Value) (hj : (ints (l.drop k))[j]? = some u) (w1 : World) (hb : Below w.heap.size w w1) : w1.cell? ((⟨g, o + k, none⟩ : Addr).add j) = some u := by
  rw [add_addr, (hb.cell (p := ⟨g, o + k + j, none⟩) hg)]
  unfold ints at hj
  rw [List.getElem?_map, List.getElem?_drop] at hj
  by_cases hl : k + j < l.length
  · rw [List.getElem?_eq_getElem hl] at hj
    simp only [Option.map_some, Option.some.injEq] at hj
    rw [Nat.add_assoc, hc (k + j) hl, hj]
  · rw [List.getElem?_eq_none (by omega)] at hj; cases hj

set_option maxHeartbeats 3200000 in
theorem added_walk (l : List Int) (n : Int) (g o cap : Nat) (w : World) (hlen : l.length ≤ 1000000) (hcap : l.length ≤ cap) (hg : g < w.heap.size) (hc : ∀ i (h : i < l.length), w.cell? ⟨g, o + i, none⟩ = some (.int .i64 l[i])) :
    Calls Tryz.prog 71 #[.slice (some ⟨g, o, none⟩) l.length cap, .int .i64 n] w fun e w' => ∃ v, e = .returned v ∧ IntsAt w' v (insF l n) ∧ Below w.heap.size w w' := by
  obtain ⟨i0, hi, hz0, hz1, hz2⟩ := info_parts3 infoInt3
  have HC := hide3 hc
  clear hc
  go_enter Tryz.func71, Tryz.ntmps71
  go_wp2
  go_loop [5] (fun i => ∃ k : Nat, k ≤ l.length ∧ i = .int .i64 k ∧ ∀ x ∈ l.take k, x < n) (fun i => l.length - (intOf i).toNat)
  case atStart => exact ⟨0, Nat.zero_le _, rfl, fun x hx => by simp at hx⟩
  case round =>
    obtain ⟨k, hk, rfl, hp⟩ := hrel
    have HP := hide3 hp
    clear hp
    by_cases hlt : k < l.length
    · have hcell := HC.out k hlt
      by_cases hlk : l[k] < n
      · have HP2 : Hid (∀ x ∈ l.take (k + 1), x < n) := by
          intro x hx
          rw [List.take_succ_eq_append_getElem hlt] at hx
          rcases List.mem_append.1 hx with hx | hx
          · exact HP.out x hx
          · rw [List.mem_singleton.1 hx]; exact hlk
        generalize l[k] = y at *
        go_wp2
        exact ⟨⟨k + 1, by omega, by go_num, HP2.out⟩, by simp [intOf]; omega⟩
      · by_cases he : l[k] = n
        · have HR : Hid (insF l n = l) := ins_there hlt HP.out he
          have e2 : (l[k] == n) = true := by rw [beq_iff_eq]; exact he
          clear he
          generalize l[k] = y at *
          go_wp2
          go_ret
          exact ⟨_, rfl, by rw [HR.out]; exact ⟨g, o, cap, rfl, hcap, hg, HC.out⟩, Below.refl _ _⟩
        · have HR : Hid (insF l n = l.take k ++ [n] ++ l.drop k) := ins_new HP.out fun _ => by omega
          have e2 : (l[k] == n) = false := by rw [beq_eq_false_iff_ne]; exact he
          have hck : ¬ cap = k := by omega
          have hck2 : ¬ cap - k = 0 := by omega
          have HN1 : Hid (∀ j u, (ints (l.take k))[j]? = some u → ∀ w1, Below w.heap.size w w1 → w1.cell? ((⟨g, o, none⟩ : Addr).add j) = some u) := newsA HC.out hg k
          have HN3 : Hid (∀ j u, (ints (l.drop k))[j]? = some u → ∀ w1, Below w.heap.size w w1 → w1.cell? ((⟨g, o + k, none⟩ : Addr).add j) = some u) := newsB HC.out hg k
          have t1 : True := trivial
          have t2 : True := trivial
          clear he
          generalize l[k] = y at *
          go_wp2_with (first
            | (have _t := t1; at_builtin; refine wpList_append_own_at _ rfl _ _ 62 rfl w.heap.size 3 i0 _ 1 8 Tryz.underlying62 hi hz0 hz1 hz2 rfl (by decide) (.slice none 0 0) 0 [] rfl (World.ownsRow_nil _ _ _ _) ⟨g, o, none⟩ k cap (ints (l.take k)) rfl (by simp [ints]; omega) (fun j u h => HN1.out j u h _ (Below.refl _ _)) (ints_one _) (by unfold maxLen; omega) (by omega) (Nat.le_refl _) ?_; intro v1 w1 hown1 hg1 hnil1 hat1; have HR1 : Hid (w1.ownsRow w.heap.size 3 1 v1 k (ints (l.take k)) ∧ Below w.heap.size w w1) := ⟨by simpa using hown1, (Below.refl _ _).grown hg1 (Nat.le_refl _) (fun q hq => by cases hq)⟩; clear hown1 hg1 hnil1 hat1 t1; go_frame)
            | (have _t := t2; at_builtin; refine wpList_append_own_at _ rfl _ _ 62 rfl w.heap.size 3 i0 _ 1 8 Tryz.underlying62 hi hz0 hz1 hz2 rfl (by decide) v1 k (ints (l.take k)) rfl (HR1.out.1.alloc _) ⟨w1.heap.size, 0, none⟩ 1 1 [.int .i64 n] rfl rfl (cell_one_new _ _ _) (by simp [Value.oneCell']) (by unfold maxLen; omega) (by omega) (by have := HR1.out.2.size; simp; omega) ?_; intro v2 w2 hown2 hg2 hnil2 hat2; have HR2 : Hid (w2.ownsRow w.heap.size 3 1 v2 (k + 1) (ints (l.take k) ++ [.int .i64 n]) ∧ Below w.heap.size w w2) := ⟨hown2, (below_then HR1.out.2 (boxB _ _)).grown hg2 (below_then HR1.out.2 (boxB _ _)).size (fun q hq => (World.ownsRow.lt HR1.out.1 q hq).1)⟩; clear hown2 hg2 hnil2 hat2 t2; go_frame)
            | (have _h := HR2; at_builtin; refine wpList_append_own_at _ rfl _ _ 62 rfl w.heap.size 3 i0 _ 1 8 Tryz.underlying62 hi hz0 hz1 hz2 rfl (by decide) v2 (k + 1) (ints (l.take k) ++ [.int .i64 n]) rfl HR2.out.1 ⟨g, o + k, none⟩ (l.length - k) (cap - k) (ints (l.drop k)) rfl (by simp [ints]) (fun j u h => HN3.out j u h _ HR2.out.2) (ints_one _) (by unfold maxLen; omega) (by omega) HR2.out.2.size ?_; intro v3 w3 hown3 hg3 hnil3 hat3; have HR3 : Hid (w3.ownsRow w.heap.size 3 1 v3 (k + 1 + (l.length - k)) (ints (l.take k) ++ [.int .i64 n] ++ ints (l.drop k)) ∧ Below w.heap.size w w3) := ⟨hown3, HR2.out.2.grown hg3 HR2.out.2.size (fun q hq => (World.ownsRow.lt HR2.out.1 q hq).1)⟩; clear hown3 hg3 hnil3 hat3; go_frame))
          go_ret
          refine ⟨v3, rfl, ?_, HR3.out.2⟩
          rw [HR.out]
          refine row_ints (B := w.heap.size) ?_ (by simp)
          have el : (l.take k ++ [n] ++ l.drop k).length = k + 1 + (l.length - k) := by simp; omega
          have ec : ints (l.take k ++ [n] ++ l.drop k) = ints (l.take k) ++ [.int .i64 n] ++ ints (l.drop k) := by simp [ints]
          rw [el, ec]
          exact HR3.out.1
    · obtain rfl : k = l.length := by omega
      have HR : Hid (insF l n = l.take l.length ++ [n] ++ l.drop l.length) := ins_new HP.out fun h => absurd h hlt
      have HN1 : Hid (∀ j u, (ints (l.take l.length))[j]? = some u → ∀ w1, Below w.heap.size w w1 → w1.cell? ((⟨g, o, none⟩ : Addr).add j) = some u) := newsA HC.out hg l.length
      have t1 : True := trivial
      have t2 : True := trivial
      by_cases hcl : cap = l.length
      · subst hcl
        go_wp2_with (first
          | (have _t := t1; at_builtin; refine wpList_append_own_at _ rfl _ _ 62 rfl w.heap.size 3 i0 _ 1 8 Tryz.underlying62 hi hz0 hz1 hz2 rfl (by decide) (.slice none 0 0) 0 [] rfl (World.ownsRow_nil _ _ _ _) ⟨g, o, none⟩ l.length l.length (ints (l.take l.length)) rfl (by simp [ints]) (fun j u h => HN1.out j u h _ (Below.refl _ _)) (ints_one _) (by unfold maxLen; omega) (by omega) (Nat.le_refl _) ?_; intro v1 w1 hown1 hg1 hnil1 hat1; have HR1 : Hid (w1.ownsRow w.heap.size 3 1 v1 l.length (ints (l.take l.length)) ∧ Below w.heap.size w w1) := ⟨by simpa using hown1, (Below.refl _ _).grown hg1 (Nat.le_refl _) (fun q hq => by cases hq)⟩; clear hown1 hg1 hnil1 hat1 t1; go_frame)
          | (have _t := t2; at_builtin; refine wpList_append_own_at _ rfl _ _ 62 rfl w.heap.size 3 i0 _ 1 8 Tryz.underlying62 hi hz0 hz1 hz2 rfl (by decide) v1 l.length (ints (l.take l.length)) rfl (HR1.out.1.alloc _) ⟨w1.heap.size, 0, none⟩ 1 1 [.int .i64 n] rfl rfl (cell_one_new _ _ _) (by simp [Value.oneCell']) (by unfold maxLen; omega) (by omega) (by have := HR1.out.2.size; simp; omega) ?_; intro v2 w2 hown2 hg2 hnil2 hat2; have HR2 : Hid (w2.ownsRow w.heap.size 3 1 v2 (l.length + 1) (ints (l.take l.length) ++ [.int .i64 n]) ∧ Below w.heap.size w w2) := ⟨hown2, (below_then HR1.out.2 (boxB _ _)).grown hg2 (below_then HR1.out.2 (boxB _ _)).size (fun q hq => (World.ownsRow.lt HR1.out.1 q hq).1)⟩; clear hown2 hg2 hnil2 hat2 t2; go_frame)
          | (have _h := HR2; at_builtin; refine wpList_append_own_at _ rfl _ _ 62 rfl w.heap.size 3 i0 _ 1 8 Tryz.underlying62 hi hz0 hz1 hz2 rfl (by decide) v2 (l.length + 1) (ints (l.take l.length) ++ [.int .i64 n]) rfl HR2.out.1 ⟨g, o, none⟩ 0 0 (ints (l.drop l.length)) rfl (by simp [ints]) (fun j u h => by simp [ints] at h) (ints_one _) (by unfold maxLen; omega) (by omega) HR2.out.2.size ?_; intro v3 w3 hown3 hg3 hnil3 hat3; have HR3 : Hid (w3.ownsRow w.heap.size 3 1 v3 (l.length + 1 + (0)) (ints (l.take l.length) ++ [.int .i64 n] ++ ints (l.drop l.length)) ∧ Below w.heap.size w w3) := ⟨hown3, HR2.out.2.grown hg3 HR2.out.2.size (fun q hq => (World.ownsRow.lt HR2.out.1 q hq).1)⟩; clear hown3 hg3 hnil3 hat3; go_frame))
        go_ret
        refine ⟨v3, rfl, ?_, HR3.out.2⟩
        rw [HR.out]
        refine row_ints (B := w.heap.size) ?_ (by simp)
        have el : (l.take l.length ++ [n] ++ l.drop l.length).length = l.length + 1 + (0) := by simp
        have ec : ints (l.take l.length ++ [n] ++ l.drop l.length) = ints (l.take l.length) ++ [.int .i64 n] ++ ints (l.drop l.length) := by simp [ints]
        rw [el, ec]
        exact HR3.out.1
      · have hc0 : ¬ cap - l.length = 0 := by omega
        go_wp2_with (first
          | (have _t := t1; at_builtin; refine wpList_append_own_at _ rfl _ _ 62 rfl w.heap.size 3 i0 _ 1 8 Tryz.underlying62 hi hz0 hz1 hz2 rfl (by decide) (.slice none 0 0) 0 [] rfl (World.ownsRow_nil _ _ _ _) ⟨g, o, none⟩ l.length cap (ints (l.take l.length)) rfl (by simp [ints]) (fun j u h => HN1.out j u h _ (Below.refl _ _)) (ints_one _) (by unfold maxLen; omega) (by omega) (Nat.le_refl _) ?_; intro v1 w1 hown1 hg1 hnil1 hat1; have HR1 : Hid (w1.ownsRow w.heap.size 3 1 v1 l.length (ints (l.take l.length)) ∧ Below w.heap.size w w1) := ⟨by simpa using hown1, (Below.refl _ _).grown hg1 (Nat.le_refl _) (fun q hq => by cases hq)⟩; clear hown1 hg1 hnil1 hat1 t1; go_frame)
          | (have _t := t2; at_builtin; refine wpList_append_own_at _ rfl _ _ 62 rfl w.heap.size 3 i0 _ 1 8 Tryz.underlying62 hi hz0 hz1 hz2 rfl (by decide) v1 l.length (ints (l.take l.length)) rfl (HR1.out.1.alloc _) ⟨w1.heap.size, 0, none⟩ 1 1 [.int .i64 n] rfl rfl (cell_one_new _ _ _) (by simp [Value.oneCell']) (by unfold maxLen; omega) (by omega) (by have := HR1.out.2.size; simp; omega) ?_; intro v2 w2 hown2 hg2 hnil2 hat2; have HR2 : Hid (w2.ownsRow w.heap.size 3 1 v2 (l.length + 1) (ints (l.take l.length) ++ [.int .i64 n]) ∧ Below w.heap.size w w2) := ⟨hown2, (below_then HR1.out.2 (boxB _ _)).grown hg2 (below_then HR1.out.2 (boxB _ _)).size (fun q hq => (World.ownsRow.lt HR1.out.1 q hq).1)⟩; clear hown2 hg2 hnil2 hat2 t2; go_frame)
          | (have _h := HR2; at_builtin; refine wpList_append_own_at _ rfl _ _ 62 rfl w.heap.size 3 i0 _ 1 8 Tryz.underlying62 hi hz0 hz1 hz2 rfl (by decide) v2 (l.length + 1) (ints (l.take l.length) ++ [.int .i64 n]) rfl HR2.out.1 ⟨g, o + l.length, none⟩ 0 (cap - l.length) (ints (l.drop l.length)) rfl (by simp [ints]) (fun j u h => by simp [ints] at h) (ints_one _) (by unfold maxLen; omega) (by omega) HR2.out.2.size ?_; intro v3 w3 hown3 hg3 hnil3 hat3; have HR3 : Hid (w3.ownsRow w.heap.size 3 1 v3 (l.length + 1 + (0)) (ints (l.take l.length) ++ [.int .i64 n] ++ ints (l.drop l.length)) ∧ Below w.heap.size w w3) := ⟨hown3, HR2.out.2.grown hg3 HR2.out.2.size (fun q hq => (World.ownsRow.lt HR2.out.1 q hq).1)⟩; clear hown3 hg3 hnil3 hat3; go_frame))
        go_ret
        refine ⟨v3, rfl, ?_, HR3.out.2⟩
        rw [HR.out]
        refine row_ints (B := w.heap.size) ?_ (by simp)
        have el : (l.take l.length ++ [n] ++ l.drop l.length).length = l.length + 1 + (0) := by simp
        have ec : ints (l.take l.length ++ [n] ++ l.drop l.length) = ints (l.take l.length) ++ [.int .i64 n] ++ ints (l.drop l.length) := by simp [ints]
        rw [el, ec]
        exact HR3.out.1

theorem added_any {l : List Int} {v : Value} {w : World} (h : IntsAt w v l) (hlen : l.length ≤ 1000000) (n : Int) :
    Calls Tryz.prog 71 #[v, .int .i64 n] w fun e w' => ∃ v', e = .returned v' ∧ IntsAt w' v' (insF l n) ∧ Below w.heap.size w w' := by
  obtain ⟨g, o, cap, rfl, hc, hg, hs⟩ := h
  exact added_walk l n g o cap w hlen hc hg hs
end Go.Proofs.YtkmgfemhfibikaaGreatDoor
namespace Go.Proofs.YtkmgfemhfibikaaGreatDoor
open Go.RowKit
set_option maxRecDepth 100000

/-- A span's places. -/
def rkS (s : Sp) : Int × Int := (rankV s.a s.b s.c, rankV s.x s.y s.z)
theorem has_rk (L : List Sp) (n : Int) : L.any (hasN n) = hasQ (L.map rkS) n := by
  unfold hasQ
  rw [List.any_map]
  rfl
theorem okq_rk (L : List Sp) : OkQ (L.map rkS) := by
  intro q hq
  obtain ⟨s, _, rfl⟩ := List.mem_map.1 hq
  have h1 := rank_small s.a s.b s.c
  have h2 := rank_small s.x s.y s.z
  exact ⟨⟨h1.1, by show rankV s.a s.b s.c ≤ _; omega⟩, h2.1, by show rankV s.x s.y s.z ≤ _; omega⟩

theorem wanted_any (kind : UInt8) (x y : Bool) (w : World) :
    Calls Tryz.prog 50 #[.int .u8 (kind.toNat : Int), .bool x, .bool y] w fun e w' => e = .returned (.bool (wantK kind x y)) ∧ Below w.heap.size w w' := by
  by_cases h1 : kind = 109
  · subst h1
    have HW : Hid (wantK 109 x y = (x && y)) := by unfold Hid wantK; rw [if_pos rfl]
    cases x <;> cases y <;> (go_enter Tryz.func50, Tryz.ntmps50; go_wp2; go_ret; exact ⟨ret_bool HW.out.symm, Below.refl _ _⟩)
  · have e1 : ((kind.toNat : Int) == 109) = false := by rw [beq_eq_false_iff_ne]; intro e; exact h1 (UInt8.toNat_inj.1 (by show kind.toNat = 109; omega))
    by_cases h2 : kind = 106
    · subst h2
      have HW : Hid (wantK 106 x y = (x || y)) := by unfold Hid wantK; rw [if_neg (by decide), if_pos rfl]
      clear h1
      cases x <;> cases y <;> (go_enter Tryz.func50, Tryz.ntmps50; go_wp2; go_ret; exact ⟨ret_bool HW.out.symm, Below.refl _ _⟩)
    · have e2 : ((kind.toNat : Int) == 106) = false := by rw [beq_eq_false_iff_ne]; intro e; exact h2 (UInt8.toNat_inj.1 (by show kind.toNat = 106; omega))
      have HW : Hid (wantK kind x y = (x && !y)) := by unfold Hid wantK; rw [if_neg h1, if_neg h2]
      clear h1 h2
      cases x <;> cases y <;> (go_enter Tryz.func50, Tryz.ntmps50; go_wp2; go_ret; exact ⟨ret_bool HW.out.symm, Below.refl _ _⟩)

theorem ends_take (l : List Int) (Q : Rg) {k : Nat} (h : k < Q.length) : endsF l (Q.take (k + 1)) = insF (insF (endsF l (Q.take k)) Q[k].1) (Q[k].2 + 1) := by
  rw [List.take_succ_eq_append_getElem h, ends_append]
  rfl

set_option maxHeartbeats 3200000 in
theorem ends_walk (l : List Int) (L : List Sp) (g o cap : Nat) (vl : Value) (w : World) (hln : l.length + 2 * L.length ≤ 1000000) (hg : g < w.heap.size) (hl : ∀ i (h : i < L.length), SpAt w g (o + i * 6) L[i]) (hi : IntsAt w vl l) :
    Calls Tryz.prog 49 #[vl, .slice (some ⟨g, o, none⟩) L.length cap] w fun e w' => ∃ v, e = .returned v ∧ IntsAt w' v (endsF l (L.map rkS)) ∧ Below w.heap.size w w' := by
  have HL : Hid (∀ w1, Below w.heap.size w w1 → ∀ i (h : i < L.length), SpIn w1 g (o + i * 6) L[i]) := fun w1 hb i hi => ⟨(hl i hi).below hb hg, Nat.lt_of_lt_of_le hg hb.size⟩
  have HI := hide3 hi
  have HA : Hid (∀ w1 v1 l1 n, IntsAt w1 v1 l1 → l1.length ≤ 1000000 → Calls Tryz.prog 71 #[v1, .int .i64 n] w1 fun e w' => ∃ v', e = .returned v' ∧ IntsAt w' v' (insF l1 n) ∧ Below w1.heap.size w1 w') := fun w1 v1 l1 n h1 h2 => added_any h1 h2 n
  clear hl hi
  go_enter Tryz.func49, Tryz.ntmps49
  go_wp2
  go_loopw [0, 5] (fun v i wr => ∃ k : Nat, k ≤ L.length ∧ i = .int .i64 k ∧ IntsAt wr v (endsF l ((L.map rkS).take k)) ∧ Below w.heap.size w wr) (fun _ i _ => L.length - (intOf i).toNat)
  case atStart => exact ⟨0, Nat.zero_le _, rfl, HI.out, Below.refl _ _⟩
  case round =>
    obtain ⟨k, hk, rfl, hit, hb⟩ := hrel
    have HIT := hide3 hit
    have HB := hide3 hb
    clear hit
    by_cases hlt : k < L.length
    · have hs := HL.out wr hb k hlt
      have HNX : Hid (endsF l ((L.map rkS).take (k + 1)) = insF (insF (endsF l ((L.map rkS).take k)) (rkS L[k]).1) ((rkS L[k]).2 + 1)) := by
        have := ends_take l (L.map rkS) (k := k) (by rw [List.length_map]; exact hlt)
        rw [List.getElem_map] at this
        exact this
      have hz1 : (endsF l ((L.map rkS).take k)).length ≤ 999998 := by
        have := ends_len (Q := (L.map rkS).take k) (l := l)
        rw [List.length_take, List.length_map] at this
        omega
      have HZ2 : Hid (∀ n, (insF (endsF l ((L.map rkS).take k)) n).length ≤ 1000000) := fun n => by have := ins_len (n := n) (l := endsF l ((L.map rkS).take k)); omega
      have HO : Hid (Below w.heap.size w wr ∧ SpIn wr g (o + k * 6) L[k]) := ⟨hb, hs⟩
      have HK : Hid (KeepP fun w1 => Below w.heap.size w w1 ∧ SpIn w1 g (o + k * 6) L[k]) := (keepBelow w).and (keepSp _ _ _)
      clear hb
      generalize L[k] = s at *
      obtain ⟨a, b, c, x, y, z⟩ := s
      simp only [rkS] at HNX
      have HR1 : Hid (∀ w1, Calls Tryz.prog 47 #[.agg #[.int .i64 a, .int .i64 b, .int .i64 c]] w1 fun e w' => e = .returned (.int .i64 (rankV a b c)) ∧ Below w1.heap.size w1 w') := rrank_any a b c
      have HR2 : Hid (∀ w1, Calls Tryz.prog 47 #[.agg #[.int .i64 x, .int .i64 y, .int .i64 z]] w1 fun e w' => e = .returned (.int .i64 (rankV x y z)) ∧ Below w1.heap.size w1 w') := rrank_any x y z
      have hr2 := rank_small x y z
      obtain ⟨⟨p0, p1, p2, p3, p4, p5⟩, p6⟩ := hs
      simp only at p0 p1 p2 p3 p4 p5
      generalize rankV a b c = r1 at *
      generalize rankV x y z = r2 at *
      generalize endsF l ((L.map rkS).take k) = l1 at *
      have t1 : True := trivial
      have t2 : True := trivial
      have t3 : True := trivial
      go_wp2_with (first
        | (have _t := t1; go_at_call 47; refine (HR1.out _).mono ?_; rintro e w1 ⟨rfl, ok⟩; have HI1 := hide3 (HIT.out.below ok); have HO1 := hide3 (HK.out _ _ HO.out ok); clear ok t1 p0 p1 p2 p3 p4 p5 p6)
        | (have _t := t2; go_at_call 71; refine (HA.out _ _ l1 r1 HI1.out (by omega)).mono ?_; rintro e w2 ⟨v2, rfl, hi2, ok⟩; have HI2 := hide3 hi2; have HO2 := hide3 (HK.out _ _ HO1.out ok); clear ok hi2 t2; obtain ⟨_, ⟨p0, p1, p2, p3, p4, p5⟩, p6⟩ := HO2.out)
        | (have _t := t3; go_at_call 47; refine (HR2.out _).mono ?_; rintro e w3 ⟨rfl, ok⟩; have HI3 := hide3 (HI2.out.below ok); have HO3 := hide3 (HK.out _ _ HO2.out ok); clear ok t3)
        | (go_at_call 71; refine (HA.out _ _ (insF l1 r1) (r2 + 1) HI3.out (HZ2.out _)).mono ?_; rintro e w4 ⟨v4, rfl, hi4, ok⟩; have HI4 := hide3 hi4; have HO4 := hide3 (HK.out _ _ HO3.out ok); clear ok hi4))
      exact ⟨⟨k + 1, by omega, by go_num, by rw [HNX.out]; exact HI4.out, HO4.out.1⟩, by simp [intOf]; omega⟩
    · have hke : k = L.length := by omega
      subst hke
      have HX : Hid (endsF l ((L.map rkS).take L.length) = endsF l (L.map rkS)) := by unfold Hid; rw [List.take_of_length_le (by rw [List.length_map]; exact Nat.le_refl _)]
      clear hb
      go_wp2
      go_ret
      exact ⟨_, rfl, by rw [← HX.out]; exact HIT.out, HB.out⟩

theorem ends_nil (l : List Int) (ad : Option Addr) (cap : Nat) (vl : Value) (w : World) (hi : IntsAt w vl l) :
    Calls Tryz.prog 49 #[vl, .slice ad 0 cap] w fun e w' => ∃ v, e = .returned v ∧ IntsAt w' v l ∧ Below w.heap.size w w' := by
  have HI := hide3 hi
  clear hi
  go_enter Tryz.func49, Tryz.ntmps49
  go_wp2
  go_loop [0, 5] (fun v i => v = vl ∧ i = .int .i64 0) (fun _ _ => 0)
  case atStart => exact ⟨rfl, rfl⟩
  case round =>
    obtain ⟨rfl, rfl⟩ := hrel
    go_wp2
    go_ret
    exact ⟨_, rfl, HI.out, Below.refl _ _⟩

theorem ends_any {l : List Int} {L : List Sp} {vl va : Value} {w : World} (hln : l.length + 2 * L.length ≤ 1000000) (hi : IntsAt w vl l) (ha : SpansAt w va L) :
    Calls Tryz.prog 49 #[vl, va] w fun e w' => ∃ v, e = .returned v ∧ IntsAt w' v (endsF l (L.map rkS)) ∧ Below w.heap.size w w' := by
  obtain ⟨ad, cap, rfl, hl⟩ := ha
  rcases hl with rfl | ⟨g, o, rfl, hg, hs⟩
  · exact ends_nil l ad cap vl w hi
  · exact ends_walk l L g o cap vl w hln hg hs hi
end Go.Proofs.YtkmgfemhfibikaaGreatDoor
namespace Go.Proofs.YtkmgfemhfibikaaGreatDoor
open Go.RowKit
set_option maxRecDepth 100000

/-- Where the span under way began. -/
def fromV : Option Int → Int
  | none => -1
  | some f => f
theorem fold_in {P : Int → Bool} {x : Int} {r : List Int} (h : (decide (x ≤ 999999999) && P x) = true) (f : Option Int) : foldG P (x :: r) f = foldG P r (some (f.getD x)) := by
  cases f with
  | none =>
    show (if (decide (x ≤ 999999999) && P x) = true then foldG P r (some x) else foldG P r none) = foldG P r (some x)
    rw [if_pos h]
  | some f =>
    show (if (decide (x ≤ 999999999) && P x) = true then foldG P r (some f) else (f, x - 1) :: foldG P r none) = foldG P r (some f)
    rw [if_pos h]
theorem fold_out_none {P : Int → Bool} {x : Int} {r : List Int} (h : (decide (x ≤ 999999999) && P x) = false) : foldG P (x :: r) none = foldG P r none := by
  conv => lhs; unfold foldG; rw [if_neg (by rw [h]; simp)]
theorem fold_out_some {P : Int → Bool} {x : Int} {r : List Int} (h : (decide (x ≤ 999999999) && P x) = false) (f : Int) : foldG P (x :: r) (some f) = (f, x - 1) :: foldG P r none := by
  conv => lhs; unfold foldG; rw [if_neg (by rw [h]; simp)]

/-- A place that holds an int. -/
def CellI (w : World) (g i : Nat) (x : Int) : Prop := w.cell? ⟨g, i, none⟩ = some (.int .i64 x) ∧ g < w.heap.size
theorem keepCellI (g i : Nat) (x : Int) : KeepP fun w1 => CellI w1 g i x := fun _ _ h hb => ⟨(hb.cell (p := ⟨g, i, none⟩) h.2).trans h.1, Nat.lt_of_lt_of_le h.2 hb.size⟩
/-- What the loop keeps. -/
def KF (w : World) (B : Nat) (vo v2 : Value) (o1 : Rg) (l : List Int) (w1 : World) : Prop := Below w.heap.size w w1 ∧ OwnS w1 B vo (o1.map spR) ∧ IntsAt w1 v2 l
theorem keepKF (w : World) (B : Nat) (vo v2 : Value) (o1 : Rg) (l : List Int) : KeepP (KF w B vo v2 o1 l) := (keepBelow w).and ((keepOwn _ _ _).and (keepInts _ _))

/-- A span is put behind a row, in a region that draws its order. -/
theorem step_app2 {w wx : World} {uo v2 : Value} {o1 : Rg} {l : List Int} {ops : Array Oper} {o : Oper} {f : Act} {K : Act → World → Prop} {Q : Exit → Act → World → Prop} {E : Prop} (hgd : o.guard = none) (s t : Operand)
    (ho : o.op = .call { callee := .builtin .append, args := #[s, t], argTypes := #[22, 22] }) (hs : f.eval s = uo) (p : Int × Int)
    (hK : KF w w.heap.size uo v2 o1 l wx) (hv2 : ∀ g, uo.ownBlock = some g → v2.ownBlock ≠ some g) {ga ia : Nat} {xa : Int} (hca : CellI wx ga ia xa) (hga : v2.ownBlock = some ga) {M : Nat} (hM : wx.heap.size = M) (hx : f.eval t = .slice (some ⟨M, 0, none⟩) 1 1) (hlen : o1.length + 1 ≤ 1000000000)
    (h : ∀ v1 w1, KF w w.heap.size v1 v2 (o1 ++ [p]) l w1 → (∀ g, v1.ownBlock = some g → v2.ownBlock ≠ some g) → w1.cell? ⟨ga, ia, none⟩ = some (.int .i64 xa) → K (f.put o.dst v1) w1) :
    if Region.wanted o (yielded ops f.tmps) = true then Oper.wp Tryz.prog o f (wx.alloc (.cells #[.int .i64 (atA p.1), .int .i64 (atB p.1), .int .i64 (atC p.1), .int .i64 (atA p.2), .int .i64 (atB p.2), .int .i64 (atC p.2)] 37)) K Q else E := by
  have hw : Region.wanted o (yielded ops f.tmps) = true := by simp [Region.wanted, hgd]
  rw [if_pos hw]
  subst hM
  obtain ⟨i0, hi, hz0, hz1, hz2⟩ := info_parts3 infoSpan
  obtain ⟨k1, k2, k3⟩ := hK
  have hob : OwnS (wx.alloc (.cells #[.int .i64 (atA p.1), .int .i64 (atB p.1), .int .i64 (atC p.1), .int .i64 (atA p.2), .int .i64 (atB p.2), .int .i64 (atC p.2)] 37)) w.heap.size uo (o1.map spR) := k2.below (boxB _ _)
  have hsz : (wx.alloc (.cells #[.int .i64 (atA p.1), .int .i64 (atB p.1), .int .i64 (atC p.1), .int .i64 (atA p.2), .int .i64 (atB p.2), .int .i64 (atC p.2)] 37)).heap.size = wx.heap.size + 1 := by simp
  have hwx := k1.size
  obtain ⟨v1, w1, hr, hown1, hg1, _, hat⟩ := run_append_own_at (P := Tryz.prog) (wx.alloc (.cells #[.int .i64 (atA p.1), .int .i64 (atB p.1), .int .i64 (atC p.1), .int .i64 (atA p.2), .int .i64 (atB p.2), .int .i64 (atC p.2)] 37)) w.heap.size 22 o.type 37 i0 _ 6 48 Tryz.underlying22 hi hz0 hz1 hz2 rfl (by decide) uo _ _ hob ⟨wx.heap.size, 0, none⟩ 1 1 [.int .i64 (atA p.1), .int .i64 (atB p.1), .int .i64 (atC p.1), .int .i64 (atA p.2), .int .i64 (atB p.2), .int .i64 (atC p.2)] rfl
    (World.news_of_block (cs := #[.int .i64 (atA p.1), .int .i64 (atB p.1), .int .i64 (atC p.1), .int .i64 (atA p.2), .int .i64 (atB p.2), .int .i64 (atC p.2)]) (t := 37) (fr := (0, 0)) (by show (wx.heap.push _)[wx.heap.size]? = _; rw [Array.getElem?_push, if_pos rfl])) (by simp [Value.oneCell']) (by unfold maxLen; rw [List.length_map]; omega) (by rw [List.length_map]; omega) (by omega)
  unfold Oper.wp execOp
  simp only [ho, resolve, invoke, builtin, Sem.run_bind, Sem.run_pure, Result.andThen_ok, List.map_toArray, List.map_cons, List.map_nil, hs, hx, hr]
  have hbw : Below w.heap.size w w1 := (below_then k1 (boxB _ _)).grown hg1 (by omega) (fun k hk => (k2.lt hk).2)
  have far : ∀ i, ga < wx.heap.size → w1.cell? ⟨ga, i, none⟩ = wx.cell? ⟨ga, i, none⟩ := fun i hgl => by
    have hne : uo.ownBlock ≠ some ga := fun e => hv2 ga e hga
    have hbl := hg1.block ga (by omega) (fun e => hne e.symm)
    rw [World.cell?_of_block (w := wx.alloc _) hbl]
    exact (boxB wx (.cells #[.int .i64 (atA p.1), .int .i64 (atB p.1), .int .i64 (atC p.1), .int .i64 (atA p.2), .int .i64 (atB p.2), .int .i64 (atC p.2)] 37)).cell (p := ⟨ga, i, none⟩) hgl
  obtain ⟨g, off, cap, rfl, hc, hg, hcs⟩ := k3
  obtain rfl : g = ga := Option.some.inj hga
  refine h v1 w1 ⟨hbw, ?_, ⟨g, off, cap, rfl, hc, by have := hg1.size; omega, fun i hi => ?_⟩⟩ ?_ ((far ia hca.2).trans hca.1)
  · unfold OwnS
    rw [List.map_append, List.map_singleton, spCells_snoc, List.length_append]
    exact hown1
  · exact (far (off + i) hg).trans (hcs i hi)
  · intro q hq e
    have e' : g = q := Option.some.inj e
    rcases hat with h1 | h1
    · rw [h1] at hq; exact hv2 q hq e
    · rw [h1, hsz] at hq
      have := Option.some.inj hq
      omega

set_option maxHeartbeats 12800000 in
theorem Folded_walk (kind : UInt8) (La Lb : List Sp) (va vb : Value) (w : World) (hl : La.length + Lb.length ≤ 100000) (ha : SpansAt w va La) (hb : SpansAt w vb Lb) :
    Calls Tryz.prog 31 #[.int .u8 (kind.toNat : Int), va, vb] w fun e w' => ∃ v, e = .returned (.tuple #[v, .int .i64 (fullE (foldK kind (La.map rkS) (Lb.map rkS)).length)]) ∧ OwnS w' w.heap.size v ((fitR (foldK kind (La.map rkS) (Lb.map rkS))).map spR) ∧ Below w.heap.size w w' := by
  have HE1 : Hid (∀ w1 vl, Below w.heap.size w w1 → IntsAt w1 vl [0, 1000000000] → Calls Tryz.prog 49 #[vl, va] w1 fun e w' => ∃ v, e = .returned v ∧ IntsAt w' v (endsF [0, 1000000000] (La.map rkS)) ∧ Below w1.heap.size w1 w') := fun w1 vl h1 h2 => ends_any (by simp; omega) h2 (ha.below h1)
  have HE2 : Hid (∀ w1 vl, Below w.heap.size w w1 → IntsAt w1 vl (endsF [0, 1000000000] (La.map rkS)) → Calls Tryz.prog 49 #[vl, vb] w1 fun e w' => ∃ v, e = .returned v ∧ IntsAt w' v (placesF (La.map rkS) (Lb.map rkS)) ∧ Below w1.heap.size w1 w') := fun w1 vl h1 h2 => ends_any (by have := ends_len (Q := La.map rkS) (l := [0, 1000000000]); simp at this; omega) h2 (hb.below h1)
  have HHA : Hid (∀ n w1, Below w.heap.size w w1 → Calls Tryz.prog 51 #[va, .int .i64 n] w1 fun e w' => e = .returned (.bool (hasQ (La.map rkS) n)) ∧ Below w1.heap.size w1 w') := fun n w1 h1 => by have := has_any (ha.below h1) (by omega) n; rw [has_rk] at this; exact this
  have HHB : Hid (∀ n w1, Below w.heap.size w w1 → Calls Tryz.prog 51 #[vb, .int .i64 n] w1 fun e w' => e = .returned (.bool (hasQ (Lb.map rkS) n)) ∧ Below w1.heap.size w1 w') := fun n w1 h1 => by have := has_any (hb.below h1) (by omega) n; rw [has_rk] at this; exact this
  have HWA : Hid (∀ x y w1, Calls Tryz.prog 50 #[.int .u8 (kind.toNat : Int), .bool x, .bool y] w1 fun e w' => e = .returned (.bool (wantK kind x y)) ∧ Below w1.heap.size w1 w') := fun x y w1 => wanted_any kind x y w1
  have HAT : Hid (∀ n w1, Calls Tryz.prog 42 #[.int .i64 n] w1 fun e w' => e = .returned (.agg #[.int .i64 (atA n), .int .i64 (atB n), .int .i64 (atC n)]) ∧ Below w1.heap.size w1 w') := rat_any
  have hpl : (placesF (La.map rkS) (Lb.map rkS)).length ≤ 200002 := by
    have h1 := ends_len (Q := La.map rkS) (l := [0, 1000000000])
    have h2 := ends_len (Q := Lb.map rkS) (l := endsF [0, 1000000000] (La.map rkS))
    unfold placesF
    simp at h1 h2
    omega
  have hrng : ∀ x ∈ placesF (La.map rkS) (Lb.map rkS), 0 ≤ x ∧ x ≤ 1000000000 := by
    intro x hx
    unfold placesF at hx
    rw [ends_mem, ends_mem] at hx
    rcases hx with (hx | ⟨q, hq, h⟩) | ⟨q, hq, h⟩
    · simp at hx; omega
    · obtain ⟨q1, q2⟩ := okq_rk La q hq; rcases h with rfl | rfl <;> omega
    · obtain ⟨q1, q2⟩ := okq_rk Lb q hq; rcases h with rfl | rfl <;> omega
  have HRNG := hide3 hrng
  have HFK : Hid (foldK kind (La.map rkS) (Lb.map rkS) = foldG (fun n => wantK kind (hasQ (La.map rkS) n) (hasQ (Lb.map rkS) n)) (placesF (La.map rkS) (Lb.map rkS)) none) := rfl
  clear ha hb hrng hl
  generalize La.map rkS = Qa at *
  generalize Lb.map rkS = Qb at *
  generalize foldK kind Qa Qb = R at *
  generalize placesF Qa Qb = l at *
  go_enter Tryz.func31, Tryz.ntmps31
  have HI0 : Hid (IntsAt (w.alloc (.cells #[.int .i64 0, .int .i64 1000000000] 3)) (.slice (some ⟨w.heap.size, 0, none⟩) 2 2) [0, 1000000000]) := by
    refine ⟨w.heap.size, 0, 2, rfl, Nat.le_refl _, by simp, fun i hi => ?_⟩
    match i, hi with
    | 0, _ => simp
    | 1, _ => simp
  have t1 : True := trivial
  go_wp2_with (first
    | (have _t := t1; go_at_call 49; refine (HE1.out _ _ (boxB _ _) HI0.out).mono ?_; rintro e w1 ⟨v1, rfl, hi1, ok⟩; have HI1 := hide3 hi1; have HB1 : Hid (Below w.heap.size w w1) := below_then (boxB _ _) ok; clear ok hi1 t1 HE1)
    | (go_at_call 49; refine (HE2.out _ _ HB1.out HI1.out).mono ?_; rintro e w2 ⟨v2, rfl, hi2, ok⟩; have HI2 := hide3 hi2; have HB2 : Hid (Below w.heap.size w w2) := below_then HB1.out ok; clear ok hi2 HE2))
  go_loopw [9, 10, 11] (fun vo vf i wr => ∃ (k : Nat) (o1 : Rg) (f : Option Int), k ≤ l.length ∧ i = .int .i64 k ∧ vf = .int .i64 (fromV f) ∧ (∀ q, f = some q → 0 ≤ q ∧ q ≤ 999999999) ∧ o1.length ≤ k ∧ KF w w.heap.size vo v2 o1 l wr ∧ (∀ g, vo.ownBlock = some g → v2.ownBlock ≠ some g) ∧ R = o1 ++ foldG (fun n => wantK kind (hasQ Qa n) (hasQ Qb n)) (l.drop k) f) (fun _ _ i _ => l.length - (intOf i).toNat)
  case atStart => exact ⟨0, [], none, Nat.zero_le _, rfl, rfl, (fun q h => by cases h), Nat.le_refl _, ⟨HB2.out, OwnS.nil _ _, HI2.out⟩, (fun g h => by cases h), HFK.out⟩
  case round =>
    obtain ⟨k, o1, f, hk, rfl, rfl, hfr, hol, hkf, hne, hRR⟩ := hrel
    have HNE := hide3 hne
    have HRR := hide3 hRR
    have HKF := hide3 hkf
    clear hne hRR hkf HI2 HB2
    obtain ⟨g, o, cap, rfl, hcap, _, _⟩ := HKF.out.2.2
    by_cases hlt : k < l.length
    · have hd : l.drop k = l[k] :: l.drop (k + 1) := List.drop_eq_getElem_cons hlt
      have hxr := HRNG.out _ (List.getElem_mem hlt)
      have HO : Hid (KF w w.heap.size u9 (.slice (some ⟨g, o, none⟩) l.length cap) o1 l wr ∧ CellI wr g (o + k) l[k]) := by
        refine ⟨HKF.out, ?_⟩
        obtain ⟨g', o', cap', e, _, h2, h3⟩ := HKF.out.2.2
        cases e
        exact ⟨h3 k hlt, h2⟩
      have HK : Hid (KeepP fun w1 => KF w w.heap.size u9 (.slice (some ⟨g, o, none⟩) l.length cap) o1 l w1 ∧ CellI w1 g (o + k) l[k]) := (keepKF _ _ _ _ _ _).and (keepCellI _ _ _)
      rw [hd] at HRR
      clear hd HKF
      generalize l[k] = x at *
      have HC1 : Hid (∀ w1, (KF w w.heap.size u9 (.slice (some ⟨g, o, none⟩) l.length cap) o1 l w1 ∧ CellI w1 g (o + k) x) → Calls Tryz.prog 51 #[va, .int .i64 x] w1 fun e w' => e = .returned (.bool (hasQ Qa x)) ∧ Below w1.heap.size w1 w') := fun w1 h => HHA.out x w1 h.1.1
      have HC2 : Hid (∀ w1, (KF w w.heap.size u9 (.slice (some ⟨g, o, none⟩) l.length cap) o1 l w1 ∧ CellI w1 g (o + k) x) → Calls Tryz.prog 51 #[vb, .int .i64 x] w1 fun e w' => e = .returned (.bool (hasQ Qb x)) ∧ Below w1.heap.size w1 w') := fun w1 h => HHB.out x w1 h.1.1
      have HC3 : Hid (∀ w1, Calls Tryz.prog 50 #[.int .u8 (kind.toNat : Int), .bool (hasQ Qa x), .bool (hasQ Qb x)] w1 fun e w' => e = .returned (.bool (wantK kind (hasQ Qa x) (hasQ Qb x))) ∧ Below w1.heap.size w1 w') := fun w1 => HWA.out _ _ w1
      have HIN : Hid (∀ b, (decide (x ≤ 999999999) && wantK kind (hasQ Qa x) (hasQ Qb x)) = b → (decide (x ≤ 999999999) && (fun n => wantK kind (hasQ Qa n) (hasQ Qb n)) x) = b) := fun b h => h
      generalize hasQ Qa x = ha at *
      generalize hasQ Qb x = hb at *
      by_cases hx : x ≤ 999999999
      · have dx : decide (x ≤ 999999999) = true := decide_eq_true hx
        cases hwn : wantK kind ha hb
        · have hin := HIN.out false (by rw [hwn]; simp)
          rw [hwn] at HC3
          clear HIN hwn
          cases f with
          | none =>
            have f0 : fromV none = -1 := rfl
            have HST : Hid (R = o1 ++ foldG (fun n => wantK kind (hasQ Qa n) (hasQ Qb n)) (l.drop (k + 1)) none) := by unfold Hid; rw [HRR.out, fold_out_none hin]
            clear hin
            go_wp2_with fail
            refine wp_region_keep HK.out (by kernel_rfl) (by kernel_rfl) (by first | exact HO.out | exact HK.out.drew HO.out) ?_
            intro C hin hout
            have HIN := hide3 hin
            have HOUT := hide3 hout
            clear hin hout HO
            repeat
              (with_reducible refine wpQuiet_step (fun K hK => ?_)
               go_simp
               first
                 | (refine hK _ ?_; clear hK K)
                 | (apply Exists.intro; refine ⟨fun w1 hC => ?_, hK _ ?_⟩; (focus ((first | (go_at_call 51; with_reducible exact callC' HIN.out HOUT.out HK.out HC1.out w1 hC) | (go_at_call 51; with_reducible exact callC' HIN.out HOUT.out HK.out HC2.out w1 hC) | (go_at_call 50; with_reducible exact callC HIN.out HOUT.out HK.out HC3.out w1 hC) | (exact rfl) | (obtain ⟨⟨hb1, hb2, hb3⟩, ⟨p0, p1⟩⟩ := HOUT.out w1 hC; clear hC; go_simp; first | done | exact rfl)); done)); clear hK K))
            refine wpQuiet_nil ?_
            intro wn hC
            have HO := hide3 (HOUT.out _ hC)
            clear hC HIN HOUT C
            obtain ⟨⟨hb1, hb2, hb3⟩, ⟨p0, p1⟩⟩ := HO.out
            go_wp2
            exact ⟨⟨k + 1, o1, none, by omega, by go_num, rfl, (fun q e => by cases e), by omega, HO.out.1, HNE.out, HST.out⟩, by simp [intOf]; omega⟩
          | some f =>
            obtain ⟨hq0, hq1⟩ := hfr f rfl
            have f0 : fromV (some f) = f := rfl
            obtain ⟨y, hy⟩ : ∃ y, y = x - 1 := ⟨_, rfl⟩
            have HST : Hid (R = (o1 ++ [(f, y)]) ++ foldG (fun n => wantK kind (hasQ Qa n) (hasQ Qb n)) (l.drop (k + 1)) none) := by unfold Hid; rw [HRR.out, fold_out_some hin, hy]; simp
            have HLN : Hid (o1.length + 1 ≤ 1000000000) := by unfold Hid; omega
            have wx1 : IntKind.i64.wrap (x - 1) = y := by rw [IntKind.wrap_i64]; omega
            have hge : (0 : Int) ≤ f := hq0
            clear hy
            clear hin
            go_wp2_with fail
            refine wp_region_keep HK.out (by kernel_rfl) (by kernel_rfl) (by first | exact HO.out | exact HK.out.drew HO.out) ?_
            intro C hin hout
            have HIN := hide3 hin
            have HOUT := hide3 hout
            clear hin hout HO
            repeat
              (with_reducible refine wpQuiet_step (fun K hK => ?_)
               go_simp
               first
                 | (refine hK _ ?_; clear hK K)
                 | (apply Exists.intro; refine ⟨fun w1 hC => ?_, hK _ ?_⟩; (focus ((first | (go_at_call 51; with_reducible exact callC' HIN.out HOUT.out HK.out HC1.out w1 hC) | (go_at_call 51; with_reducible exact callC' HIN.out HOUT.out HK.out HC2.out w1 hC) | (go_at_call 50; with_reducible exact callC HIN.out HOUT.out HK.out HC3.out w1 hC) | (exact rfl) | (obtain ⟨⟨hb1, hb2, hb3⟩, ⟨p0, p1⟩⟩ := HOUT.out w1 hC; clear hC; go_simp; first | done | exact rfl)); done)); clear hK K))
            refine wpQuiet_nil ?_
            intro wn hC
            have HO := hide3 (HOUT.out _ hC)
            clear hC HIN HOUT C
            obtain ⟨⟨hb1, hb2, hb3⟩, ⟨p0, p1⟩⟩ := HO.out
            go_wp2_with fail
            have HOA := HO
            clear HO
            go_region_held3 (fun w' => w'.cell? ⟨g, o + k, none⟩ = some (.int .i64 x)) (go_keep)
              (first
                | (have _h := HOA; go_at_call 42; refine (HAT.out _ _).mono ?_; rintro e wz ⟨rfl, ok⟩; have HOB := hide3 (HK.out _ _ (HK.out.drew HOA.out) ok); clear ok HOA p0 p1; obtain ⟨_, ⟨p0, p1⟩⟩ := HOB.out)
                | (have _h := HOB; go_at_call 42; refine (HAT.out _ _).mono ?_; rintro e wz2 ⟨rfl, ok⟩; have HO := hide3 (HK.out _ _ HOB.out ok); clear ok HOB p0 p1; obtain ⟨_, ⟨p0, p1⟩⟩ := HO.out)
                | (refine step_app2 (w := w) (uo := u9) (v2 := .slice (some ⟨g, o, none⟩) l.length cap) (o1 := o1) (l := l) rfl (.tmp 60) (.tmp 70) rfl rfl (f, y) HO.out.1 HNE.out HO.out.2 rfl rfl rfl HLN.out ?_; intro v3 w3 ok3 ne3 p0; have HK3 := hide3 ok3; have HNE3 := hide3 ne3; clear ok3 ne3))
            all_goals go_wp2
            all_goals exact ⟨⟨k + 1, o1 ++ [(f, y)], none, by omega, by go_num, rfl, (fun q e => by cases e), by simp; omega, HK3.out, HNE3.out, HST.out⟩, by simp [intOf]; omega⟩
        · rw [hwn] at HC3
          have hin := HIN.out true (by rw [hwn, dx]; rfl)
          have HST : Hid (R = o1 ++ foldG (fun n => wantK kind (hasQ Qa n) (hasQ Qb n)) (l.drop (k + 1)) (some (f.getD x))) := by unfold Hid; rw [HRR.out, fold_in hin]
          clear hin HIN hwn
          cases f with
          | none =>
            have f0 : fromV none = -1 := rfl
            go_wp2_with fail
            refine wp_region_keep HK.out (by kernel_rfl) (by kernel_rfl) (by first | exact HO.out | exact HK.out.drew HO.out) ?_
            intro C hin hout
            have HIN := hide3 hin
            have HOUT := hide3 hout
            clear hin hout HO
            repeat
              (with_reducible refine wpQuiet_step (fun K hK => ?_)
               go_simp
               first
                 | (refine hK _ ?_; clear hK K)
                 | (apply Exists.intro; refine ⟨fun w1 hC => ?_, hK _ ?_⟩; (focus ((first | (go_at_call 51; with_reducible exact callC' HIN.out HOUT.out HK.out HC1.out w1 hC) | (go_at_call 51; with_reducible exact callC' HIN.out HOUT.out HK.out HC2.out w1 hC) | (go_at_call 50; with_reducible exact callC HIN.out HOUT.out HK.out HC3.out w1 hC) | (exact rfl) | (obtain ⟨⟨hb1, hb2, hb3⟩, ⟨p0, p1⟩⟩ := HOUT.out w1 hC; clear hC; go_simp; first | done | exact rfl)); done)); clear hK K))
            refine wpQuiet_nil ?_
            intro wn hC
            have HO := hide3 (HOUT.out _ hC)
            clear hC HIN HOUT C
            obtain ⟨⟨hb1, hb2, hb3⟩, ⟨p0, p1⟩⟩ := HO.out
            go_wp2
            exact ⟨⟨k + 1, o1, some x, by omega, by go_num, rfl, (fun q e => by cases e; exact ⟨hxr.1, hx⟩), by omega, HO.out.1, HNE.out, HST.out⟩, by simp [intOf]; omega⟩
          | some f =>
            obtain ⟨hq0, hq1⟩ := hfr f rfl
            have f0 : fromV (some f) = f := rfl
            have hq2 : ¬ f < 0 := by omega
            go_wp2_with fail
            refine wp_region_keep HK.out (by kernel_rfl) (by kernel_rfl) (by first | exact HO.out | exact HK.out.drew HO.out) ?_
            intro C hin hout
            have HIN := hide3 hin
            have HOUT := hide3 hout
            clear hin hout HO
            repeat
              (with_reducible refine wpQuiet_step (fun K hK => ?_)
               go_simp
               first
                 | (refine hK _ ?_; clear hK K)
                 | (apply Exists.intro; refine ⟨fun w1 hC => ?_, hK _ ?_⟩; (focus ((first | (go_at_call 51; with_reducible exact callC' HIN.out HOUT.out HK.out HC1.out w1 hC) | (go_at_call 51; with_reducible exact callC' HIN.out HOUT.out HK.out HC2.out w1 hC) | (go_at_call 50; with_reducible exact callC HIN.out HOUT.out HK.out HC3.out w1 hC) | (exact rfl) | (obtain ⟨⟨hb1, hb2, hb3⟩, ⟨p0, p1⟩⟩ := HOUT.out w1 hC; clear hC; go_simp; first | done | exact rfl)); done)); clear hK K))
            refine wpQuiet_nil ?_
            intro wn hC
            have HO := hide3 (HOUT.out _ hC)
            clear hC HIN HOUT C
            obtain ⟨⟨hb1, hb2, hb3⟩, ⟨p0, p1⟩⟩ := HO.out
            go_wp2
            exact ⟨⟨k + 1, o1, some f, by omega, by go_num, rfl, hfr, by omega, HO.out.1, HNE.out, HST.out⟩, by simp [intOf]; omega⟩
      · have dx : decide (x ≤ 999999999) = false := decide_eq_false hx
        have hin := HIN.out false (by rw [dx]; rfl)
        clear HIN
        cases f with
        | none =>
          have f0 : fromV none = -1 := rfl
          have HST : Hid (R = o1 ++ foldG (fun n => wantK kind (hasQ Qa n) (hasQ Qb n)) (l.drop (k + 1)) none) := by unfold Hid; rw [HRR.out, fold_out_none hin]
          clear hin
          go_wp2_with fail
          refine wp_region_keep HK.out (by kernel_rfl) (by kernel_rfl) (by first | exact HO.out | exact HK.out.drew HO.out) ?_
          intro C hin hout
          have HIN := hide3 hin
          have HOUT := hide3 hout
          clear hin hout HO
          repeat
            (with_reducible refine wpQuiet_step (fun K hK => ?_)
             go_simp
             first
               | (refine hK _ ?_; clear hK K)
               | (apply Exists.intro; refine ⟨fun w1 hC => ?_, hK _ ?_⟩; (focus ((first | (go_at_call 51; with_reducible exact callC' HIN.out HOUT.out HK.out HC1.out w1 hC) | (go_at_call 51; with_reducible exact callC' HIN.out HOUT.out HK.out HC2.out w1 hC) | (go_at_call 50; with_reducible exact callC HIN.out HOUT.out HK.out HC3.out w1 hC) | (exact rfl) | (obtain ⟨⟨hb1, hb2, hb3⟩, ⟨p0, p1⟩⟩ := HOUT.out w1 hC; clear hC; go_simp; first | done | exact rfl)); done)); clear hK K))
          refine wpQuiet_nil ?_
          intro wn hC
          have HO := hide3 (HOUT.out _ hC)
          clear hC HIN HOUT C
          obtain ⟨⟨hb1, hb2, hb3⟩, ⟨p0, p1⟩⟩ := HO.out
          go_wp2
          exact ⟨⟨k + 1, o1, none, by omega, by go_num, rfl, (fun q e => by cases e), by omega, HO.out.1, HNE.out, HST.out⟩, by simp [intOf]; omega⟩
        | some f =>
          obtain ⟨hq0, hq1⟩ := hfr f rfl
          have f0 : fromV (some f) = f := rfl
          obtain ⟨y, hy⟩ : ∃ y, y = x - 1 := ⟨_, rfl⟩
          have HST : Hid (R = (o1 ++ [(f, y)]) ++ foldG (fun n => wantK kind (hasQ Qa n) (hasQ Qb n)) (l.drop (k + 1)) none) := by unfold Hid; rw [HRR.out, fold_out_some hin, hy]; simp
          have HLN : Hid (o1.length + 1 ≤ 1000000000) := by unfold Hid; omega
          have wx1 : IntKind.i64.wrap (x - 1) = y := by rw [IntKind.wrap_i64]; omega
          have hge : (0 : Int) ≤ f := hq0
          clear hy
          clear hin
          go_wp2_with fail
          refine wp_region_keep HK.out (by kernel_rfl) (by kernel_rfl) (by first | exact HO.out | exact HK.out.drew HO.out) ?_
          intro C hin hout
          have HIN := hide3 hin
          have HOUT := hide3 hout
          clear hin hout HO
          repeat
            (with_reducible refine wpQuiet_step (fun K hK => ?_)
             go_simp
             first
               | (refine hK _ ?_; clear hK K)
               | (apply Exists.intro; refine ⟨fun w1 hC => ?_, hK _ ?_⟩; (focus ((first | (go_at_call 51; with_reducible exact callC' HIN.out HOUT.out HK.out HC1.out w1 hC) | (go_at_call 51; with_reducible exact callC' HIN.out HOUT.out HK.out HC2.out w1 hC) | (go_at_call 50; with_reducible exact callC HIN.out HOUT.out HK.out HC3.out w1 hC) | (exact rfl) | (obtain ⟨⟨hb1, hb2, hb3⟩, ⟨p0, p1⟩⟩ := HOUT.out w1 hC; clear hC; go_simp; first | done | exact rfl)); done)); clear hK K))
          refine wpQuiet_nil ?_
          intro wn hC
          have HO := hide3 (HOUT.out _ hC)
          clear hC HIN HOUT C
          obtain ⟨⟨hb1, hb2, hb3⟩, ⟨p0, p1⟩⟩ := HO.out
          go_wp2_with fail
          have HOA := HO
          clear HO
          go_region_held3 (fun w' => w'.cell? ⟨g, o + k, none⟩ = some (.int .i64 x)) (go_keep)
            (first
              | (have _h := HOA; go_at_call 42; refine (HAT.out _ _).mono ?_; rintro e wz ⟨rfl, ok⟩; have HOB := hide3 (HK.out _ _ (HK.out.drew HOA.out) ok); clear ok HOA p0 p1; obtain ⟨_, ⟨p0, p1⟩⟩ := HOB.out)
              | (have _h := HOB; go_at_call 42; refine (HAT.out _ _).mono ?_; rintro e wz2 ⟨rfl, ok⟩; have HO := hide3 (HK.out _ _ HOB.out ok); clear ok HOB p0 p1; obtain ⟨_, ⟨p0, p1⟩⟩ := HO.out)
              | (refine step_app2 (w := w) (uo := u9) (v2 := .slice (some ⟨g, o, none⟩) l.length cap) (o1 := o1) (l := l) rfl (.tmp 60) (.tmp 70) rfl rfl (f, y) HO.out.1 HNE.out HO.out.2 rfl rfl rfl HLN.out ?_; intro v3 w3 ok3 ne3 p0; have HK3 := hide3 ok3; have HNE3 := hide3 ne3; clear ok3 ne3))
          all_goals go_wp2
          all_goals exact ⟨⟨k + 1, o1 ++ [(f, y)], none, by omega, by go_num, rfl, (fun q e => by cases e), by simp; omega, HK3.out, HNE3.out, HST.out⟩, by simp [intOf]; omega⟩
    · have hke : k = l.length := by omega
      have HRE : Hid (R = o1) := by unfold Hid; rw [HRR.out, List.drop_of_length_le (by omega)]; simp [foldG]
      clear HRR
      obtain ⟨hb1, hown, _⟩ := HKF.out
      obtain ⟨ad, cap2, hv9, _, _⟩ := hown.sp
      rw [List.length_map] at hv9
      have HOW := hide3 hown
      have HBB := hide3 hb1
      clear hown hb1
      subst hv9
      by_cases h64 : o1.length ≤ 64
      · have e1 : fullE o1.length = 0 := by unfold fullE; rw [if_pos h64]
        have e2 : fitR o1 = o1 := by unfold fitR; rw [if_pos h64]
        have HE : Hid (fullE R.length = 0 ∧ fitR R = o1) := by rw [HRE.out]; exact ⟨e1, e2⟩
        clear e1 e2
        go_wp2
        go_ret2
        exact ⟨_, by rw [HE.out.1]; rfl, by rw [HE.out.2]; exact HOW.out, HBB.out⟩
      · have e1 : fullE o1.length = 26 := by unfold fullE; rw [if_neg h64]
        have e2 : fitR o1 = [] := by unfold fitR; rw [if_neg h64]
        have HE : Hid (fullE R.length = 26 ∧ fitR R = []) := by rw [HRE.out]; exact ⟨e1, e2⟩
        clear e1 e2
        go_wp2
        go_ret2
        exact ⟨.slice none 0 0, by rw [HE.out.1]; rfl, by rw [HE.out.2]; exact OwnS.nil _ _, HBB.out⟩
end Go.Proofs.YtkmgfemhfibikaaGreatDoor
namespace Go.Proofs.YtkmgfemhfibikaaGreatDoor
open Go.RowKit
set_option maxRecDepth 100000

theorem bytes_append (l r : List UInt8) : (⟨(l ++ r).toArray⟩ : ByteArray) = ⟨l.toArray⟩ ++ ⟨r.toArray⟩ := by
  have : ((⟨l.toArray⟩ : ByteArray) ++ ⟨r.toArray⟩).data.toList = l ++ r := by rw [cat_list]
  rw [of_list this]

/-- A text is one piece, or a piece, the separator and the rest. -/
theorem pieces_cases (s sep : ByteArray) (h1 : 1 ≤ sep.size) : piecesB s sep = [s] ∨ ∃ l r : List UInt8, s.data.toList = l ++ (sep.data.toList ++ r) ∧ piecesB s sep = ⟨l.toArray⟩ :: piecesB ⟨r.toArray⟩ sep ∧ r.length < s.size := by
  rcases Lib.indexB_cases s sep with hi | ⟨i, hi, hr⟩
  · left; unfold piecesB; exact Lib.splitB_miss _ _ _ _ hi
  · right
    have ho : Lib.occAt s.data.toList sep.data.toList i = true := by
      rcases Lib.index_spec s.data.toList sep.data.toList with ⟨h2, _⟩ | ⟨j, h2, _, h3, _⟩
      · rw [indexB_eq, h2] at hi; omega
      · rw [indexB_eq, h2] at hi
        have : j = i := by omega
        subst this; exact h3
    unfold Lib.occAt at ho
    obtain ⟨r, hr2⟩ := List.isPrefixOf_iff_prefix.1 ho
    have e0 : s.data.toList = s.data.toList.take i ++ (sep.data.toList ++ r) := by rw [hr2, List.take_append_drop]
    have hle : i ≤ s.data.toList.length := by rw [list_size]; omega
    have e1 : s.extract 0 (i + 0) = ⟨(s.data.toList.take i).toArray⟩ := of_list (by rw [Lib.extract_from_zero, Nat.add_zero])
    have e2 : s.extract (i + sep.size) s.size = ⟨r.toArray⟩ := by
      refine of_list ?_
      rw [Lib.extract_to_end, ← List.drop_drop, ← hr2, ← list_size sep, List.drop_left]
    refine ⟨s.data.toList.take i, r, e0, ?_, ?_⟩
    · unfold piecesB
      rw [Lib.countB_hit s sep i h1 hi, Nat.add_comm 1, Lib.splitB_hit _ _ _ _ _ hi, e1, e2]
    · have := congrArg List.length e0
      rw [List.length_append, List.length_append, list_size, list_size, List.length_take] at this
      omega

theorem pieces_append {sep : ByteArray} {c : UInt8} {tl : List UInt8} (hsep : sep.data.toList = c :: tl) (t : ByteArray) : ∀ (n : Nat) (s : ByteArray), s.size ≤ n → (∀ p ∈ piecesB s sep, ∀ x ∈ p.data.toList, x ≠ c) → piecesB ((s ++ sep) ++ t) sep = piecesB s sep ++ piecesB t sep
  | n, s, hn, h => by
    have h1 : 1 ≤ sep.size := by rw [← list_size, hsep]; simp
    rcases pieces_cases s sep h1 with e | ⟨l, r, e0, e1, hlt⟩
    · rw [e] at h ⊢
      have := pieces_more (s := (s ++ sep) ++ t) (l := s.data.toList) (r := t.data.toList) hsep (by rw [cat_list, cat_list, List.append_assoc]) (h s List.mem_cons_self)
      rw [this, list_of_bytes, list_of_bytes]; rfl
    · rw [e1] at h ⊢
      have hl : ∀ x ∈ l, x ≠ c := fun x hx => h ⟨l.toArray⟩ List.mem_cons_self x (by simpa using hx)
      have := pieces_more (s := (s ++ sep) ++ t) (l := l) (r := r ++ (sep.data.toList ++ t.data.toList)) hsep (by rw [cat_list, cat_list, e0]; simp [List.append_assoc]) hl
      rw [this, List.cons_append]
      have er : (⟨(r ++ (sep.data.toList ++ t.data.toList)).toArray⟩ : ByteArray) = ((⟨r.toArray⟩ : ByteArray) ++ sep) ++ t := by
        refine (of_list ?_).symm
        rw [cat_list, cat_list]; simp [List.append_assoc]
      rw [er]
      cases n with
      | zero => omega
      | succ n =>
        have hs : (⟨r.toArray⟩ : ByteArray).size ≤ n := by rw [bytes_size]; omega
        rw [pieces_append hsep t n ⟨r.toArray⟩ hs fun p hp => h p (List.mem_cons_of_mem _ hp)]

/-- Between single signs there are none. -/
theorem pieces_clean (c : UInt8) : ∀ (n : Nat) (s : ByteArray), s.size ≤ n → ∀ p ∈ piecesB s ⟨#[c]⟩, ∀ x ∈ p.data.toList, x ≠ c
  | n, s, hn => by
    have h1 : 1 ≤ (⟨#[c]⟩ : ByteArray).size := Nat.le_refl _
    rcases Lib.indexB_cases s ⟨#[c]⟩ with hi | ⟨i, hi, hr⟩
    · have e : piecesB s ⟨#[c]⟩ = [s] := by unfold piecesB; exact Lib.splitB_miss _ _ _ _ hi
      rw [e]
      intro p hp x hx hc
      rw [List.mem_singleton] at hp
      subst hp
      subst hc
      obtain ⟨j, hj⟩ := List.getElem?_of_mem hx
      rcases Lib.index_spec p.data.toList [x] with ⟨_, h3⟩ | ⟨j', h2, _⟩
      · have hlt : j < p.data.toList.length := (List.getElem?_eq_some_iff.1 hj).1
        have := h3 j (by omega)
        unfold Lib.occAt at this
        rw [List.drop_eq_getElem_cons hlt] at this
        rw [List.getElem?_eq_getElem hlt, Option.some.injEq] at hj
        rw [hj] at this
        simp at this
      · rw [indexB_eq] at hi
        change Lib.index p.data.toList [x] = -1 at hi
        omega
    · have hno : ∀ x ∈ s.data.toList.take i, x ≠ c := by
        intro x hx hc
        subst hc
        obtain ⟨j, hj⟩ := List.getElem?_of_mem hx
        have hji : j < i ∧ s.data.toList[j]? = some x := by
          rw [List.getElem?_take] at hj
          split at hj
          · exact ⟨by assumption, hj⟩
          · cases hj
        rcases Lib.index_spec s.data.toList [x] with ⟨h2, _⟩ | ⟨j', h2, _, _, h3⟩
        · rw [indexB_eq] at hi
          change Lib.index s.data.toList [x] = _ at hi
          omega
        · rw [indexB_eq] at hi
          change Lib.index s.data.toList [x] = _ at hi
          have : j' = i := by omega
          subst this
          have h4 := h3 j hji.1
          unfold Lib.occAt at h4
          have hlt : j < s.data.toList.length := (List.getElem?_eq_some_iff.1 hji.2).1
          rw [List.drop_eq_getElem_cons hlt] at h4
          have h5 := hji.2
          rw [List.getElem?_eq_getElem hlt, Option.some.injEq] at h5
          rw [h5] at h4
          simp at h4
      have e1 : s.extract 0 (i + 0) = ⟨(s.data.toList.take i).toArray⟩ := of_list (by rw [Lib.extract_from_zero, Nat.add_zero])
      have e : piecesB s ⟨#[c]⟩ = ⟨(s.data.toList.take i).toArray⟩ :: piecesB (s.extract (i + 1) s.size) ⟨#[c]⟩ := by
        unfold piecesB
        rw [Lib.countB_hit s ⟨#[c]⟩ i h1 hi, Nat.add_comm 1, Lib.splitB_hit _ _ _ _ _ hi, e1]
        rfl
      rw [e]
      intro p hp
      rcases List.mem_cons.1 hp with rfl | hp
      · intro x hx; exact hno x (by simpa using hx)
      · cases n with
        | zero => have : (⟨#[c]⟩ : ByteArray).size = 1 := rfl; omega
        | succ n =>
          have hz : (s.extract (i + 1) s.size).size ≤ n := by
            rw [ByteArray.size_extract]
            have : (⟨#[c]⟩ : ByteArray).size = 1 := rfl
            omega
          exact pieces_clean c n _ hz p hp

theorem join_assoc {A B C : Rg} (hA : RangeR A) (hB : RangeR B) (hC : RangeR C) : joinR (joinR A B) C = joinR A (joinR B C) := range_one ((hA.join hB).join hC) (hA.join (hB.join hC)) fun n => by
  rw [join_in (hA.join hB) hC, join_in hA hB, join_in hA (hB.join hC), join_in hB hC, or_assoc]

theorem altF_from : ∀ {l : List ByteArray} {R : Rg}, RangeR R → altF R l = (altF [] l).map (joinR R)
  | [], R, hR => by
    have : joinR R [] = R := range_one (hR.join (B := []) trivial) hR fun n => by rw [join_in hR (B := []) trivial]; exact ⟨fun h => h.elim id (fun x => x.elim), Or.inl⟩
    simp [altF, this]
  | a :: l, R, hR => by
    unfold altF
    split
    · have hX := wordsL_rg (piecesB a ⟨#[32]⟩)
      rw [altF_from (hR.join hX), join_none hX, altF_from hX, Option.map_map]
      cases hq : altF [] l with
      | none => rfl
      | some Y =>
        have hY := altF_rg (R := []) trivial hq
        simp only [Option.map_some, Function.comp_apply, Option.some.injEq]
        exact join_assoc hR hX hY
    · rfl
theorem altF_cons {a : ByteArray} {l : List ByteArray} {R : Rg} : altF R (a :: l) = if wordsB (piecesB a ⟨#[32]⟩) = true then altF (joinR R (wordsL (piecesB a ⟨#[32]⟩))) l else none := rfl
theorem altF_append : ∀ {l m : List ByteArray} {R : Rg}, altF R (l ++ m) = (altF R l).bind fun Q => altF Q m
  | [], m, R => rfl
  | a :: l, m, R => by
    rw [List.cons_append, altF_cons, altF_cons]
    split
    · exact altF_append
    · rfl

/-- A word has no bar. -/
theorem word_bar {s : ByteArray} {X : Rg} (h : wordR s = some X) : ∀ x ∈ s.data.toList, x.toNat ≠ 124 := by
  unfold wordR at h
  split at h
  · rename_i e
    intro x hx
    rw [e] at hx
    simp at hx
    subst hx
    decide
  · split at h
    · rename_i ho
      obtain ⟨m, e⟩ := okP_text ho
      have hb := text_bytes m
      rw [← e, Lib.extract_to_end] at hb
      intro x hx
      rw [← List.take_append_drop (idxK s) s.data.toList, List.mem_append] at hx
      rcases hx with hx | hx
      · rw [Lib.extract_from_zero] at h
        generalize List.take (idxK s) s.data.toList = sg at *
        intro e124
        have no : ∀ l : List UInt8, (∀ y ∈ l, y.toNat ≠ 124) → ¬ sg = l := fun l hl e => by subst e; exact hl x hx e124
        unfold signR at h
        rw [if_neg (by rintro (e | e); exact no [] (by simp) e; exact no [61] (by decide) e), if_neg (no [60] (by decide)), if_neg (no [60, 61] (by decide)), if_neg (no [62] (by decide)), if_neg (no [62, 61] (by decide)), if_neg (no [94] (by decide)), if_neg (no [126] (by decide))] at h
        cases h
      · have := hb x hx; omega
    · cases h
theorem words_bar : ∀ {ps : List ByteArray} {R : Rg} {f : Bool}, (wordsF R f ps).isSome = true → ∀ p ∈ ps, ∀ x ∈ p.data.toList, x.toNat ≠ 124
  | [], _, _, _, p, hp => by cases hp
  | q :: ps, R, f, h, p, hp => by
    unfold wordsF at h
    split at h
    · rename_i h0
      rcases List.mem_cons.1 hp with rfl | hp
      · intro x hx
        rw [← list_size] at h0
        rw [List.eq_nil_of_length_eq_zero h0] at hx
        cases hx
      · exact words_bar h p hp
    · split at h
      · cases h
      · rename_i X hX
        rcases List.mem_cons.1 hp with rfl | hp
        · exact word_bar hX
        · exact words_bar h p hp

/-- The bytes of a text are those of its pieces and of the separators. -/
theorem pieces_bytes (sep : ByteArray) (h1 : 1 ≤ sep.size) : ∀ (n : Nat) (s : ByteArray), s.size ≤ n → ∀ x ∈ s.data.toList, x ∈ sep.data.toList ∨ ∃ p ∈ piecesB s sep, x ∈ p.data.toList
  | n, s, hn, x, hx => by
    rcases pieces_cases s sep h1 with e | ⟨l, r, e0, e1, hlt⟩
    · rw [e]; exact Or.inr ⟨s, List.mem_cons_self, hx⟩
    · rw [e0] at hx
      rw [e1]
      simp only [List.mem_append] at hx
      rcases hx with hx | hx | hx
      · exact Or.inr ⟨_, List.mem_cons_self, by simpa using hx⟩
      · exact Or.inl hx
      · cases n with
        | zero => omega
        | succ n =>
          rcases pieces_bytes sep h1 n ⟨r.toArray⟩ (by rw [bytes_size]; omega) x (by simpa using hx) with h | ⟨p, hp, hpx⟩
          · exact Or.inl h
          · exact Or.inr ⟨p, List.mem_cons_of_mem _ hp, hpx⟩

theorem alt_bar : ∀ {l : List ByteArray} {R : Rg}, (altF R l).isSome = true → ∀ p ∈ l, ∀ x ∈ p.data.toList, x ≠ 124
  | [], _, _, p, hp => by cases hp
  | a :: l, R, h, p, hp => by
    unfold altF at h
    split at h
    · rename_i hb
      rcases List.mem_cons.1 hp with rfl | hp
      · intro x hx e
        have hs : (wordsF allR false (piecesB p ⟨#[32]⟩)).isSome = true := by
          unfold wordsB at hb
          split at hb
          · rename_i e2; rw [e2]; rfl
          · cases hb
        rcases pieces_bytes ⟨#[32]⟩ (by decide) p.size p (Nat.le_refl _) x hx with h2 | ⟨q, hq, hxq⟩
        · simp at h2; rw [h2] at e; exact absurd e (by decide)
        · exact words_bar hs q hq x hxq (by rw [e]; rfl)
      · exact alt_bar h p hp
    · cases h

theorem alt_both {s t : ByteArray} {A B : Rg} (ha : altR s = some A) (hb : altR t = some B) : altR ((s ++ ⟨#[124, 124]⟩) ++ t) = some (joinR A B) := by
  unfold altR at *
  rw [pieces_append (c := 124) (tl := [124]) rfl t s.size s (Nat.le_refl _) (alt_bar (by rw [ha]; rfl)), altF_append, ha, Option.bind_some, altF_from (altF_rg (R := []) trivial ha), hb]
  rfl

theorem meet_allr {R : Rg} (hR : RangeR R) : meetR R allR = R := range_one (hR.meet allR_ok) hR fun n => by
  rw [meet_in hR allR_ok, allR_in]
  exact ⟨fun h => h.1, fun h => ⟨h, hR.in h⟩⟩
theorem meet_asc {A B C : Rg} (hA : RangeR A) (hB : RangeR B) (hC : RangeR C) : meetR (meetR A B) C = meetR A (meetR B C) := range_one ((hA.meet hB).meet hC) (hA.meet (hB.meet hC)) fun n => by
  rw [meet_in hA (hB.meet hC), meet_in hB hC, meet_in (hA.meet hB) hC, meet_in hA hB]
  exact ⟨fun h => ⟨h.1.1, h.1.2, h.2⟩, fun h => ⟨⟨h.1, h.2.1⟩, h.2.2⟩⟩
theorem wordsF_from : ∀ {ps : List ByteArray} {R : Rg} {f : Bool}, RangeR R → wordsF R f ps = (wordsF allR false ps).map fun q => (meetR R q.1, f || q.2)
  | [], R, f, hR => by simp [wordsF, meet_allr hR]
  | p :: ps, R, f, hR => by
    unfold wordsF
    split
    · exact wordsF_from hR
    · split
      · rfl
      · rename_i X hX
        have hXr := word_rg hX
        rw [wordsF_from (hR.meet hXr), meet_all hXr, wordsF_from hXr, Option.map_map]
        cases hq : wordsF allR false ps with
        | none => rfl
        | some Y =>
          obtain ⟨Y, g⟩ := Y
          have hY := wordsF_rg allR_ok hq
          simp only [Option.map_some, Function.comp_apply, Option.some.injEq, Prod.mk.injEq, Bool.true_or, Bool.or_true, and_true]
          exact meet_asc hR hXr hY
theorem wordsF_cons {p : ByteArray} {ps : List ByteArray} {R : Rg} {f : Bool} : wordsF R f (p :: ps) = if p.size = 0 then wordsF R f ps else match wordR p with
    | none => none
    | some X => wordsF (meetR R X) true ps := rfl
theorem wordsF_append : ∀ {ps qs : List ByteArray} {R : Rg} {f : Bool}, wordsF R f (ps ++ qs) = (wordsF R f ps).bind fun q => wordsF q.1 q.2 qs
  | [], qs, R, f => rfl
  | p :: ps, qs, R, f => by
    rw [List.cons_append, wordsF_cons, wordsF_cons]
    split
    · exact wordsF_append
    · cases wordR p with
      | none => rfl
      | some X => exact wordsF_append

/-- A text without bars. -/
theorem alt_plain {s : ByteArray} (h : ∀ x ∈ s.data.toList, x ≠ 124) {A : Rg} : altR s = some A ↔ wordsF allR false (piecesB s ⟨#[32]⟩) = some (A, true) := by
  have p1 : piecesB s ⟨#[124, 124]⟩ = [s] := pieces_one (c := 124) (tl := [124]) rfl h
  unfold altR
  rw [p1]
  unfold altF
  have hj := join_none (wordsL_rg (piecesB s ⟨#[32]⟩))
  rw [hj]
  unfold wordsB wordsL
  cases hq : wordsF allR false (piecesB s ⟨#[32]⟩) with
  | none => simp
  | some q =>
    obtain ⟨X, f⟩ := q
    cases f <;> simp [altF]

theorem alt_blank {s t : ByteArray} {A B : Rg} (hs : ∀ x ∈ s.data.toList, x ≠ 124) (ht : ∀ x ∈ t.data.toList, x ≠ 124) (ha : altR s = some A) (hb : altR t = some B) : altR ((s ++ ⟨#[32]⟩) ++ t) = some (meetR A B) := by
  have hst : ∀ x ∈ ((s ++ ⟨#[32]⟩) ++ t).data.toList, x ≠ 124 := by
    intro x hx
    rw [cat_list, cat_list] at hx
    simp only [List.mem_append] at hx
    rcases hx with (hx | hx) | hx
    · exact hs x hx
    · simp at hx; rw [hx]; decide
    · exact ht x hx
  have ea := (alt_plain hs).1 ha
  have eb := (alt_plain ht).1 hb
  rw [alt_plain hst, pieces_append (c := 32) (tl := []) rfl t s.size s (Nat.le_refl _) (pieces_clean 32 s.size s (Nat.le_refl _)), wordsF_append, ea, Option.bind_some, wordsF_from (altR_rg ha), eb]
  rfl
end Go.Proofs.YtkmgfemhfibikaaGreatDoor
namespace Go.Proofs.YtkmgfemhfibikaaGreatDoor
open Go.RowKit
set_option maxRecDepth 100000

abbrev Bt := List UInt8
def bt (l : Bt) : ByteArray := ⟨l.toArray⟩
theorem bt_list (l : Bt) : (bt l).data.toList = l := by simp [bt]
theorem bt_size (l : Bt) : (bt l).size = l.length := bytes_size l

/-- Pieces between a text, from what is under way on. -/
def segG (sep : Bt) : Nat → Bt → Bt → List Bt
  | 0, cur, l => [cur ++ l]
  | n + 1, cur, l => if sep.isPrefixOf l = true then cur :: segG sep n [] (l.drop sep.length) else match l with
    | [] => [cur]
    | b :: r => segG sep n (cur ++ [b]) r
def seg (sep cur l : Bt) : List Bt := segG sep l.length cur l

theorem seg_fuel {sep : Bt} (h0 : sep ≠ []) : ∀ (n m : Nat) (cur l : Bt), l.length ≤ n → l.length ≤ m → segG sep n cur l = segG sep m cur l := by
  have hp : sep.isPrefixOf [] = false := by cases sep <;> simp_all
  intro n
  induction n with
  | zero =>
    intro m cur l h1 h2
    obtain rfl : l = [] := List.eq_nil_of_length_eq_zero (by omega)
    cases m with
    | zero => rfl
    | succ m => simp [segG, hp]
  | succ n ih =>
    intro m cur l h1 h2
    cases m with
    | zero =>
      obtain rfl : l = [] := List.eq_nil_of_length_eq_zero (by omega)
      simp [segG, hp]
    | succ m =>
      have hs : 0 < sep.length := List.length_pos_iff.2 h0
      unfold segG
      by_cases h : sep.isPrefixOf l = true
      · rw [if_pos h, if_pos h]
        have hl : 0 < l.length := by
          have := (List.isPrefixOf_iff_prefix.1 h).length_le
          omega
        rw [ih m [] _ (by simp; omega) (by simp; omega)]
      · rw [if_neg h, if_neg h]
        cases l with
        | nil => rfl
        | cons b r => exact ih m _ r (by simp at h1; omega) (by simp at h2; omega)

theorem seg_hit {sep cur l : Bt} (h0 : sep ≠ []) (h : sep.isPrefixOf l = true) : seg sep cur l = cur :: seg sep [] (l.drop sep.length) := by
  have hs : 0 < sep.length := List.length_pos_iff.2 h0
  have hl := (List.isPrefixOf_iff_prefix.1 h).length_le
  unfold seg
  rw [seg_fuel h0 l.length (l.length - 1 + 1) cur l (Nat.le_refl _) (by omega)]
  conv => lhs; unfold segG; rw [if_pos h]
  rw [seg_fuel h0 (l.length - 1) (l.drop sep.length).length [] _ (by simp; omega) (Nat.le_refl _)]
theorem seg_go {sep cur : Bt} {b : UInt8} {r : Bt} (h : sep.isPrefixOf (b :: r) = false) : seg sep cur (b :: r) = seg sep (cur ++ [b]) r := by
  unfold seg
  rw [List.length_cons]
  conv => lhs; unfold segG; rw [if_neg (by rw [h]; simp)]
theorem seg_nil {sep cur : Bt} : seg sep cur [] = [cur] := by simp [seg, segG]
theorem pre_no {c b : UInt8} {sep r : Bt} (h : b ≠ c) : (c :: sep).isPrefixOf (b :: r) = false := by
  show ((c == b) && sep.isPrefixOf r) = false
  rw [beq_eq_false_iff_ne.2 (fun e => h e.symm)]
  rfl
theorem seg_one {c : UInt8} {sep cur : Bt} : ∀ {l : Bt}, (∀ x ∈ l, x ≠ c) → seg (c :: sep) cur l = [cur ++ l]
  | [], _ => by rw [seg_nil]; simp
  | b :: r, h => by
    rw [seg_go (pre_no (h b List.mem_cons_self)), seg_one fun x hx => h x (List.mem_cons_of_mem _ hx)]
    simp
theorem seg_more {c : UInt8} {sep r : Bt} : ∀ {l cur : Bt}, (∀ x ∈ l, x ≠ c) → seg (c :: sep) cur (l ++ ((c :: sep) ++ r)) = (cur ++ l) :: seg (c :: sep) [] r
  | [], cur, _ => by
    rw [List.nil_append, seg_hit (by simp) (List.isPrefixOf_iff_prefix.2 (List.prefix_append _ _)), List.drop_left]
    simp
  | b :: l, cur, h => by
    rw [List.cons_append, seg_go (pre_no (h b List.mem_cons_self)), seg_more fun x hx => h x (List.mem_cons_of_mem _ hx)]
    simp

/-- The library's pieces are these. -/
theorem pieces_seg {sep : Bt} (h0 : sep ≠ []) : ∀ (n : Nat) (cur l : Bt), l.length ≤ n → (∀ j, j < cur.length → Lib.occAt (cur ++ l) sep j = false) → piecesB (bt (cur ++ l)) (bt sep) = (seg sep cur l).map bt := by
  have hs : 0 < sep.length := List.length_pos_iff.2 h0
  have h1 : 1 ≤ (bt sep).size := by rw [bt_size]; exact hs
  have miss : ∀ t : Bt, (∀ j, j ≤ t.length → Lib.occAt t sep j = false) → piecesB (bt t) (bt sep) = [bt t] := by
    intro t ht
    unfold piecesB
    refine Lib.splitB_miss _ _ _ _ ?_
    rw [indexB_eq, bt_list, bt_list]
    rcases Lib.index_spec t sep with ⟨h2, _⟩ | ⟨i, h2, h3, h4, _⟩
    · exact h2
    · rw [ht i h3] at h4; cases h4
  intro n
  induction n with
  | zero =>
    intro cur l hl hno
    obtain rfl : l = [] := List.eq_nil_of_length_eq_zero (by omega)
    rw [seg_nil, List.append_nil] at *
    refine miss cur fun j hj => ?_
    rcases Nat.lt_or_ge j cur.length with h | h
    · exact hno j h
    · unfold Lib.occAt
      rw [List.drop_of_length_le h]
      cases sep <;> simp_all
  | succ n ih =>
    intro cur l hl hno
    by_cases h : sep.isPrefixOf l = true
    · obtain ⟨r, rfl⟩ := List.isPrefixOf_iff_prefix.1 h
      rw [seg_hit h0 h, List.drop_left, List.map_cons]
      have hr : r.length ≤ n := by simp at hl; omega
      rw [← ih [] r hr (fun j hj => by simp at hj), List.nil_append]
      have hi : Lib.index (cur ++ (sep ++ r)) sep = (cur.length : Int) := by
        have ho : Lib.occAt (cur ++ (sep ++ r)) sep cur.length = true := by
          unfold Lib.occAt
          rw [List.drop_left]
          exact h
        rcases Lib.index_spec (cur ++ (sep ++ r)) sep with ⟨_, h3⟩ | ⟨i, h2, h3, h4, h5⟩
        · rw [h3 cur.length (by simp)] at ho; cases ho
        · rw [h2]
          rcases Nat.lt_trichotomy i cur.length with h6 | h6 | h6
          · rw [hno i h6] at h4; cases h4
          · rw [h6]
          · have := h5 cur.length h6
            rw [ho] at this; cases this
      unfold piecesB
      have hib : Lib.indexB (bt (cur ++ (sep ++ r))) (bt sep) = (cur.length : Nat) := by rw [indexB_eq, bt_list, bt_list, hi]
      rw [Lib.countB_hit _ _ _ h1 hib, Nat.add_comm 1, Lib.splitB_hit _ _ _ _ _ hib]
      have e1 : (bt (cur ++ (sep ++ r))).extract 0 (cur.length + 0) = bt cur := of_list (by rw [Lib.extract_from_zero, Nat.add_zero, bt_list, List.take_left])
      have e2 : (bt (cur ++ (sep ++ r))).extract (cur.length + (bt sep).size) (bt (cur ++ (sep ++ r))).size = bt r := of_list (by rw [Lib.extract_to_end, bt_list, bt_size, ← List.drop_drop, List.drop_left, List.drop_left])
      rw [e1, e2]
    · cases l with
      | nil => exact ih cur [] (Nat.zero_le _) hno
      | cons b r =>
        have h' : sep.isPrefixOf (b :: r) = false := Bool.eq_false_iff.2 h
        rw [seg_go h', ← ih (cur ++ [b]) r (by simp at hl; omega)]
        · simp
        · intro j hj
          rw [List.append_assoc, List.singleton_append]
          rcases Nat.lt_or_ge j cur.length with h2 | h2
          · exact hno j h2
          · obtain rfl : j = cur.length := by simp at hj; omega
            unfold Lib.occAt
            rw [List.drop_left]
            exact h'

theorem pieces_of (sep : Bt) (h0 : sep ≠ []) (s : ByteArray) : piecesB s (bt sep) = (seg sep [] s.data.toList).map bt := by
  have := pieces_seg h0 s.data.toList.length [] s.data.toList (Nat.le_refl _) (fun j hj => by simp at hj)
  rw [List.nil_append] at this
  rw [← this]
  rfl

/-- The words of a text. -/
def wordsD (l : Bt) : List Bt := (seg [32] [] l).filter fun p => !p.isEmpty
theorem wordsF_skip : ∀ {ps : List Bt} {R : Rg} {f : Bool}, wordsF R f (ps.map bt) = wordsF R f ((ps.filter fun p => !p.isEmpty).map bt)
  | [], _, _ => rfl
  | p :: ps, R, f => by
    cases p with
    | nil =>
      have : (bt []).size = 0 := rfl
      rw [List.map_cons, wordsF, if_pos this, wordsF_skip]
      simp
    | cons b r =>
      have hn : ¬ (bt (b :: r)).size = 0 := by rw [bt_size]; simp
      rw [List.filter_cons_of_pos (by simp), List.map_cons, List.map_cons, wordsF, wordsF, if_neg hn, if_neg hn]
      cases wordR (bt (b :: r)) with
      | none => rfl
      | some X => exact wordsF_skip

/-- What the words from a range on have; none: one is none. -/
def meetsD : Rg → List Bt → Option Rg
  | R, [] => some R
  | R, p :: ps => match wordR (bt p) with
    | none => none
    | some X => meetsD (meetR R X) ps
theorem wordsF_meets : ∀ {ps : List Bt} {R : Rg} {f : Bool}, (∀ p ∈ ps, p ≠ []) → wordsF R f (ps.map bt) = (meetsD R ps).map fun X => (X, f || !ps.isEmpty)
  | [], _, _, _ => by simp [wordsF, meetsD]
  | p :: ps, R, f, h => by
    have hn : ¬ (bt p).size = 0 := by rw [bt_size]; have := h p List.mem_cons_self; cases p <;> simp_all
    rw [List.map_cons, wordsF, if_neg hn, meetsD]
    cases hw : wordR (bt p) with
    | none => rfl
    | some X =>
      show wordsF (meetR R X) true (ps.map bt) = _
      rw [wordsF_meets fun q hq => h q (List.mem_cons_of_mem _ hq)]
      simp

/-- All that alternatives have, one behind the other. -/
def altD : Rg → List Bt → Option Rg
  | acc, [] => some acc
  | acc, a :: l => match meetsD allR (wordsD a) with
    | none => none
    | some X => if wordsD a = [] then none else altD (acc ++ X) l

theorem in_append {A B : Rg} {n : Int} : InR (A ++ B) n ↔ InR A n ∨ InR B n := by
  rw [← has_in, ← has_in, ← has_in]
  unfold hasQ
  rw [List.any_append, Bool.or_eq_true]

theorem words_D (a : Bt) : wordsF allR false (piecesB (bt a) ⟨#[32]⟩) = (meetsD allR (wordsD a)).map fun X => (X, !(wordsD a).isEmpty) := by
  have := pieces_of [32] (by simp) (bt a)
  rw [show (⟨#[32]⟩ : ByteArray) = bt [32] from rfl, this, bt_list, wordsF_skip, wordsF_meets (fun p hp => by have := (List.mem_filter.1 hp).2; intro e; rw [e] at this; simp at this)]
  rfl

theorem meetsD_rg : ∀ {ps : List Bt} {R R' : Rg}, RangeR R → meetsD R ps = some R' → RangeR R'
  | [], _, _, h, e => by simp only [meetsD, Option.some.injEq] at e; rw [← e]; exact h
  | p :: ps, R, _, h, e => by
    unfold meetsD at e
    split at e
    · cases e
    · rename_i X hX
      exact meetsD_rg (h.meet (word_rg hX)) e

/-- The program's way and the document's come to the same. -/
theorem alt_D : ∀ {l : List Bt} {R acc : Rg}, RangeR R → (∀ n, InR R n ↔ InR acc n) → (altF R (l.map bt) = none ∧ altD acc l = none) ∨ ∃ R' C, altF R (l.map bt) = some R' ∧ altD acc l = some C ∧ RangeR R' ∧ ∀ n, InR R' n ↔ InR C n
  | [], R, acc, hR, h => Or.inr ⟨R, acc, rfl, rfl, hR, h⟩
  | a :: l, R, acc, hR, h => by
    rw [List.map_cons, altF_cons, altD]
    have hw := words_D a
    unfold wordsB wordsL
    rw [hw]
    cases hm : meetsD allR (wordsD a) with
    | none => exact Or.inl ⟨rfl, rfl⟩
    | some X =>
      simp only [Option.map_some]
      by_cases he : wordsD a = []
      · rw [he]; exact Or.inl ⟨rfl, rfl⟩
      · have hb : (!(wordsD a).isEmpty) = true := by cases h' : wordsD a <;> simp_all
        rw [if_pos hb, if_neg he]
        have hX := meetsD_rg allR_ok hm
        exact alt_D (hR.join hX) fun n => by rw [join_in hR hX, in_append, h]

theorem okq_append {A B : Rg} (ha : OkQ A) (hb : OkQ B) : OkQ (A ++ B) := fun q hq => (List.mem_append.1 hq).elim (ha q) (hb q)
theorem altD_ok : ∀ {l : List Bt} {acc C : Rg}, OkQ acc → altD acc l = some C → OkQ C
  | [], _, _, h, e => by simp only [altD, Option.some.injEq] at e; rw [← e]; exact h
  | a :: l, acc, C, h, e => by
    unfold altD at e
    split at e
    · cases e
    · rename_i X hX
      split at e
      · cases e
      · exact altD_ok (okq_append h (meetsD_rg allR_ok hX).okq) e

/-- What the document makes of the alternatives. -/
def docD (l : List Bt) : Option Rg := (altD [] l).map fun C => foldK 106 C []
theorem doc_alt (s : ByteArray) : altR s = docD (seg [124, 124] [] s.data.toList) := by
  unfold altR docD
  rw [show (⟨#[124, 124]⟩ : ByteArray) = bt [124, 124] from rfl, pieces_of [124, 124] (by simp) s]
  rcases alt_D (l := seg [124, 124] [] s.data.toList) (R := []) (acc := []) trivial (fun n => Iff.rfl) with ⟨h1, h2⟩ | ⟨R', C, h1, h2, h3, h4⟩
  · rw [h1, h2]; rfl
  · rw [h1, h2]
    show some R' = some (foldK 106 C [])
    have hC := altD_ok (fun q hq => by cases hq) h2
    obtain ⟨g1, g2⟩ := foldK_spec 106 hC (b := []) (fun q hq => by cases hq)
    congr 1
    refine range_one h3 g1 fun n => ?_
    rw [g2, h4, ← has_in]
    have : wantK 106 (hasQ C n) (hasQ [] n) = hasQ C n := by
      unfold wantK
      rw [if_neg (by decide), if_pos rfl]
      show (hasQ C n || false) = _
      simp
    rw [this]
    constructor
    · intro h
      refine ⟨?_, ?_, h⟩ <;>
      · obtain ⟨q, hq, hn⟩ := List.any_eq_true.1 h
        obtain ⟨⟨a, b⟩, c, d⟩ := hC q hq
        simp at hn
        omega
    · exact fun h => h.2.2

/-- One span at most. -/
theorem meet_one {A B : Rg} (hA : RangeR A) (hB : RangeR B) (la : A.length ≤ 1) (lb : B.length ≤ 1) : (meetR A B).length ≤ 1 := by
  match A, la with
  | [], _ => simp [meetR, cutR]
  | [(g, h)], _ =>
    match B, lb with
    | [], _ =>
      have : meetR [(g, h)] [] = [] := range_none (hA.meet hB) fun n => by rw [meet_in hA hB]; exact fun x => x.2.elim
      rw [this]; exact Nat.zero_le _
    | [(p, q)], _ =>
      obtain ⟨a1, a2, a3, _⟩ := hA
      obtain ⟨b1, b2, b3, _⟩ := hB
      have hA' : RangeR [(g, h)] := ⟨a1, a2, a3, trivial⟩
      have hB' : RangeR [(p, q)] := ⟨b1, b2, b3, trivial⟩
      by_cases hm : max g p ≤ min h q
      · have hC : RangeR [(max g p, min h q)] := ⟨by omega, hm, by omega, trivial⟩
        have : meetR [(g, h)] [(p, q)] = [(max g p, min h q)] := range_one (hA'.meet hB') hC fun n => by
          rw [meet_in hA' hB']
          simp only [InR, or_false]
          omega
        rw [this]; exact Nat.le_refl _
      · have : meetR [(g, h)] [(p, q)] = [] := range_none (hA'.meet hB') fun n => by
          rw [meet_in hA' hB']
          simp only [InR, or_false]
          omega
        rw [this]; exact Nat.zero_le _
end Go.Proofs.YtkmgfemhfibikaaGreatDoor
namespace Go.Proofs.YtkmgfemhfibikaaGreatDoor
open Go.RowKit
set_option maxRecDepth 100000

def signsD : List Bt := [[60, 61], [62, 61], [60], [62], [61], [94], [126]]
/-- The sign that a text begins with. -/
def sgD (l : Bt) : Bt := (signsD.find? fun g => g.isPrefixOf l).getD []
def fromR (lo hi : Int) : Rg := if lo > hi then [] else [(lo, hi)]
/-- What the document makes of a sign and a place. -/
def docS (sg : Bt) (n : Int) : Rg := if sg = [60, 61] then fromR 0 n else if sg = [62, 61] then fromR n 999999999 else if sg = [60] then fromR 0 (n - 1) else if sg = [62] then fromR (n + 1) 999999999 else
  if sg = [126] then fromR n (minorR n) else if sg = [94] then (if 0 < atA n then fromR n (majorR n) else if 0 < atB n then fromR n (minorR n) else fromR n n) else fromR n n
def docW (l : Bt) : Option Rg := if l = [42] then some allR else if okP (bt (l.drop (sgD l).length)) = true then some (docS (sgD l) (plP (bt (l.drop (sgD l).length)))) else none

/-- What may stand ahead. -/
def IsSg (g : Bt) : Prop := g = [] ∨ g = [60, 61] ∨ g = [62, 61] ∨ g = [60] ∨ g = [62] ∨ g = [61] ∨ g = [94] ∨ g = [126]
theorem sgD_is (l : Bt) : IsSg (sgD l) := by
  unfold sgD
  cases h : signsD.find? fun g => g.isPrefixOf l with
  | none => exact Or.inl rfl
  | some g =>
    have := List.mem_of_find?_eq_some h
    simp only [signsD, List.mem_cons, List.not_mem_nil, or_false] at this
    exact Or.inr this
theorem sgD_pre (l : Bt) : l = sgD l ++ l.drop (sgD l).length := by
  have : sgD l <+: l := by
    unfold sgD
    cases h : signsD.find? fun g => g.isPrefixOf l with
    | none => exact List.nil_prefix
    | some g =>
      have := List.find?_some (p := fun g : Bt => g.isPrefixOf l) h
      exact List.isPrefixOf_iff_prefix.1 this
  obtain ⟨r, hr⟩ := this
  have hd : l.drop (sgD l).length = r := by
    conv => lhs; arg 2; rw [← hr]
    exact List.drop_left
  rw [hd, hr]
theorem sg_B {g : Bt} (h : IsSg g) : SignB (bt g) := by
  unfold SignB
  rw [bt_list]
  rcases h with rfl | rfl | rfl | rfl | rfl | rfl | rfl | rfl <;> decide

theorem from_cut1 {n : Int} (h : okR n) : cutR allR [(n, 999999999)] = fromR 0 (n - 1) := by
  have h1 : RangeR [(n, 999999999)] := one_ok h okL h.2
  obtain ⟨a, b⟩ := h
  refine range_one (allR_ok.cut h1) ?_ fun k => ?_
  · unfold fromR
    split
    · trivial
    · exact ⟨by omega, by omega, by omega, trivial⟩
  · rw [cut_in allR_ok h1, allR_in]
    unfold fromR
    split
    · simp only [InR, or_false]
      constructor
      · omega
      · exact fun h => h.elim
    · simp only [InR, or_false]
      omega
theorem from_cut2 {n : Int} (h : okR n) : cutR allR [(0, n)] = fromR (n + 1) 999999999 := by
  have h1 : RangeR [(0, n)] := one_ok okF h h.1
  obtain ⟨a, b⟩ := h
  refine range_one (allR_ok.cut h1) ?_ fun k => ?_
  · unfold fromR
    split
    · trivial
    · exact ⟨by omega, by omega, by omega, trivial⟩
  · rw [cut_in allR_ok h1, allR_in]
    unfold fromR
    split
    · simp only [InR, or_false]
      constructor
      · omega
      · exact fun h => h.elim
    · simp only [InR, or_false]
      omega
theorem from_le {a b : Int} (h : a ≤ b) : fromR a b = [(a, b)] := by unfold fromR; rw [if_neg (by omega)]
theorem at_nn {n : Int} (h : okR n) : 0 ≤ atA n ∧ 0 ≤ atB n := by
  obtain ⟨a, b, _⟩ := at_of h
  obtain ⟨c, d⟩ := h
  rw [a, b]
  omega
theorem sign_doc {g : Bt} (hg : IsSg g) {n : Int} (h : okR n) : signR g n = some (docS g n) := by
  have hm := minor_ok h
  have ha := alike_ok h
  have hM := major_ok h
  obtain ⟨z1, z2⟩ := at_nn h
  have e0 := from_le (Int.le_refl n)
  have e1 := from_le h.1
  have e2 := from_le h.2
  have e3 := from_le hm.2
  have e4 := from_le hM.2
  have e5 := from_cut1 h
  have e6 := from_cut2 h
  rcases hg with rfl | rfl | rfl | rfl | rfl | rfl | rfl | rfl
  · simp [signR, docS, e0]
  · simp [signR, docS, e1]
  · simp [signR, docS, e2]
  · simp [signR, docS, e5]
  · simp [signR, docS, e6]
  · simp [signR, docS, e0]
  · have s94 : signR [94] n = some [(n, alikeR n)] := by simp [signR]
    have d94 : docS [94] n = (if 0 < atA n then fromR n (majorR n) else if 0 < atB n then fromR n (minorR n) else fromR n n) := by simp [docS]
    rw [s94, d94]
    unfold alikeR
    by_cases c1 : atA n = 0
    · by_cases c2 : atB n = 0
      · simp [c1, c2, e0]
      · have : 0 < atB n := by omega
        simp [c1, c2, this, e3]
    · have : 0 < atA n := by omega
      simp [c1, this, e4]
  · simp [signR, docS, e3]

theorem sgD_of {g : Bt} (hg : IsSg g) {d : UInt8} {r : Bt} (hd : 48 ≤ d.toNat ∧ d.toNat ≤ 57) : sgD (g ++ d :: r) = g := by
  have ne : ∀ x : UInt8, (x.toNat < 48 ∨ 57 < x.toNat) → (x == d) = false := fun x hx => by
    rw [beq_eq_false_iff_ne]
    rintro rfl
    omega
  have n60 := ne 60 (by decide)
  have n61 := ne 61 (by decide)
  have n62 := ne 62 (by decide)
  have n94 := ne 94 (by decide)
  have n126 := ne 126 (by decide)
  rcases hg with rfl | rfl | rfl | rfl | rfl | rfl | rfl | rfl <;> simp [sgD, signsD, List.find?, List.isPrefixOf, n60, n61, n62, n94, n126]

theorem sign_is {g : Bt} {n : Int} {R : Rg} (h : signR g n = some R) : IsSg g := by
  unfold signR at h
  unfold IsSg
  repeat' split at h
  all_goals first | (cases h; done) | skip
  · rename_i hh
    rcases hh with hh | hh
    · exact Or.inl hh
    · rw [hh]; simp
  all_goals simp_all

theorem word_doc (l : Bt) : wordR (bt l) = docW l := by
  unfold docW
  by_cases h42 : l = [42]
  · rw [if_pos h42]
    subst h42
    unfold wordR
    rw [if_pos (bt_list _)]
  · rw [if_neg h42]
    by_cases ho : okP (bt (l.drop (sgD l).length)) = true
    · rw [if_pos ho]
      obtain ⟨hm, ht⟩ := okP_text ho
      have hs := sgD_pre l
      have hg := sgD_is l
      obtain ⟨hp, _⟩ := plP_ok ho
      rw [← sign_doc hg hp]
      have hb : bt l = bt (sgD l) ++ bt (l.drop (sgD l).length) := by
        rw [← (show bt (sgD l ++ l.drop (sgD l).length) = bt (sgD l) ++ bt (l.drop (sgD l).length) from bytes_append _ _), ← hs]
      rw [hb]
      conv => lhs; rw [ht]
      rw [word_sign (sg_B hg) hm, bt_list]
      rfl
    · rw [if_neg ho]
      cases hw : wordR (bt l) with
      | none => rfl
      | some R =>
        exfalso
        unfold wordR at hw
        rw [if_neg (by rw [bt_list]; exact h42)] at hw
        split at hw
        · rename_i hk
          have hg := sign_is hw
          obtain ⟨hm, ht⟩ := okP_text hk
          obtain ⟨d, r, hd, hdd⟩ := text_first hm
          rw [← ht] at hd
          have e1 : ((bt l).extract 0 (idxK (bt l))).data.toList = l.take (idxK (bt l)) := by rw [Lib.extract_from_zero, bt_list]
          have e2 : ((bt l).extract (idxK (bt l)) (bt l).size).data.toList = l.drop (idxK (bt l)) := by rw [Lib.extract_to_end, bt_list]
          rw [e1] at hg
          rw [e2] at hd
          have hl : l = l.take (idxK (bt l)) ++ d :: r := by rw [← hd, List.take_append_drop]
          have hsg : sgD l = l.take (idxK (bt l)) := by
            conv => lhs; rw [hl]
            exact sgD_of hg hdd
          have hdr : l.drop (sgD l).length = l.drop (idxK (bt l)) := by
            rw [hsg, List.length_take, Nat.min_eq_left (by have := idxK_le (bt l); rw [bt_size] at this; exact this)]
          apply ho
          rw [hdr]
          rw [of_list e2] at hk
          exact hk
        · cases hw

theorem docS_one (g : Bt) (n : Int) : (docS g n).length ≤ 1 := by
  have : ∀ a b, (fromR a b).length ≤ 1 := fun a b => by unfold fromR; split <;> simp
  unfold docS
  repeat' split
  all_goals exact this _ _
theorem word_one {p : Bt} {X : Rg} (h : wordR (bt p) = some X) : X.length ≤ 1 := by
  rw [word_doc] at h
  unfold docW at h
  split at h
  · injection h with h; subst h; exact Nat.le_refl _
  · split at h
    · injection h with h; subst h; exact docS_one _ _
    · cases h
theorem meetsD_one : ∀ {ps : List Bt} {R R' : Rg}, RangeR R → R.length ≤ 1 → meetsD R ps = some R' → R'.length ≤ 1
  | [], _, _, _, h, e => by simp only [meetsD, Option.some.injEq] at e; rw [← e]; exact h
  | p :: ps, R, _, hr, h, e => by
    unfold meetsD at e
    split at e
    · cases e
    · rename_i X hX
      exact meetsD_one (hr.meet (word_rg hX)) (meet_one hr (word_rg hX) h (word_one hX)) e
end Go.Proofs.YtkmgfemhfibikaaGreatDoor
namespace Go.Proofs.YtkmgfemhfibikaaGreatDoor
open Go.RowKit
set_option maxRecDepth 100000

theorem infoStr3 : (Tryz.prog.info? 9).map (fun i => (i.zero, i.size, i.bytes)) = some (some (.string ByteArray.empty), 1, 16) := by kernel_rfl
def btV (ws : List Bt) : List Value := ws.map fun w => .string (bt w)
theorem btV_snoc (ws : List Bt) (x : Bt) : btV (ws ++ [x]) = btV ws ++ [.string (bt x)] := by simp [btV]
/-- Texts of one's own. -/
def OwnK (w : World) (B : Nat) (v : Value) (ws : List Bt) : Prop := w.ownsRow B 9 1 v ws.length (btV ws)
theorem OwnK.nil (w : World) (B : Nat) : OwnK w B (.slice none 0 0) [] := ⟨rfl, Or.inl ⟨rfl, rfl⟩⟩
theorem OwnK.below {w w' : World} {B : Nat} {v : Value} {ws : List Bt} (h : OwnK w B v ws) (hb : Below w.heap.size w w') : OwnK w' B v ws := by
  refine ⟨h.1, ?_⟩
  rcases h.2 with hn | ⟨g, cap, cur, rfl, hB, hgg, r⟩
  · exact Or.inl hn
  · exact Or.inr ⟨g, cap, cur, rfl, hB, (hb.block g (Array.getElem?_eq_some_iff.1 hgg).1).trans hgg, r⟩
theorem OwnK.alloc {w : World} {B : Nat} {v : Value} {ws : List Bt} (h : OwnK w B v ws) (o : Obj) : OwnK (w.alloc o) B v ws := h.below (boxB _ _)
/-- Texts that lie in memory. -/
def TxtsAt (w : World) (v : Value) (ws : List Bt) : Prop := ∃ ad cap, v = .slice ad ws.length cap ∧ (ws = [] ∨ ∃ g, ad = some ⟨g, 0, none⟩ ∧ g < w.heap.size ∧ ∀ i (h : i < ws.length), w.cell? ⟨g, i, none⟩ = some (.string (bt ws[i])))
theorem TxtsAt.below {w w' : World} {v : Value} {ws : List Bt} (h : TxtsAt w v ws) (hb : Below w.heap.size w w') : TxtsAt w' v ws := by
  obtain ⟨ad, cap, rfl, h⟩ := h
  refine ⟨ad, cap, rfl, h.imp id ?_⟩
  rintro ⟨g, ha, hg, hs⟩
  exact ⟨g, ha, Nat.lt_of_lt_of_le hg hb.size, fun i hi => (hb.cell (p := ⟨g, i, none⟩) hg).trans (hs i hi)⟩
theorem OwnK.at {w : World} {B : Nat} {v : Value} {ws : List Bt} (h : OwnK w B v ws) : TxtsAt w v ws := by
  have h0 := h
  rcases h.2 with ⟨rfl, hn⟩ | ⟨g, cap, cur, rfl, hB, hg, hc, _⟩
  · exact ⟨none, 0, by rw [hn], Or.inl (List.eq_nil_of_length_eq_zero hn)⟩
  · refine ⟨_, cap, rfl, Or.inr ⟨g, rfl, (Array.getElem?_eq_some_iff.1 hg).1, fun i hi => ?_⟩⟩
    have := World.ownsRow.cellAt h0 i (by omega)
    rw [this]
    simp [btV, hi]

theorem bt_extract (s : ByteArray) (f k : Nat) : s.extract f k = bt ((s.data.toList.take k).drop f) := by
  refine of_list ?_
  rw [ByteArray.data_extract, Array.toList_extract, List.extract_eq_take_drop, List.drop_take]
theorem drop_atT {t : ByteArray} {k : Nat} (h : k < t.size) : t.data.toList.drop k = t[k] :: t.data.toList.drop (k + 1) := List.drop_eq_getElem_cons (by rw [list_size]; exact h)
theorem take_atT {t : ByteArray} {f k : Nat} (h : k < t.size) (hf : f ≤ k) : (t.data.toList.take (k + 1)).drop f = (t.data.toList.take k).drop f ++ [t[k]] := by
  rw [List.take_succ_eq_append_getElem (by rw [list_size]; exact h), List.drop_append_of_le_length (by rw [List.length_take, list_size]; omega)]
  rfl
theorem cur_nilT (t : ByteArray) (k : Nat) : (t.data.toList.take k).drop k = [] := List.drop_of_length_le (by rw [List.length_take]; omega)
theorem drop_endT {t : ByteArray} {k : Nat} (h : ¬ k < t.size) : t.data.toList.drop k = [] := List.drop_of_length_le (by rw [list_size]; omega)
theorem byte_eq {x y : UInt8} : ((x.toNat : Int) == (y.toNat : Int)) = (x == y) := by
  by_cases h : x = y
  · subst h; simp
  · rw [beq_eq_false_iff_ne.2 h, beq_eq_false_iff_ne]
    intro e
    exact h (UInt8.toNat_inj.1 (by omega))

set_option maxHeartbeats 6400000 in
theorem alternatives_walk (s : ByteArray) (hs : s.size ≤ 4194304) (w : World) :
    Calls Tryz.prog 28 #[.string s] w fun e w' => ∃ v, e = .returned v ∧ OwnK w' w.heap.size v (seg [124, 124] [] s.data.toList) ∧ (seg [124, 124] [] s.data.toList).length ≤ s.size + 1 ∧ Below w.heap.size w w' := by
  obtain ⟨i0, hi, hz0, hz1, hz2⟩ := info_parts3 infoStr3
  go_enter Tryz.func28, Tryz.ntmps28
  go_wp2
  go_loopw [3, 4, 5] (fun v fr i wr => ∃ (k f : Nat) (pre : List Bt), k ≤ s.size ∧ i = .int .i64 k ∧ fr = .int .i64 f ∧ f ≤ k ∧ pre.length ≤ k ∧ OwnK wr w.heap.size v pre ∧ Below w.heap.size w wr ∧ seg [124, 124] [] s.data.toList = pre ++ seg [124, 124] ((s.data.toList.take k).drop f) (s.data.toList.drop k)) (fun _ _ i _ => s.size - (intOf i).toNat)
  case atStart => exact ⟨0, 0, [], Nat.zero_le _, rfl, rfl, Nat.le_refl _, Nat.le_refl _, OwnK.nil _ _, Below.refl _ _, rfl⟩
  case round =>
    obtain ⟨k, f, pre, hk, rfl, rfl, hf, hpl, how, hb, heq⟩ := hrel
    have HO := hide3 how
    have HB := hide3 hb
    have HE := hide3 heq
    clear how hb heq
    have wk1 : IntKind.i64.wrap ((k : Int) + 1) = ((k + 1 : Nat) : Int) := by rw [IntKind.wrap_i64]; push_cast; omega
    by_cases hlt : k + 1 < s.size
    · have hk0 : k < s.size := by omega
      have hd := drop_atT hk0
      have hd1 := drop_atT hlt
      by_cases hx : s[k] = 124
      · have e1 : ((s[k].toNat : Int) == 124) = true := by rw [hx]; rfl
        by_cases hy : s[k + 1] = 124
        · have e2 : ((s[k + 1].toNat : Int) == 124) = true := by rw [hy]; rfl
          have HE2 : Hid (seg [124, 124] [] s.data.toList = (pre ++ [(s.data.toList.take k).drop f]) ++ seg [124, 124] ((s.data.toList.take (k + 2)).drop (k + 2)) (s.data.toList.drop (k + 2))) := by
            unfold Hid
            rw [cur_nilT, HE.out, hd, hd1, hx, hy, seg_hit (by simp) (by simp)]
            simp
          clear hd hd1 hx hy
          go_wp2_with (at_builtin; refine wpList_append_own_at _ rfl _ _ 41 rfl w.heap.size 9 i0 _ 1 16 Tryz.underlying41 hi hz0 hz1 hz2 rfl (by decide) _ _ _ rfl (HO.out.alloc _) ⟨wr.heap.size, 0, none⟩ 1 1 [.string (s.extract f k)] rfl rfl (cell_one_new _ _ _) (by simp [Value.oneCell']) (by unfold maxLen; omega) (by omega) (by have := HB.out.size; simp; omega) ?_; intro v2 w2 hown2 hg2 hnil2 hat2; have HO2 : Hid (OwnK w2 w.heap.size v2 (pre ++ [(s.data.toList.take k).drop f]) ∧ Below w.heap.size w w2) := (⟨by unfold OwnK; rw [btV_snoc, List.length_append, ← bt_extract]; exact hown2, (below_then HB.out (boxB _ _)).grown hg2 (below_then HB.out (boxB _ _)).size fun j hj => (World.ownsRow.lt HO.out j hj).1⟩); clear hown2 hg2 hnil2 hat2; go_frame)
          exact ⟨⟨k + 2, k + 2, _, by omega, by go_num, by go_num, Nat.le_refl _, by simp; omega, HO2.out.1, HO2.out.2, HE2.out⟩, by simp [intOf]; omega⟩
        · have e2 : ((s[k + 1].toNat : Int) == 124) = false := by rw [show (124 : Int) = ((124 : UInt8).toNat : Int) from rfl, byte_eq, beq_eq_false_iff_ne]; exact hy
          have HE2 : Hid (seg [124, 124] [] s.data.toList = pre ++ seg [124, 124] ((s.data.toList.take (k + 1)).drop f) (s.data.toList.drop (k + 1))) := by
            unfold Hid
            rw [take_atT hk0 hf, HE.out, hd, seg_go]
            rw [hd1, hx]
            show ((124 : UInt8) == 124 && ((124 : UInt8) == s[k + 1] && _)) = false
            rw [beq_eq_false_iff_ne.2 (fun e => hy e.symm)]
            rfl
          clear hd hd1 hx hy
          go_wp2
          exact ⟨⟨k + 1, f, pre, by omega, by go_num, rfl, by omega, by omega, HO.out, HB.out, HE2.out⟩, by simp [intOf]; omega⟩
      · have e1 : ((s[k].toNat : Int) == 124) = false := by rw [show (124 : Int) = ((124 : UInt8).toNat : Int) from rfl, byte_eq, beq_eq_false_iff_ne]; exact hx
        have HE2 : Hid (seg [124, 124] [] s.data.toList = pre ++ seg [124, 124] ((s.data.toList.take (k + 1)).drop f) (s.data.toList.drop (k + 1))) := by
          unfold Hid
          rw [take_atT hk0 hf, HE.out, hd, seg_go (pre_no hx)]
        clear hd hd1 hx
        go_wp2
        exact ⟨⟨k + 1, f, pre, by omega, by go_num, rfl, by omega, by omega, HO.out, HB.out, HE2.out⟩, by simp [intOf]; omega⟩
    · have HE2 : Hid (seg [124, 124] [] s.data.toList = pre ++ [(s.data.toList.take s.size).drop f]) := by
        unfold Hid
        rw [HE.out]
        congr 1
        by_cases hk0 : k < s.size
        · rw [drop_atT hk0, drop_endT (by omega), seg_go (show List.isPrefixOf [124, 124] [s[k]] = false from Bool.and_false _), seg_nil, ← take_atT hk0 hf, show k + 1 = s.size by omega]
        · rw [drop_endT hk0, seg_nil, show k = s.size by omega]
      go_wp2_with (at_builtin; refine wpList_append_own_at _ rfl _ _ 41 rfl w.heap.size 9 i0 _ 1 16 Tryz.underlying41 hi hz0 hz1 hz2 rfl (by decide) _ _ _ rfl (HO.out.alloc _) ⟨wr.heap.size, 0, none⟩ 1 1 [.string (s.extract f s.size)] rfl rfl (cell_one_new _ _ _) (by simp [Value.oneCell']) (by unfold maxLen; omega) (by omega) (by have := HB.out.size; simp; omega) ?_; intro v2 w2 hown2 hg2 hnil2 hat2; have HO2 : Hid (OwnK w2 w.heap.size v2 (pre ++ [(s.data.toList.take s.size).drop f]) ∧ Below w.heap.size w w2) := (⟨by unfold OwnK; rw [btV_snoc, List.length_append, ← bt_extract]; exact hown2, (below_then HB.out (boxB _ _)).grown hg2 (below_then HB.out (boxB _ _)).size fun j hj => (World.ownsRow.lt HO.out j hj).1⟩); clear hown2 hg2 hnil2 hat2; go_frame)
      go_ret
      exact ⟨_, rfl, by rw [HE2.out]; exact HO2.out.1, by rw [HE2.out]; simp; omega, HO2.out.2⟩

/-- Words: what stands ahead of the next blank. -/
theorem words_cut {l p r : Bt} (hp : ∀ x ∈ p, x ≠ 32) (h : l = p ++ 32 :: r) : wordsD l = (if p = [] then [] else [p]) ++ wordsD r := by
  subst h
  unfold wordsD
  rw [show p ++ 32 :: r = p ++ (([32] : Bt) ++ r) from rfl, seg_more hp, List.nil_append]
  cases p with
  | nil => simp
  | cons b q => simp
theorem words_end {p : Bt} (hp : ∀ x ∈ p, x ≠ 32) : wordsD p = if p = [] then [] else [p] := by
  unfold wordsD
  rw [seg_one hp, List.nil_append]
  cases p with
  | nil => simp
  | cons b q => simp
theorem words_nil : wordsD [] = [] := words_end (fun x h => by cases h)

theorem take_drop_at {l : Bt} {i k : Nat} (hik : i ≤ k) : l.drop i = (l.take k).drop i ++ l.drop k := by
  conv => lhs; rw [← List.take_append_drop k l]
  rcases Nat.lt_or_ge l.length i with h | h
  · rw [List.drop_of_length_le (by simp; omega), List.drop_of_length_le (by simp; omega), List.drop_of_length_le (by omega)]
    rfl
  · rw [List.drop_append_of_le_length (by simp; omega)]

set_option maxHeartbeats 6400000 in
theorem words_doc (s : ByteArray) (hs : s.size ≤ 4194304) (w : World) :
    Calls Tryz.prog 29 #[.string s] w fun e w' => ∃ v, e = .returned v ∧ OwnK w' w.heap.size v (wordsD s.data.toList) ∧ (wordsD s.data.toList).length ≤ s.size ∧ Below w.heap.size w w' := by
  obtain ⟨i0, hi, hz0, hz1, hz2⟩ := info_parts3 infoStr3
  go_enter Tryz.func29, Tryz.ntmps29
  go_wp2
  go_loopw [3, 4] (fun v i wr => ∃ (k : Nat) (pre : List Bt), k ≤ s.size + 1 ∧ i = .int .i64 k ∧ pre.length ≤ k ∧ pre.length ≤ s.size ∧ OwnK wr w.heap.size v pre ∧ Below w.heap.size w wr ∧ wordsD s.data.toList = pre ++ wordsD (s.data.toList.drop k)) (fun _ i _ => s.size + 1 - (intOf i).toNat)
  case atStart => exact ⟨0, [], Nat.zero_le _, rfl, Nat.le_refl _, Nat.zero_le _, OwnK.nil _ _, Below.refl _ _, rfl⟩
  case round =>
    obtain ⟨i, pre, hk, rfl, hpl, hps, how, hb, heq⟩ := hrel
    have HO := hide3 how
    have HB := hide3 hb
    have HE := hide3 heq
    clear how hb heq
    by_cases hlt : i < s.size
    · go_wp2_with fail
      go_loopw [5] (fun q wq => ∃ k : Nat, i ≤ k ∧ k ≤ s.size ∧ q = .int .i64 k ∧ wq = wr ∧ ∀ x ∈ (s.data.toList.take k).drop i, x ≠ 32) (fun q _ => s.size - (intOf q).toNat)
      case atStart => exact ⟨i, Nat.le_refl _, by omega, rfl, rfl, fun x hx => by rw [cur_nilT] at hx; cases hx⟩
      case round =>
        obtain ⟨k, hik, hks, rfl, rfl, hno⟩ := hrel
        have HNO := hide3 hno
        clear hno
        by_cases hgo : ∃ h : k < s.size, s[k] ≠ 32
        · obtain ⟨hk0, hx⟩ := hgo
          have e1 : ((s[k].toNat : Int) == 32) = false := by rw [show (32 : Int) = ((32 : UInt8).toNat : Int) from rfl, byte_eq, beq_eq_false_iff_ne]; exact hx
          have HNO2 : Hid (∀ x ∈ (s.data.toList.take (k + 1)).drop i, x ≠ 32) := by
            intro x hxm
            rw [take_atT hk0 hik] at hxm
            rcases List.mem_append.1 hxm with h | h
            · exact HNO.out x h
            · rw [List.mem_singleton.1 h]; exact hx
          clear hx
          go_wp2
          exact ⟨⟨k + 1, by omega, by omega, by go_num, by first | rfl | trivial, HNO2.out⟩, by simp [intOf]; omega⟩
        · have HE2 : Hid (wordsD s.data.toList = pre ++ ((if (s.data.toList.take k).drop i = [] then [] else [(s.data.toList.take k).drop i]) ++ wordsD (s.data.toList.drop (k + 1)))) := by
            unfold Hid
            rw [HE.out]
            congr 1
            by_cases hk0 : k < s.size
            · have hx : s[k] = 32 := Classical.byContradiction fun h => hgo ⟨hk0, h⟩
              refine words_cut HNO.out ?_
              rw [take_drop_at hik, drop_atT hk0, hx]
            · rw [drop_endT (by omega : ¬ k + 1 < s.size), words_nil, List.append_nil, take_drop_at hik, drop_endT hk0, List.append_nil]
              exact words_end HNO.out
          have e1 : ∀ h : k < s.size, ((s[k].toNat : Int) == 32) = true := fun h => by
            have hx : s[k] = 32 := Classical.byContradiction fun hh => hgo ⟨h, hh⟩
            rw [hx]; rfl
          have hlen : ((s.data.toList.take k).drop i).length = k - i := by rw [List.length_drop, List.length_take, list_size]; omega
          by_cases hki : i < k
          · have HE3 : Hid (wordsD s.data.toList = (pre ++ [(s.data.toList.take k).drop i]) ++ wordsD (s.data.toList.drop (k + 1))) := by
              unfold Hid
              rw [HE2.out, if_neg (by intro e; rw [e] at hlen; simp at hlen; omega)]
              simp
            clear hgo HE2 hlen
            by_cases hk0 : k < s.size
            · have e2 := e1 hk0
              clear e1
              go_wp2_with (at_builtin; refine wpList_append_own_at _ rfl _ _ 41 rfl w.heap.size 9 i0 _ 1 16 Tryz.underlying41 hi hz0 hz1 hz2 rfl (by decide) _ _ _ rfl (HO.out.alloc _) ⟨wr.heap.size, 0, none⟩ 1 1 [.string (s.extract i k)] rfl rfl (cell_one_new _ _ _) (by simp [Value.oneCell']) (by unfold maxLen; omega) (by omega) (by have := HB.out.size; simp; omega) ?_; intro v2 w2 hown2 hg2 hnil2 hat2; have HO2 : Hid (OwnK w2 w.heap.size v2 (pre ++ [(s.data.toList.take k).drop i]) ∧ Below w.heap.size w w2) := (⟨by unfold OwnK; rw [btV_snoc, List.length_append, ← bt_extract]; exact hown2, (below_then HB.out (boxB _ _)).grown hg2 (below_then HB.out (boxB _ _)).size fun j hj => (World.ownsRow.lt HO.out j hj).1⟩); clear hown2 hg2 hnil2 hat2; go_frame)
              exact ⟨⟨k + 1, _, by omega, by go_num, by simp; omega, by simp; omega, HO2.out.1, HO2.out.2, HE3.out⟩, by simp [intOf]; omega⟩
            · have hk1 : ¬ ((k : Int) < (s.size : Int)) := by omega
              clear e1
              go_wp2_with (at_builtin; refine wpList_append_own_at _ rfl _ _ 41 rfl w.heap.size 9 i0 _ 1 16 Tryz.underlying41 hi hz0 hz1 hz2 rfl (by decide) _ _ _ rfl (HO.out.alloc _) ⟨wr.heap.size, 0, none⟩ 1 1 [.string (s.extract i k)] rfl rfl (cell_one_new _ _ _) (by simp [Value.oneCell']) (by unfold maxLen; omega) (by omega) (by have := HB.out.size; simp; omega) ?_; intro v2 w2 hown2 hg2 hnil2 hat2; have HO2 : Hid (OwnK w2 w.heap.size v2 (pre ++ [(s.data.toList.take k).drop i]) ∧ Below w.heap.size w w2) := (⟨by unfold OwnK; rw [btV_snoc, List.length_append, ← bt_extract]; exact hown2, (below_then HB.out (boxB _ _)).grown hg2 (below_then HB.out (boxB _ _)).size fun j hj => (World.ownsRow.lt HO.out j hj).1⟩); clear hown2 hg2 hnil2 hat2; go_frame)
              exact ⟨⟨k + 1, _, by omega, by go_num, by simp; omega, by simp; omega, HO2.out.1, HO2.out.2, HE3.out⟩, by simp [intOf]; omega⟩
          · obtain rfl : k = i := by omega
            have HE3 : Hid (wordsD s.data.toList = pre ++ wordsD (s.data.toList.drop (k + 1))) := by
              unfold Hid
              rw [HE2.out, cur_nilT, if_pos rfl, List.nil_append]
            have e2 := e1 hlt
            clear hgo HE2 hlen e1
            go_wp2
            exact ⟨⟨k + 1, pre, by omega, by go_num, by omega, hps, HO.out, HB.out, HE3.out⟩, by simp [intOf]; omega⟩
    · have HE2 : Hid (wordsD s.data.toList = pre) := by unfold Hid; rw [HE.out, drop_endT hlt, words_nil, List.append_nil]
      go_wp2
      go_ret
      exact ⟨_, rfl, by rw [HE2.out]; exact HO.out, by rw [HE2.out]; exact hps, HB.out⟩

/-- begins. -/
theorem begins_any (s t : ByteArray) (w : World) :
    Calls Tryz.prog 45 #[.string s, .string t] w fun e w' => e = .returned (.bool (t.data.toList.isPrefixOf s.data.toList)) ∧ Below w.heap.size w w' := by
  by_cases h : t.size ≤ s.size
  · have e1 : ((t.size : Int) ≤ (s.size : Int)) = True := eq_true (by omega)
    have hx : (s.extract 0 t.size).toList = s.data.toList.take t.size := by
      rw [ByteArray.toList_eq, Lib.extract_from_zero]
    have HR : Hid (t.data.toList.isPrefixOf s.data.toList = decide ((s.extract 0 t.size).toList = t.toList)) := by
      unfold Hid
      rw [hx, ByteArray.toList_eq, Bool.eq_iff_iff, List.isPrefixOf_iff_prefix, decide_eq_true_eq, List.prefix_iff_eq_take, list_size]
      exact eq_comm
    clear hx
    by_cases hq : (s.extract 0 t.size).toList = t.toList
    · go_enter Tryz.func45, Tryz.ntmps45
      go_wp2
      go_ret
      exact ⟨ret_bool (by rw [HR.out, decide_eq_true hq]), Below.refl _ _⟩
    · go_enter Tryz.func45, Tryz.ntmps45
      go_wp2
      go_ret
      exact ⟨ret_bool (by rw [HR.out, decide_eq_false hq]; exact beq_eq_false_iff_ne.2 hq), Below.refl _ _⟩
  · have HR : Hid (t.data.toList.isPrefixOf s.data.toList = false) := by
      unfold Hid
      rw [Bool.eq_false_iff]
      intro e
      have := (List.isPrefixOf_iff_prefix.1 e).length_le
      rw [list_size, list_size] at this
      omega
    go_enter Tryz.func45, Tryz.ntmps45
    go_wp2
    go_ret
    exact ⟨ret_bool HR.out.symm, Below.refl _ _⟩

theorem from_doc (lo hi : Int) (w : World) : Calls Tryz.prog 48 #[.int .i64 lo, .int .i64 hi] w fun e w' => ∃ v, e = .returned v ∧ SpansR w' v (fromR lo hi) ∧ Below w.heap.size w w' := by
  by_cases h : lo > hi
  · have HR : Hid (fromR lo hi = []) := by unfold Hid fromR; rw [if_pos h]
    go_enter Tryz.func48, Tryz.ntmps48
    go_wp2
    go_ret
    exact ⟨_, rfl, by rw [HR.out]; exact ⟨none, 0, rfl, Nat.le_refl _, Or.inl rfl⟩, Below.refl _ _⟩
  · have HR : Hid (fromR lo hi = [(lo, hi)]) := by unfold Hid fromR; rw [if_neg h]
    have H0 : Hid (∀ w1, Calls Tryz.prog 42 #[.int .i64 lo] w1 fun e w' => e = .returned (.agg #[.int .i64 (atA lo), .int .i64 (atB lo), .int .i64 (atC lo)]) ∧ Below w1.heap.size w1 w') := rat_any lo
    have H9 : Hid (∀ w1, Calls Tryz.prog 42 #[.int .i64 hi] w1 fun e w' => e = .returned (.agg #[.int .i64 (atA hi), .int .i64 (atB hi), .int .i64 (atC hi)]) ∧ Below w1.heap.size w1 w') := rat_any hi
    have HS : Hid (∀ w1, Below w.heap.size w w1 → SpansR (w1.alloc (.cells #[.int .i64 (atA lo), .int .i64 (atB lo), .int .i64 (atC lo), .int .i64 (atA hi), .int .i64 (atB hi), .int .i64 (atC hi)] 37)) (.slice (some ⟨w1.heap.size, 0, none⟩) 1 1) [(lo, hi)] ∧ Below w.heap.size w (w1.alloc (.cells #[.int .i64 (atA lo), .int .i64 (atB lo), .int .i64 (atC lo), .int .i64 (atA hi), .int .i64 (atB hi), .int .i64 (atC hi)] 37))) := fun w1 hb => spans_one hb lo hi rfl
    have t1 : True := trivial
    go_enter Tryz.func48, Tryz.ntmps48
    go_wp2_with (first
      | (have _t := t1; go_at_call 42; refine (H0.out _).mono ?_; rintro e w1 ⟨rfl, ok1⟩; clear t1; have HO1 := hide3 ok1; clear ok1)
      | (go_at_call 42; refine (H9.out _).mono ?_; rintro e w2 ⟨rfl, ok2⟩; have HO2 := hide3 (below_then HO1.out ok2); clear ok2))
    go_ret
    exact ⟨_, rfl, by rw [HR.out]; exact (HS.out _ HO2.out).1, (HS.out _ HO2.out).2⟩
end Go.Proofs.YtkmgfemhfibikaaGreatDoor
namespace Go.Proofs.YtkmgfemhfibikaaGreatDoor
open Go.RowKit
set_option maxRecDepth 100000

/-- The signs, in their order. -/
def sV : Nat → ByteArray
  | 0 => ⟨#[60, 61]⟩
  | 1 => ⟨#[62, 61]⟩
  | 2 => ⟨#[60]⟩
  | 3 => ⟨#[62]⟩
  | 4 => ⟨#[61]⟩
  | 5 => ⟨#[94]⟩
  | 6 => ⟨#[126]⟩
  | _ => ⟨#[]⟩
def sL : Nat → Bt
  | 0 => [60, 61]
  | 1 => [62, 61]
  | 2 => [60]
  | 3 => [62]
  | 4 => [61]
  | 5 => [94]
  | 6 => [126]
  | _ => []
theorem sV_list (j : Nat) : (sV j).data.toList = sL j := by
  match j with
  | 0 | 1 | 2 | 3 | 4 | 5 | 6 => rfl
  | _ + 7 => rfl
/-- Nothing of the first k signs stands ahead. -/
def NoSg (p : Bt) (k : Nat) : Prop := ∀ j, j < k → (sL j).isPrefixOf p = false
theorem NoSg.succ {p : Bt} {k : Nat} (h : NoSg p k) (hk : (sL k).isPrefixOf p = false) : NoSg p (k + 1) := fun j hj => by
  rcases Nat.lt_or_ge j k with h1 | h1
  · exact h j h1
  · obtain rfl : j = k := by omega
    exact hk
theorem sg_none {p : Bt} (h : NoSg p 7) : sgD p = [] := by
  have h0 := h 0 (by omega)
  have h1 := h 1 (by omega)
  have h2 := h 2 (by omega)
  have h3 := h 3 (by omega)
  have h4 := h 4 (by omega)
  have h5 := h 5 (by omega)
  have h6 := h 6 (by omega)
  simp only [sL] at h0 h1 h2 h3 h4 h5 h6
  simp only [sgD, signsD, List.find?, h0, h1, h2, h3, h4, h5, h6, Option.getD]
theorem sg_found {p : Bt} {j : Nat} (hj : j < 7) (h : NoSg p j) (hp : (sL j).isPrefixOf p = true) : sgD p = sL j := by
  match j, hj with
  | 0, _ =>
    simp only [sL] at  hp ⊢
    simp only [sgD, signsD, List.find?, Option.getD, hp]
  | 1, _ =>
    have h0 := h 0 (by omega)
    simp only [sL] at h0 hp ⊢
    simp only [sgD, signsD, List.find?, h0, Option.getD, hp]
  | 2, _ =>
    have h0 := h 0 (by omega)
    have h1 := h 1 (by omega)
    simp only [sL] at h0 h1 hp ⊢
    simp only [sgD, signsD, List.find?, h0, h1, Option.getD, hp]
  | 3, _ =>
    have h0 := h 0 (by omega)
    have h1 := h 1 (by omega)
    have h2 := h 2 (by omega)
    simp only [sL] at h0 h1 h2 hp ⊢
    simp only [sgD, signsD, List.find?, h0, h1, h2, Option.getD, hp]
  | 4, _ =>
    have h0 := h 0 (by omega)
    have h1 := h 1 (by omega)
    have h2 := h 2 (by omega)
    have h3 := h 3 (by omega)
    simp only [sL] at h0 h1 h2 h3 hp ⊢
    simp only [sgD, signsD, List.find?, h0, h1, h2, h3, Option.getD, hp]
  | 5, _ =>
    have h0 := h 0 (by omega)
    have h1 := h 1 (by omega)
    have h2 := h 2 (by omega)
    have h3 := h 3 (by omega)
    have h4 := h 4 (by omega)
    simp only [sL] at h0 h1 h2 h3 h4 hp ⊢
    simp only [sgD, signsD, List.find?, h0, h1, h2, h3, h4, Option.getD, hp]
  | 6, _ =>
    have h0 := h 0 (by omega)
    have h1 := h 1 (by omega)
    have h2 := h 2 (by omega)
    have h3 := h 3 (by omega)
    have h4 := h 4 (by omega)
    have h5 := h 5 (by omega)
    simp only [sL] at h0 h1 h2 h3 h4 h5 hp ⊢
    simp only [sgD, signsD, List.find?, h0, h1, h2, h3, h4, h5, Option.getD, hp]

/-- What the document's word answers. -/
def WordQ (w : World) (p : Bt) (e : Ending) (w' : World) : Prop := ∃ v, e = .returned (.tuple #[v, .bool (docW p).isSome]) ∧ SpansR w' v ((docW p).getD []) ∧ Below w.heap.size w w'

theorem word_star_doc (w : World) : Calls Tryz.prog 30 #[.string ⟨#[42]⟩] w (WordQ w [42]) := by
  have HA : Hid (Calls Tryz.prog 24 #[] w fun e w' => ∃ v, e = .returned v ∧ SpansR w' v allR ∧ Below w.heap.size w w') := rAll_rg w
  unfold WordQ
  have HW : Hid (docW [42] = some allR) := by unfold Hid docW; rw [if_pos rfl]
  rw [HW.out]
  go_enter Tryz.func30, Tryz.ntmps30
  go_wp2_with (go_at_call 24; refine HA.out.mono ?_; rintro e w1 ⟨v1, rfl, ok⟩)
  go_ret2
  exact ⟨_, rfl, ok.1, ok.2⟩

set_option maxHeartbeats 12800000 in
theorem word_walk_doc (p : Bt) (hp : p.length ≤ 1048576) (h42 : p ≠ [42]) (w : World) : Calls Tryz.prog 30 #[.string (bt p)] w (WordQ w p) := by
  have h42' : ((bt p).toList == [42]) = false := beq_no (by rw [bt_list]; exact h42)
  have HBG : Hid (∀ t w1, Calls Tryz.prog 45 #[.string (bt p), .string t] w1 fun e w' => e = .returned (.bool (t.data.toList.isPrefixOf p)) ∧ Below w1.heap.size w1 w') := fun t w1 => by
    have := begins_any (bt p) t w1
    rw [bt_list] at this
    exact this
  have HPA : Hid (∀ (g : Bt) w1, Calls Tryz.prog 46 #[.string ((bt p).extract g.length (bt p).size)] w1 fun e w' => e = .returned (.tuple #[.agg #[.int .i64 (resA (bt (p.drop g.length))), .int .i64 (resB (bt (p.drop g.length))), .int .i64 (resC (bt (p.drop g.length)))], .bool (okP (bt (p.drop g.length)))]) ∧ Below w1.heap.size w1 w') := fun g w1 => by
    have e : (bt p).extract g.length (bt p).size = bt (p.drop g.length) := of_list (by rw [Lib.extract_to_end, bt_list])
    rw [e]
    exact rParse_walk _ (by rw [bt_size, List.length_drop]; omega) w1
  have HP0 : Hid (∀ w1, Calls Tryz.prog 46 #[.string (bt p)] w1 fun e w' => e = .returned (.tuple #[.agg #[.int .i64 (resA (bt (p.drop 0))), .int .i64 (resB (bt (p.drop 0))), .int .i64 (resC (bt (p.drop 0)))], .bool (okP (bt (p.drop 0)))]) ∧ Below w1.heap.size w1 w') := fun w1 => rParse_walk (bt p) (by rw [bt_size]; exact hp) w1
  have HRK : Hid (∀ a b c w1, Calls Tryz.prog 47 #[.agg #[.int .i64 a, .int .i64 b, .int .i64 c]] w1 fun e w' => e = .returned (.int .i64 (rankV a b c)) ∧ Below w1.heap.size w1 w') := rrank_any
  have HFR : Hid (∀ lo hi w1, Calls Tryz.prog 48 #[.int .i64 lo, .int .i64 hi] w1 fun e w' => ∃ v, e = .returned v ∧ SpansR w' v (fromR lo hi) ∧ Below w1.heap.size w1 w') := from_doc
  have HDO : Hid (∀ g, sgD p = g → okP (bt (p.drop g.length)) = true → docW p = some (docS g (plP (bt (p.drop g.length))))) := fun g hg ho => by
    subst hg
    unfold docW
    rw [if_neg h42, if_pos ho]
  have HDN : Hid (∀ g, sgD p = g → okP (bt (p.drop g.length)) = false → docW p = none) := fun g hg ho => by
    subst hg
    unfold docW
    rw [if_neg h42, if_neg (by rw [ho]; simp)]
  have HC0 : Hid (∀ w1, Below (w.alloc (.cells #[.string ⟨#[60, 61]⟩, .string ⟨#[62, 61]⟩, .string ⟨#[60]⟩, .string ⟨#[62]⟩, .string ⟨#[61]⟩, .string ⟨#[94]⟩, .string ⟨#[126]⟩] 9)).heap.size (w.alloc (.cells #[.string ⟨#[60, 61]⟩, .string ⟨#[62, 61]⟩, .string ⟨#[60]⟩, .string ⟨#[62]⟩, .string ⟨#[61]⟩, .string ⟨#[94]⟩, .string ⟨#[126]⟩] 9)) w1 → ∀ k, k < 7 → w1.cell? ⟨w.heap.size, k, none⟩ = some (.string (sV k))) := fun w1 hb k hk => by
    refine (hb.cell (p := ⟨w.heap.size, k, none⟩) (by simp)).trans ?_
    match k, hk with
    | 0, _ | 1, _ | 2, _ | 3, _ | 4, _ | 5, _ | 6, _ => simp [sV]
  unfold WordQ
  go_enter Tryz.func30, Tryz.ntmps30
  go_wp2_with fail
  go_loopw [5, 6] (fun sg i wr => ∃ k : Nat, k ≤ 7 ∧ i = .int .i64 k ∧ Below (w.alloc (.cells #[.string ⟨#[60, 61]⟩, .string ⟨#[62, 61]⟩, .string ⟨#[60]⟩, .string ⟨#[62]⟩, .string ⟨#[61]⟩, .string ⟨#[94]⟩, .string ⟨#[126]⟩] 9)).heap.size (w.alloc (.cells #[.string ⟨#[60, 61]⟩, .string ⟨#[62, 61]⟩, .string ⟨#[60]⟩, .string ⟨#[62]⟩, .string ⟨#[61]⟩, .string ⟨#[94]⟩, .string ⟨#[126]⟩] 9)) wr ∧ ((sg = .string ⟨#[]⟩ ∧ NoSg p k) ∨ ∃ j, k = j + 1 ∧ j < 7 ∧ sg = .string (sV j) ∧ NoSg p j ∧ (sL j).isPrefixOf p = true)) (fun _ i _ => 7 - (intOf i).toNat)
  case atStart => exact ⟨0, Nat.zero_le _, rfl, Below.refl _ _, Or.inl ⟨rfl, fun j hj => by omega⟩⟩
  case round =>
    obtain ⟨k, hk, rfl, hb, hst⟩ := hrel
    have HB := hide3 hb
    have HBW : Hid (Below w.heap.size w wr) := below_then (boxB _ _) hb
    rcases hst with ⟨rfl, hno⟩ | ⟨j, rfl, hj, rfl, hno, hpre⟩
    · by_cases hk7 : k < 7
      · have hc := HC0.out wr hb k hk7
        have HNO := hide3 hno
        have HBk : Hid (∀ w1, Calls Tryz.prog 45 #[.string (bt p), .string (sV k)] w1 fun e w' => e = .returned (.bool ((sL k).isPrefixOf p)) ∧ Below w1.heap.size w1 w') := fun w1 => by
          have := HBG.out (sV k) w1
          rw [sV_list] at this
          exact this
        clear hb hno
        cases hq : (sL k).isPrefixOf p
        · have HNO2 := hide3 (HNO.out.succ hq)
          rw [hq] at HBk
          go_wp2_with (go_at_call 45; refine (HBk.out _).mono ?_; rintro e w1 ⟨rfl, ok⟩; have HOK := hide3 (below_then HB.out ok); clear ok)
          exact ⟨⟨k + 1, by omega, by go_num, HOK.out, Or.inl ⟨rfl, HNO2.out⟩⟩, by simp [intOf]; omega⟩
        · rw [hq] at HBk
          go_wp2_with (go_at_call 45; refine (HBk.out _).mono ?_; rintro e w1 ⟨rfl, ok⟩; have HOK := hide3 (below_then HB.out ok); have hc1 : w1.cell? ⟨w.heap.size, k, none⟩ = some (.string (sV k)) := HC0.out w1 HOK.out k hk7; clear ok)
          exact ⟨⟨k + 1, by omega, by go_num, HOK.out, Or.inr ⟨k, rfl, hk7, rfl, HNO.out, hq⟩⟩, by simp [intOf]; omega⟩
      · obtain rfl : k = 7 := by omega
        have HSG := hide3 (sg_none hno)
        clear hb hno
        have HP1 : Hid (∀ w1, Calls Tryz.prog 46 #[.string (bt p)] w1 fun e w' => e = .returned (.tuple #[.agg #[.int .i64 (resA (bt (p.drop 0))), .int .i64 (resB (bt (p.drop 0))), .int .i64 (resC (bt (p.drop 0)))], .bool (okP (bt (p.drop 0)))]) ∧ Below w1.heap.size w1 w') := HP0.out
        have HD1 : Hid (okP (bt (p.drop 0)) = true → docW p = some (docS [] (plP (bt (p.drop 0))))) := HDO.out [] HSG.out
        have HD2 : Hid (okP (bt (p.drop 0)) = false → docW p = none) := HDN.out [] HSG.out
        have HPL : Hid (okP (bt (p.drop 0)) = true → okR (plP (bt (p.drop 0))) ∧ atA (plP (bt (p.drop 0))) = resA (bt (p.drop 0)) ∧ atB (plP (bt (p.drop 0))) = resB (bt (p.drop 0))) := fun h => ⟨(plP_ok h).1, (plP_ok h).2.1, (plP_ok h).2.2.1⟩
        have HPD : Hid (plP (bt (p.drop 0)) = rankV (resA (bt (p.drop 0))) (resB (bt (p.drop 0))) (resC (bt (p.drop 0)))) := rfl
        clear HPA HP0 HDO HDN HBG HC0 HSG
        generalize bt (p.drop 0) = t at *
        cases ho : okP t
        · have HDW := hide3 (HD2.out ho)
          rw [ho] at HP1
          clear HD1 HD2 HPL
          go_wp2_with (go_at_call 46; refine (HP1.out _).mono ?_; rintro e w2 ⟨rfl, ok⟩; have HO2 := hide3 (below_then HBW.out ok); clear ok)
          go_ret2
          exact ⟨_, by rw [HDW.out]; rfl, by rw [HDW.out]; exact ⟨none, 0, rfl, Nat.le_refl _, Or.inl rfl⟩, below_then HO2.out (boxB _ _)⟩
        · have HDW := hide3 (HD1.out ho)
          obtain ⟨⟨hn0, hn1⟩, hA, hB⟩ := HPL.out ho
          rw [ho] at HP1
          rw [HPD.out] at HDW hn0 hn1 hA hB
          clear HD1 HD2 HPL HPD ho
          have HRK1 := hide3 (HRK.out (resA t) (resB t) (resC t))
          generalize rankV (resA t) (resB t) (resC t) = n at *
          generalize resA t = a at *
          generalize resB t = b at *
          generalize resC t = c at *
          clear HRK
          have r1 : n.tmod 1000 = n % 1000 := Int.tmod_eq_emod_of_nonneg hn0
          have r2 : n.tmod 1000000 = n % 1000000 := Int.tmod_eq_emod_of_nonneg hn0
          have m1 : n - n % 1000 + 999 = minorR n := by unfold minorR; omega
          have m2 : n - n % 1000000 + 999999 = majorR n := by unfold majorR; omega
          have q0 : IntKind.i64.wrap (n - n % 1000) = n - n % 1000 := by rw [IntKind.wrap_i64]; omega
          have q1 : IntKind.i64.wrap (n - n % 1000 + 999) = minorR n := by rw [← m1, IntKind.wrap_i64]; omega
          have q2 : IntKind.i64.wrap (n - n % 1000000) = n - n % 1000000 := by rw [IntKind.wrap_i64]; omega
          have q3 : IntKind.i64.wrap (n - n % 1000000 + 999999) = majorR n := by rw [← m2, IntKind.wrap_i64]; omega
          have HDS : Hid (docS [] n = fromR n n) := by unfold Hid docS; simp
          have HF1 := hide3 (HFR.out n n)
          clear HFR
          go_wp2_with (first
            | (go_at_call 46; refine (HP1.out _).mono ?_; rintro e w2 ⟨rfl, ok⟩; have HO2 := hide3 (below_then (below_then HBW.out ok) (boxB w2 (.cells #[.int .i64 a, .int .i64 b, .int .i64 c] 35))); have HV2 : Hid (BxAt (w2.alloc (.cells #[.int .i64 a, .int .i64 b, .int .i64 c] 35)) ⟨w2.heap.size, .int .i64 a, .int .i64 b, .int .i64 c⟩) := ⟨by simp, by simp, by simp, by simp⟩; clear ok)
            | (go_at_call 47; refine (HRK1.out _).mono ?_; rintro e w3 ⟨rfl, ok⟩; have HO3 := hide3 (below_then HO2.out ok); obtain ⟨b0, b1, b2, b3⟩ := HV2.out.below ok; clear ok)
            | (go_at_call 48; refine (HF1.out _).mono ?_; rintro e w4 ⟨v4, rfl, ok⟩; have HO4 : Hid (SpansR w4 v4 (fromR n n) ∧ Below w.heap.size w w4) := ⟨ok.1, below_then HO3.out ok.2⟩; clear ok))
          go_ret2
          exact ⟨_, by rw [HDW.out]; rfl, by rw [HDW.out]; show SpansR _ _ (docS [] n); rw [HDS.out]; exact HO4.out.1, HO4.out.2⟩
    · have HSG := hide3 (sg_found hj hno hpre)
      have HLE : Hid ((sL j).length ≤ (bt p).size) := by unfold Hid; rw [bt_size]; exact (List.isPrefixOf_iff_prefix.1 hpre).length_le
      clear hb hno hpre
      rcases (show j = 0 ∨ j = 1 ∨ j = 2 ∨ j = 3 ∨ j = 4 ∨ j = 5 ∨ j = 6 by omega) with rfl | rfl | rfl | rfl | rfl | rfl | rfl
      · simp only [sL, sV] at *
        have hle : ((2 : Nat) : Int) ≤ ((bt p).size : Int) := by have := HLE.out; simp at this; omega
        have HP1 : Hid (∀ w1, Calls Tryz.prog 46 #[.string ((bt p).extract 2 (bt p).size)] w1 fun e w' => e = .returned (.tuple #[.agg #[.int .i64 (resA (bt (p.drop 2))), .int .i64 (resB (bt (p.drop 2))), .int .i64 (resC (bt (p.drop 2)))], .bool (okP (bt (p.drop 2)))]) ∧ Below w1.heap.size w1 w') := HPA.out [60, 61]
        have HD1 : Hid (okP (bt (p.drop 2)) = true → docW p = some (docS [60, 61] (plP (bt (p.drop 2))))) := HDO.out [60, 61] HSG.out
        have HD2 : Hid (okP (bt (p.drop 2)) = false → docW p = none) := HDN.out [60, 61] HSG.out
        have HPL : Hid (okP (bt (p.drop 2)) = true → okR (plP (bt (p.drop 2))) ∧ atA (plP (bt (p.drop 2))) = resA (bt (p.drop 2)) ∧ atB (plP (bt (p.drop 2))) = resB (bt (p.drop 2))) := fun h => ⟨(plP_ok h).1, (plP_ok h).2.1, (plP_ok h).2.2.1⟩
        have HPD : Hid (plP (bt (p.drop 2)) = rankV (resA (bt (p.drop 2))) (resB (bt (p.drop 2))) (resC (bt (p.drop 2)))) := rfl
        clear HPA HP0 HDO HDN HBG HC0 HSG HLE
        generalize bt (p.drop 2) = t at *
        cases ho : okP t
        · have HDW := hide3 (HD2.out ho)
          rw [ho] at HP1
          clear HD1 HD2 HPL
          go_wp2_with (go_at_call 46; refine (HP1.out _).mono ?_; rintro e w2 ⟨rfl, ok⟩; have HO2 := hide3 (below_then HBW.out ok); clear ok)
          go_ret2
          exact ⟨_, by rw [HDW.out]; rfl, by rw [HDW.out]; exact ⟨none, 0, rfl, Nat.le_refl _, Or.inl rfl⟩, below_then HO2.out (boxB _ _)⟩
        · have HDW := hide3 (HD1.out ho)
          obtain ⟨⟨hn0, hn1⟩, hA, hB⟩ := HPL.out ho
          rw [ho] at HP1
          rw [HPD.out] at HDW hn0 hn1 hA hB
          clear HD1 HD2 HPL HPD ho
          have HRK1 := hide3 (HRK.out (resA t) (resB t) (resC t))
          generalize rankV (resA t) (resB t) (resC t) = n at *
          generalize resA t = a at *
          generalize resB t = b at *
          generalize resC t = c at *
          clear HRK
          have r1 : n.tmod 1000 = n % 1000 := Int.tmod_eq_emod_of_nonneg hn0
          have r2 : n.tmod 1000000 = n % 1000000 := Int.tmod_eq_emod_of_nonneg hn0
          have m1 : n - n % 1000 + 999 = minorR n := by unfold minorR; omega
          have m2 : n - n % 1000000 + 999999 = majorR n := by unfold majorR; omega
          have q0 : IntKind.i64.wrap (n - n % 1000) = n - n % 1000 := by rw [IntKind.wrap_i64]; omega
          have q1 : IntKind.i64.wrap (n - n % 1000 + 999) = minorR n := by rw [← m1, IntKind.wrap_i64]; omega
          have q2 : IntKind.i64.wrap (n - n % 1000000) = n - n % 1000000 := by rw [IntKind.wrap_i64]; omega
          have q3 : IntKind.i64.wrap (n - n % 1000000 + 999999) = majorR n := by rw [← m2, IntKind.wrap_i64]; omega
          have HDS : Hid (docS [60, 61] n = fromR 0 n) := by unfold Hid docS; simp
          have HF1 := hide3 (HFR.out 0 n)
          clear HFR
          go_wp2_with (first
            | (go_at_call 46; refine (HP1.out _).mono ?_; rintro e w2 ⟨rfl, ok⟩; have HO2 := hide3 (below_then (below_then HBW.out ok) (boxB w2 (.cells #[.int .i64 a, .int .i64 b, .int .i64 c] 35))); have HV2 : Hid (BxAt (w2.alloc (.cells #[.int .i64 a, .int .i64 b, .int .i64 c] 35)) ⟨w2.heap.size, .int .i64 a, .int .i64 b, .int .i64 c⟩) := ⟨by simp, by simp, by simp, by simp⟩; clear ok)
            | (go_at_call 47; refine (HRK1.out _).mono ?_; rintro e w3 ⟨rfl, ok⟩; have HO3 := hide3 (below_then HO2.out ok); obtain ⟨b0, b1, b2, b3⟩ := HV2.out.below ok; clear ok)
            | (go_at_call 48; refine (HF1.out _).mono ?_; rintro e w4 ⟨v4, rfl, ok⟩; have HO4 : Hid (SpansR w4 v4 (fromR 0 n) ∧ Below w.heap.size w w4) := ⟨ok.1, below_then HO3.out ok.2⟩; clear ok))
          go_ret2
          exact ⟨_, by rw [HDW.out]; rfl, by rw [HDW.out]; show SpansR _ _ (docS [60, 61] n); rw [HDS.out]; exact HO4.out.1, HO4.out.2⟩
      · simp only [sL, sV] at *
        have hle : ((2 : Nat) : Int) ≤ ((bt p).size : Int) := by have := HLE.out; simp at this; omega
        have HP1 : Hid (∀ w1, Calls Tryz.prog 46 #[.string ((bt p).extract 2 (bt p).size)] w1 fun e w' => e = .returned (.tuple #[.agg #[.int .i64 (resA (bt (p.drop 2))), .int .i64 (resB (bt (p.drop 2))), .int .i64 (resC (bt (p.drop 2)))], .bool (okP (bt (p.drop 2)))]) ∧ Below w1.heap.size w1 w') := HPA.out [62, 61]
        have HD1 : Hid (okP (bt (p.drop 2)) = true → docW p = some (docS [62, 61] (plP (bt (p.drop 2))))) := HDO.out [62, 61] HSG.out
        have HD2 : Hid (okP (bt (p.drop 2)) = false → docW p = none) := HDN.out [62, 61] HSG.out
        have HPL : Hid (okP (bt (p.drop 2)) = true → okR (plP (bt (p.drop 2))) ∧ atA (plP (bt (p.drop 2))) = resA (bt (p.drop 2)) ∧ atB (plP (bt (p.drop 2))) = resB (bt (p.drop 2))) := fun h => ⟨(plP_ok h).1, (plP_ok h).2.1, (plP_ok h).2.2.1⟩
        have HPD : Hid (plP (bt (p.drop 2)) = rankV (resA (bt (p.drop 2))) (resB (bt (p.drop 2))) (resC (bt (p.drop 2)))) := rfl
        clear HPA HP0 HDO HDN HBG HC0 HSG HLE
        generalize bt (p.drop 2) = t at *
        cases ho : okP t
        · have HDW := hide3 (HD2.out ho)
          rw [ho] at HP1
          clear HD1 HD2 HPL
          go_wp2_with (go_at_call 46; refine (HP1.out _).mono ?_; rintro e w2 ⟨rfl, ok⟩; have HO2 := hide3 (below_then HBW.out ok); clear ok)
          go_ret2
          exact ⟨_, by rw [HDW.out]; rfl, by rw [HDW.out]; exact ⟨none, 0, rfl, Nat.le_refl _, Or.inl rfl⟩, below_then HO2.out (boxB _ _)⟩
        · have HDW := hide3 (HD1.out ho)
          obtain ⟨⟨hn0, hn1⟩, hA, hB⟩ := HPL.out ho
          rw [ho] at HP1
          rw [HPD.out] at HDW hn0 hn1 hA hB
          clear HD1 HD2 HPL HPD ho
          have HRK1 := hide3 (HRK.out (resA t) (resB t) (resC t))
          generalize rankV (resA t) (resB t) (resC t) = n at *
          generalize resA t = a at *
          generalize resB t = b at *
          generalize resC t = c at *
          clear HRK
          have r1 : n.tmod 1000 = n % 1000 := Int.tmod_eq_emod_of_nonneg hn0
          have r2 : n.tmod 1000000 = n % 1000000 := Int.tmod_eq_emod_of_nonneg hn0
          have m1 : n - n % 1000 + 999 = minorR n := by unfold minorR; omega
          have m2 : n - n % 1000000 + 999999 = majorR n := by unfold majorR; omega
          have q0 : IntKind.i64.wrap (n - n % 1000) = n - n % 1000 := by rw [IntKind.wrap_i64]; omega
          have q1 : IntKind.i64.wrap (n - n % 1000 + 999) = minorR n := by rw [← m1, IntKind.wrap_i64]; omega
          have q2 : IntKind.i64.wrap (n - n % 1000000) = n - n % 1000000 := by rw [IntKind.wrap_i64]; omega
          have q3 : IntKind.i64.wrap (n - n % 1000000 + 999999) = majorR n := by rw [← m2, IntKind.wrap_i64]; omega
          have HDS : Hid (docS [62, 61] n = fromR n 999999999) := by unfold Hid docS; simp
          have HF1 := hide3 (HFR.out n 999999999)
          clear HFR
          go_wp2_with (first
            | (go_at_call 46; refine (HP1.out _).mono ?_; rintro e w2 ⟨rfl, ok⟩; have HO2 := hide3 (below_then (below_then HBW.out ok) (boxB w2 (.cells #[.int .i64 a, .int .i64 b, .int .i64 c] 35))); have HV2 : Hid (BxAt (w2.alloc (.cells #[.int .i64 a, .int .i64 b, .int .i64 c] 35)) ⟨w2.heap.size, .int .i64 a, .int .i64 b, .int .i64 c⟩) := ⟨by simp, by simp, by simp, by simp⟩; clear ok)
            | (go_at_call 47; refine (HRK1.out _).mono ?_; rintro e w3 ⟨rfl, ok⟩; have HO3 := hide3 (below_then HO2.out ok); obtain ⟨b0, b1, b2, b3⟩ := HV2.out.below ok; clear ok)
            | (go_at_call 48; refine (HF1.out _).mono ?_; rintro e w4 ⟨v4, rfl, ok⟩; have HO4 : Hid (SpansR w4 v4 (fromR n 999999999) ∧ Below w.heap.size w w4) := ⟨ok.1, below_then HO3.out ok.2⟩; clear ok))
          go_ret2
          exact ⟨_, by rw [HDW.out]; rfl, by rw [HDW.out]; show SpansR _ _ (docS [62, 61] n); rw [HDS.out]; exact HO4.out.1, HO4.out.2⟩
      · simp only [sL, sV] at *
        have hle : ((1 : Nat) : Int) ≤ ((bt p).size : Int) := by have := HLE.out; simp at this; omega
        have HP1 : Hid (∀ w1, Calls Tryz.prog 46 #[.string ((bt p).extract 1 (bt p).size)] w1 fun e w' => e = .returned (.tuple #[.agg #[.int .i64 (resA (bt (p.drop 1))), .int .i64 (resB (bt (p.drop 1))), .int .i64 (resC (bt (p.drop 1)))], .bool (okP (bt (p.drop 1)))]) ∧ Below w1.heap.size w1 w') := HPA.out [60]
        have HD1 : Hid (okP (bt (p.drop 1)) = true → docW p = some (docS [60] (plP (bt (p.drop 1))))) := HDO.out [60] HSG.out
        have HD2 : Hid (okP (bt (p.drop 1)) = false → docW p = none) := HDN.out [60] HSG.out
        have HPL : Hid (okP (bt (p.drop 1)) = true → okR (plP (bt (p.drop 1))) ∧ atA (plP (bt (p.drop 1))) = resA (bt (p.drop 1)) ∧ atB (plP (bt (p.drop 1))) = resB (bt (p.drop 1))) := fun h => ⟨(plP_ok h).1, (plP_ok h).2.1, (plP_ok h).2.2.1⟩
        have HPD : Hid (plP (bt (p.drop 1)) = rankV (resA (bt (p.drop 1))) (resB (bt (p.drop 1))) (resC (bt (p.drop 1)))) := rfl
        clear HPA HP0 HDO HDN HBG HC0 HSG HLE
        generalize bt (p.drop 1) = t at *
        cases ho : okP t
        · have HDW := hide3 (HD2.out ho)
          rw [ho] at HP1
          clear HD1 HD2 HPL
          go_wp2_with (go_at_call 46; refine (HP1.out _).mono ?_; rintro e w2 ⟨rfl, ok⟩; have HO2 := hide3 (below_then HBW.out ok); clear ok)
          go_ret2
          exact ⟨_, by rw [HDW.out]; rfl, by rw [HDW.out]; exact ⟨none, 0, rfl, Nat.le_refl _, Or.inl rfl⟩, below_then HO2.out (boxB _ _)⟩
        · have HDW := hide3 (HD1.out ho)
          obtain ⟨⟨hn0, hn1⟩, hA, hB⟩ := HPL.out ho
          rw [ho] at HP1
          rw [HPD.out] at HDW hn0 hn1 hA hB
          clear HD1 HD2 HPL HPD ho
          have HRK1 := hide3 (HRK.out (resA t) (resB t) (resC t))
          generalize rankV (resA t) (resB t) (resC t) = n at *
          generalize resA t = a at *
          generalize resB t = b at *
          generalize resC t = c at *
          clear HRK
          have r1 : n.tmod 1000 = n % 1000 := Int.tmod_eq_emod_of_nonneg hn0
          have r2 : n.tmod 1000000 = n % 1000000 := Int.tmod_eq_emod_of_nonneg hn0
          have m1 : n - n % 1000 + 999 = minorR n := by unfold minorR; omega
          have m2 : n - n % 1000000 + 999999 = majorR n := by unfold majorR; omega
          have q0 : IntKind.i64.wrap (n - n % 1000) = n - n % 1000 := by rw [IntKind.wrap_i64]; omega
          have q1 : IntKind.i64.wrap (n - n % 1000 + 999) = minorR n := by rw [← m1, IntKind.wrap_i64]; omega
          have q2 : IntKind.i64.wrap (n - n % 1000000) = n - n % 1000000 := by rw [IntKind.wrap_i64]; omega
          have q3 : IntKind.i64.wrap (n - n % 1000000 + 999999) = majorR n := by rw [← m2, IntKind.wrap_i64]; omega
          have q4 : IntKind.i64.wrap (n - 1) = n - 1 := by rw [IntKind.wrap_i64]; omega
          have HDS : Hid (docS [60] n = fromR 0 (n - 1)) := by unfold Hid docS; simp
          have HF1 := hide3 (HFR.out 0 (n - 1))
          clear HFR
          go_wp2_with (first
            | (go_at_call 46; refine (HP1.out _).mono ?_; rintro e w2 ⟨rfl, ok⟩; have HO2 := hide3 (below_then (below_then HBW.out ok) (boxB w2 (.cells #[.int .i64 a, .int .i64 b, .int .i64 c] 35))); have HV2 : Hid (BxAt (w2.alloc (.cells #[.int .i64 a, .int .i64 b, .int .i64 c] 35)) ⟨w2.heap.size, .int .i64 a, .int .i64 b, .int .i64 c⟩) := ⟨by simp, by simp, by simp, by simp⟩; clear ok)
            | (go_at_call 47; refine (HRK1.out _).mono ?_; rintro e w3 ⟨rfl, ok⟩; have HO3 := hide3 (below_then HO2.out ok); obtain ⟨b0, b1, b2, b3⟩ := HV2.out.below ok; clear ok)
            | (go_at_call 48; refine (HF1.out _).mono ?_; rintro e w4 ⟨v4, rfl, ok⟩; have HO4 : Hid (SpansR w4 v4 (fromR 0 (n - 1)) ∧ Below w.heap.size w w4) := ⟨ok.1, below_then HO3.out ok.2⟩; clear ok))
          go_ret2
          exact ⟨_, by rw [HDW.out]; rfl, by rw [HDW.out]; show SpansR _ _ (docS [60] n); rw [HDS.out]; exact HO4.out.1, HO4.out.2⟩
      · simp only [sL, sV] at *
        have hle : ((1 : Nat) : Int) ≤ ((bt p).size : Int) := by have := HLE.out; simp at this; omega
        have HP1 : Hid (∀ w1, Calls Tryz.prog 46 #[.string ((bt p).extract 1 (bt p).size)] w1 fun e w' => e = .returned (.tuple #[.agg #[.int .i64 (resA (bt (p.drop 1))), .int .i64 (resB (bt (p.drop 1))), .int .i64 (resC (bt (p.drop 1)))], .bool (okP (bt (p.drop 1)))]) ∧ Below w1.heap.size w1 w') := HPA.out [62]
        have HD1 : Hid (okP (bt (p.drop 1)) = true → docW p = some (docS [62] (plP (bt (p.drop 1))))) := HDO.out [62] HSG.out
        have HD2 : Hid (okP (bt (p.drop 1)) = false → docW p = none) := HDN.out [62] HSG.out
        have HPL : Hid (okP (bt (p.drop 1)) = true → okR (plP (bt (p.drop 1))) ∧ atA (plP (bt (p.drop 1))) = resA (bt (p.drop 1)) ∧ atB (plP (bt (p.drop 1))) = resB (bt (p.drop 1))) := fun h => ⟨(plP_ok h).1, (plP_ok h).2.1, (plP_ok h).2.2.1⟩
        have HPD : Hid (plP (bt (p.drop 1)) = rankV (resA (bt (p.drop 1))) (resB (bt (p.drop 1))) (resC (bt (p.drop 1)))) := rfl
        clear HPA HP0 HDO HDN HBG HC0 HSG HLE
        generalize bt (p.drop 1) = t at *
        cases ho : okP t
        · have HDW := hide3 (HD2.out ho)
          rw [ho] at HP1
          clear HD1 HD2 HPL
          go_wp2_with (go_at_call 46; refine (HP1.out _).mono ?_; rintro e w2 ⟨rfl, ok⟩; have HO2 := hide3 (below_then HBW.out ok); clear ok)
          go_ret2
          exact ⟨_, by rw [HDW.out]; rfl, by rw [HDW.out]; exact ⟨none, 0, rfl, Nat.le_refl _, Or.inl rfl⟩, below_then HO2.out (boxB _ _)⟩
        · have HDW := hide3 (HD1.out ho)
          obtain ⟨⟨hn0, hn1⟩, hA, hB⟩ := HPL.out ho
          rw [ho] at HP1
          rw [HPD.out] at HDW hn0 hn1 hA hB
          clear HD1 HD2 HPL HPD ho
          have HRK1 := hide3 (HRK.out (resA t) (resB t) (resC t))
          generalize rankV (resA t) (resB t) (resC t) = n at *
          generalize resA t = a at *
          generalize resB t = b at *
          generalize resC t = c at *
          clear HRK
          have r1 : n.tmod 1000 = n % 1000 := Int.tmod_eq_emod_of_nonneg hn0
          have r2 : n.tmod 1000000 = n % 1000000 := Int.tmod_eq_emod_of_nonneg hn0
          have m1 : n - n % 1000 + 999 = minorR n := by unfold minorR; omega
          have m2 : n - n % 1000000 + 999999 = majorR n := by unfold majorR; omega
          have q0 : IntKind.i64.wrap (n - n % 1000) = n - n % 1000 := by rw [IntKind.wrap_i64]; omega
          have q1 : IntKind.i64.wrap (n - n % 1000 + 999) = minorR n := by rw [← m1, IntKind.wrap_i64]; omega
          have q2 : IntKind.i64.wrap (n - n % 1000000) = n - n % 1000000 := by rw [IntKind.wrap_i64]; omega
          have q3 : IntKind.i64.wrap (n - n % 1000000 + 999999) = majorR n := by rw [← m2, IntKind.wrap_i64]; omega
          have q4 : IntKind.i64.wrap (n + 1) = n + 1 := by rw [IntKind.wrap_i64]; omega
          have HDS : Hid (docS [62] n = fromR (n + 1) 999999999) := by unfold Hid docS; simp
          have HF1 := hide3 (HFR.out (n + 1) 999999999)
          clear HFR
          go_wp2_with (first
            | (go_at_call 46; refine (HP1.out _).mono ?_; rintro e w2 ⟨rfl, ok⟩; have HO2 := hide3 (below_then (below_then HBW.out ok) (boxB w2 (.cells #[.int .i64 a, .int .i64 b, .int .i64 c] 35))); have HV2 : Hid (BxAt (w2.alloc (.cells #[.int .i64 a, .int .i64 b, .int .i64 c] 35)) ⟨w2.heap.size, .int .i64 a, .int .i64 b, .int .i64 c⟩) := ⟨by simp, by simp, by simp, by simp⟩; clear ok)
            | (go_at_call 47; refine (HRK1.out _).mono ?_; rintro e w3 ⟨rfl, ok⟩; have HO3 := hide3 (below_then HO2.out ok); obtain ⟨b0, b1, b2, b3⟩ := HV2.out.below ok; clear ok)
            | (go_at_call 48; refine (HF1.out _).mono ?_; rintro e w4 ⟨v4, rfl, ok⟩; have HO4 : Hid (SpansR w4 v4 (fromR (n + 1) 999999999) ∧ Below w.heap.size w w4) := ⟨ok.1, below_then HO3.out ok.2⟩; clear ok))
          go_ret2
          exact ⟨_, by rw [HDW.out]; rfl, by rw [HDW.out]; show SpansR _ _ (docS [62] n); rw [HDS.out]; exact HO4.out.1, HO4.out.2⟩
      · simp only [sL, sV] at *
        have hle : ((1 : Nat) : Int) ≤ ((bt p).size : Int) := by have := HLE.out; simp at this; omega
        have HP1 : Hid (∀ w1, Calls Tryz.prog 46 #[.string ((bt p).extract 1 (bt p).size)] w1 fun e w' => e = .returned (.tuple #[.agg #[.int .i64 (resA (bt (p.drop 1))), .int .i64 (resB (bt (p.drop 1))), .int .i64 (resC (bt (p.drop 1)))], .bool (okP (bt (p.drop 1)))]) ∧ Below w1.heap.size w1 w') := HPA.out [61]
        have HD1 : Hid (okP (bt (p.drop 1)) = true → docW p = some (docS [61] (plP (bt (p.drop 1))))) := HDO.out [61] HSG.out
        have HD2 : Hid (okP (bt (p.drop 1)) = false → docW p = none) := HDN.out [61] HSG.out
        have HPL : Hid (okP (bt (p.drop 1)) = true → okR (plP (bt (p.drop 1))) ∧ atA (plP (bt (p.drop 1))) = resA (bt (p.drop 1)) ∧ atB (plP (bt (p.drop 1))) = resB (bt (p.drop 1))) := fun h => ⟨(plP_ok h).1, (plP_ok h).2.1, (plP_ok h).2.2.1⟩
        have HPD : Hid (plP (bt (p.drop 1)) = rankV (resA (bt (p.drop 1))) (resB (bt (p.drop 1))) (resC (bt (p.drop 1)))) := rfl
        clear HPA HP0 HDO HDN HBG HC0 HSG HLE
        generalize bt (p.drop 1) = t at *
        cases ho : okP t
        · have HDW := hide3 (HD2.out ho)
          rw [ho] at HP1
          clear HD1 HD2 HPL
          go_wp2_with (go_at_call 46; refine (HP1.out _).mono ?_; rintro e w2 ⟨rfl, ok⟩; have HO2 := hide3 (below_then HBW.out ok); clear ok)
          go_ret2
          exact ⟨_, by rw [HDW.out]; rfl, by rw [HDW.out]; exact ⟨none, 0, rfl, Nat.le_refl _, Or.inl rfl⟩, below_then HO2.out (boxB _ _)⟩
        · have HDW := hide3 (HD1.out ho)
          obtain ⟨⟨hn0, hn1⟩, hA, hB⟩ := HPL.out ho
          rw [ho] at HP1
          rw [HPD.out] at HDW hn0 hn1 hA hB
          clear HD1 HD2 HPL HPD ho
          have HRK1 := hide3 (HRK.out (resA t) (resB t) (resC t))
          generalize rankV (resA t) (resB t) (resC t) = n at *
          generalize resA t = a at *
          generalize resB t = b at *
          generalize resC t = c at *
          clear HRK
          have r1 : n.tmod 1000 = n % 1000 := Int.tmod_eq_emod_of_nonneg hn0
          have r2 : n.tmod 1000000 = n % 1000000 := Int.tmod_eq_emod_of_nonneg hn0
          have m1 : n - n % 1000 + 999 = minorR n := by unfold minorR; omega
          have m2 : n - n % 1000000 + 999999 = majorR n := by unfold majorR; omega
          have q0 : IntKind.i64.wrap (n - n % 1000) = n - n % 1000 := by rw [IntKind.wrap_i64]; omega
          have q1 : IntKind.i64.wrap (n - n % 1000 + 999) = minorR n := by rw [← m1, IntKind.wrap_i64]; omega
          have q2 : IntKind.i64.wrap (n - n % 1000000) = n - n % 1000000 := by rw [IntKind.wrap_i64]; omega
          have q3 : IntKind.i64.wrap (n - n % 1000000 + 999999) = majorR n := by rw [← m2, IntKind.wrap_i64]; omega
          have HDS : Hid (docS [61] n = fromR n n) := by unfold Hid docS; simp
          have HF1 := hide3 (HFR.out n n)
          clear HFR
          go_wp2_with (first
            | (go_at_call 46; refine (HP1.out _).mono ?_; rintro e w2 ⟨rfl, ok⟩; have HO2 := hide3 (below_then (below_then HBW.out ok) (boxB w2 (.cells #[.int .i64 a, .int .i64 b, .int .i64 c] 35))); have HV2 : Hid (BxAt (w2.alloc (.cells #[.int .i64 a, .int .i64 b, .int .i64 c] 35)) ⟨w2.heap.size, .int .i64 a, .int .i64 b, .int .i64 c⟩) := ⟨by simp, by simp, by simp, by simp⟩; clear ok)
            | (go_at_call 47; refine (HRK1.out _).mono ?_; rintro e w3 ⟨rfl, ok⟩; have HO3 := hide3 (below_then HO2.out ok); obtain ⟨b0, b1, b2, b3⟩ := HV2.out.below ok; clear ok)
            | (go_at_call 48; refine (HF1.out _).mono ?_; rintro e w4 ⟨v4, rfl, ok⟩; have HO4 : Hid (SpansR w4 v4 (fromR n n) ∧ Below w.heap.size w w4) := ⟨ok.1, below_then HO3.out ok.2⟩; clear ok))
          go_ret2
          exact ⟨_, by rw [HDW.out]; rfl, by rw [HDW.out]; show SpansR _ _ (docS [61] n); rw [HDS.out]; exact HO4.out.1, HO4.out.2⟩
      · simp only [sL, sV] at *
        have hle : ((1 : Nat) : Int) ≤ ((bt p).size : Int) := by have := HLE.out; simp at this; omega
        have HP1 : Hid (∀ w1, Calls Tryz.prog 46 #[.string ((bt p).extract 1 (bt p).size)] w1 fun e w' => e = .returned (.tuple #[.agg #[.int .i64 (resA (bt (p.drop 1))), .int .i64 (resB (bt (p.drop 1))), .int .i64 (resC (bt (p.drop 1)))], .bool (okP (bt (p.drop 1)))]) ∧ Below w1.heap.size w1 w') := HPA.out [94]
        have HD1 : Hid (okP (bt (p.drop 1)) = true → docW p = some (docS [94] (plP (bt (p.drop 1))))) := HDO.out [94] HSG.out
        have HD2 : Hid (okP (bt (p.drop 1)) = false → docW p = none) := HDN.out [94] HSG.out
        have HPL : Hid (okP (bt (p.drop 1)) = true → okR (plP (bt (p.drop 1))) ∧ atA (plP (bt (p.drop 1))) = resA (bt (p.drop 1)) ∧ atB (plP (bt (p.drop 1))) = resB (bt (p.drop 1))) := fun h => ⟨(plP_ok h).1, (plP_ok h).2.1, (plP_ok h).2.2.1⟩
        have HPD : Hid (plP (bt (p.drop 1)) = rankV (resA (bt (p.drop 1))) (resB (bt (p.drop 1))) (resC (bt (p.drop 1)))) := rfl
        clear HPA HP0 HDO HDN HBG HC0 HSG HLE
        generalize bt (p.drop 1) = t at *
        cases ho : okP t
        · have HDW := hide3 (HD2.out ho)
          rw [ho] at HP1
          clear HD1 HD2 HPL
          go_wp2_with (go_at_call 46; refine (HP1.out _).mono ?_; rintro e w2 ⟨rfl, ok⟩; have HO2 := hide3 (below_then HBW.out ok); clear ok)
          go_ret2
          exact ⟨_, by rw [HDW.out]; rfl, by rw [HDW.out]; exact ⟨none, 0, rfl, Nat.le_refl _, Or.inl rfl⟩, below_then HO2.out (boxB _ _)⟩
        · have HDW := hide3 (HD1.out ho)
          obtain ⟨⟨hn0, hn1⟩, hA, hB⟩ := HPL.out ho
          rw [ho] at HP1
          rw [HPD.out] at HDW hn0 hn1 hA hB
          clear HD1 HD2 HPL HPD ho
          have HRK1 := hide3 (HRK.out (resA t) (resB t) (resC t))
          generalize rankV (resA t) (resB t) (resC t) = n at *
          generalize resA t = a at *
          generalize resB t = b at *
          generalize resC t = c at *
          clear HRK
          have r1 : n.tmod 1000 = n % 1000 := Int.tmod_eq_emod_of_nonneg hn0
          have r2 : n.tmod 1000000 = n % 1000000 := Int.tmod_eq_emod_of_nonneg hn0
          have m1 : n - n % 1000 + 999 = minorR n := by unfold minorR; omega
          have m2 : n - n % 1000000 + 999999 = majorR n := by unfold majorR; omega
          have q0 : IntKind.i64.wrap (n - n % 1000) = n - n % 1000 := by rw [IntKind.wrap_i64]; omega
          have q1 : IntKind.i64.wrap (n - n % 1000 + 999) = minorR n := by rw [← m1, IntKind.wrap_i64]; omega
          have q2 : IntKind.i64.wrap (n - n % 1000000) = n - n % 1000000 := by rw [IntKind.wrap_i64]; omega
          have q3 : IntKind.i64.wrap (n - n % 1000000 + 999999) = majorR n := by rw [← m2, IntKind.wrap_i64]; omega
          by_cases ha : 0 < a
          · have hA1 : 0 < atA n := by rw [hA]; exact ha
            have HDS : Hid (docS [94] n = fromR n (majorR n)) := by unfold Hid docS; simp [hA1]
            have HF1 := hide3 (HFR.out n (majorR n))
            clear HFR
            go_wp2_with (first
              | (go_at_call 46; refine (HP1.out _).mono ?_; rintro e w2 ⟨rfl, ok⟩; have HO2 := hide3 (below_then (below_then HBW.out ok) (boxB w2 (.cells #[.int .i64 a, .int .i64 b, .int .i64 c] 35))); have HV2 : Hid (BxAt (w2.alloc (.cells #[.int .i64 a, .int .i64 b, .int .i64 c] 35)) ⟨w2.heap.size, .int .i64 a, .int .i64 b, .int .i64 c⟩) := ⟨by simp, by simp, by simp, by simp⟩; clear ok)
              | (go_at_call 47; refine (HRK1.out _).mono ?_; rintro e w3 ⟨rfl, ok⟩; have HO3 := hide3 (below_then HO2.out ok); obtain ⟨b0, b1, b2, b3⟩ := HV2.out.below ok; clear ok)
              | (go_at_call 48; refine (HF1.out _).mono ?_; rintro e w4 ⟨v4, rfl, ok⟩; have HO4 : Hid (SpansR w4 v4 (fromR n (majorR n)) ∧ Below w.heap.size w w4) := ⟨ok.1, below_then HO3.out ok.2⟩; clear ok))
            go_ret2
            exact ⟨_, by rw [HDW.out]; rfl, by rw [HDW.out]; show SpansR _ _ (docS [94] n); rw [HDS.out]; exact HO4.out.1, HO4.out.2⟩
          · have hA1 : ¬ 0 < atA n := by rw [hA]; exact ha
            by_cases hbb : 0 < b
            · have hB1 : 0 < atB n := by rw [hB]; exact hbb
              have HDS : Hid (docS [94] n = fromR n (minorR n)) := by unfold Hid docS; simp [hA1, hB1]
              have HF1 := hide3 (HFR.out n (minorR n))
              clear HFR
              go_wp2_with (first
                | (go_at_call 46; refine (HP1.out _).mono ?_; rintro e w2 ⟨rfl, ok⟩; have HO2 := hide3 (below_then (below_then HBW.out ok) (boxB w2 (.cells #[.int .i64 a, .int .i64 b, .int .i64 c] 35))); have HV2 : Hid (BxAt (w2.alloc (.cells #[.int .i64 a, .int .i64 b, .int .i64 c] 35)) ⟨w2.heap.size, .int .i64 a, .int .i64 b, .int .i64 c⟩) := ⟨by simp, by simp, by simp, by simp⟩; clear ok)
                | (go_at_call 47; refine (HRK1.out _).mono ?_; rintro e w3 ⟨rfl, ok⟩; have HO3 := hide3 (below_then HO2.out ok); obtain ⟨b0, b1, b2, b3⟩ := HV2.out.below ok; clear ok)
                | (go_at_call 48; refine (HF1.out _).mono ?_; rintro e w4 ⟨v4, rfl, ok⟩; have HO4 : Hid (SpansR w4 v4 (fromR n (minorR n)) ∧ Below w.heap.size w w4) := ⟨ok.1, below_then HO3.out ok.2⟩; clear ok))
              go_ret2
              exact ⟨_, by rw [HDW.out]; rfl, by rw [HDW.out]; show SpansR _ _ (docS [94] n); rw [HDS.out]; exact HO4.out.1, HO4.out.2⟩
            · have hB1 : ¬ 0 < atB n := by rw [hB]; exact hbb
              have HDS : Hid (docS [94] n = fromR n n) := by unfold Hid docS; simp [hA1, hB1]
              have HF1 := hide3 (HFR.out n n)
              clear HFR
              go_wp2_with (first
                | (go_at_call 46; refine (HP1.out _).mono ?_; rintro e w2 ⟨rfl, ok⟩; have HO2 := hide3 (below_then (below_then HBW.out ok) (boxB w2 (.cells #[.int .i64 a, .int .i64 b, .int .i64 c] 35))); have HV2 : Hid (BxAt (w2.alloc (.cells #[.int .i64 a, .int .i64 b, .int .i64 c] 35)) ⟨w2.heap.size, .int .i64 a, .int .i64 b, .int .i64 c⟩) := ⟨by simp, by simp, by simp, by simp⟩; clear ok)
                | (go_at_call 47; refine (HRK1.out _).mono ?_; rintro e w3 ⟨rfl, ok⟩; have HO3 := hide3 (below_then HO2.out ok); obtain ⟨b0, b1, b2, b3⟩ := HV2.out.below ok; clear ok)
                | (go_at_call 48; refine (HF1.out _).mono ?_; rintro e w4 ⟨v4, rfl, ok⟩; have HO4 : Hid (SpansR w4 v4 (fromR n n) ∧ Below w.heap.size w w4) := ⟨ok.1, below_then HO3.out ok.2⟩; clear ok))
              go_ret2
              exact ⟨_, by rw [HDW.out]; rfl, by rw [HDW.out]; show SpansR _ _ (docS [94] n); rw [HDS.out]; exact HO4.out.1, HO4.out.2⟩
      · simp only [sL, sV] at *
        have hle : ((1 : Nat) : Int) ≤ ((bt p).size : Int) := by have := HLE.out; simp at this; omega
        have HP1 : Hid (∀ w1, Calls Tryz.prog 46 #[.string ((bt p).extract 1 (bt p).size)] w1 fun e w' => e = .returned (.tuple #[.agg #[.int .i64 (resA (bt (p.drop 1))), .int .i64 (resB (bt (p.drop 1))), .int .i64 (resC (bt (p.drop 1)))], .bool (okP (bt (p.drop 1)))]) ∧ Below w1.heap.size w1 w') := HPA.out [126]
        have HD1 : Hid (okP (bt (p.drop 1)) = true → docW p = some (docS [126] (plP (bt (p.drop 1))))) := HDO.out [126] HSG.out
        have HD2 : Hid (okP (bt (p.drop 1)) = false → docW p = none) := HDN.out [126] HSG.out
        have HPL : Hid (okP (bt (p.drop 1)) = true → okR (plP (bt (p.drop 1))) ∧ atA (plP (bt (p.drop 1))) = resA (bt (p.drop 1)) ∧ atB (plP (bt (p.drop 1))) = resB (bt (p.drop 1))) := fun h => ⟨(plP_ok h).1, (plP_ok h).2.1, (plP_ok h).2.2.1⟩
        have HPD : Hid (plP (bt (p.drop 1)) = rankV (resA (bt (p.drop 1))) (resB (bt (p.drop 1))) (resC (bt (p.drop 1)))) := rfl
        clear HPA HP0 HDO HDN HBG HC0 HSG HLE
        generalize bt (p.drop 1) = t at *
        cases ho : okP t
        · have HDW := hide3 (HD2.out ho)
          rw [ho] at HP1
          clear HD1 HD2 HPL
          go_wp2_with (go_at_call 46; refine (HP1.out _).mono ?_; rintro e w2 ⟨rfl, ok⟩; have HO2 := hide3 (below_then HBW.out ok); clear ok)
          go_ret2
          exact ⟨_, by rw [HDW.out]; rfl, by rw [HDW.out]; exact ⟨none, 0, rfl, Nat.le_refl _, Or.inl rfl⟩, below_then HO2.out (boxB _ _)⟩
        · have HDW := hide3 (HD1.out ho)
          obtain ⟨⟨hn0, hn1⟩, hA, hB⟩ := HPL.out ho
          rw [ho] at HP1
          rw [HPD.out] at HDW hn0 hn1 hA hB
          clear HD1 HD2 HPL HPD ho
          have HRK1 := hide3 (HRK.out (resA t) (resB t) (resC t))
          generalize rankV (resA t) (resB t) (resC t) = n at *
          generalize resA t = a at *
          generalize resB t = b at *
          generalize resC t = c at *
          clear HRK
          have r1 : n.tmod 1000 = n % 1000 := Int.tmod_eq_emod_of_nonneg hn0
          have r2 : n.tmod 1000000 = n % 1000000 := Int.tmod_eq_emod_of_nonneg hn0
          have m1 : n - n % 1000 + 999 = minorR n := by unfold minorR; omega
          have m2 : n - n % 1000000 + 999999 = majorR n := by unfold majorR; omega
          have q0 : IntKind.i64.wrap (n - n % 1000) = n - n % 1000 := by rw [IntKind.wrap_i64]; omega
          have q1 : IntKind.i64.wrap (n - n % 1000 + 999) = minorR n := by rw [← m1, IntKind.wrap_i64]; omega
          have q2 : IntKind.i64.wrap (n - n % 1000000) = n - n % 1000000 := by rw [IntKind.wrap_i64]; omega
          have q3 : IntKind.i64.wrap (n - n % 1000000 + 999999) = majorR n := by rw [← m2, IntKind.wrap_i64]; omega
          have HDS : Hid (docS [126] n = fromR n (minorR n)) := by unfold Hid docS; simp
          have HF1 := hide3 (HFR.out n (minorR n))
          clear HFR
          go_wp2_with (first
            | (go_at_call 46; refine (HP1.out _).mono ?_; rintro e w2 ⟨rfl, ok⟩; have HO2 := hide3 (below_then (below_then HBW.out ok) (boxB w2 (.cells #[.int .i64 a, .int .i64 b, .int .i64 c] 35))); have HV2 : Hid (BxAt (w2.alloc (.cells #[.int .i64 a, .int .i64 b, .int .i64 c] 35)) ⟨w2.heap.size, .int .i64 a, .int .i64 b, .int .i64 c⟩) := ⟨by simp, by simp, by simp, by simp⟩; clear ok)
            | (go_at_call 47; refine (HRK1.out _).mono ?_; rintro e w3 ⟨rfl, ok⟩; have HO3 := hide3 (below_then HO2.out ok); obtain ⟨b0, b1, b2, b3⟩ := HV2.out.below ok; clear ok)
            | (go_at_call 48; refine (HF1.out _).mono ?_; rintro e w4 ⟨v4, rfl, ok⟩; have HO4 : Hid (SpansR w4 v4 (fromR n (minorR n)) ∧ Below w.heap.size w w4) := ⟨ok.1, below_then HO3.out ok.2⟩; clear ok))
          go_ret2
          exact ⟨_, by rw [HDW.out]; rfl, by rw [HDW.out]; show SpansR _ _ (docS [126] n); rw [HDS.out]; exact HO4.out.1, HO4.out.2⟩
end Go.Proofs.YtkmgfemhfibikaaGreatDoor
namespace Go.Proofs.YtkmgfemhfibikaaGreatDoor
open Go.RowKit
set_option maxRecDepth 100000

theorem keepSpR (v : Value) (A : Rg) : KeepP fun w1 => SpansR w1 v A := fun _ _ h hb => h.below hb
/-- A call that answers with a pair, of which the first is a new list. -/
def NewSp (f : Nat) (va vb : Value) (w : World) (er : Int) (X : Rg) : Prop := Calls Tryz.prog f #[va, vb] w fun e w' => ∃ v, e = .returned (.tuple #[v, .int .i64 er]) ∧ SpansR w' v X ∧ Below w.heap.size w w'
def Says (f : Nat) (args : Array Value) (w : World) (b : Bool) : Prop := Calls Tryz.prog f args w fun e w' => e = .returned (.bool b) ∧ Below w.heap.size w w'

/-- A call that answers with an empty list and no error. -/
def NilSp (f : Nat) (va vb : Value) (w : World) : Prop := Calls Tryz.prog f #[va, vb] w fun e w' => ∃ ad cap, e = .returned (.tuple #[.slice ad 0 cap, .int .i64 0]) ∧ SpansR w' (.slice ad 0 cap) [] ∧ Below w.heap.size w w'
def OneSp (f : Nat) (args : Array Value) (w : World) (X : Rg) : Prop := Calls Tryz.prog f args w fun e w' => ∃ v, e = .returned v ∧ SpansR w' v X ∧ Below w.heap.size w w'

theorem Says.of {f : Nat} {args : Array Value} {w : World} {b c : Bool} (h : Says f args w b) (e : b = c) : Says f args w c := e ▸ h

/-- A range that came in, or a list that is none. -/
theorem rg_or {w : World} {v : Value} {L : List Sp} (h : SpansC w v L) : mayL L = false ∨ ∃ A, L = A.map spR ∧ RangeR A ∧ A.length ≤ 64 ∧ SpansR w v A := by
  cases hm : mayL L
  · exact Or.inl rfl
  · obtain ⟨A, rfl, hA, hl⟩ := may_iff.1 hm
    exact Or.inr ⟨A, rfl, hA, hl, h.rg⟩

theorem sMay_rg {A : Rg} (hA : RangeR A) (hl : A.length ≤ 64) {w : World} {v : Value} (h : SpansR w v A) : Says 32 #[v] w true := by
  have := sMay_any h.at; rw [may_rg hA hl] at this; exact this

theorem full_0 {n : Nat} (h : n ≤ 64) : fullE n = 0 := by unfold fullE; rw [if_pos h]
theorem full_26 {n : Nat} (h : ¬ n ≤ 64) : fullE n = 26 := by unfold fullE; rw [if_neg h]

/-- The folds as the walks of the statements take them. -/
theorem Meet_new {A B : Rg} (hA : RangeR A) (hB : RangeR B) (la : A.length ≤ 64) (lb : B.length ≤ 64) {va vb : Value} {w : World} (ha : SpansR w va A) (hb : SpansR w vb B) : NewSp 5 va vb w (fullE (meetR A B).length) (fitR (meetR A B)) := by
  refine (Meet_rg hA hB la lb ha hb).mono ?_
  rintro e w' ⟨v, rfl, ho, hbw⟩
  exact ⟨v, rfl, ho.spans, hbw⟩
theorem Join_new {A B : Rg} (hA : RangeR A) (hB : RangeR B) (la : A.length ≤ 64) (lb : B.length ≤ 64) {va vb : Value} {w : World} (hf : FL w) (ha : SpansR w va A) (hb : SpansR w vb B) : NewSp 8 va vb w (fullE (joinR A B).length) (fitR (joinR A B)) := by
  refine (Join_rg hA hB la lb hf ha hb).mono ?_
  rintro e w' ⟨v, rfl, ho, hbw⟩
  exact ⟨v, rfl, ho.spans, hbw⟩
theorem Cut_new {A B : Rg} (hA : RangeR A) (hB : RangeR B) (la : A.length ≤ 64) (lb : B.length ≤ 64) {va vb : Value} {w : World} (ha : SpansR w va A) (hb : SpansR w vb B) : NewSp 10 va vb w (fullE (cutR A B).length) (fitR (cutR A B)) := by
  refine (Cut_rg hA hB la lb ha hb).mono ?_
  rintro e w' ⟨v, rfl, ho, hbw⟩
  exact ⟨v, rfl, ho.spans, hbw⟩
theorem NewSp.of {f : Nat} {va vb : Value} {w : World} {e e' : Int} {X X' : Rg} (h : NewSp f va vb w e X) (h1 : e = e') (h2 : X = X') : NewSp f va vb w e' X' := h1 ▸ h2 ▸ h
theorem NewSp.nil {f : Nat} {va vb : Value} {w : World} (h : NewSp f va vb w 0 []) : NilSp f va vb w := by
  refine h.mono ?_
  rintro e w' ⟨v, rfl, hs, hb⟩
  obtain ⟨ad, cap, rfl, r⟩ := hs
  exact ⟨ad, cap, rfl, ⟨ad, cap, rfl, r⟩, hb⟩
theorem same_rg {w : World} {x y : Value} {R : Rg} (hl : R.length ≤ 64) (h1 : SpansR w x R) (h2 : SpansR w y R) : Says 7 #[x, y] w true := same_yes h1.at h2.at (by simp; omega)
end Go.Proofs.YtkmgfemhfibikaaGreatDoor
namespace Go.Proofs.YtkmgfemhfibikaaGreatDoor
open Go.RowKit
set_option maxRecDepth 100000

/-- A call that answers a list of its own, and an error's number. -/
def NewOw (f : Nat) (args : Array Value) (w : World) (er : Int) (X : Rg) : Prop := Calls Tryz.prog f args w fun e w' => ∃ v, e = .returned (.tuple #[v, .int .i64 er]) ∧ OwnS w' w.heap.size v (X.map spR) ∧ Below w.heap.size w w'

theorem two_no (kind : UInt8) {La Lb : List Sp} {va vb : Value} {w : World} (ha : SpansAt w va La) (hb : SpansAt w vb Lb) (h : (mayL La && mayL Lb) = false) : NewOw 18 #[.int .u8 (kind.toNat : Int), va, vb] w 21 [] := by
  have HA : Hid (∀ w1, Below w.heap.size w w1 → Calls Tryz.prog 33 #[va] w1 fun e w' => e = .returned (.bool (mayL La)) ∧ Below w1.heap.size w1 w') := fun w1 hbl => rMayL_any (ha.below hbl)
  have HB : Hid (∀ w1, Below w.heap.size w w1 → Calls Tryz.prog 33 #[vb] w1 fun e w' => e = .returned (.bool (mayL Lb)) ∧ Below w1.heap.size w1 w') := fun w1 hbl => rMayL_any (hb.below hbl)
  have HB0 : Hid (Below w.heap.size w w) := Below.refl _ _
  have t1 : True := trivial
  clear ha hb
  unfold NewOw
  cases h1 : mayL La
  · rw [h1] at HA
    go_enter Tryz.func18, Tryz.ntmps18
    go_wp2_with (go_at_call 33; refine (HA.out _ HB0.out).mono ?_; rintro e w1 ⟨rfl, ok⟩)
    go_ret2
    exact ⟨_, rfl, OwnS.nil _ _, ok⟩
  · have h2 : mayL Lb = false := by rw [h1] at h; simpa using h
    rw [h1] at HA
    rw [h2] at HB
    go_enter Tryz.func18, Tryz.ntmps18
    go_wp2_with (first
      | (have _t := t1; go_at_call 33; refine (HA.out _ HB0.out).mono ?_; rintro e w1 ⟨rfl, ok⟩; clear t1; have HB1 := hide3 ok; clear ok)
      | (go_at_call 33; refine (HB.out _ HB1.out).mono ?_; rintro e w2 ⟨rfl, ok⟩; have HB2 := hide3 (below_then HB1.out ok); clear ok))
    go_ret2
    exact ⟨_, rfl, OwnS.nil _ _, HB2.out⟩

theorem rk_sp {A : Rg} (hA : RangeR A) : (A.map spR).map rkS = A := by
  rw [List.map_map]
  conv => rhs; rw [← List.map_id A]
  refine List.map_congr_left fun p hp => ?_
  obtain ⟨h1, h2, _⟩ := hA.ok p hp
  show (rankV (atA p.1) (atB p.1) (atC p.1), rankV (atA p.2) (atB p.2) (atC p.2)) = p
  have e1 := (may_at (n := p.1) (by unfold hasV; obtain ⟨a, b⟩ := h1; simp; omega)).2
  have e2 := (may_at (n := p.2) (by unfold hasV; obtain ⟨a, b⟩ := h2; simp; omega)).2
  rw [e1, e2]

theorem two_rg (kind : UInt8) {A B : Rg} (hA : RangeR A) (hB : RangeR B) (la : A.length ≤ 64) (lb : B.length ≤ 64) {va vb : Value} {w : World} (ha : SpansR w va A) (hb : SpansR w vb B) : NewOw 18 #[.int .u8 (kind.toNat : Int), va, vb] w (fullE (foldK kind A B).length) (fitR (foldK kind A B)) := by
  have HA : Hid (∀ w1, Below w.heap.size w w1 → Calls Tryz.prog 33 #[va] w1 fun e w' => e = .returned (.bool true) ∧ Below w1.heap.size w1 w') := fun w1 hbl => by have := rMayL_any (ha.below hbl).at; rw [may_rg hA la] at this; exact this
  have HB : Hid (∀ w1, Below w.heap.size w w1 → Calls Tryz.prog 33 #[vb] w1 fun e w' => e = .returned (.bool true) ∧ Below w1.heap.size w1 w') := fun w1 hbl => by have := rMayL_any (hb.below hbl).at; rw [may_rg hB lb] at this; exact this
  have HF : Hid (∀ w1, Below w.heap.size w w1 → NewOw 31 #[.int .u8 (kind.toNat : Int), va, vb] w1 (fullE (foldK kind A B).length) (fitR (foldK kind A B))) := fun w1 hbl => by
    have := Folded_walk kind _ _ va vb w1 (by simp; omega) (ha.below hbl).at (hb.below hbl).at
    rw [rk_sp hA, rk_sp hB] at this
    exact this
  have HB0 : Hid (Below w.heap.size w w) := Below.refl _ _
  have t1 : True := trivial
  clear ha hb
  generalize fullE (foldK kind A B).length = er at *
  generalize fitR (foldK kind A B) = X at *
  unfold NewOw at *
  go_enter Tryz.func18, Tryz.ntmps18
  go_wp2_with (first
    | (have _t := t1; go_at_call 33; refine (HA.out _ HB0.out).mono ?_; rintro e w1 ⟨rfl, ok⟩; clear t1; have HB1 := hide3 ok; clear ok)
    | (go_at_call 33; refine (HB.out _ HB1.out).mono ?_; rintro e w2 ⟨rfl, ok⟩; have HB2 := hide3 (below_then HB1.out ok); clear ok)
    | (go_at_call 31; refine (HF.out _ HB2.out).mono ?_; rintro e w3 ⟨v3, rfl, ok⟩; have HB3 : Hid (OwnS w3 w.heap.size v3 (X.map spR) ∧ Below w.heap.size w w3) := ⟨ok.1.base HB2.out.size, below_then HB2.out ok.2⟩; clear ok))
  go_ret2
  exact ⟨_, rfl, HB3.out.1, HB3.out.2⟩

/-- A function that hands on to two. -/
theorem rMeet_of {va vb : Value} {w : World} {er : Int} {X : Rg} (h : NewOw 18 #[.int .u8 109, va, vb] w er X) : NewOw 6 #[va, vb] w er X := by
  have HT := hide3 h
  unfold NewOw at *
  go_enter Tryz.func6, Tryz.ntmps6
  go_wp2_with (go_at_call 18; refine HT.out.mono ?_; rintro e w1 ⟨v1, rfl, ok⟩)
  go_ret2
  exact ⟨_, rfl, ok⟩

theorem rJoin_of {va vb : Value} {w : World} {er : Int} {X : Rg} (h : NewOw 18 #[.int .u8 106, va, vb] w er X) : NewOw 9 #[va, vb] w er X := by
  have HT := hide3 h
  unfold NewOw at *
  go_enter Tryz.func9, Tryz.ntmps9
  go_wp2_with (go_at_call 18; refine HT.out.mono ?_; rintro e w1 ⟨v1, rfl, ok⟩)
  go_ret2
  exact ⟨_, rfl, ok⟩

theorem rCut_of {va vb : Value} {w : World} {er : Int} {X : Rg} (h : NewOw 18 #[.int .u8 99, va, vb] w er X) : NewOw 11 #[va, vb] w er X := by
  have HT := hide3 h
  unfold NewOw at *
  go_enter Tryz.func11, Tryz.ntmps11
  go_wp2_with (go_at_call 18; refine HT.out.mono ?_; rintro e w1 ⟨v1, rfl, ok⟩)
  go_ret2
  exact ⟨_, rfl, ok⟩

/-- A row of spans of one's own, whatever it holds. -/
def RowW (w : World) (B : Nat) (v : Value) (n : Nat) : Prop := ∃ xs, w.ownsRow B 37 6 v n xs
theorem RowW.set {w : World} {B : Nat} {v : Value} {n : Nat} (h : RowW w B v n) (a : Addr) (u : Value) : RowW (w.setCell a u) B v n := by
  obtain ⟨xs, hl, h⟩ := h
  rcases h with ⟨rfl, rfl⟩ | ⟨g, cap, cur, rfl, hB, hg, hn, hm, hc, hx⟩
  · exact ⟨xs, hl, Or.inl ⟨rfl, rfl⟩⟩
  · by_cases hga : g = a.block
    · obtain ⟨cur', h1, h2⟩ : ∃ cur' : Array Value, (w.setCell a u).heap[g]? = some (.cells cur' 37 (0, 0)) ∧ cur'.size = cur.size := by
        subst hga
        simp only [World.setCell, Array.getElem?_modify, if_pos, hg, Option.map_some]
        cases hs : a.spot <;> simp
      refine ⟨cur'.toList.take (n * 6), ?_, Or.inr ⟨g, cap, cur', rfl, hB, h1, hn, hm, h2.trans hc, rfl⟩⟩
      rw [List.length_take, Array.length_toList, h2, hc]
      omega
    · exact ⟨xs, hl, Or.inr ⟨g, cap, cur, rfl, hB, (Below.heap_setCell _ _ _ _ hga).trans hg, hn, hm, hc, hx⟩⟩
theorem RowW.below {w w' : World} {B : Nat} {v : Value} {n : Nat} (h : RowW w B v n) (hb : Below w.heap.size w w') : RowW w' B v n := by
  obtain ⟨xs, h⟩ := h
  refine ⟨xs, h.1, h.2.imp id ?_⟩
  rintro ⟨g, cap, cur, rfl, hB, hg, hr⟩
  exact ⟨g, cap, cur, rfl, hB, (hb.block g (Array.getElem?_eq_some_iff.1 hg).1).trans hg, hr⟩
/-- All that are rows stay rows. -/
def RowsStay (w w' : World) : Prop := ∀ B v n, RowW w B v n → RowW w' B v n

theorem RowW.at {w : World} {B n cap g : Nat} (h : RowW w B (.slice (some ⟨g, 0, none⟩) n cap) n) {i : Nat} (hi : i < n * 6) : (∃ x, w.cell? ⟨g, i, none⟩ = some x) ∧ w.frozen? ⟨g, i, none⟩ = false ∧ B ≤ g := by
  obtain ⟨xs, _, h⟩ := h
  rcases h with ⟨h, _⟩ | ⟨g', cap', cur, e, hB, hg, hn, hm, hc, hx⟩
  · cases h
  · cases e
    have hlt : i < cur.size := by rw [hc]; exact Nat.lt_of_lt_of_le hi (Nat.mul_le_mul_right 6 hn)
    exact ⟨⟨cur[i], by rw [Lib.cell_of_heap hg]; exact Array.getElem?_eq_getElem hlt⟩, Lib.frozen_of_heap hg i, hB⟩
theorem six_stay {w0 w : World} (h : RowsStay w0 w) (a0 a1 a2 a3 a4 a5 : Addr) (u0 u1 u2 u3 u4 u5 : Value) : RowsStay w0 ((((((w.setCell a0 u0).setCell a1 u1).setCell a2 u2).setCell a3 u3).setCell a4 u4).setCell a5 u5) :=
  fun B v n hr => ((((((h B v n hr).set a0 u0).set a1 u1).set a2 u2).set a3 u3).set a4 u4).set a5 u5
theorem six_below {w0 w : World} {C g : Nat} (h : Below C w0 w) (hg : C ≤ g) (i0 i1 i2 i3 i4 i5 : Nat) (u0 u1 u2 u3 u4 u5 : Value) : Below C w0 ((((((w.setCell ⟨g, i0, none⟩ u0).setCell ⟨g, i1, none⟩ u1).setCell ⟨g, i2, none⟩ u2).setCell ⟨g, i3, none⟩ u3).setCell ⟨g, i4, none⟩ u4).setCell ⟨g, i5, none⟩ u5) :=
  (((((h.setCell (p := ⟨g, i0, none⟩) hg u0).setCell (p := ⟨g, i1, none⟩) hg u1).setCell (p := ⟨g, i2, none⟩) hg u2).setCell (p := ⟨g, i3, none⟩) hg u3).setCell (p := ⟨g, i4, none⟩) hg u4).setCell (p := ⟨g, i5, none⟩) hg u5

set_option maxHeartbeats 1600000 in
theorem over_walk {w : World} {B n cap g : Nat} (h : RowW w B (.slice (some ⟨g, 0, none⟩) n cap) n) (hn : n ≤ 1000000) (hpos : 0 < n) :
    Calls Tryz.prog 12 #[.slice (some ⟨g, 0, none⟩) n cap] w fun e w' => e = .returned (.tuple #[]) ∧ Below B w w' ∧ RowsStay w w' := by
  have hB : B ≤ g := (h.at (i := 0) (by omega)).2.2
  have HR := hide3 h
  clear h
  go_enter Tryz.func12, Tryz.ntmps12
  go_wp2_with fail
  go_loopw [2] (fun i wr => ∃ k : Nat, k ≤ n ∧ i = .int .i64 k ∧ Below B w wr ∧ RowsStay w wr) (fun i _ => n - (intOf i).toNat)
  case atStart => exact ⟨0, Nat.zero_le _, rfl, Below.refl _ _, fun _ _ _ h => h⟩
  case round =>
    obtain ⟨k, hk, rfl, hb, hst⟩ := hrel
    have HB := hide3 hb
    have HST := hide3 hst
    by_cases hlt : k < n
    · have hr := hst _ _ _ HR.out
      obtain ⟨⟨x0, c0⟩, f0, _⟩ := hr.at (i := k * 6) (by omega)
      obtain ⟨⟨x1, c1⟩, f1, _⟩ := hr.at (i := k * 6 + 1) (by omega)
      obtain ⟨⟨x2, c2⟩, f2, _⟩ := hr.at (i := k * 6 + 2) (by omega)
      obtain ⟨⟨x3, c3⟩, f3, _⟩ := hr.at (i := k * 6 + 3) (by omega)
      obtain ⟨⟨x4, c4⟩, f4, _⟩ := hr.at (i := k * 6 + 4) (by omega)
      obtain ⟨⟨x5, c5⟩, f5, _⟩ := hr.at (i := k * 6 + 5) (by omega)
      clear hr hb hst
      go_wp2
      exact ⟨⟨k + 1, by omega, by go_num, six_below HB.out hB _ _ _ _ _ _ _ _ _ _ _ _, six_stay HST.out _ _ _ _ _ _ _ _ _ _ _ _⟩, by simp [intOf]; omega⟩
    · clear hb hst
      go_wp2
      go_returns
      exact ⟨rfl, HB.out, HST.out⟩

theorem over_nil (ad : Option Addr) (cap : Nat) (w : World) (B : Nat) :
    Calls Tryz.prog 12 #[.slice ad 0 cap] w fun e w' => e = .returned (.tuple #[]) ∧ Below B w w' ∧ RowsStay w w' := by
  go_enter Tryz.func12, Tryz.ntmps12
  go_wp2_with fail
  go_loop [2] (fun i => i = .int .i64 0) (fun _ => 0)
  case atStart => rfl
  case round =>
    subst hrel
    go_wp2
    go_returns
    exact ⟨rfl, Below.refl _ _, fun _ _ _ h => h⟩

theorem over_any {w : World} {B : Nat} {v : Value} {n : Nat} (h : RowW w B v n) (hn : n ≤ 1000000) :
    Calls Tryz.prog 12 #[v] w fun e w' => e = .returned (.tuple #[]) ∧ Below B w w' ∧ RowsStay w w' := by
  have h' := h
  obtain ⟨xs, _, h1⟩ := h'
  rcases h1 with ⟨rfl, rfl⟩ | ⟨g, cap, cur, rfl, _⟩
  · exact over_nil _ _ w B
  · rcases Nat.eq_zero_or_pos n with rfl | hp
    · exact over_nil _ _ w B
    · exact over_walk h hn hp
end Go.Proofs.YtkmgfemhfibikaaGreatDoor
namespace Go.Proofs.YtkmgfemhfibikaaGreatDoor
open Go.RowKit
set_option maxRecDepth 100000

theorem word_any_doc (p : Bt) (hp : p.length ≤ 1048576) (w : World) : Calls Tryz.prog 30 #[.string (bt p)] w fun e w' => ∃ v, e = .returned (.tuple #[v, .bool (wordR (bt p)).isSome]) ∧ SpansR w' v ((wordR (bt p)).getD []) ∧ Below w.heap.size w w' := by
  rw [word_doc]
  by_cases h : p = [42]
  · subst h; exact word_star_doc w
  · exact word_walk_doc p hp h w

/-- Folded of two ranges of one span at most: what both have. -/
theorem Folded_meet {A B : Rg} (hA : RangeR A) (hB : RangeR B) (la : A.length ≤ 1) (lb : B.length ≤ 1) {va vb : Value} {w : World} (ha : SpansR w va A) (hb : SpansR w vb B) :
    Calls Tryz.prog 31 #[.int .u8 109, va, vb] w fun e w' => ∃ v, e = .returned (.tuple #[v, .int .i64 0]) ∧ SpansR w' v (meetR A B) ∧ Below w.heap.size w w' := by
  have := Folded_walk 109 _ _ va vb w (by simp; omega) ha.at hb.at
  rw [rk_sp hA, rk_sp hB, foldK_meet hA hB, full_0 (by have := meet_one hA hB la lb; omega), fit_of (by have := meet_one hA hB la lb; omega)] at this
  refine this.mono ?_
  rintro e w' ⟨v, rfl, h1, h2⟩
  exact ⟨v, rfl, h1.spans, h2⟩

theorem rk_okq {C : Rg} (hC : OkQ C) : (C.map spR).map rkS = C := by
  rw [List.map_map]
  conv => rhs; rw [← List.map_id C]
  refine List.map_congr_left fun p hp => ?_
  obtain ⟨h1, h2⟩ := hC p hp
  show (rankV (atA p.1) (atB p.1) (atC p.1), rankV (atA p.2) (atB p.2) (atC p.2)) = p
  have e1 := (may_at (n := p.1) (by unfold hasV; obtain ⟨a, b⟩ := h1; simp; omega)).2
  have e2 := (may_at (n := p.2) (by unfold hasV; obtain ⟨a, b⟩ := h2; simp; omega)).2
  rw [e1, e2]

/-- Nothing is put behind a row. -/
theorem wp_app0 {w : World} {ops : Array Oper} {rest : List Oper} {o : Oper} {f : Act} {Q : Exit → Act → World → Prop} (hgd : o.guard = none) (s x : Operand) (t : TypeId)
    (ho : o.op = .call { callee := .builtin .append, args := #[s, x], argTypes := #[t, t] }) (e : TypeId) (i : TypeInfo) (ht : Tryz.prog.underlying t = some (.slice e)) (hi : Tryz.prog.info? e = some i)
    {base : Option Addr} {n cap : Nat} (hs : f.eval s = .slice base n cap) (hn : n ≤ cap) {ad : Option Addr} {c : Nat} (hx : f.eval x = .slice ad 0 c)
    (h : wpList Tryz.prog ops Q rest (f.put o.dst (.slice base n cap)) w) : wpList Tryz.prog ops Q (o :: rest) f w := by
  refine wpList_plain hgd fun K hK => ?_
  have hr : (Builtin.append_ #[t, t] o.type #[.slice base n cap, .slice ad 0 c]).run Tryz.prog w = .ok (.slice base n cap) w := by
    cases ad <;> cases base <;> simp [Builtin.append_, run_underlying ht, sizeOf, typeInfo, hi, Builtin.lenOf, hn, Builtin.firstCells, loadCells, loadCellsFrom, storeCells]
  unfold Oper.wp execOp
  simp only [ho, resolve, invoke, builtin, Sem.run_bind, Sem.run_pure, Result.andThen_ok, List.map_toArray, List.map_cons, List.map_nil, hs, hx, hr]
  exact hK _ _ h

/-- Spans in memory, a list of one's own. -/
theorem Folded_join {B : Nat} {C : Rg} (hC : OkQ C) (lc : C.length ≤ 100000) {va : Value} {w : World} (ha : OwnS w B va (C.map spR)) :
    Calls Tryz.prog 31 #[.int .u8 106, va, .slice none 0 0] w fun e w' => ∃ v, e = .returned (.tuple #[v, .int .i64 (fullE (foldK 106 C []).length)]) ∧ OwnS w' w.heap.size v ((fitR (foldK 106 C [])).map spR) ∧ Below w.heap.size w w' := by
  obtain ⟨ad, cap, e, _, hs⟩ := ha.sp
  have := Folded_walk 106 (C.map spR) [] va (.slice none 0 0) w (by simp; omega) ⟨ad, cap, e, hs⟩ ⟨none, 0, rfl, Or.inl rfl⟩
  rw [rk_okq hC] at this
  exact this

set_option maxHeartbeats 2000000 in
theorem rParse3_walk (s : ByteArray) (hs : s.size ≤ 4096) (w : World) :
    Calls Tryz.prog 15 #[.string s] w fun e w' => ∃ v, e = .returned (.tuple #[v, .int .i64 (parE (altR s))]) ∧ OwnS w' w.heap.size v ((parL (altR s)).map spR) ∧ Below w.heap.size w w' := by
  have HAL : Hid (Calls Tryz.prog 28 #[.string s] w fun e w' => ∃ v, e = .returned v ∧ OwnK w' w.heap.size v (seg [124, 124] [] s.data.toList) ∧ (seg [124, 124] [] s.data.toList).length ≤ s.size + 1 ∧ Below w.heap.size w w') := alternatives_walk s (by omega) w
  have HWS : Hid (∀ p : Bt, p.length ≤ 4096 → ∀ w1, Calls Tryz.prog 29 #[.string (bt p)] w1 fun e w' => ∃ v, e = .returned v ∧ TxtsAt w' v (wordsD p) ∧ (wordsD p).length ≤ 4096 ∧ Below w1.heap.size w1 w') := fun p hp w1 => by
    refine (words_doc (bt p) (by rw [bt_size]; omega) w1).mono ?_
    rintro e w' ⟨v, rfl, h1, h2, h3⟩
    rw [bt_list] at h1 h2
    rw [bt_size] at h2
    exact ⟨v, rfl, h1.at, by omega, h3⟩
  have HAllR : Hid (∀ w1, Calls Tryz.prog 24 #[] w1 fun e w' => ∃ v, e = .returned v ∧ SpansR w' v allR ∧ Below w1.heap.size w1 w') := rAll_rg
  have HWD : Hid (∀ p : Bt, p.length ≤ 4096 → ∀ w1, Calls Tryz.prog 30 #[.string (bt p)] w1 fun e w' => ∃ v, e = .returned (.tuple #[v, .bool (wordR (bt p)).isSome]) ∧ SpansR w' v ((wordR (bt p)).getD []) ∧ Below w1.heap.size w1 w') := fun p hp w1 => word_any_doc p (by omega) w1
  have HFM : Hid (∀ w1 va vb (A B : Rg), RangeR A → RangeR B → A.length ≤ 1 → B.length ≤ 1 → SpansR w1 va A → SpansR w1 vb B → Calls Tryz.prog 31 #[.int .u8 109, va, vb] w1 fun e w' => ∃ v, e = .returned (.tuple #[v, .int .i64 0]) ∧ SpansR w' v (meetR A B) ∧ Below w1.heap.size w1 w') := fun w1 va vb A B h1 h2 h3 h4 h5 h6 => Folded_meet h1 h2 h3 h4 h5 h6
  have HFJ : Hid (∀ B w1 va (C : Rg), OkQ C → C.length ≤ 100000 → OwnS w1 B va (C.map spR) → Calls Tryz.prog 31 #[.int .u8 106, va, .slice none 0 0] w1 fun e w' => ∃ v, e = .returned (.tuple #[v, .int .i64 (fullE (foldK 106 C []).length)]) ∧ OwnS w' w1.heap.size v ((fitR (foldK 106 C [])).map spR) ∧ Below w1.heap.size w1 w') := fun B w1 va C h1 h2 h3 => Folded_join h1 h2 h3
  have HDA := hide3 (doc_alt s)
  have HSB : Hid (∀ p ∈ seg [124, 124] [] s.data.toList, p.length ≤ 4096) := fun p hp => by
    have h1 := pieces_of [124, 124] (by simp) s
    have h2 : bt p ∈ piecesB s (bt [124, 124]) := by rw [h1]; exact List.mem_map_of_mem hp
    have h3 := pieces_size (bt [124, 124]) _ _ _ h2
    rw [bt_size] at h3
    omega
  have h4096 : ¬ (4096 : Int) < (s.size : Int) := by omega
  obtain ⟨i0, hi, hz0, hz1, hz2⟩ := info_parts3 infoSpan
  generalize seg [124, 124] [] s.data.toList = ps at *
  generalize altR s = R at *
  go_enter Tryz.func15, Tryz.ntmps15
  go_wp2_with (go_at_call 28; refine HAL.out.mono ?_; rintro e w2 ⟨v2, rfl, h1, h2, hb2⟩; have HO2 := hide3 hb2; have HT2 := hide3 h1.at; have hpl : ps.length ≤ 4097 := (by omega); clear h1 h2 hb2 HAL)
  obtain ⟨ad2, cap2, rfl, hcs⟩ := HT2.out
  go_loopw [4, 6] (fun acc i wr => ∃ (k : Nat) (C : Rg), k ≤ ps.length ∧ i = .int .i64 k ∧ OkQ C ∧ C.length ≤ k ∧ OwnS wr w2.heap.size acc (C.map spR) ∧ Below w2.heap.size w2 wr ∧ altD [] ps = altD C (ps.drop k)) (fun _ i _ => ps.length - (intOf i).toNat)
  case atStart => exact ⟨0, [], Nat.zero_le _, rfl, (fun q h => by cases h), Nat.le_refl _, OwnS.nil _ _, Below.refl _ _, rfl⟩
  case round =>
    obtain ⟨k, C, hk, rfl, hC, hCl, hS, hb, heq⟩ := hrel
    have HC := hide3 hC
    have HS := hide3 hS
    have HB := hide3 hb
    have HEQ := hide3 heq
    clear hC hS heq
    by_cases hlt : k < ps.length
    · obtain ⟨g2, rfl, hg2, hcell⟩ : ∃ g, ad2 = some ⟨g, 0, none⟩ ∧ g < w2.heap.size ∧ ∀ i (h : i < ps.length), w2.cell? ⟨g, i, none⟩ = some (.string (bt ps[i])) := by
        rcases hcs with h | h
        · rw [h] at hlt; simp at hlt
        · exact h
      have hc := (hb.cell (p := ⟨g2, k, none⟩) hg2).trans (hcell k hlt)
      have HD : Hid (ps.drop k = ps[k] :: ps.drop (k + 1)) := List.drop_eq_getElem_cons hlt
      have hpk := HSB.out _ (List.getElem_mem hlt)
      generalize ps[k] = p at *
      have HWp := hide3 (HWS.out p hpk)
      have HED : Hid (altD [] ps = match meetsD allR (wordsD p) with
          | none => none
          | some X => if wordsD p = [] then none else altD (C ++ X) (ps.drop (k + 1))) := by unfold Hid; rw [HEQ.out, HD.out]; rfl
      have HWL : Hid (∀ q ∈ wordsD p, q.length ≤ 4096) := fun q hq => by
        have h1 := pieces_of [32] (by simp) (bt p)
        rw [bt_list] at h1
        have h2 : bt q ∈ piecesB (bt p) (bt [32]) := by rw [h1]; exact List.mem_map_of_mem (List.mem_filter.1 hq).1
        have h3 := pieces_size (bt [32]) _ _ _ h2
        rw [bt_size, bt_size] at h3
        omega
      generalize wordsD p = ws at *
      clear hb hcell HD HEQ
      go_wp2_with (first
        | (go_at_call 29; refine (HWp.out _).mono ?_; rintro e w3 ⟨v3, rfl, h1, h2, ok⟩; have HT3 := hide3 h1; have HB3 := hide3 ok; have hwl := h2; clear h1 h2 ok)
        | (go_at_call 24; refine (HAllR.out _).mono ?_; rintro e w4 ⟨v4, rfl, h1, ok⟩; have HA4 := hide3 h1; have HB4 : Hid (Below wr.heap.size wr w4) := below_then HB3.out ok; have HT4 := hide3 (HT3.out.below ok); clear h1 ok HB3 HT3))
      obtain ⟨ad3, cap3, rfl, hcw⟩ := HT4.out
      go_loopw [8, 9] (fun one j wq => ∃ (m : Nat) (X : Rg), m ≤ ws.length ∧ j = .int .i64 m ∧ RangeR X ∧ X.length ≤ 1 ∧ SpansR wq one X ∧ Below w4.heap.size w4 wq ∧ meetsD allR ws = meetsD X (ws.drop m)) (fun _ j _ => ws.length - (intOf j).toNat)
      case atStart => exact ⟨0, allR, Nat.zero_le _, rfl, allR_ok, Nat.le_refl _, HA4.out, Below.refl _ _, rfl⟩
      case round =>
        obtain ⟨m, X, hm, rfl, hX, hXl, hXs, hbq, heq⟩ := hrel
        have HX := hide3 hX
        have HXS := hide3 hXs
        have HBQ := hide3 hbq
        have HMQ := hide3 heq
        clear hX hXs heq
        by_cases hmt : m < ws.length
        · obtain ⟨g3, rfl, hg3, hcell3⟩ : ∃ g, ad3 = some ⟨g, 0, none⟩ ∧ g < w4.heap.size ∧ ∀ i (h : i < ws.length), w4.cell? ⟨g, i, none⟩ = some (.string (bt ws[i])) := by
            rcases hcw with h | h
            · rw [h] at hmt; simp at hmt
            · exact h
          have hc3 := (hbq.cell (p := ⟨g3, m, none⟩) hg3).trans (hcell3 m hmt)
          have HD3 : Hid (ws.drop m = ws[m] :: ws.drop (m + 1)) := List.drop_eq_getElem_cons hmt
          have hql := HWL.out _ (List.getElem_mem hmt)
          generalize ws[m] = q at *
          have HQ := hide3 (HWD.out q hql)
          clear hbq hcell3
          cases hw : wordR (bt q) with
          | none =>
            have HN : Hid (altD [] ps = none) := by
              unfold Hid
              have : meetsD allR ws = none := by rw [HMQ.out, HD3.out, meetsD, hw]
              rw [HED.out, this]
            have HRN : Hid (parE R = 21 ∧ parL R = []) := by rw [HDA.out]; unfold docD; rw [HN.out]; exact ⟨rfl, rfl⟩
            rw [hw] at HQ
            go_wp2_with (go_at_call 30; refine (HQ.out _).mono ?_; rintro e w5 ⟨v5, rfl, h1, ok⟩; have HB5 := hide3 (below_then HO2.out (below_then HB.out (below_then HB4.out (below_then HBQ.out ok)))); clear h1 ok)
            go_ret2
            exact ⟨_, by rw [HRN.out.1]; rfl, by rw [HRN.out.2]; exact OwnS.nil _ _, HB5.out⟩
          | some Y =>
            have HYR := hide3 (word_rg hw)
            have hY1 := word_one hw
            have HM2 : Hid (meetsD allR ws = meetsD (meetR X Y) (ws.drop (m + 1))) := by unfold Hid; rw [HMQ.out, HD3.out, meetsD, hw]
            rw [hw] at HQ
            clear hw HMQ HD3
            go_wp2_with (first
              | (go_at_call 30; refine (HQ.out _).mono ?_; rintro e w5 ⟨v5, rfl, h1, ok⟩; have HS5 : Hid (SpansR w5 v5 Y) := h1; have HX5 := hide3 (HXS.out.below ok); have HB5 := hide3 (below_then HBQ.out ok); clear h1 ok)
              | (go_at_call 31; refine (HFM.out _ _ _ X Y HX.out HYR.out hXl hY1 HX5.out HS5.out).mono ?_; rintro e w6 ⟨v6, rfl, h1, ok⟩; have HS6 := hide3 h1; have HB6 := hide3 (below_then HB5.out ok); clear h1 ok))
            exact ⟨⟨m + 1, meetR X Y, by omega, by go_num, HX.out.meet HYR.out, meet_one HX.out HYR.out hXl hY1, HS6.out, HB6.out, HM2.out⟩, by simp [intOf]; omega⟩
        · have HM2 : Hid (meetsD allR ws = some X) := by unfold Hid; rw [HMQ.out, List.drop_of_length_le (by omega)]; rfl
          obtain ⟨adX, capX, rfl, hcX, hsX⟩ := HXS.out
          by_cases h0 : ws = []
          · have HN : Hid (altD [] ps = none) := by unfold Hid; rw [HED.out, HM2.out]; simp only; rw [if_pos h0]
            have HRN : Hid (parE R = 21 ∧ parL R = []) := by rw [HDA.out]; unfold docD; rw [HN.out]; exact ⟨rfl, rfl⟩
            have hw0 : ((ws.length : Int) == 0) = true := by rw [h0]; rfl
            clear hbq
            go_wp2
            go_ret2
            exact ⟨_, by rw [HRN.out.1]; rfl, by rw [HRN.out.2]; exact OwnS.nil _ _, below_then HO2.out (below_then HB.out (below_then HB4.out HBQ.out))⟩
          · have hw0 : ((ws.length : Int) == 0) = false := by
              have : 0 < ws.length := List.length_pos_iff.2 h0
              rw [beq_eq_false_iff_ne]; omega
            have HE2 : Hid (altD [] ps = altD (C ++ X) (ps.drop (k + 1))) := by unfold Hid; rw [HED.out, HM2.out]; simp only; rw [if_neg h0]
            have HBX : Hid (Below w2.heap.size w2 wr) := below_then HB.out (below_then HB4.out HBQ.out)
            have HSQ : Hid (OwnS wr w2.heap.size u4 (C.map spR)) := (HS.out.below HB4.out).below HBQ.out
            clear hbq
            match X, hXl with
            | [], _ =>
              obtain ⟨ad4, cap4, h4, hc4, _⟩ := HSQ.out.sp
              rw [List.length_map] at h4 hc4
              subst h4
              go_wp2_with (at_builtin; refine wp_app0 rfl (.tmp 57) (.tmp 58) 22 rfl 37 i0 Tryz.underlying22 hi rfl hc4 rfl ?_)
              exact ⟨⟨k + 1, C ++ [], by omega, by go_num, by rw [List.append_nil]; exact HC.out, by simp; omega, by rw [List.append_nil]; exact HSQ.out, HBX.out, HE2.out⟩, by simp [intOf]; omega⟩
            | [(x, y)], _ =>
              obtain ⟨gX, oX, rfl, hgX, hcX2⟩ : ∃ g o, adX = some ⟨g, o, none⟩ ∧ g < wr.heap.size ∧ ∀ i (h : i < [(x, y)].length), SpAt wr g (o + i * 6) (spR [(x, y)][i]) := by
                rcases hsX with h | h
                · cases h
                · exact h
              obtain ⟨p0, p1, p2, p3, p4, p5⟩ := (hcX2 0 (by simp)).first
              have hnews : ∀ j u, ([.int .i64 (atA x), .int .i64 (atB x), .int .i64 (atC x), .int .i64 (atA y), .int .i64 (atB y), .int .i64 (atC y)] : List Value)[j]? = some u → wr.cell? ((⟨gX, oX, none⟩ : Addr).add j) = some u := by
                intro j u hj
                have ad : (⟨gX, oX, none⟩ : Addr).add j = ⟨gX, oX + j, none⟩ := by unfold Addr.add; split <;> simp_all
                rw [ad]
                match j, hj with
                | 0, hj => cases hj; exact p0
                | 1, hj => cases hj; exact p1
                | 2, hj => cases hj; exact p2
                | 3, hj => cases hj; exact p3
                | 4, hj => cases hj; exact p4
                | 5, hj => cases hj; exact p5
              have hX1 := HX.out.okq (x, y) List.mem_cons_self
              have HOK : Hid (OkQ (C ++ [(x, y)])) := okq_append HC.out HX.out.okq
              have HNW := hide3 hnews
              clear hcX2 p0 p1 p2 p3 p4 p5 hnews hX1
              go_wp2_with (at_builtin; refine wpList_append_own_at _ rfl _ _ 22 rfl w2.heap.size 37 i0 _ 6 48 Tryz.underlying22 hi hz0 hz1 hz2 rfl (by decide) u4 _ _ rfl HSQ.out ⟨gX, oX, none⟩ 1 capX [.int .i64 (atA x), .int .i64 (atB x), .int .i64 (atC x), .int .i64 (atA y), .int .i64 (atB y), .int .i64 (atC y)] rfl rfl HNW.out (by simp [Value.oneCell']) (by unfold maxLen; rw [List.length_map]; omega) (by rw [List.length_map]; omega) HBX.out.size ?_; intro v7 w7 hown7 hg7 hnil7 hat7; have HO7 : Hid (OwnS w7 w2.heap.size v7 ((C ++ [(x, y)]).map spR) ∧ Below w2.heap.size w2 w7) := (⟨by unfold OwnS; rw [List.map_append, List.map_singleton, spCells_snoc, List.length_append]; exact hown7, HBX.out.grown hg7 HBX.out.size fun j hj => (HSQ.out.lt hj).2⟩); clear hown7 hg7 hnil7 hat7; go_frame)
              exact ⟨⟨k + 1, C ++ [(x, y)], by omega, by go_num, HOK.out, by simp; omega, HO7.out.1, HO7.out.2, HE2.out⟩, by simp [intOf]; omega⟩
    · have HN : Hid (altD [] ps = some C) := by unfold Hid; rw [HEQ.out, List.drop_of_length_le (by omega)]; rfl
      have HRN : Hid (parE R = fullE (foldK 106 C []).length ∧ parL R = fitR (foldK 106 C [])) := by rw [HDA.out]; unfold docD; rw [HN.out]; exact ⟨rfl, rfl⟩
      clear hb
      go_wp2_with (go_at_call 31; refine (HFJ.out _ _ _ C HC.out (by omega) HS.out).mono ?_; rintro e w5 ⟨v5, rfl, h1, ok⟩; have HS5 : Hid (OwnS w5 w.heap.size v5 ((fitR (foldK 106 C [])).map spR)) := h1.base (Nat.le_trans HO2.out.size HB.out.size); have HB5 := hide3 (below_then HO2.out (below_then HB.out ok)); clear h1 ok)
      go_ret2
      exact ⟨_, by rw [HRN.out.1]; rfl, by rw [HRN.out.2]; exact HS5.out, HB5.out⟩

theorem rParse3_far (s : ByteArray) (hs : 4096 < s.size) (w : World) :
    Calls Tryz.prog 15 #[.string s] w fun e w' => ∃ v, e = .returned (.tuple #[v, .int .i64 21]) ∧ OwnS w' w.heap.size v (([] : Rg).map spR) ∧ Below w.heap.size w w' := by
  have h : (4096 : Int) < (s.size : Int) := by omega
  go_enter Tryz.func15, Tryz.ntmps15
  go_wp2
  go_ret2
  exact ⟨_, rfl, OwnS.nil _ _, Below.refl _ _⟩

/-- The document's Parse of any text. -/
theorem rParse3_all (s : ByteArray) (w : World) :
    Calls Tryz.prog 15 #[.string s] w fun e w' => ∃ v, e = .returned (.tuple #[v, .int .i64 (parE (parR s))]) ∧ OwnS w' w.heap.size v ((parL (parR s)).map spR) ∧ Below w.heap.size w w' := by
  unfold parR
  by_cases h : s.size ≤ 4096
  · rw [if_pos h]; exact rParse3_walk s h w
  · rw [if_neg h]; exact rParse3_far s (by omega) w
end Go.Proofs.YtkmgfemhfibikaaGreatDoor
namespace Go.Proofs.YtkmgfemhfibikaaGreatDoor
open Go.RowKit
set_option maxRecDepth 100000

theorem parL_len (R : Option Rg) : (parL R).length ≤ 64 := by
  cases R with
  | none => exact Nat.zero_le _
  | some A => exact fit_len A

theorem spanReads_any (s : ByteArray) {w : World} (h : Env w ∧ FL w) :
    Calls Tryz.prog 4 #[.string s] w fun e w' => e = .returned (.bool true) ∧ Below w.heap.size w w' := by
  obtain ⟨he, hf⟩ := h
  have HKn : Hid (∀ w1, Below w.heap.size w w1 → Says 13 #[] w1 true) := fun w1 h => known_any w1 (he.below h) (hf.below h)
  have HSm : Hid (∀ w1 x y (R : Rg), R.length ≤ 64 → SpansR w1 x R → SpansR w1 y R → Says 7 #[x, y] w1 true) := fun w1 x y R hR h1 h2 => same_rg hR h1 h2
  have HA : Hid (Calls Tryz.prog 14 #[.string s] w fun e w' => ∃ v, e = .returned (.tuple #[v, .int .i64 (parE (parR s))]) ∧ OwnS w' w.heap.size v ((parL (parR s)).map spR) ∧ Below w.heap.size w w') := sParse_all s w he hf
  have HB : Hid (∀ w1, Calls Tryz.prog 15 #[.string s] w1 fun e w' => ∃ v, e = .returned (.tuple #[v, .int .i64 (parE (parR s))]) ∧ OwnS w' w1.heap.size v ((parL (parR s)).map spR) ∧ Below w1.heap.size w1 w') := rParse3_all s
  have hl := parL_len (parR s)
  clear he hf
  generalize parE (parR s) = er at *
  generalize parL (parR s) = X at *
  unfold Says at *
  go_enter Tryz.func4, Tryz.ntmps4
  go_wp2_with (first
    | (go_at_call 14; refine HA.out.mono ?_; rintro e w1 ⟨v1, rfl, h1, ok⟩; have HO1 : Hid (SpansR w1 v1 X ∧ Below w.heap.size w w1) := ⟨h1.spans, ok⟩; clear h1 ok)
    | (go_at_call 15; refine (HB.out _).mono ?_; rintro e w2 ⟨v2, rfl, h1, ok⟩; have HO2 : Hid ((SpansR w2 v1 X ∧ SpansR w2 v2 X) ∧ Below w.heap.size w w2) := ⟨⟨HO1.out.1.below ok, h1.spans⟩, below_then HO1.out.2 ok⟩; clear h1 ok)
    | (go_at_call 7; refine (HSm.out _ _ _ X hl HO2.out.1.1 HO2.out.1.2).mono ?_; rintro e w3 ⟨rfl, ok⟩; have HO3 := hide3 (below_then HO2.out.2 ok); clear ok)
    | (go_at_call 13; refine (HKn.out _ HO3.out).mono ?_; rintro e w4 ⟨rfl, ok⟩; have HO4 := hide3 (below_then HO3.out ok); clear ok))
  go_ret
  exact ⟨rfl, HO4.out⟩
end Go.Proofs.YtkmgfemhfibikaaGreatDoor
