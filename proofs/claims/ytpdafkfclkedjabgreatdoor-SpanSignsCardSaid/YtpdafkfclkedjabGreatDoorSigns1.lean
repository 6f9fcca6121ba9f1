/- The walk of SpanSigns. -/
import Derived.Test.YtpdafkfclkedjabGreatDoorSigns0
namespace Go.Proofs.YtpdafkfclkedjabGreatDoor
open Go.RowKit
set_option maxRecDepth 100000

set_option maxHeartbeats 3200000 in
theorem signs_l_TT_A (a b c x y z : Int) (T : ByteArray) (Rs : Nat → Rg) (w : World)
    (HKn : Hid (∀ w1, Below w.heap.size w w1 → Says 6 #[] w1 true)) (HMv : Hid (∀ w1, Says 7 #[.agg #[.int .i64 a, .int .i64 b, .int .i64 c]] w1 true)) (HMx : Hid (∀ w1, Says 7 #[.agg #[.int .i64 x, .int .i64 y, .int .i64 z]] w1 true))
    (HPv : Hid (∀ w1, Calls Tryz.prog 8 #[.agg #[.int .i64 a, .int .i64 b, .int .i64 c]] w1 fun e w' => e = .returned (.string T) ∧ Below w1.heap.size w1 w')) (HC : Hid (∀ w1, Calls Tryz.prog 9 #[.agg #[.int .i64 x, .int .i64 y, .int .i64 z], .agg #[.int .i64 a, .int .i64 b, .int .i64 c]] w1 fun e w' => e = .returned (.int .i64 (-1)) ∧ Below w1.heap.size w1 w'))
    (hmaj : (x == a) = true) (hmin : (y == b) = true) (hA : 0 < a)
    (HT : Hid (T.size ≤ 100)) (HPs : Hid (∀ i (h : i < sgs.length) w1, Below w.heap.size w w1 → Calls Tryz.prog 10 #[.string (sgs[i] ++ T)] w1 fun e w' => ∃ v, e = .returned (.tuple #[v, .int .i64 0]) ∧ SpansR w' v (Rs i) ∧ Below w1.heap.size w1 w'))
    (HIn : Hid (∀ i (h : i < ([false, false, true, true, false, false, false, false] : List Bool).length) w1 v, SpansR w1 v (Rs i) → Says 11 #[v, .agg #[.int .i64 x, .int .i64 y, .int .i64 z]] w1 ([false, false, true, true, false, false, false, false] : List Bool)[i]))
    : Calls Tryz.prog 3 #[.agg #[.int .i64 a, .int .i64 b, .int .i64 c], .agg #[.int .i64 x, .int .i64 y, .int .i64 z]] w fun e w' => e = .returned (.bool true) ∧ Below w.heap.size w w' := by
  have HK0 : Hid (KeepP fun w1 => ((Below w.heap.size w w1) ∧ BxAt w1 ⟨w.heap.size, .int .i64 a, .int .i64 b, .int .i64 c⟩) ∧ BxAt w1 ⟨w.heap.size + 1, .int .i64 x, .int .i64 y, .int .i64 z⟩) := (KeepP.and ((KeepP.and (keepBelow w) (keepV3 _))) (keepV3 _))
  have HO0 : Hid (((Below w.heap.size w ((w.alloc (.cells #[.int .i64 a, .int .i64 b, .int .i64 c] 23)).alloc (.cells #[.int .i64 x, .int .i64 y, .int .i64 z] 23))) ∧ BxAt ((w.alloc (.cells #[.int .i64 a, .int .i64 b, .int .i64 c] 23)).alloc (.cells #[.int .i64 x, .int .i64 y, .int .i64 z] 23)) ⟨w.heap.size, .int .i64 a, .int .i64 b, .int .i64 c⟩) ∧ BxAt ((w.alloc (.cells #[.int .i64 a, .int .i64 b, .int .i64 c] 23)).alloc (.cells #[.int .i64 x, .int .i64 y, .int .i64 z] 23)) ⟨w.heap.size + 1, .int .i64 x, .int .i64 y, .int .i64 z⟩) := ⟨⟨boxB2 _ _ _, (((OKs.nil w).box rfl _ _ _).one).below (boxB _ _)⟩, ((OKs.nil (w.alloc (.cells #[.int .i64 a, .int .i64 b, .int .i64 c] 23))).box (by simp) _ _ _).one⟩
  obtain ⟨b0, b1, b2, b3⟩ := HO0.out.1.2
  obtain ⟨d0, d1, d2, d3⟩ := HO0.out.2
  go_enter Tryz.func3, Tryz.ntmps3
  go_wp2_with (first
    | (have _h := HO0; go_at_call 6; refine (HKn.out _ (HO0.out.1.1)).mono ?_; rintro e y1 ⟨rfl, ok⟩; have HO1 : Hid (((Below w.heap.size w y1) ∧ BxAt y1 ⟨w.heap.size, .int .i64 a, .int .i64 b, .int .i64 c⟩) ∧ BxAt y1 ⟨w.heap.size + 1, .int .i64 x, .int .i64 y, .int .i64 z⟩) := HK0.out _ _ HO0.out ok; clear ok HO0 b0 b1 b2 b3 d0 d1 d2 d3; obtain ⟨b0, b1, b2, b3⟩ := HO1.out.1.2; obtain ⟨d0, d1, d2, d3⟩ := HO1.out.2)
    | (have _h := HO1; go_at_call 7; refine (HMv.out _).mono ?_; rintro e y2 ⟨rfl, ok⟩; have HO2 : Hid (((Below w.heap.size w y2) ∧ BxAt y2 ⟨w.heap.size, .int .i64 a, .int .i64 b, .int .i64 c⟩) ∧ BxAt y2 ⟨w.heap.size + 1, .int .i64 x, .int .i64 y, .int .i64 z⟩) := HK0.out _ _ HO1.out ok; clear ok HO1 b0 b1 b2 b3 d0 d1 d2 d3; obtain ⟨b0, b1, b2, b3⟩ := HO2.out.1.2; obtain ⟨d0, d1, d2, d3⟩ := HO2.out.2)
    | (have _h := HO2; go_at_call 7; refine (HMx.out _).mono ?_; rintro e y3 ⟨rfl, ok⟩; have HO3 : Hid (((Below w.heap.size w y3) ∧ BxAt y3 ⟨w.heap.size, .int .i64 a, .int .i64 b, .int .i64 c⟩) ∧ BxAt y3 ⟨w.heap.size + 1, .int .i64 x, .int .i64 y, .int .i64 z⟩) := HK0.out _ _ HO2.out ok; clear ok HO2 b0 b1 b2 b3 d0 d1 d2 d3; obtain ⟨b0, b1, b2, b3⟩ := HO3.out.1.2; obtain ⟨d0, d1, d2, d3⟩ := HO3.out.2)
    | (have _h := HO3; go_at_call 8; refine (HPv.out _).mono ?_; rintro e y4 ⟨rfl, ok⟩; have HO4 : Hid (((Below w.heap.size w y4) ∧ BxAt y4 ⟨w.heap.size, .int .i64 a, .int .i64 b, .int .i64 c⟩) ∧ BxAt y4 ⟨w.heap.size + 1, .int .i64 x, .int .i64 y, .int .i64 z⟩) := HK0.out _ _ HO3.out ok; clear ok HO3 b0 b1 b2 b3 d0 d1 d2 d3; obtain ⟨b0, b1, b2, b3⟩ := HO4.out.1.2; obtain ⟨d0, d1, d2, d3⟩ := HO4.out.2)
    | (have _h := HO4; go_at_call 9; refine (HC.out _).mono ?_; rintro e y5 ⟨rfl, ok⟩; have HO5 : Hid (((Below w.heap.size w y5) ∧ BxAt y5 ⟨w.heap.size, .int .i64 a, .int .i64 b, .int .i64 c⟩) ∧ BxAt y5 ⟨w.heap.size + 1, .int .i64 x, .int .i64 y, .int .i64 z⟩) := HK0.out _ _ HO4.out ok; clear ok HO4 b0 b1 b2 b3 d0 d1 d2 d3; obtain ⟨b0, b1, b2, b3⟩ := HO5.out.1.2; obtain ⟨d0, d1, d2, d3⟩ := HO5.out.2))
  have HKl : Hid (KeepP fun w1 => Below w.heap.size w w1 ∧ BxAt w1 ⟨w.heap.size + 1, .int .i64 x, .int .i64 y, .int .i64 z⟩ ∧ Rows8 w1 y5.heap.size [false, false, true, true, false, false, false, false]) := (keepBelow w).and ((keepV3 _).and (keepRows8 _ _))
  have HOl : Hid (Below w.heap.size w ((y5.alloc (.cells #[.string ⟨#[]⟩, .string ⟨#[61]⟩, .string ⟨#[60]⟩, .string ⟨#[60, 61]⟩, .string ⟨#[62]⟩, .string ⟨#[62, 61]⟩, .string ⟨#[126]⟩, .string ⟨#[94]⟩] 9)).alloc (.cells #[.bool false, .bool false, .bool true, .bool true, .bool false, .bool false, .bool false, .bool false] 4)) ∧ BxAt ((y5.alloc (.cells #[.string ⟨#[]⟩, .string ⟨#[61]⟩, .string ⟨#[60]⟩, .string ⟨#[60, 61]⟩, .string ⟨#[62]⟩, .string ⟨#[62, 61]⟩, .string ⟨#[126]⟩, .string ⟨#[94]⟩] 9)).alloc (.cells #[.bool false, .bool false, .bool true, .bool true, .bool false, .bool false, .bool false, .bool false] 4)) ⟨w.heap.size + 1, .int .i64 x, .int .i64 y, .int .i64 z⟩ ∧ Rows8 ((y5.alloc (.cells #[.string ⟨#[]⟩, .string ⟨#[61]⟩, .string ⟨#[60]⟩, .string ⟨#[60, 61]⟩, .string ⟨#[62]⟩, .string ⟨#[62, 61]⟩, .string ⟨#[126]⟩, .string ⟨#[94]⟩] 9)).alloc (.cells #[.bool false, .bool false, .bool true, .bool true, .bool false, .bool false, .bool false, .bool false] 4)) y5.heap.size [false, false, true, true, false, false, false, false]) := ⟨below_then HO5.out.1.1 (boxB2 _ _ _), (HO5.out.2).below (boxB2 _ _ _), rows8_new _ _ _ _ _ _ _ _ _⟩
  clear b0 b1 b2 b3 d0 d1 d2 d3
  go_loopw [12] (fun i wr => ∃ k : Nat, k ≤ 8 ∧ i = .int .i64 k ∧ (Below w.heap.size w wr ∧ BxAt wr ⟨w.heap.size + 1, .int .i64 x, .int .i64 y, .int .i64 z⟩ ∧ Rows8 wr y5.heap.size [false, false, true, true, false, false, false, false])) (fun i _ => 8 - (intOf i).toNat)
  case atStart => exact ⟨0, Nat.zero_le _, rfl, HOl.out⟩
  case round =>
    obtain ⟨k, hk, rfl, hk2⟩ := hrel
    have HO := hide3 hk2
    clear hk2 HOl
    by_cases hlt : k < 8
    · have c1 := HO.out.2.2.1 k hlt
      have HPk := hide3 (HPs.out k hlt)
      have HIk := hide3 (HIn.out k hlt)
      have HSZ : Hid ((sgs[k]'hlt).size ≤ 2) := by
        have : ∀ s ∈ sgs, s.size ≤ 2 := by decide
        exact this _ (List.getElem_mem _)
      have HOr : Hid ((Below w.heap.size w wr ∧ BxAt wr ⟨w.heap.size + 1, .int .i64 x, .int .i64 y, .int .i64 z⟩ ∧ Rows8 wr y5.heap.size [false, false, true, true, false, false, false, false]) ∧ wr.cell? ⟨y5.heap.size + 1, k, none⟩ = some (.bool (([false, false, true, true, false, false, false, false] : List Bool)[k]'hlt))) := ⟨HO.out, HO.out.2.2.2.1 k hlt⟩
      have hk8 : (k : Int) < 8 := by omega
      generalize sgs[k]'hlt = sg at *
      generalize ([false, false, true, true, false, false, false, false] : List Bool)[k]'hlt = wk at *
      generalize Rs k = Rk at *
      have sa := fun Wx : World => run_string_add_sum (P := Tryz.prog) (w := Wx) sg T (by have h1 := HSZ.out; have h2 := HT.out; omega)
      have HKr : Hid (KeepP fun w1 => ((Below w.heap.size w w1 ∧ BxAt w1 ⟨w.heap.size + 1, .int .i64 x, .int .i64 y, .int .i64 z⟩ ∧ Rows8 w1 y5.heap.size [false, false, true, true, false, false, false, false]) ∧ (w1.cell? ⟨y5.heap.size + 1, k, none⟩ = some (.bool wk) ∧ y5.heap.size + 1 < w1.heap.size)) ∧ True) := (HKl.out.and (fun _ _ h hb => ⟨(hb.cell (p := ⟨y5.heap.size + 1, k, none⟩) h.2).trans h.1, Nat.lt_of_lt_of_le h.2 hb.size⟩)).and (fun _ _ _ _ => trivial)
      go_wp2_with (go_at_call 10; refine (HPk.out _ HO.out.1).mono ?_; rintro e yp ⟨vp, rfl, ok⟩; have HO' : Hid ((((Below w.heap.size w yp ∧ BxAt yp ⟨w.heap.size + 1, .int .i64 x, .int .i64 y, .int .i64 z⟩ ∧ Rows8 yp y5.heap.size [false, false, true, true, false, false, false, false]) ∧ (yp.cell? ⟨y5.heap.size + 1, k, none⟩ = some (.bool wk) ∧ y5.heap.size + 1 < yp.heap.size)) ∧ True) ∧ SpansR yp vp Rk) := ⟨HKr.out _ _ ⟨⟨HOr.out.1, HOr.out.2, HOr.out.1.2.2.2.2⟩, trivial⟩ ok.2, ok.1⟩; clear ok HO HOr)
      have HK : Hid (KeepP fun w1 => (((Below w.heap.size w w1 ∧ BxAt w1 ⟨w.heap.size + 1, .int .i64 x, .int .i64 y, .int .i64 z⟩ ∧ Rows8 w1 y5.heap.size [false, false, true, true, false, false, false, false]) ∧ (w1.cell? ⟨y5.heap.size + 1, k, none⟩ = some (.bool wk) ∧ y5.heap.size + 1 < w1.heap.size)) ∧ True) ∧ SpansR w1 vp Rk) := HKr.out.and (keepSpR vp Rk)
      have HO := HO'
      clear HO'
      have HII : Hid (∀ w1, ((((Below w.heap.size w w1 ∧ BxAt w1 ⟨w.heap.size + 1, .int .i64 x, .int .i64 y, .int .i64 z⟩ ∧ Rows8 w1 y5.heap.size [false, false, true, true, false, false, false, false]) ∧ (w1.cell? ⟨y5.heap.size + 1, k, none⟩ = some (.bool wk) ∧ y5.heap.size + 1 < w1.heap.size)) ∧ True) ∧ SpansR w1 vp Rk) → Calls Tryz.prog 11 #[vp, .agg #[.int .i64 x, .int .i64 y, .int .i64 z]] w1 fun e w' => e = .returned (.bool wk) ∧ Below w1.heap.size w1 w') := fun w1 h => HIk.out w1 vp h.2
      refine wp_region_keep HK.out (by kernel_rfl) (by kernel_rfl) (by first | exact HO.out | exact HK.out.drew HO.out) ?_
      intro C hin hout
      have HIN := hide3 hin
      have HOUT := hide3 hout
      clear hin hout HO
      repeat
        (with_reducible refine wpQuiet_step (fun K hK => ?_)
         go_simp
         first
           | (refine hK _ ?_; clear hK K)
           | (apply Exists.intro; refine ⟨fun w1 hC => ?_, hK _ ?_⟩; (focus ((first | (go_at_call 11; with_reducible exact callC' HIN.out HOUT.out HK.out HII.out w1 hC) | (exact rfl) | (obtain ⟨⟨⟨⟨hb0, ⟨d0, d1, d2, d3⟩, hr8⟩, cw, cl⟩, _⟩, hsp⟩ := HOUT.out w1 hC; clear hC; go_simp; first | done | exact rfl)); done)); clear hK K))
      refine wpQuiet_nil ?_
      intro wn hC
      have HO := hide3 (HOUT.out _ hC)
      clear hC HIN HOUT C
      obtain ⟨⟨⟨⟨hb0, ⟨d0, d1, d2, d3⟩, hr8⟩, cw, cl⟩, _⟩, hsp⟩ := HO.out
      have HB := hide3 hb0
      have HX := hide3 d3
      have HR8 := hide3 hr8
      have HDD : Hid (BxAt wn ⟨w.heap.size + 1, .int .i64 x, .int .i64 y, .int .i64 z⟩) := ⟨d0, d1, d2, d3⟩
      clear hb0 hr8 hsp
      go_wp2
      exact ⟨⟨k + 1, by omega, by go_num, HB.out, HDD.out, HR8.out⟩, by simp [intOf]; omega⟩
    · have hke : k = 8 := by omega
      subst hke
      go_wp2
      go_ret
      exact ⟨rfl, HO.out.1⟩

set_option maxHeartbeats 3200000 in
theorem signs_l_TT_B (a b c x y z : Int) (T : ByteArray) (Rs : Nat → Rg) (w : World)
    (HKn : Hid (∀ w1, Below w.heap.size w w1 → Says 6 #[] w1 true)) (HMv : Hid (∀ w1, Says 7 #[.agg #[.int .i64 a, .int .i64 b, .int .i64 c]] w1 true)) (HMx : Hid (∀ w1, Says 7 #[.agg #[.int .i64 x, .int .i64 y, .int .i64 z]] w1 true))
    (HPv : Hid (∀ w1, Calls Tryz.prog 8 #[.agg #[.int .i64 a, .int .i64 b, .int .i64 c]] w1 fun e w' => e = .returned (.string T) ∧ Below w1.heap.size w1 w')) (HC : Hid (∀ w1, Calls Tryz.prog 9 #[.agg #[.int .i64 x, .int .i64 y, .int .i64 z], .agg #[.int .i64 a, .int .i64 b, .int .i64 c]] w1 fun e w' => e = .returned (.int .i64 (-1)) ∧ Below w1.heap.size w1 w'))
    (hmaj : (x == a) = true) (hmin : (y == b) = true) (hA : ¬ 0 < a) (hB : 0 < b)
    (HT : Hid (T.size ≤ 100)) (HPs : Hid (∀ i (h : i < sgs.length) w1, Below w.heap.size w w1 → Calls Tryz.prog 10 #[.string (sgs[i] ++ T)] w1 fun e w' => ∃ v, e = .returned (.tuple #[v, .int .i64 0]) ∧ SpansR w' v (Rs i) ∧ Below w1.heap.size w1 w'))
    (HIn : Hid (∀ i (h : i < ([false, false, true, true, false, false, false, false] : List Bool).length) w1 v, SpansR w1 v (Rs i) → Says 11 #[v, .agg #[.int .i64 x, .int .i64 y, .int .i64 z]] w1 ([false, false, true, true, false, false, false, false] : List Bool)[i]))
    : Calls Tryz.prog 3 #[.agg #[.int .i64 a, .int .i64 b, .int .i64 c], .agg #[.int .i64 x, .int .i64 y, .int .i64 z]] w fun e w' => e = .returned (.bool true) ∧ Below w.heap.size w w' := by
  have HK0 : Hid (KeepP fun w1 => ((Below w.heap.size w w1) ∧ BxAt w1 ⟨w.heap.size, .int .i64 a, .int .i64 b, .int .i64 c⟩) ∧ BxAt w1 ⟨w.heap.size + 1, .int .i64 x, .int .i64 y, .int .i64 z⟩) := (KeepP.and ((KeepP.and (keepBelow w) (keepV3 _))) (keepV3 _))
  have HO0 : Hid (((Below w.heap.size w ((w.alloc (.cells #[.int .i64 a, .int .i64 b, .int .i64 c] 23)).alloc (.cells #[.int .i64 x, .int .i64 y, .int .i64 z] 23))) ∧ BxAt ((w.alloc (.cells #[.int .i64 a, .int .i64 b, .int .i64 c] 23)).alloc (.cells #[.int .i64 x, .int .i64 y, .int .i64 z] 23)) ⟨w.heap.size, .int .i64 a, .int .i64 b, .int .i64 c⟩) ∧ BxAt ((w.alloc (.cells #[.int .i64 a, .int .i64 b, .int .i64 c] 23)).alloc (.cells #[.int .i64 x, .int .i64 y, .int .i64 z] 23)) ⟨w.heap.size + 1, .int .i64 x, .int .i64 y, .int .i64 z⟩) := ⟨⟨boxB2 _ _ _, (((OKs.nil w).box rfl _ _ _).one).below (boxB _ _)⟩, ((OKs.nil (w.alloc (.cells #[.int .i64 a, .int .i64 b, .int .i64 c] 23))).box (by simp) _ _ _).one⟩
  obtain ⟨b0, b1, b2, b3⟩ := HO0.out.1.2
  obtain ⟨d0, d1, d2, d3⟩ := HO0.out.2
  go_enter Tryz.func3, Tryz.ntmps3
  go_wp2_with (first
    | (have _h := HO0; go_at_call 6; refine (HKn.out _ (HO0.out.1.1)).mono ?_; rintro e y1 ⟨rfl, ok⟩; have HO1 : Hid (((Below w.heap.size w y1) ∧ BxAt y1 ⟨w.heap.size, .int .i64 a, .int .i64 b, .int .i64 c⟩) ∧ BxAt y1 ⟨w.heap.size + 1, .int .i64 x, .int .i64 y, .int .i64 z⟩) := HK0.out _ _ HO0.out ok; clear ok HO0 b0 b1 b2 b3 d0 d1 d2 d3; obtain ⟨b0, b1, b2, b3⟩ := HO1.out.1.2; obtain ⟨d0, d1, d2, d3⟩ := HO1.out.2)
    | (have _h := HO1; go_at_call 7; refine (HMv.out _).mono ?_; rintro e y2 ⟨rfl, ok⟩; have HO2 : Hid (((Below w.heap.size w y2) ∧ BxAt y2 ⟨w.heap.size, .int .i64 a, .int .i64 b, .int .i64 c⟩) ∧ BxAt y2 ⟨w.heap.size + 1, .int .i64 x, .int .i64 y, .int .i64 z⟩) := HK0.out _ _ HO1.out ok; clear ok HO1 b0 b1 b2 b3 d0 d1 d2 d3; obtain ⟨b0, b1, b2, b3⟩ := HO2.out.1.2; obtain ⟨d0, d1, d2, d3⟩ := HO2.out.2)
    | (have _h := HO2; go_at_call 7; refine (HMx.out _).mono ?_; rintro e y3 ⟨rfl, ok⟩; have HO3 : Hid (((Below w.heap.size w y3) ∧ BxAt y3 ⟨w.heap.size, .int .i64 a, .int .i64 b, .int .i64 c⟩) ∧ BxAt y3 ⟨w.heap.size + 1, .int .i64 x, .int .i64 y, .int .i64 z⟩) := HK0.out _ _ HO2.out ok; clear ok HO2 b0 b1 b2 b3 d0 d1 d2 d3; obtain ⟨b0, b1, b2, b3⟩ := HO3.out.1.2; obtain ⟨d0, d1, d2, d3⟩ := HO3.out.2)
    | (have _h := HO3; go_at_call 8; refine (HPv.out _).mono ?_; rintro e y4 ⟨rfl, ok⟩; have HO4 : Hid (((Below w.heap.size w y4) ∧ BxAt y4 ⟨w.heap.size, .int .i64 a, .int .i64 b, .int .i64 c⟩) ∧ BxAt y4 ⟨w.heap.size + 1, .int .i64 x, .int .i64 y, .int .i64 z⟩) := HK0.out _ _ HO3.out ok; clear ok HO3 b0 b1 b2 b3 d0 d1 d2 d3; obtain ⟨b0, b1, b2, b3⟩ := HO4.out.1.2; obtain ⟨d0, d1, d2, d3⟩ := HO4.out.2)
    | (have _h := HO4; go_at_call 9; refine (HC.out _).mono ?_; rintro e y5 ⟨rfl, ok⟩; have HO5 : Hid (((Below w.heap.size w y5) ∧ BxAt y5 ⟨w.heap.size, .int .i64 a, .int .i64 b, .int .i64 c⟩) ∧ BxAt y5 ⟨w.heap.size + 1, .int .i64 x, .int .i64 y, .int .i64 z⟩) := HK0.out _ _ HO4.out ok; clear ok HO4 b0 b1 b2 b3 d0 d1 d2 d3; obtain ⟨b0, b1, b2, b3⟩ := HO5.out.1.2; obtain ⟨d0, d1, d2, d3⟩ := HO5.out.2))
  have HKl : Hid (KeepP fun w1 => Below w.heap.size w w1 ∧ BxAt w1 ⟨w.heap.size + 1, .int .i64 x, .int .i64 y, .int .i64 z⟩ ∧ Rows8 w1 y5.heap.size [false, false, true, true, false, false, false, false]) := (keepBelow w).and ((keepV3 _).and (keepRows8 _ _))
  have HOl : Hid (Below w.heap.size w ((y5.alloc (.cells #[.string ⟨#[]⟩, .string ⟨#[61]⟩, .string ⟨#[60]⟩, .string ⟨#[60, 61]⟩, .string ⟨#[62]⟩, .string ⟨#[62, 61]⟩, .string ⟨#[126]⟩, .string ⟨#[94]⟩] 9)).alloc (.cells #[.bool false, .bool false, .bool true, .bool true, .bool false, .bool false, .bool false, .bool false] 4)) ∧ BxAt ((y5.alloc (.cells #[.string ⟨#[]⟩, .string ⟨#[61]⟩, .string ⟨#[60]⟩, .string ⟨#[60, 61]⟩, .string ⟨#[62]⟩, .string ⟨#[62, 61]⟩, .string ⟨#[126]⟩, .string ⟨#[94]⟩] 9)).alloc (.cells #[.bool false, .bool false, .bool true, .bool true, .bool false, .bool false, .bool false, .bool false] 4)) ⟨w.heap.size + 1, .int .i64 x, .int .i64 y, .int .i64 z⟩ ∧ Rows8 ((y5.alloc (.cells #[.string ⟨#[]⟩, .string ⟨#[61]⟩, .string ⟨#[60]⟩, .string ⟨#[60, 61]⟩, .string ⟨#[62]⟩, .string ⟨#[62, 61]⟩, .string ⟨#[126]⟩, .string ⟨#[94]⟩] 9)).alloc (.cells #[.bool false, .bool false, .bool true, .bool true, .bool false, .bool false, .bool false, .bool false] 4)) y5.heap.size [false, false, true, true, false, false, false, false]) := ⟨below_then HO5.out.1.1 (boxB2 _ _ _), (HO5.out.2).below (boxB2 _ _ _), rows8_new _ _ _ _ _ _ _ _ _⟩
  clear b0 b1 b2 b3 d0 d1 d2 d3
  go_loopw [12] (fun i wr => ∃ k : Nat, k ≤ 8 ∧ i = .int .i64 k ∧ (Below w.heap.size w wr ∧ BxAt wr ⟨w.heap.size + 1, .int .i64 x, .int .i64 y, .int .i64 z⟩ ∧ Rows8 wr y5.heap.size [false, false, true, true, false, false, false, false])) (fun i _ => 8 - (intOf i).toNat)
  case atStart => exact ⟨0, Nat.zero_le _, rfl, HOl.out⟩
  case round =>
    obtain ⟨k, hk, rfl, hk2⟩ := hrel
    have HO := hide3 hk2
    clear hk2 HOl
    by_cases hlt : k < 8
    · have c1 := HO.out.2.2.1 k hlt
      have HPk := hide3 (HPs.out k hlt)
      have HIk := hide3 (HIn.out k hlt)
      have HSZ : Hid ((sgs[k]'hlt).size ≤ 2) := by
        have : ∀ s ∈ sgs, s.size ≤ 2 := by decide
        exact this _ (List.getElem_mem _)
      have HOr : Hid ((Below w.heap.size w wr ∧ BxAt wr ⟨w.heap.size + 1, .int .i64 x, .int .i64 y, .int .i64 z⟩ ∧ Rows8 wr y5.heap.size [false, false, true, true, false, false, false, false]) ∧ wr.cell? ⟨y5.heap.size + 1, k, none⟩ = some (.bool (([false, false, true, true, false, false, false, false] : List Bool)[k]'hlt))) := ⟨HO.out, HO.out.2.2.2.1 k hlt⟩
      have hk8 : (k : Int) < 8 := by omega
      generalize sgs[k]'hlt = sg at *
      generalize ([false, false, true, true, false, false, false, false] : List Bool)[k]'hlt = wk at *
      generalize Rs k = Rk at *
      have sa := fun Wx : World => run_string_add_sum (P := Tryz.prog) (w := Wx) sg T (by have h1 := HSZ.out; have h2 := HT.out; omega)
      have HKr : Hid (KeepP fun w1 => ((Below w.heap.size w w1 ∧ BxAt w1 ⟨w.heap.size + 1, .int .i64 x, .int .i64 y, .int .i64 z⟩ ∧ Rows8 w1 y5.heap.size [false, false, true, true, false, false, false, false]) ∧ (w1.cell? ⟨y5.heap.size + 1, k, none⟩ = some (.bool wk) ∧ y5.heap.size + 1 < w1.heap.size)) ∧ True) := (HKl.out.and (fun _ _ h hb => ⟨(hb.cell (p := ⟨y5.heap.size + 1, k, none⟩) h.2).trans h.1, Nat.lt_of_lt_of_le h.2 hb.size⟩)).and (fun _ _ _ _ => trivial)
      go_wp2_with (go_at_call 10; refine (HPk.out _ HO.out.1).mono ?_; rintro e yp ⟨vp, rfl, ok⟩; have HO' : Hid ((((Below w.heap.size w yp ∧ BxAt yp ⟨w.heap.size + 1, .int .i64 x, .int .i64 y, .int .i64 z⟩ ∧ Rows8 yp y5.heap.size [false, false, true, true, false, false, false, false]) ∧ (yp.cell? ⟨y5.heap.size + 1, k, none⟩ = some (.bool wk) ∧ y5.heap.size + 1 < yp.heap.size)) ∧ True) ∧ SpansR yp vp Rk) := ⟨HKr.out _ _ ⟨⟨HOr.out.1, HOr.out.2, HOr.out.1.2.2.2.2⟩, trivial⟩ ok.2, ok.1⟩; clear ok HO HOr)
      have HK : Hid (KeepP fun w1 => (((Below w.heap.size w w1 ∧ BxAt w1 ⟨w.heap.size + 1, .int .i64 x, .int .i64 y, .int .i64 z⟩ ∧ Rows8 w1 y5.heap.size [false, false, true, true, false, false, false, false]) ∧ (w1.cell? ⟨y5.heap.size + 1, k, none⟩ = some (.bool wk) ∧ y5.heap.size + 1 < w1.heap.size)) ∧ True) ∧ SpansR w1 vp Rk) := HKr.out.and (keepSpR vp Rk)
      have HO := HO'
      clear HO'
      have HII : Hid (∀ w1, ((((Below w.heap.size w w1 ∧ BxAt w1 ⟨w.heap.size + 1, .int .i64 x, .int .i64 y, .int .i64 z⟩ ∧ Rows8 w1 y5.heap.size [false, false, true, true, false, false, false, false]) ∧ (w1.cell? ⟨y5.heap.size + 1, k, none⟩ = some (.bool wk) ∧ y5.heap.size + 1 < w1.heap.size)) ∧ True) ∧ SpansR w1 vp Rk) → Calls Tryz.prog 11 #[vp, .agg #[.int .i64 x, .int .i64 y, .int .i64 z]] w1 fun e w' => e = .returned (.bool wk) ∧ Below w1.heap.size w1 w') := fun w1 h => HIk.out w1 vp h.2
      refine wp_region_keep HK.out (by kernel_rfl) (by kernel_rfl) (by first | exact HO.out | exact HK.out.drew HO.out) ?_
      intro C hin hout
      have HIN := hide3 hin
      have HOUT := hide3 hout
      clear hin hout HO
      repeat
        (with_reducible refine wpQuiet_step (fun K hK => ?_)
         go_simp
         first
           | (refine hK _ ?_; clear hK K)
           | (apply Exists.intro; refine ⟨fun w1 hC => ?_, hK _ ?_⟩; (focus ((first | (go_at_call 11; with_reducible exact callC' HIN.out HOUT.out HK.out HII.out w1 hC) | (exact rfl) | (obtain ⟨⟨⟨⟨hb0, ⟨d0, d1, d2, d3⟩, hr8⟩, cw, cl⟩, _⟩, hsp⟩ := HOUT.out w1 hC; clear hC; go_simp; first | done | exact rfl)); done)); clear hK K))
      refine wpQuiet_nil ?_
      intro wn hC
      have HO := hide3 (HOUT.out _ hC)
      clear hC HIN HOUT C
      obtain ⟨⟨⟨⟨hb0, ⟨d0, d1, d2, d3⟩, hr8⟩, cw, cl⟩, _⟩, hsp⟩ := HO.out
      have HB := hide3 hb0
      have HX := hide3 d3
      have HR8 := hide3 hr8
      have HDD : Hid (BxAt wn ⟨w.heap.size + 1, .int .i64 x, .int .i64 y, .int .i64 z⟩) := ⟨d0, d1, d2, d3⟩
      clear hb0 hr8 hsp
      go_wp2
      exact ⟨⟨k + 1, by omega, by go_num, HB.out, HDD.out, HR8.out⟩, by simp [intOf]; omega⟩
    · have hke : k = 8 := by omega
      subst hke
      go_wp2
      go_ret
      exact ⟨rfl, HO.out.1⟩

set_option maxHeartbeats 3200000 in
theorem signs_l_TT_N (a b c x y z : Int) (T : ByteArray) (Rs : Nat → Rg) (w : World)
    (HKn : Hid (∀ w1, Below w.heap.size w w1 → Says 6 #[] w1 true)) (HMv : Hid (∀ w1, Says 7 #[.agg #[.int .i64 a, .int .i64 b, .int .i64 c]] w1 true)) (HMx : Hid (∀ w1, Says 7 #[.agg #[.int .i64 x, .int .i64 y, .int .i64 z]] w1 true))
    (HPv : Hid (∀ w1, Calls Tryz.prog 8 #[.agg #[.int .i64 a, .int .i64 b, .int .i64 c]] w1 fun e w' => e = .returned (.string T) ∧ Below w1.heap.size w1 w')) (HC : Hid (∀ w1, Calls Tryz.prog 9 #[.agg #[.int .i64 x, .int .i64 y, .int .i64 z], .agg #[.int .i64 a, .int .i64 b, .int .i64 c]] w1 fun e w' => e = .returned (.int .i64 (-1)) ∧ Below w1.heap.size w1 w'))
    (hmaj : (x == a) = true) (hmin : (y == b) = true) (hA : ¬ 0 < a) (hB : ¬ 0 < b)
    (HT : Hid (T.size ≤ 100)) (HPs : Hid (∀ i (h : i < sgs.length) w1, Below w.heap.size w w1 → Calls Tryz.prog 10 #[.string (sgs[i] ++ T)] w1 fun e w' => ∃ v, e = .returned (.tuple #[v, .int .i64 0]) ∧ SpansR w' v (Rs i) ∧ Below w1.heap.size w1 w'))
    (HIn : Hid (∀ i (h : i < ([false, false, true, true, false, false, false, false] : List Bool).length) w1 v, SpansR w1 v (Rs i) → Says 11 #[v, .agg #[.int .i64 x, .int .i64 y, .int .i64 z]] w1 ([false, false, true, true, false, false, false, false] : List Bool)[i]))
    : Calls Tryz.prog 3 #[.agg #[.int .i64 a, .int .i64 b, .int .i64 c], .agg #[.int .i64 x, .int .i64 y, .int .i64 z]] w fun e w' => e = .returned (.bool true) ∧ Below w.heap.size w w' := by
  have HK0 : Hid (KeepP fun w1 => ((Below w.heap.size w w1) ∧ BxAt w1 ⟨w.heap.size, .int .i64 a, .int .i64 b, .int .i64 c⟩) ∧ BxAt w1 ⟨w.heap.size + 1, .int .i64 x, .int .i64 y, .int .i64 z⟩) := (KeepP.and ((KeepP.and (keepBelow w) (keepV3 _))) (keepV3 _))
  have HO0 : Hid (((Below w.heap.size w ((w.alloc (.cells #[.int .i64 a, .int .i64 b, .int .i64 c] 23)).alloc (.cells #[.int .i64 x, .int .i64 y, .int .i64 z] 23))) ∧ BxAt ((w.alloc (.cells #[.int .i64 a, .int .i64 b, .int .i64 c] 23)).alloc (.cells #[.int .i64 x, .int .i64 y, .int .i64 z] 23)) ⟨w.heap.size, .int .i64 a, .int .i64 b, .int .i64 c⟩) ∧ BxAt ((w.alloc (.cells #[.int .i64 a, .int .i64 b, .int .i64 c] 23)).alloc (.cells #[.int .i64 x, .int .i64 y, .int .i64 z] 23)) ⟨w.heap.size + 1, .int .i64 x, .int .i64 y, .int .i64 z⟩) := ⟨⟨boxB2 _ _ _, (((OKs.nil w).box rfl _ _ _).one).below (boxB _ _)⟩, ((OKs.nil (w.alloc (.cells #[.int .i64 a, .int .i64 b, .int .i64 c] 23))).box (by simp) _ _ _).one⟩
  obtain ⟨b0, b1, b2, b3⟩ := HO0.out.1.2
  obtain ⟨d0, d1, d2, d3⟩ := HO0.out.2
  go_enter Tryz.func3, Tryz.ntmps3
  go_wp2_with (first
    | (have _h := HO0; go_at_call 6; refine (HKn.out _ (HO0.out.1.1)).mono ?_; rintro e y1 ⟨rfl, ok⟩; have HO1 : Hid (((Below w.heap.size w y1) ∧ BxAt y1 ⟨w.heap.size, .int .i64 a, .int .i64 b, .int .i64 c⟩) ∧ BxAt y1 ⟨w.heap.size + 1, .int .i64 x, .int .i64 y, .int .i64 z⟩) := HK0.out _ _ HO0.out ok; clear ok HO0 b0 b1 b2 b3 d0 d1 d2 d3; obtain ⟨b0, b1, b2, b3⟩ := HO1.out.1.2; obtain ⟨d0, d1, d2, d3⟩ := HO1.out.2)
    | (have _h := HO1; go_at_call 7; refine (HMv.out _).mono ?_; rintro e y2 ⟨rfl, ok⟩; have HO2 : Hid (((Below w.heap.size w y2) ∧ BxAt y2 ⟨w.heap.size, .int .i64 a, .int .i64 b, .int .i64 c⟩) ∧ BxAt y2 ⟨w.heap.size + 1, .int .i64 x, .int .i64 y, .int .i64 z⟩) := HK0.out _ _ HO1.out ok; clear ok HO1 b0 b1 b2 b3 d0 d1 d2 d3; obtain ⟨b0, b1, b2, b3⟩ := HO2.out.1.2; obtain ⟨d0, d1, d2, d3⟩ := HO2.out.2)
    | (have _h := HO2; go_at_call 7; refine (HMx.out _).mono ?_; rintro e y3 ⟨rfl, ok⟩; have HO3 : Hid (((Below w.heap.size w y3) ∧ BxAt y3 ⟨w.heap.size, .int .i64 a, .int .i64 b, .int .i64 c⟩) ∧ BxAt y3 ⟨w.heap.size + 1, .int .i64 x, .int .i64 y, .int .i64 z⟩) := HK0.out _ _ HO2.out ok; clear ok HO2 b0 b1 b2 b3 d0 d1 d2 d3; obtain ⟨b0, b1, b2, b3⟩ := HO3.out.1.2; obtain ⟨d0, d1, d2, d3⟩ := HO3.out.2)
    | (have _h := HO3; go_at_call 8; refine (HPv.out _).mono ?_; rintro e y4 ⟨rfl, ok⟩; have HO4 : Hid (((Below w.heap.size w y4) ∧ BxAt y4 ⟨w.heap.size, .int .i64 a, .int .i64 b, .int .i64 c⟩) ∧ BxAt y4 ⟨w.heap.size + 1, .int .i64 x, .int .i64 y, .int .i64 z⟩) := HK0.out _ _ HO3.out ok; clear ok HO3 b0 b1 b2 b3 d0 d1 d2 d3; obtain ⟨b0, b1, b2, b3⟩ := HO4.out.1.2; obtain ⟨d0, d1, d2, d3⟩ := HO4.out.2)
    | (have _h := HO4; go_at_call 9; refine (HC.out _).mono ?_; rintro e y5 ⟨rfl, ok⟩; have HO5 : Hid (((Below w.heap.size w y5) ∧ BxAt y5 ⟨w.heap.size, .int .i64 a, .int .i64 b, .int .i64 c⟩) ∧ BxAt y5 ⟨w.heap.size + 1, .int .i64 x, .int .i64 y, .int .i64 z⟩) := HK0.out _ _ HO4.out ok; clear ok HO4 b0 b1 b2 b3 d0 d1 d2 d3; obtain ⟨b0, b1, b2, b3⟩ := HO5.out.1.2; obtain ⟨d0, d1, d2, d3⟩ := HO5.out.2))
  have HKl : Hid (KeepP fun w1 => Below w.heap.size w w1 ∧ BxAt w1 ⟨w.heap.size + 1, .int .i64 x, .int .i64 y, .int .i64 z⟩ ∧ Rows8 w1 y5.heap.size [false, false, true, true, false, false, false, false]) := (keepBelow w).and ((keepV3 _).and (keepRows8 _ _))
  have HOl : Hid (Below w.heap.size w ((y5.alloc (.cells #[.string ⟨#[]⟩, .string ⟨#[61]⟩, .string ⟨#[60]⟩, .string ⟨#[60, 61]⟩, .string ⟨#[62]⟩, .string ⟨#[62, 61]⟩, .string ⟨#[126]⟩, .string ⟨#[94]⟩] 9)).alloc (.cells #[.bool false, .bool false, .bool true, .bool true, .bool false, .bool false, .bool false, .bool false] 4)) ∧ BxAt ((y5.alloc (.cells #[.string ⟨#[]⟩, .string ⟨#[61]⟩, .string ⟨#[60]⟩, .string ⟨#[60, 61]⟩, .string ⟨#[62]⟩, .string ⟨#[62, 61]⟩, .string ⟨#[126]⟩, .string ⟨#[94]⟩] 9)).alloc (.cells #[.bool false, .bool false, .bool true, .bool true, .bool false, .bool false, .bool false, .bool false] 4)) ⟨w.heap.size + 1, .int .i64 x, .int .i64 y, .int .i64 z⟩ ∧ Rows8 ((y5.alloc (.cells #[.string ⟨#[]⟩, .string ⟨#[61]⟩, .string ⟨#[60]⟩, .string ⟨#[60, 61]⟩, .string ⟨#[62]⟩, .string ⟨#[62, 61]⟩, .string ⟨#[126]⟩, .string ⟨#[94]⟩] 9)).alloc (.cells #[.bool false, .bool false, .bool true, .bool true, .bool false, .bool false, .bool false, .bool false] 4)) y5.heap.size [false, false, true, true, false, false, false, false]) := ⟨below_then HO5.out.1.1 (boxB2 _ _ _), (HO5.out.2).below (boxB2 _ _ _), rows8_new _ _ _ _ _ _ _ _ _⟩
  clear b0 b1 b2 b3 d0 d1 d2 d3
  go_loopw [12] (fun i wr => ∃ k : Nat, k ≤ 8 ∧ i = .int .i64 k ∧ (Below w.heap.size w wr ∧ BxAt wr ⟨w.heap.size + 1, .int .i64 x, .int .i64 y, .int .i64 z⟩ ∧ Rows8 wr y5.heap.size [false, false, true, true, false, false, false, false])) (fun i _ => 8 - (intOf i).toNat)
  case atStart => exact ⟨0, Nat.zero_le _, rfl, HOl.out⟩
  case round =>
    obtain ⟨k, hk, rfl, hk2⟩ := hrel
    have HO := hide3 hk2
    clear hk2 HOl
    by_cases hlt : k < 8
    · have c1 := HO.out.2.2.1 k hlt
      have HPk := hide3 (HPs.out k hlt)
      have HIk := hide3 (HIn.out k hlt)
      have HSZ : Hid ((sgs[k]'hlt).size ≤ 2) := by
        have : ∀ s ∈ sgs, s.size ≤ 2 := by decide
        exact this _ (List.getElem_mem _)
      have HOr : Hid ((Below w.heap.size w wr ∧ BxAt wr ⟨w.heap.size + 1, .int .i64 x, .int .i64 y, .int .i64 z⟩ ∧ Rows8 wr y5.heap.size [false, false, true, true, false, false, false, false]) ∧ wr.cell? ⟨y5.heap.size + 1, k, none⟩ = some (.bool (([false, false, true, true, false, false, false, false] : List Bool)[k]'hlt))) := ⟨HO.out, HO.out.2.2.2.1 k hlt⟩
      have hk8 : (k : Int) < 8 := by omega
      generalize sgs[k]'hlt = sg at *
      generalize ([false, false, true, true, false, false, false, false] : List Bool)[k]'hlt = wk at *
      generalize Rs k = Rk at *
      have sa := fun Wx : World => run_string_add_sum (P := Tryz.prog) (w := Wx) sg T (by have h1 := HSZ.out; have h2 := HT.out; omega)
      have HKr : Hid (KeepP fun w1 => ((Below w.heap.size w w1 ∧ BxAt w1 ⟨w.heap.size + 1, .int .i64 x, .int .i64 y, .int .i64 z⟩ ∧ Rows8 w1 y5.heap.size [false, false, true, true, false, false, false, false]) ∧ (w1.cell? ⟨y5.heap.size + 1, k, none⟩ = some (.bool wk) ∧ y5.heap.size + 1 < w1.heap.size)) ∧ True) := (HKl.out.and (fun _ _ h hb => ⟨(hb.cell (p := ⟨y5.heap.size + 1, k, none⟩) h.2).trans h.1, Nat.lt_of_lt_of_le h.2 hb.size⟩)).and (fun _ _ _ _ => trivial)
      go_wp2_with (go_at_call 10; refine (HPk.out _ HO.out.1).mono ?_; rintro e yp ⟨vp, rfl, ok⟩; have HO' : Hid ((((Below w.heap.size w yp ∧ BxAt yp ⟨w.heap.size + 1, .int .i64 x, .int .i64 y, .int .i64 z⟩ ∧ Rows8 yp y5.heap.size [false, false, true, true, false, false, false, false]) ∧ (yp.cell? ⟨y5.heap.size + 1, k, none⟩ = some (.bool wk) ∧ y5.heap.size + 1 < yp.heap.size)) ∧ True) ∧ SpansR yp vp Rk) := ⟨HKr.out _ _ ⟨⟨HOr.out.1, HOr.out.2, HOr.out.1.2.2.2.2⟩, trivial⟩ ok.2, ok.1⟩; clear ok HO HOr)
      have HK : Hid (KeepP fun w1 => (((Below w.heap.size w w1 ∧ BxAt w1 ⟨w.heap.size + 1, .int .i64 x, .int .i64 y, .int .i64 z⟩ ∧ Rows8 w1 y5.heap.size [false, false, true, true, false, false, false, false]) ∧ (w1.cell? ⟨y5.heap.size + 1, k, none⟩ = some (.bool wk) ∧ y5.heap.size + 1 < w1.heap.size)) ∧ True) ∧ SpansR w1 vp Rk) := HKr.out.and (keepSpR vp Rk)
      have HO := HO'
      clear HO'
      have HII : Hid (∀ w1, ((((Below w.heap.size w w1 ∧ BxAt w1 ⟨w.heap.size + 1, .int .i64 x, .int .i64 y, .int .i64 z⟩ ∧ Rows8 w1 y5.heap.size [false, false, true, true, false, false, false, false]) ∧ (w1.cell? ⟨y5.heap.size + 1, k, none⟩ = some (.bool wk) ∧ y5.heap.size + 1 < w1.heap.size)) ∧ True) ∧ SpansR w1 vp Rk) → Calls Tryz.prog 11 #[vp, .agg #[.int .i64 x, .int .i64 y, .int .i64 z]] w1 fun e w' => e = .returned (.bool wk) ∧ Below w1.heap.size w1 w') := fun w1 h => HIk.out w1 vp h.2
      refine wp_region_keep HK.out (by kernel_rfl) (by kernel_rfl) (by first | exact HO.out | exact HK.out.drew HO.out) ?_
      intro C hin hout
      have HIN := hide3 hin
      have HOUT := hide3 hout
      clear hin hout HO
      repeat
        (with_reducible refine wpQuiet_step (fun K hK => ?_)
         go_simp
         first
           | (refine hK _ ?_; clear hK K)
           | (apply Exists.intro; refine ⟨fun w1 hC => ?_, hK _ ?_⟩; (focus ((first | (go_at_call 11; with_reducible exact callC' HIN.out HOUT.out HK.out HII.out w1 hC) | (exact rfl) | (obtain ⟨⟨⟨⟨hb0, ⟨d0, d1, d2, d3⟩, hr8⟩, cw, cl⟩, _⟩, hsp⟩ := HOUT.out w1 hC; clear hC; go_simp; first | done | exact rfl)); done)); clear hK K))
      refine wpQuiet_nil ?_
      intro wn hC
      have HO := hide3 (HOUT.out _ hC)
      clear hC HIN HOUT C
      obtain ⟨⟨⟨⟨hb0, ⟨d0, d1, d2, d3⟩, hr8⟩, cw, cl⟩, _⟩, hsp⟩ := HO.out
      have HB := hide3 hb0
      have HX := hide3 d3
      have HR8 := hide3 hr8
      have HDD : Hid (BxAt wn ⟨w.heap.size + 1, .int .i64 x, .int .i64 y, .int .i64 z⟩) := ⟨d0, d1, d2, d3⟩
      clear hb0 hr8 hsp
      go_wp2
      exact ⟨⟨k + 1, by omega, by go_num, HB.out, HDD.out, HR8.out⟩, by simp [intOf]; omega⟩
    · have hke : k = 8 := by omega
      subst hke
      go_wp2
      go_ret
      exact ⟨rfl, HO.out.1⟩

set_option maxHeartbeats 3200000 in
theorem signs_l_TF_A (a b c x y z : Int) (T : ByteArray) (Rs : Nat → Rg) (w : World)
    (HKn : Hid (∀ w1, Below w.heap.size w w1 → Says 6 #[] w1 true)) (HMv : Hid (∀ w1, Says 7 #[.agg #[.int .i64 a, .int .i64 b, .int .i64 c]] w1 true)) (HMx : Hid (∀ w1, Says 7 #[.agg #[.int .i64 x, .int .i64 y, .int .i64 z]] w1 true))
    (HPv : Hid (∀ w1, Calls Tryz.prog 8 #[.agg #[.int .i64 a, .int .i64 b, .int .i64 c]] w1 fun e w' => e = .returned (.string T) ∧ Below w1.heap.size w1 w')) (HC : Hid (∀ w1, Calls Tryz.prog 9 #[.agg #[.int .i64 x, .int .i64 y, .int .i64 z], .agg #[.int .i64 a, .int .i64 b, .int .i64 c]] w1 fun e w' => e = .returned (.int .i64 (-1)) ∧ Below w1.heap.size w1 w'))
    (hmaj : (x == a) = true) (hmin : (y == b) = false) (hA : 0 < a)
    (HT : Hid (T.size ≤ 100)) (HPs : Hid (∀ i (h : i < sgs.length) w1, Below w.heap.size w w1 → Calls Tryz.prog 10 #[.string (sgs[i] ++ T)] w1 fun e w' => ∃ v, e = .returned (.tuple #[v, .int .i64 0]) ∧ SpansR w' v (Rs i) ∧ Below w1.heap.size w1 w'))
    (HIn : Hid (∀ i (h : i < ([false, false, true, true, false, false, false, false] : List Bool).length) w1 v, SpansR w1 v (Rs i) → Says 11 #[v, .agg #[.int .i64 x, .int .i64 y, .int .i64 z]] w1 ([false, false, true, true, false, false, false, false] : List Bool)[i]))
    : Calls Tryz.prog 3 #[.agg #[.int .i64 a, .int .i64 b, .int .i64 c], .agg #[.int .i64 x, .int .i64 y, .int .i64 z]] w fun e w' => e = .returned (.bool true) ∧ Below w.heap.size w w' := by
  have HK0 : Hid (KeepP fun w1 => ((Below w.heap.size w w1) ∧ BxAt w1 ⟨w.heap.size, .int .i64 a, .int .i64 b, .int .i64 c⟩) ∧ BxAt w1 ⟨w.heap.size + 1, .int .i64 x, .int .i64 y, .int .i64 z⟩) := (KeepP.and ((KeepP.and (keepBelow w) (keepV3 _))) (keepV3 _))
  have HO0 : Hid (((Below w.heap.size w ((w.alloc (.cells #[.int .i64 a, .int .i64 b, .int .i64 c] 23)).alloc (.cells #[.int .i64 x, .int .i64 y, .int .i64 z] 23))) ∧ BxAt ((w.alloc (.cells #[.int .i64 a, .int .i64 b, .int .i64 c] 23)).alloc (.cells #[.int .i64 x, .int .i64 y, .int .i64 z] 23)) ⟨w.heap.size, .int .i64 a, .int .i64 b, .int .i64 c⟩) ∧ BxAt ((w.alloc (.cells #[.int .i64 a, .int .i64 b, .int .i64 c] 23)).alloc (.cells #[.int .i64 x, .int .i64 y, .int .i64 z] 23)) ⟨w.heap.size + 1, .int .i64 x, .int .i64 y, .int .i64 z⟩) := ⟨⟨boxB2 _ _ _, (((OKs.nil w).box rfl _ _ _).one).below (boxB _ _)⟩, ((OKs.nil (w.alloc (.cells #[.int .i64 a, .int .i64 b, .int .i64 c] 23))).box (by simp) _ _ _).one⟩
  obtain ⟨b0, b1, b2, b3⟩ := HO0.out.1.2
  obtain ⟨d0, d1, d2, d3⟩ := HO0.out.2
  go_enter Tryz.func3, Tryz.ntmps3
  go_wp2_with (first
    | (have _h := HO0; go_at_call 6; refine (HKn.out _ (HO0.out.1.1)).mono ?_; rintro e y1 ⟨rfl, ok⟩; have HO1 : Hid (((Below w.heap.size w y1) ∧ BxAt y1 ⟨w.heap.size, .int .i64 a, .int .i64 b, .int .i64 c⟩) ∧ BxAt y1 ⟨w.heap.size + 1, .int .i64 x, .int .i64 y, .int .i64 z⟩) := HK0.out _ _ HO0.out ok; clear ok HO0 b0 b1 b2 b3 d0 d1 d2 d3; obtain ⟨b0, b1, b2, b3⟩ := HO1.out.1.2; obtain ⟨d0, d1, d2, d3⟩ := HO1.out.2)
    | (have _h := HO1; go_at_call 7; refine (HMv.out _).mono ?_; rintro e y2 ⟨rfl, ok⟩; have HO2 : Hid (((Below w.heap.size w y2) ∧ BxAt y2 ⟨w.heap.size, .int .i64 a, .int .i64 b, .int .i64 c⟩) ∧ BxAt y2 ⟨w.heap.size + 1, .int .i64 x, .int .i64 y, .int .i64 z⟩) := HK0.out _ _ HO1.out ok; clear ok HO1 b0 b1 b2 b3 d0 d1 d2 d3; obtain ⟨b0, b1, b2, b3⟩ := HO2.out.1.2; obtain ⟨d0, d1, d2, d3⟩ := HO2.out.2)
    | (have _h := HO2; go_at_call 7; refine (HMx.out _).mono ?_; rintro e y3 ⟨rfl, ok⟩; have HO3 : Hid (((Below w.heap.size w y3) ∧ BxAt y3 ⟨w.heap.size, .int .i64 a, .int .i64 b, .int .i64 c⟩) ∧ BxAt y3 ⟨w.heap.size + 1, .int .i64 x, .int .i64 y, .int .i64 z⟩) := HK0.out _ _ HO2.out ok; clear ok HO2 b0 b1 b2 b3 d0 d1 d2 d3; obtain ⟨b0, b1, b2, b3⟩ := HO3.out.1.2; obtain ⟨d0, d1, d2, d3⟩ := HO3.out.2)
    | (have _h := HO3; go_at_call 8; refine (HPv.out _).mono ?_; rintro e y4 ⟨rfl, ok⟩; have HO4 : Hid (((Below w.heap.size w y4) ∧ BxAt y4 ⟨w.heap.size, .int .i64 a, .int .i64 b, .int .i64 c⟩) ∧ BxAt y4 ⟨w.heap.size + 1, .int .i64 x, .int .i64 y, .int .i64 z⟩) := HK0.out _ _ HO3.out ok; clear ok HO3 b0 b1 b2 b3 d0 d1 d2 d3; obtain ⟨b0, b1, b2, b3⟩ := HO4.out.1.2; obtain ⟨d0, d1, d2, d3⟩ := HO4.out.2)
    | (have _h := HO4; go_at_call 9; refine (HC.out _).mono ?_; rintro e y5 ⟨rfl, ok⟩; have HO5 : Hid (((Below w.heap.size w y5) ∧ BxAt y5 ⟨w.heap.size, .int .i64 a, .int .i64 b, .int .i64 c⟩) ∧ BxAt y5 ⟨w.heap.size + 1, .int .i64 x, .int .i64 y, .int .i64 z⟩) := HK0.out _ _ HO4.out ok; clear ok HO4 b0 b1 b2 b3 d0 d1 d2 d3; obtain ⟨b0, b1, b2, b3⟩ := HO5.out.1.2; obtain ⟨d0, d1, d2, d3⟩ := HO5.out.2))
  have HKl : Hid (KeepP fun w1 => Below w.heap.size w w1 ∧ BxAt w1 ⟨w.heap.size + 1, .int .i64 x, .int .i64 y, .int .i64 z⟩ ∧ Rows8 w1 y5.heap.size [false, false, true, true, false, false, false, false]) := (keepBelow w).and ((keepV3 _).and (keepRows8 _ _))
  have HOl : Hid (Below w.heap.size w ((y5.alloc (.cells #[.string ⟨#[]⟩, .string ⟨#[61]⟩, .string ⟨#[60]⟩, .string ⟨#[60, 61]⟩, .string ⟨#[62]⟩, .string ⟨#[62, 61]⟩, .string ⟨#[126]⟩, .string ⟨#[94]⟩] 9)).alloc (.cells #[.bool false, .bool false, .bool true, .bool true, .bool false, .bool false, .bool false, .bool false] 4)) ∧ BxAt ((y5.alloc (.cells #[.string ⟨#[]⟩, .string ⟨#[61]⟩, .string ⟨#[60]⟩, .string ⟨#[60, 61]⟩, .string ⟨#[62]⟩, .string ⟨#[62, 61]⟩, .string ⟨#[126]⟩, .string ⟨#[94]⟩] 9)).alloc (.cells #[.bool false, .bool false, .bool true, .bool true, .bool false, .bool false, .bool false, .bool false] 4)) ⟨w.heap.size + 1, .int .i64 x, .int .i64 y, .int .i64 z⟩ ∧ Rows8 ((y5.alloc (.cells #[.string ⟨#[]⟩, .string ⟨#[61]⟩, .string ⟨#[60]⟩, .string ⟨#[60, 61]⟩, .string ⟨#[62]⟩, .string ⟨#[62, 61]⟩, .string ⟨#[126]⟩, .string ⟨#[94]⟩] 9)).alloc (.cells #[.bool false, .bool false, .bool true, .bool true, .bool false, .bool false, .bool false, .bool false] 4)) y5.heap.size [false, false, true, true, false, false, false, false]) := ⟨below_then HO5.out.1.1 (boxB2 _ _ _), (HO5.out.2).below (boxB2 _ _ _), rows8_new _ _ _ _ _ _ _ _ _⟩
  clear b0 b1 b2 b3 d0 d1 d2 d3
  go_loopw [12] (fun i wr => ∃ k : Nat, k ≤ 8 ∧ i = .int .i64 k ∧ (Below w.heap.size w wr ∧ BxAt wr ⟨w.heap.size + 1, .int .i64 x, .int .i64 y, .int .i64 z⟩ ∧ Rows8 wr y5.heap.size [false, false, true, true, false, false, false, false])) (fun i _ => 8 - (intOf i).toNat)
  case atStart => exact ⟨0, Nat.zero_le _, rfl, HOl.out⟩
  case round =>
    obtain ⟨k, hk, rfl, hk2⟩ := hrel
    have HO := hide3 hk2
    clear hk2 HOl
    by_cases hlt : k < 8
    · have c1 := HO.out.2.2.1 k hlt
      have HPk := hide3 (HPs.out k hlt)
      have HIk := hide3 (HIn.out k hlt)
      have HSZ : Hid ((sgs[k]'hlt).size ≤ 2) := by
        have : ∀ s ∈ sgs, s.size ≤ 2 := by decide
        exact this _ (List.getElem_mem _)
      have HOr : Hid ((Below w.heap.size w wr ∧ BxAt wr ⟨w.heap.size + 1, .int .i64 x, .int .i64 y, .int .i64 z⟩ ∧ Rows8 wr y5.heap.size [false, false, true, true, false, false, false, false]) ∧ wr.cell? ⟨y5.heap.size + 1, k, none⟩ = some (.bool (([false, false, true, true, false, false, false, false] : List Bool)[k]'hlt))) := ⟨HO.out, HO.out.2.2.2.1 k hlt⟩
      have hk8 : (k : Int) < 8 := by omega
      generalize sgs[k]'hlt = sg at *
      generalize ([false, false, true, true, false, false, false, false] : List Bool)[k]'hlt = wk at *
      generalize Rs k = Rk at *
      have sa := fun Wx : World => run_string_add_sum (P := Tryz.prog) (w := Wx) sg T (by have h1 := HSZ.out; have h2 := HT.out; omega)
      have HKr : Hid (KeepP fun w1 => ((Below w.heap.size w w1 ∧ BxAt w1 ⟨w.heap.size + 1, .int .i64 x, .int .i64 y, .int .i64 z⟩ ∧ Rows8 w1 y5.heap.size [false, false, true, true, false, false, false, false]) ∧ (w1.cell? ⟨y5.heap.size + 1, k, none⟩ = some (.bool wk) ∧ y5.heap.size + 1 < w1.heap.size)) ∧ True) := (HKl.out.and (fun _ _ h hb => ⟨(hb.cell (p := ⟨y5.heap.size + 1, k, none⟩) h.2).trans h.1, Nat.lt_of_lt_of_le h.2 hb.size⟩)).and (fun _ _ _ _ => trivial)
      go_wp2_with (go_at_call 10; refine (HPk.out _ HO.out.1).mono ?_; rintro e yp ⟨vp, rfl, ok⟩; have HO' : Hid ((((Below w.heap.size w yp ∧ BxAt yp ⟨w.heap.size + 1, .int .i64 x, .int .i64 y, .int .i64 z⟩ ∧ Rows8 yp y5.heap.size [false, false, true, true, false, false, false, false]) ∧ (yp.cell? ⟨y5.heap.size + 1, k, none⟩ = some (.bool wk) ∧ y5.heap.size + 1 < yp.heap.size)) ∧ True) ∧ SpansR yp vp Rk) := ⟨HKr.out _ _ ⟨⟨HOr.out.1, HOr.out.2, HOr.out.1.2.2.2.2⟩, trivial⟩ ok.2, ok.1⟩; clear ok HO HOr)
      have HK : Hid (KeepP fun w1 => (((Below w.heap.size w w1 ∧ BxAt w1 ⟨w.heap.size + 1, .int .i64 x, .int .i64 y, .int .i64 z⟩ ∧ Rows8 w1 y5.heap.size [false, false, true, true, false, false, false, false]) ∧ (w1.cell? ⟨y5.heap.size + 1, k, none⟩ = some (.bool wk) ∧ y5.heap.size + 1 < w1.heap.size)) ∧ True) ∧ SpansR w1 vp Rk) := HKr.out.and (keepSpR vp Rk)
      have HO := HO'
      clear HO'
      have HII : Hid (∀ w1, ((((Below w.heap.size w w1 ∧ BxAt w1 ⟨w.heap.size + 1, .int .i64 x, .int .i64 y, .int .i64 z⟩ ∧ Rows8 w1 y5.heap.size [false, false, true, true, false, false, false, false]) ∧ (w1.cell? ⟨y5.heap.size + 1, k, none⟩ = some (.bool wk) ∧ y5.heap.size + 1 < w1.heap.size)) ∧ True) ∧ SpansR w1 vp Rk) → Calls Tryz.prog 11 #[vp, .agg #[.int .i64 x, .int .i64 y, .int .i64 z]] w1 fun e w' => e = .returned (.bool wk) ∧ Below w1.heap.size w1 w') := fun w1 h => HIk.out w1 vp h.2
      refine wp_region_keep HK.out (by kernel_rfl) (by kernel_rfl) (by first | exact HO.out | exact HK.out.drew HO.out) ?_
      intro C hin hout
      have HIN := hide3 hin
      have HOUT := hide3 hout
      clear hin hout HO
      repeat
        (with_reducible refine wpQuiet_step (fun K hK => ?_)
         go_simp
         first
           | (refine hK _ ?_; clear hK K)
           | (apply Exists.intro; refine ⟨fun w1 hC => ?_, hK _ ?_⟩; (focus ((first | (go_at_call 11; with_reducible exact callC' HIN.out HOUT.out HK.out HII.out w1 hC) | (exact rfl) | (obtain ⟨⟨⟨⟨hb0, ⟨d0, d1, d2, d3⟩, hr8⟩, cw, cl⟩, _⟩, hsp⟩ := HOUT.out w1 hC; clear hC; go_simp; first | done | exact rfl)); done)); clear hK K))
      refine wpQuiet_nil ?_
      intro wn hC
      have HO := hide3 (HOUT.out _ hC)
      clear hC HIN HOUT C
      obtain ⟨⟨⟨⟨hb0, ⟨d0, d1, d2, d3⟩, hr8⟩, cw, cl⟩, _⟩, hsp⟩ := HO.out
      have HB := hide3 hb0
      have HX := hide3 d3
      have HR8 := hide3 hr8
      have HDD : Hid (BxAt wn ⟨w.heap.size + 1, .int .i64 x, .int .i64 y, .int .i64 z⟩) := ⟨d0, d1, d2, d3⟩
      clear hb0 hr8 hsp
      go_wp2
      exact ⟨⟨k + 1, by omega, by go_num, HB.out, HDD.out, HR8.out⟩, by simp [intOf]; omega⟩
    · have hke : k = 8 := by omega
      subst hke
      go_wp2
      go_ret
      exact ⟨rfl, HO.out.1⟩

set_option maxHeartbeats 3200000 in
theorem signs_l_TF_B (a b c x y z : Int) (T : ByteArray) (Rs : Nat → Rg) (w : World)
    (HKn : Hid (∀ w1, Below w.heap.size w w1 → Says 6 #[] w1 true)) (HMv : Hid (∀ w1, Says 7 #[.agg #[.int .i64 a, .int .i64 b, .int .i64 c]] w1 true)) (HMx : Hid (∀ w1, Says 7 #[.agg #[.int .i64 x, .int .i64 y, .int .i64 z]] w1 true))
    (HPv : Hid (∀ w1, Calls Tryz.prog 8 #[.agg #[.int .i64 a, .int .i64 b, .int .i64 c]] w1 fun e w' => e = .returned (.string T) ∧ Below w1.heap.size w1 w')) (HC : Hid (∀ w1, Calls Tryz.prog 9 #[.agg #[.int .i64 x, .int .i64 y, .int .i64 z], .agg #[.int .i64 a, .int .i64 b, .int .i64 c]] w1 fun e w' => e = .returned (.int .i64 (-1)) ∧ Below w1.heap.size w1 w'))
    (hmaj : (x == a) = true) (hmin : (y == b) = false) (hA : ¬ 0 < a) (hB : 0 < b)
    (HT : Hid (T.size ≤ 100)) (HPs : Hid (∀ i (h : i < sgs.length) w1, Below w.heap.size w w1 → Calls Tryz.prog 10 #[.string (sgs[i] ++ T)] w1 fun e w' => ∃ v, e = .returned (.tuple #[v, .int .i64 0]) ∧ SpansR w' v (Rs i) ∧ Below w1.heap.size w1 w'))
    (HIn : Hid (∀ i (h : i < ([false, false, true, true, false, false, false, false] : List Bool).length) w1 v, SpansR w1 v (Rs i) → Says 11 #[v, .agg #[.int .i64 x, .int .i64 y, .int .i64 z]] w1 ([false, false, true, true, false, false, false, false] : List Bool)[i]))
    : Calls Tryz.prog 3 #[.agg #[.int .i64 a, .int .i64 b, .int .i64 c], .agg #[.int .i64 x, .int .i64 y, .int .i64 z]] w fun e w' => e = .returned (.bool true) ∧ Below w.heap.size w w' := by
  have HK0 : Hid (KeepP fun w1 => ((Below w.heap.size w w1) ∧ BxAt w1 ⟨w.heap.size, .int .i64 a, .int .i64 b, .int .i64 c⟩) ∧ BxAt w1 ⟨w.heap.size + 1, .int .i64 x, .int .i64 y, .int .i64 z⟩) := (KeepP.and ((KeepP.and (keepBelow w) (keepV3 _))) (keepV3 _))
  have HO0 : Hid (((Below w.heap.size w ((w.alloc (.cells #[.int .i64 a, .int .i64 b, .int .i64 c] 23)).alloc (.cells #[.int .i64 x, .int .i64 y, .int .i64 z] 23))) ∧ BxAt ((w.alloc (.cells #[.int .i64 a, .int .i64 b, .int .i64 c] 23)).alloc (.cells #[.int .i64 x, .int .i64 y, .int .i64 z] 23)) ⟨w.heap.size, .int .i64 a, .int .i64 b, .int .i64 c⟩) ∧ BxAt ((w.alloc (.cells #[.int .i64 a, .int .i64 b, .int .i64 c] 23)).alloc (.cells #[.int .i64 x, .int .i64 y, .int .i64 z] 23)) ⟨w.heap.size + 1, .int .i64 x, .int .i64 y, .int .i64 z⟩) := ⟨⟨boxB2 _ _ _, (((OKs.nil w).box rfl _ _ _).one).below (boxB _ _)⟩, ((OKs.nil (w.alloc (.cells #[.int .i64 a, .int .i64 b, .int .i64 c] 23))).box (by simp) _ _ _).one⟩
  obtain ⟨b0, b1, b2, b3⟩ := HO0.out.1.2
  obtain ⟨d0, d1, d2, d3⟩ := HO0.out.2
  go_enter Tryz.func3, Tryz.ntmps3
  go_wp2_with (first
    | (have _h := HO0; go_at_call 6; refine (HKn.out _ (HO0.out.1.1)).mono ?_; rintro e y1 ⟨rfl, ok⟩; have HO1 : Hid (((Below w.heap.size w y1) ∧ BxAt y1 ⟨w.heap.size, .int .i64 a, .int .i64 b, .int .i64 c⟩) ∧ BxAt y1 ⟨w.heap.size + 1, .int .i64 x, .int .i64 y, .int .i64 z⟩) := HK0.out _ _ HO0.out ok; clear ok HO0 b0 b1 b2 b3 d0 d1 d2 d3; obtain ⟨b0, b1, b2, b3⟩ := HO1.out.1.2; obtain ⟨d0, d1, d2, d3⟩ := HO1.out.2)
    | (have _h := HO1; go_at_call 7; refine (HMv.out _).mono ?_; rintro e y2 ⟨rfl, ok⟩; have HO2 : Hid (((Below w.heap.size w y2) ∧ BxAt y2 ⟨w.heap.size, .int .i64 a, .int .i64 b, .int .i64 c⟩) ∧ BxAt y2 ⟨w.heap.size + 1, .int .i64 x, .int .i64 y, .int .i64 z⟩) := HK0.out _ _ HO1.out ok; clear ok HO1 b0 b1 b2 b3 d0 d1 d2 d3; obtain ⟨b0, b1, b2, b3⟩ := HO2.out.1.2; obtain ⟨d0, d1, d2, d3⟩ := HO2.out.2)
    | (have _h := HO2; go_at_call 7; refine (HMx.out _).mono ?_; rintro e y3 ⟨rfl, ok⟩; have HO3 : Hid (((Below w.heap.size w y3) ∧ BxAt y3 ⟨w.heap.size, .int .i64 a, .int .i64 b, .int .i64 c⟩) ∧ BxAt y3 ⟨w.heap.size + 1, .int .i64 x, .int .i64 y, .int .i64 z⟩) := HK0.out _ _ HO2.out ok; clear ok HO2 b0 b1 b2 b3 d0 d1 d2 d3; obtain ⟨b0, b1, b2, b3⟩ := HO3.out.1.2; obtain ⟨d0, d1, d2, d3⟩ := HO3.out.2)
    | (have _h := HO3; go_at_call 8; refine (HPv.out _).mono ?_; rintro e y4 ⟨rfl, ok⟩; have HO4 : Hid (((Below w.heap.size w y4) ∧ BxAt y4 ⟨w.heap.size, .int .i64 a, .int .i64 b, .int .i64 c⟩) ∧ BxAt y4 ⟨w.heap.size + 1, .int .i64 x, .int .i64 y, .int .i64 z⟩) := HK0.out _ _ HO3.out ok; clear ok HO3 b0 b1 b2 b3 d0 d1 d2 d3; obtain ⟨b0, b1, b2, b3⟩ := HO4.out.1.2; obtain ⟨d0, d1, d2, d3⟩ := HO4.out.2)
    | (have _h := HO4; go_at_call 9; refine (HC.out _).mono ?_; rintro e y5 ⟨rfl, ok⟩; have HO5 : Hid (((Below w.heap.size w y5) ∧ BxAt y5 ⟨w.heap.size, .int .i64 a, .int .i64 b, .int .i64 c⟩) ∧ BxAt y5 ⟨w.heap.size + 1, .int .i64 x, .int .i64 y, .int .i64 z⟩) := HK0.out _ _ HO4.out ok; clear ok HO4 b0 b1 b2 b3 d0 d1 d2 d3; obtain ⟨b0, b1, b2, b3⟩ := HO5.out.1.2; obtain ⟨d0, d1, d2, d3⟩ := HO5.out.2))
  have HKl : Hid (KeepP fun w1 => Below w.heap.size w w1 ∧ BxAt w1 ⟨w.heap.size + 1, .int .i64 x, .int .i64 y, .int .i64 z⟩ ∧ Rows8 w1 y5.heap.size [false, false, true, true, false, false, false, false]) := (keepBelow w).and ((keepV3 _).and (keepRows8 _ _))
  have HOl : Hid (Below w.heap.size w ((y5.alloc (.cells #[.string ⟨#[]⟩, .string ⟨#[61]⟩, .string ⟨#[60]⟩, .string ⟨#[60, 61]⟩, .string ⟨#[62]⟩, .string ⟨#[62, 61]⟩, .string ⟨#[126]⟩, .string ⟨#[94]⟩] 9)).alloc (.cells #[.bool false, .bool false, .bool true, .bool true, .bool false, .bool false, .bool false, .bool false] 4)) ∧ BxAt ((y5.alloc (.cells #[.string ⟨#[]⟩, .string ⟨#[61]⟩, .string ⟨#[60]⟩, .string ⟨#[60, 61]⟩, .string ⟨#[62]⟩, .string ⟨#[62, 61]⟩, .string ⟨#[126]⟩, .string ⟨#[94]⟩] 9)).alloc (.cells #[.bool false, .bool false, .bool true, .bool true, .bool false, .bool false, .bool false, .bool false] 4)) ⟨w.heap.size + 1, .int .i64 x, .int .i64 y, .int .i64 z⟩ ∧ Rows8 ((y5.alloc (.cells #[.string ⟨#[]⟩, .string ⟨#[61]⟩, .string ⟨#[60]⟩, .string ⟨#[60, 61]⟩, .string ⟨#[62]⟩, .string ⟨#[62, 61]⟩, .string ⟨#[126]⟩, .string ⟨#[94]⟩] 9)).alloc (.cells #[.bool false, .bool false, .bool true, .bool true, .bool false, .bool false, .bool false, .bool false] 4)) y5.heap.size [false, false, true, true, false, false, false, false]) := ⟨below_then HO5.out.1.1 (boxB2 _ _ _), (HO5.out.2).below (boxB2 _ _ _), rows8_new _ _ _ _ _ _ _ _ _⟩
  clear b0 b1 b2 b3 d0 d1 d2 d3
  go_loopw [12] (fun i wr => ∃ k : Nat, k ≤ 8 ∧ i = .int .i64 k ∧ (Below w.heap.size w wr ∧ BxAt wr ⟨w.heap.size + 1, .int .i64 x, .int .i64 y, .int .i64 z⟩ ∧ Rows8 wr y5.heap.size [false, false, true, true, false, false, false, false])) (fun i _ => 8 - (intOf i).toNat)
  case atStart => exact ⟨0, Nat.zero_le _, rfl, HOl.out⟩
  case round =>
    obtain ⟨k, hk, rfl, hk2⟩ := hrel
    have HO := hide3 hk2
    clear hk2 HOl
    by_cases hlt : k < 8
    · have c1 := HO.out.2.2.1 k hlt
      have HPk := hide3 (HPs.out k hlt)
      have HIk := hide3 (HIn.out k hlt)
      have HSZ : Hid ((sgs[k]'hlt).size ≤ 2) := by
        have : ∀ s ∈ sgs, s.size ≤ 2 := by decide
        exact this _ (List.getElem_mem _)
      have HOr : Hid ((Below w.heap.size w wr ∧ BxAt wr ⟨w.heap.size + 1, .int .i64 x, .int .i64 y, .int .i64 z⟩ ∧ Rows8 wr y5.heap.size [false, false, true, true, false, false, false, false]) ∧ wr.cell? ⟨y5.heap.size + 1, k, none⟩ = some (.bool (([false, false, true, true, false, false, false, false] : List Bool)[k]'hlt))) := ⟨HO.out, HO.out.2.2.2.1 k hlt⟩
      have hk8 : (k : Int) < 8 := by omega
      generalize sgs[k]'hlt = sg at *
      generalize ([false, false, true, true, false, false, false, false] : List Bool)[k]'hlt = wk at *
      generalize Rs k = Rk at *
      have sa := fun Wx : World => run_string_add_sum (P := Tryz.prog) (w := Wx) sg T (by have h1 := HSZ.out; have h2 := HT.out; omega)
      have HKr : Hid (KeepP fun w1 => ((Below w.heap.size w w1 ∧ BxAt w1 ⟨w.heap.size + 1, .int .i64 x, .int .i64 y, .int .i64 z⟩ ∧ Rows8 w1 y5.heap.size [false, false, true, true, false, false, false, false]) ∧ (w1.cell? ⟨y5.heap.size + 1, k, none⟩ = some (.bool wk) ∧ y5.heap.size + 1 < w1.heap.size)) ∧ True) := (HKl.out.and (fun _ _ h hb => ⟨(hb.cell (p := ⟨y5.heap.size + 1, k, none⟩) h.2).trans h.1, Nat.lt_of_lt_of_le h.2 hb.size⟩)).and (fun _ _ _ _ => trivial)
      go_wp2_with (go_at_call 10; refine (HPk.out _ HO.out.1).mono ?_; rintro e yp ⟨vp, rfl, ok⟩; have HO' : Hid ((((Below w.heap.size w yp ∧ BxAt yp ⟨w.heap.size + 1, .int .i64 x, .int .i64 y, .int .i64 z⟩ ∧ Rows8 yp y5.heap.size [false, false, true, true, false, false, false, false]) ∧ (yp.cell? ⟨y5.heap.size + 1, k, none⟩ = some (.bool wk) ∧ y5.heap.size + 1 < yp.heap.size)) ∧ True) ∧ SpansR yp vp Rk) := ⟨HKr.out _ _ ⟨⟨HOr.out.1, HOr.out.2, HOr.out.1.2.2.2.2⟩, trivial⟩ ok.2, ok.1⟩; clear ok HO HOr)
      have HK : Hid (KeepP fun w1 => (((Below w.heap.size w w1 ∧ BxAt w1 ⟨w.heap.size + 1, .int .i64 x, .int .i64 y, .int .i64 z⟩ ∧ Rows8 w1 y5.heap.size [false, false, true, true, false, false, false, false]) ∧ (w1.cell? ⟨y5.heap.size + 1, k, none⟩ = some (.bool wk) ∧ y5.heap.size + 1 < w1.heap.size)) ∧ True) ∧ SpansR w1 vp Rk) := HKr.out.and (keepSpR vp Rk)
      have HO := HO'
      clear HO'
      have HII : Hid (∀ w1, ((((Below w.heap.size w w1 ∧ BxAt w1 ⟨w.heap.size + 1, .int .i64 x, .int .i64 y, .int .i64 z⟩ ∧ Rows8 w1 y5.heap.size [false, false, true, true, false, false, false, false]) ∧ (w1.cell? ⟨y5.heap.size + 1, k, none⟩ = some (.bool wk) ∧ y5.heap.size + 1 < w1.heap.size)) ∧ True) ∧ SpansR w1 vp Rk) → Calls Tryz.prog 11 #[vp, .agg #[.int .i64 x, .int .i64 y, .int .i64 z]] w1 fun e w' => e = .returned (.bool wk) ∧ Below w1.heap.size w1 w') := fun w1 h => HIk.out w1 vp h.2
      refine wp_region_keep HK.out (by kernel_rfl) (by kernel_rfl) (by first | exact HO.out | exact HK.out.drew HO.out) ?_
      intro C hin hout
      have HIN := hide3 hin
      have HOUT := hide3 hout
      clear hin hout HO
      repeat
        (with_reducible refine wpQuiet_step (fun K hK => ?_)
         go_simp
         first
           | (refine hK _ ?_; clear hK K)
           | (apply Exists.intro; refine ⟨fun w1 hC => ?_, hK _ ?_⟩; (focus ((first | (go_at_call 11; with_reducible exact callC' HIN.out HOUT.out HK.out HII.out w1 hC) | (exact rfl) | (obtain ⟨⟨⟨⟨hb0, ⟨d0, d1, d2, d3⟩, hr8⟩, cw, cl⟩, _⟩, hsp⟩ := HOUT.out w1 hC; clear hC; go_simp; first | done | exact rfl)); done)); clear hK K))
      refine wpQuiet_nil ?_
      intro wn hC
      have HO := hide3 (HOUT.out _ hC)
      clear hC HIN HOUT C
      obtain ⟨⟨⟨⟨hb0, ⟨d0, d1, d2, d3⟩, hr8⟩, cw, cl⟩, _⟩, hsp⟩ := HO.out
      have HB := hide3 hb0
      have HX := hide3 d3
      have HR8 := hide3 hr8
      have HDD : Hid (BxAt wn ⟨w.heap.size + 1, .int .i64 x, .int .i64 y, .int .i64 z⟩) := ⟨d0, d1, d2, d3⟩
      clear hb0 hr8 hsp
      go_wp2
      exact ⟨⟨k + 1, by omega, by go_num, HB.out, HDD.out, HR8.out⟩, by simp [intOf]; omega⟩
    · have hke : k = 8 := by omega
      subst hke
      go_wp2
      go_ret
      exact ⟨rfl, HO.out.1⟩

set_option maxHeartbeats 3200000 in
theorem signs_l_TF_N (a b c x y z : Int) (T : ByteArray) (Rs : Nat → Rg) (w : World)
    (HKn : Hid (∀ w1, Below w.heap.size w w1 → Says 6 #[] w1 true)) (HMv : Hid (∀ w1, Says 7 #[.agg #[.int .i64 a, .int .i64 b, .int .i64 c]] w1 true)) (HMx : Hid (∀ w1, Says 7 #[.agg #[.int .i64 x, .int .i64 y, .int .i64 z]] w1 true))
    (HPv : Hid (∀ w1, Calls Tryz.prog 8 #[.agg #[.int .i64 a, .int .i64 b, .int .i64 c]] w1 fun e w' => e = .returned (.string T) ∧ Below w1.heap.size w1 w')) (HC : Hid (∀ w1, Calls Tryz.prog 9 #[.agg #[.int .i64 x, .int .i64 y, .int .i64 z], .agg #[.int .i64 a, .int .i64 b, .int .i64 c]] w1 fun e w' => e = .returned (.int .i64 (-1)) ∧ Below w1.heap.size w1 w'))
    (hmaj : (x == a) = true) (hmin : (y == b) = false) (hA : ¬ 0 < a) (hB : ¬ 0 < b)
    (HT : Hid (T.size ≤ 100)) (HPs : Hid (∀ i (h : i < sgs.length) w1, Below w.heap.size w w1 → Calls Tryz.prog 10 #[.string (sgs[i] ++ T)] w1 fun e w' => ∃ v, e = .returned (.tuple #[v, .int .i64 0]) ∧ SpansR w' v (Rs i) ∧ Below w1.heap.size w1 w'))
    (HIn : Hid (∀ i (h : i < ([false, false, true, true, false, false, false, false] : List Bool).length) w1 v, SpansR w1 v (Rs i) → Says 11 #[v, .agg #[.int .i64 x, .int .i64 y, .int .i64 z]] w1 ([false, false, true, true, false, false, false, false] : List Bool)[i]))
    : Calls Tryz.prog 3 #[.agg #[.int .i64 a, .int .i64 b, .int .i64 c], .agg #[.int .i64 x, .int .i64 y, .int .i64 z]] w fun e w' => e = .returned (.bool true) ∧ Below w.heap.size w w' := by
  have HK0 : Hid (KeepP fun w1 => ((Below w.heap.size w w1) ∧ BxAt w1 ⟨w.heap.size, .int .i64 a, .int .i64 b, .int .i64 c⟩) ∧ BxAt w1 ⟨w.heap.size + 1, .int .i64 x, .int .i64 y, .int .i64 z⟩) := (KeepP.and ((KeepP.and (keepBelow w) (keepV3 _))) (keepV3 _))
  have HO0 : Hid (((Below w.heap.size w ((w.alloc (.cells #[.int .i64 a, .int .i64 b, .int .i64 c] 23)).alloc (.cells #[.int .i64 x, .int .i64 y, .int .i64 z] 23))) ∧ BxAt ((w.alloc (.cells #[.int .i64 a, .int .i64 b, .int .i64 c] 23)).alloc (.cells #[.int .i64 x, .int .i64 y, .int .i64 z] 23)) ⟨w.heap.size, .int .i64 a, .int .i64 b, .int .i64 c⟩) ∧ BxAt ((w.alloc (.cells #[.int .i64 a, .int .i64 b, .int .i64 c] 23)).alloc (.cells #[.int .i64 x, .int .i64 y, .int .i64 z] 23)) ⟨w.heap.size + 1, .int .i64 x, .int .i64 y, .int .i64 z⟩) := ⟨⟨boxB2 _ _ _, (((OKs.nil w).box rfl _ _ _).one).below (boxB _ _)⟩, ((OKs.nil (w.alloc (.cells #[.int .i64 a, .int .i64 b, .int .i64 c] 23))).box (by simp) _ _ _).one⟩
  obtain ⟨b0, b1, b2, b3⟩ := HO0.out.1.2
  obtain ⟨d0, d1, d2, d3⟩ := HO0.out.2
  go_enter Tryz.func3, Tryz.ntmps3
  go_wp2_with (first
    | (have _h := HO0; go_at_call 6; refine (HKn.out _ (HO0.out.1.1)).mono ?_; rintro e y1 ⟨rfl, ok⟩; have HO1 : Hid (((Below w.heap.size w y1) ∧ BxAt y1 ⟨w.heap.size, .int .i64 a, .int .i64 b, .int .i64 c⟩) ∧ BxAt y1 ⟨w.heap.size + 1, .int .i64 x, .int .i64 y, .int .i64 z⟩) := HK0.out _ _ HO0.out ok; clear ok HO0 b0 b1 b2 b3 d0 d1 d2 d3; obtain ⟨b0, b1, b2, b3⟩ := HO1.out.1.2; obtain ⟨d0, d1, d2, d3⟩ := HO1.out.2)
    | (have _h := HO1; go_at_call 7; refine (HMv.out _).mono ?_; rintro e y2 ⟨rfl, ok⟩; have HO2 : Hid (((Below w.heap.size w y2) ∧ BxAt y2 ⟨w.heap.size, .int .i64 a, .int .i64 b, .int .i64 c⟩) ∧ BxAt y2 ⟨w.heap.size + 1, .int .i64 x, .int .i64 y, .int .i64 z⟩) := HK0.out _ _ HO1.out ok; clear ok HO1 b0 b1 b2 b3 d0 d1 d2 d3; obtain ⟨b0, b1, b2, b3⟩ := HO2.out.1.2; obtain ⟨d0, d1, d2, d3⟩ := HO2.out.2)
    | (have _h := HO2; go_at_call 7; refine (HMx.out _).mono ?_; rintro e y3 ⟨rfl, ok⟩; have HO3 : Hid (((Below w.heap.size w y3) ∧ BxAt y3 ⟨w.heap.size, .int .i64 a, .int .i64 b, .int .i64 c⟩) ∧ BxAt y3 ⟨w.heap.size + 1, .int .i64 x, .int .i64 y, .int .i64 z⟩) := HK0.out _ _ HO2.out ok; clear ok HO2 b0 b1 b2 b3 d0 d1 d2 d3; obtain ⟨b0, b1, b2, b3⟩ := HO3.out.1.2; obtain ⟨d0, d1, d2, d3⟩ := HO3.out.2)
    | (have _h := HO3; go_at_call 8; refine (HPv.out _).mono ?_; rintro e y4 ⟨rfl, ok⟩; have HO4 : Hid (((Below w.heap.size w y4) ∧ BxAt y4 ⟨w.heap.size, .int .i64 a, .int .i64 b, .int .i64 c⟩) ∧ BxAt y4 ⟨w.heap.size + 1, .int .i64 x, .int .i64 y, .int .i64 z⟩) := HK0.out _ _ HO3.out ok; clear ok HO3 b0 b1 b2 b3 d0 d1 d2 d3; obtain ⟨b0, b1, b2, b3⟩ := HO4.out.1.2; obtain ⟨d0, d1, d2, d3⟩ := HO4.out.2)
    | (have _h := HO4; go_at_call 9; refine (HC.out _).mono ?_; rintro e y5 ⟨rfl, ok⟩; have HO5 : Hid (((Below w.heap.size w y5) ∧ BxAt y5 ⟨w.heap.size, .int .i64 a, .int .i64 b, .int .i64 c⟩) ∧ BxAt y5 ⟨w.heap.size + 1, .int .i64 x, .int .i64 y, .int .i64 z⟩) := HK0.out _ _ HO4.out ok; clear ok HO4 b0 b1 b2 b3 d0 d1 d2 d3; obtain ⟨b0, b1, b2, b3⟩ := HO5.out.1.2; obtain ⟨d0, d1, d2, d3⟩ := HO5.out.2))
  have HKl : Hid (KeepP fun w1 => Below w.heap.size w w1 ∧ BxAt w1 ⟨w.heap.size + 1, .int .i64 x, .int .i64 y, .int .i64 z⟩ ∧ Rows8 w1 y5.heap.size [false, false, true, true, false, false, false, false]) := (keepBelow w).and ((keepV3 _).and (keepRows8 _ _))
  have HOl : Hid (Below w.heap.size w ((y5.alloc (.cells #[.string ⟨#[]⟩, .string ⟨#[61]⟩, .string ⟨#[60]⟩, .string ⟨#[60, 61]⟩, .string ⟨#[62]⟩, .string ⟨#[62, 61]⟩, .string ⟨#[126]⟩, .string ⟨#[94]⟩] 9)).alloc (.cells #[.bool false, .bool false, .bool true, .bool true, .bool false, .bool false, .bool false, .bool false] 4)) ∧ BxAt ((y5.alloc (.cells #[.string ⟨#[]⟩, .string ⟨#[61]⟩, .string ⟨#[60]⟩, .string ⟨#[60, 61]⟩, .string ⟨#[62]⟩, .string ⟨#[62, 61]⟩, .string ⟨#[126]⟩, .string ⟨#[94]⟩] 9)).alloc (.cells #[.bool false, .bool false, .bool true, .bool true, .bool false, .bool false, .bool false, .bool false] 4)) ⟨w.heap.size + 1, .int .i64 x, .int .i64 y, .int .i64 z⟩ ∧ Rows8 ((y5.alloc (.cells #[.string ⟨#[]⟩, .string ⟨#[61]⟩, .string ⟨#[60]⟩, .string ⟨#[60, 61]⟩, .string ⟨#[62]⟩, .string ⟨#[62, 61]⟩, .string ⟨#[126]⟩, .string ⟨#[94]⟩] 9)).alloc (.cells #[.bool false, .bool false, .bool true, .bool true, .bool false, .bool false, .bool false, .bool false] 4)) y5.heap.size [false, false, true, true, false, false, false, false]) := ⟨below_then HO5.out.1.1 (boxB2 _ _ _), (HO5.out.2).below (boxB2 _ _ _), rows8_new _ _ _ _ _ _ _ _ _⟩
  clear b0 b1 b2 b3 d0 d1 d2 d3
  go_loopw [12] (fun i wr => ∃ k : Nat, k ≤ 8 ∧ i = .int .i64 k ∧ (Below w.heap.size w wr ∧ BxAt wr ⟨w.heap.size + 1, .int .i64 x, .int .i64 y, .int .i64 z⟩ ∧ Rows8 wr y5.heap.size [false, false, true, true, false, false, false, false])) (fun i _ => 8 - (intOf i).toNat)
  case atStart => exact ⟨0, Nat.zero_le _, rfl, HOl.out⟩
  case round =>
    obtain ⟨k, hk, rfl, hk2⟩ := hrel
    have HO := hide3 hk2
    clear hk2 HOl
    by_cases hlt : k < 8
    · have c1 := HO.out.2.2.1 k hlt
      have HPk := hide3 (HPs.out k hlt)
      have HIk := hide3 (HIn.out k hlt)
      have HSZ : Hid ((sgs[k]'hlt).size ≤ 2) := by
        have : ∀ s ∈ sgs, s.size ≤ 2 := by decide
        exact this _ (List.getElem_mem _)
      have HOr : Hid ((Below w.heap.size w wr ∧ BxAt wr ⟨w.heap.size + 1, .int .i64 x, .int .i64 y, .int .i64 z⟩ ∧ Rows8 wr y5.heap.size [false, false, true, true, false, false, false, false]) ∧ wr.cell? ⟨y5.heap.size + 1, k, none⟩ = some (.bool (([false, false, true, true, false, false, false, false] : List Bool)[k]'hlt))) := ⟨HO.out, HO.out.2.2.2.1 k hlt⟩
      have hk8 : (k : Int) < 8 := by omega
      generalize sgs[k]'hlt = sg at *
      generalize ([false, false, true, true, false, false, false, false] : List Bool)[k]'hlt = wk at *
      generalize Rs k = Rk at *
      have sa := fun Wx : World => run_string_add_sum (P := Tryz.prog) (w := Wx) sg T (by have h1 := HSZ.out; have h2 := HT.out; omega)
      have HKr : Hid (KeepP fun w1 => ((Below w.heap.size w w1 ∧ BxAt w1 ⟨w.heap.size + 1, .int .i64 x, .int .i64 y, .int .i64 z⟩ ∧ Rows8 w1 y5.heap.size [false, false, true, true, false, false, false, false]) ∧ (w1.cell? ⟨y5.heap.size + 1, k, none⟩ = some (.bool wk) ∧ y5.heap.size + 1 < w1.heap.size)) ∧ True) := (HKl.out.and (fun _ _ h hb => ⟨(hb.cell (p := ⟨y5.heap.size + 1, k, none⟩) h.2).trans h.1, Nat.lt_of_lt_of_le h.2 hb.size⟩)).and (fun _ _ _ _ => trivial)
      go_wp2_with (go_at_call 10; refine (HPk.out _ HO.out.1).mono ?_; rintro e yp ⟨vp, rfl, ok⟩; have HO' : Hid ((((Below w.heap.size w yp ∧ BxAt yp ⟨w.heap.size + 1, .int .i64 x, .int .i64 y, .int .i64 z⟩ ∧ Rows8 yp y5.heap.size [false, false, true, true, false, false, false, false]) ∧ (yp.cell? ⟨y5.heap.size + 1, k, none⟩ = some (.bool wk) ∧ y5.heap.size + 1 < yp.heap.size)) ∧ True) ∧ SpansR yp vp Rk) := ⟨HKr.out _ _ ⟨⟨HOr.out.1, HOr.out.2, HOr.out.1.2.2.2.2⟩, trivial⟩ ok.2, ok.1⟩; clear ok HO HOr)
      have HK : Hid (KeepP fun w1 => (((Below w.heap.size w w1 ∧ BxAt w1 ⟨w.heap.size + 1, .int .i64 x, .int .i64 y, .int .i64 z⟩ ∧ Rows8 w1 y5.heap.size [false, false, true, true, false, false, false, false]) ∧ (w1.cell? ⟨y5.heap.size + 1, k, none⟩ = some (.bool wk) ∧ y5.heap.size + 1 < w1.heap.size)) ∧ True) ∧ SpansR w1 vp Rk) := HKr.out.and (keepSpR vp Rk)
      have HO := HO'
      clear HO'
      have HII : Hid (∀ w1, ((((Below w.heap.size w w1 ∧ BxAt w1 ⟨w.heap.size + 1, .int .i64 x, .int .i64 y, .int .i64 z⟩ ∧ Rows8 w1 y5.heap.size [false, false, true, true, false, false, false, false]) ∧ (w1.cell? ⟨y5.heap.size + 1, k, none⟩ = some (.bool wk) ∧ y5.heap.size + 1 < w1.heap.size)) ∧ True) ∧ SpansR w1 vp Rk) → Calls Tryz.prog 11 #[vp, .agg #[.int .i64 x, .int .i64 y, .int .i64 z]] w1 fun e w' => e = .returned (.bool wk) ∧ Below w1.heap.size w1 w') := fun w1 h => HIk.out w1 vp h.2
      refine wp_region_keep HK.out (by kernel_rfl) (by kernel_rfl) (by first | exact HO.out | exact HK.out.drew HO.out) ?_
      intro C hin hout
      have HIN := hide3 hin
      have HOUT := hide3 hout
      clear hin hout HO
      repeat
        (with_reducible refine wpQuiet_step (fun K hK => ?_)
         go_simp
         first
           | (refine hK _ ?_; clear hK K)
           | (apply Exists.intro; refine ⟨fun w1 hC => ?_, hK _ ?_⟩; (focus ((first | (go_at_call 11; with_reducible exact callC' HIN.out HOUT.out HK.out HII.out w1 hC) | (exact rfl) | (obtain ⟨⟨⟨⟨hb0, ⟨d0, d1, d2, d3⟩, hr8⟩, cw, cl⟩, _⟩, hsp⟩ := HOUT.out w1 hC; clear hC; go_simp; first | done | exact rfl)); done)); clear hK K))
      refine wpQuiet_nil ?_
      intro wn hC
      have HO := hide3 (HOUT.out _ hC)
      clear hC HIN HOUT C
      obtain ⟨⟨⟨⟨hb0, ⟨d0, d1, d2, d3⟩, hr8⟩, cw, cl⟩, _⟩, hsp⟩ := HO.out
      have HB := hide3 hb0
      have HX := hide3 d3
      have HR8 := hide3 hr8
      have HDD : Hid (BxAt wn ⟨w.heap.size + 1, .int .i64 x, .int .i64 y, .int .i64 z⟩) := ⟨d0, d1, d2, d3⟩
      clear hb0 hr8 hsp
      go_wp2
      exact ⟨⟨k + 1, by omega, by go_num, HB.out, HDD.out, HR8.out⟩, by simp [intOf]; omega⟩
    · have hke : k = 8 := by omega
      subst hke
      go_wp2
      go_ret
      exact ⟨rfl, HO.out.1⟩

set_option maxHeartbeats 3200000 in
theorem signs_l_F_A (a b c x y z : Int) (T : ByteArray) (Rs : Nat → Rg) (w : World)
    (HKn : Hid (∀ w1, Below w.heap.size w w1 → Says 6 #[] w1 true)) (HMv : Hid (∀ w1, Says 7 #[.agg #[.int .i64 a, .int .i64 b, .int .i64 c]] w1 true)) (HMx : Hid (∀ w1, Says 7 #[.agg #[.int .i64 x, .int .i64 y, .int .i64 z]] w1 true))
    (HPv : Hid (∀ w1, Calls Tryz.prog 8 #[.agg #[.int .i64 a, .int .i64 b, .int .i64 c]] w1 fun e w' => e = .returned (.string T) ∧ Below w1.heap.size w1 w')) (HC : Hid (∀ w1, Calls Tryz.prog 9 #[.agg #[.int .i64 x, .int .i64 y, .int .i64 z], .agg #[.int .i64 a, .int .i64 b, .int .i64 c]] w1 fun e w' => e = .returned (.int .i64 (-1)) ∧ Below w1.heap.size w1 w'))
    (hmaj : (x == a) = false) (hA : 0 < a)
    (HT : Hid (T.size ≤ 100)) (HPs : Hid (∀ i (h : i < sgs.length) w1, Below w.heap.size w w1 → Calls Tryz.prog 10 #[.string (sgs[i] ++ T)] w1 fun e w' => ∃ v, e = .returned (.tuple #[v, .int .i64 0]) ∧ SpansR w' v (Rs i) ∧ Below w1.heap.size w1 w'))
    (HIn : Hid (∀ i (h : i < ([false, false, true, true, false, false, false, false] : List Bool).length) w1 v, SpansR w1 v (Rs i) → Says 11 #[v, .agg #[.int .i64 x, .int .i64 y, .int .i64 z]] w1 ([false, false, true, true, false, false, false, false] : List Bool)[i]))
    : Calls Tryz.prog 3 #[.agg #[.int .i64 a, .int .i64 b, .int .i64 c], .agg #[.int .i64 x, .int .i64 y, .int .i64 z]] w fun e w' => e = .returned (.bool true) ∧ Below w.heap.size w w' := by
  have HK0 : Hid (KeepP fun w1 => ((Below w.heap.size w w1) ∧ BxAt w1 ⟨w.heap.size, .int .i64 a, .int .i64 b, .int .i64 c⟩) ∧ BxAt w1 ⟨w.heap.size + 1, .int .i64 x, .int .i64 y, .int .i64 z⟩) := (KeepP.and ((KeepP.and (keepBelow w) (keepV3 _))) (keepV3 _))
  have HO0 : Hid (((Below w.heap.size w ((w.alloc (.cells #[.int .i64 a, .int .i64 b, .int .i64 c] 23)).alloc (.cells #[.int .i64 x, .int .i64 y, .int .i64 z] 23))) ∧ BxAt ((w.alloc (.cells #[.int .i64 a, .int .i64 b, .int .i64 c] 23)).alloc (.cells #[.int .i64 x, .int .i64 y, .int .i64 z] 23)) ⟨w.heap.size, .int .i64 a, .int .i64 b, .int .i64 c⟩) ∧ BxAt ((w.alloc (.cells #[.int .i64 a, .int .i64 b, .int .i64 c] 23)).alloc (.cells #[.int .i64 x, .int .i64 y, .int .i64 z] 23)) ⟨w.heap.size + 1, .int .i64 x, .int .i64 y, .int .i64 z⟩) := ⟨⟨boxB2 _ _ _, (((OKs.nil w).box rfl _ _ _).one).below (boxB _ _)⟩, ((OKs.nil (w.alloc (.cells #[.int .i64 a, .int .i64 b, .int .i64 c] 23))).box (by simp) _ _ _).one⟩
  obtain ⟨b0, b1, b2, b3⟩ := HO0.out.1.2
  obtain ⟨d0, d1, d2, d3⟩ := HO0.out.2
  go_enter Tryz.func3, Tryz.ntmps3
  go_wp2_with (first
    | (have _h := HO0; go_at_call 6; refine (HKn.out _ (HO0.out.1.1)).mono ?_; rintro e y1 ⟨rfl, ok⟩; have HO1 : Hid (((Below w.heap.size w y1) ∧ BxAt y1 ⟨w.heap.size, .int .i64 a, .int .i64 b, .int .i64 c⟩) ∧ BxAt y1 ⟨w.heap.size + 1, .int .i64 x, .int .i64 y, .int .i64 z⟩) := HK0.out _ _ HO0.out ok; clear ok HO0 b0 b1 b2 b3 d0 d1 d2 d3; obtain ⟨b0, b1, b2, b3⟩ := HO1.out.1.2; obtain ⟨d0, d1, d2, d3⟩ := HO1.out.2)
    | (have _h := HO1; go_at_call 7; refine (HMv.out _).mono ?_; rintro e y2 ⟨rfl, ok⟩; have HO2 : Hid (((Below w.heap.size w y2) ∧ BxAt y2 ⟨w.heap.size, .int .i64 a, .int .i64 b, .int .i64 c⟩) ∧ BxAt y2 ⟨w.heap.size + 1, .int .i64 x, .int .i64 y, .int .i64 z⟩) := HK0.out _ _ HO1.out ok; clear ok HO1 b0 b1 b2 b3 d0 d1 d2 d3; obtain ⟨b0, b1, b2, b3⟩ := HO2.out.1.2; obtain ⟨d0, d1, d2, d3⟩ := HO2.out.2)
    | (have _h := HO2; go_at_call 7; refine (HMx.out _).mono ?_; rintro e y3 ⟨rfl, ok⟩; have HO3 : Hid (((Below w.heap.size w y3) ∧ BxAt y3 ⟨w.heap.size, .int .i64 a, .int .i64 b, .int .i64 c⟩) ∧ BxAt y3 ⟨w.heap.size + 1, .int .i64 x, .int .i64 y, .int .i64 z⟩) := HK0.out _ _ HO2.out ok; clear ok HO2 b0 b1 b2 b3 d0 d1 d2 d3; obtain ⟨b0, b1, b2, b3⟩ := HO3.out.1.2; obtain ⟨d0, d1, d2, d3⟩ := HO3.out.2)
    | (have _h := HO3; go_at_call 8; refine (HPv.out _).mono ?_; rintro e y4 ⟨rfl, ok⟩; have HO4 : Hid (((Below w.heap.size w y4) ∧ BxAt y4 ⟨w.heap.size, .int .i64 a, .int .i64 b, .int .i64 c⟩) ∧ BxAt y4 ⟨w.heap.size + 1, .int .i64 x, .int .i64 y, .int .i64 z⟩) := HK0.out _ _ HO3.out ok; clear ok HO3 b0 b1 b2 b3 d0 d1 d2 d3; obtain ⟨b0, b1, b2, b3⟩ := HO4.out.1.2; obtain ⟨d0, d1, d2, d3⟩ := HO4.out.2)
    | (have _h := HO4; go_at_call 9; refine (HC.out _).mono ?_; rintro e y5 ⟨rfl, ok⟩; have HO5 : Hid (((Below w.heap.size w y5) ∧ BxAt y5 ⟨w.heap.size, .int .i64 a, .int .i64 b, .int .i64 c⟩) ∧ BxAt y5 ⟨w.heap.size + 1, .int .i64 x, .int .i64 y, .int .i64 z⟩) := HK0.out _ _ HO4.out ok; clear ok HO4 b0 b1 b2 b3 d0 d1 d2 d3; obtain ⟨b0, b1, b2, b3⟩ := HO5.out.1.2; obtain ⟨d0, d1, d2, d3⟩ := HO5.out.2))
  have HKl : Hid (KeepP fun w1 => Below w.heap.size w w1 ∧ BxAt w1 ⟨w.heap.size + 1, .int .i64 x, .int .i64 y, .int .i64 z⟩ ∧ Rows8 w1 y5.heap.size [false, false, true, true, false, false, false, false]) := (keepBelow w).and ((keepV3 _).and (keepRows8 _ _))
  have HOl : Hid (Below w.heap.size w ((y5.alloc (.cells #[.string ⟨#[]⟩, .string ⟨#[61]⟩, .string ⟨#[60]⟩, .string ⟨#[60, 61]⟩, .string ⟨#[62]⟩, .string ⟨#[62, 61]⟩, .string ⟨#[126]⟩, .string ⟨#[94]⟩] 9)).alloc (.cells #[.bool false, .bool false, .bool true, .bool true, .bool false, .bool false, .bool false, .bool false] 4)) ∧ BxAt ((y5.alloc (.cells #[.string ⟨#[]⟩, .string ⟨#[61]⟩, .string ⟨#[60]⟩, .string ⟨#[60, 61]⟩, .string ⟨#[62]⟩, .string ⟨#[62, 61]⟩, .string ⟨#[126]⟩, .string ⟨#[94]⟩] 9)).alloc (.cells #[.bool false, .bool false, .bool true, .bool true, .bool false, .bool false, .bool false, .bool false] 4)) ⟨w.heap.size + 1, .int .i64 x, .int .i64 y, .int .i64 z⟩ ∧ Rows8 ((y5.alloc (.cells #[.string ⟨#[]⟩, .string ⟨#[61]⟩, .string ⟨#[60]⟩, .string ⟨#[60, 61]⟩, .string ⟨#[62]⟩, .string ⟨#[62, 61]⟩, .string ⟨#[126]⟩, .string ⟨#[94]⟩] 9)).alloc (.cells #[.bool false, .bool false, .bool true, .bool true, .bool false, .bool false, .bool false, .bool false] 4)) y5.heap.size [false, false, true, true, false, false, false, false]) := ⟨below_then HO5.out.1.1 (boxB2 _ _ _), (HO5.out.2).below (boxB2 _ _ _), rows8_new _ _ _ _ _ _ _ _ _⟩
  clear b0 b1 b2 b3 d0 d1 d2 d3
  go_loopw [12] (fun i wr => ∃ k : Nat, k ≤ 8 ∧ i = .int .i64 k ∧ (Below w.heap.size w wr ∧ BxAt wr ⟨w.heap.size + 1, .int .i64 x, .int .i64 y, .int .i64 z⟩ ∧ Rows8 wr y5.heap.size [false, false, true, true, false, false, false, false])) (fun i _ => 8 - (intOf i).toNat)
  case atStart => exact ⟨0, Nat.zero_le _, rfl, HOl.out⟩
  case round =>
    obtain ⟨k, hk, rfl, hk2⟩ := hrel
    have HO := hide3 hk2
    clear hk2 HOl
    by_cases hlt : k < 8
    · have c1 := HO.out.2.2.1 k hlt
      have HPk := hide3 (HPs.out k hlt)
      have HIk := hide3 (HIn.out k hlt)
      have HSZ : Hid ((sgs[k]'hlt).size ≤ 2) := by
        have : ∀ s ∈ sgs, s.size ≤ 2 := by decide
        exact this _ (List.getElem_mem _)
      have HOr : Hid ((Below w.heap.size w wr ∧ BxAt wr ⟨w.heap.size + 1, .int .i64 x, .int .i64 y, .int .i64 z⟩ ∧ Rows8 wr y5.heap.size [false, false, true, true, false, false, false, false]) ∧ wr.cell? ⟨y5.heap.size + 1, k, none⟩ = some (.bool (([false, false, true, true, false, false, false, false] : List Bool)[k]'hlt))) := ⟨HO.out, HO.out.2.2.2.1 k hlt⟩
      have hk8 : (k : Int) < 8 := by omega
      generalize sgs[k]'hlt = sg at *
      generalize ([false, false, true, true, false, false, false, false] : List Bool)[k]'hlt = wk at *
      generalize Rs k = Rk at *
      have sa := fun Wx : World => run_string_add_sum (P := Tryz.prog) (w := Wx) sg T (by have h1 := HSZ.out; have h2 := HT.out; omega)
      have HKr : Hid (KeepP fun w1 => ((Below w.heap.size w w1 ∧ BxAt w1 ⟨w.heap.size + 1, .int .i64 x, .int .i64 y, .int .i64 z⟩ ∧ Rows8 w1 y5.heap.size [false, false, true, true, false, false, false, false]) ∧ (w1.cell? ⟨y5.heap.size + 1, k, none⟩ = some (.bool wk) ∧ y5.heap.size + 1 < w1.heap.size)) ∧ True) := (HKl.out.and (fun _ _ h hb => ⟨(hb.cell (p := ⟨y5.heap.size + 1, k, none⟩) h.2).trans h.1, Nat.lt_of_lt_of_le h.2 hb.size⟩)).and (fun _ _ _ _ => trivial)
      go_wp2_with (go_at_call 10; refine (HPk.out _ HO.out.1).mono ?_; rintro e yp ⟨vp, rfl, ok⟩; have HO' : Hid ((((Below w.heap.size w yp ∧ BxAt yp ⟨w.heap.size + 1, .int .i64 x, .int .i64 y, .int .i64 z⟩ ∧ Rows8 yp y5.heap.size [false, false, true, true, false, false, false, false]) ∧ (yp.cell? ⟨y5.heap.size + 1, k, none⟩ = some (.bool wk) ∧ y5.heap.size + 1 < yp.heap.size)) ∧ True) ∧ SpansR yp vp Rk) := ⟨HKr.out _ _ ⟨⟨HOr.out.1, HOr.out.2, HOr.out.1.2.2.2.2⟩, trivial⟩ ok.2, ok.1⟩; clear ok HO HOr)
      have HK : Hid (KeepP fun w1 => (((Below w.heap.size w w1 ∧ BxAt w1 ⟨w.heap.size + 1, .int .i64 x, .int .i64 y, .int .i64 z⟩ ∧ Rows8 w1 y5.heap.size [false, false, true, true, false, false, false, false]) ∧ (w1.cell? ⟨y5.heap.size + 1, k, none⟩ = some (.bool wk) ∧ y5.heap.size + 1 < w1.heap.size)) ∧ True) ∧ SpansR w1 vp Rk) := HKr.out.and (keepSpR vp Rk)
      have HO := HO'
      clear HO'
      have HII : Hid (∀ w1, ((((Below w.heap.size w w1 ∧ BxAt w1 ⟨w.heap.size + 1, .int .i64 x, .int .i64 y, .int .i64 z⟩ ∧ Rows8 w1 y5.heap.size [false, false, true, true, false, false, false, false]) ∧ (w1.cell? ⟨y5.heap.size + 1, k, none⟩ = some (.bool wk) ∧ y5.heap.size + 1 < w1.heap.size)) ∧ True) ∧ SpansR w1 vp Rk) → Calls Tryz.prog 11 #[vp, .agg #[.int .i64 x, .int .i64 y, .int .i64 z]] w1 fun e w' => e = .returned (.bool wk) ∧ Below w1.heap.size w1 w') := fun w1 h => HIk.out w1 vp h.2
      refine wp_region_keep HK.out (by kernel_rfl) (by kernel_rfl) (by first | exact HO.out | exact HK.out.drew HO.out) ?_
      intro C hin hout
      have HIN := hide3 hin
      have HOUT := hide3 hout
      clear hin hout HO
      repeat
        (with_reducible refine wpQuiet_step (fun K hK => ?_)
         go_simp
         first
           | (refine hK _ ?_; clear hK K)
           | (apply Exists.intro; refine ⟨fun w1 hC => ?_, hK _ ?_⟩; (focus ((first | (go_at_call 11; with_reducible exact callC' HIN.out HOUT.out HK.out HII.out w1 hC) | (exact rfl) | (obtain ⟨⟨⟨⟨hb0, ⟨d0, d1, d2, d3⟩, hr8⟩, cw, cl⟩, _⟩, hsp⟩ := HOUT.out w1 hC; clear hC; go_simp; first | done | exact rfl)); done)); clear hK K))
      refine wpQuiet_nil ?_
      intro wn hC
      have HO := hide3 (HOUT.out _ hC)
      clear hC HIN HOUT C
      obtain ⟨⟨⟨⟨hb0, ⟨d0, d1, d2, d3⟩, hr8⟩, cw, cl⟩, _⟩, hsp⟩ := HO.out
      have HB := hide3 hb0
      have HX := hide3 d3
      have HR8 := hide3 hr8
      have HDD : Hid (BxAt wn ⟨w.heap.size + 1, .int .i64 x, .int .i64 y, .int .i64 z⟩) := ⟨d0, d1, d2, d3⟩
      clear hb0 hr8 hsp
      go_wp2
      exact ⟨⟨k + 1, by omega, by go_num, HB.out, HDD.out, HR8.out⟩, by simp [intOf]; omega⟩
    · have hke : k = 8 := by omega
      subst hke
      go_wp2
      go_ret
      exact ⟨rfl, HO.out.1⟩
end Go.Proofs.YtpdafkfclkedjabGreatDoor
