/- The walk of SpanFolds. -/
import Derived.Test.YtkmgfemhfibikaaGreatDoorFd5
import Derived.Test.YtkmgfemhfibikaaGreatDoorKn2
namespace Go.Proofs.YtkmgfemhfibikaaGreatDoor
open Go.RowKit
set_option maxRecDepth 100000

set_option maxHeartbeats 6400000 in
theorem folds_walk (va vb : Value) (X Z P : Rg) (ex ez ep : Int) (w : World) (lx : X.length ≤ 64) (lz : Z.length ≤ 64) (lp : P.length ≤ 64)
    (HKn : Hid (∀ w1, Below w.heap.size w w1 → Says 13 #[] w1 true))
    (HX : Hid (∀ w1, Below w.heap.size w w1 → NewOw 5 #[va, vb] w1 ex X)) (HY : Hid (∀ w1, Below w.heap.size w w1 → NewOw 6 #[va, vb] w1 ex X))
    (HZ : Hid (∀ w1, Below w.heap.size w w1 → NewOw 8 #[va, vb] w1 ez Z)) (HU : Hid (∀ w1, Below w.heap.size w w1 → NewOw 9 #[va, vb] w1 ez Z))
    (HP : Hid (∀ w1, Below w.heap.size w w1 → NewOw 10 #[va, vb] w1 ep P)) (HQ : Hid (∀ w1, Below w.heap.size w w1 → NewOw 11 #[va, vb] w1 ep P))
    (HSm : Hid (∀ w1 x y (R : Rg), R.length ≤ 64 → OwnS w1 w.heap.size x (R.map spR) → OwnS w1 w.heap.size y (R.map spR) → Says 7 #[x, y] w1 true))
    (HOv : Hid (∀ w1 x n, RowW w1 w.heap.size x n → n ≤ 64 → Calls Tryz.prog 12 #[x] w1 fun e w' => e = .returned (.tuple #[]) ∧ Below w.heap.size w1 w' ∧ RowsStay w1 w')) :
    Calls Tryz.prog 3 #[va, vb] w fun e w' => e = .returned (.bool true) ∧ Below w.heap.size w w' := by
  have HK0 : Hid (KeepP fun w1 => Below w.heap.size w w1) := keepBelow w
  unfold NewOw at *
  go_enter Tryz.func3, Tryz.ntmps3
  go_wp2_with fail
  go_loopw [5] (fun i wr => ∃ k : Nat, k ≤ 2 ∧ i = .int .i64 k ∧ Below w.heap.size w wr) (fun i _ => 2 - (intOf i).toNat)
  case atStart => exact ⟨0, Nat.zero_le _, rfl, Below.refl _ _⟩
  case round =>
    obtain ⟨k, hk, rfl, hb⟩ := hrel
    have HO0 := hide3 hb
    clear hb
    by_cases hlt : k < 2
    · go_wp2_with (first
        | (have _h := HO0; go_at_call 5; refine (HX.out _ HO0.out).mono ?_; rintro e y1 ⟨vx, rfl, ok⟩; have HK1 := hide3 (HK0.out.and (keepOwn w.heap.size vx (X.map spR))); have HO1 : Hid (Below w.heap.size w y1 ∧ OwnS y1 w.heap.size vx (X.map spR)) := ⟨below_then HO0.out ok.2, ok.1.base HO0.out.size⟩; clear ok HO0)
        | (have _h := HO1; go_at_call 6; refine (HY.out _ HO1.out.1).mono ?_; rintro e y2 ⟨vy, rfl, ok⟩; have HO2 : Hid ((Below w.heap.size w y2 ∧ OwnS y2 w.heap.size vx (X.map spR)) ∧ OwnS y2 w.heap.size vy (X.map spR)) := ⟨HK1.out _ _ HO1.out ok.2, ok.1.base HO1.out.1.size⟩; clear ok HO1)
        | (have _h := HO2; go_at_call 7; refine (HSm.out _ _ _ X lx HO2.out.1.2 HO2.out.2).mono ?_; rintro e y3 ⟨rfl, ok⟩; have HO3 : Hid (Below w.heap.size w y3 ∧ OwnS y3 w.heap.size vx (X.map spR)) := HK1.out _ _ HO2.out.1 ok; clear ok HO2)
        | (have _h := HO3; go_at_call 8; refine (HZ.out _ HO3.out.1).mono ?_; rintro e y4 ⟨vz, rfl, ok⟩; have HK4 := hide3 (HK1.out.and (keepOwn w.heap.size vz (Z.map spR))); have HO4 : Hid ((Below w.heap.size w y4 ∧ OwnS y4 w.heap.size vx (X.map spR)) ∧ OwnS y4 w.heap.size vz (Z.map spR)) := ⟨HK1.out _ _ HO3.out ok.2, ok.1.base HO3.out.1.size⟩; clear ok HO3)
        | (have _h := HO4; go_at_call 9; refine (HU.out _ HO4.out.1.1).mono ?_; rintro e y5 ⟨vu, rfl, ok⟩; have HO5 : Hid (((Below w.heap.size w y5 ∧ OwnS y5 w.heap.size vx (X.map spR)) ∧ OwnS y5 w.heap.size vz (Z.map spR)) ∧ OwnS y5 w.heap.size vu (Z.map spR)) := ⟨HK4.out _ _ HO4.out ok.2, ok.1.base HO4.out.1.1.size⟩; clear ok HO4)
        | (have _h := HO5; go_at_call 7; refine (HSm.out _ _ _ Z lz HO5.out.1.2 HO5.out.2).mono ?_; rintro e y6 ⟨rfl, ok⟩; have HO6 : Hid ((Below w.heap.size w y6 ∧ OwnS y6 w.heap.size vx (X.map spR)) ∧ OwnS y6 w.heap.size vz (Z.map spR)) := HK4.out _ _ HO5.out.1 ok; clear ok HO5)
        | (have _h := HO6; go_at_call 10; refine (HP.out _ HO6.out.1.1).mono ?_; rintro e y7 ⟨vp, rfl, ok⟩; have HK7 := hide3 (HK4.out.and (keepOwn w.heap.size vp (P.map spR))); have HO7 : Hid (((Below w.heap.size w y7 ∧ OwnS y7 w.heap.size vx (X.map spR)) ∧ OwnS y7 w.heap.size vz (Z.map spR)) ∧ OwnS y7 w.heap.size vp (P.map spR)) := ⟨HK4.out _ _ HO6.out ok.2, ok.1.base HO6.out.1.1.size⟩; clear ok HO6)
        | (have _h := HO7; go_at_call 11; refine (HQ.out _ HO7.out.1.1.1).mono ?_; rintro e y8 ⟨vq, rfl, ok⟩; have HO8 : Hid ((((Below w.heap.size w y8 ∧ OwnS y8 w.heap.size vx (X.map spR)) ∧ OwnS y8 w.heap.size vz (Z.map spR)) ∧ OwnS y8 w.heap.size vp (P.map spR)) ∧ OwnS y8 w.heap.size vq (P.map spR)) := ⟨HK7.out _ _ HO7.out ok.2, ok.1.base HO7.out.1.1.1.size⟩; clear ok HO7)
        | (have _h := HO8; go_at_call 7; refine (HSm.out _ _ _ P lp HO8.out.1.2 HO8.out.2).mono ?_; rintro e y9 ⟨rfl, ok⟩; have HO9 : Hid (((Below w.heap.size w y9 ∧ OwnS y9 w.heap.size vx (X.map spR)) ∧ OwnS y9 w.heap.size vz (Z.map spR)) ∧ OwnS y9 w.heap.size vp (P.map spR)) := HK7.out _ _ HO8.out.1 ok; clear ok HO8)
        | (have _h := HO9; go_at_call 12; refine (HOv.out _ _ _ ⟨_, HO9.out.1.1.2⟩ (by rw [List.length_map]; exact lx)).mono ?_; rintro e y10 ⟨rfl, ok⟩; have HO10 : Hid (Below w.heap.size w y10 ∧ RowW y10 w.heap.size vz (Z.map spR).length ∧ RowW y10 w.heap.size vp (P.map spR).length) := ⟨HO9.out.1.1.1.trans ok.1, ok.2 _ _ _ ⟨_, HO9.out.1.2⟩, ok.2 _ _ _ ⟨_, HO9.out.2⟩⟩; clear ok HO9)
        | (have _h := HO10; go_at_call 12; refine (HOv.out _ _ _ HO10.out.2.1 (by rw [List.length_map]; exact lz)).mono ?_; rintro e y11 ⟨rfl, ok⟩; have HO11 : Hid (Below w.heap.size w y11 ∧ RowW y11 w.heap.size vp (P.map spR).length) := ⟨HO10.out.1.trans ok.1, ok.2 _ _ _ HO10.out.2.2⟩; clear ok HO10)
        | (have _h := HO11; go_at_call 12; refine (HOv.out _ _ _ HO11.out.2 (by rw [List.length_map]; exact lp)).mono ?_; rintro e y12 ⟨rfl, ok⟩; have HO12 : Hid (Below w.heap.size w y12) := HO11.out.1.trans ok.1; clear ok HO11))
      exact ⟨⟨k + 1, by omega, by go_num, HO12.out⟩, by simp [intOf]; omega⟩
    · go_wp2_with (go_at_call 13; refine (HKn.out _ HO0.out).mono ?_; rintro e y1 ⟨rfl, ok⟩)
      go_ret
      exact ⟨rfl, below_then HO0.out ok⟩

theorem fit_le (R : Rg) : (fitR R).length ≤ 64 := by
  unfold fitR
  split
  · assumption
  · exact Nat.zero_le _

/-- SpanFolds of any two lists. -/
theorem spanFolds_any {La Lb : List Sp} {va vb : Value} {w : World} (he : Env w) (hf : FL w) (ha : SpansC w va La) (hb : SpansC w vb Lb) :
    Calls Tryz.prog 3 #[va, vb] w fun e w' => e = .returned (.bool true) ∧ Below w.heap.size w w' := by
  have HKn : Hid (∀ w1, Below w.heap.size w w1 → Says 13 #[] w1 true) := fun w1 h => known_any w1 (he.below h) (hf.below h)
  have HSm : Hid (∀ w1 x y (R : Rg), R.length ≤ 64 → OwnS w1 w.heap.size x (R.map spR) → OwnS w1 w.heap.size y (R.map spR) → Says 7 #[x, y] w1 true) := fun w1 x y R hR h1 h2 => same_rg hR h1.spans h2.spans
  have HOv : Hid (∀ w1 x n, RowW w1 w.heap.size x n → n ≤ 64 → Calls Tryz.prog 12 #[x] w1 fun e w' => e = .returned (.tuple #[]) ∧ Below w.heap.size w1 w' ∧ RowsStay w1 w') := fun w1 x n h1 h2 => over_any h1 (by omega)
  rcases rg_or ha with h | ⟨A, rfl, hA, la, hRa⟩
  · have hno : (mayL La && mayL Lb) = false := by rw [h]; rfl
    refine folds_walk va vb [] [] [] 21 21 21 w (by decide) (by decide) (by decide) HKn ?_ ?_ ?_ ?_ ?_ ?_ HSm HOv
    · exact fun w1 hw => (Meet_no (ha.1.below hw) (hb.1.below hw) hno).mono fun e w' ⟨h1, h2⟩ => ⟨_, h1, OwnS.nil _ _, h2⟩
    · exact fun w1 hw => rMeet_of (two_no 109 (ha.1.below hw) (hb.1.below hw) hno)
    · exact fun w1 hw => (Join_no (ha.1.below hw) (hb.1.below hw) hno).mono fun e w' ⟨h1, h2⟩ => ⟨_, h1, OwnS.nil _ _, h2⟩
    · exact fun w1 hw => rJoin_of (two_no 106 (ha.1.below hw) (hb.1.below hw) hno)
    · exact fun w1 hw => (Cut_no (ha.1.below hw) (hb.1.below hw) hno).mono fun e w' ⟨h1, h2⟩ => ⟨_, h1, OwnS.nil _ _, h2⟩
    · exact fun w1 hw => rCut_of (two_no 99 (ha.1.below hw) (hb.1.below hw) hno)
  · rcases rg_or hb with h | ⟨B, rfl, hB, lb, hRb⟩
    · have hno : (mayL (A.map spR) && mayL Lb) = false := by rw [h]; simp
      refine folds_walk va vb [] [] [] 21 21 21 w (by decide) (by decide) (by decide) HKn ?_ ?_ ?_ ?_ ?_ ?_ HSm HOv
      · exact fun w1 hw => (Meet_no (ha.1.below hw) (hb.1.below hw) hno).mono fun e w' ⟨h1, h2⟩ => ⟨_, h1, OwnS.nil _ _, h2⟩
      · exact fun w1 hw => rMeet_of (two_no 109 (ha.1.below hw) (hb.1.below hw) hno)
      · exact fun w1 hw => (Join_no (ha.1.below hw) (hb.1.below hw) hno).mono fun e w' ⟨h1, h2⟩ => ⟨_, h1, OwnS.nil _ _, h2⟩
      · exact fun w1 hw => rJoin_of (two_no 106 (ha.1.below hw) (hb.1.below hw) hno)
      · exact fun w1 hw => (Cut_no (ha.1.below hw) (hb.1.below hw) hno).mono fun e w' ⟨h1, h2⟩ => ⟨_, h1, OwnS.nil _ _, h2⟩
      · exact fun w1 hw => rCut_of (two_no 99 (ha.1.below hw) (hb.1.below hw) hno)
    · refine folds_walk va vb (fitR (meetR A B)) (fitR (joinR A B)) (fitR (cutR A B)) (fullE (meetR A B).length) (fullE (joinR A B).length) (fullE (cutR A B).length) w (fit_le _) (fit_le _) (fit_le _) HKn ?_ ?_ ?_ ?_ ?_ ?_ HSm HOv
      · exact fun w1 hw => Meet_rg hA hB la lb (hRa.below hw) (hRb.below hw)
      · exact fun w1 hw => rMeet_of (by have := two_rg 109 hA hB la lb (hRa.below hw) (hRb.below hw); rw [foldK_meet hA hB] at this; exact this)
      · exact fun w1 hw => Join_rg hA hB la lb (hf.below hw) (hRa.below hw) (hRb.below hw)
      · exact fun w1 hw => rJoin_of (by have := two_rg 106 hA hB la lb (hRa.below hw) (hRb.below hw); rw [foldK_join hA hB] at this; exact this)
      · exact fun w1 hw => Cut_rg hA hB la lb (hRa.below hw) (hRb.below hw)
      · exact fun w1 hw => rCut_of (by have := two_rg 99 hA hB la lb (hRa.below hw) (hRb.below hw); rw [foldK_cut hA hB] at this; exact this)
end Go.Proofs.YtkmgfemhfibikaaGreatDoor
