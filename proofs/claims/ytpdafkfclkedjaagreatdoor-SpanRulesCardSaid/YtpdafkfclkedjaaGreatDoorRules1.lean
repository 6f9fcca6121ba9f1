/- The walk of SpanRules. -/
import Derived.Test.YtpdafkfclkedjaaGreatDoorPoints2
namespace Go.Proofs.YtpdafkfclkedjaaGreatDoor
open Go.RowKit
set_option maxRecDepth 100000

/-- A call that answers with an empty list and no error. -/
def NilSp (f : Nat) (va vb : Value) (w : World) : Prop := Calls Tryz.prog f #[va, vb] w fun e w' => ∃ ad cap, e = .returned (.tuple #[.slice ad 0 cap, .int .i64 0]) ∧ SpansR w' (.slice ad 0 cap) [] ∧ Below w.heap.size w w'
def OneSp (f : Nat) (args : Array Value) (w : World) (X : Rg) : Prop := Calls Tryz.prog f args w fun e w' => ∃ v, e = .returned v ∧ SpansR w' v X ∧ Below w.heap.size w w'

set_option maxHeartbeats 3200000 in
theorem rules_0_0_0 (va vb : Value) (A X U N D : Rg) (eg : Int) (w : World)
    (lx : X.length ≤ 64) (lu : U.length ≤ 64)
    (HKn : Hid (∀ w1, Below w.heap.size w w1 → Says 13 #[] w1 true)) (HMa : Hid (∀ w1, Below w.heap.size w w1 → Says 9 #[va] w1 true)) (HMb : Hid (∀ w1, Below w.heap.size w w1 → Says 9 #[vb] w1 true))
    (HX : Hid (∀ w1, Below w.heap.size w w1 → NewSp 14 va vb w1 0 X)) (HX2 : Hid (∀ w1, Below w.heap.size w w1 → NewSp 14 vb va w1 0 X)) (HU : Hid (∀ w1, Below w.heap.size w w1 → NewSp 17 va vb w1 eg U)) (HU2 : Hid (∀ w1, Below w.heap.size w w1 → NewSp 17 vb va w1 eg U))
    (HSm : Hid (∀ w1 x y (R : Rg), R.length ≤ 64 → SpansR w1 x R → SpansR w1 y R → Says 16 #[x, y] w1 true))
    (HP : Hid (∀ w1, Below w.heap.size w w1 → NewSp 14 va va w1 0 A)) (HQ : Hid (∀ w1, Below w.heap.size w w1 → NilSp 19 va va w1)) (HSa : Hid (∀ w1 x, Below w.heap.size w w1 → SpansR w1 x A → Says 16 #[x, va] w1 true))
    (HAl : Hid (∀ w1, Below w.heap.size w w1 → OneSp 26 #[] w1 allR)) (HN : Hid (∀ w1 x, Below w.heap.size w w1 → SpansR w1 x allR → NewSp 19 x va w1 0 N))
    (HD : Hid (∀ w1, Below w.heap.size w w1 → NewSp 19 va vb w1 0 D))
    (HBk : Hid (∀ w1 x y, Below w.heap.size w w1 → SpansR w1 x allR → SpansR w1 y N → NewSp 19 x y w1 0 A))
    (HJ : Hid (∀ w1 x y, Below w.heap.size w w1 → SpansR w1 x X → SpansR w1 y D → NewSp 17 x y w1 0 A))
    : Calls Tryz.prog 8 #[va, vb] w fun e w' => e = .returned (.bool true) ∧ Below w.heap.size w w' := by
  have HK0 : Hid (KeepP fun w1 => Below w.heap.size w w1) := keepBelow w
  have HO0 : Hid (Below w.heap.size w w) := Below.refl _ _
  go_enter Tryz.func8, Tryz.ntmps8
  go_wp2_with (first
    | (have _h := HO0; go_at_call 13; refine (HKn.out _ (HO0.out)).mono ?_; rintro e y1 ⟨rfl, ok⟩; have HO1 : Hid (Below w.heap.size w y1) := HK0.out _ _ HO0.out ok; clear ok HO0)
    | (have _h := HO1; go_at_call 9; refine (HMa.out _ (HO1.out)).mono ?_; rintro e y2 ⟨rfl, ok⟩; have HO2 : Hid (Below w.heap.size w y2) := HK0.out _ _ HO1.out ok; clear ok HO1)
    | (have _h := HO2; go_at_call 9; refine (HMb.out _ (HO2.out)).mono ?_; rintro e y3 ⟨rfl, ok⟩; have HO3 : Hid (Below w.heap.size w y3) := HK0.out _ _ HO2.out ok; clear ok HO2)
    | (have _h := HO3; go_at_call 14; refine (HX.out _ (HO3.out)).mono ?_; rintro e y4 ⟨vx, rfl, ok⟩; have HK1 := hide3 (HK0.out.and (keepSpR vx X)); have HO4 : Hid ((Below w.heap.size w y4) ∧ SpansR y4 vx X) := ⟨HK0.out _ _ HO3.out ok.2, ok.1⟩; clear ok HO3)
    | (have _h := HO4; go_at_call 14; refine (HX2.out _ (HO4.out.1)).mono ?_; rintro e y5 ⟨vy, rfl, ok⟩; have HK2 := hide3 (HK1.out.and (keepSpR vy X)); have HO5 : Hid (((Below w.heap.size w y5) ∧ SpansR y5 vx X) ∧ SpansR y5 vy X) := ⟨HK1.out _ _ HO4.out ok.2, ok.1⟩; clear ok HO4)
    | (have _h := HO5; go_at_call 17; refine (HU.out _ (HO5.out.1.1)).mono ?_; rintro e y6 ⟨vu, rfl, ok⟩; have HK3 := hide3 (HK2.out.and (keepSpR vu U)); have HO6 : Hid ((((Below w.heap.size w y6) ∧ SpansR y6 vx X) ∧ SpansR y6 vy X) ∧ SpansR y6 vu U) := ⟨HK2.out _ _ HO5.out ok.2, ok.1⟩; clear ok HO5)
    | (have _h := HO6; go_at_call 17; refine (HU2.out _ (HO6.out.1.1.1)).mono ?_; rintro e y7 ⟨vv, rfl, ok⟩; have HK4 := hide3 (HK3.out.and (keepSpR vv U)); have HO7 : Hid (((((Below w.heap.size w y7) ∧ SpansR y7 vx X) ∧ SpansR y7 vy X) ∧ SpansR y7 vu U) ∧ SpansR y7 vv U) := ⟨HK3.out _ _ HO6.out ok.2, ok.1⟩; clear ok HO6)
    | (have _h := HO7; go_at_call 16; refine (HSm.out _ _ _ X lx (HO7.out.1.1.1.2) (HO7.out.1.1.2)).mono ?_; rintro e y8 ⟨rfl, ok⟩; have HO8 : Hid (((((Below w.heap.size w y8) ∧ SpansR y8 vx X) ∧ SpansR y8 vy X) ∧ SpansR y8 vu U) ∧ SpansR y8 vv U) := HK4.out _ _ HO7.out ok; clear ok HO7)
    | (have _h := HO8; go_at_call 16; refine (HSm.out _ _ _ U lu (HO8.out.1.2) (HO8.out.2)).mono ?_; rintro e y9 ⟨rfl, ok⟩; have HO9 : Hid (((((Below w.heap.size w y9) ∧ SpansR y9 vx X) ∧ SpansR y9 vy X) ∧ SpansR y9 vu U) ∧ SpansR y9 vv U) := HK4.out _ _ HO8.out ok; clear ok HO8)
    | (have _h := HO9; go_at_call 14; refine (HP.out _ (HO9.out.1.1.1.1)).mono ?_; rintro e y10 ⟨vp, rfl, ok⟩; have HK5 := hide3 (HK4.out.and (keepSpR vp A)); have HO10 : Hid ((((((Below w.heap.size w y10) ∧ SpansR y10 vx X) ∧ SpansR y10 vy X) ∧ SpansR y10 vu U) ∧ SpansR y10 vv U) ∧ SpansR y10 vp A) := ⟨HK4.out _ _ HO9.out ok.2, ok.1⟩; clear ok HO9)
    | (have _h := HO10; go_at_call 19; refine (HQ.out _ (HO10.out.1.1.1.1.1)).mono ?_; rintro e y11 ⟨adq, capq, rfl, ok⟩; have HK6 := hide3 (HK5.out.and (keepSpR (.slice adq 0 capq) [])); have HO11 : Hid (((((((Below w.heap.size w y11) ∧ SpansR y11 vx X) ∧ SpansR y11 vy X) ∧ SpansR y11 vu U) ∧ SpansR y11 vv U) ∧ SpansR y11 vp A) ∧ SpansR y11 (.slice adq 0 capq) []) := ⟨HK5.out _ _ HO10.out ok.2, ok.1⟩; clear ok HO10)
    | (have _h := HO11; go_at_call 16; refine (HSa.out _ _ (HO11.out.1.1.1.1.1.1) (HO11.out.1.2)).mono ?_; rintro e y12 ⟨rfl, ok⟩; have HO12 : Hid (((((((Below w.heap.size w y12) ∧ SpansR y12 vx X) ∧ SpansR y12 vy X) ∧ SpansR y12 vu U) ∧ SpansR y12 vv U) ∧ SpansR y12 vp A) ∧ SpansR y12 (.slice adq 0 capq) []) := HK6.out _ _ HO11.out ok; clear ok HO11)
    | (have _h := HO12; go_at_call 26; refine (HAl.out _ (HO12.out.1.1.1.1.1.1)).mono ?_; rintro e y13 ⟨v0, rfl, ok⟩; have HK7 := hide3 (HK6.out.and (keepSpR v0 allR)); have HO13 : Hid ((((((((Below w.heap.size w y13) ∧ SpansR y13 vx X) ∧ SpansR y13 vy X) ∧ SpansR y13 vu U) ∧ SpansR y13 vv U) ∧ SpansR y13 vp A) ∧ SpansR y13 (.slice adq 0 capq) []) ∧ SpansR y13 v0 allR) := ⟨HK6.out _ _ HO12.out ok.2, ok.1⟩; clear ok HO12)
    | (have _h := HO13; go_at_call 19; refine (HN.out _ _ (HO13.out.1.1.1.1.1.1.1) (HO13.out.2)).mono ?_; rintro e y14 ⟨vn, rfl, ok⟩; have HK8 := hide3 (HK7.out.and (keepSpR vn N)); have HO14 : Hid (((((((((Below w.heap.size w y14) ∧ SpansR y14 vx X) ∧ SpansR y14 vy X) ∧ SpansR y14 vu U) ∧ SpansR y14 vv U) ∧ SpansR y14 vp A) ∧ SpansR y14 (.slice adq 0 capq) []) ∧ SpansR y14 v0 allR) ∧ SpansR y14 vn N) := ⟨HK7.out _ _ HO13.out ok.2, ok.1⟩; clear ok HO13)
    | (have _h := HO14; go_at_call 26; refine (HAl.out _ (HO14.out.1.1.1.1.1.1.1.1)).mono ?_; rintro e y15 ⟨v1, rfl, ok⟩; have HK9 := hide3 (HK8.out.and (keepSpR v1 allR)); have HO15 : Hid ((((((((((Below w.heap.size w y15) ∧ SpansR y15 vx X) ∧ SpansR y15 vy X) ∧ SpansR y15 vu U) ∧ SpansR y15 vv U) ∧ SpansR y15 vp A) ∧ SpansR y15 (.slice adq 0 capq) []) ∧ SpansR y15 v0 allR) ∧ SpansR y15 vn N) ∧ SpansR y15 v1 allR) := ⟨HK8.out _ _ HO14.out ok.2, ok.1⟩; clear ok HO14)
    | (have _h := HO15; go_at_call 19; refine (HBk.out _ _ _ (HO15.out.1.1.1.1.1.1.1.1.1) (HO15.out.2) (HO15.out.1.2)).mono ?_; rintro e y16 ⟨vk, rfl, ok⟩; have HK10 := hide3 (HK9.out.and (keepSpR vk A)); have HO16 : Hid (((((((((((Below w.heap.size w y16) ∧ SpansR y16 vx X) ∧ SpansR y16 vy X) ∧ SpansR y16 vu U) ∧ SpansR y16 vv U) ∧ SpansR y16 vp A) ∧ SpansR y16 (.slice adq 0 capq) []) ∧ SpansR y16 v0 allR) ∧ SpansR y16 vn N) ∧ SpansR y16 v1 allR) ∧ SpansR y16 vk A) := ⟨HK9.out _ _ HO15.out ok.2, ok.1⟩; clear ok HO15)
    | (have _h := HO16; go_at_call 16; refine (HSa.out _ _ (HO16.out.1.1.1.1.1.1.1.1.1.1) (HO16.out.2)).mono ?_; rintro e y17 ⟨rfl, ok⟩; have HO17 : Hid (((((((((((Below w.heap.size w y17) ∧ SpansR y17 vx X) ∧ SpansR y17 vy X) ∧ SpansR y17 vu U) ∧ SpansR y17 vv U) ∧ SpansR y17 vp A) ∧ SpansR y17 (.slice adq 0 capq) []) ∧ SpansR y17 v0 allR) ∧ SpansR y17 vn N) ∧ SpansR y17 v1 allR) ∧ SpansR y17 vk A) := HK10.out _ _ HO16.out ok; clear ok HO16)
    | (have _h := HO17; go_at_call 19; refine (HD.out _ (HO17.out.1.1.1.1.1.1.1.1.1.1)).mono ?_; rintro e y18 ⟨vd, rfl, ok⟩; have HK11 := hide3 (HK10.out.and (keepSpR vd D)); have HO18 : Hid ((((((((((((Below w.heap.size w y18) ∧ SpansR y18 vx X) ∧ SpansR y18 vy X) ∧ SpansR y18 vu U) ∧ SpansR y18 vv U) ∧ SpansR y18 vp A) ∧ SpansR y18 (.slice adq 0 capq) []) ∧ SpansR y18 v0 allR) ∧ SpansR y18 vn N) ∧ SpansR y18 v1 allR) ∧ SpansR y18 vk A) ∧ SpansR y18 vd D) := ⟨HK10.out _ _ HO17.out ok.2, ok.1⟩; clear ok HO17)
    | (have _h := HO18; go_at_call 17; refine (HJ.out _ _ _ (HO18.out.1.1.1.1.1.1.1.1.1.1.1) (HO18.out.1.1.1.1.1.1.1.1.1.1.2) (HO18.out.2)).mono ?_; rintro e y19 ⟨vj, rfl, ok⟩; have HK12 := hide3 (HK11.out.and (keepSpR vj A)); have HO19 : Hid (((((((((((((Below w.heap.size w y19) ∧ SpansR y19 vx X) ∧ SpansR y19 vy X) ∧ SpansR y19 vu U) ∧ SpansR y19 vv U) ∧ SpansR y19 vp A) ∧ SpansR y19 (.slice adq 0 capq) []) ∧ SpansR y19 v0 allR) ∧ SpansR y19 vn N) ∧ SpansR y19 v1 allR) ∧ SpansR y19 vk A) ∧ SpansR y19 vd D) ∧ SpansR y19 vj A) := ⟨HK11.out _ _ HO18.out ok.2, ok.1⟩; clear ok HO18)
    | (have _h := HO19; go_at_call 16; refine (HSa.out _ _ (HO19.out.1.1.1.1.1.1.1.1.1.1.1.1) (HO19.out.2)).mono ?_; rintro e y20 ⟨rfl, ok⟩; have HO20 : Hid (((((((((((((Below w.heap.size w y20) ∧ SpansR y20 vx X) ∧ SpansR y20 vy X) ∧ SpansR y20 vu U) ∧ SpansR y20 vv U) ∧ SpansR y20 vp A) ∧ SpansR y20 (.slice adq 0 capq) []) ∧ SpansR y20 v0 allR) ∧ SpansR y20 vn N) ∧ SpansR y20 v1 allR) ∧ SpansR y20 vk A) ∧ SpansR y20 vd D) ∧ SpansR y20 vj A) := HK12.out _ _ HO19.out ok; clear ok HO19))
  go_ret
  exact ⟨rfl, HO20.out.1.1.1.1.1.1.1.1.1.1.1.1⟩

set_option maxHeartbeats 3200000 in
theorem rules_0_0_26 (va vb : Value) (A X U N D : Rg) (eg : Int) (w : World)
    (lx : X.length ≤ 64) (lu : U.length ≤ 64)
    (HKn : Hid (∀ w1, Below w.heap.size w w1 → Says 13 #[] w1 true)) (HMa : Hid (∀ w1, Below w.heap.size w w1 → Says 9 #[va] w1 true)) (HMb : Hid (∀ w1, Below w.heap.size w w1 → Says 9 #[vb] w1 true))
    (HX : Hid (∀ w1, Below w.heap.size w w1 → NewSp 14 va vb w1 0 X)) (HX2 : Hid (∀ w1, Below w.heap.size w w1 → NewSp 14 vb va w1 0 X)) (HU : Hid (∀ w1, Below w.heap.size w w1 → NewSp 17 va vb w1 eg U)) (HU2 : Hid (∀ w1, Below w.heap.size w w1 → NewSp 17 vb va w1 eg U))
    (HSm : Hid (∀ w1 x y (R : Rg), R.length ≤ 64 → SpansR w1 x R → SpansR w1 y R → Says 16 #[x, y] w1 true))
    (HP : Hid (∀ w1, Below w.heap.size w w1 → NewSp 14 va va w1 0 A)) (HQ : Hid (∀ w1, Below w.heap.size w w1 → NilSp 19 va va w1)) (HSa : Hid (∀ w1 x, Below w.heap.size w w1 → SpansR w1 x A → Says 16 #[x, va] w1 true))
    (HAl : Hid (∀ w1, Below w.heap.size w w1 → OneSp 26 #[] w1 allR)) (HN : Hid (∀ w1 x, Below w.heap.size w w1 → SpansR w1 x allR → NewSp 19 x va w1 0 N))
    (HD : Hid (∀ w1, Below w.heap.size w w1 → NewSp 19 va vb w1 26 D))
    (HBk : Hid (∀ w1 x y, Below w.heap.size w w1 → SpansR w1 x allR → SpansR w1 y N → NewSp 19 x y w1 0 A))
    : Calls Tryz.prog 8 #[va, vb] w fun e w' => e = .returned (.bool true) ∧ Below w.heap.size w w' := by
  have HK0 : Hid (KeepP fun w1 => Below w.heap.size w w1) := keepBelow w
  have HO0 : Hid (Below w.heap.size w w) := Below.refl _ _
  go_enter Tryz.func8, Tryz.ntmps8
  go_wp2_with (first
    | (have _h := HO0; go_at_call 13; refine (HKn.out _ (HO0.out)).mono ?_; rintro e y1 ⟨rfl, ok⟩; have HO1 : Hid (Below w.heap.size w y1) := HK0.out _ _ HO0.out ok; clear ok HO0)
    | (have _h := HO1; go_at_call 9; refine (HMa.out _ (HO1.out)).mono ?_; rintro e y2 ⟨rfl, ok⟩; have HO2 : Hid (Below w.heap.size w y2) := HK0.out _ _ HO1.out ok; clear ok HO1)
    | (have _h := HO2; go_at_call 9; refine (HMb.out _ (HO2.out)).mono ?_; rintro e y3 ⟨rfl, ok⟩; have HO3 : Hid (Below w.heap.size w y3) := HK0.out _ _ HO2.out ok; clear ok HO2)
    | (have _h := HO3; go_at_call 14; refine (HX.out _ (HO3.out)).mono ?_; rintro e y4 ⟨vx, rfl, ok⟩; have HK1 := hide3 (HK0.out.and (keepSpR vx X)); have HO4 : Hid ((Below w.heap.size w y4) ∧ SpansR y4 vx X) := ⟨HK0.out _ _ HO3.out ok.2, ok.1⟩; clear ok HO3)
    | (have _h := HO4; go_at_call 14; refine (HX2.out _ (HO4.out.1)).mono ?_; rintro e y5 ⟨vy, rfl, ok⟩; have HK2 := hide3 (HK1.out.and (keepSpR vy X)); have HO5 : Hid (((Below w.heap.size w y5) ∧ SpansR y5 vx X) ∧ SpansR y5 vy X) := ⟨HK1.out _ _ HO4.out ok.2, ok.1⟩; clear ok HO4)
    | (have _h := HO5; go_at_call 17; refine (HU.out _ (HO5.out.1.1)).mono ?_; rintro e y6 ⟨vu, rfl, ok⟩; have HK3 := hide3 (HK2.out.and (keepSpR vu U)); have HO6 : Hid ((((Below w.heap.size w y6) ∧ SpansR y6 vx X) ∧ SpansR y6 vy X) ∧ SpansR y6 vu U) := ⟨HK2.out _ _ HO5.out ok.2, ok.1⟩; clear ok HO5)
    | (have _h := HO6; go_at_call 17; refine (HU2.out _ (HO6.out.1.1.1)).mono ?_; rintro e y7 ⟨vv, rfl, ok⟩; have HK4 := hide3 (HK3.out.and (keepSpR vv U)); have HO7 : Hid (((((Below w.heap.size w y7) ∧ SpansR y7 vx X) ∧ SpansR y7 vy X) ∧ SpansR y7 vu U) ∧ SpansR y7 vv U) := ⟨HK3.out _ _ HO6.out ok.2, ok.1⟩; clear ok HO6)
    | (have _h := HO7; go_at_call 16; refine (HSm.out _ _ _ X lx (HO7.out.1.1.1.2) (HO7.out.1.1.2)).mono ?_; rintro e y8 ⟨rfl, ok⟩; have HO8 : Hid (((((Below w.heap.size w y8) ∧ SpansR y8 vx X) ∧ SpansR y8 vy X) ∧ SpansR y8 vu U) ∧ SpansR y8 vv U) := HK4.out _ _ HO7.out ok; clear ok HO7)
    | (have _h := HO8; go_at_call 16; refine (HSm.out _ _ _ U lu (HO8.out.1.2) (HO8.out.2)).mono ?_; rintro e y9 ⟨rfl, ok⟩; have HO9 : Hid (((((Below w.heap.size w y9) ∧ SpansR y9 vx X) ∧ SpansR y9 vy X) ∧ SpansR y9 vu U) ∧ SpansR y9 vv U) := HK4.out _ _ HO8.out ok; clear ok HO8)
    | (have _h := HO9; go_at_call 14; refine (HP.out _ (HO9.out.1.1.1.1)).mono ?_; rintro e y10 ⟨vp, rfl, ok⟩; have HK5 := hide3 (HK4.out.and (keepSpR vp A)); have HO10 : Hid ((((((Below w.heap.size w y10) ∧ SpansR y10 vx X) ∧ SpansR y10 vy X) ∧ SpansR y10 vu U) ∧ SpansR y10 vv U) ∧ SpansR y10 vp A) := ⟨HK4.out _ _ HO9.out ok.2, ok.1⟩; clear ok HO9)
    | (have _h := HO10; go_at_call 19; refine (HQ.out _ (HO10.out.1.1.1.1.1)).mono ?_; rintro e y11 ⟨adq, capq, rfl, ok⟩; have HK6 := hide3 (HK5.out.and (keepSpR (.slice adq 0 capq) [])); have HO11 : Hid (((((((Below w.heap.size w y11) ∧ SpansR y11 vx X) ∧ SpansR y11 vy X) ∧ SpansR y11 vu U) ∧ SpansR y11 vv U) ∧ SpansR y11 vp A) ∧ SpansR y11 (.slice adq 0 capq) []) := ⟨HK5.out _ _ HO10.out ok.2, ok.1⟩; clear ok HO10)
    | (have _h := HO11; go_at_call 16; refine (HSa.out _ _ (HO11.out.1.1.1.1.1.1) (HO11.out.1.2)).mono ?_; rintro e y12 ⟨rfl, ok⟩; have HO12 : Hid (((((((Below w.heap.size w y12) ∧ SpansR y12 vx X) ∧ SpansR y12 vy X) ∧ SpansR y12 vu U) ∧ SpansR y12 vv U) ∧ SpansR y12 vp A) ∧ SpansR y12 (.slice adq 0 capq) []) := HK6.out _ _ HO11.out ok; clear ok HO11)
    | (have _h := HO12; go_at_call 26; refine (HAl.out _ (HO12.out.1.1.1.1.1.1)).mono ?_; rintro e y13 ⟨v0, rfl, ok⟩; have HK7 := hide3 (HK6.out.and (keepSpR v0 allR)); have HO13 : Hid ((((((((Below w.heap.size w y13) ∧ SpansR y13 vx X) ∧ SpansR y13 vy X) ∧ SpansR y13 vu U) ∧ SpansR y13 vv U) ∧ SpansR y13 vp A) ∧ SpansR y13 (.slice adq 0 capq) []) ∧ SpansR y13 v0 allR) := ⟨HK6.out _ _ HO12.out ok.2, ok.1⟩; clear ok HO12)
    | (have _h := HO13; go_at_call 19; refine (HN.out _ _ (HO13.out.1.1.1.1.1.1.1) (HO13.out.2)).mono ?_; rintro e y14 ⟨vn, rfl, ok⟩; have HK8 := hide3 (HK7.out.and (keepSpR vn N)); have HO14 : Hid (((((((((Below w.heap.size w y14) ∧ SpansR y14 vx X) ∧ SpansR y14 vy X) ∧ SpansR y14 vu U) ∧ SpansR y14 vv U) ∧ SpansR y14 vp A) ∧ SpansR y14 (.slice adq 0 capq) []) ∧ SpansR y14 v0 allR) ∧ SpansR y14 vn N) := ⟨HK7.out _ _ HO13.out ok.2, ok.1⟩; clear ok HO13)
    | (have _h := HO14; go_at_call 26; refine (HAl.out _ (HO14.out.1.1.1.1.1.1.1.1)).mono ?_; rintro e y15 ⟨v1, rfl, ok⟩; have HK9 := hide3 (HK8.out.and (keepSpR v1 allR)); have HO15 : Hid ((((((((((Below w.heap.size w y15) ∧ SpansR y15 vx X) ∧ SpansR y15 vy X) ∧ SpansR y15 vu U) ∧ SpansR y15 vv U) ∧ SpansR y15 vp A) ∧ SpansR y15 (.slice adq 0 capq) []) ∧ SpansR y15 v0 allR) ∧ SpansR y15 vn N) ∧ SpansR y15 v1 allR) := ⟨HK8.out _ _ HO14.out ok.2, ok.1⟩; clear ok HO14)
    | (have _h := HO15; go_at_call 19; refine (HBk.out _ _ _ (HO15.out.1.1.1.1.1.1.1.1.1) (HO15.out.2) (HO15.out.1.2)).mono ?_; rintro e y16 ⟨vk, rfl, ok⟩; have HK10 := hide3 (HK9.out.and (keepSpR vk A)); have HO16 : Hid (((((((((((Below w.heap.size w y16) ∧ SpansR y16 vx X) ∧ SpansR y16 vy X) ∧ SpansR y16 vu U) ∧ SpansR y16 vv U) ∧ SpansR y16 vp A) ∧ SpansR y16 (.slice adq 0 capq) []) ∧ SpansR y16 v0 allR) ∧ SpansR y16 vn N) ∧ SpansR y16 v1 allR) ∧ SpansR y16 vk A) := ⟨HK9.out _ _ HO15.out ok.2, ok.1⟩; clear ok HO15)
    | (have _h := HO16; go_at_call 16; refine (HSa.out _ _ (HO16.out.1.1.1.1.1.1.1.1.1.1) (HO16.out.2)).mono ?_; rintro e y17 ⟨rfl, ok⟩; have HO17 : Hid (((((((((((Below w.heap.size w y17) ∧ SpansR y17 vx X) ∧ SpansR y17 vy X) ∧ SpansR y17 vu U) ∧ SpansR y17 vv U) ∧ SpansR y17 vp A) ∧ SpansR y17 (.slice adq 0 capq) []) ∧ SpansR y17 v0 allR) ∧ SpansR y17 vn N) ∧ SpansR y17 v1 allR) ∧ SpansR y17 vk A) := HK10.out _ _ HO16.out ok; clear ok HO16)
    | (have _h := HO17; go_at_call 19; refine (HD.out _ (HO17.out.1.1.1.1.1.1.1.1.1.1)).mono ?_; rintro e y18 ⟨vd, rfl, ok⟩; have HK11 := hide3 (HK10.out.and (keepSpR vd D)); have HO18 : Hid ((((((((((((Below w.heap.size w y18) ∧ SpansR y18 vx X) ∧ SpansR y18 vy X) ∧ SpansR y18 vu U) ∧ SpansR y18 vv U) ∧ SpansR y18 vp A) ∧ SpansR y18 (.slice adq 0 capq) []) ∧ SpansR y18 v0 allR) ∧ SpansR y18 vn N) ∧ SpansR y18 v1 allR) ∧ SpansR y18 vk A) ∧ SpansR y18 vd D) := ⟨HK10.out _ _ HO17.out ok.2, ok.1⟩; clear ok HO17))
  go_ret
  exact ⟨rfl, HO18.out.1.1.1.1.1.1.1.1.1.1.1⟩

set_option maxHeartbeats 3200000 in
theorem rules_0_26_0 (va vb : Value) (A X U N D : Rg) (eg : Int) (w : World)
    (lx : X.length ≤ 64) (lu : U.length ≤ 64)
    (HKn : Hid (∀ w1, Below w.heap.size w w1 → Says 13 #[] w1 true)) (HMa : Hid (∀ w1, Below w.heap.size w w1 → Says 9 #[va] w1 true)) (HMb : Hid (∀ w1, Below w.heap.size w w1 → Says 9 #[vb] w1 true))
    (HX : Hid (∀ w1, Below w.heap.size w w1 → NewSp 14 va vb w1 0 X)) (HX2 : Hid (∀ w1, Below w.heap.size w w1 → NewSp 14 vb va w1 0 X)) (HU : Hid (∀ w1, Below w.heap.size w w1 → NewSp 17 va vb w1 eg U)) (HU2 : Hid (∀ w1, Below w.heap.size w w1 → NewSp 17 vb va w1 eg U))
    (HSm : Hid (∀ w1 x y (R : Rg), R.length ≤ 64 → SpansR w1 x R → SpansR w1 y R → Says 16 #[x, y] w1 true))
    (HP : Hid (∀ w1, Below w.heap.size w w1 → NewSp 14 va va w1 0 A)) (HQ : Hid (∀ w1, Below w.heap.size w w1 → NilSp 19 va va w1)) (HSa : Hid (∀ w1 x, Below w.heap.size w w1 → SpansR w1 x A → Says 16 #[x, va] w1 true))
    (HAl : Hid (∀ w1, Below w.heap.size w w1 → OneSp 26 #[] w1 allR)) (HN : Hid (∀ w1 x, Below w.heap.size w w1 → SpansR w1 x allR → NewSp 19 x va w1 26 N))
    (HD : Hid (∀ w1, Below w.heap.size w w1 → NewSp 19 va vb w1 0 D))
    (HJ : Hid (∀ w1 x y, Below w.heap.size w w1 → SpansR w1 x X → SpansR w1 y D → NewSp 17 x y w1 0 A))
    : Calls Tryz.prog 8 #[va, vb] w fun e w' => e = .returned (.bool true) ∧ Below w.heap.size w w' := by
  have HK0 : Hid (KeepP fun w1 => Below w.heap.size w w1) := keepBelow w
  have HO0 : Hid (Below w.heap.size w w) := Below.refl _ _
  go_enter Tryz.func8, Tryz.ntmps8
  go_wp2_with (first
    | (have _h := HO0; go_at_call 13; refine (HKn.out _ (HO0.out)).mono ?_; rintro e y1 ⟨rfl, ok⟩; have HO1 : Hid (Below w.heap.size w y1) := HK0.out _ _ HO0.out ok; clear ok HO0)
    | (have _h := HO1; go_at_call 9; refine (HMa.out _ (HO1.out)).mono ?_; rintro e y2 ⟨rfl, ok⟩; have HO2 : Hid (Below w.heap.size w y2) := HK0.out _ _ HO1.out ok; clear ok HO1)
    | (have _h := HO2; go_at_call 9; refine (HMb.out _ (HO2.out)).mono ?_; rintro e y3 ⟨rfl, ok⟩; have HO3 : Hid (Below w.heap.size w y3) := HK0.out _ _ HO2.out ok; clear ok HO2)
    | (have _h := HO3; go_at_call 14; refine (HX.out _ (HO3.out)).mono ?_; rintro e y4 ⟨vx, rfl, ok⟩; have HK1 := hide3 (HK0.out.and (keepSpR vx X)); have HO4 : Hid ((Below w.heap.size w y4) ∧ SpansR y4 vx X) := ⟨HK0.out _ _ HO3.out ok.2, ok.1⟩; clear ok HO3)
    | (have _h := HO4; go_at_call 14; refine (HX2.out _ (HO4.out.1)).mono ?_; rintro e y5 ⟨vy, rfl, ok⟩; have HK2 := hide3 (HK1.out.and (keepSpR vy X)); have HO5 : Hid (((Below w.heap.size w y5) ∧ SpansR y5 vx X) ∧ SpansR y5 vy X) := ⟨HK1.out _ _ HO4.out ok.2, ok.1⟩; clear ok HO4)
    | (have _h := HO5; go_at_call 17; refine (HU.out _ (HO5.out.1.1)).mono ?_; rintro e y6 ⟨vu, rfl, ok⟩; have HK3 := hide3 (HK2.out.and (keepSpR vu U)); have HO6 : Hid ((((Below w.heap.size w y6) ∧ SpansR y6 vx X) ∧ SpansR y6 vy X) ∧ SpansR y6 vu U) := ⟨HK2.out _ _ HO5.out ok.2, ok.1⟩; clear ok HO5)
    | (have _h := HO6; go_at_call 17; refine (HU2.out _ (HO6.out.1.1.1)).mono ?_; rintro e y7 ⟨vv, rfl, ok⟩; have HK4 := hide3 (HK3.out.and (keepSpR vv U)); have HO7 : Hid (((((Below w.heap.size w y7) ∧ SpansR y7 vx X) ∧ SpansR y7 vy X) ∧ SpansR y7 vu U) ∧ SpansR y7 vv U) := ⟨HK3.out _ _ HO6.out ok.2, ok.1⟩; clear ok HO6)
    | (have _h := HO7; go_at_call 16; refine (HSm.out _ _ _ X lx (HO7.out.1.1.1.2) (HO7.out.1.1.2)).mono ?_; rintro e y8 ⟨rfl, ok⟩; have HO8 : Hid (((((Below w.heap.size w y8) ∧ SpansR y8 vx X) ∧ SpansR y8 vy X) ∧ SpansR y8 vu U) ∧ SpansR y8 vv U) := HK4.out _ _ HO7.out ok; clear ok HO7)
    | (have _h := HO8; go_at_call 16; refine (HSm.out _ _ _ U lu (HO8.out.1.2) (HO8.out.2)).mono ?_; rintro e y9 ⟨rfl, ok⟩; have HO9 : Hid (((((Below w.heap.size w y9) ∧ SpansR y9 vx X) ∧ SpansR y9 vy X) ∧ SpansR y9 vu U) ∧ SpansR y9 vv U) := HK4.out _ _ HO8.out ok; clear ok HO8)
    | (have _h := HO9; go_at_call 14; refine (HP.out _ (HO9.out.1.1.1.1)).mono ?_; rintro e y10 ⟨vp, rfl, ok⟩; have HK5 := hide3 (HK4.out.and (keepSpR vp A)); have HO10 : Hid ((((((Below w.heap.size w y10) ∧ SpansR y10 vx X) ∧ SpansR y10 vy X) ∧ SpansR y10 vu U) ∧ SpansR y10 vv U) ∧ SpansR y10 vp A) := ⟨HK4.out _ _ HO9.out ok.2, ok.1⟩; clear ok HO9)
    | (have _h := HO10; go_at_call 19; refine (HQ.out _ (HO10.out.1.1.1.1.1)).mono ?_; rintro e y11 ⟨adq, capq, rfl, ok⟩; have HK6 := hide3 (HK5.out.and (keepSpR (.slice adq 0 capq) [])); have HO11 : Hid (((((((Below w.heap.size w y11) ∧ SpansR y11 vx X) ∧ SpansR y11 vy X) ∧ SpansR y11 vu U) ∧ SpansR y11 vv U) ∧ SpansR y11 vp A) ∧ SpansR y11 (.slice adq 0 capq) []) := ⟨HK5.out _ _ HO10.out ok.2, ok.1⟩; clear ok HO10)
    | (have _h := HO11; go_at_call 16; refine (HSa.out _ _ (HO11.out.1.1.1.1.1.1) (HO11.out.1.2)).mono ?_; rintro e y12 ⟨rfl, ok⟩; have HO12 : Hid (((((((Below w.heap.size w y12) ∧ SpansR y12 vx X) ∧ SpansR y12 vy X) ∧ SpansR y12 vu U) ∧ SpansR y12 vv U) ∧ SpansR y12 vp A) ∧ SpansR y12 (.slice adq 0 capq) []) := HK6.out _ _ HO11.out ok; clear ok HO11)
    | (have _h := HO12; go_at_call 26; refine (HAl.out _ (HO12.out.1.1.1.1.1.1)).mono ?_; rintro e y13 ⟨v0, rfl, ok⟩; have HK7 := hide3 (HK6.out.and (keepSpR v0 allR)); have HO13 : Hid ((((((((Below w.heap.size w y13) ∧ SpansR y13 vx X) ∧ SpansR y13 vy X) ∧ SpansR y13 vu U) ∧ SpansR y13 vv U) ∧ SpansR y13 vp A) ∧ SpansR y13 (.slice adq 0 capq) []) ∧ SpansR y13 v0 allR) := ⟨HK6.out _ _ HO12.out ok.2, ok.1⟩; clear ok HO12)
    | (have _h := HO13; go_at_call 19; refine (HN.out _ _ (HO13.out.1.1.1.1.1.1.1) (HO13.out.2)).mono ?_; rintro e y14 ⟨vn, rfl, ok⟩; have HK8 := hide3 (HK7.out.and (keepSpR vn N)); have HO14 : Hid (((((((((Below w.heap.size w y14) ∧ SpansR y14 vx X) ∧ SpansR y14 vy X) ∧ SpansR y14 vu U) ∧ SpansR y14 vv U) ∧ SpansR y14 vp A) ∧ SpansR y14 (.slice adq 0 capq) []) ∧ SpansR y14 v0 allR) ∧ SpansR y14 vn N) := ⟨HK7.out _ _ HO13.out ok.2, ok.1⟩; clear ok HO13)
    | (have _h := HO14; go_at_call 19; refine (HD.out _ (HO14.out.1.1.1.1.1.1.1.1)).mono ?_; rintro e y15 ⟨vd, rfl, ok⟩; have HK9 := hide3 (HK8.out.and (keepSpR vd D)); have HO15 : Hid ((((((((((Below w.heap.size w y15) ∧ SpansR y15 vx X) ∧ SpansR y15 vy X) ∧ SpansR y15 vu U) ∧ SpansR y15 vv U) ∧ SpansR y15 vp A) ∧ SpansR y15 (.slice adq 0 capq) []) ∧ SpansR y15 v0 allR) ∧ SpansR y15 vn N) ∧ SpansR y15 vd D) := ⟨HK8.out _ _ HO14.out ok.2, ok.1⟩; clear ok HO14)
    | (have _h := HO15; go_at_call 17; refine (HJ.out _ _ _ (HO15.out.1.1.1.1.1.1.1.1.1) (HO15.out.1.1.1.1.1.1.1.1.2) (HO15.out.2)).mono ?_; rintro e y16 ⟨vj, rfl, ok⟩; have HK10 := hide3 (HK9.out.and (keepSpR vj A)); have HO16 : Hid (((((((((((Below w.heap.size w y16) ∧ SpansR y16 vx X) ∧ SpansR y16 vy X) ∧ SpansR y16 vu U) ∧ SpansR y16 vv U) ∧ SpansR y16 vp A) ∧ SpansR y16 (.slice adq 0 capq) []) ∧ SpansR y16 v0 allR) ∧ SpansR y16 vn N) ∧ SpansR y16 vd D) ∧ SpansR y16 vj A) := ⟨HK9.out _ _ HO15.out ok.2, ok.1⟩; clear ok HO15)
    | (have _h := HO16; go_at_call 16; refine (HSa.out _ _ (HO16.out.1.1.1.1.1.1.1.1.1.1) (HO16.out.2)).mono ?_; rintro e y17 ⟨rfl, ok⟩; have HO17 : Hid (((((((((((Below w.heap.size w y17) ∧ SpansR y17 vx X) ∧ SpansR y17 vy X) ∧ SpansR y17 vu U) ∧ SpansR y17 vv U) ∧ SpansR y17 vp A) ∧ SpansR y17 (.slice adq 0 capq) []) ∧ SpansR y17 v0 allR) ∧ SpansR y17 vn N) ∧ SpansR y17 vd D) ∧ SpansR y17 vj A) := HK10.out _ _ HO16.out ok; clear ok HO16))
  go_ret
  exact ⟨rfl, HO17.out.1.1.1.1.1.1.1.1.1.1⟩

set_option maxHeartbeats 3200000 in
theorem rules_0_26_26 (va vb : Value) (A X U N D : Rg) (eg : Int) (w : World)
    (lx : X.length ≤ 64) (lu : U.length ≤ 64)
    (HKn : Hid (∀ w1, Below w.heap.size w w1 → Says 13 #[] w1 true)) (HMa : Hid (∀ w1, Below w.heap.size w w1 → Says 9 #[va] w1 true)) (HMb : Hid (∀ w1, Below w.heap.size w w1 → Says 9 #[vb] w1 true))
    (HX : Hid (∀ w1, Below w.heap.size w w1 → NewSp 14 va vb w1 0 X)) (HX2 : Hid (∀ w1, Below w.heap.size w w1 → NewSp 14 vb va w1 0 X)) (HU : Hid (∀ w1, Below w.heap.size w w1 → NewSp 17 va vb w1 eg U)) (HU2 : Hid (∀ w1, Below w.heap.size w w1 → NewSp 17 vb va w1 eg U))
    (HSm : Hid (∀ w1 x y (R : Rg), R.length ≤ 64 → SpansR w1 x R → SpansR w1 y R → Says 16 #[x, y] w1 true))
    (HP : Hid (∀ w1, Below w.heap.size w w1 → NewSp 14 va va w1 0 A)) (HQ : Hid (∀ w1, Below w.heap.size w w1 → NilSp 19 va va w1)) (HSa : Hid (∀ w1 x, Below w.heap.size w w1 → SpansR w1 x A → Says 16 #[x, va] w1 true))
    (HAl : Hid (∀ w1, Below w.heap.size w w1 → OneSp 26 #[] w1 allR)) (HN : Hid (∀ w1 x, Below w.heap.size w w1 → SpansR w1 x allR → NewSp 19 x va w1 26 N))
    (HD : Hid (∀ w1, Below w.heap.size w w1 → NewSp 19 va vb w1 26 D))
    : Calls Tryz.prog 8 #[va, vb] w fun e w' => e = .returned (.bool true) ∧ Below w.heap.size w w' := by
  have HK0 : Hid (KeepP fun w1 => Below w.heap.size w w1) := keepBelow w
  have HO0 : Hid (Below w.heap.size w w) := Below.refl _ _
  go_enter Tryz.func8, Tryz.ntmps8
  go_wp2_with (first
    | (have _h := HO0; go_at_call 13; refine (HKn.out _ (HO0.out)).mono ?_; rintro e y1 ⟨rfl, ok⟩; have HO1 : Hid (Below w.heap.size w y1) := HK0.out _ _ HO0.out ok; clear ok HO0)
    | (have _h := HO1; go_at_call 9; refine (HMa.out _ (HO1.out)).mono ?_; rintro e y2 ⟨rfl, ok⟩; have HO2 : Hid (Below w.heap.size w y2) := HK0.out _ _ HO1.out ok; clear ok HO1)
    | (have _h := HO2; go_at_call 9; refine (HMb.out _ (HO2.out)).mono ?_; rintro e y3 ⟨rfl, ok⟩; have HO3 : Hid (Below w.heap.size w y3) := HK0.out _ _ HO2.out ok; clear ok HO2)
    | (have _h := HO3; go_at_call 14; refine (HX.out _ (HO3.out)).mono ?_; rintro e y4 ⟨vx, rfl, ok⟩; have HK1 := hide3 (HK0.out.and (keepSpR vx X)); have HO4 : Hid ((Below w.heap.size w y4) ∧ SpansR y4 vx X) := ⟨HK0.out _ _ HO3.out ok.2, ok.1⟩; clear ok HO3)
    | (have _h := HO4; go_at_call 14; refine (HX2.out _ (HO4.out.1)).mono ?_; rintro e y5 ⟨vy, rfl, ok⟩; have HK2 := hide3 (HK1.out.and (keepSpR vy X)); have HO5 : Hid (((Below w.heap.size w y5) ∧ SpansR y5 vx X) ∧ SpansR y5 vy X) := ⟨HK1.out _ _ HO4.out ok.2, ok.1⟩; clear ok HO4)
    | (have _h := HO5; go_at_call 17; refine (HU.out _ (HO5.out.1.1)).mono ?_; rintro e y6 ⟨vu, rfl, ok⟩; have HK3 := hide3 (HK2.out.and (keepSpR vu U)); have HO6 : Hid ((((Below w.heap.size w y6) ∧ SpansR y6 vx X) ∧ SpansR y6 vy X) ∧ SpansR y6 vu U) := ⟨HK2.out _ _ HO5.out ok.2, ok.1⟩; clear ok HO5)
    | (have _h := HO6; go_at_call 17; refine (HU2.out _ (HO6.out.1.1.1)).mono ?_; rintro e y7 ⟨vv, rfl, ok⟩; have HK4 := hide3 (HK3.out.and (keepSpR vv U)); have HO7 : Hid (((((Below w.heap.size w y7) ∧ SpansR y7 vx X) ∧ SpansR y7 vy X) ∧ SpansR y7 vu U) ∧ SpansR y7 vv U) := ⟨HK3.out _ _ HO6.out ok.2, ok.1⟩; clear ok HO6)
    | (have _h := HO7; go_at_call 16; refine (HSm.out _ _ _ X lx (HO7.out.1.1.1.2) (HO7.out.1.1.2)).mono ?_; rintro e y8 ⟨rfl, ok⟩; have HO8 : Hid (((((Below w.heap.size w y8) ∧ SpansR y8 vx X) ∧ SpansR y8 vy X) ∧ SpansR y8 vu U) ∧ SpansR y8 vv U) := HK4.out _ _ HO7.out ok; clear ok HO7)
    | (have _h := HO8; go_at_call 16; refine (HSm.out _ _ _ U lu (HO8.out.1.2) (HO8.out.2)).mono ?_; rintro e y9 ⟨rfl, ok⟩; have HO9 : Hid (((((Below w.heap.size w y9) ∧ SpansR y9 vx X) ∧ SpansR y9 vy X) ∧ SpansR y9 vu U) ∧ SpansR y9 vv U) := HK4.out _ _ HO8.out ok; clear ok HO8)
    | (have _h := HO9; go_at_call 14; refine (HP.out _ (HO9.out.1.1.1.1)).mono ?_; rintro e y10 ⟨vp, rfl, ok⟩; have HK5 := hide3 (HK4.out.and (keepSpR vp A)); have HO10 : Hid ((((((Below w.heap.size w y10) ∧ SpansR y10 vx X) ∧ SpansR y10 vy X) ∧ SpansR y10 vu U) ∧ SpansR y10 vv U) ∧ SpansR y10 vp A) := ⟨HK4.out _ _ HO9.out ok.2, ok.1⟩; clear ok HO9)
    | (have _h := HO10; go_at_call 19; refine (HQ.out _ (HO10.out.1.1.1.1.1)).mono ?_; rintro e y11 ⟨adq, capq, rfl, ok⟩; have HK6 := hide3 (HK5.out.and (keepSpR (.slice adq 0 capq) [])); have HO11 : Hid (((((((Below w.heap.size w y11) ∧ SpansR y11 vx X) ∧ SpansR y11 vy X) ∧ SpansR y11 vu U) ∧ SpansR y11 vv U) ∧ SpansR y11 vp A) ∧ SpansR y11 (.slice adq 0 capq) []) := ⟨HK5.out _ _ HO10.out ok.2, ok.1⟩; clear ok HO10)
    | (have _h := HO11; go_at_call 16; refine (HSa.out _ _ (HO11.out.1.1.1.1.1.1) (HO11.out.1.2)).mono ?_; rintro e y12 ⟨rfl, ok⟩; have HO12 : Hid (((((((Below w.heap.size w y12) ∧ SpansR y12 vx X) ∧ SpansR y12 vy X) ∧ SpansR y12 vu U) ∧ SpansR y12 vv U) ∧ SpansR y12 vp A) ∧ SpansR y12 (.slice adq 0 capq) []) := HK6.out _ _ HO11.out ok; clear ok HO11)
    | (have _h := HO12; go_at_call 26; refine (HAl.out _ (HO12.out.1.1.1.1.1.1)).mono ?_; rintro e y13 ⟨v0, rfl, ok⟩; have HK7 := hide3 (HK6.out.and (keepSpR v0 allR)); have HO13 : Hid ((((((((Below w.heap.size w y13) ∧ SpansR y13 vx X) ∧ SpansR y13 vy X) ∧ SpansR y13 vu U) ∧ SpansR y13 vv U) ∧ SpansR y13 vp A) ∧ SpansR y13 (.slice adq 0 capq) []) ∧ SpansR y13 v0 allR) := ⟨HK6.out _ _ HO12.out ok.2, ok.1⟩; clear ok HO12)
    | (have _h := HO13; go_at_call 19; refine (HN.out _ _ (HO13.out.1.1.1.1.1.1.1) (HO13.out.2)).mono ?_; rintro e y14 ⟨vn, rfl, ok⟩; have HK8 := hide3 (HK7.out.and (keepSpR vn N)); have HO14 : Hid (((((((((Below w.heap.size w y14) ∧ SpansR y14 vx X) ∧ SpansR y14 vy X) ∧ SpansR y14 vu U) ∧ SpansR y14 vv U) ∧ SpansR y14 vp A) ∧ SpansR y14 (.slice adq 0 capq) []) ∧ SpansR y14 v0 allR) ∧ SpansR y14 vn N) := ⟨HK7.out _ _ HO13.out ok.2, ok.1⟩; clear ok HO13)
    | (have _h := HO14; go_at_call 19; refine (HD.out _ (HO14.out.1.1.1.1.1.1.1.1)).mono ?_; rintro e y15 ⟨vd, rfl, ok⟩; have HK9 := hide3 (HK8.out.and (keepSpR vd D)); have HO15 : Hid ((((((((((Below w.heap.size w y15) ∧ SpansR y15 vx X) ∧ SpansR y15 vy X) ∧ SpansR y15 vu U) ∧ SpansR y15 vv U) ∧ SpansR y15 vp A) ∧ SpansR y15 (.slice adq 0 capq) []) ∧ SpansR y15 v0 allR) ∧ SpansR y15 vn N) ∧ SpansR y15 vd D) := ⟨HK8.out _ _ HO14.out ok.2, ok.1⟩; clear ok HO14))
  go_ret
  exact ⟨rfl, HO15.out.1.1.1.1.1.1.1.1.1⟩

set_option maxHeartbeats 3200000 in
theorem rules_26_0_0 (va vb : Value) (A X U N D : Rg) (eg : Int) (w : World)
    (lx : X.length ≤ 64) (lu : U.length ≤ 64)
    (HKn : Hid (∀ w1, Below w.heap.size w w1 → Says 13 #[] w1 true)) (HMa : Hid (∀ w1, Below w.heap.size w w1 → Says 9 #[va] w1 true)) (HMb : Hid (∀ w1, Below w.heap.size w w1 → Says 9 #[vb] w1 true))
    (HX : Hid (∀ w1, Below w.heap.size w w1 → NewSp 14 va vb w1 26 X)) (HX2 : Hid (∀ w1, Below w.heap.size w w1 → NewSp 14 vb va w1 26 X)) (HU : Hid (∀ w1, Below w.heap.size w w1 → NewSp 17 va vb w1 eg U)) (HU2 : Hid (∀ w1, Below w.heap.size w w1 → NewSp 17 vb va w1 eg U))
    (HSm : Hid (∀ w1 x y (R : Rg), R.length ≤ 64 → SpansR w1 x R → SpansR w1 y R → Says 16 #[x, y] w1 true))
    (HP : Hid (∀ w1, Below w.heap.size w w1 → NewSp 14 va va w1 0 A)) (HQ : Hid (∀ w1, Below w.heap.size w w1 → NilSp 19 va va w1)) (HSa : Hid (∀ w1 x, Below w.heap.size w w1 → SpansR w1 x A → Says 16 #[x, va] w1 true))
    (HAl : Hid (∀ w1, Below w.heap.size w w1 → OneSp 26 #[] w1 allR)) (HN : Hid (∀ w1 x, Below w.heap.size w w1 → SpansR w1 x allR → NewSp 19 x va w1 0 N))
    (HD : Hid (∀ w1, Below w.heap.size w w1 → NewSp 19 va vb w1 0 D))
    (HBk : Hid (∀ w1 x y, Below w.heap.size w w1 → SpansR w1 x allR → SpansR w1 y N → NewSp 19 x y w1 0 A))
    : Calls Tryz.prog 8 #[va, vb] w fun e w' => e = .returned (.bool true) ∧ Below w.heap.size w w' := by
  have HK0 : Hid (KeepP fun w1 => Below w.heap.size w w1) := keepBelow w
  have HO0 : Hid (Below w.heap.size w w) := Below.refl _ _
  go_enter Tryz.func8, Tryz.ntmps8
  go_wp2_with (first
    | (have _h := HO0; go_at_call 13; refine (HKn.out _ (HO0.out)).mono ?_; rintro e y1 ⟨rfl, ok⟩; have HO1 : Hid (Below w.heap.size w y1) := HK0.out _ _ HO0.out ok; clear ok HO0)
    | (have _h := HO1; go_at_call 9; refine (HMa.out _ (HO1.out)).mono ?_; rintro e y2 ⟨rfl, ok⟩; have HO2 : Hid (Below w.heap.size w y2) := HK0.out _ _ HO1.out ok; clear ok HO1)
    | (have _h := HO2; go_at_call 9; refine (HMb.out _ (HO2.out)).mono ?_; rintro e y3 ⟨rfl, ok⟩; have HO3 : Hid (Below w.heap.size w y3) := HK0.out _ _ HO2.out ok; clear ok HO2)
    | (have _h := HO3; go_at_call 14; refine (HX.out _ (HO3.out)).mono ?_; rintro e y4 ⟨vx, rfl, ok⟩; have HK1 := hide3 (HK0.out.and (keepSpR vx X)); have HO4 : Hid ((Below w.heap.size w y4) ∧ SpansR y4 vx X) := ⟨HK0.out _ _ HO3.out ok.2, ok.1⟩; clear ok HO3)
    | (have _h := HO4; go_at_call 14; refine (HX2.out _ (HO4.out.1)).mono ?_; rintro e y5 ⟨vy, rfl, ok⟩; have HK2 := hide3 (HK1.out.and (keepSpR vy X)); have HO5 : Hid (((Below w.heap.size w y5) ∧ SpansR y5 vx X) ∧ SpansR y5 vy X) := ⟨HK1.out _ _ HO4.out ok.2, ok.1⟩; clear ok HO4)
    | (have _h := HO5; go_at_call 17; refine (HU.out _ (HO5.out.1.1)).mono ?_; rintro e y6 ⟨vu, rfl, ok⟩; have HK3 := hide3 (HK2.out.and (keepSpR vu U)); have HO6 : Hid ((((Below w.heap.size w y6) ∧ SpansR y6 vx X) ∧ SpansR y6 vy X) ∧ SpansR y6 vu U) := ⟨HK2.out _ _ HO5.out ok.2, ok.1⟩; clear ok HO5)
    | (have _h := HO6; go_at_call 17; refine (HU2.out _ (HO6.out.1.1.1)).mono ?_; rintro e y7 ⟨vv, rfl, ok⟩; have HK4 := hide3 (HK3.out.and (keepSpR vv U)); have HO7 : Hid (((((Below w.heap.size w y7) ∧ SpansR y7 vx X) ∧ SpansR y7 vy X) ∧ SpansR y7 vu U) ∧ SpansR y7 vv U) := ⟨HK3.out _ _ HO6.out ok.2, ok.1⟩; clear ok HO6)
    | (have _h := HO7; go_at_call 16; refine (HSm.out _ _ _ X lx (HO7.out.1.1.1.2) (HO7.out.1.1.2)).mono ?_; rintro e y8 ⟨rfl, ok⟩; have HO8 : Hid (((((Below w.heap.size w y8) ∧ SpansR y8 vx X) ∧ SpansR y8 vy X) ∧ SpansR y8 vu U) ∧ SpansR y8 vv U) := HK4.out _ _ HO7.out ok; clear ok HO7)
    | (have _h := HO8; go_at_call 16; refine (HSm.out _ _ _ U lu (HO8.out.1.2) (HO8.out.2)).mono ?_; rintro e y9 ⟨rfl, ok⟩; have HO9 : Hid (((((Below w.heap.size w y9) ∧ SpansR y9 vx X) ∧ SpansR y9 vy X) ∧ SpansR y9 vu U) ∧ SpansR y9 vv U) := HK4.out _ _ HO8.out ok; clear ok HO8)
    | (have _h := HO9; go_at_call 14; refine (HP.out _ (HO9.out.1.1.1.1)).mono ?_; rintro e y10 ⟨vp, rfl, ok⟩; have HK5 := hide3 (HK4.out.and (keepSpR vp A)); have HO10 : Hid ((((((Below w.heap.size w y10) ∧ SpansR y10 vx X) ∧ SpansR y10 vy X) ∧ SpansR y10 vu U) ∧ SpansR y10 vv U) ∧ SpansR y10 vp A) := ⟨HK4.out _ _ HO9.out ok.2, ok.1⟩; clear ok HO9)
    | (have _h := HO10; go_at_call 19; refine (HQ.out _ (HO10.out.1.1.1.1.1)).mono ?_; rintro e y11 ⟨adq, capq, rfl, ok⟩; have HK6 := hide3 (HK5.out.and (keepSpR (.slice adq 0 capq) [])); have HO11 : Hid (((((((Below w.heap.size w y11) ∧ SpansR y11 vx X) ∧ SpansR y11 vy X) ∧ SpansR y11 vu U) ∧ SpansR y11 vv U) ∧ SpansR y11 vp A) ∧ SpansR y11 (.slice adq 0 capq) []) := ⟨HK5.out _ _ HO10.out ok.2, ok.1⟩; clear ok HO10)
    | (have _h := HO11; go_at_call 16; refine (HSa.out _ _ (HO11.out.1.1.1.1.1.1) (HO11.out.1.2)).mono ?_; rintro e y12 ⟨rfl, ok⟩; have HO12 : Hid (((((((Below w.heap.size w y12) ∧ SpansR y12 vx X) ∧ SpansR y12 vy X) ∧ SpansR y12 vu U) ∧ SpansR y12 vv U) ∧ SpansR y12 vp A) ∧ SpansR y12 (.slice adq 0 capq) []) := HK6.out _ _ HO11.out ok; clear ok HO11)
    | (have _h := HO12; go_at_call 26; refine (HAl.out _ (HO12.out.1.1.1.1.1.1)).mono ?_; rintro e y13 ⟨v0, rfl, ok⟩; have HK7 := hide3 (HK6.out.and (keepSpR v0 allR)); have HO13 : Hid ((((((((Below w.heap.size w y13) ∧ SpansR y13 vx X) ∧ SpansR y13 vy X) ∧ SpansR y13 vu U) ∧ SpansR y13 vv U) ∧ SpansR y13 vp A) ∧ SpansR y13 (.slice adq 0 capq) []) ∧ SpansR y13 v0 allR) := ⟨HK6.out _ _ HO12.out ok.2, ok.1⟩; clear ok HO12)
    | (have _h := HO13; go_at_call 19; refine (HN.out _ _ (HO13.out.1.1.1.1.1.1.1) (HO13.out.2)).mono ?_; rintro e y14 ⟨vn, rfl, ok⟩; have HK8 := hide3 (HK7.out.and (keepSpR vn N)); have HO14 : Hid (((((((((Below w.heap.size w y14) ∧ SpansR y14 vx X) ∧ SpansR y14 vy X) ∧ SpansR y14 vu U) ∧ SpansR y14 vv U) ∧ SpansR y14 vp A) ∧ SpansR y14 (.slice adq 0 capq) []) ∧ SpansR y14 v0 allR) ∧ SpansR y14 vn N) := ⟨HK7.out _ _ HO13.out ok.2, ok.1⟩; clear ok HO13)
    | (have _h := HO14; go_at_call 26; refine (HAl.out _ (HO14.out.1.1.1.1.1.1.1.1)).mono ?_; rintro e y15 ⟨v1, rfl, ok⟩; have HK9 := hide3 (HK8.out.and (keepSpR v1 allR)); have HO15 : Hid ((((((((((Below w.heap.size w y15) ∧ SpansR y15 vx X) ∧ SpansR y15 vy X) ∧ SpansR y15 vu U) ∧ SpansR y15 vv U) ∧ SpansR y15 vp A) ∧ SpansR y15 (.slice adq 0 capq) []) ∧ SpansR y15 v0 allR) ∧ SpansR y15 vn N) ∧ SpansR y15 v1 allR) := ⟨HK8.out _ _ HO14.out ok.2, ok.1⟩; clear ok HO14)
    | (have _h := HO15; go_at_call 19; refine (HBk.out _ _ _ (HO15.out.1.1.1.1.1.1.1.1.1) (HO15.out.2) (HO15.out.1.2)).mono ?_; rintro e y16 ⟨vk, rfl, ok⟩; have HK10 := hide3 (HK9.out.and (keepSpR vk A)); have HO16 : Hid (((((((((((Below w.heap.size w y16) ∧ SpansR y16 vx X) ∧ SpansR y16 vy X) ∧ SpansR y16 vu U) ∧ SpansR y16 vv U) ∧ SpansR y16 vp A) ∧ SpansR y16 (.slice adq 0 capq) []) ∧ SpansR y16 v0 allR) ∧ SpansR y16 vn N) ∧ SpansR y16 v1 allR) ∧ SpansR y16 vk A) := ⟨HK9.out _ _ HO15.out ok.2, ok.1⟩; clear ok HO15)
    | (have _h := HO16; go_at_call 16; refine (HSa.out _ _ (HO16.out.1.1.1.1.1.1.1.1.1.1) (HO16.out.2)).mono ?_; rintro e y17 ⟨rfl, ok⟩; have HO17 : Hid (((((((((((Below w.heap.size w y17) ∧ SpansR y17 vx X) ∧ SpansR y17 vy X) ∧ SpansR y17 vu U) ∧ SpansR y17 vv U) ∧ SpansR y17 vp A) ∧ SpansR y17 (.slice adq 0 capq) []) ∧ SpansR y17 v0 allR) ∧ SpansR y17 vn N) ∧ SpansR y17 v1 allR) ∧ SpansR y17 vk A) := HK10.out _ _ HO16.out ok; clear ok HO16)
    | (have _h := HO17; go_at_call 19; refine (HD.out _ (HO17.out.1.1.1.1.1.1.1.1.1.1)).mono ?_; rintro e y18 ⟨vd, rfl, ok⟩; have HK11 := hide3 (HK10.out.and (keepSpR vd D)); have HO18 : Hid ((((((((((((Below w.heap.size w y18) ∧ SpansR y18 vx X) ∧ SpansR y18 vy X) ∧ SpansR y18 vu U) ∧ SpansR y18 vv U) ∧ SpansR y18 vp A) ∧ SpansR y18 (.slice adq 0 capq) []) ∧ SpansR y18 v0 allR) ∧ SpansR y18 vn N) ∧ SpansR y18 v1 allR) ∧ SpansR y18 vk A) ∧ SpansR y18 vd D) := ⟨HK10.out _ _ HO17.out ok.2, ok.1⟩; clear ok HO17))
  go_ret
  exact ⟨rfl, HO18.out.1.1.1.1.1.1.1.1.1.1.1⟩

set_option maxHeartbeats 3200000 in
theorem rules_26_0_26 (va vb : Value) (A X U N D : Rg) (eg : Int) (w : World)
    (lx : X.length ≤ 64) (lu : U.length ≤ 64)
    (HKn : Hid (∀ w1, Below w.heap.size w w1 → Says 13 #[] w1 true)) (HMa : Hid (∀ w1, Below w.heap.size w w1 → Says 9 #[va] w1 true)) (HMb : Hid (∀ w1, Below w.heap.size w w1 → Says 9 #[vb] w1 true))
    (HX : Hid (∀ w1, Below w.heap.size w w1 → NewSp 14 va vb w1 26 X)) (HX2 : Hid (∀ w1, Below w.heap.size w w1 → NewSp 14 vb va w1 26 X)) (HU : Hid (∀ w1, Below w.heap.size w w1 → NewSp 17 va vb w1 eg U)) (HU2 : Hid (∀ w1, Below w.heap.size w w1 → NewSp 17 vb va w1 eg U))
    (HSm : Hid (∀ w1 x y (R : Rg), R.length ≤ 64 → SpansR w1 x R → SpansR w1 y R → Says 16 #[x, y] w1 true))
    (HP : Hid (∀ w1, Below w.heap.size w w1 → NewSp 14 va va w1 0 A)) (HQ : Hid (∀ w1, Below w.heap.size w w1 → NilSp 19 va va w1)) (HSa : Hid (∀ w1 x, Below w.heap.size w w1 → SpansR w1 x A → Says 16 #[x, va] w1 true))
    (HAl : Hid (∀ w1, Below w.heap.size w w1 → OneSp 26 #[] w1 allR)) (HN : Hid (∀ w1 x, Below w.heap.size w w1 → SpansR w1 x allR → NewSp 19 x va w1 0 N))
    (HD : Hid (∀ w1, Below w.heap.size w w1 → NewSp 19 va vb w1 26 D))
    (HBk : Hid (∀ w1 x y, Below w.heap.size w w1 → SpansR w1 x allR → SpansR w1 y N → NewSp 19 x y w1 0 A))
    : Calls Tryz.prog 8 #[va, vb] w fun e w' => e = .returned (.bool true) ∧ Below w.heap.size w w' := by
  have HK0 : Hid (KeepP fun w1 => Below w.heap.size w w1) := keepBelow w
  have HO0 : Hid (Below w.heap.size w w) := Below.refl _ _
  go_enter Tryz.func8, Tryz.ntmps8
  go_wp2_with (first
    | (have _h := HO0; go_at_call 13; refine (HKn.out _ (HO0.out)).mono ?_; rintro e y1 ⟨rfl, ok⟩; have HO1 : Hid (Below w.heap.size w y1) := HK0.out _ _ HO0.out ok; clear ok HO0)
    | (have _h := HO1; go_at_call 9; refine (HMa.out _ (HO1.out)).mono ?_; rintro e y2 ⟨rfl, ok⟩; have HO2 : Hid (Below w.heap.size w y2) := HK0.out _ _ HO1.out ok; clear ok HO1)
    | (have _h := HO2; go_at_call 9; refine (HMb.out _ (HO2.out)).mono ?_; rintro e y3 ⟨rfl, ok⟩; have HO3 : Hid (Below w.heap.size w y3) := HK0.out _ _ HO2.out ok; clear ok HO2)
    | (have _h := HO3; go_at_call 14; refine (HX.out _ (HO3.out)).mono ?_; rintro e y4 ⟨vx, rfl, ok⟩; have HK1 := hide3 (HK0.out.and (keepSpR vx X)); have HO4 : Hid ((Below w.heap.size w y4) ∧ SpansR y4 vx X) := ⟨HK0.out _ _ HO3.out ok.2, ok.1⟩; clear ok HO3)
    | (have _h := HO4; go_at_call 14; refine (HX2.out _ (HO4.out.1)).mono ?_; rintro e y5 ⟨vy, rfl, ok⟩; have HK2 := hide3 (HK1.out.and (keepSpR vy X)); have HO5 : Hid (((Below w.heap.size w y5) ∧ SpansR y5 vx X) ∧ SpansR y5 vy X) := ⟨HK1.out _ _ HO4.out ok.2, ok.1⟩; clear ok HO4)
    | (have _h := HO5; go_at_call 17; refine (HU.out _ (HO5.out.1.1)).mono ?_; rintro e y6 ⟨vu, rfl, ok⟩; have HK3 := hide3 (HK2.out.and (keepSpR vu U)); have HO6 : Hid ((((Below w.heap.size w y6) ∧ SpansR y6 vx X) ∧ SpansR y6 vy X) ∧ SpansR y6 vu U) := ⟨HK2.out _ _ HO5.out ok.2, ok.1⟩; clear ok HO5)
    | (have _h := HO6; go_at_call 17; refine (HU2.out _ (HO6.out.1.1.1)).mono ?_; rintro e y7 ⟨vv, rfl, ok⟩; have HK4 := hide3 (HK3.out.and (keepSpR vv U)); have HO7 : Hid (((((Below w.heap.size w y7) ∧ SpansR y7 vx X) ∧ SpansR y7 vy X) ∧ SpansR y7 vu U) ∧ SpansR y7 vv U) := ⟨HK3.out _ _ HO6.out ok.2, ok.1⟩; clear ok HO6)
    | (have _h := HO7; go_at_call 16; refine (HSm.out _ _ _ X lx (HO7.out.1.1.1.2) (HO7.out.1.1.2)).mono ?_; rintro e y8 ⟨rfl, ok⟩; have HO8 : Hid (((((Below w.heap.size w y8) ∧ SpansR y8 vx X) ∧ SpansR y8 vy X) ∧ SpansR y8 vu U) ∧ SpansR y8 vv U) := HK4.out _ _ HO7.out ok; clear ok HO7)
    | (have _h := HO8; go_at_call 16; refine (HSm.out _ _ _ U lu (HO8.out.1.2) (HO8.out.2)).mono ?_; rintro e y9 ⟨rfl, ok⟩; have HO9 : Hid (((((Below w.heap.size w y9) ∧ SpansR y9 vx X) ∧ SpansR y9 vy X) ∧ SpansR y9 vu U) ∧ SpansR y9 vv U) := HK4.out _ _ HO8.out ok; clear ok HO8)
    | (have _h := HO9; go_at_call 14; refine (HP.out _ (HO9.out.1.1.1.1)).mono ?_; rintro e y10 ⟨vp, rfl, ok⟩; have HK5 := hide3 (HK4.out.and (keepSpR vp A)); have HO10 : Hid ((((((Below w.heap.size w y10) ∧ SpansR y10 vx X) ∧ SpansR y10 vy X) ∧ SpansR y10 vu U) ∧ SpansR y10 vv U) ∧ SpansR y10 vp A) := ⟨HK4.out _ _ HO9.out ok.2, ok.1⟩; clear ok HO9)
    | (have _h := HO10; go_at_call 19; refine (HQ.out _ (HO10.out.1.1.1.1.1)).mono ?_; rintro e y11 ⟨adq, capq, rfl, ok⟩; have HK6 := hide3 (HK5.out.and (keepSpR (.slice adq 0 capq) [])); have HO11 : Hid (((((((Below w.heap.size w y11) ∧ SpansR y11 vx X) ∧ SpansR y11 vy X) ∧ SpansR y11 vu U) ∧ SpansR y11 vv U) ∧ SpansR y11 vp A) ∧ SpansR y11 (.slice adq 0 capq) []) := ⟨HK5.out _ _ HO10.out ok.2, ok.1⟩; clear ok HO10)
    | (have _h := HO11; go_at_call 16; refine (HSa.out _ _ (HO11.out.1.1.1.1.1.1) (HO11.out.1.2)).mono ?_; rintro e y12 ⟨rfl, ok⟩; have HO12 : Hid (((((((Below w.heap.size w y12) ∧ SpansR y12 vx X) ∧ SpansR y12 vy X) ∧ SpansR y12 vu U) ∧ SpansR y12 vv U) ∧ SpansR y12 vp A) ∧ SpansR y12 (.slice adq 0 capq) []) := HK6.out _ _ HO11.out ok; clear ok HO11)
    | (have _h := HO12; go_at_call 26; refine (HAl.out _ (HO12.out.1.1.1.1.1.1)).mono ?_; rintro e y13 ⟨v0, rfl, ok⟩; have HK7 := hide3 (HK6.out.and (keepSpR v0 allR)); have HO13 : Hid ((((((((Below w.heap.size w y13) ∧ SpansR y13 vx X) ∧ SpansR y13 vy X) ∧ SpansR y13 vu U) ∧ SpansR y13 vv U) ∧ SpansR y13 vp A) ∧ SpansR y13 (.slice adq 0 capq) []) ∧ SpansR y13 v0 allR) := ⟨HK6.out _ _ HO12.out ok.2, ok.1⟩; clear ok HO12)
    | (have _h := HO13; go_at_call 19; refine (HN.out _ _ (HO13.out.1.1.1.1.1.1.1) (HO13.out.2)).mono ?_; rintro e y14 ⟨vn, rfl, ok⟩; have HK8 := hide3 (HK7.out.and (keepSpR vn N)); have HO14 : Hid (((((((((Below w.heap.size w y14) ∧ SpansR y14 vx X) ∧ SpansR y14 vy X) ∧ SpansR y14 vu U) ∧ SpansR y14 vv U) ∧ SpansR y14 vp A) ∧ SpansR y14 (.slice adq 0 capq) []) ∧ SpansR y14 v0 allR) ∧ SpansR y14 vn N) := ⟨HK7.out _ _ HO13.out ok.2, ok.1⟩; clear ok HO13)
    | (have _h := HO14; go_at_call 26; refine (HAl.out _ (HO14.out.1.1.1.1.1.1.1.1)).mono ?_; rintro e y15 ⟨v1, rfl, ok⟩; have HK9 := hide3 (HK8.out.and (keepSpR v1 allR)); have HO15 : Hid ((((((((((Below w.heap.size w y15) ∧ SpansR y15 vx X) ∧ SpansR y15 vy X) ∧ SpansR y15 vu U) ∧ SpansR y15 vv U) ∧ SpansR y15 vp A) ∧ SpansR y15 (.slice adq 0 capq) []) ∧ SpansR y15 v0 allR) ∧ SpansR y15 vn N) ∧ SpansR y15 v1 allR) := ⟨HK8.out _ _ HO14.out ok.2, ok.1⟩; clear ok HO14)
    | (have _h := HO15; go_at_call 19; refine (HBk.out _ _ _ (HO15.out.1.1.1.1.1.1.1.1.1) (HO15.out.2) (HO15.out.1.2)).mono ?_; rintro e y16 ⟨vk, rfl, ok⟩; have HK10 := hide3 (HK9.out.and (keepSpR vk A)); have HO16 : Hid (((((((((((Below w.heap.size w y16) ∧ SpansR y16 vx X) ∧ SpansR y16 vy X) ∧ SpansR y16 vu U) ∧ SpansR y16 vv U) ∧ SpansR y16 vp A) ∧ SpansR y16 (.slice adq 0 capq) []) ∧ SpansR y16 v0 allR) ∧ SpansR y16 vn N) ∧ SpansR y16 v1 allR) ∧ SpansR y16 vk A) := ⟨HK9.out _ _ HO15.out ok.2, ok.1⟩; clear ok HO15)
    | (have _h := HO16; go_at_call 16; refine (HSa.out _ _ (HO16.out.1.1.1.1.1.1.1.1.1.1) (HO16.out.2)).mono ?_; rintro e y17 ⟨rfl, ok⟩; have HO17 : Hid (((((((((((Below w.heap.size w y17) ∧ SpansR y17 vx X) ∧ SpansR y17 vy X) ∧ SpansR y17 vu U) ∧ SpansR y17 vv U) ∧ SpansR y17 vp A) ∧ SpansR y17 (.slice adq 0 capq) []) ∧ SpansR y17 v0 allR) ∧ SpansR y17 vn N) ∧ SpansR y17 v1 allR) ∧ SpansR y17 vk A) := HK10.out _ _ HO16.out ok; clear ok HO16)
    | (have _h := HO17; go_at_call 19; refine (HD.out _ (HO17.out.1.1.1.1.1.1.1.1.1.1)).mono ?_; rintro e y18 ⟨vd, rfl, ok⟩; have HK11 := hide3 (HK10.out.and (keepSpR vd D)); have HO18 : Hid ((((((((((((Below w.heap.size w y18) ∧ SpansR y18 vx X) ∧ SpansR y18 vy X) ∧ SpansR y18 vu U) ∧ SpansR y18 vv U) ∧ SpansR y18 vp A) ∧ SpansR y18 (.slice adq 0 capq) []) ∧ SpansR y18 v0 allR) ∧ SpansR y18 vn N) ∧ SpansR y18 v1 allR) ∧ SpansR y18 vk A) ∧ SpansR y18 vd D) := ⟨HK10.out _ _ HO17.out ok.2, ok.1⟩; clear ok HO17))
  go_ret
  exact ⟨rfl, HO18.out.1.1.1.1.1.1.1.1.1.1.1⟩

set_option maxHeartbeats 3200000 in
theorem rules_26_26_0 (va vb : Value) (A X U N D : Rg) (eg : Int) (w : World)
    (lx : X.length ≤ 64) (lu : U.length ≤ 64)
    (HKn : Hid (∀ w1, Below w.heap.size w w1 → Says 13 #[] w1 true)) (HMa : Hid (∀ w1, Below w.heap.size w w1 → Says 9 #[va] w1 true)) (HMb : Hid (∀ w1, Below w.heap.size w w1 → Says 9 #[vb] w1 true))
    (HX : Hid (∀ w1, Below w.heap.size w w1 → NewSp 14 va vb w1 26 X)) (HX2 : Hid (∀ w1, Below w.heap.size w w1 → NewSp 14 vb va w1 26 X)) (HU : Hid (∀ w1, Below w.heap.size w w1 → NewSp 17 va vb w1 eg U)) (HU2 : Hid (∀ w1, Below w.heap.size w w1 → NewSp 17 vb va w1 eg U))
    (HSm : Hid (∀ w1 x y (R : Rg), R.length ≤ 64 → SpansR w1 x R → SpansR w1 y R → Says 16 #[x, y] w1 true))
    (HP : Hid (∀ w1, Below w.heap.size w w1 → NewSp 14 va va w1 0 A)) (HQ : Hid (∀ w1, Below w.heap.size w w1 → NilSp 19 va va w1)) (HSa : Hid (∀ w1 x, Below w.heap.size w w1 → SpansR w1 x A → Says 16 #[x, va] w1 true))
    (HAl : Hid (∀ w1, Below w.heap.size w w1 → OneSp 26 #[] w1 allR)) (HN : Hid (∀ w1 x, Below w.heap.size w w1 → SpansR w1 x allR → NewSp 19 x va w1 26 N))
    (HD : Hid (∀ w1, Below w.heap.size w w1 → NewSp 19 va vb w1 0 D))
    : Calls Tryz.prog 8 #[va, vb] w fun e w' => e = .returned (.bool true) ∧ Below w.heap.size w w' := by
  have HK0 : Hid (KeepP fun w1 => Below w.heap.size w w1) := keepBelow w
  have HO0 : Hid (Below w.heap.size w w) := Below.refl _ _
  go_enter Tryz.func8, Tryz.ntmps8
  go_wp2_with (first
    | (have _h := HO0; go_at_call 13; refine (HKn.out _ (HO0.out)).mono ?_; rintro e y1 ⟨rfl, ok⟩; have HO1 : Hid (Below w.heap.size w y1) := HK0.out _ _ HO0.out ok; clear ok HO0)
    | (have _h := HO1; go_at_call 9; refine (HMa.out _ (HO1.out)).mono ?_; rintro e y2 ⟨rfl, ok⟩; have HO2 : Hid (Below w.heap.size w y2) := HK0.out _ _ HO1.out ok; clear ok HO1)
    | (have _h := HO2; go_at_call 9; refine (HMb.out _ (HO2.out)).mono ?_; rintro e y3 ⟨rfl, ok⟩; have HO3 : Hid (Below w.heap.size w y3) := HK0.out _ _ HO2.out ok; clear ok HO2)
    | (have _h := HO3; go_at_call 14; refine (HX.out _ (HO3.out)).mono ?_; rintro e y4 ⟨vx, rfl, ok⟩; have HK1 := hide3 (HK0.out.and (keepSpR vx X)); have HO4 : Hid ((Below w.heap.size w y4) ∧ SpansR y4 vx X) := ⟨HK0.out _ _ HO3.out ok.2, ok.1⟩; clear ok HO3)
    | (have _h := HO4; go_at_call 14; refine (HX2.out _ (HO4.out.1)).mono ?_; rintro e y5 ⟨vy, rfl, ok⟩; have HK2 := hide3 (HK1.out.and (keepSpR vy X)); have HO5 : Hid (((Below w.heap.size w y5) ∧ SpansR y5 vx X) ∧ SpansR y5 vy X) := ⟨HK1.out _ _ HO4.out ok.2, ok.1⟩; clear ok HO4)
    | (have _h := HO5; go_at_call 17; refine (HU.out _ (HO5.out.1.1)).mono ?_; rintro e y6 ⟨vu, rfl, ok⟩; have HK3 := hide3 (HK2.out.and (keepSpR vu U)); have HO6 : Hid ((((Below w.heap.size w y6) ∧ SpansR y6 vx X) ∧ SpansR y6 vy X) ∧ SpansR y6 vu U) := ⟨HK2.out _ _ HO5.out ok.2, ok.1⟩; clear ok HO5)
    | (have _h := HO6; go_at_call 17; refine (HU2.out _ (HO6.out.1.1.1)).mono ?_; rintro e y7 ⟨vv, rfl, ok⟩; have HK4 := hide3 (HK3.out.and (keepSpR vv U)); have HO7 : Hid (((((Below w.heap.size w y7) ∧ SpansR y7 vx X) ∧ SpansR y7 vy X) ∧ SpansR y7 vu U) ∧ SpansR y7 vv U) := ⟨HK3.out _ _ HO6.out ok.2, ok.1⟩; clear ok HO6)
    | (have _h := HO7; go_at_call 16; refine (HSm.out _ _ _ X lx (HO7.out.1.1.1.2) (HO7.out.1.1.2)).mono ?_; rintro e y8 ⟨rfl, ok⟩; have HO8 : Hid (((((Below w.heap.size w y8) ∧ SpansR y8 vx X) ∧ SpansR y8 vy X) ∧ SpansR y8 vu U) ∧ SpansR y8 vv U) := HK4.out _ _ HO7.out ok; clear ok HO7)
    | (have _h := HO8; go_at_call 16; refine (HSm.out _ _ _ U lu (HO8.out.1.2) (HO8.out.2)).mono ?_; rintro e y9 ⟨rfl, ok⟩; have HO9 : Hid (((((Below w.heap.size w y9) ∧ SpansR y9 vx X) ∧ SpansR y9 vy X) ∧ SpansR y9 vu U) ∧ SpansR y9 vv U) := HK4.out _ _ HO8.out ok; clear ok HO8)
    | (have _h := HO9; go_at_call 14; refine (HP.out _ (HO9.out.1.1.1.1)).mono ?_; rintro e y10 ⟨vp, rfl, ok⟩; have HK5 := hide3 (HK4.out.and (keepSpR vp A)); have HO10 : Hid ((((((Below w.heap.size w y10) ∧ SpansR y10 vx X) ∧ SpansR y10 vy X) ∧ SpansR y10 vu U) ∧ SpansR y10 vv U) ∧ SpansR y10 vp A) := ⟨HK4.out _ _ HO9.out ok.2, ok.1⟩; clear ok HO9)
    | (have _h := HO10; go_at_call 19; refine (HQ.out _ (HO10.out.1.1.1.1.1)).mono ?_; rintro e y11 ⟨adq, capq, rfl, ok⟩; have HK6 := hide3 (HK5.out.and (keepSpR (.slice adq 0 capq) [])); have HO11 : Hid (((((((Below w.heap.size w y11) ∧ SpansR y11 vx X) ∧ SpansR y11 vy X) ∧ SpansR y11 vu U) ∧ SpansR y11 vv U) ∧ SpansR y11 vp A) ∧ SpansR y11 (.slice adq 0 capq) []) := ⟨HK5.out _ _ HO10.out ok.2, ok.1⟩; clear ok HO10)
    | (have _h := HO11; go_at_call 16; refine (HSa.out _ _ (HO11.out.1.1.1.1.1.1) (HO11.out.1.2)).mono ?_; rintro e y12 ⟨rfl, ok⟩; have HO12 : Hid (((((((Below w.heap.size w y12) ∧ SpansR y12 vx X) ∧ SpansR y12 vy X) ∧ SpansR y12 vu U) ∧ SpansR y12 vv U) ∧ SpansR y12 vp A) ∧ SpansR y12 (.slice adq 0 capq) []) := HK6.out _ _ HO11.out ok; clear ok HO11)
    | (have _h := HO12; go_at_call 26; refine (HAl.out _ (HO12.out.1.1.1.1.1.1)).mono ?_; rintro e y13 ⟨v0, rfl, ok⟩; have HK7 := hide3 (HK6.out.and (keepSpR v0 allR)); have HO13 : Hid ((((((((Below w.heap.size w y13) ∧ SpansR y13 vx X) ∧ SpansR y13 vy X) ∧ SpansR y13 vu U) ∧ SpansR y13 vv U) ∧ SpansR y13 vp A) ∧ SpansR y13 (.slice adq 0 capq) []) ∧ SpansR y13 v0 allR) := ⟨HK6.out _ _ HO12.out ok.2, ok.1⟩; clear ok HO12)
    | (have _h := HO13; go_at_call 19; refine (HN.out _ _ (HO13.out.1.1.1.1.1.1.1) (HO13.out.2)).mono ?_; rintro e y14 ⟨vn, rfl, ok⟩; have HK8 := hide3 (HK7.out.and (keepSpR vn N)); have HO14 : Hid (((((((((Below w.heap.size w y14) ∧ SpansR y14 vx X) ∧ SpansR y14 vy X) ∧ SpansR y14 vu U) ∧ SpansR y14 vv U) ∧ SpansR y14 vp A) ∧ SpansR y14 (.slice adq 0 capq) []) ∧ SpansR y14 v0 allR) ∧ SpansR y14 vn N) := ⟨HK7.out _ _ HO13.out ok.2, ok.1⟩; clear ok HO13)
    | (have _h := HO14; go_at_call 19; refine (HD.out _ (HO14.out.1.1.1.1.1.1.1.1)).mono ?_; rintro e y15 ⟨vd, rfl, ok⟩; have HK9 := hide3 (HK8.out.and (keepSpR vd D)); have HO15 : Hid ((((((((((Below w.heap.size w y15) ∧ SpansR y15 vx X) ∧ SpansR y15 vy X) ∧ SpansR y15 vu U) ∧ SpansR y15 vv U) ∧ SpansR y15 vp A) ∧ SpansR y15 (.slice adq 0 capq) []) ∧ SpansR y15 v0 allR) ∧ SpansR y15 vn N) ∧ SpansR y15 vd D) := ⟨HK8.out _ _ HO14.out ok.2, ok.1⟩; clear ok HO14))
  go_ret
  exact ⟨rfl, HO15.out.1.1.1.1.1.1.1.1.1⟩

set_option maxHeartbeats 3200000 in
theorem rules_26_26_26 (va vb : Value) (A X U N D : Rg) (eg : Int) (w : World)
    (lx : X.length ≤ 64) (lu : U.length ≤ 64)
    (HKn : Hid (∀ w1, Below w.heap.size w w1 → Says 13 #[] w1 true)) (HMa : Hid (∀ w1, Below w.heap.size w w1 → Says 9 #[va] w1 true)) (HMb : Hid (∀ w1, Below w.heap.size w w1 → Says 9 #[vb] w1 true))
    (HX : Hid (∀ w1, Below w.heap.size w w1 → NewSp 14 va vb w1 26 X)) (HX2 : Hid (∀ w1, Below w.heap.size w w1 → NewSp 14 vb va w1 26 X)) (HU : Hid (∀ w1, Below w.heap.size w w1 → NewSp 17 va vb w1 eg U)) (HU2 : Hid (∀ w1, Below w.heap.size w w1 → NewSp 17 vb va w1 eg U))
    (HSm : Hid (∀ w1 x y (R : Rg), R.length ≤ 64 → SpansR w1 x R → SpansR w1 y R → Says 16 #[x, y] w1 true))
    (HP : Hid (∀ w1, Below w.heap.size w w1 → NewSp 14 va va w1 0 A)) (HQ : Hid (∀ w1, Below w.heap.size w w1 → NilSp 19 va va w1)) (HSa : Hid (∀ w1 x, Below w.heap.size w w1 → SpansR w1 x A → Says 16 #[x, va] w1 true))
    (HAl : Hid (∀ w1, Below w.heap.size w w1 → OneSp 26 #[] w1 allR)) (HN : Hid (∀ w1 x, Below w.heap.size w w1 → SpansR w1 x allR → NewSp 19 x va w1 26 N))
    (HD : Hid (∀ w1, Below w.heap.size w w1 → NewSp 19 va vb w1 26 D))
    : Calls Tryz.prog 8 #[va, vb] w fun e w' => e = .returned (.bool true) ∧ Below w.heap.size w w' := by
  have HK0 : Hid (KeepP fun w1 => Below w.heap.size w w1) := keepBelow w
  have HO0 : Hid (Below w.heap.size w w) := Below.refl _ _
  go_enter Tryz.func8, Tryz.ntmps8
  go_wp2_with (first
    | (have _h := HO0; go_at_call 13; refine (HKn.out _ (HO0.out)).mono ?_; rintro e y1 ⟨rfl, ok⟩; have HO1 : Hid (Below w.heap.size w y1) := HK0.out _ _ HO0.out ok; clear ok HO0)
    | (have _h := HO1; go_at_call 9; refine (HMa.out _ (HO1.out)).mono ?_; rintro e y2 ⟨rfl, ok⟩; have HO2 : Hid (Below w.heap.size w y2) := HK0.out _ _ HO1.out ok; clear ok HO1)
    | (have _h := HO2; go_at_call 9; refine (HMb.out _ (HO2.out)).mono ?_; rintro e y3 ⟨rfl, ok⟩; have HO3 : Hid (Below w.heap.size w y3) := HK0.out _ _ HO2.out ok; clear ok HO2)
    | (have _h := HO3; go_at_call 14; refine (HX.out _ (HO3.out)).mono ?_; rintro e y4 ⟨vx, rfl, ok⟩; have HK1 := hide3 (HK0.out.and (keepSpR vx X)); have HO4 : Hid ((Below w.heap.size w y4) ∧ SpansR y4 vx X) := ⟨HK0.out _ _ HO3.out ok.2, ok.1⟩; clear ok HO3)
    | (have _h := HO4; go_at_call 14; refine (HX2.out _ (HO4.out.1)).mono ?_; rintro e y5 ⟨vy, rfl, ok⟩; have HK2 := hide3 (HK1.out.and (keepSpR vy X)); have HO5 : Hid (((Below w.heap.size w y5) ∧ SpansR y5 vx X) ∧ SpansR y5 vy X) := ⟨HK1.out _ _ HO4.out ok.2, ok.1⟩; clear ok HO4)
    | (have _h := HO5; go_at_call 17; refine (HU.out _ (HO5.out.1.1)).mono ?_; rintro e y6 ⟨vu, rfl, ok⟩; have HK3 := hide3 (HK2.out.and (keepSpR vu U)); have HO6 : Hid ((((Below w.heap.size w y6) ∧ SpansR y6 vx X) ∧ SpansR y6 vy X) ∧ SpansR y6 vu U) := ⟨HK2.out _ _ HO5.out ok.2, ok.1⟩; clear ok HO5)
    | (have _h := HO6; go_at_call 17; refine (HU2.out _ (HO6.out.1.1.1)).mono ?_; rintro e y7 ⟨vv, rfl, ok⟩; have HK4 := hide3 (HK3.out.and (keepSpR vv U)); have HO7 : Hid (((((Below w.heap.size w y7) ∧ SpansR y7 vx X) ∧ SpansR y7 vy X) ∧ SpansR y7 vu U) ∧ SpansR y7 vv U) := ⟨HK3.out _ _ HO6.out ok.2, ok.1⟩; clear ok HO6)
    | (have _h := HO7; go_at_call 16; refine (HSm.out _ _ _ X lx (HO7.out.1.1.1.2) (HO7.out.1.1.2)).mono ?_; rintro e y8 ⟨rfl, ok⟩; have HO8 : Hid (((((Below w.heap.size w y8) ∧ SpansR y8 vx X) ∧ SpansR y8 vy X) ∧ SpansR y8 vu U) ∧ SpansR y8 vv U) := HK4.out _ _ HO7.out ok; clear ok HO7)
    | (have _h := HO8; go_at_call 16; refine (HSm.out _ _ _ U lu (HO8.out.1.2) (HO8.out.2)).mono ?_; rintro e y9 ⟨rfl, ok⟩; have HO9 : Hid (((((Below w.heap.size w y9) ∧ SpansR y9 vx X) ∧ SpansR y9 vy X) ∧ SpansR y9 vu U) ∧ SpansR y9 vv U) := HK4.out _ _ HO8.out ok; clear ok HO8)
    | (have _h := HO9; go_at_call 14; refine (HP.out _ (HO9.out.1.1.1.1)).mono ?_; rintro e y10 ⟨vp, rfl, ok⟩; have HK5 := hide3 (HK4.out.and (keepSpR vp A)); have HO10 : Hid ((((((Below w.heap.size w y10) ∧ SpansR y10 vx X) ∧ SpansR y10 vy X) ∧ SpansR y10 vu U) ∧ SpansR y10 vv U) ∧ SpansR y10 vp A) := ⟨HK4.out _ _ HO9.out ok.2, ok.1⟩; clear ok HO9)
    | (have _h := HO10; go_at_call 19; refine (HQ.out _ (HO10.out.1.1.1.1.1)).mono ?_; rintro e y11 ⟨adq, capq, rfl, ok⟩; have HK6 := hide3 (HK5.out.and (keepSpR (.slice adq 0 capq) [])); have HO11 : Hid (((((((Below w.heap.size w y11) ∧ SpansR y11 vx X) ∧ SpansR y11 vy X) ∧ SpansR y11 vu U) ∧ SpansR y11 vv U) ∧ SpansR y11 vp A) ∧ SpansR y11 (.slice adq 0 capq) []) := ⟨HK5.out _ _ HO10.out ok.2, ok.1⟩; clear ok HO10)
    | (have _h := HO11; go_at_call 16; refine (HSa.out _ _ (HO11.out.1.1.1.1.1.1) (HO11.out.1.2)).mono ?_; rintro e y12 ⟨rfl, ok⟩; have HO12 : Hid (((((((Below w.heap.size w y12) ∧ SpansR y12 vx X) ∧ SpansR y12 vy X) ∧ SpansR y12 vu U) ∧ SpansR y12 vv U) ∧ SpansR y12 vp A) ∧ SpansR y12 (.slice adq 0 capq) []) := HK6.out _ _ HO11.out ok; clear ok HO11)
    | (have _h := HO12; go_at_call 26; refine (HAl.out _ (HO12.out.1.1.1.1.1.1)).mono ?_; rintro e y13 ⟨v0, rfl, ok⟩; have HK7 := hide3 (HK6.out.and (keepSpR v0 allR)); have HO13 : Hid ((((((((Below w.heap.size w y13) ∧ SpansR y13 vx X) ∧ SpansR y13 vy X) ∧ SpansR y13 vu U) ∧ SpansR y13 vv U) ∧ SpansR y13 vp A) ∧ SpansR y13 (.slice adq 0 capq) []) ∧ SpansR y13 v0 allR) := ⟨HK6.out _ _ HO12.out ok.2, ok.1⟩; clear ok HO12)
    | (have _h := HO13; go_at_call 19; refine (HN.out _ _ (HO13.out.1.1.1.1.1.1.1) (HO13.out.2)).mono ?_; rintro e y14 ⟨vn, rfl, ok⟩; have HK8 := hide3 (HK7.out.and (keepSpR vn N)); have HO14 : Hid (((((((((Below w.heap.size w y14) ∧ SpansR y14 vx X) ∧ SpansR y14 vy X) ∧ SpansR y14 vu U) ∧ SpansR y14 vv U) ∧ SpansR y14 vp A) ∧ SpansR y14 (.slice adq 0 capq) []) ∧ SpansR y14 v0 allR) ∧ SpansR y14 vn N) := ⟨HK7.out _ _ HO13.out ok.2, ok.1⟩; clear ok HO13)
    | (have _h := HO14; go_at_call 19; refine (HD.out _ (HO14.out.1.1.1.1.1.1.1.1)).mono ?_; rintro e y15 ⟨vd, rfl, ok⟩; have HK9 := hide3 (HK8.out.and (keepSpR vd D)); have HO15 : Hid ((((((((((Below w.heap.size w y15) ∧ SpansR y15 vx X) ∧ SpansR y15 vy X) ∧ SpansR y15 vu U) ∧ SpansR y15 vv U) ∧ SpansR y15 vp A) ∧ SpansR y15 (.slice adq 0 capq) []) ∧ SpansR y15 v0 allR) ∧ SpansR y15 vn N) ∧ SpansR y15 vd D) := ⟨HK8.out _ _ HO14.out ok.2, ok.1⟩; clear ok HO14))
  go_ret
  exact ⟨rfl, HO15.out.1.1.1.1.1.1.1.1.1⟩

theorem rules_noB (va vb : Value) (w : World)
    (HKn : Hid (∀ w1, Below w.heap.size w w1 → Says 13 #[] w1 true)) (HMa : Hid (∀ w1, Below w.heap.size w w1 → Says 9 #[va] w1 true)) (HMb : Hid (∀ w1, Below w.heap.size w w1 → Says 9 #[vb] w1 false))
    : Calls Tryz.prog 8 #[va, vb] w fun e w' => e = .returned (.bool true) ∧ Below w.heap.size w w' := by
  have HK0 : Hid (KeepP fun w1 => Below w.heap.size w w1) := keepBelow w
  have HO0 : Hid (Below w.heap.size w w) := Below.refl _ _
  go_enter Tryz.func8, Tryz.ntmps8
  go_wp2_with (first
    | (have _h := HO0; go_at_call 13; refine (HKn.out _ (HO0.out)).mono ?_; rintro e y1 ⟨rfl, ok⟩; have HO1 : Hid (Below w.heap.size w y1) := HK0.out _ _ HO0.out ok; clear ok HO0)
    | (have _h := HO1; go_at_call 9; refine (HMa.out _ (HO1.out)).mono ?_; rintro e y2 ⟨rfl, ok⟩; have HO2 : Hid (Below w.heap.size w y2) := HK0.out _ _ HO1.out ok; clear ok HO1)
    | (have _h := HO2; go_at_call 9; refine (HMb.out _ (HO2.out)).mono ?_; rintro e y3 ⟨rfl, ok⟩; have HO3 : Hid (Below w.heap.size w y3) := HK0.out _ _ HO2.out ok; clear ok HO2))
  go_ret
  exact ⟨rfl, HO3.out⟩

theorem rules_noA (va vb : Value) (w : World)
    (HKn : Hid (∀ w1, Below w.heap.size w w1 → Says 13 #[] w1 true)) (HMa : Hid (∀ w1, Below w.heap.size w w1 → Says 9 #[va] w1 false))
    : Calls Tryz.prog 8 #[va, vb] w fun e w' => e = .returned (.bool true) ∧ Below w.heap.size w w' := by
  have HK0 : Hid (KeepP fun w1 => Below w.heap.size w w1) := keepBelow w
  have HO0 : Hid (Below w.heap.size w w) := Below.refl _ _
  go_enter Tryz.func8, Tryz.ntmps8
  go_wp2_with (first
    | (have _h := HO0; go_at_call 13; refine (HKn.out _ (HO0.out)).mono ?_; rintro e y1 ⟨rfl, ok⟩; have HO1 : Hid (Below w.heap.size w y1) := HK0.out _ _ HO0.out ok; clear ok HO0)
    | (have _h := HO1; go_at_call 9; refine (HMa.out _ (HO1.out)).mono ?_; rintro e y2 ⟨rfl, ok⟩; have HO2 : Hid (Below w.heap.size w y2) := HK0.out _ _ HO1.out ok; clear ok HO1))
  go_ret
  exact ⟨rfl, HO2.out⟩
end Go.Proofs.YtpdafkfclkedjaaGreatDoor
