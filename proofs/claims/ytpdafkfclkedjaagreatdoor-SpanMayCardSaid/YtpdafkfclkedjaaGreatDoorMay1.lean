/- SpanMay of any list and version. -/
import Derived.Test.YtpdafkfclkedjaaGreatDoorRf2
import Derived.Test.YtpdafkfclkedjaaGreatDoorPoints2
namespace Go.Proofs.YtpdafkfclkedjaaGreatDoor
open Go.RowKit
set_option maxRecDepth 100000

set_option maxHeartbeats 1600000 in
theorem smay_true_true (va : Value) (p q r : Int) (w : World) (H1 : Hid (∀ w1, Below w.heap.size w w1 → Says 9 #[va] w1 true)) (H2 : Hid (∀ w1, Below w.heap.size w w1 → Says 10 #[va] w1 true)) (H3 : Hid (∀ w1, Below w.heap.size w w1 → Says 11 #[va, .agg #[.int .i64 p, .int .i64 q, .int .i64 r]] w1 true)) (H4 : Hid (∀ w1, Below w.heap.size w w1 → Says 12 #[va, .agg #[.int .i64 p, .int .i64 q, .int .i64 r]] w1 true)) (H5 : Hid (∀ w1, Below w.heap.size w w1 → Says 13 #[] w1 true)) :
    Calls Tryz.prog 3 #[va, .agg #[.int .i64 p, .int .i64 q, .int .i64 r]] w fun e w' => e = .returned (.bool true) ∧ Below w.heap.size w w' := by
  have HK : Hid (KeepP fun w1 => Below w.heap.size w w1 ∧ BxAt w1 ⟨w.heap.size, .int .i64 p, .int .i64 q, .int .i64 r⟩) := (keepBelow w).and (keepV3 _)
  have HO : Hid (Below w.heap.size w (w.alloc (.cells #[.int .i64 p, .int .i64 q, .int .i64 r] 24)) ∧ BxAt (w.alloc (.cells #[.int .i64 p, .int .i64 q, .int .i64 r] 24)) ⟨w.heap.size, .int .i64 p, .int .i64 q, .int .i64 r⟩) := ⟨boxB _ _, ((OKs.nil w).box rfl _ _ _).one⟩
  have G1 : Hid (∀ w1, (Below w.heap.size w w1 ∧ BxAt w1 ⟨w.heap.size, .int .i64 p, .int .i64 q, .int .i64 r⟩) → Calls Tryz.prog 9 #[va] w1 fun e w' => e = .returned (.bool true) ∧ Below w1.heap.size w1 w') := fun w1 h => H1.out w1 h.1
  have G2 : Hid (∀ w1, (Below w.heap.size w w1 ∧ BxAt w1 ⟨w.heap.size, .int .i64 p, .int .i64 q, .int .i64 r⟩) → Calls Tryz.prog 10 #[va] w1 fun e w' => e = .returned (.bool true) ∧ Below w1.heap.size w1 w') := fun w1 h => H2.out w1 h.1
  have G3 : Hid (∀ w1, (Below w.heap.size w w1 ∧ BxAt w1 ⟨w.heap.size, .int .i64 p, .int .i64 q, .int .i64 r⟩) → Calls Tryz.prog 11 #[va, .agg #[.int .i64 p, .int .i64 q, .int .i64 r]] w1 fun e w' => e = .returned (.bool true) ∧ Below w1.heap.size w1 w') := fun w1 h => H3.out w1 h.1
  have G4 : Hid (∀ w1, (Below w.heap.size w w1 ∧ BxAt w1 ⟨w.heap.size, .int .i64 p, .int .i64 q, .int .i64 r⟩) → Calls Tryz.prog 12 #[va, .agg #[.int .i64 p, .int .i64 q, .int .i64 r]] w1 fun e w' => e = .returned (.bool true) ∧ Below w1.heap.size w1 w') := fun w1 h => H4.out w1 h.1
  have G5 : Hid (∀ w1, (Below w.heap.size w w1 ∧ BxAt w1 ⟨w.heap.size, .int .i64 p, .int .i64 q, .int .i64 r⟩) → Calls Tryz.prog 13 #[] w1 fun e w' => e = .returned (.bool true) ∧ Below w1.heap.size w1 w') := fun w1 h => H5.out w1 h.1
  clear H1 H2 H3 H4 H5
  go_enter Tryz.func3, Tryz.ntmps3
  go_wp2_with fail
  refine wp_region_keep HK.out (by kernel_rfl) (by kernel_rfl) (by first | exact HO.out | exact HK.out.drew HO.out) ?_
  intro C hin hout
  have HIN := hide3 hin
  have HOUT := hide3 hout
  clear hin hout HO
  repeat
    (with_reducible refine wpQuiet_step (fun K hK => ?_)
     go_simp
     first
       | (refine hK _ ?_; clear hK K)
       | (apply Exists.intro; refine ⟨fun w1 hC => ?_, hK _ ?_⟩; (focus ((first | (go_at_call 9; with_reducible exact callC' HIN.out HOUT.out HK.out G1.out w1 hC) | (go_at_call 10; with_reducible exact callC' HIN.out HOUT.out HK.out G2.out w1 hC) | (go_at_call 11; with_reducible exact callC' HIN.out HOUT.out HK.out G3.out w1 hC) | (go_at_call 12; with_reducible exact callC' HIN.out HOUT.out HK.out G4.out w1 hC) | (go_at_call 13; with_reducible exact callC' HIN.out HOUT.out HK.out G5.out w1 hC) | (exact rfl) | (obtain ⟨hb1, b0, b1, b2, b3⟩ := HOUT.out w1 hC; clear hC; go_simp; first | done | exact rfl)); done)); clear hK K))
  refine wpQuiet_nil ?_
  intro wn hC
  have HO := hide3 (HOUT.out _ hC)
  clear hC HIN HOUT C
  obtain ⟨hb1, b0, b1, b2, b3⟩ := HO.out
  go_wp2
  go_ret
  exact ⟨rfl, HO.out.1⟩

set_option maxHeartbeats 1600000 in
theorem smay_true_false (va : Value) (p q r : Int) (w : World) (H1 : Hid (∀ w1, Below w.heap.size w w1 → Says 9 #[va] w1 true)) (H2 : Hid (∀ w1, Below w.heap.size w w1 → Says 10 #[va] w1 true)) (H3 : Hid (∀ w1, Below w.heap.size w w1 → Says 11 #[va, .agg #[.int .i64 p, .int .i64 q, .int .i64 r]] w1 false)) (H4 : Hid (∀ w1, Below w.heap.size w w1 → Says 12 #[va, .agg #[.int .i64 p, .int .i64 q, .int .i64 r]] w1 false)) (H5 : Hid (∀ w1, Below w.heap.size w w1 → Says 13 #[] w1 true)) :
    Calls Tryz.prog 3 #[va, .agg #[.int .i64 p, .int .i64 q, .int .i64 r]] w fun e w' => e = .returned (.bool true) ∧ Below w.heap.size w w' := by
  have HK : Hid (KeepP fun w1 => Below w.heap.size w w1 ∧ BxAt w1 ⟨w.heap.size, .int .i64 p, .int .i64 q, .int .i64 r⟩) := (keepBelow w).and (keepV3 _)
  have HO : Hid (Below w.heap.size w (w.alloc (.cells #[.int .i64 p, .int .i64 q, .int .i64 r] 24)) ∧ BxAt (w.alloc (.cells #[.int .i64 p, .int .i64 q, .int .i64 r] 24)) ⟨w.heap.size, .int .i64 p, .int .i64 q, .int .i64 r⟩) := ⟨boxB _ _, ((OKs.nil w).box rfl _ _ _).one⟩
  have G1 : Hid (∀ w1, (Below w.heap.size w w1 ∧ BxAt w1 ⟨w.heap.size, .int .i64 p, .int .i64 q, .int .i64 r⟩) → Calls Tryz.prog 9 #[va] w1 fun e w' => e = .returned (.bool true) ∧ Below w1.heap.size w1 w') := fun w1 h => H1.out w1 h.1
  have G2 : Hid (∀ w1, (Below w.heap.size w w1 ∧ BxAt w1 ⟨w.heap.size, .int .i64 p, .int .i64 q, .int .i64 r⟩) → Calls Tryz.prog 10 #[va] w1 fun e w' => e = .returned (.bool true) ∧ Below w1.heap.size w1 w') := fun w1 h => H2.out w1 h.1
  have G3 : Hid (∀ w1, (Below w.heap.size w w1 ∧ BxAt w1 ⟨w.heap.size, .int .i64 p, .int .i64 q, .int .i64 r⟩) → Calls Tryz.prog 11 #[va, .agg #[.int .i64 p, .int .i64 q, .int .i64 r]] w1 fun e w' => e = .returned (.bool false) ∧ Below w1.heap.size w1 w') := fun w1 h => H3.out w1 h.1
  have G4 : Hid (∀ w1, (Below w.heap.size w w1 ∧ BxAt w1 ⟨w.heap.size, .int .i64 p, .int .i64 q, .int .i64 r⟩) → Calls Tryz.prog 12 #[va, .agg #[.int .i64 p, .int .i64 q, .int .i64 r]] w1 fun e w' => e = .returned (.bool false) ∧ Below w1.heap.size w1 w') := fun w1 h => H4.out w1 h.1
  have G5 : Hid (∀ w1, (Below w.heap.size w w1 ∧ BxAt w1 ⟨w.heap.size, .int .i64 p, .int .i64 q, .int .i64 r⟩) → Calls Tryz.prog 13 #[] w1 fun e w' => e = .returned (.bool true) ∧ Below w1.heap.size w1 w') := fun w1 h => H5.out w1 h.1
  clear H1 H2 H3 H4 H5
  go_enter Tryz.func3, Tryz.ntmps3
  go_wp2_with fail
  refine wp_region_keep HK.out (by kernel_rfl) (by kernel_rfl) (by first | exact HO.out | exact HK.out.drew HO.out) ?_
  intro C hin hout
  have HIN := hide3 hin
  have HOUT := hide3 hout
  clear hin hout HO
  repeat
    (with_reducible refine wpQuiet_step (fun K hK => ?_)
     go_simp
     first
       | (refine hK _ ?_; clear hK K)
       | (apply Exists.intro; refine ⟨fun w1 hC => ?_, hK _ ?_⟩; (focus ((first | (go_at_call 9; with_reducible exact callC' HIN.out HOUT.out HK.out G1.out w1 hC) | (go_at_call 10; with_reducible exact callC' HIN.out HOUT.out HK.out G2.out w1 hC) | (go_at_call 11; with_reducible exact callC' HIN.out HOUT.out HK.out G3.out w1 hC) | (go_at_call 12; with_reducible exact callC' HIN.out HOUT.out HK.out G4.out w1 hC) | (go_at_call 13; with_reducible exact callC' HIN.out HOUT.out HK.out G5.out w1 hC) | (exact rfl) | (obtain ⟨hb1, b0, b1, b2, b3⟩ := HOUT.out w1 hC; clear hC; go_simp; first | done | exact rfl)); done)); clear hK K))
  refine wpQuiet_nil ?_
  intro wn hC
  have HO := hide3 (HOUT.out _ hC)
  clear hC HIN HOUT C
  obtain ⟨hb1, b0, b1, b2, b3⟩ := HO.out
  go_wp2
  go_ret
  exact ⟨rfl, HO.out.1⟩

set_option maxHeartbeats 1600000 in
theorem smay_false_true (va : Value) (p q r : Int) (w : World) (H1 : Hid (∀ w1, Below w.heap.size w w1 → Says 9 #[va] w1 false)) (H2 : Hid (∀ w1, Below w.heap.size w w1 → Says 10 #[va] w1 false)) (H3 : Hid (∀ w1, Below w.heap.size w w1 → Says 11 #[va, .agg #[.int .i64 p, .int .i64 q, .int .i64 r]] w1 true)) (H4 : Hid (∀ w1, Below w.heap.size w w1 → Says 12 #[va, .agg #[.int .i64 p, .int .i64 q, .int .i64 r]] w1 true)) (H5 : Hid (∀ w1, Below w.heap.size w w1 → Says 13 #[] w1 true)) :
    Calls Tryz.prog 3 #[va, .agg #[.int .i64 p, .int .i64 q, .int .i64 r]] w fun e w' => e = .returned (.bool true) ∧ Below w.heap.size w w' := by
  have HK : Hid (KeepP fun w1 => Below w.heap.size w w1 ∧ BxAt w1 ⟨w.heap.size, .int .i64 p, .int .i64 q, .int .i64 r⟩) := (keepBelow w).and (keepV3 _)
  have HO : Hid (Below w.heap.size w (w.alloc (.cells #[.int .i64 p, .int .i64 q, .int .i64 r] 24)) ∧ BxAt (w.alloc (.cells #[.int .i64 p, .int .i64 q, .int .i64 r] 24)) ⟨w.heap.size, .int .i64 p, .int .i64 q, .int .i64 r⟩) := ⟨boxB _ _, ((OKs.nil w).box rfl _ _ _).one⟩
  have G1 : Hid (∀ w1, (Below w.heap.size w w1 ∧ BxAt w1 ⟨w.heap.size, .int .i64 p, .int .i64 q, .int .i64 r⟩) → Calls Tryz.prog 9 #[va] w1 fun e w' => e = .returned (.bool false) ∧ Below w1.heap.size w1 w') := fun w1 h => H1.out w1 h.1
  have G2 : Hid (∀ w1, (Below w.heap.size w w1 ∧ BxAt w1 ⟨w.heap.size, .int .i64 p, .int .i64 q, .int .i64 r⟩) → Calls Tryz.prog 10 #[va] w1 fun e w' => e = .returned (.bool false) ∧ Below w1.heap.size w1 w') := fun w1 h => H2.out w1 h.1
  have G3 : Hid (∀ w1, (Below w.heap.size w w1 ∧ BxAt w1 ⟨w.heap.size, .int .i64 p, .int .i64 q, .int .i64 r⟩) → Calls Tryz.prog 11 #[va, .agg #[.int .i64 p, .int .i64 q, .int .i64 r]] w1 fun e w' => e = .returned (.bool true) ∧ Below w1.heap.size w1 w') := fun w1 h => H3.out w1 h.1
  have G4 : Hid (∀ w1, (Below w.heap.size w w1 ∧ BxAt w1 ⟨w.heap.size, .int .i64 p, .int .i64 q, .int .i64 r⟩) → Calls Tryz.prog 12 #[va, .agg #[.int .i64 p, .int .i64 q, .int .i64 r]] w1 fun e w' => e = .returned (.bool true) ∧ Below w1.heap.size w1 w') := fun w1 h => H4.out w1 h.1
  have G5 : Hid (∀ w1, (Below w.heap.size w w1 ∧ BxAt w1 ⟨w.heap.size, .int .i64 p, .int .i64 q, .int .i64 r⟩) → Calls Tryz.prog 13 #[] w1 fun e w' => e = .returned (.bool true) ∧ Below w1.heap.size w1 w') := fun w1 h => H5.out w1 h.1
  clear H1 H2 H3 H4 H5
  go_enter Tryz.func3, Tryz.ntmps3
  go_wp2_with fail
  refine wp_region_keep HK.out (by kernel_rfl) (by kernel_rfl) (by first | exact HO.out | exact HK.out.drew HO.out) ?_
  intro C hin hout
  have HIN := hide3 hin
  have HOUT := hide3 hout
  clear hin hout HO
  repeat
    (with_reducible refine wpQuiet_step (fun K hK => ?_)
     go_simp
     first
       | (refine hK _ ?_; clear hK K)
       | (apply Exists.intro; refine ⟨fun w1 hC => ?_, hK _ ?_⟩; (focus ((first | (go_at_call 9; with_reducible exact callC' HIN.out HOUT.out HK.out G1.out w1 hC) | (go_at_call 10; with_reducible exact callC' HIN.out HOUT.out HK.out G2.out w1 hC) | (go_at_call 11; with_reducible exact callC' HIN.out HOUT.out HK.out G3.out w1 hC) | (go_at_call 12; with_reducible exact callC' HIN.out HOUT.out HK.out G4.out w1 hC) | (go_at_call 13; with_reducible exact callC' HIN.out HOUT.out HK.out G5.out w1 hC) | (exact rfl) | (obtain ⟨hb1, b0, b1, b2, b3⟩ := HOUT.out w1 hC; clear hC; go_simp; first | done | exact rfl)); done)); clear hK K))
  refine wpQuiet_nil ?_
  intro wn hC
  have HO := hide3 (HOUT.out _ hC)
  clear hC HIN HOUT C
  obtain ⟨hb1, b0, b1, b2, b3⟩ := HO.out
  go_wp2
  go_ret
  exact ⟨rfl, HO.out.1⟩

set_option maxHeartbeats 1600000 in
theorem smay_false_false (va : Value) (p q r : Int) (w : World) (H1 : Hid (∀ w1, Below w.heap.size w w1 → Says 9 #[va] w1 false)) (H2 : Hid (∀ w1, Below w.heap.size w w1 → Says 10 #[va] w1 false)) (H3 : Hid (∀ w1, Below w.heap.size w w1 → Says 11 #[va, .agg #[.int .i64 p, .int .i64 q, .int .i64 r]] w1 false)) (H4 : Hid (∀ w1, Below w.heap.size w w1 → Says 12 #[va, .agg #[.int .i64 p, .int .i64 q, .int .i64 r]] w1 false)) (H5 : Hid (∀ w1, Below w.heap.size w w1 → Says 13 #[] w1 true)) :
    Calls Tryz.prog 3 #[va, .agg #[.int .i64 p, .int .i64 q, .int .i64 r]] w fun e w' => e = .returned (.bool true) ∧ Below w.heap.size w w' := by
  have HK : Hid (KeepP fun w1 => Below w.heap.size w w1 ∧ BxAt w1 ⟨w.heap.size, .int .i64 p, .int .i64 q, .int .i64 r⟩) := (keepBelow w).and (keepV3 _)
  have HO : Hid (Below w.heap.size w (w.alloc (.cells #[.int .i64 p, .int .i64 q, .int .i64 r] 24)) ∧ BxAt (w.alloc (.cells #[.int .i64 p, .int .i64 q, .int .i64 r] 24)) ⟨w.heap.size, .int .i64 p, .int .i64 q, .int .i64 r⟩) := ⟨boxB _ _, ((OKs.nil w).box rfl _ _ _).one⟩
  have G1 : Hid (∀ w1, (Below w.heap.size w w1 ∧ BxAt w1 ⟨w.heap.size, .int .i64 p, .int .i64 q, .int .i64 r⟩) → Calls Tryz.prog 9 #[va] w1 fun e w' => e = .returned (.bool false) ∧ Below w1.heap.size w1 w') := fun w1 h => H1.out w1 h.1
  have G2 : Hid (∀ w1, (Below w.heap.size w w1 ∧ BxAt w1 ⟨w.heap.size, .int .i64 p, .int .i64 q, .int .i64 r⟩) → Calls Tryz.prog 10 #[va] w1 fun e w' => e = .returned (.bool false) ∧ Below w1.heap.size w1 w') := fun w1 h => H2.out w1 h.1
  have G3 : Hid (∀ w1, (Below w.heap.size w w1 ∧ BxAt w1 ⟨w.heap.size, .int .i64 p, .int .i64 q, .int .i64 r⟩) → Calls Tryz.prog 11 #[va, .agg #[.int .i64 p, .int .i64 q, .int .i64 r]] w1 fun e w' => e = .returned (.bool false) ∧ Below w1.heap.size w1 w') := fun w1 h => H3.out w1 h.1
  have G4 : Hid (∀ w1, (Below w.heap.size w w1 ∧ BxAt w1 ⟨w.heap.size, .int .i64 p, .int .i64 q, .int .i64 r⟩) → Calls Tryz.prog 12 #[va, .agg #[.int .i64 p, .int .i64 q, .int .i64 r]] w1 fun e w' => e = .returned (.bool false) ∧ Below w1.heap.size w1 w') := fun w1 h => H4.out w1 h.1
  have G5 : Hid (∀ w1, (Below w.heap.size w w1 ∧ BxAt w1 ⟨w.heap.size, .int .i64 p, .int .i64 q, .int .i64 r⟩) → Calls Tryz.prog 13 #[] w1 fun e w' => e = .returned (.bool true) ∧ Below w1.heap.size w1 w') := fun w1 h => H5.out w1 h.1
  clear H1 H2 H3 H4 H5
  go_enter Tryz.func3, Tryz.ntmps3
  go_wp2_with fail
  refine wp_region_keep HK.out (by kernel_rfl) (by kernel_rfl) (by first | exact HO.out | exact HK.out.drew HO.out) ?_
  intro C hin hout
  have HIN := hide3 hin
  have HOUT := hide3 hout
  clear hin hout HO
  repeat
    (with_reducible refine wpQuiet_step (fun K hK => ?_)
     go_simp
     first
       | (refine hK _ ?_; clear hK K)
       | (apply Exists.intro; refine ⟨fun w1 hC => ?_, hK _ ?_⟩; (focus ((first | (go_at_call 9; with_reducible exact callC' HIN.out HOUT.out HK.out G1.out w1 hC) | (go_at_call 10; with_reducible exact callC' HIN.out HOUT.out HK.out G2.out w1 hC) | (go_at_call 11; with_reducible exact callC' HIN.out HOUT.out HK.out G3.out w1 hC) | (go_at_call 12; with_reducible exact callC' HIN.out HOUT.out HK.out G4.out w1 hC) | (go_at_call 13; with_reducible exact callC' HIN.out HOUT.out HK.out G5.out w1 hC) | (exact rfl) | (obtain ⟨hb1, b0, b1, b2, b3⟩ := HOUT.out w1 hC; clear hC; go_simp; first | done | exact rfl)); done)); clear hK K))
  refine wpQuiet_nil ?_
  intro wn hC
  have HO := hide3 (HOUT.out _ hC)
  clear hC HIN HOUT C
  obtain ⟨hb1, b0, b1, b2, b3⟩ := HO.out
  go_wp2
  go_ret
  exact ⟨rfl, HO.out.1⟩

theorem smay_all {W : World} (hE : Env W ∧ FL W) {va : Value} {La : List Sp} (ha : SpansC W va La) (p q r : Int) :
    Calls Tryz.prog 3 #[va, .agg #[.int .i64 p, .int .i64 q, .int .i64 r]] W fun e w' => e = .returned (.bool true) ∧ Below W.heap.size W w' := by
  have H5 : Hid (∀ w1, Below W.heap.size W w1 → Says 13 #[] w1 true) := fun w1 h => known_any w1 (hE.1.below h) (hE.2.below h)
  have H1 : Hid (∀ w1, Below W.heap.size W w1 → Says 9 #[va] w1 (mayL La)) := fun w1 h => sMay_any (ha.1.below h)
  have H2 : Hid (∀ w1, Below W.heap.size W w1 → Says 10 #[va] w1 (mayL La)) := fun w1 h => rMayL_any (ha.1.below h)
  have H3 : Hid (∀ w1, Below W.heap.size W w1 → Says 11 #[va, .agg #[.int .i64 p, .int .i64 q, .int .i64 r]] w1 (inL La p q r)) := fun w1 h => sIn_any (ha.1.below h) p q r
  have H4 : Hid (∀ w1, Below W.heap.size W w1 → Says 12 #[va, .agg #[.int .i64 p, .int .i64 q, .int .i64 r]] w1 (inL La p q r)) := fun w1 h => rIn_any (ha.1.below h) p q r
  generalize mayL La = bm at *
  generalize inL La p q r = bi at *
  cases bm <;> cases bi
  · exact smay_false_false va p q r W H1 H2 H3 H4 H5
  · exact smay_false_true va p q r W H1 H2 H3 H4 H5
  · exact smay_true_false va p q r W H1 H2 H3 H4 H5
  · exact smay_true_true va p q r W H1 H2 H3 H4 H5
end Go.Proofs.YtpdafkfclkedjaaGreatDoor
