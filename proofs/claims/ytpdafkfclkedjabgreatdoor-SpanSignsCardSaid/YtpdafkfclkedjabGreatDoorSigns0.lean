/- The walk of SpanSigns. -/
import Derived.Test.YtpdafkfclkedjabGreatDoorRules2
import Derived.Test.YtpdafkfclkedjabGreatDoorPure3
namespace Go.Proofs.YtpdafkfclkedjabGreatDoor
open Go.RowKit
set_option maxRecDepth 100000

def sgs : List ByteArray := [⟨#[]⟩, ⟨#[61]⟩, ⟨#[60]⟩, ⟨#[60, 61]⟩, ⟨#[62]⟩, ⟨#[62, 61]⟩, ⟨#[126]⟩, ⟨#[94]⟩]

/-- Eight texts and eight bools lie in two blocks. -/
def Rows8 (w : World) (N : Nat) (ws : List Bool) : Prop := (∀ i (h : i < sgs.length), w.cell? ⟨N, i, none⟩ = some (.string sgs[i])) ∧ (∀ i (h : i < ws.length), w.cell? ⟨N + 1, i, none⟩ = some (.bool ws[i])) ∧ N + 1 < w.heap.size
theorem keepRows8 (N : Nat) (ws : List Bool) : KeepP fun w1 => Rows8 w1 N ws := fun _ _ h hb => ⟨fun i hi => (hb.cell (p := ⟨N, i, none⟩) (Nat.lt_trans (Nat.lt_succ_self _) h.2.2)).trans (h.1 i hi), fun i hi => (hb.cell (p := ⟨N + 1, i, none⟩) h.2.2).trans (h.2.1 i hi), Nat.lt_of_lt_of_le h.2.2 hb.size⟩
theorem rows8_new (w : World) (w0 w1 w2 w3 w4 w5 w6 w7 : Bool) : Rows8 ((w.alloc (.cells #[.string ⟨#[]⟩, .string ⟨#[61]⟩, .string ⟨#[60]⟩, .string ⟨#[60, 61]⟩, .string ⟨#[62]⟩, .string ⟨#[62, 61]⟩, .string ⟨#[126]⟩, .string ⟨#[94]⟩] 9)).alloc (.cells #[.bool w0, .bool w1, .bool w2, .bool w3, .bool w4, .bool w5, .bool w6, .bool w7] 4)) w.heap.size [w0, w1, w2, w3, w4, w5, w6, w7] := by
  refine ⟨fun i hi => ?_, fun i hi => ?_, by simp⟩
  · have h : i = 0 ∨ i = 1 ∨ i = 2 ∨ i = 3 ∨ i = 4 ∨ i = 5 ∨ i = 6 ∨ i = 7 := by simp [sgs] at hi; omega
    have q : ((w.alloc (.cells #[.string ⟨#[]⟩, .string ⟨#[61]⟩, .string ⟨#[60]⟩, .string ⟨#[60, 61]⟩, .string ⟨#[62]⟩, .string ⟨#[62, 61]⟩, .string ⟨#[126]⟩, .string ⟨#[94]⟩] 9)).alloc (.cells #[.bool w0, .bool w1, .bool w2, .bool w3, .bool w4, .bool w5, .bool w6, .bool w7] 4)).cell? ⟨w.heap.size, i, none⟩ = (w.alloc (.cells #[.string ⟨#[]⟩, .string ⟨#[61]⟩, .string ⟨#[60]⟩, .string ⟨#[60, 61]⟩, .string ⟨#[62]⟩, .string ⟨#[62, 61]⟩, .string ⟨#[126]⟩, .string ⟨#[94]⟩] 9)).cell? ⟨w.heap.size, i, none⟩ := (boxB _ _).cell (p := ⟨w.heap.size, i, none⟩) (by simp)
    rw [q]
    rcases h with rfl | rfl | rfl | rfl | rfl | rfl | rfl | rfl <;> simp [sgs]
  · have h : i = 0 ∨ i = 1 ∨ i = 2 ∨ i = 3 ∨ i = 4 ∨ i = 5 ∨ i = 6 ∨ i = 7 := by simp at hi; omega
    have e : w.heap.size + 1 = (w.alloc (.cells #[.string ⟨#[]⟩, .string ⟨#[61]⟩, .string ⟨#[60]⟩, .string ⟨#[60, 61]⟩, .string ⟨#[62]⟩, .string ⟨#[62, 61]⟩, .string ⟨#[126]⟩, .string ⟨#[94]⟩] 9)).heap.size := by simp
    rw [e]
    rcases h with rfl | rfl | rfl | rfl | rfl | rfl | rfl | rfl <;> simp

theorem signs_noA (a b c x y z : Int) (w : World)
    (HKn : Hid (∀ w1, Below w.heap.size w w1 → Says 6 #[] w1 true)) (HMv : Hid (∀ w1, Says 7 #[.agg #[.int .i64 a, .int .i64 b, .int .i64 c]] w1 false))
    : Calls Tryz.prog 3 #[.agg #[.int .i64 a, .int .i64 b, .int .i64 c], .agg #[.int .i64 x, .int .i64 y, .int .i64 z]] w fun e w' => e = .returned (.bool true) ∧ Below w.heap.size w w' := by
  have HK0 : Hid (KeepP fun w1 => ((Below w.heap.size w w1) ∧ BxAt w1 ⟨w.heap.size, .int .i64 a, .int .i64 b, .int .i64 c⟩) ∧ BxAt w1 ⟨w.heap.size + 1, .int .i64 x, .int .i64 y, .int .i64 z⟩) := (KeepP.and ((KeepP.and (keepBelow w) (keepV3 _))) (keepV3 _))
  have HO0 : Hid (((Below w.heap.size w ((w.alloc (.cells #[.int .i64 a, .int .i64 b, .int .i64 c] 23)).alloc (.cells #[.int .i64 x, .int .i64 y, .int .i64 z] 23))) ∧ BxAt ((w.alloc (.cells #[.int .i64 a, .int .i64 b, .int .i64 c] 23)).alloc (.cells #[.int .i64 x, .int .i64 y, .int .i64 z] 23)) ⟨w.heap.size, .int .i64 a, .int .i64 b, .int .i64 c⟩) ∧ BxAt ((w.alloc (.cells #[.int .i64 a, .int .i64 b, .int .i64 c] 23)).alloc (.cells #[.int .i64 x, .int .i64 y, .int .i64 z] 23)) ⟨w.heap.size + 1, .int .i64 x, .int .i64 y, .int .i64 z⟩) := ⟨⟨boxB2 _ _ _, (((OKs.nil w).box rfl _ _ _).one).below (boxB _ _)⟩, ((OKs.nil (w.alloc (.cells #[.int .i64 a, .int .i64 b, .int .i64 c] 23))).box (by simp) _ _ _).one⟩
  obtain ⟨b0, b1, b2, b3⟩ := HO0.out.1.2
  obtain ⟨d0, d1, d2, d3⟩ := HO0.out.2
  go_enter Tryz.func3, Tryz.ntmps3
  go_wp2_with (first
    | (have _h := HO0; go_at_call 6; refine (HKn.out _ (HO0.out.1.1)).mono ?_; rintro e y1 ⟨rfl, ok⟩; have HO1 : Hid (((Below w.heap.size w y1) ∧ BxAt y1 ⟨w.heap.size, .int .i64 a, .int .i64 b, .int .i64 c⟩) ∧ BxAt y1 ⟨w.heap.size + 1, .int .i64 x, .int .i64 y, .int .i64 z⟩) := HK0.out _ _ HO0.out ok; clear ok HO0 b0 b1 b2 b3 d0 d1 d2 d3; obtain ⟨b0, b1, b2, b3⟩ := HO1.out.1.2; obtain ⟨d0, d1, d2, d3⟩ := HO1.out.2)
    | (have _h := HO1; go_at_call 7; refine (HMv.out _).mono ?_; rintro e y2 ⟨rfl, ok⟩; have HO2 : Hid (((Below w.heap.size w y2) ∧ BxAt y2 ⟨w.heap.size, .int .i64 a, .int .i64 b, .int .i64 c⟩) ∧ BxAt y2 ⟨w.heap.size + 1, .int .i64 x, .int .i64 y, .int .i64 z⟩) := HK0.out _ _ HO1.out ok; clear ok HO1 b0 b1 b2 b3 d0 d1 d2 d3; obtain ⟨b0, b1, b2, b3⟩ := HO2.out.1.2; obtain ⟨d0, d1, d2, d3⟩ := HO2.out.2))
  go_ret
  exact ⟨rfl, HO2.out.1.1⟩

theorem signs_noB (a b c x y z : Int) (w : World)
    (HKn : Hid (∀ w1, Below w.heap.size w w1 → Says 6 #[] w1 true)) (HMv : Hid (∀ w1, Says 7 #[.agg #[.int .i64 a, .int .i64 b, .int .i64 c]] w1 true)) (HMx : Hid (∀ w1, Says 7 #[.agg #[.int .i64 x, .int .i64 y, .int .i64 z]] w1 false))
    : Calls Tryz.prog 3 #[.agg #[.int .i64 a, .int .i64 b, .int .i64 c], .agg #[.int .i64 x, .int .i64 y, .int .i64 z]] w fun e w' => e = .returned (.bool true) ∧ Below w.heap.size w w' := by
  have HK0 : Hid (KeepP fun w1 => ((Below w.heap.size w w1) ∧ BxAt w1 ⟨w.heap.size, .int .i64 a, .int .i64 b, .int .i64 c⟩) ∧ BxAt w1 ⟨w.heap.size + 1, .int .i64 x, .int .i64 y, .int .i64 z⟩) := (KeepP.and ((KeepP.and (keepBelow w) (keepV3 _))) (keepV3 _))
  have HO0 : Hid (((Below w.heap.size w ((w.alloc (.cells #[.int .i64 a, .int .i64 b, .int .i64 c] 23)).alloc (.cells #[.int .i64 x, .int .i64 y, .int .i64 z] 23))) ∧ BxAt ((w.alloc (.cells #[.int .i64 a, .int .i64 b, .int .i64 c] 23)).alloc (.cells #[.int .i64 x, .int .i64 y, .int .i64 z] 23)) ⟨w.heap.size, .int .i64 a, .int .i64 b, .int .i64 c⟩) ∧ BxAt ((w.alloc (.cells #[.int .i64 a, .int .i64 b, .int .i64 c] 23)).alloc (.cells #[.int .i64 x, .int .i64 y, .int .i64 z] 23)) ⟨w.heap.size + 1, .int .i64 x, .int .i64 y, .int .i64 z⟩) := ⟨⟨boxB2 _ _ _, (((OKs.nil w).box rfl _ _ _).one).below (boxB _ _)⟩, ((OKs.nil (w.alloc (.cells #[.int .i64 a, .int .i64 b, .int .i64 c] 23))).box (by simp) _ _ _).one⟩
  obtain ⟨b0, b1, b2, b3⟩ := HO0.out.1.2
  obtain ⟨d0, d1, d2, d3⟩ := HO0.out.2
  go_enter Tryz.func3, Tryz.ntmps3
  go_wp2_with (first
    | (have _h := HO0; go_at_call 6; refine (HKn.out _ (HO0.out.1.1)).mono ?_; rintro e y1 ⟨rfl, ok⟩; have HO1 : Hid (((Below w.heap.size w y1) ∧ BxAt y1 ⟨w.heap.size, .int .i64 a, .int .i64 b, .int .i64 c⟩) ∧ BxAt y1 ⟨w.heap.size + 1, .int .i64 x, .int .i64 y, .int .i64 z⟩) := HK0.out _ _ HO0.out ok; clear ok HO0 b0 b1 b2 b3 d0 d1 d2 d3; obtain ⟨b0, b1, b2, b3⟩ := HO1.out.1.2; obtain ⟨d0, d1, d2, d3⟩ := HO1.out.2)
    | (have _h := HO1; go_at_call 7; refine (HMv.out _).mono ?_; rintro e y2 ⟨rfl, ok⟩; have HO2 : Hid (((Below w.heap.size w y2) ∧ BxAt y2 ⟨w.heap.size, .int .i64 a, .int .i64 b, .int .i64 c⟩) ∧ BxAt y2 ⟨w.heap.size + 1, .int .i64 x, .int .i64 y, .int .i64 z⟩) := HK0.out _ _ HO1.out ok; clear ok HO1 b0 b1 b2 b3 d0 d1 d2 d3; obtain ⟨b0, b1, b2, b3⟩ := HO2.out.1.2; obtain ⟨d0, d1, d2, d3⟩ := HO2.out.2)
    | (have _h := HO2; go_at_call 7; refine (HMx.out _).mono ?_; rintro e y3 ⟨rfl, ok⟩; have HO3 : Hid (((Below w.heap.size w y3) ∧ BxAt y3 ⟨w.heap.size, .int .i64 a, .int .i64 b, .int .i64 c⟩) ∧ BxAt y3 ⟨w.heap.size + 1, .int .i64 x, .int .i64 y, .int .i64 z⟩) := HK0.out _ _ HO2.out ok; clear ok HO2 b0 b1 b2 b3 d0 d1 d2 d3; obtain ⟨b0, b1, b2, b3⟩ := HO3.out.1.2; obtain ⟨d0, d1, d2, d3⟩ := HO3.out.2))
  go_ret
  exact ⟨rfl, HO3.out.1.1⟩
end Go.Proofs.YtpdafkfclkedjabGreatDoor
