/- The walk of VersOrder: of any two versions it answers true. -/
import Derived.Test.YtiimlfocgdfbfaaDoorRow1
import Derived.Test.YtiimlfocgdfbfaaDoorBoxes
namespace Go.Proofs.YtiimlfocgdfbfaaDoor
open Go.RowKit
set_option maxRecDepth 100000

set_option maxHeartbeats 1600000 in
theorem order_walk (a b c x y z : Int) (w : World) :
    Calls Tryd.prog 3 #[.agg #[.int .i64 a, .int .i64 b, .int .i64 c], .agg #[.int .i64 x, .int .i64 y, .int .i64 z]] w fun e w' => e = .returned (.bool true) ∧ Below w.heap.size w w' := by
  have HM : Hid (∀ w1, Calls Tryd.prog 9 #[.agg #[.int .i64 a, .int .i64 b, .int .i64 c]] w1 fun e w' => e = .returned (.bool (mayV a b c)) ∧ Below w1.heap.size w1 w') := fun w1 => May_any a b c w1
  have HN : Hid (∀ w1, Calls Tryd.prog 10 #[.agg #[.int .i64 a, .int .i64 b, .int .i64 c]] w1 fun e w' => e = .returned (.bool (mayV a b c)) ∧ Below w1.heap.size w1 w') := fun w1 => rMay_any a b c w1
  have HC : Hid (∀ w1, Calls Tryd.prog 11 #[.agg #[.int .i64 a, .int .i64 b, .int .i64 c], .agg #[.int .i64 x, .int .i64 y, .int .i64 z]] w1 fun e w' => e = .returned (.int .i64 (cmpV a b c x y z)) ∧ Below w1.heap.size w1 w') := fun w1 => Compare_any a b c x y z w1
  have HD : Hid (∀ w1, Calls Tryd.prog 12 #[.agg #[.int .i64 a, .int .i64 b, .int .i64 c], .agg #[.int .i64 x, .int .i64 y, .int .i64 z]] w1 fun e w' => e = .returned (.int .i64 (cmpV a b c x y z)) ∧ Below w1.heap.size w1 w') := fun w1 => rCompare_any a b c x y z w1
  have HK : Hid (∀ w1, Calls Tryd.prog 13 #[] w1 fun e w' => e = .returned (.bool true) ∧ Below w1.heap.size w1 w') := known_any
  generalize mayV a b c = m at *
  generalize cmpV a b c x y z = k at *
  go_enter Tryd.func3, Tryd.ntmps3
  go_wp2_with fail
  have HO : Hid (OKs w [⟨w.heap.size + 1, .int .i64 x, .int .i64 y, .int .i64 z⟩, ⟨w.heap.size, .int .i64 a, .int .i64 b, .int .i64 c⟩] ((w.alloc (.cells #[.int .i64 a, .int .i64 b, .int .i64 c] 23)).alloc (.cells #[.int .i64 x, .int .i64 y, .int .i64 z] 23))) := ((OKs.nil w).box rfl _ _ _).box (by simp) _ _ _
  go_region_held3 (fun w' => w'.cell? ⟨w.heap.size, 0, none⟩ = some (.int .i64 a) ∧ w'.cell? ⟨w.heap.size, 1, none⟩ = some (.int .i64 b) ∧ w'.cell? ⟨w.heap.size, 2, none⟩ = some (.int .i64 c) ∧ w'.cell? ⟨w.heap.size + 1, 0, none⟩ = some (.int .i64 x) ∧ w'.cell? ⟨w.heap.size + 1, 1, none⟩ = some (.int .i64 y) ∧ w'.cell? ⟨w.heap.size + 1, 2, none⟩ = some (.int .i64 z)) (go_keep)
      (first
        | (go_at_call 9; refine (lift HM.out (w := w) (bs := [⟨w.heap.size + 1, .int .i64 x, .int .i64 y, .int .i64 z⟩, ⟨w.heap.size, .int .i64 a, .int .i64 b, .int .i64 c⟩]) _ ?_).mono ?_; (first | exact HO.out | exact HO.out.drew); clear HO; rintro e w1 ⟨rfl, ok1⟩; have HO : Hid (OKs w [⟨w.heap.size + 1, .int .i64 x, .int .i64 y, .int .i64 z⟩, ⟨w.heap.size, .int .i64 a, .int .i64 b, .int .i64 c⟩] w1) := ok1; obtain ⟨i0, i1, i2, i3⟩ := HO.out.one; obtain ⟨j0, j1, j2, j3⟩ := HO.out.two; clear ok1)
        | (go_at_call 10; refine (lift HN.out (w := w) (bs := [⟨w.heap.size + 1, .int .i64 x, .int .i64 y, .int .i64 z⟩, ⟨w.heap.size, .int .i64 a, .int .i64 b, .int .i64 c⟩]) _ ?_).mono ?_; (first | exact HO.out | exact HO.out.drew); clear HO; rintro e w1 ⟨rfl, ok1⟩; have HO : Hid (OKs w [⟨w.heap.size + 1, .int .i64 x, .int .i64 y, .int .i64 z⟩, ⟨w.heap.size, .int .i64 a, .int .i64 b, .int .i64 c⟩] w1) := ok1; obtain ⟨i0, i1, i2, i3⟩ := HO.out.one; obtain ⟨j0, j1, j2, j3⟩ := HO.out.two; clear ok1)
        | (go_at_call 11; refine (lift HC.out (w := w) (bs := [⟨w.heap.size + 1, .int .i64 x, .int .i64 y, .int .i64 z⟩, ⟨w.heap.size, .int .i64 a, .int .i64 b, .int .i64 c⟩]) _ ?_).mono ?_; (first | exact HO.out | exact HO.out.drew); clear HO; rintro e w1 ⟨rfl, ok1⟩; have HO : Hid (OKs w [⟨w.heap.size + 1, .int .i64 x, .int .i64 y, .int .i64 z⟩, ⟨w.heap.size, .int .i64 a, .int .i64 b, .int .i64 c⟩] w1) := ok1; obtain ⟨i0, i1, i2, i3⟩ := HO.out.one; obtain ⟨j0, j1, j2, j3⟩ := HO.out.two; clear ok1)
        | (go_at_call 12; refine (lift HD.out (w := w) (bs := [⟨w.heap.size + 1, .int .i64 x, .int .i64 y, .int .i64 z⟩, ⟨w.heap.size, .int .i64 a, .int .i64 b, .int .i64 c⟩]) _ ?_).mono ?_; (first | exact HO.out | exact HO.out.drew); clear HO; rintro e w1 ⟨rfl, ok1⟩; have HO : Hid (OKs w [⟨w.heap.size + 1, .int .i64 x, .int .i64 y, .int .i64 z⟩, ⟨w.heap.size, .int .i64 a, .int .i64 b, .int .i64 c⟩] w1) := ok1; obtain ⟨i0, i1, i2, i3⟩ := HO.out.one; obtain ⟨j0, j1, j2, j3⟩ := HO.out.two; clear ok1)
        | (go_at_call 13; refine (lift HK.out (w := w) (bs := [⟨w.heap.size + 1, .int .i64 x, .int .i64 y, .int .i64 z⟩, ⟨w.heap.size, .int .i64 a, .int .i64 b, .int .i64 c⟩]) _ ?_).mono ?_; (first | exact HO.out | exact HO.out.drew); clear HO; rintro e w1 ⟨rfl, ok1⟩; have HO : Hid (OKs w [⟨w.heap.size + 1, .int .i64 x, .int .i64 y, .int .i64 z⟩, ⟨w.heap.size, .int .i64 a, .int .i64 b, .int .i64 c⟩] w1) := ok1; obtain ⟨i0, i1, i2, i3⟩ := HO.out.one; obtain ⟨j0, j1, j2, j3⟩ := HO.out.two; clear ok1))
  all_goals go_wp2
  all_goals
    go_returns
    exact ⟨rfl, HO.out.1⟩
end Go.Proofs.YtiimlfocgdfbfaaDoor
