/- The walks of Next and Prev, of package vers and of the document's answer. No condition. -/
import Derived.Test.YtkmgfemhfibikaaGreatDoorVers3
namespace Go.Proofs.YtkmgfemhfibikaaGreatDoor
open Go.RowKit
set_option maxRecDepth 100000

/-- The version that stands k places on; zeros, where there is none. -/
def onA (a b c k : Int) : Int := if mayV a b c then atA (rankV a b c + k) else 0
def onB (a b c k : Int) : Int := if mayV a b c then atB (rankV a b c + k) else 0
def onC (a b c k : Int) : Int := if mayV a b c then atC (rankV a b c + k) else 0
def onIs (a b c k : Int) : Bool := mayV a b c && hasV (rankV a b c + k)

set_option maxHeartbeats 800000 in
theorem Next_any (a b c : Int) (w : World) :
    Calls Tryz.prog 36 #[.agg #[.int .i64 a, .int .i64 b, .int .i64 c]] w fun e w' => e = .returned (.tuple #[.agg #[.int .i64 (onA a b c 1), .int .i64 (onB a b c 1), .int .i64 (onC a b c 1)], .bool (onIs a b c 1)]) ∧ Below w.heap.size w w' := by
  have HM : Hid (∀ w1, Calls Tryz.prog 56 #[.agg #[.int .i64 a, .int .i64 b, .int .i64 c], .int .i64 1] w1 fun e w' => e = .returned (.tuple #[.agg #[.int .i64 (onA a b c 1), .int .i64 (onB a b c 1), .int .i64 (onC a b c 1)], .bool (onIs a b c 1)]) ∧ Below w1.heap.size w1 w') := fun w1 => beside_any a b c 1 w1 (by omega)
  go_enter Tryz.func36, Tryz.ntmps36
  go_wp2_with (go_at_call 56; refine (HM.out _).mono ?_; rintro e w' ⟨rfl, hb⟩; obtain ⟨k0, k1, k2, k3, k4, k5, k6⟩ := boxAt (N := w.heap.size + 1) (by simp) hb)
  obtain ⟨s0, s1, s2⟩ := setV k0 k1 k2
  try simp only [Exit.inBlock, Exit.then]
  refine bodyPost_ret (by simp [results, Tryz.results36, s0, s1, s2, go_sem]; try rfl) rfl ?_
  exact ⟨ret_ver rfl rfl rfl rfl, below_setV (by omega) (below_then (boxB2 _ _ _) hb)⟩

set_option maxHeartbeats 800000 in
theorem Prev_any (a b c : Int) (w : World) :
    Calls Tryz.prog 35 #[.agg #[.int .i64 a, .int .i64 b, .int .i64 c]] w fun e w' => e = .returned (.tuple #[.agg #[.int .i64 (onA a b c (-1)), .int .i64 (onB a b c (-1)), .int .i64 (onC a b c (-1))], .bool (onIs a b c (-1))]) ∧ Below w.heap.size w w' := by
  have HM : Hid (∀ w1, Calls Tryz.prog 56 #[.agg #[.int .i64 a, .int .i64 b, .int .i64 c], .int .i64 (-1)] w1 fun e w' => e = .returned (.tuple #[.agg #[.int .i64 (onA a b c (-1)), .int .i64 (onB a b c (-1)), .int .i64 (onC a b c (-1))], .bool (onIs a b c (-1))]) ∧ Below w1.heap.size w1 w') := fun w1 => beside_any a b c (-1) w1 (by omega)
  go_enter Tryz.func35, Tryz.ntmps35
  go_wp2_with (go_at_call 56; refine (HM.out _).mono ?_; rintro e w' ⟨rfl, hb⟩; obtain ⟨k0, k1, k2, k3, k4, k5, k6⟩ := boxAt (N := w.heap.size + 1) (by simp) hb)
  obtain ⟨s0, s1, s2⟩ := setV k0 k1 k2
  try simp only [Exit.inBlock, Exit.then]
  refine bodyPost_ret (by simp [results, Tryz.results35, s0, s1, s2, go_sem]; try rfl) rfl ?_
  exact ⟨ret_ver rfl rfl rfl rfl, below_setV (by omega) (below_then (boxB2 _ _ _) hb)⟩

end Go.Proofs.YtkmgfemhfibikaaGreatDoor
