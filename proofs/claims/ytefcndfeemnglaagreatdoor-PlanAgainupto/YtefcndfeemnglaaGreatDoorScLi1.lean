/- Lines of package scan. -/
import Derived.Test.YtefcndfeemnglaaGreatDoorScBa1
namespace Go.Proofs.YtefcndfeemnglaaGreatDoor.Sc
open Go.RowKit
set_option maxRecDepth 100000

theorem wordByte_any (b : UInt8) (w : World) : Calls Tryz.prog 51 #[.int .u8 (b.toNat : Int)] w fun e w' => e = .returned (.bool (wB b)) ∧ w' = w := by
  go_enter Tryz.func51, Tryz.ntmps51
  go_wp2
  all_goals
    go_ret
    refine ⟨ret_bool ?_, rfl⟩
    rw [Bool.eq_iff_iff]
    simp [wB]
    omega

end Go.Proofs.YtefcndfeemnglaaGreatDoor.Sc
