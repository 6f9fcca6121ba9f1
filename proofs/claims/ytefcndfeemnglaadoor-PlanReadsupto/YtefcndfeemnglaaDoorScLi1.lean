/- Lines of package scan. -/
import Derived.Test.YtefcndfeemnglaaDoorScBa1
namespace Go.Proofs.YtefcndfeemnglaaDoor.Sc
open Go.RowKit
set_option maxRecDepth 100000

theorem wordByte_any (b : UInt8) (w : World) : Calls Tryd.prog 41 #[.int .u8 (b.toNat : Int)] w fun e w' => e = .returned (.bool (wB b)) ∧ w' = w := by
  go_enter Tryd.func41, Tryd.ntmps41
  go_wp2
  all_goals
    go_ret
    refine ⟨ret_bool ?_, rfl⟩
    rw [Bool.eq_iff_iff]
    simp [wB]
    omega

end Go.Proofs.YtefcndfeemnglaaDoor.Sc
