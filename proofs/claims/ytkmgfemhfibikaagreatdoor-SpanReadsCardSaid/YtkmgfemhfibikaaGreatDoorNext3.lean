/- VersNext of any three versions: the ways put together. -/
import Derived.Test.YtkmgfemhfibikaaGreatDoorNext2
namespace Go.Proofs.YtkmgfemhfibikaaGreatDoor
open Go.RowKit
set_option maxRecDepth 100000

theorem cmp_le {a b c x y z r s t : Int} (h1 : mayV a b c = true) (h2 : mayV x y z = true) (h3 : mayV r s t = true) (hk : 0 ≤ cmpV x y z a b c) (hj : cmpV x y z r s t ≤ 0) : cmpV a b c r s t ≤ 0 := by
  have e1 := cmp_rank h2 h1
  have e2 := cmp_rank h3 h2
  have e3 := cmp_rank h3 h1
  have n1 := cmp_neg a b c r s t
  have n2 := cmp_neg x y z r s t
  have r1 := cmp_rank_eq h1 h3
  rcases cmp_range a b c r s t with e | e | e
  · omega
  · omega
  · have : rankV r s t < rankV a b c := e3.1 (by omega)
    omega

theorem print_on {W : World} (h : Lib.TabIs Tryz.prog W "internal/strconv.uint64pow10" .u64 Lib.pow10Tab) (a b c : Int) (w1 : World) (hb : Below W.heap.size W w1) :
    Calls Tryz.prog 38 #[.agg #[.int .i64 a, .int .i64 b, .int .i64 c]] w1 fun e w' => e = .returned (.string (textV a b c)) ∧ Below w1.heap.size w1 w' := by
  refine Print_any a b c w1 (fun m => ?_) (fun m => ?_) (fun m => ?_) <;> (obtain ⟨a0, a1, b0, b1, c0, c1⟩ := may_all m)
  · exact spells_tab h w1 hb a a0 a1
  · exact spells_tab h w1 hb b b0 b1
  · exact spells_tab h w1 hb c c0 c1

end Go.Proofs.YtkmgfemhfibikaaGreatDoor
