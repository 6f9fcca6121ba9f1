/- Files that came in, their lists and texts no longer than their bulk. -/
import Derived.Test.YtefcndfeemnglaaDoorDx5b
import Derived.Test.YtefcndfeemnglaaDoorTie
import Derived.Test.YtefcndfeemnglaaDoorCards
import Derived.Deep.DeepHandedRow
import Derived.Deep.DeepWitnessRowRef
namespace Go.Proofs.YtefcndfeemnglaaDoor
open Go.ChangeShapes Go.WideShapes Go.ChangeAt Go.RowKit Go.ChangeMaps Dk
set_option maxRecDepth 100000

theorem own : ownKnob Tryd.prog.godebug = none := by kernel_rfl
theorem laidOut : laidOutB Tryd.prog = true := by kernel_rfl
theorem bulk_mem {H : Type} : ∀ {l : List (DataW H)} {d : DataW H}, d ∈ l → Rows.uptoBulk d ≤ Rows.uptoBulkAll l
  | [], d, h => by cases h
  | e :: l, d, h => by
    simp only [Rows.uptoBulkAll]
    rcases List.mem_cons.1 h with rfl | h
    · omega
    · have := bulk_mem h
      omega
theorem bulk_part {H : Type} {parts : List (DataW H)} {i : Nat} {d : DataW H} (h : parts[i]? = some d) : Rows.uptoBulk d ≤ Rows.uptoBulk (.agg parts) := by
  have := bulk_mem (List.mem_of_getElem? h)
  simp only [Rows.uptoBulk]
  omega
theorem bulk_elem {H : Type} {el sp : List (DataW H)} {d : DataW H} (h : d ∈ el) : Rows.uptoBulk d ≤ Rows.uptoBulk (.slice el sp) := by
  have := bulk_mem h
  simp only [Rows.uptoBulk]
  omega

end Go.Proofs.YtefcndfeemnglaaDoor
