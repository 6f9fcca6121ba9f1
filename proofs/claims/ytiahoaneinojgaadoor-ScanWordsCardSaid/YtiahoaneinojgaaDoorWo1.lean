/- ScanWords: the walk. -/
import Derived.Test.YtiahoaneinojgaaDoorKn1
namespace Go.Proofs.YtiahoaneinojgaaDoor.Sc
open Go.RowKit
set_option maxRecDepth 100000

set_option maxHeartbeats 3200000 in
theorem scanWords_walk (s : ByteArray) (hs : s.size ≤ 140737488355328) (most : Int) (w : World) (he : EnvS w) : Calls Tryd.prog 5 #[.string s, .int .i64 most] w fun e w' => e = .returned (.bool true) ∧ Below w.heap.size w w' := by
  have HA : Hid (NumP 14 s most w) := Number_any s (by omega) most w he
  have HB : Hid (∀ w1, NumP 15 s most w1) := fun w1 => rNumber_any s (by omega) most w1
  have HN : Hid (∀ w1, Calls Tryd.prog 16 #[.string s] w1 fun e w' => e = .returned (.bool (nameA s.data.toList)) ∧ w' = w1) := Name_any s
  have HM : Hid (∀ w1, Calls Tryd.prog 17 #[.string s] w1 fun e w' => e = .returned (.bool (nameA s.data.toList)) ∧ w' = w1) := rName_any s (by omega)
  have HK : Hid (∀ w1, Below w.heap.size w w1 → Calls Tryd.prog 11 #[] w1 fun e w' => e = .returned (.bool true) ∧ Below w1.heap.size w1 w') := fun w1 hb => known_any w1 (he.below hb)
  clear he
  unfold NumP at HA HB
  generalize nameA s.data.toList = nm at *
  generalize ansI s.data.toList most = x at *
  generalize ansB s.data.toList most = y at *
  have e1 : (nm == nm) = true := by simp
  have e2 : (y == y) = true := by simp
  go_enter Tryd.func5, Tryd.ntmps5
  go_wp2_with (first
    | (go_at_call 14; refine HA.out.mono ?_; rintro e w1 ⟨rfl, hb1⟩; have HB1 := hide3 hb1; clear hb1)
    | (go_at_call 15; refine (HB.out _).mono ?_; rintro e w2 ⟨rfl, hb2⟩; have HB2 : Hid (Below w.heap.size w w2) := below_then HB1.out hb2; clear hb2)
    | (go_at_call 16; refine (HN.out _).mono ?_; rintro e w3 ⟨rfl, hw3⟩; subst hw3)
    | (go_at_call 17; refine (HM.out _).mono ?_; rintro e w4 ⟨rfl, hw4⟩; subst hw4)
    | (go_at_call 11; refine (HK.out _ HB2.out).mono ?_; rintro e w5 ⟨rfl, hb5⟩; have HB5 : Hid (Below w.heap.size w w5) := below_then HB2.out hb5; clear hb5))
  go_ret
  exact ⟨rfl, HB5.out⟩
end Go.Proofs.YtiahoaneinojgaaDoor.Sc
