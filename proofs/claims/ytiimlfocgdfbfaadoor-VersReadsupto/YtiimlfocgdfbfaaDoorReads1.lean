/- The walk of VersReads: of a text of at most 1048576 bytes it answers true. -/
import Derived.Test.YtiimlfocgdfbfaaDoorRef2
import Derived.Test.YtiimlfocgdfbfaaDoorEnv1
namespace Go.Proofs.YtiimlfocgdfbfaaDoor
open Go.RowKit
set_option maxRecDepth 100000

set_option maxHeartbeats 4000000 in
theorem reads_all (s : ByteArray) (a b c : Int) (m : Bool) (w : World)
    (HP : Hid (∀ w1, Below w.heap.size w w1 → Calls Tryd.prog 22 #[.string s] w1 fun e w' => e = .returned (.tuple #[.agg #[.int .i64 a, .int .i64 b, .int .i64 c], .bool m]) ∧ Below w1.heap.size w1 w'))
    (HQ : Hid (∀ w1, Below w.heap.size w w1 → Calls Tryd.prog 23 #[.string s] w1 fun e w' => e = .returned (.tuple #[.agg #[.int .i64 a, .int .i64 b, .int .i64 c], .bool m]) ∧ Below w1.heap.size w1 w'))
    (HK : Hid (∀ w1, Below w.heap.size w w1 → Calls Tryd.prog 13 #[] w1 fun e w' => e = .returned (.bool true) ∧ Below w1.heap.size w1 w')) :
    Calls Tryd.prog 5 #[.string s] w fun e w' => e = .returned (.bool true) ∧ Below w.heap.size w w' := by
  have he := eqlV a b c a b c
  simp only [and_self, decide_true] at he
  have hg := guardV
  have HO : Hid (OKs w [] w) := OKs.nil w
  go_enter Tryd.func5, Tryd.ntmps5
  go_wp2_with (first
    | (go_at_call 22; refine (lift_on HP.out (bs := []) _ ?_).mono ?_; exact HO.out; clear HO; rintro e w1 ⟨rfl, ok⟩; have HO : Hid (OKs w [] w1) := ok; clear ok)
    | (go_at_call 23; refine (lift_on HQ.out (bs := [⟨w1.heap.size, .int .i64 a, .int .i64 b, .int .i64 c⟩]) _ ?_).mono ?_; exact HO.out.box rfl _ _ _; clear HO; rintro e w2 ⟨rfl, ok⟩; have HO : Hid (OKs w [⟨w1.heap.size, .int .i64 a, .int .i64 b, .int .i64 c⟩] w2) := ok; clear ok; obtain ⟨x0, y0, z0, s0⟩ := HO.out.one)
    | (go_at_call 13; refine (lift_on HK.out (bs := [⟨w2.heap.size, .int .i64 a, .int .i64 b, .int .i64 c⟩, ⟨w1.heap.size, .int .i64 a, .int .i64 b, .int .i64 c⟩]) _ ?_).mono ?_; exact HO.out.box rfl _ _ _; clear HO; rintro e w3 ⟨rfl, ok⟩; have HO : Hid (OKs w [⟨w2.heap.size, .int .i64 a, .int .i64 b, .int .i64 c⟩, ⟨w1.heap.size, .int .i64 a, .int .i64 b, .int .i64 c⟩] w3) := ok; clear ok; obtain ⟨x0, y0, z0, s0⟩ := HO.out.one; obtain ⟨x1, y1, z1, s1⟩ := HO.out.two))
  go_returns
  exact ⟨rfl, HO.out.1⟩

theorem reads_walk (s : ByteArray) (hs : s.size ≤ 1048576) (w : World) (he : Env w) :
    Calls Tryd.prog 5 #[.string s] w fun e w' => e = .returned (.bool true) ∧ Below w.heap.size w w' :=
  reads_all s _ _ _ _ w (fun w1 hb => Parse_any s (by omega) w1 (he.below hb)) (fun w1 _ => rParse_walk s hs w1) (fun w1 _ => known_any w1)
end Go.Proofs.YtiimlfocgdfbfaaDoor
