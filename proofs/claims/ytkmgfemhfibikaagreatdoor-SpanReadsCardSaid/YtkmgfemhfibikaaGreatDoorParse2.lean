/- The walks of Parse of package vers, by its ways. -/
import Derived.Test.YtkmgfemhfibikaaGreatDoorParse1
import Derived.Test.YtkmgfemhfibikaaGreatDoorBoxes2
namespace Go.Proofs.YtkmgfemhfibikaaGreatDoor
open Go.RowKit
set_option maxRecDepth 100000

set_option maxHeartbeats 4000000 in
theorem Parse_ok (s A R B C : ByteArray) (b1 b2 : Bool) (x y z : Int) (w : World)
    (HC : Hid (∀ w1, Below w.heap.size w w1 → Calls Tryz.prog 86 #[.string s, .string ⟨#[46]⟩] w1 fun e w' => e = .returned (.tuple #[.string A, .string R, .bool b1]) ∧ Below w1.heap.size w1 w'))
    (HD : Hid (∀ w1, Below w.heap.size w w1 → Calls Tryz.prog 86 #[.string R, .string ⟨#[46]⟩] w1 fun e w' => e = .returned (.tuple #[.string B, .string C, .bool b2]) ∧ Below w1.heap.size w1 w'))
    (HX : Hid (∀ w1, Below w.heap.size w w1 → Calls Tryz.prog 87 #[.string A] w1 fun e w' => e = .returned (.int .i64 x) ∧ Below w1.heap.size w1 w'))
    (HY : Hid (∀ w1, Below w.heap.size w w1 → Calls Tryz.prog 87 #[.string B] w1 fun e w' => e = .returned (.int .i64 y) ∧ Below w1.heap.size w1 w'))
    (HZ : Hid (∀ w1, Below w.heap.size w w1 → Calls Tryz.prog 87 #[.string C] w1 fun e w' => e = .returned (.int .i64 z) ∧ Below w1.heap.size w1 w'))
    (HM : Hid (∀ w1, Below w.heap.size w w1 → Calls Tryz.prog 37 #[.agg #[.int .i64 x, .int .i64 y, .int .i64 z]] w1 fun e w' => e = .returned (.bool true) ∧ Below w1.heap.size w1 w'))
    (HP : Hid (∀ w1, Below w.heap.size w w1 → Calls Tryz.prog 38 #[.agg #[.int .i64 x, .int .i64 y, .int .i64 z]] w1 fun e w' => e = .returned (.string s) ∧ Below w1.heap.size w1 w')) :
    Calls Tryz.prog 67 #[.string s] w fun e w' => e = .returned (.tuple #[.agg #[.int .i64 x, .int .i64 y, .int .i64 z], .bool true]) ∧ Below w.heap.size w w' := by
  have t1 : True := trivial
  have t2 : True := trivial
  have t3 : True := trivial
  have t4 : True := trivial
  have t5 : True := trivial
  have HO : Hid (OKr w w.heap.size [⟨w.heap.size, .int .i64 0, .int .i64 0, .int .i64 0⟩] (w.alloc (.cells #[.int .i64 0, .int .i64 0, .int .i64 0] 35))) := OKr.start (OKs.nil w) rfl _ _ _
  go_enter Tryz.func67, Tryz.ntmps67
  go_wp2_with (first
    | (go_at_call 86; clear t1; refine (liftr HC.out (N := w.heap.size) (bs := [⟨w.heap.size, .int .i64 0, .int .i64 0, .int .i64 0⟩]) _ ?_).mono ?_; exact HO.out; clear HO; rintro e w1 ⟨rfl, ok⟩; have HO : Hid (OKr w w.heap.size [⟨w.heap.size, .int .i64 0, .int .i64 0, .int .i64 0⟩] w1) := ok; clear ok; obtain ⟨_, f0, f1, f2, f3⟩ := HO.out; obtain ⟨x0, y0, z0, s0⟩ := HO.out.1.one)
    | (go_at_call 86; clear t2; refine (liftr HD.out (N := w.heap.size) (bs := [⟨w.heap.size, .int .i64 0, .int .i64 0, .int .i64 0⟩]) _ ?_).mono ?_; exact HO.out; clear HO; rintro e w2 ⟨rfl, ok⟩; have HO : Hid (OKr w w.heap.size [⟨w.heap.size, .int .i64 0, .int .i64 0, .int .i64 0⟩] w2) := ok; clear ok; obtain ⟨_, f0, f1, f2, f3⟩ := HO.out; obtain ⟨x0, y0, z0, s0⟩ := HO.out.1.one)
    | (go_at_call 87; clear t3; refine (liftr HX.out (N := w.heap.size) (bs := [⟨w.heap.size, .int .i64 0, .int .i64 0, .int .i64 0⟩]) _ ?_).mono ?_; exact HO.out; clear HO; rintro e w3 ⟨rfl, ok⟩; have HO : Hid (OKr w w.heap.size [⟨w.heap.size, .int .i64 0, .int .i64 0, .int .i64 0⟩] w3) := ok; clear ok; obtain ⟨_, f0, f1, f2, f3⟩ := HO.out; obtain ⟨x0, y0, z0, s0⟩ := HO.out.1.one)
    | (go_at_call 87; clear t4; refine (liftr HY.out (N := w.heap.size) (bs := [⟨w.heap.size, .int .i64 0, .int .i64 0, .int .i64 0⟩]) _ ?_).mono ?_; exact HO.out; clear HO; rintro e w4 ⟨rfl, ok⟩; have HO : Hid (OKr w w.heap.size [⟨w.heap.size, .int .i64 0, .int .i64 0, .int .i64 0⟩] w4) := ok; clear ok; obtain ⟨_, f0, f1, f2, f3⟩ := HO.out; obtain ⟨x0, y0, z0, s0⟩ := HO.out.1.one)
    | (go_at_call 87; clear t5; refine (liftr HZ.out (N := w.heap.size) (bs := [⟨w.heap.size, .int .i64 0, .int .i64 0, .int .i64 0⟩]) _ ?_).mono ?_; exact HO.out; clear HO; rintro e w5 ⟨rfl, ok⟩; have HO : Hid (OKr w w.heap.size [⟨w.heap.size, .int .i64 0, .int .i64 0, .int .i64 0⟩] w5) := ok; clear ok; obtain ⟨_, f0, f1, f2, f3⟩ := HO.out; obtain ⟨x0, y0, z0, s0⟩ := HO.out.1.one)
    | (go_at_call 37; refine (liftr HM.out (N := w.heap.size) (bs := [⟨w5.heap.size, .int .i64 x, .int .i64 y, .int .i64 z⟩, ⟨w.heap.size, .int .i64 0, .int .i64 0, .int .i64 0⟩]) _ ?_).mono ?_; exact HO.out.box rfl _ _ _; clear HO; rintro e w6 ⟨rfl, ok⟩; have HO : Hid (OKr w w.heap.size [⟨w5.heap.size, .int .i64 x, .int .i64 y, .int .i64 z⟩, ⟨w.heap.size, .int .i64 0, .int .i64 0, .int .i64 0⟩] w6) := ok; clear ok; obtain ⟨_, f0, f1, f2, f3⟩ := HO.out; obtain ⟨x0, y0, z0, s0⟩ := HO.out.1.one; obtain ⟨x1, y1, z1, s1⟩ := HO.out.1.two)
    | (go_at_call 38; refine (liftr HP.out (N := w.heap.size) (bs := [⟨w5.heap.size, .int .i64 x, .int .i64 y, .int .i64 z⟩, ⟨w.heap.size, .int .i64 0, .int .i64 0, .int .i64 0⟩]) _ ?_).mono ?_; exact HO.out; clear HO; rintro e w7 ⟨rfl, ok⟩; have HO : Hid (OKr w w.heap.size [⟨w5.heap.size, .int .i64 x, .int .i64 y, .int .i64 z⟩, ⟨w.heap.size, .int .i64 0, .int .i64 0, .int .i64 0⟩] w7) := ok; clear ok; obtain ⟨_, f0, f1, f2, f3⟩ := HO.out; obtain ⟨x0, y0, z0, s0⟩ := HO.out.1.one; obtain ⟨x1, y1, z1, s1⟩ := HO.out.1.two))
  obtain ⟨u0, u1, u2⟩ := setV x1 y1 z1
  try simp only [Exit.inBlock, Exit.then]
  refine bodyPost_ret (by simp [results, Tryz.results67, u0, u1, u2, go_sem]; try rfl) rfl ?_
  exact ⟨ret_ver rfl rfl rfl rfl, below_setV (Nat.le_refl _) HO.out.1.1⟩

set_option maxHeartbeats 4000000 in
theorem Parse_no (s A R B C : ByteArray) (b1 b2 : Bool) (x y z : Int) (w : World)
    (HC : Hid (∀ w1, Below w.heap.size w w1 → Calls Tryz.prog 86 #[.string s, .string ⟨#[46]⟩] w1 fun e w' => e = .returned (.tuple #[.string A, .string R, .bool b1]) ∧ Below w1.heap.size w1 w'))
    (HD : Hid (∀ w1, Below w.heap.size w w1 → Calls Tryz.prog 86 #[.string R, .string ⟨#[46]⟩] w1 fun e w' => e = .returned (.tuple #[.string B, .string C, .bool b2]) ∧ Below w1.heap.size w1 w'))
    (HX : Hid (∀ w1, Below w.heap.size w w1 → Calls Tryz.prog 87 #[.string A] w1 fun e w' => e = .returned (.int .i64 x) ∧ Below w1.heap.size w1 w'))
    (HY : Hid (∀ w1, Below w.heap.size w w1 → Calls Tryz.prog 87 #[.string B] w1 fun e w' => e = .returned (.int .i64 y) ∧ Below w1.heap.size w1 w'))
    (HZ : Hid (∀ w1, Below w.heap.size w w1 → Calls Tryz.prog 87 #[.string C] w1 fun e w' => e = .returned (.int .i64 z) ∧ Below w1.heap.size w1 w'))
    (HM : Hid (∀ w1, Below w.heap.size w w1 → Calls Tryz.prog 37 #[.agg #[.int .i64 x, .int .i64 y, .int .i64 z]] w1 fun e w' => e = .returned (.bool false) ∧ Below w1.heap.size w1 w')) :
    Calls Tryz.prog 67 #[.string s] w fun e w' => e = .returned (.tuple #[.agg #[.int .i64 0, .int .i64 0, .int .i64 0], .bool false]) ∧ Below w.heap.size w w' := by
  have t1 : True := trivial
  have t2 : True := trivial
  have t3 : True := trivial
  have t4 : True := trivial
  have t5 : True := trivial
  have HO : Hid (OKr w w.heap.size [⟨w.heap.size, .int .i64 0, .int .i64 0, .int .i64 0⟩] (w.alloc (.cells #[.int .i64 0, .int .i64 0, .int .i64 0] 35))) := OKr.start (OKs.nil w) rfl _ _ _
  go_enter Tryz.func67, Tryz.ntmps67
  go_wp2_with (first
    | (go_at_call 86; clear t1; refine (liftr HC.out (N := w.heap.size) (bs := [⟨w.heap.size, .int .i64 0, .int .i64 0, .int .i64 0⟩]) _ ?_).mono ?_; exact HO.out; clear HO; rintro e w1 ⟨rfl, ok⟩; have HO : Hid (OKr w w.heap.size [⟨w.heap.size, .int .i64 0, .int .i64 0, .int .i64 0⟩] w1) := ok; clear ok; obtain ⟨_, f0, f1, f2, f3⟩ := HO.out; obtain ⟨x0, y0, z0, s0⟩ := HO.out.1.one)
    | (go_at_call 86; clear t2; refine (liftr HD.out (N := w.heap.size) (bs := [⟨w.heap.size, .int .i64 0, .int .i64 0, .int .i64 0⟩]) _ ?_).mono ?_; exact HO.out; clear HO; rintro e w2 ⟨rfl, ok⟩; have HO : Hid (OKr w w.heap.size [⟨w.heap.size, .int .i64 0, .int .i64 0, .int .i64 0⟩] w2) := ok; clear ok; obtain ⟨_, f0, f1, f2, f3⟩ := HO.out; obtain ⟨x0, y0, z0, s0⟩ := HO.out.1.one)
    | (go_at_call 87; clear t3; refine (liftr HX.out (N := w.heap.size) (bs := [⟨w.heap.size, .int .i64 0, .int .i64 0, .int .i64 0⟩]) _ ?_).mono ?_; exact HO.out; clear HO; rintro e w3 ⟨rfl, ok⟩; have HO : Hid (OKr w w.heap.size [⟨w.heap.size, .int .i64 0, .int .i64 0, .int .i64 0⟩] w3) := ok; clear ok; obtain ⟨_, f0, f1, f2, f3⟩ := HO.out; obtain ⟨x0, y0, z0, s0⟩ := HO.out.1.one)
    | (go_at_call 87; clear t4; refine (liftr HY.out (N := w.heap.size) (bs := [⟨w.heap.size, .int .i64 0, .int .i64 0, .int .i64 0⟩]) _ ?_).mono ?_; exact HO.out; clear HO; rintro e w4 ⟨rfl, ok⟩; have HO : Hid (OKr w w.heap.size [⟨w.heap.size, .int .i64 0, .int .i64 0, .int .i64 0⟩] w4) := ok; clear ok; obtain ⟨_, f0, f1, f2, f3⟩ := HO.out; obtain ⟨x0, y0, z0, s0⟩ := HO.out.1.one)
    | (go_at_call 87; clear t5; refine (liftr HZ.out (N := w.heap.size) (bs := [⟨w.heap.size, .int .i64 0, .int .i64 0, .int .i64 0⟩]) _ ?_).mono ?_; exact HO.out; clear HO; rintro e w5 ⟨rfl, ok⟩; have HO : Hid (OKr w w.heap.size [⟨w.heap.size, .int .i64 0, .int .i64 0, .int .i64 0⟩] w5) := ok; clear ok; obtain ⟨_, f0, f1, f2, f3⟩ := HO.out; obtain ⟨x0, y0, z0, s0⟩ := HO.out.1.one)
    | (go_at_call 37; refine (liftr HM.out (N := w.heap.size) (bs := [⟨w5.heap.size, .int .i64 x, .int .i64 y, .int .i64 z⟩, ⟨w.heap.size, .int .i64 0, .int .i64 0, .int .i64 0⟩]) _ ?_).mono ?_; exact HO.out.box rfl _ _ _; clear HO; rintro e w6 ⟨rfl, ok⟩; have HO : Hid (OKr w w.heap.size [⟨w5.heap.size, .int .i64 x, .int .i64 y, .int .i64 z⟩, ⟨w.heap.size, .int .i64 0, .int .i64 0, .int .i64 0⟩] w6) := ok; clear ok; obtain ⟨_, f0, f1, f2, f3⟩ := HO.out; obtain ⟨x0, y0, z0, s0⟩ := HO.out.1.one; obtain ⟨x1, y1, z1, s1⟩ := HO.out.1.two))
  obtain ⟨u0, u1, u2⟩ := setV x1 y1 z1
  try simp only [Exit.inBlock, Exit.then]
  refine bodyPost_ret (by simp [results, Tryz.results67, u0, u1, u2, go_sem]; try rfl) rfl ?_
  exact ⟨ret_ver rfl rfl rfl rfl, below_setV (Nat.le_refl _) HO.out.1.1⟩

set_option maxHeartbeats 4000000 in
theorem Parse_other (s A R B C T : ByteArray) (b1 b2 : Bool) (x y z : Int) (w : World) (hT : T.toList ≠ s.toList)
    (HC : Hid (∀ w1, Below w.heap.size w w1 → Calls Tryz.prog 86 #[.string s, .string ⟨#[46]⟩] w1 fun e w' => e = .returned (.tuple #[.string A, .string R, .bool b1]) ∧ Below w1.heap.size w1 w'))
    (HD : Hid (∀ w1, Below w.heap.size w w1 → Calls Tryz.prog 86 #[.string R, .string ⟨#[46]⟩] w1 fun e w' => e = .returned (.tuple #[.string B, .string C, .bool b2]) ∧ Below w1.heap.size w1 w'))
    (HX : Hid (∀ w1, Below w.heap.size w w1 → Calls Tryz.prog 87 #[.string A] w1 fun e w' => e = .returned (.int .i64 x) ∧ Below w1.heap.size w1 w'))
    (HY : Hid (∀ w1, Below w.heap.size w w1 → Calls Tryz.prog 87 #[.string B] w1 fun e w' => e = .returned (.int .i64 y) ∧ Below w1.heap.size w1 w'))
    (HZ : Hid (∀ w1, Below w.heap.size w w1 → Calls Tryz.prog 87 #[.string C] w1 fun e w' => e = .returned (.int .i64 z) ∧ Below w1.heap.size w1 w'))
    (HM : Hid (∀ w1, Below w.heap.size w w1 → Calls Tryz.prog 37 #[.agg #[.int .i64 x, .int .i64 y, .int .i64 z]] w1 fun e w' => e = .returned (.bool true) ∧ Below w1.heap.size w1 w'))
    (HP : Hid (∀ w1, Below w.heap.size w w1 → Calls Tryz.prog 38 #[.agg #[.int .i64 x, .int .i64 y, .int .i64 z]] w1 fun e w' => e = .returned (.string T) ∧ Below w1.heap.size w1 w')) :
    Calls Tryz.prog 67 #[.string s] w fun e w' => e = .returned (.tuple #[.agg #[.int .i64 0, .int .i64 0, .int .i64 0], .bool false]) ∧ Below w.heap.size w w' := by
  have t1 : True := trivial
  have t2 : True := trivial
  have t3 : True := trivial
  have t4 : True := trivial
  have t5 : True := trivial
  have hs1 := beq_eq_false_iff_ne.2 hT
  clear hT
  have HO : Hid (OKr w w.heap.size [⟨w.heap.size, .int .i64 0, .int .i64 0, .int .i64 0⟩] (w.alloc (.cells #[.int .i64 0, .int .i64 0, .int .i64 0] 35))) := OKr.start (OKs.nil w) rfl _ _ _
  go_enter Tryz.func67, Tryz.ntmps67
  go_wp2_with (first
    | (go_at_call 86; clear t1; refine (liftr HC.out (N := w.heap.size) (bs := [⟨w.heap.size, .int .i64 0, .int .i64 0, .int .i64 0⟩]) _ ?_).mono ?_; exact HO.out; clear HO; rintro e w1 ⟨rfl, ok⟩; have HO : Hid (OKr w w.heap.size [⟨w.heap.size, .int .i64 0, .int .i64 0, .int .i64 0⟩] w1) := ok; clear ok; obtain ⟨_, f0, f1, f2, f3⟩ := HO.out; obtain ⟨x0, y0, z0, s0⟩ := HO.out.1.one)
    | (go_at_call 86; clear t2; refine (liftr HD.out (N := w.heap.size) (bs := [⟨w.heap.size, .int .i64 0, .int .i64 0, .int .i64 0⟩]) _ ?_).mono ?_; exact HO.out; clear HO; rintro e w2 ⟨rfl, ok⟩; have HO : Hid (OKr w w.heap.size [⟨w.heap.size, .int .i64 0, .int .i64 0, .int .i64 0⟩] w2) := ok; clear ok; obtain ⟨_, f0, f1, f2, f3⟩ := HO.out; obtain ⟨x0, y0, z0, s0⟩ := HO.out.1.one)
    | (go_at_call 87; clear t3; refine (liftr HX.out (N := w.heap.size) (bs := [⟨w.heap.size, .int .i64 0, .int .i64 0, .int .i64 0⟩]) _ ?_).mono ?_; exact HO.out; clear HO; rintro e w3 ⟨rfl, ok⟩; have HO : Hid (OKr w w.heap.size [⟨w.heap.size, .int .i64 0, .int .i64 0, .int .i64 0⟩] w3) := ok; clear ok; obtain ⟨_, f0, f1, f2, f3⟩ := HO.out; obtain ⟨x0, y0, z0, s0⟩ := HO.out.1.one)
    | (go_at_call 87; clear t4; refine (liftr HY.out (N := w.heap.size) (bs := [⟨w.heap.size, .int .i64 0, .int .i64 0, .int .i64 0⟩]) _ ?_).mono ?_; exact HO.out; clear HO; rintro e w4 ⟨rfl, ok⟩; have HO : Hid (OKr w w.heap.size [⟨w.heap.size, .int .i64 0, .int .i64 0, .int .i64 0⟩] w4) := ok; clear ok; obtain ⟨_, f0, f1, f2, f3⟩ := HO.out; obtain ⟨x0, y0, z0, s0⟩ := HO.out.1.one)
    | (go_at_call 87; clear t5; refine (liftr HZ.out (N := w.heap.size) (bs := [⟨w.heap.size, .int .i64 0, .int .i64 0, .int .i64 0⟩]) _ ?_).mono ?_; exact HO.out; clear HO; rintro e w5 ⟨rfl, ok⟩; have HO : Hid (OKr w w.heap.size [⟨w.heap.size, .int .i64 0, .int .i64 0, .int .i64 0⟩] w5) := ok; clear ok; obtain ⟨_, f0, f1, f2, f3⟩ := HO.out; obtain ⟨x0, y0, z0, s0⟩ := HO.out.1.one)
    | (go_at_call 37; refine (liftr HM.out (N := w.heap.size) (bs := [⟨w5.heap.size, .int .i64 x, .int .i64 y, .int .i64 z⟩, ⟨w.heap.size, .int .i64 0, .int .i64 0, .int .i64 0⟩]) _ ?_).mono ?_; exact HO.out.box rfl _ _ _; clear HO; rintro e w6 ⟨rfl, ok⟩; have HO : Hid (OKr w w.heap.size [⟨w5.heap.size, .int .i64 x, .int .i64 y, .int .i64 z⟩, ⟨w.heap.size, .int .i64 0, .int .i64 0, .int .i64 0⟩] w6) := ok; clear ok; obtain ⟨_, f0, f1, f2, f3⟩ := HO.out; obtain ⟨x0, y0, z0, s0⟩ := HO.out.1.one; obtain ⟨x1, y1, z1, s1⟩ := HO.out.1.two)
    | (go_at_call 38; refine (liftr HP.out (N := w.heap.size) (bs := [⟨w5.heap.size, .int .i64 x, .int .i64 y, .int .i64 z⟩, ⟨w.heap.size, .int .i64 0, .int .i64 0, .int .i64 0⟩]) _ ?_).mono ?_; exact HO.out; clear HO; rintro e w7 ⟨rfl, ok⟩; have HO : Hid (OKr w w.heap.size [⟨w5.heap.size, .int .i64 x, .int .i64 y, .int .i64 z⟩, ⟨w.heap.size, .int .i64 0, .int .i64 0, .int .i64 0⟩] w7) := ok; clear ok; obtain ⟨_, f0, f1, f2, f3⟩ := HO.out; obtain ⟨x0, y0, z0, s0⟩ := HO.out.1.one; obtain ⟨x1, y1, z1, s1⟩ := HO.out.1.two))
  obtain ⟨u0, u1, u2⟩ := setV x1 y1 z1
  try simp only [Exit.inBlock, Exit.then]
  refine bodyPost_ret (by simp [results, Tryz.results67, u0, u1, u2, go_sem]; try rfl) rfl ?_
  exact ⟨ret_ver rfl rfl rfl rfl, below_setV (Nat.le_refl _) HO.out.1.1⟩

end Go.Proofs.YtkmgfemhfibikaaGreatDoor
