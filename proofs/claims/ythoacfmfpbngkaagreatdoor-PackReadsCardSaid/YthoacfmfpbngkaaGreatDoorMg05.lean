/- Parse2, Parse3, Tx2, Tx3, Tx4, Tx5, Pr1, laid in one text. -/
import Derived.Test.YthoacfmfpbngkaaGreatDoorShelfC
import Derived.Lib.SplitLaws
import Derived.Test.YthoacfmfpbngkaaGreatDoorMg04
namespace Go.Proofs.YthoacfmfpbngkaaGreatDoor
open Go.RowKit
set_option maxRecDepth 100000

set_option maxHeartbeats 4000000 in
theorem Parse_ok (s A R B C : ByteArray) (b1 b2 : Bool) (x y z : Int) (w : World)
    (HC : Hid (∀ w1, Below w.heap.size w w1 → Calls Tryz.prog 58 #[.string s, .string ⟨#[46]⟩] w1 fun e w' => e = .returned (.tuple #[.string A, .string R, .bool b1]) ∧ Below w1.heap.size w1 w'))
    (HD : Hid (∀ w1, Below w.heap.size w w1 → Calls Tryz.prog 58 #[.string R, .string ⟨#[46]⟩] w1 fun e w' => e = .returned (.tuple #[.string B, .string C, .bool b2]) ∧ Below w1.heap.size w1 w'))
    (HX : Hid (∀ w1, Below w.heap.size w w1 → Calls Tryz.prog 59 #[.string A] w1 fun e w' => e = .returned (.int .i64 x) ∧ Below w1.heap.size w1 w'))
    (HY : Hid (∀ w1, Below w.heap.size w w1 → Calls Tryz.prog 59 #[.string B] w1 fun e w' => e = .returned (.int .i64 y) ∧ Below w1.heap.size w1 w'))
    (HZ : Hid (∀ w1, Below w.heap.size w w1 → Calls Tryz.prog 59 #[.string C] w1 fun e w' => e = .returned (.int .i64 z) ∧ Below w1.heap.size w1 w'))
    (HM : Hid (∀ w1, Below w.heap.size w w1 → Calls Tryz.prog 60 #[.agg #[.int .i64 x, .int .i64 y, .int .i64 z]] w1 fun e w' => e = .returned (.bool true) ∧ Below w1.heap.size w1 w'))
    (HP : Hid (∀ w1, Below w.heap.size w w1 → Calls Tryz.prog 42 #[.agg #[.int .i64 x, .int .i64 y, .int .i64 z]] w1 fun e w' => e = .returned (.string s) ∧ Below w1.heap.size w1 w')) :
    Calls Tryz.prog 37 #[.string s] w fun e w' => e = .returned (.tuple #[.agg #[.int .i64 x, .int .i64 y, .int .i64 z], .bool true]) ∧ Below w.heap.size w w' := by
  have t1 : True := trivial
  have t2 : True := trivial
  have t3 : True := trivial
  have t4 : True := trivial
  have t5 : True := trivial
  have HO : Hid (OKr w w.heap.size [⟨w.heap.size, .int .i64 0, .int .i64 0, .int .i64 0⟩] (w.alloc (.cells #[.int .i64 0, .int .i64 0, .int .i64 0] 23))) := OKr.start (OKs.nil w) rfl _ _ _
  go_enter Tryz.func37, Tryz.ntmps37
  go_wp2_with (first
    | (go_at_call 58; clear t1; refine (liftr HC.out (N := w.heap.size) (bs := [⟨w.heap.size, .int .i64 0, .int .i64 0, .int .i64 0⟩]) _ ?_).mono ?_; exact HO.out; clear HO; rintro e w1 ⟨rfl, ok⟩; have HO : Hid (OKr w w.heap.size [⟨w.heap.size, .int .i64 0, .int .i64 0, .int .i64 0⟩] w1) := ok; clear ok; obtain ⟨_, f0, f1, f2, f3⟩ := HO.out; obtain ⟨x0, y0, z0, s0⟩ := HO.out.1.one)
    | (go_at_call 58; clear t2; refine (liftr HD.out (N := w.heap.size) (bs := [⟨w.heap.size, .int .i64 0, .int .i64 0, .int .i64 0⟩]) _ ?_).mono ?_; exact HO.out; clear HO; rintro e w2 ⟨rfl, ok⟩; have HO : Hid (OKr w w.heap.size [⟨w.heap.size, .int .i64 0, .int .i64 0, .int .i64 0⟩] w2) := ok; clear ok; obtain ⟨_, f0, f1, f2, f3⟩ := HO.out; obtain ⟨x0, y0, z0, s0⟩ := HO.out.1.one)
    | (go_at_call 59; clear t3; refine (liftr HX.out (N := w.heap.size) (bs := [⟨w.heap.size, .int .i64 0, .int .i64 0, .int .i64 0⟩]) _ ?_).mono ?_; exact HO.out; clear HO; rintro e w3 ⟨rfl, ok⟩; have HO : Hid (OKr w w.heap.size [⟨w.heap.size, .int .i64 0, .int .i64 0, .int .i64 0⟩] w3) := ok; clear ok; obtain ⟨_, f0, f1, f2, f3⟩ := HO.out; obtain ⟨x0, y0, z0, s0⟩ := HO.out.1.one)
    | (go_at_call 59; clear t4; refine (liftr HY.out (N := w.heap.size) (bs := [⟨w.heap.size, .int .i64 0, .int .i64 0, .int .i64 0⟩]) _ ?_).mono ?_; exact HO.out; clear HO; rintro e w4 ⟨rfl, ok⟩; have HO : Hid (OKr w w.heap.size [⟨w.heap.size, .int .i64 0, .int .i64 0, .int .i64 0⟩] w4) := ok; clear ok; obtain ⟨_, f0, f1, f2, f3⟩ := HO.out; obtain ⟨x0, y0, z0, s0⟩ := HO.out.1.one)
    | (go_at_call 59; clear t5; refine (liftr HZ.out (N := w.heap.size) (bs := [⟨w.heap.size, .int .i64 0, .int .i64 0, .int .i64 0⟩]) _ ?_).mono ?_; exact HO.out; clear HO; rintro e w5 ⟨rfl, ok⟩; have HO : Hid (OKr w w.heap.size [⟨w.heap.size, .int .i64 0, .int .i64 0, .int .i64 0⟩] w5) := ok; clear ok; obtain ⟨_, f0, f1, f2, f3⟩ := HO.out; obtain ⟨x0, y0, z0, s0⟩ := HO.out.1.one)
    | (go_at_call 60; refine (liftr HM.out (N := w.heap.size) (bs := [⟨w5.heap.size, .int .i64 x, .int .i64 y, .int .i64 z⟩, ⟨w.heap.size, .int .i64 0, .int .i64 0, .int .i64 0⟩]) _ ?_).mono ?_; exact HO.out.box rfl _ _ _; clear HO; rintro e w6 ⟨rfl, ok⟩; have HO : Hid (OKr w w.heap.size [⟨w5.heap.size, .int .i64 x, .int .i64 y, .int .i64 z⟩, ⟨w.heap.size, .int .i64 0, .int .i64 0, .int .i64 0⟩] w6) := ok; clear ok; obtain ⟨_, f0, f1, f2, f3⟩ := HO.out; obtain ⟨x0, y0, z0, s0⟩ := HO.out.1.one; obtain ⟨x1, y1, z1, s1⟩ := HO.out.1.two)
    | (go_at_call 42; refine (liftr HP.out (N := w.heap.size) (bs := [⟨w5.heap.size, .int .i64 x, .int .i64 y, .int .i64 z⟩, ⟨w.heap.size, .int .i64 0, .int .i64 0, .int .i64 0⟩]) _ ?_).mono ?_; exact HO.out; clear HO; rintro e w7 ⟨rfl, ok⟩; have HO : Hid (OKr w w.heap.size [⟨w5.heap.size, .int .i64 x, .int .i64 y, .int .i64 z⟩, ⟨w.heap.size, .int .i64 0, .int .i64 0, .int .i64 0⟩] w7) := ok; clear ok; obtain ⟨_, f0, f1, f2, f3⟩ := HO.out; obtain ⟨x0, y0, z0, s0⟩ := HO.out.1.one; obtain ⟨x1, y1, z1, s1⟩ := HO.out.1.two))
  obtain ⟨u0, u1, u2⟩ := setV x1 y1 z1
  try simp only [Exit.inBlock, Exit.then]
  refine bodyPost_ret (by simp [results, Tryz.results37, u0, u1, u2, go_sem]; try rfl) rfl ?_
  exact ⟨ret_ver rfl rfl rfl rfl, below_setV (Nat.le_refl _) HO.out.1.1⟩

set_option maxHeartbeats 4000000 in
theorem Parse_no (s A R B C : ByteArray) (b1 b2 : Bool) (x y z : Int) (w : World)
    (HC : Hid (∀ w1, Below w.heap.size w w1 → Calls Tryz.prog 58 #[.string s, .string ⟨#[46]⟩] w1 fun e w' => e = .returned (.tuple #[.string A, .string R, .bool b1]) ∧ Below w1.heap.size w1 w'))
    (HD : Hid (∀ w1, Below w.heap.size w w1 → Calls Tryz.prog 58 #[.string R, .string ⟨#[46]⟩] w1 fun e w' => e = .returned (.tuple #[.string B, .string C, .bool b2]) ∧ Below w1.heap.size w1 w'))
    (HX : Hid (∀ w1, Below w.heap.size w w1 → Calls Tryz.prog 59 #[.string A] w1 fun e w' => e = .returned (.int .i64 x) ∧ Below w1.heap.size w1 w'))
    (HY : Hid (∀ w1, Below w.heap.size w w1 → Calls Tryz.prog 59 #[.string B] w1 fun e w' => e = .returned (.int .i64 y) ∧ Below w1.heap.size w1 w'))
    (HZ : Hid (∀ w1, Below w.heap.size w w1 → Calls Tryz.prog 59 #[.string C] w1 fun e w' => e = .returned (.int .i64 z) ∧ Below w1.heap.size w1 w'))
    (HM : Hid (∀ w1, Below w.heap.size w w1 → Calls Tryz.prog 60 #[.agg #[.int .i64 x, .int .i64 y, .int .i64 z]] w1 fun e w' => e = .returned (.bool false) ∧ Below w1.heap.size w1 w')) :
    Calls Tryz.prog 37 #[.string s] w fun e w' => e = .returned (.tuple #[.agg #[.int .i64 0, .int .i64 0, .int .i64 0], .bool false]) ∧ Below w.heap.size w w' := by
  have t1 : True := trivial
  have t2 : True := trivial
  have t3 : True := trivial
  have t4 : True := trivial
  have t5 : True := trivial
  have HO : Hid (OKr w w.heap.size [⟨w.heap.size, .int .i64 0, .int .i64 0, .int .i64 0⟩] (w.alloc (.cells #[.int .i64 0, .int .i64 0, .int .i64 0] 23))) := OKr.start (OKs.nil w) rfl _ _ _
  go_enter Tryz.func37, Tryz.ntmps37
  go_wp2_with (first
    | (go_at_call 58; clear t1; refine (liftr HC.out (N := w.heap.size) (bs := [⟨w.heap.size, .int .i64 0, .int .i64 0, .int .i64 0⟩]) _ ?_).mono ?_; exact HO.out; clear HO; rintro e w1 ⟨rfl, ok⟩; have HO : Hid (OKr w w.heap.size [⟨w.heap.size, .int .i64 0, .int .i64 0, .int .i64 0⟩] w1) := ok; clear ok; obtain ⟨_, f0, f1, f2, f3⟩ := HO.out; obtain ⟨x0, y0, z0, s0⟩ := HO.out.1.one)
    | (go_at_call 58; clear t2; refine (liftr HD.out (N := w.heap.size) (bs := [⟨w.heap.size, .int .i64 0, .int .i64 0, .int .i64 0⟩]) _ ?_).mono ?_; exact HO.out; clear HO; rintro e w2 ⟨rfl, ok⟩; have HO : Hid (OKr w w.heap.size [⟨w.heap.size, .int .i64 0, .int .i64 0, .int .i64 0⟩] w2) := ok; clear ok; obtain ⟨_, f0, f1, f2, f3⟩ := HO.out; obtain ⟨x0, y0, z0, s0⟩ := HO.out.1.one)
    | (go_at_call 59; clear t3; refine (liftr HX.out (N := w.heap.size) (bs := [⟨w.heap.size, .int .i64 0, .int .i64 0, .int .i64 0⟩]) _ ?_).mono ?_; exact HO.out; clear HO; rintro e w3 ⟨rfl, ok⟩; have HO : Hid (OKr w w.heap.size [⟨w.heap.size, .int .i64 0, .int .i64 0, .int .i64 0⟩] w3) := ok; clear ok; obtain ⟨_, f0, f1, f2, f3⟩ := HO.out; obtain ⟨x0, y0, z0, s0⟩ := HO.out.1.one)
    | (go_at_call 59; clear t4; refine (liftr HY.out (N := w.heap.size) (bs := [⟨w.heap.size, .int .i64 0, .int .i64 0, .int .i64 0⟩]) _ ?_).mono ?_; exact HO.out; clear HO; rintro e w4 ⟨rfl, ok⟩; have HO : Hid (OKr w w.heap.size [⟨w.heap.size, .int .i64 0, .int .i64 0, .int .i64 0⟩] w4) := ok; clear ok; obtain ⟨_, f0, f1, f2, f3⟩ := HO.out; obtain ⟨x0, y0, z0, s0⟩ := HO.out.1.one)
    | (go_at_call 59; clear t5; refine (liftr HZ.out (N := w.heap.size) (bs := [⟨w.heap.size, .int .i64 0, .int .i64 0, .int .i64 0⟩]) _ ?_).mono ?_; exact HO.out; clear HO; rintro e w5 ⟨rfl, ok⟩; have HO : Hid (OKr w w.heap.size [⟨w.heap.size, .int .i64 0, .int .i64 0, .int .i64 0⟩] w5) := ok; clear ok; obtain ⟨_, f0, f1, f2, f3⟩ := HO.out; obtain ⟨x0, y0, z0, s0⟩ := HO.out.1.one)
    | (go_at_call 60; refine (liftr HM.out (N := w.heap.size) (bs := [⟨w5.heap.size, .int .i64 x, .int .i64 y, .int .i64 z⟩, ⟨w.heap.size, .int .i64 0, .int .i64 0, .int .i64 0⟩]) _ ?_).mono ?_; exact HO.out.box rfl _ _ _; clear HO; rintro e w6 ⟨rfl, ok⟩; have HO : Hid (OKr w w.heap.size [⟨w5.heap.size, .int .i64 x, .int .i64 y, .int .i64 z⟩, ⟨w.heap.size, .int .i64 0, .int .i64 0, .int .i64 0⟩] w6) := ok; clear ok; obtain ⟨_, f0, f1, f2, f3⟩ := HO.out; obtain ⟨x0, y0, z0, s0⟩ := HO.out.1.one; obtain ⟨x1, y1, z1, s1⟩ := HO.out.1.two))
  obtain ⟨u0, u1, u2⟩ := setV x1 y1 z1
  try simp only [Exit.inBlock, Exit.then]
  refine bodyPost_ret (by simp [results, Tryz.results37, u0, u1, u2, go_sem]; try rfl) rfl ?_
  exact ⟨ret_ver rfl rfl rfl rfl, below_setV (Nat.le_refl _) HO.out.1.1⟩

set_option maxHeartbeats 4000000 in
theorem Parse_other (s A R B C T : ByteArray) (b1 b2 : Bool) (x y z : Int) (w : World) (hT : T.toList ≠ s.toList)
    (HC : Hid (∀ w1, Below w.heap.size w w1 → Calls Tryz.prog 58 #[.string s, .string ⟨#[46]⟩] w1 fun e w' => e = .returned (.tuple #[.string A, .string R, .bool b1]) ∧ Below w1.heap.size w1 w'))
    (HD : Hid (∀ w1, Below w.heap.size w w1 → Calls Tryz.prog 58 #[.string R, .string ⟨#[46]⟩] w1 fun e w' => e = .returned (.tuple #[.string B, .string C, .bool b2]) ∧ Below w1.heap.size w1 w'))
    (HX : Hid (∀ w1, Below w.heap.size w w1 → Calls Tryz.prog 59 #[.string A] w1 fun e w' => e = .returned (.int .i64 x) ∧ Below w1.heap.size w1 w'))
    (HY : Hid (∀ w1, Below w.heap.size w w1 → Calls Tryz.prog 59 #[.string B] w1 fun e w' => e = .returned (.int .i64 y) ∧ Below w1.heap.size w1 w'))
    (HZ : Hid (∀ w1, Below w.heap.size w w1 → Calls Tryz.prog 59 #[.string C] w1 fun e w' => e = .returned (.int .i64 z) ∧ Below w1.heap.size w1 w'))
    (HM : Hid (∀ w1, Below w.heap.size w w1 → Calls Tryz.prog 60 #[.agg #[.int .i64 x, .int .i64 y, .int .i64 z]] w1 fun e w' => e = .returned (.bool true) ∧ Below w1.heap.size w1 w'))
    (HP : Hid (∀ w1, Below w.heap.size w w1 → Calls Tryz.prog 42 #[.agg #[.int .i64 x, .int .i64 y, .int .i64 z]] w1 fun e w' => e = .returned (.string T) ∧ Below w1.heap.size w1 w')) :
    Calls Tryz.prog 37 #[.string s] w fun e w' => e = .returned (.tuple #[.agg #[.int .i64 0, .int .i64 0, .int .i64 0], .bool false]) ∧ Below w.heap.size w w' := by
  have t1 : True := trivial
  have t2 : True := trivial
  have t3 : True := trivial
  have t4 : True := trivial
  have t5 : True := trivial
  have hs1 := beq_eq_false_iff_ne.2 hT
  clear hT
  have HO : Hid (OKr w w.heap.size [⟨w.heap.size, .int .i64 0, .int .i64 0, .int .i64 0⟩] (w.alloc (.cells #[.int .i64 0, .int .i64 0, .int .i64 0] 23))) := OKr.start (OKs.nil w) rfl _ _ _
  go_enter Tryz.func37, Tryz.ntmps37
  go_wp2_with (first
    | (go_at_call 58; clear t1; refine (liftr HC.out (N := w.heap.size) (bs := [⟨w.heap.size, .int .i64 0, .int .i64 0, .int .i64 0⟩]) _ ?_).mono ?_; exact HO.out; clear HO; rintro e w1 ⟨rfl, ok⟩; have HO : Hid (OKr w w.heap.size [⟨w.heap.size, .int .i64 0, .int .i64 0, .int .i64 0⟩] w1) := ok; clear ok; obtain ⟨_, f0, f1, f2, f3⟩ := HO.out; obtain ⟨x0, y0, z0, s0⟩ := HO.out.1.one)
    | (go_at_call 58; clear t2; refine (liftr HD.out (N := w.heap.size) (bs := [⟨w.heap.size, .int .i64 0, .int .i64 0, .int .i64 0⟩]) _ ?_).mono ?_; exact HO.out; clear HO; rintro e w2 ⟨rfl, ok⟩; have HO : Hid (OKr w w.heap.size [⟨w.heap.size, .int .i64 0, .int .i64 0, .int .i64 0⟩] w2) := ok; clear ok; obtain ⟨_, f0, f1, f2, f3⟩ := HO.out; obtain ⟨x0, y0, z0, s0⟩ := HO.out.1.one)
    | (go_at_call 59; clear t3; refine (liftr HX.out (N := w.heap.size) (bs := [⟨w.heap.size, .int .i64 0, .int .i64 0, .int .i64 0⟩]) _ ?_).mono ?_; exact HO.out; clear HO; rintro e w3 ⟨rfl, ok⟩; have HO : Hid (OKr w w.heap.size [⟨w.heap.size, .int .i64 0, .int .i64 0, .int .i64 0⟩] w3) := ok; clear ok; obtain ⟨_, f0, f1, f2, f3⟩ := HO.out; obtain ⟨x0, y0, z0, s0⟩ := HO.out.1.one)
    | (go_at_call 59; clear t4; refine (liftr HY.out (N := w.heap.size) (bs := [⟨w.heap.size, .int .i64 0, .int .i64 0, .int .i64 0⟩]) _ ?_).mono ?_; exact HO.out; clear HO; rintro e w4 ⟨rfl, ok⟩; have HO : Hid (OKr w w.heap.size [⟨w.heap.size, .int .i64 0, .int .i64 0, .int .i64 0⟩] w4) := ok; clear ok; obtain ⟨_, f0, f1, f2, f3⟩ := HO.out; obtain ⟨x0, y0, z0, s0⟩ := HO.out.1.one)
    | (go_at_call 59; clear t5; refine (liftr HZ.out (N := w.heap.size) (bs := [⟨w.heap.size, .int .i64 0, .int .i64 0, .int .i64 0⟩]) _ ?_).mono ?_; exact HO.out; clear HO; rintro e w5 ⟨rfl, ok⟩; have HO : Hid (OKr w w.heap.size [⟨w.heap.size, .int .i64 0, .int .i64 0, .int .i64 0⟩] w5) := ok; clear ok; obtain ⟨_, f0, f1, f2, f3⟩ := HO.out; obtain ⟨x0, y0, z0, s0⟩ := HO.out.1.one)
    | (go_at_call 60; refine (liftr HM.out (N := w.heap.size) (bs := [⟨w5.heap.size, .int .i64 x, .int .i64 y, .int .i64 z⟩, ⟨w.heap.size, .int .i64 0, .int .i64 0, .int .i64 0⟩]) _ ?_).mono ?_; exact HO.out.box rfl _ _ _; clear HO; rintro e w6 ⟨rfl, ok⟩; have HO : Hid (OKr w w.heap.size [⟨w5.heap.size, .int .i64 x, .int .i64 y, .int .i64 z⟩, ⟨w.heap.size, .int .i64 0, .int .i64 0, .int .i64 0⟩] w6) := ok; clear ok; obtain ⟨_, f0, f1, f2, f3⟩ := HO.out; obtain ⟨x0, y0, z0, s0⟩ := HO.out.1.one; obtain ⟨x1, y1, z1, s1⟩ := HO.out.1.two)
    | (go_at_call 42; refine (liftr HP.out (N := w.heap.size) (bs := [⟨w5.heap.size, .int .i64 x, .int .i64 y, .int .i64 z⟩, ⟨w.heap.size, .int .i64 0, .int .i64 0, .int .i64 0⟩]) _ ?_).mono ?_; exact HO.out; clear HO; rintro e w7 ⟨rfl, ok⟩; have HO : Hid (OKr w w.heap.size [⟨w5.heap.size, .int .i64 x, .int .i64 y, .int .i64 z⟩, ⟨w.heap.size, .int .i64 0, .int .i64 0, .int .i64 0⟩] w7) := ok; clear ok; obtain ⟨_, f0, f1, f2, f3⟩ := HO.out; obtain ⟨x0, y0, z0, s0⟩ := HO.out.1.one; obtain ⟨x1, y1, z1, s1⟩ := HO.out.1.two))
  obtain ⟨u0, u1, u2⟩ := setV x1 y1 z1
  try simp only [Exit.inBlock, Exit.then]
  refine bodyPost_ret (by simp [results, Tryz.results37, u0, u1, u2, go_sem]; try rfl) rfl ?_
  exact ⟨ret_ver rfl rfl rfl rfl, below_setV (Nat.le_refl _) HO.out.1.1⟩

end Go.Proofs.YthoacfmfpbngkaaGreatDoor
namespace Go.Proofs.YthoacfmfpbngkaaGreatDoor
open Go.RowKit
set_option maxRecDepth 100000

def pA (l : List UInt8) : Int := numV (Lib.cut l [46]).1
def pB (l : List UInt8) : Int := numV (Lib.cut (Lib.cut l [46]).2.1 [46]).1
def pC (l : List UInt8) : Int := numV (Lib.cut (Lib.cut l [46]).2.1 [46]).2.1
/-- Is a text a version's? -/
def okP (s : ByteArray) : Bool := mayV (pA s.data.toList) (pB s.data.toList) (pC s.data.toList) && decide (textV (pA s.data.toList) (pB s.data.toList) (pC s.data.toList) = s)
def resA (s : ByteArray) : Int := if okP s then pA s.data.toList else 0
def resB (s : ByteArray) : Int := if okP s then pB s.data.toList else 0
def resC (s : ByteArray) : Int := if okP s then pC s.data.toList else 0

theorem cut_le (l sep : List UInt8) : (Lib.cut l sep).1.length ≤ l.length ∧ (Lib.cut l sep).2.1.length ≤ l.length := by
  unfold Lib.cut
  split
  · simp; omega
  · simp

theorem bytes_list (l : List UInt8) : (⟨l.toArray⟩ : ByteArray).data.toList = l := by simp
theorem bytes_size (l : List UInt8) : (⟨l.toArray⟩ : ByteArray).size = l.length := by show l.toArray.size = _; simp
theorem list_size (s : ByteArray) : s.data.toList.length = s.size := rfl

theorem Cut_on {W : World} (he : Env W) (s : ByteArray) (hs : s.size < 4294967281) (w1 : World) (hb : Below W.heap.size W w1) :
    Calls Tryz.prog 58 #[.string s, .string ⟨#[46]⟩] w1 fun e w' => e = .returned (.tuple #[.string ⟨(Lib.cut s.data.toList [46]).1.toArray⟩, .string ⟨(Lib.cut s.data.toList [46]).2.1.toArray⟩, .bool (Lib.cut s.data.toList [46]).2.2]) ∧ Below w1.heap.size w1 w' := by
  obtain ⟨m, hm⟩ := (he.below hb).max
  refine (Tryz.strings_Cut s ⟨#[46]⟩ m w1 hs hm).mono ?_
  rintro e w' ⟨rfl, n, rfl⟩
  exact ⟨rfl, below_draws (Below.refl _ _) n⟩

theorem bytes_same {s t : ByteArray} (h : s.toList = t.toList) : s = t := by
  rw [ByteArray.toList_eq, ByteArray.toList_eq] at h
  cases s; cases t
  simp only [ByteArray.mk.injEq]
  exact Array.toList_inj.1 h

theorem Parse_any (s : ByteArray) (hs : s.size < 4294967281) (w : World) (he : Env w) :
    Calls Tryz.prog 37 #[.string s] w fun e w' => e = .returned (.tuple #[.agg #[.int .i64 (resA s), .int .i64 (resB s), .int .i64 (resC s)], .bool (okP s)]) ∧ Below w.heap.size w w' := by
  have hl := list_size s
  have l1 := cut_le s.data.toList [46]
  have l2 := cut_le (Lib.cut s.data.toList [46]).2.1 [46]
  have HC := Cut_on he s hs
  have HD := Cut_on he ⟨(Lib.cut s.data.toList [46]).2.1.toArray⟩ (by rw [bytes_size]; omega)
  have HX := fun w1 hb => number_any ⟨(Lib.cut s.data.toList [46]).1.toArray⟩ (by rw [bytes_size]; omega) w1 (he.below hb)
  have HY := fun w1 hb => number_any ⟨(Lib.cut (Lib.cut s.data.toList [46]).2.1 [46]).1.toArray⟩ (by rw [bytes_size]; omega) w1 (he.below hb)
  have HZ := fun w1 hb => number_any ⟨(Lib.cut (Lib.cut s.data.toList [46]).2.1 [46]).2.1.toArray⟩ (by rw [bytes_size]; omega) w1 (he.below hb)
  rw [bytes_list] at HD HX HY HZ
  have HM := fun w1 (_ : Below w.heap.size w w1) => May_any (pA s.data.toList) (pB s.data.toList) (pC s.data.toList) w1
  have HP := fun w1 hb => print_on he.tab (pA s.data.toList) (pB s.data.toList) (pC s.data.toList) w1 hb
  cases hm : mayV (pA s.data.toList) (pB s.data.toList) (pC s.data.toList)
  · have ho : okP s = false := by unfold okP; rw [hm]; rfl
    unfold resA resB resC
    rw [ho]
    rw [hm] at HM
    exact Parse_no s _ _ _ _ _ _ _ _ _ w HC HD HX HY HZ HM
  · rw [hm] at HM
    by_cases ht : textV (pA s.data.toList) (pB s.data.toList) (pC s.data.toList) = s
    · have ho : okP s = true := by unfold okP; rw [hm, decide_eq_true ht]; rfl
      unfold resA resB resC
      rw [ho]
      rw [ht] at HP
      exact Parse_ok s _ _ _ _ _ _ _ _ _ w HC HD HX HY HZ HM HP
    · have ho : okP s = false := by unfold okP; rw [hm, decide_eq_false ht]; rfl
      unfold resA resB resC
      rw [ho]
      exact Parse_other s _ _ _ _ _ _ _ _ _ _ w (fun e => ht (bytes_same e)) HC HD HX HY HZ HM HP

/-- What is told is a version's text. -/
theorem okP_text {s : ByteArray} (h : okP s = true) : mayV (resA s) (resB s) (resC s) = true ∧ s = textV (resA s) (resB s) (resC s) := by
  unfold resA resB resC
  rw [h]
  unfold okP at h
  simp only [Bool.and_eq_true, decide_eq_true_eq] at h
  exact ⟨h.1, h.2.symm⟩

theorem cut_dot (l r : List UInt8) (h : (46 : UInt8) ∉ l) : Lib.cut (l ++ 46 :: r) [46] = (l, r, true) := by
  have hi : Lib.index (l ++ 46 :: r) [46] = l.length := by
    refine Lib.index_first (by simp) (by simp [Lib.occAt]) ?_
    intro j hj
    unfold Lib.occAt
    rw [List.drop_append_of_le_length (by omega)]
    have hd : l.drop j = l[j] :: l.drop (j + 1) := List.drop_eq_getElem_cons hj
    rw [hd]
    simp only [List.cons_append, List.isPrefixOf, Bool.and_true]
    rw [beq_eq_false_iff_ne]
    intro e
    exact h (by rw [e]; exact List.getElem_mem hj)
  unfold Lib.cut
  rw [hi, if_pos (by omega)]
  simp

theorem dec_from (l : List UInt8) (h : ∀ d ∈ l, 48 ≤ d.toNat ∧ d.toNat ≤ 57) (acc : Nat) : Lib.decFrom acc l = some (l.foldl (fun n d => n * 10 + (d.toNat - 48)) acc) := by
  induction l generalizing acc with
  | nil => rfl
  | cons d l ih =>
    have hd := h d (List.mem_cons_self)
    unfold Lib.decFrom
    have : Lib.digitVal d = some (d.toNat - 48) := by
      unfold Lib.digitVal; simp; omega
    rw [this]
    simp only [List.foldl_cons]
    exact ih (fun x hx => h x (List.mem_cons_of_mem _ hx)) _

/-- The numeral of a part is read as that part. -/
theorem num_itoa {n : Int} (h0 : 0 ≤ n) (h1 : n ≤ 999) : numV (Lib.itoa n) = n := by
  have e := itoa_of h0
  have hl : (Lib.itoa n).length ≤ 3 := by have := itoa_three h0 h1; rw [bytes_size] at this; exact this
  have hd := dec_digits n.toNat
  have hv := val_dec n.toNat
  have ha : Lib.atoi (Lib.itoa n) = some n := by
    rw [e]
    cases hc : Lib.decDigits n.toNat with
    | nil => exact absurd hc (dec_ne _)
    | cons b r =>
      rw [hc] at hd hv
      have hb := hd b (List.mem_cons_self)
      have n45 : (b == 45) = false := by rw [beq_eq_false_iff_ne]; rintro rfl; revert hb; decide
      have n43 : (b == 43) = false := by rw [beq_eq_false_iff_ne]; rintro rfl; revert hb; decide
      unfold Lib.atoi
      simp only [n45, n43, Bool.false_eq_true, if_false]
      unfold Lib.decNat
      simp only [List.isEmpty_cons, Bool.false_eq_true, if_false]
      rw [dec_from _ hd]
      unfold valOf at hv
      rw [hv]
      simp
      omega
  unfold numV
  rw [Lib.atoiAll_short _ (by omega), ha]
  rfl

theorem parts_text {a b c : Int} (h : mayV a b c = true) : pA (textV a b c).data.toList = a ∧ pB (textV a b c).data.toList = b ∧ pC (textV a b c).data.toList = c := by
  obtain ⟨a0, a1, b0, b1, c0, c1⟩ := may_all h
  unfold pA pB pC
  rw [text_list h, cut_dot _ _ (no_dot a0)]
  simp only
  rw [cut_dot _ _ (no_dot b0)]
  exact ⟨num_itoa a0 a1, num_itoa b0 b1, num_itoa c0 c1⟩

/-- A version's text is told, as that version. -/
theorem okP_of {a b c : Int} (h : mayV a b c = true) : okP (textV a b c) = true ∧ resA (textV a b c) = a ∧ resB (textV a b c) = b ∧ resC (textV a b c) = c := by
  obtain ⟨e1, e2, e3⟩ := parts_text h
  have ho : okP (textV a b c) = true := by
    unfold okP
    rw [e1, e2, e3, h]
    simp
  unfold resA resB resC
  rw [ho]
  exact ⟨rfl, e1, e2, e3⟩

theorem okP_empty : okP ByteArray.empty = false := by
  rw [Bool.eq_false_iff]
  intro h
  obtain ⟨hm, he⟩ := okP_text h
  have := congrArg (fun s : ByteArray => s.data.toList) he
  simp only [text_list hm] at this
  have h2 := congrArg List.length this
  simp at h2
end Go.Proofs.YthoacfmfpbngkaaGreatDoor
namespace Go.Proofs.YthoacfmfpbngkaaGreatDoor
open Go.RowKit
set_option maxRecDepth 100000

set_option maxHeartbeats 800000 in
theorem signed_other (s : ByteArray) (w : World) (h0 : s.toList.isEmpty = false) (h1 : (s.toList == [61]) = false) (h2 : (s.toList == [60]) = false) (h3 : (s.toList == [60, 61]) = false) (h4 : (s.toList == [62]) = false) (h5 : (s.toList == [62, 61]) = false) (h6 : (s.toList == [94]) = false) (h7 : (s.toList == [126]) = false) {a b c : Int} :
    Calls Tryz.prog 125 #[.string s, .agg #[.int .i64 a, .int .i64 b, .int .i64 c]] w fun e w' => e = .returned (.tuple #[.slice none 0 0, .bool false]) ∧ Below w.heap.size w w' := by
  go_enter Tryz.func125, Tryz.ntmps125
  go_wp2_with fail
  go_ret2
  exact ⟨rfl, boxB _ _⟩

theorem of_list {s : ByteArray} {l : List UInt8} (h : s.data.toList = l) : s = ⟨l.toArray⟩ := by
  cases s with
  | mk d => simp only at h; subst h; simp
theorem beq_no {s : ByteArray} {l : List UInt8} (h : ¬ s.data.toList = l) : (s.toList == l) = false := by
  rw [ByteArray.toList_eq]; simpa using h

theorem signed_any (s : ByteArray) {n : Int} (hn : okR n) (w : World) (hf : FL w) :
    Calls Tryz.prog 125 #[.string s, .agg #[.int .i64 (atA n), .int .i64 (atB n), .int .i64 (atC n)]] w fun e w' => ∃ v, e = .returned (.tuple #[v, .bool (signR s.data.toList n).isSome]) ∧ SpansR w' v ((signR s.data.toList n).getD []) ∧ Below w.heap.size w w' := by
  by_cases h0 : s.data.toList = []
  · rw [of_list h0]; exact signed_none w hf
  by_cases h1 : s.data.toList = [61]
  · rw [of_list h1]; exact signed_eq w hf
  by_cases h2 : s.data.toList = [60]
  · rw [of_list h2]; exact signed_lt hn w hf
  by_cases h3 : s.data.toList = [60, 61]
  · rw [of_list h3]; exact signed_le w hf
  by_cases h4 : s.data.toList = [62]
  · rw [of_list h4]; exact signed_gt hn w hf
  by_cases h5 : s.data.toList = [62, 61]
  · rw [of_list h5]; exact signed_ge w hf
  by_cases h6 : s.data.toList = [94]
  · rw [of_list h6]; exact signed_caret hn w hf
  by_cases h7 : s.data.toList = [126]
  · rw [of_list h7]; exact signed_tilde hn w hf
  have e : signR s.data.toList n = none := by
    unfold signR
    rw [if_neg (by simp [h0, h1]), if_neg h2, if_neg h3, if_neg h4, if_neg h5, if_neg h6, if_neg h7]
  rw [e]
  refine (signed_other s w ?_ (beq_no h1) (beq_no h2) (beq_no h3) (beq_no h4) (beq_no h5) (beq_no h6) (beq_no h7)).mono ?_
  · rw [ByteArray.toList_eq]
    cases hd : s.data.toList with
    | nil => exact (h0 hd).elim
    | cons _ _ => rfl
  · rintro e w' ⟨rfl, hb⟩
    exact ⟨_, rfl, ⟨none, 0, rfl, Nat.le_refl _, Or.inl rfl⟩, hb⟩

theorem word_star (w : World) (hf : FL w) :
    Calls Tryz.prog 102 #[.string ⟨#[42]⟩] w fun e w' => ∃ v, e = .returned (.tuple #[v, .bool true]) ∧ SpansR w' v allR ∧ Below w.heap.size w w' := by
  have H := hide3 (All_rg hf)
  clear hf
  go_enter Tryz.func102, Tryz.ntmps102
  go_wp2_with (go_at_call 101; refine H.out.mono ?_; rintro e w1 ⟨v1, rfl, ok1⟩; have HO := hide3 ok1; clear ok1)
  go_ret2
  exact ⟨v1, rfl, HO.out⟩

set_option maxHeartbeats 800000 in
theorem word_no (s : ByteArray) (hs : s.size ≤ 4294967200) (w : World) (he : Env w) (h42 : (s.toList == [42]) = false) (q : Int) (k : Nat) (hq : max q 0 = (k : Int)) (hk : k ≤ s.size)
    (HI : Hid (Calls Tryz.prog 124 #[.string s, .string ⟨#[48, 49, 50, 51, 52, 53, 54, 55, 56, 57]⟩] w fun e w' => e = .returned (.int .i64 q) ∧ Below w.heap.size w w')) (ho : okP (s.extract k s.size) = false) :
    Calls Tryz.prog 102 #[.string s] w fun e w' => e = .returned (.tuple #[.slice none 0 0, .bool false]) ∧ Below w.heap.size w w' := by
  have HP : Hid (∀ w1, Below w.heap.size w w1 → Calls Tryz.prog 37 #[.string (s.extract k s.size)] w1 fun e w' => e = .returned (.tuple #[.agg #[.int .i64 (resA (s.extract k s.size)), .int .i64 (resB (s.extract k s.size)), .int .i64 (resC (s.extract k s.size))], .bool false]) ∧ Below w1.heap.size w1 w') := fun w1 hb => by
    have := Parse_any (s.extract k s.size) (by simp; omega) w1 (he.below hb); rw [ho] at this; exact this
  clear he ho
  go_enter Tryz.func102, Tryz.ntmps102
  go_wp2_with (first
    | (go_at_call 124; refine HI.out.mono ?_; rintro e w1 ⟨rfl, ok1⟩; have HO1 := hide3 ok1; clear ok1)
    | (go_at_call 37; refine (HP.out _ HO1.out).mono ?_; rintro e w2 ⟨rfl, ok2⟩; have HO2 := hide3 ok2; clear ok2))
  go_ret2
  exact ⟨rfl, below_then (below_then HO1.out HO2.out) (boxB _ _)⟩

/-- The place of the version that a text is. -/
def plP (t : ByteArray) : Int := rankV (resA t) (resB t) (resC t)
theorem plP_ok {t : ByteArray} (h : okP t = true) : okR (plP t) ∧ atA (plP t) = resA t ∧ atB (plP t) = resB t ∧ atC (plP t) = resC t := by
  have m := (okP_text h).1
  have l := rank_low m
  exact ⟨by unfold okR plP; omega, at_rank m⟩

set_option maxHeartbeats 1600000 in
theorem word_ok (s : ByteArray) (hs : s.size ≤ 4294967200) (w : World) (he : Env w) (hf : FL w) (h42 : (s.toList == [42]) = false) (q : Int) (k : Nat) (hq : max q 0 = (k : Int)) (hk : k ≤ s.size)
    (HI : Hid (Calls Tryz.prog 124 #[.string s, .string ⟨#[48, 49, 50, 51, 52, 53, 54, 55, 56, 57]⟩] w fun e w' => e = .returned (.int .i64 q) ∧ Below w.heap.size w w')) (ho : okP (s.extract k s.size) = true) :
    Calls Tryz.prog 102 #[.string s] w fun e w' => ∃ v, e = .returned (.tuple #[v, .bool (signR (s.extract 0 k).data.toList (plP (s.extract k s.size))).isSome]) ∧ SpansR w' v ((signR (s.extract 0 k).data.toList (plP (s.extract k s.size))).getD []) ∧ Below w.heap.size w w' := by
  obtain ⟨hn, e1, e2, e3⟩ := plP_ok ho
  have HP : Hid (∀ w1, Below w.heap.size w w1 → Calls Tryz.prog 37 #[.string (s.extract k s.size)] w1 fun e w' => e = .returned (.tuple #[.agg #[.int .i64 (atA (plP (s.extract k s.size))), .int .i64 (atB (plP (s.extract k s.size))), .int .i64 (atC (plP (s.extract k s.size)))], .bool true]) ∧ Below w1.heap.size w1 w') := fun w1 hb => by
    have := Parse_any (s.extract k s.size) (by simp; omega) w1 (he.below hb); rw [ho, ← e1, ← e2, ← e3] at this; exact this
  have HS : Hid (∀ w1, FL w1 → Calls Tryz.prog 125 #[.string (s.extract 0 k), .agg #[.int .i64 (atA (plP (s.extract k s.size))), .int .i64 (atB (plP (s.extract k s.size))), .int .i64 (atC (plP (s.extract k s.size)))]] w1 fun e w' => ∃ v, e = .returned (.tuple #[v, .bool (signR (s.extract 0 k).data.toList (plP (s.extract k s.size))).isSome]) ∧ SpansR w' v ((signR (s.extract 0 k).data.toList (plP (s.extract k s.size))).getD []) ∧ Below w1.heap.size w1 w') := fun w1 h => signed_any _ hn w1 h
  have HFL := hide3 hf
  clear he ho hf e1 e2 e3 hn
  generalize plP (s.extract k s.size) = n at *
  generalize (signR (s.extract 0 k).data.toList n).isSome = b at *
  generalize (signR (s.extract 0 k).data.toList n).getD [] = R at *
  go_enter Tryz.func102, Tryz.ntmps102
  go_wp2_with (first
    | (go_at_call 124; refine HI.out.mono ?_; rintro e w1 ⟨rfl, ok1⟩; have HO1 := hide3 ok1; clear ok1)
    | (go_at_call 37; refine (HP.out _ HO1.out).mono ?_; rintro e w2 ⟨rfl, ok2⟩; have HO2 := hide3 (below_then HO1.out ok2); clear ok2))
  have HB : Hid (Below w.heap.size w (w2.alloc (.cells #[.int .i64 (atA n), .int .i64 (atB n), .int .i64 (atC n)] 23)) ∧ BxAt (w2.alloc (.cells #[.int .i64 (atA n), .int .i64 (atB n), .int .i64 (atC n)] 23)) ⟨w2.heap.size, .int .i64 (atA n), .int .i64 (atB n), .int .i64 (atC n)⟩) := ⟨below_then HO2.out (boxB _ _), ((OKs.nil w2).box rfl _ _ _).one⟩
  obtain ⟨_, b0, b1, b2, b3⟩ := HB.out
  have HK : Hid (KeepP fun w1 => Below w.heap.size w w1 ∧ BxAt w1 ⟨w2.heap.size, .int .i64 (atA n), .int .i64 (atB n), .int .i64 (atC n)⟩) := (keepBelow w).and (keepV3 _)
  go_region_held3 (fun w' => w'.cell? ⟨w2.heap.size, 0, none⟩ = some (.int .i64 (atA n)) ∧ w'.cell? ⟨w2.heap.size, 1, none⟩ = some (.int .i64 (atB n)) ∧ w'.cell? ⟨w2.heap.size, 2, none⟩ = some (.int .i64 (atC n))) (go_keep)
    (first
      | (go_at_call 125; refine (HS.out _ (HFL.out.below (HK.out.drew HB.out).1)).mono ?_; rintro e w3 ⟨v3, rfl, ok3⟩; have HO3 := hide3 ok3; have HO4 := hide3 (HK.out _ _ (HK.out.drew HB.out) ok3.2); clear ok3 b0 b1 b2 b3; obtain ⟨_, b0, b1, b2, b3⟩ := HO4.out))
  all_goals go_wp2
  all_goals go_ret2
  all_goals exact ⟨v3, rfl, HO3.out.1, HO4.out.1⟩
end Go.Proofs.YthoacfmfpbngkaaGreatDoor
namespace Go.Proofs.YthoacfmfpbngkaaGreatDoor
open Go.RowKit
set_option maxRecDepth 100000

/-- Where a word's version begins. -/
def idxK (s : ByteArray) : Nat := (max (Lib.indexAny s.data.toList [48, 49, 50, 51, 52, 53, 54, 55, 56, 57]) 0).toNat
theorem indexAny_lt (c : List UInt8) : ∀ l : List UInt8, Lib.indexAny l c < l.length ∨ Lib.indexAny l c = -1
  | [] => Or.inr rfl
  | b :: l => by
    have ih := indexAny_lt c l
    unfold Lib.indexAny
    simp only [List.length_cons]
    split
    · left; omega
    · split
      · exact Or.inr rfl
      · left
        rename_i h
        simp at h
        omega
theorem idxK_le (s : ByteArray) : idxK s ≤ s.size := by
  unfold idxK
  have h1 := indexAny_lt [48, 49, 50, 51, 52, 53, 54, 55, 56, 57] s.data.toList
  have h2 := list_size s
  have h3 := Lib.indexAny_ge [48, 49, 50, 51, 52, 53, 54, 55, 56, 57] s.data.toList
  omega

/-- A word's versions. -/
def wordR (s : ByteArray) : Option Rg := if s.data.toList = [42] then some allR else if okP (s.extract (idxK s) s.size) = true then signR (s.extract 0 (idxK s)).data.toList (plP (s.extract (idxK s) s.size)) else none
theorem word_rg {s : ByteArray} {R : Rg} (h : wordR s = some R) : RangeR R := by
  unfold wordR at h
  split at h
  · injection h with h; subst h; exact allR_ok
  · split at h
    · rename_i ho
      exact sign_ok (plP_ok ho).1 h
    · cases h

/-- A text whose bytes are all ASCII, or that is long. -/
def Plain8 (s : ByteArray) : Prop := 8 < s.size ∨ ∀ (j : Nat) b, s.data.toList[j]? = some b → b.toNat < 128

theorem zero256 (w : World) : (zeroValue 162).run Tryz.prog w = .ok (.agg (Array.replicate 256 (.bool false))) w := by kernel_rfl

theorem IndexAny_on (s : ByteArray) (hs : s.size < 4294967281) (h : Plain8 s) (w : World) :
    Calls Tryz.prog 124 #[.string s, .string ⟨#[48, 49, 50, 51, 52, 53, 54, 55, 56, 57]⟩] w fun e w' => e = .returned (.int .i64 (Lib.indexAny s.data.toList [48, 49, 50, 51, 52, 53, 54, 55, 56, 57])) ∧ Below w.heap.size w w' := by
  have hac : ∀ (j : Nat) b, (⟨#[48, 49, 50, 51, 52, 53, 54, 55, 56, 57]⟩ : ByteArray).data.toList[j]? = some b → b.toNat < 128 := by
    intro j b hj
    have hm := List.mem_of_getElem? hj
    simp at hm
    rcases hm with rfl | rfl | rfl | rfl | rfl | rfl | rfl | rfl | rfl | rfl <;> decide
  rcases h with h | h
  · refine (Tryz.strings_IndexAny_long zero256 s ⟨#[48, 49, 50, 51, 52, 53, 54, 55, 56, 57]⟩ w (by decide) h hs (by decide) hac).mono ?_
    rintro e w' ⟨rfl, rfl⟩
    exact ⟨rfl, boxB2 _ _ _⟩
  · exact Tryz.strings_IndexAny zero256 s ⟨#[48, 49, 50, 51, 52, 53, 54, 55, 56, 57]⟩ w hs (by decide) h hac

theorem word_any (s : ByteArray) (hs : s.size ≤ 4294967200) (hp : Plain8 s) (w : World) (he : Env w) (hf : FL w) :
    Calls Tryz.prog 102 #[.string s] w fun e w' => ∃ v, e = .returned (.tuple #[v, .bool (wordR s).isSome]) ∧ SpansR w' v ((wordR s).getD []) ∧ Below w.heap.size w w' := by
  unfold wordR
  by_cases h : s.data.toList = [42]
  · rw [if_pos h, of_list h]; exact word_star w hf
  · rw [if_neg h]
    have hq : max (Lib.indexAny s.data.toList [48, 49, 50, 51, 52, 53, 54, 55, 56, 57]) 0 = (idxK s : Int) := by unfold idxK; omega
    have HI := hide3 (IndexAny_on s (by omega) hp w)
    by_cases ho : okP (s.extract (idxK s) s.size) = true
    · rw [if_pos ho]
      exact word_ok s hs w he hf (beq_no h) _ _ hq (idxK_le s) HI ho
    · rw [if_neg ho]
      refine (word_no s hs w he (beq_no h) _ _ hq (idxK_le s) HI (by simpa using ho)).mono ?_
      rintro e w' ⟨rfl, hb⟩
      exact ⟨_, rfl, ⟨none, 0, rfl, Nat.le_refl _, Or.inl rfl⟩, hb⟩
end Go.Proofs.YthoacfmfpbngkaaGreatDoor
namespace Go.Proofs.YthoacfmfpbngkaaGreatDoor
open Go.RowKit
set_option maxRecDepth 100000

/-- Texts lie in a row in memory. -/
def Pieces (w : World) (v : Value) (ps : List ByteArray) : Prop := ∃ N, v = .slice (some ⟨N, 0, none⟩) ps.length ps.length ∧ N < w.heap.size ∧ ∀ i (h : i < ps.length), w.cell? ⟨N, i, none⟩ = some (.string ps[i])
theorem Pieces.below {w w' : World} {v : Value} {ps : List ByteArray} (h : Pieces w v ps) (hb : Below w.heap.size w w') : Pieces w' v ps := by
  obtain ⟨N, hv, hN, hc⟩ := h
  exact ⟨N, hv, Nat.lt_of_lt_of_le hN hb.size, fun i hi => (hb.cell (p := ⟨N, i, none⟩) hN).trans (hc i hi)⟩

/-- What stands between separators. -/
def piecesB (s sep : ByteArray) : List ByteArray := Lib.splitB sep 0 (Lib.countB s sep) s
theorem pieces_len (s sep : ByteArray) (h1 : 1 ≤ sep.size) : (piecesB s sep).length = Lib.countB s sep + 1 := Lib.splitB_all sep h1 0 _ s rfl
theorem pieces_size (sep : ByteArray) : ∀ (k : Nat) (s : ByteArray), ∀ p ∈ Lib.splitB sep 0 k s, p.size ≤ s.size
  | 0, s, p, hp => by rw [Lib.splitB_zero] at hp; simp at hp; subst hp; exact Nat.le_refl _
  | k + 1, s, p, hp => by
    unfold Lib.splitB at hp
    split at hp
    · simp at hp; subst hp; exact Nat.le_refl _
    · rcases List.mem_cons.1 hp with rfl | hp
      · rw [ByteArray.size_extract]; omega
      · have := pieces_size sep k _ p hp
        rw [ByteArray.size_extract] at this
        omega

theorem Split_on {W : World} (he : Env W) (s sep : ByteArray) (hs : s.size < 4294967281) (h1 : 1 ≤ sep.size) (w1 : World) (hb : Below W.heap.size W w1) :
    Calls Tryz.prog 81 #[.string s, .string sep] w1 fun e w' => ∃ v, e = .returned v ∧ Pieces w' v (piecesB s sep) ∧ Below w1.heap.size w1 w' := by
  obtain ⟨m, hm⟩ := (he.below hb).max
  have hl := pieces_len s sep h1
  refine (Tryz.strings_Split s sep m w1 hs hm h1).mono ?_
  rintro e w' ⟨rfl, rfl⟩
  refine ⟨_, rfl, ⟨w1.heap.size, by rw [hl], by simp, fun i hi => ?_⟩, boxB _ _⟩
  have : (Lib.splitB sep 0 (Lib.countB s sep) s) = piecesB s sep := rfl
  rw [this]
  simp [hi]

/-- What words have in common, from a range on; whether there was one. -/
def wordsF : Rg → Bool → List ByteArray → Option (Rg × Bool)
  | R, f, [] => some (R, f)
  | R, f, p :: ps => if p.size = 0 then wordsF R f ps else match wordR p with
    | none => none
    | some X => wordsF (meetR R X) true ps
def wordsB (ps : List ByteArray) : Bool := match wordsF allR false ps with
  | some (_, f) => f
  | none => false
def wordsL (ps : List ByteArray) : Rg := match wordsF allR false ps with
  | some (R, _) => R
  | none => []
theorem wordsF_rg : ∀ {ps : List ByteArray} {R R' : Rg} {f f' : Bool}, RangeR R → wordsF R f ps = some (R', f') → RangeR R'
  | [], _, _, _, _, h, e => by simp only [wordsF, Option.some.injEq, Prod.mk.injEq] at e; rw [← e.1]; exact h
  | p :: ps, R, _, f, _, h, e => by
    unfold wordsF at e
    split at e
    · exact wordsF_rg h e
    · split at e
      · cases e
      · rename_i X hX
        exact wordsF_rg (h.meet (word_rg hX)) e
theorem wordsL_rg (ps : List ByteArray) : RangeR (wordsL ps) := by
  unfold wordsL
  split
  · rename_i h; exact wordsF_rg allR_ok h
  · trivial

theorem empty_size {p : ByteArray} : p.toList.isEmpty = decide (p.size = 0) := by
  rw [ByteArray.toList_eq]
  have := list_size p
  cases h : p.data.toList with
  | nil => rw [h, List.length_nil] at this; exact (decide_eq_true this.symm).symm
  | cons _ _ => rw [h, List.length_cons] at this; exact (decide_eq_false (by omega)).symm

set_option maxHeartbeats 3200000 in
theorem words_walk (s : ByteArray) (ps : List ByteArray) (hlen : ps.length ≤ 1000000000) (w : World) (hf : FL w)
    (HSP : Hid (∀ w1, Below w.heap.size w w1 → Calls Tryz.prog 81 #[.string s, .string ⟨#[32]⟩] w1 fun e w' => ∃ v, e = .returned v ∧ Pieces w' v ps ∧ Below w1.heap.size w1 w'))
    (HW : Hid (∀ p ∈ ps, p.size ≠ 0 → ∀ w1, Below w.heap.size w w1 → Calls Tryz.prog 102 #[.string p] w1 fun e w' => ∃ v, e = .returned (.tuple #[v, .bool (wordR p).isSome]) ∧ SpansR w' v ((wordR p).getD []) ∧ Below w1.heap.size w1 w')) :
    Calls Tryz.prog 82 #[.string s] w fun e w' => ∃ v, e = .returned (.tuple #[v, .bool (wordsB ps)]) ∧ SpansR w' v (wordsL ps) ∧ Below w.heap.size w w' := by
  have HAll := hide3 (All_rg hf)
  have HM : Hid (∀ w1 v1 v2 (R X : Rg), RangeR R → RangeR X → SpansR w1 v1 R → SpansR w1 v2 X → Calls Tryz.prog 103 #[v1, v2] w1 fun e w' => ∃ v, e = .returned v ∧ OwnS w' w1.heap.size v ((meetR R X).map spR) ∧ Below w1.heap.size w1 w') := fun w1 v1 v2 R X h1 h2 h3 h4 => meet_rg h1 h2 h3 h4
  clear hf
  go_enter Tryz.func82, Tryz.ntmps82
  go_wp2_with (first
    | (go_at_call 101; refine HAll.out.mono ?_; rintro e w1 ⟨v1, rfl, ok1⟩; have HO1 := hide3 ok1; clear ok1 HAll)
    | (go_at_call 81; refine (HSP.out _ HO1.out.2).mono ?_; rintro e w2 ⟨v2, rfl, ⟨N, rfl, hN, hc⟩, hb2⟩; have HO2 : Hid (SpansR w2 v1 allR ∧ Below w.heap.size w w2) := ⟨HO1.out.1.below hb2, below_then HO1.out.2 hb2⟩; have HC : Hid (∀ w1, Below w2.heap.size w2 w1 → ∀ i (h : i < ps.length), w1.cell? ⟨N, i, none⟩ = some (.string ps[i])) := (fun w1 hb i hi => (hb.cell (p := ⟨N, i, none⟩) hN).trans (hc i hi)); clear hc hb2 HO1))
  go_loopw [4, 5, 14] (fun out fo i wr => ∃ (k : Nat) (R : Rg) (f : Bool), k ≤ ps.length ∧ i = .int .i64 k ∧ fo = .bool f ∧ RangeR R ∧ SpansR wr out R ∧ Below w2.heap.size w2 wr ∧ wordsF allR false ps = wordsF R f (ps.drop k)) (fun _ _ i _ => ps.length - (intOf i).toNat)
  case atStart => exact ⟨0, allR, false, Nat.zero_le _, rfl, rfl, allR_ok, HO2.out.1, Below.refl _ _, rfl⟩
  case round =>
    obtain ⟨k, R, f, hk, rfl, rfl, hR, hS, hb, heq⟩ := hrel
    have HR := hide3 hR
    have HS := hide3 hS
    have HB := hide3 hb
    have HEQ := hide3 heq
    clear hR hS heq
    by_cases hlt : k < ps.length
    · have hcell := HC.out wr hb k hlt
      have HD : Hid (ps.drop k = ps[k] :: ps.drop (k + 1)) := List.drop_eq_getElem_cons hlt
      have HWp := hide3 (HW.out _ (List.getElem_mem hlt))
      generalize ps[k] = p at *
      clear hb
      by_cases hp : p.size = 0
      · have hem : p.toList.isEmpty = true := by rw [empty_size]; simpa using hp
        have HEQ1 : Hid (wordsF allR false ps = wordsF R f (ps.drop (k + 1))) := by unfold Hid; rw [HEQ.out, HD.out, wordsF, if_pos hp]
        clear hp
        go_wp2
        exact ⟨⟨k + 1, R, f, by omega, by go_num, rfl, HR.out, HS.out, HB.out, HEQ1.out⟩, by simp [intOf]; omega⟩
      · have hem : p.toList.isEmpty = false := by rw [empty_size]; simpa using hp
        have HWq := hide3 (HWp.out hp wr (below_then HO2.out.2 HB.out))
        clear HWp
        cases hw : wordR p with
        | none =>
          have HEQ1 : Hid (wordsB ps = false ∧ wordsL ps = []) := by unfold Hid wordsB wordsL; rw [HEQ.out, HD.out, wordsF, if_neg hp, hw]; exact ⟨rfl, rfl⟩
          rw [hw] at HWq
          simp only [Option.isSome_none, Option.getD_none] at HWq
          clear hp hw
          go_wp2_with (go_at_call 102; refine HWq.out.mono ?_; rintro e w3 ⟨v3, rfl, ok3⟩; have HO3 := hide3 ok3; clear ok3)
          go_ret2
          exact ⟨_, by rw [HEQ1.out.1]; rfl, by rw [HEQ1.out.2]; exact ⟨none, 0, rfl, Nat.le_refl _, Or.inl rfl⟩, below_then (below_then HO2.out.2 HB.out) HO3.out.2⟩
        | some X =>
          have HX := hide3 (word_rg hw)
          have HEQ1 : Hid (wordsF allR false ps = wordsF (meetR R X) true (ps.drop (k + 1))) := by unfold Hid; rw [HEQ.out, HD.out, wordsF, if_neg hp, hw]
          rw [hw] at HWq
          simp only [Option.isSome_some, Option.getD_some] at HWq
          clear hp hw
          go_wp2_with (first
            | (go_at_call 102; refine HWq.out.mono ?_; rintro e w3 ⟨v3, rfl, ok3⟩; have HO3 := hide3 ok3; clear ok3)
            | (go_at_call 103; refine (HM.out _ _ _ R X HR.out HX.out (HS.out.below HO3.out.2) HO3.out.1).mono ?_; rintro e w4 ⟨v4, rfl, ok4⟩; have HO4 := hide3 ok4; clear ok4))
          exact ⟨⟨k + 1, meetR R X, true, by omega, by go_num, rfl, HR.out.meet HX.out, HO4.out.1.spans, below_then (below_then HB.out HO3.out.2) HO4.out.2, HEQ1.out⟩, by simp [intOf]; omega⟩
    · have hke : k = ps.length := by omega
      subst hke
      have HEQ1 : Hid (wordsB ps = f ∧ wordsL ps = R) := by unfold Hid wordsB wordsL; rw [HEQ.out, List.drop_length]; exact ⟨rfl, rfl⟩
      clear hb
      go_wp2
      go_ret2
      exact ⟨_, by rw [HEQ1.out.1]; rfl, by rw [HEQ1.out.2]; exact HS.out, below_then HO2.out.2 HB.out⟩
end Go.Proofs.YthoacfmfpbngkaaGreatDoor
namespace Go.Proofs.YthoacfmfpbngkaaGreatDoor
open Go.RowKit
set_option maxRecDepth 100000

/-- What alternatives have, from a range on. -/
def altF : Rg → List ByteArray → Option Rg
  | R, [] => some R
  | R, a :: l => if wordsB (piecesB a ⟨#[32]⟩) = true then altF (joinR R (wordsL (piecesB a ⟨#[32]⟩))) l else none
/-- What a text of at most 4096 bytes says. -/
def altR (s : ByteArray) : Option Rg := altF [] (piecesB s ⟨#[124, 124]⟩)
theorem altF_rg : ∀ {l : List ByteArray} {R R' : Rg}, RangeR R → altF R l = some R' → RangeR R'
  | [], _, _, h, e => by simp only [altF, Option.some.injEq] at e; rw [← e]; exact h
  | a :: l, R, _, h, e => by
    unfold altF at e
    split at e
    · exact altF_rg (h.join (wordsL_rg _)) e
    · cases e
theorem altR_rg {s : ByteArray} {R : Rg} (h : altR s = some R) : RangeR R := altF_rg (R := []) trivial h

/-- What Parse makes of what a text says. -/
def parL : Option Rg → Rg
  | none => []
  | some R => fitR R
def parE : Option Rg → Int
  | none => 21
  | some R => fullE R.length

set_option maxHeartbeats 3200000 in
theorem sParse_walk (s : ByteArray) (ps : List ByteArray) (hlen : ps.length ≤ 1000000000) (hs : ¬ (4096 : Int) < (s.size : Int)) (w : World) (hf : FL w)
    (HSP : Hid (Calls Tryz.prog 81 #[.string s, .string ⟨#[124, 124]⟩] w fun e w' => ∃ v, e = .returned v ∧ Pieces w' v ps ∧ Below w.heap.size w w'))
    (HW : Hid (∀ a ∈ ps, ∀ w1, Below w.heap.size w w1 → Calls Tryz.prog 82 #[.string a] w1 fun e w' => ∃ v, e = .returned (.tuple #[v, .bool (wordsB (piecesB a ⟨#[32]⟩))]) ∧ SpansR w' v (wordsL (piecesB a ⟨#[32]⟩)) ∧ Below w1.heap.size w1 w')) :
    Calls Tryz.prog 62 #[.string s] w fun e w' => ∃ v, e = .returned (.tuple #[v, .int .i64 (parE (altF [] ps))]) ∧ OwnS w' w.heap.size v ((parL (altF [] ps)).map spR) ∧ Below w.heap.size w w' := by
  have HF := hide3 hf
  have HJ : Hid (∀ w1 v1 v2 (R X : Rg), Below w.heap.size w w1 → RangeR R → RangeR X → SpansR w1 v1 R → SpansR w1 v2 X → Calls Tryz.prog 83 #[v1, v2] w1 fun e w' => ∃ v, e = .returned v ∧ OwnS w' w1.heap.size v ((joinR R X).map spR) ∧ Below w1.heap.size w1 w') := fun w1 v1 v2 R X hb h1 h2 h3 h4 => join_rg h1 h2 (hf.below hb) h3 h4
  have HN : Hid (∀ w1 v1 (R : Rg), OwnS w1 w.heap.size v1 (R.map spR) → Calls Tryz.prog 84 #[v1] w1 fun e w' => ∃ v', e = .returned (.tuple #[v', .int .i64 (fullE R.length)]) ∧ OwnS w' w.heap.size v' ((fitR R).map spR) ∧ Below w1.heap.size w1 w') := fun w1 v1 R h => notFull_own h
  clear hf
  go_enter Tryz.func62, Tryz.ntmps62
  go_wp2_with (go_at_call 81; refine HSP.out.mono ?_; rintro e w2 ⟨v2, rfl, ⟨N, rfl, hN, hc⟩, hb2⟩; have HO2 := hide3 hb2; have HC : Hid (∀ w1, Below w2.heap.size w2 w1 → ∀ i (h : i < ps.length), w1.cell? ⟨N, i, none⟩ = some (.string ps[i])) := (fun w1 hb i hi => (hb.cell (p := ⟨N, i, none⟩) hN).trans (hc i hi)); clear hc hb2)
  go_loopw [4, 15] (fun out i wr => ∃ (k : Nat) (R : Rg), k ≤ ps.length ∧ i = .int .i64 k ∧ RangeR R ∧ OwnS wr w.heap.size out (R.map spR) ∧ Below w2.heap.size w2 wr ∧ altF [] ps = altF R (ps.drop k)) (fun _ i _ => ps.length - (intOf i).toNat)
  case atStart => exact ⟨0, [], Nat.zero_le _, rfl, trivial, OwnS.nil _ _, Below.refl _ _, rfl⟩
  case round =>
    obtain ⟨k, R, hk, rfl, hR, hS, hb, heq⟩ := hrel
    have HR := hide3 hR
    have HS := hide3 hS
    have HB := hide3 hb
    have HEQ := hide3 heq
    clear hR hS heq
    by_cases hlt : k < ps.length
    · have hcell := HC.out wr hb k hlt
      have HD : Hid (ps.drop k = ps[k] :: ps.drop (k + 1)) := List.drop_eq_getElem_cons hlt
      have HWq := hide3 (HW.out _ (List.getElem_mem hlt) wr (below_then HO2.out HB.out))
      generalize ps[k] = a at *
      clear hb
      cases hw : wordsB (piecesB a ⟨#[32]⟩)
      · have HEQ1 : Hid (altF [] ps = none) := by unfold Hid; rw [HEQ.out, HD.out, altF, hw]; rfl
        rw [hw] at HWq
        go_wp2_with (go_at_call 82; refine HWq.out.mono ?_; rintro e w3 ⟨v3, rfl, ok3⟩; have HO3 := hide3 ok3; clear ok3)
        go_ret2
        exact ⟨_, by rw [HEQ1.out]; rfl, by rw [HEQ1.out]; exact OwnS.nil _ _, below_then (below_then HO2.out HB.out) HO3.out.2⟩
      · have HEQ1 : Hid (altF [] ps = altF (joinR R (wordsL (piecesB a ⟨#[32]⟩))) (ps.drop (k + 1))) := by unfold Hid; rw [HEQ.out, HD.out, altF, hw]; rfl
        have HX := hide3 (wordsL_rg (piecesB a ⟨#[32]⟩))
        rw [hw] at HWq
        clear hw
        generalize wordsL (piecesB a ⟨#[32]⟩) = X at *
        go_wp2_with (first
          | (go_at_call 82; refine HWq.out.mono ?_; rintro e w3 ⟨v3, rfl, ok3⟩; have HO3 := hide3 ok3; clear ok3)
          | (go_at_call 83; refine (HJ.out _ _ _ R X (below_then (below_then HO2.out HB.out) HO3.out.2) HR.out HX.out (HS.out.spans.below HO3.out.2) HO3.out.1).mono ?_; rintro e w4 ⟨v4, rfl, ok4⟩; have HO4 := hide3 ok4; clear ok4))
        exact ⟨⟨k + 1, joinR R X, by omega, by go_num, HR.out.join HX.out, HO4.out.1.base (below_then (below_then HO2.out HB.out) HO3.out.2).size, below_then (below_then HB.out HO3.out.2) HO4.out.2, HEQ1.out⟩, by simp [intOf]; omega⟩
    · have hke : k = ps.length := by omega
      subst hke
      have HEQ1 : Hid (altF [] ps = some R) := by unfold Hid; rw [HEQ.out, List.drop_length]; rfl
      clear hb
      go_wp2_with (go_at_call 84; refine (HN.out _ _ R HS.out).mono ?_; rintro e w3 ⟨v3, rfl, ok3⟩; have HO3 := hide3 ok3; clear ok3)
      go_ret2
      exact ⟨v3, by rw [HEQ1.out]; rfl, by rw [HEQ1.out]; exact HO3.out.1, below_then (below_then HO2.out HB.out) HO3.out.2⟩

theorem sParse_long (s : ByteArray) (hs : (4096 : Int) < (s.size : Int)) (w : World) :
    Calls Tryz.prog 62 #[.string s] w fun e w' => e = .returned (.tuple #[.slice none 0 0, .int .i64 21]) ∧ Below w.heap.size w w' := by
  go_enter Tryz.func62, Tryz.ntmps62
  go_wp2
  go_ret2
  exact ⟨rfl, Below.refl _ _⟩

/-- Every word of a text is plain enough. -/
def PlainT (s : ByteArray) : Prop := ∀ a ∈ piecesB s ⟨#[124, 124]⟩, ∀ p ∈ piecesB a ⟨#[32]⟩, p.size ≠ 0 → Plain8 p

theorem sWords_any (s : ByteArray) (hs : s.size ≤ 4096) (hp : ∀ p ∈ piecesB s ⟨#[32]⟩, p.size ≠ 0 → Plain8 p) (w : World) (he : Env w) (hf : FL w) :
    Calls Tryz.prog 82 #[.string s] w fun e w' => ∃ v, e = .returned (.tuple #[v, .bool (wordsB (piecesB s ⟨#[32]⟩))]) ∧ SpansR w' v (wordsL (piecesB s ⟨#[32]⟩)) ∧ Below w.heap.size w w' := by
  have hl := pieces_len s ⟨#[32]⟩ (by decide)
  have hc := Lib.countB_le ⟨#[32]⟩ (by decide) s.size s (Nat.le_refl _)
  refine words_walk s _ (by omega) w hf (fun w1 hb => Split_on he s ⟨#[32]⟩ (by omega) (by decide) w1 hb) ?_
  intro p hm h0 w1 hb
  have := pieces_size _ _ _ p hm
  exact word_any p (by omega) (hp p hm h0) w1 (he.below hb) (hf.below hb)

theorem sParse_any (s : ByteArray) (hs : s.size ≤ 4096) (hp : PlainT s) (w : World) (he : Env w) (hf : FL w) :
    Calls Tryz.prog 62 #[.string s] w fun e w' => ∃ v, e = .returned (.tuple #[v, .int .i64 (parE (altR s))]) ∧ OwnS w' w.heap.size v ((parL (altR s)).map spR) ∧ Below w.heap.size w w' := by
  have hl := pieces_len s ⟨#[124, 124]⟩ (by decide)
  have hc := Lib.countB_le ⟨#[124, 124]⟩ (by decide) s.size s (Nat.le_refl _)
  refine sParse_walk s _ (by omega) (by omega) w hf (Split_on he s ⟨#[124, 124]⟩ (by omega) (by decide) w (Below.refl _ _)) ?_
  intro a hm w1 hb
  have := pieces_size _ _ _ a hm
  exact sWords_any a (by omega) (hp a hm) w1 (he.below hb) (hf.below hb)
end Go.Proofs.YthoacfmfpbngkaaGreatDoor
namespace Go.Proofs.YthoacfmfpbngkaaGreatDoor
open Go.RowKit
set_option maxRecDepth 100000

/-- A span's text. -/
def spanT (a b c x y z : Int) : ByteArray :=
  if a = x ∧ b = y ∧ c = z then textV a b c else if (a = 0 ∧ b = 0 ∧ c = 0) ∧ (x = 999 ∧ y = 999 ∧ z = 999) then ⟨#[42]⟩ else if a = 0 ∧ b = 0 ∧ c = 0 then ⟨#[60, 61]⟩ ++ textV x y z else
  if x = 999 ∧ y = 999 ∧ z = 999 then ⟨#[62, 61]⟩ ++ textV a b c else ((⟨#[62, 61]⟩ ++ textV a b c) ++ ⟨#[32, 60, 61]⟩) ++ textV x y z

theorem text_size (a b c : Int) : (textV a b c).size ≤ 11 := by
  unfold textV
  split
  · rename_i h
    obtain ⟨a0, a1, b0, b1, c0, c1⟩ := may_all h
    have za := itoa_three a0 a1
    have zb := itoa_three b0 b1
    have zc := itoa_three c0 c1
    have zd : (⟨#[46]⟩ : ByteArray).size = 1 := rfl
    rw [size_cat, size_cat, size_cat, size_cat]; omega
  · decide

set_option maxHeartbeats 3200000 in
theorem printSpan_any (a b c x y z : Int) (w : World) (he : Env w) (hf : FL w) :
    Calls Tryz.prog 89 #[.agg #[.int .i64 a, .int .i64 b, .int .i64 c, .int .i64 x, .int .i64 y, .int .i64 z]] w fun e w' => e = .returned (.string (spanT a b c x y z)) ∧ Below w.heap.size w w' := by
  have hg := guardV
  have HPL : Hid (∀ w1, Below w.heap.size w w1 → Calls Tryz.prog 42 #[.agg #[.int .i64 a, .int .i64 b, .int .i64 c]] w1 fun e w' => e = .returned (.string (textV a b c)) ∧ Below w1.heap.size w1 w') := fun w1 hb => print_on he.tab a b c w1 hb
  have HPH : Hid (∀ w1, Below w.heap.size w w1 → Calls Tryz.prog 42 #[.agg #[.int .i64 x, .int .i64 y, .int .i64 z]] w1 fun e w' => e = .returned (.string (textV x y z)) ∧ Below w1.heap.size w1 w') := fun w1 hb => print_on he.tab x y z w1 hb
  have HO : Hid (Below w.heap.size w (w.alloc (.cells #[.int .i64 a, .int .i64 b, .int .i64 c, .int .i64 x, .int .i64 y, .int .i64 z] 90)) ∧ Bx6 (w.alloc (.cells #[.int .i64 a, .int .i64 b, .int .i64 c, .int .i64 x, .int .i64 y, .int .i64 z] 90)) w.heap.size a b c x y z) := ⟨boxB _ _, Bx6.new rfl _ _ _ _ _ _⟩
  have HK : Hid (KeepP fun w1 => Below w.heap.size w w1 ∧ Bx6 w1 w.heap.size a b c x y z) := (keepBelow w).and (keep6 _ _ _ _ _ _ _)
  obtain ⟨⟨g0, g1, g2⟩, ⟨l0, l1, l2⟩, _, _⟩ := hf.below (boxB w (.cells #[.int .i64 a, .int .i64 b, .int .i64 c, .int .i64 x, .int .i64 y, .int .i64 z] 90))
  have e1 := eqlV a b c x y z
  have e2 := eqlV a b c 0 0 0
  have e3 := eqlV x y z 999 999 999
  clear hf he
  by_cases h1 : a = x ∧ b = y ∧ c = z
  · have HT : Hid (spanT a b c x y z = textV a b c) := by unfold Hid spanT; rw [if_pos h1]
    rw [decide_eq_true h1] at e1
    clear h1 e2 e3
    go_enter Tryz.func89, Tryz.ntmps89
    go_wp2_with (go_at_call 42; refine (HPL.out _ HO.out.1).mono ?_; rintro e w1 ⟨rfl, ok1⟩; have HO1 := hide3 ok1; clear ok1)
    go_ret
    exact ⟨by rw [HT.out]; rfl, below_then HO.out.1 HO1.out⟩
  rw [decide_eq_false h1] at e1
  by_cases h2 : a = 0 ∧ b = 0 ∧ c = 0
  · rw [decide_eq_true h2] at e2
    by_cases h3 : x = 999 ∧ y = 999 ∧ z = 999
    · rw [decide_eq_true h3] at e3
      have HT : Hid (spanT a b c x y z = ⟨#[42]⟩) := by unfold Hid spanT; rw [if_neg h1, if_pos ⟨h2, h3⟩]
      clear h1 h2 h3
      go_enter Tryz.func89, Tryz.ntmps89
      go_wp2_with fail
      go_ret
      exact ⟨by rw [HT.out]; rfl, HO.out.1⟩
    · rw [decide_eq_false h3] at e3
      have HT : Hid (spanT a b c x y z = ⟨#[60, 61]⟩ ++ textV x y z) := by unfold Hid spanT; rw [if_neg h1, if_neg (fun h => h3 h.2), if_pos h2]
      clear h1 h2 h3
      have zT := text_size x y z
      have z2 : (⟨#[60, 61]⟩ : ByteArray).size = 2 := rfl
      generalize textV x y z = T at *
      have s1 := fun W : World => run_string_add_sum (P := Tryz.prog) (w := W) ⟨#[60, 61]⟩ T (by omega)
      clear zT z2
      go_enter Tryz.func89, Tryz.ntmps89
      go_wp2_with (go_at_call 42; refine (HPH.out _ HO.out.1).mono ?_; rintro e w1 ⟨rfl, ok1⟩; have HO1 := hide3 ok1; clear ok1)
      go_ret
      exact ⟨by rw [HT.out]; rfl, below_then HO.out.1 HO1.out⟩
  · rw [decide_eq_false h2] at e2
    by_cases h3 : x = 999 ∧ y = 999 ∧ z = 999
    · rw [decide_eq_true h3] at e3
      have HT : Hid (spanT a b c x y z = ⟨#[62, 61]⟩ ++ textV a b c) := by unfold Hid spanT; rw [if_neg h1, if_neg (fun h => h2 h.1), if_neg h2, if_pos h3]
      clear h1 h2 h3
      have zT := text_size a b c
      have z2 : (⟨#[62, 61]⟩ : ByteArray).size = 2 := rfl
      generalize textV a b c = T at *
      have s1 := fun W : World => run_string_add_sum (P := Tryz.prog) (w := W) ⟨#[62, 61]⟩ T (by omega)
      clear zT z2
      go_enter Tryz.func89, Tryz.ntmps89
      go_wp2_with (go_at_call 42; refine (HPL.out _ HO.out.1).mono ?_; rintro e w1 ⟨rfl, ok1⟩; have HO1 := hide3 ok1; clear ok1)
      go_ret
      exact ⟨by rw [HT.out]; rfl, below_then HO.out.1 HO1.out⟩
    · rw [decide_eq_false h3] at e3
      have HT : Hid (spanT a b c x y z = ((⟨#[62, 61]⟩ ++ textV a b c) ++ ⟨#[32, 60, 61]⟩) ++ textV x y z) := by unfold Hid spanT; rw [if_neg h1, if_neg (fun h => h2 h.1), if_neg h2, if_neg h3]
      have HQL : Hid (∀ w1, (Below w.heap.size w w1 ∧ Bx6 w1 w.heap.size a b c x y z) → Calls Tryz.prog 42 #[.agg #[.int .i64 a, .int .i64 b, .int .i64 c]] w1 fun e w' => e = .returned (.string (textV a b c)) ∧ Below w1.heap.size w1 w') := fun w1 h => HPL.out w1 h.1
      have HQH : Hid (∀ w1, (Below w.heap.size w w1 ∧ Bx6 w1 w.heap.size a b c x y z) → Calls Tryz.prog 42 #[.agg #[.int .i64 x, .int .i64 y, .int .i64 z]] w1 fun e w' => e = .returned (.string (textV x y z)) ∧ Below w1.heap.size w1 w') := fun w1 h => HPH.out w1 h.1
      clear h1 h2 h3
      have zT := text_size a b c
      have zU := text_size x y z
      have z2 : (⟨#[62, 61]⟩ : ByteArray).size = 2 := rfl
      have z3 : (⟨#[32, 60, 61]⟩ : ByteArray).size = 3 := rfl
      generalize textV a b c = T at *
      generalize textV x y z = U at *
      have s1 := fun W : World => run_string_add_sum (P := Tryz.prog) (w := W) ⟨#[62, 61]⟩ T (by omega)
      have s2 := fun W : World => run_string_add_sum (P := Tryz.prog) (w := W) (⟨#[62, 61]⟩ ++ T) ⟨#[32, 60, 61]⟩ (by rw [size_cat]; omega)
      have s3 := fun W : World => run_string_add_sum (P := Tryz.prog) (w := W) ((⟨#[62, 61]⟩ ++ T) ++ ⟨#[32, 60, 61]⟩) U (by rw [size_cat, size_cat]; omega)
      clear zT zU z2 z3
      go_enter Tryz.func89, Tryz.ntmps89
      go_wp2_with fail
      refine wp_region_keep HK.out (by kernel_rfl) (by kernel_rfl) (by first | exact HO.out | exact HK.out.drew HO.out) ?_
      intro C hin hout
      have HIN := hide3 hin
      have HOUT := hide3 hout
      clear hin hout HO
      repeat
        (with_reducible refine wpQuiet_step (fun K hK => ?_)
         go_simp
         first
           | (refine hK _ ?_; clear hK K)
           | (apply Exists.intro; refine ⟨fun w1 hC => ?_, hK _ ?_⟩; (focus ((first | (go_at_call 42; with_reducible exact callC' HIN.out HOUT.out HK.out HQL.out w1 hC) | (go_at_call 42; with_reducible exact callC' HIN.out HOUT.out HK.out HQH.out w1 hC) | (exact rfl) | (obtain ⟨hb1, k0, k1, k2, k3, k4, k5, k6⟩ := HOUT.out w1 hC; clear hC; go_simp; first | done | exact rfl)); done)); clear hK K))
      refine wpQuiet_nil ?_
      intro wn hC
      have HO := hide3 (HOUT.out _ hC)
      clear hC HIN HOUT C
      obtain ⟨hb1, k0, k1, k2, k3, k4, k5, k6⟩ := HO.out
      go_wp2
      go_ret
      exact ⟨by rw [HT.out]; rfl, HO.out.1⟩
end Go.Proofs.YthoacfmfpbngkaaGreatDoor
