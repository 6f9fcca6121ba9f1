/- The walk of VersRanks: of any version and any number it answers true. -/
import Derived.Test.YtiimlfocgdfbfaaDoorRow1
import Derived.Test.YtiimlfocgdfbfaaDoorBoxes
namespace Go.Proofs.YtiimlfocgdfbfaaDoor
open Go.RowKit
set_option maxRecDepth 100000

set_option maxHeartbeats 4000000 in
theorem ranks_walk (a b c n : Int) (w : World) :
    Calls Tryd.prog 4 #[.agg #[.int .i64 a, .int .i64 b, .int .i64 c], .int .i64 n] w fun e w' => e = .returned (.bool true) ∧ Below w.heap.size w w' := by
  have HA : Hid (∀ w1, Calls Tryd.prog 14 #[.agg #[.int .i64 a, .int .i64 b, .int .i64 c]] w1 fun e w' => e = .returned (.tuple #[.int .i64 (rankV a b c), .bool (mayV a b c)]) ∧ Below w1.heap.size w1 w') := fun w1 => Rank_any a b c w1
  have HB : Hid (∀ w1, Calls Tryd.prog 15 #[.agg #[.int .i64 a, .int .i64 b, .int .i64 c]] w1 fun e w' => e = .returned (.tuple #[.int .i64 (rankV a b c), .bool (mayV a b c)]) ∧ Below w1.heap.size w1 w') := fun w1 => rRank_any a b c w1
  have HC : Hid (∀ w1, Calls Tryd.prog 16 #[.int .i64 n] w1 fun e w' => e = .returned (.tuple #[.agg #[.int .i64 (atA n), .int .i64 (atB n), .int .i64 (atC n)], .bool (hasV n)]) ∧ Below w1.heap.size w1 w') := fun w1 => At_any n w1
  have HD : Hid (∀ w1, Calls Tryd.prog 17 #[.int .i64 n] w1 fun e w' => e = .returned (.tuple #[.agg #[.int .i64 (atA n), .int .i64 (atB n), .int .i64 (atC n)], .bool (hasV n)]) ∧ Below w1.heap.size w1 w') := fun w1 => rAt_any n w1
  have HE : Hid (∀ w1, Calls Tryd.prog 18 #[.agg #[.int .i64 a, .int .i64 b, .int .i64 c]] w1 fun e w' => e = .returned (.tuple #[.agg #[.int .i64 (onA a b c 1), .int .i64 (onB a b c 1), .int .i64 (onC a b c 1)], .bool (onIs a b c 1)]) ∧ Below w1.heap.size w1 w') := fun w1 => Next_any a b c w1
  have HF : Hid (∀ w1, Calls Tryd.prog 19 #[.agg #[.int .i64 a, .int .i64 b, .int .i64 c]] w1 fun e w' => e = .returned (.tuple #[.agg #[.int .i64 (onA a b c 1), .int .i64 (onB a b c 1), .int .i64 (onC a b c 1)], .bool (onIs a b c 1)]) ∧ Below w1.heap.size w1 w') := fun w1 => rNext_any a b c w1
  have HG : Hid (∀ w1, Calls Tryd.prog 20 #[.agg #[.int .i64 a, .int .i64 b, .int .i64 c]] w1 fun e w' => e = .returned (.tuple #[.agg #[.int .i64 (onA a b c (-1)), .int .i64 (onB a b c (-1)), .int .i64 (onC a b c (-1))], .bool (onIs a b c (-1))]) ∧ Below w1.heap.size w1 w') := fun w1 => Prev_any a b c w1
  have HH : Hid (∀ w1, Calls Tryd.prog 21 #[.agg #[.int .i64 a, .int .i64 b, .int .i64 c]] w1 fun e w' => e = .returned (.tuple #[.agg #[.int .i64 (onA a b c (-1)), .int .i64 (onB a b c (-1)), .int .i64 (onC a b c (-1))], .bool (onIs a b c (-1))]) ∧ Below w1.heap.size w1 w') := fun w1 => rPrev_any a b c w1
  have HK : Hid (∀ w1, Calls Tryd.prog 13 #[] w1 fun e w' => e = .returned (.bool true) ∧ Below w1.heap.size w1 w') := known_any
  generalize mayV a b c = m at *
  generalize rankV a b c = r at *
  generalize hasV n = h at *
  generalize atA n = t0 at *
  generalize atB n = t1 at *
  generalize atC n = t2 at *
  generalize onA a b c 1 = u0 at *
  generalize onB a b c 1 = u1 at *
  generalize onC a b c 1 = u2 at *
  generalize onIs a b c 1 = u at *
  generalize onA a b c (-1) = d0 at *
  generalize onB a b c (-1) = d1 at *
  generalize onC a b c (-1) = d2 at *
  generalize onIs a b c (-1) = d at *
  have et := eqlV t0 t1 t2 t0 t1 t2
  have eu := eqlV u0 u1 u2 u0 u1 u2
  have ed := eqlV d0 d1 d2 d0 d1 d2
  simp only [and_self, decide_true] at et eu ed
  have hg := guardV
  have HO : Hid (OKs w [⟨w.heap.size, .int .i64 a, .int .i64 b, .int .i64 c⟩] (w.alloc (.cells #[.int .i64 a, .int .i64 b, .int .i64 c] 23))) := (OKs.nil w).box rfl _ _ _
  go_enter Tryd.func4, Tryd.ntmps4
  go_wp2_with (first
    | (go_at_call 14; refine (lift HA.out (w := w) (bs := [⟨w.heap.size, .int .i64 a, .int .i64 b, .int .i64 c⟩]) _ ?_).mono ?_; exact HO.out; clear HO; rintro e w1 ⟨rfl, ok⟩; have HO : Hid (OKs w [⟨w.heap.size, .int .i64 a, .int .i64 b, .int .i64 c⟩] w1) := ok; clear ok; obtain ⟨x0, y0, z0, s0⟩ := HO.out.one)
    | (go_at_call 15; refine (lift HB.out (w := w) (bs := [⟨w.heap.size, .int .i64 a, .int .i64 b, .int .i64 c⟩]) _ ?_).mono ?_; exact HO.out; clear HO; rintro e w2 ⟨rfl, ok⟩; have HO : Hid (OKs w [⟨w.heap.size, .int .i64 a, .int .i64 b, .int .i64 c⟩] w2) := ok; clear ok; obtain ⟨x0, y0, z0, s0⟩ := HO.out.one)
    | (go_at_call 16; refine (lift HC.out (w := w) (bs := [⟨w.heap.size, .int .i64 a, .int .i64 b, .int .i64 c⟩]) _ ?_).mono ?_; exact HO.out; clear HO; rintro e w3 ⟨rfl, ok⟩; have HO : Hid (OKs w [⟨w.heap.size, .int .i64 a, .int .i64 b, .int .i64 c⟩] w3) := ok; clear ok; obtain ⟨x0, y0, z0, s0⟩ := HO.out.one)
    | (go_at_call 17; refine (lift HD.out (w := w) (bs := [⟨w3.heap.size, .int .i64 t0, .int .i64 t1, .int .i64 t2⟩, ⟨w.heap.size, .int .i64 a, .int .i64 b, .int .i64 c⟩]) _ ?_).mono ?_; exact (HO.out.box rfl _ _ _); clear HO; rintro e w4 ⟨rfl, ok⟩; have HO : Hid (OKs w [⟨w3.heap.size, .int .i64 t0, .int .i64 t1, .int .i64 t2⟩, ⟨w.heap.size, .int .i64 a, .int .i64 b, .int .i64 c⟩] w4) := ok; clear ok; obtain ⟨x0, y0, z0, s0⟩ := HO.out.one; obtain ⟨x1, y1, z1, s1⟩ := HO.out.two)
    | (go_at_call 18; refine (lift HE.out (w := w) (bs := [⟨w4.heap.size, .int .i64 t0, .int .i64 t1, .int .i64 t2⟩, ⟨w3.heap.size, .int .i64 t0, .int .i64 t1, .int .i64 t2⟩, ⟨w.heap.size, .int .i64 a, .int .i64 b, .int .i64 c⟩]) _ ?_).mono ?_; exact (HO.out.box rfl _ _ _); clear HO; rintro e w5 ⟨rfl, ok⟩; have HO : Hid (OKs w [⟨w4.heap.size, .int .i64 t0, .int .i64 t1, .int .i64 t2⟩, ⟨w3.heap.size, .int .i64 t0, .int .i64 t1, .int .i64 t2⟩, ⟨w.heap.size, .int .i64 a, .int .i64 b, .int .i64 c⟩] w5) := ok; clear ok; obtain ⟨x0, y0, z0, s0⟩ := HO.out.one; obtain ⟨x1, y1, z1, s1⟩ := HO.out.two; obtain ⟨x2, y2, z2, s2⟩ := HO.out.three)
    | (go_at_call 19; refine (lift HF.out (w := w) (bs := [⟨w5.heap.size, .int .i64 u0, .int .i64 u1, .int .i64 u2⟩, ⟨w4.heap.size, .int .i64 t0, .int .i64 t1, .int .i64 t2⟩, ⟨w3.heap.size, .int .i64 t0, .int .i64 t1, .int .i64 t2⟩, ⟨w.heap.size, .int .i64 a, .int .i64 b, .int .i64 c⟩]) _ ?_).mono ?_; exact (HO.out.box rfl _ _ _); clear HO; rintro e w6 ⟨rfl, ok⟩; have HO : Hid (OKs w [⟨w5.heap.size, .int .i64 u0, .int .i64 u1, .int .i64 u2⟩, ⟨w4.heap.size, .int .i64 t0, .int .i64 t1, .int .i64 t2⟩, ⟨w3.heap.size, .int .i64 t0, .int .i64 t1, .int .i64 t2⟩, ⟨w.heap.size, .int .i64 a, .int .i64 b, .int .i64 c⟩] w6) := ok; clear ok; obtain ⟨x0, y0, z0, s0⟩ := HO.out.one; obtain ⟨x1, y1, z1, s1⟩ := HO.out.two; obtain ⟨x2, y2, z2, s2⟩ := HO.out.three; obtain ⟨x3, y3, z3, s3⟩ := HO.out.four)
    | (go_at_call 20; refine (lift HG.out (w := w) (bs := [⟨w6.heap.size, .int .i64 u0, .int .i64 u1, .int .i64 u2⟩, ⟨w5.heap.size, .int .i64 u0, .int .i64 u1, .int .i64 u2⟩, ⟨w4.heap.size, .int .i64 t0, .int .i64 t1, .int .i64 t2⟩, ⟨w3.heap.size, .int .i64 t0, .int .i64 t1, .int .i64 t2⟩, ⟨w.heap.size, .int .i64 a, .int .i64 b, .int .i64 c⟩]) _ ?_).mono ?_; exact (HO.out.box rfl _ _ _); clear HO; rintro e w7 ⟨rfl, ok⟩; have HO : Hid (OKs w [⟨w6.heap.size, .int .i64 u0, .int .i64 u1, .int .i64 u2⟩, ⟨w5.heap.size, .int .i64 u0, .int .i64 u1, .int .i64 u2⟩, ⟨w4.heap.size, .int .i64 t0, .int .i64 t1, .int .i64 t2⟩, ⟨w3.heap.size, .int .i64 t0, .int .i64 t1, .int .i64 t2⟩, ⟨w.heap.size, .int .i64 a, .int .i64 b, .int .i64 c⟩] w7) := ok; clear ok; obtain ⟨x0, y0, z0, s0⟩ := HO.out.one; obtain ⟨x1, y1, z1, s1⟩ := HO.out.two; obtain ⟨x2, y2, z2, s2⟩ := HO.out.three; obtain ⟨x3, y3, z3, s3⟩ := HO.out.four; obtain ⟨x4, y4, z4, s4⟩ := HO.out.five)
    | (go_at_call 21; refine (lift HH.out (w := w) (bs := [⟨w7.heap.size, .int .i64 d0, .int .i64 d1, .int .i64 d2⟩, ⟨w6.heap.size, .int .i64 u0, .int .i64 u1, .int .i64 u2⟩, ⟨w5.heap.size, .int .i64 u0, .int .i64 u1, .int .i64 u2⟩, ⟨w4.heap.size, .int .i64 t0, .int .i64 t1, .int .i64 t2⟩, ⟨w3.heap.size, .int .i64 t0, .int .i64 t1, .int .i64 t2⟩, ⟨w.heap.size, .int .i64 a, .int .i64 b, .int .i64 c⟩]) _ ?_).mono ?_; exact (HO.out.box rfl _ _ _); clear HO; rintro e w8 ⟨rfl, ok⟩; have HO : Hid (OKs w [⟨w7.heap.size, .int .i64 d0, .int .i64 d1, .int .i64 d2⟩, ⟨w6.heap.size, .int .i64 u0, .int .i64 u1, .int .i64 u2⟩, ⟨w5.heap.size, .int .i64 u0, .int .i64 u1, .int .i64 u2⟩, ⟨w4.heap.size, .int .i64 t0, .int .i64 t1, .int .i64 t2⟩, ⟨w3.heap.size, .int .i64 t0, .int .i64 t1, .int .i64 t2⟩, ⟨w.heap.size, .int .i64 a, .int .i64 b, .int .i64 c⟩] w8) := ok; clear ok; obtain ⟨x0, y0, z0, s0⟩ := HO.out.one; obtain ⟨x1, y1, z1, s1⟩ := HO.out.two; obtain ⟨x2, y2, z2, s2⟩ := HO.out.three; obtain ⟨x3, y3, z3, s3⟩ := HO.out.four; obtain ⟨x4, y4, z4, s4⟩ := HO.out.five; obtain ⟨x5, y5, z5, s5⟩ := HO.out.six)
    | (go_at_call 13; refine (HK.out _).mono ?_; rintro e w9 ⟨rfl, hb9⟩))
  go_returns
  exact ⟨rfl, below_then (HO.out.box rfl _ _ _).1 hb9⟩
end Go.Proofs.YtiimlfocgdfbfaaDoor
