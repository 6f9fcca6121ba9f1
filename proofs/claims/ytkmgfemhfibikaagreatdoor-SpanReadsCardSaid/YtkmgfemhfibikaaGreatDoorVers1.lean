/- The walks of May, Compare, Rank, At, Next, Prev of package vers and of the document's answer: each answers as a plain function. No condition but that the numbers are ints. -/
import Derived.Test.YtkmgfemhfibikaaGreatDoorRows
import Derived.WalkKit
import Derived.WalkSpells
import Derived.WalkLawsBesides
namespace Go.Proofs.YtkmgfemhfibikaaGreatDoor
open Go.RowKit
set_option maxRecDepth 100000

def isI (n : Int) : Prop := -9223372036854775808 ≤ n ∧ n ≤ 9223372036854775807

def partB (n : Int) : Bool := decide (0 ≤ n) && decide (n ≤ 999)
def mayV (a b c : Int) : Bool := partB a && partB b && partB c

theorem ret_bool {a b : Bool} (h : a = b) : Ending.returned (.bool a) = .returned (.bool b) := by rw [h]
theorem ret_int {a b : Int} (h : a = b) : Ending.returned (.int .i64 a) = .returned (.int .i64 b) := by rw [h]

theorem fieldV0 (w : World) (a b c : Value) : (Instr.field 35 (.agg #[a, b, c]) 0).run Tryz.prog w = .ok a w := by kernel_rfl
theorem fieldV1 (w : World) (a b c : Value) : (Instr.field 35 (.agg #[a, b, c]) 1).run Tryz.prog w = .ok b w := by kernel_rfl
theorem fieldV2 (w : World) (a b c : Value) : (Instr.field 35 (.agg #[a, b, c]) 2).run Tryz.prog w = .ok c w := by kernel_rfl

set_option maxHeartbeats 400000 in
theorem mayPart_any (n : Int) (w : World) :
    Calls Tryz.prog 57 #[.int .i64 n] w fun e w' => e = .returned (.bool (partB n)) ∧ w' = w := by
  go_enter Tryz.func57, Tryz.ntmps57
  go_wp2
  all_goals
    go_ret
    refine ⟨ret_bool ?_, rfl⟩
    rw [Bool.eq_iff_iff]
    simp [partB]
    omega

set_option maxHeartbeats 400000 in
theorem part_any (n : Int) (w : World) :
    Calls Tryz.prog 72 #[.int .i64 n] w fun e w' => e = .returned (.bool (partB n)) ∧ w' = w := by
  go_enter Tryz.func72, Tryz.ntmps72
  go_wp2
  all_goals
    go_ret
    refine ⟨ret_bool ?_, rfl⟩
    rw [Bool.eq_iff_iff]
    simp [partB]
    omega


/-- A version that was laid as a new block stays there. -/
theorem boxV {w w' : World} {x y z : Value} (hb : Below (w.alloc (.cells #[x, y, z] 35)).heap.size (w.alloc (.cells #[x, y, z] 35)) w') :
    w'.cell? ⟨w.heap.size, 0, none⟩ = some x ∧ w'.cell? ⟨w.heap.size, 1, none⟩ = some y ∧ w'.cell? ⟨w.heap.size, 2, none⟩ = some z ∧ w.heap.size < w'.heap.size ∧ Below w.heap.size w w' := by
  have hl : w.heap.size < (w.alloc (.cells #[x, y, z] 35)).heap.size := by simp
  refine ⟨?_, ?_, ?_, Nat.lt_of_lt_of_le hl hb.size, ((Below.refl _ _).alloc (Nat.le_refl _) _).trans (hb.mono (Nat.le_of_lt hl))⟩
  · rw [hb.cell (p := ⟨w.heap.size, 0, none⟩) hl]; simp
  · rw [hb.cell (p := ⟨w.heap.size, 1, none⟩) hl]; simp
  · rw [hb.cell (p := ⟨w.heap.size, 2, none⟩) hl]; simp

theorem boxB (w : World) (o : Obj) : Below w.heap.size w (w.alloc o) := (Below.refl _ _).alloc (Nat.le_refl _) _

theorem boxB2 (w : World) (o u : Obj) : Below w.heap.size w ((w.alloc o).alloc u) := (boxB w o).alloc (by simp) u
theorem boxB3 (w : World) (o u v : Obj) : Below w.heap.size w (((w.alloc o).alloc u).alloc v) := (boxB2 w o u).alloc (by simp; omega) v
theorem below_then {w w1 w' : World} (h : Below w.heap.size w w1) (hb : Below w1.heap.size w1 w') : Below w.heap.size w w' := h.trans (hb.mono h.size)

/-- The same of a block whose number is told apart, and that it is not frozen. -/
theorem boxAt {w w' : World} {N : Nat} {x y z : Value} (hN : w.heap.size = N) (hb : Below (w.alloc (.cells #[x, y, z] 35)).heap.size (w.alloc (.cells #[x, y, z] 35)) w') :
    w'.cell? ⟨N, 0, none⟩ = some x ∧ w'.cell? ⟨N, 1, none⟩ = some y ∧ w'.cell? ⟨N, 2, none⟩ = some z ∧ w'.frozen? ⟨N, 0, none⟩ = false ∧ w'.frozen? ⟨N, 1, none⟩ = false ∧ w'.frozen? ⟨N, 2, none⟩ = false ∧ N < w'.heap.size := by
  subst hN
  have hl : w.heap.size < (w.alloc (.cells #[x, y, z] 35)).heap.size := by simp
  obtain ⟨h0, h1, h2, h3, _⟩ := boxV hb
  refine ⟨h0, h1, h2, ?_, ?_, ?_, h3⟩
  · rw [hb.frozen (p := ⟨w.heap.size, 0, none⟩) hl]; simp
  · rw [hb.frozen (p := ⟨w.heap.size, 1, none⟩) hl]; simp
  · rw [hb.frozen (p := ⟨w.heap.size, 2, none⟩) hl]; simp

/-- What lies at a block stays there behind a call that writes new blocks alone. -/
theorem keepV {w w' : World} {N : Nat} {x y z : Value} (hb : Below w.heap.size w w') (hl : N < w.heap.size) (c0 : w.cell? ⟨N, 0, none⟩ = some x) (c1 : w.cell? ⟨N, 1, none⟩ = some y) (c2 : w.cell? ⟨N, 2, none⟩ = some z) :
    w'.cell? ⟨N, 0, none⟩ = some x ∧ w'.cell? ⟨N, 1, none⟩ = some y ∧ w'.cell? ⟨N, 2, none⟩ = some z ∧ N < w'.heap.size :=
  ⟨(hb.cell (p := ⟨N, 0, none⟩) hl).trans c0, (hb.cell (p := ⟨N, 1, none⟩) hl).trans c1, (hb.cell (p := ⟨N, 2, none⟩) hl).trans c2, Nat.lt_of_lt_of_le hl hb.size⟩

set_option maxHeartbeats 400000 in
theorem May_any (a b c : Int) (w : World) :
    Calls Tryz.prog 37 #[.agg #[.int .i64 a, .int .i64 b, .int .i64 c]] w fun e w' => e = .returned (.bool (mayV a b c)) ∧ Below w.heap.size w w' := by
  have hp := mayPart_any
  cases ha : partB a <;> cases hb : partB b <;> cases hc : partB c <;>
  · go_enter Tryz.func37, Tryz.ntmps37
    go_wp2_with (go_at_call 57; refine (hp _ _).mono ?_; rintro e w' ⟨rfl, rfl⟩)
    go_ret
    exact ⟨ret_bool (by simp [mayV, ha, hb, hc]), boxB _ _⟩

set_option maxHeartbeats 400000 in
theorem rMay_any (a b c : Int) (w : World) :
    Calls Tryz.prog 54 #[.agg #[.int .i64 a, .int .i64 b, .int .i64 c]] w fun e w' => e = .returned (.bool (mayV a b c)) ∧ Below w.heap.size w w' := by
  have hp := part_any
  cases ha : partB a <;> cases hb : partB b <;> cases hc : partB c <;>
  · go_enter Tryz.func54, Tryz.ntmps54
    go_wp2_with (go_at_call 72; refine (hp _ _).mono ?_; rintro e w' ⟨rfl, rfl⟩)
    go_ret
    exact ⟨ret_bool (by simp [mayV, ha, hb, hc]), boxB _ _⟩

/-- Which of two versions is less. -/
def cmpV (a b c x y z : Int) : Int := if a = x then (if b = y then (if c = z then 0 else if c < z then -1 else 1) else if b < y then -1 else 1) else if a < x then -1 else 1

def lessV (a b c x y z : Int) : Bool := if a = x then (if b = y then decide (c < z) else decide (b < y)) else decide (a < x)

set_option maxHeartbeats 400000 in
theorem less_any (a b c x y z : Int) (w : World) :
    Calls Tryz.prog 55 #[.agg #[.int .i64 a, .int .i64 b, .int .i64 c], .agg #[.int .i64 x, .int .i64 y, .int .i64 z]] w fun e w' => e = .returned (.bool (lessV a b c x y z)) ∧ Below w.heap.size w w' := by
  go_enter Tryz.func55, Tryz.ntmps55
  go_wp2
  all_goals
    go_ret
    exact ⟨ret_bool (by unfold lessV; simp_all), ((Below.refl _ _).alloc (Nat.le_refl _) _).alloc (by simp) _⟩

theorem eqlV (a b c x y z : Int) (w : World) : (binOp .eql 35 (.agg #[.int .i64 a, .int .i64 b, .int .i64 c]) (.agg #[.int .i64 x, .int .i64 y, .int .i64 z])).run Tryz.prog w = .ok (.bool (decide (a = x ∧ b = y ∧ c = z))) w := by
  have u3 := Tryz.underlying3
  have a3 := Tryz.isAgg3
  have z3 := Tryz.sizeOf3
  have hS : Tryz.prog.underlying 35 = some (.struct (Tryz.prog.fieldsOf 35)) := by kernel_rfl
  have hp : Tryz.prog.stoodInHeld 35 = false := by kernel_rfl
  rw [run_eql_struct, show (10000 : Nat) = 9999 + 1 from rfl, run_equalIn_agg w 9999 35 _ _ hS hp]
  simp only [Program.fieldsOf, Tryz.underlying35]
  by_cases h1 : a = x <;> by_cases h2 : b = y <;> by_cases h3 : c = z <;> go_simp <;> simp_all

theorem neqV (a b c x y z : Int) (w : World) : (binOp .neq 35 (.agg #[.int .i64 a, .int .i64 b, .int .i64 c]) (.agg #[.int .i64 x, .int .i64 y, .int .i64 z])).run Tryz.prog w = .ok (.bool (!decide (a = x ∧ b = y ∧ c = z))) w := by
  have u3 := Tryz.underlying3
  have a3 := Tryz.isAgg3
  have z3 := Tryz.sizeOf3
  have hS : Tryz.prog.underlying 35 = some (.struct (Tryz.prog.fieldsOf 35)) := by kernel_rfl
  have hp : Tryz.prog.stoodInHeld 35 = false := by kernel_rfl
  rw [run_neq_struct, show (10000 : Nat) = 9999 + 1 from rfl, run_equalIn_agg w 9999 35 _ _ hS hp]
  simp only [Program.fieldsOf, Tryz.underlying35]
  by_cases h1 : a = x <;> by_cases h2 : b = y <;> by_cases h3 : c = z <;> go_simp <;> simp_all

theorem guardV (op : BinOp) (x y : Operand) (xs ys : Array Value) (w : World) : (eqGuard op 35 x y (.agg xs) (.agg ys)).run Tryz.prog w = .ok () w := run_eqGuard_agg w op 35 x y xs ys (by kernel_rfl)

set_option maxHeartbeats 800000 in
theorem Compare_any (a b c x y z : Int) (w : World) :
    Calls Tryz.prog 34 #[.agg #[.int .i64 a, .int .i64 b, .int .i64 c], .agg #[.int .i64 x, .int .i64 y, .int .i64 z]] w fun e w' => e = .returned (.int .i64 (cmpV a b c x y z)) ∧ Below w.heap.size w w' := by
  have he := eqlV a b c x y z
  have hg := guardV
  have hl := less_any a b c x y z
  by_cases h : a = x ∧ b = y ∧ c = z
  · have HC : Hid (cmpV a b c x y z = 0) := by unfold Hid cmpV; obtain ⟨h1, h2, h3⟩ := h; rw [if_pos h1, if_pos h2, if_pos h3]
    rw [decide_eq_true h] at he
    clear h
    go_enter Tryz.func34, Tryz.ntmps34
    go_wp2
    go_ret
    exact ⟨ret_int HC.out.symm, boxB2 _ _ _⟩
  · rw [decide_eq_false h] at he
    cases hc : lessV a b c x y z
    · have HC : Hid (cmpV a b c x y z = 1) := by unfold Hid cmpV; unfold lessV at hc; grind
      rw [hc] at hl
      clear h hc
      go_enter Tryz.func34, Tryz.ntmps34
      go_wp2_with (go_at_call 55; refine (hl _).mono ?_; rintro e w' ⟨rfl, hb⟩)
      go_ret
      exact ⟨ret_int HC.out.symm, below_then (boxB2 _ _ _) hb⟩
    · have HC : Hid (cmpV a b c x y z = -1) := by unfold Hid cmpV; unfold lessV at hc; grind
      rw [hc] at hl
      clear h hc
      go_enter Tryz.func34, Tryz.ntmps34
      go_wp2_with (go_at_call 55; refine (hl _).mono ?_; rintro e w' ⟨rfl, hb⟩)
      go_ret
      exact ⟨ret_int HC.out.symm, below_then (boxB2 _ _ _) hb⟩

end Go.Proofs.YtkmgfemhfibikaaGreatDoor
