/- Vers1, Vers2, Vers3, Vers4, Vers5, Vers6, Facts1, Boxes, Sp1, laid in one text. -/
import Derived.Test.YtjpmlagofcgheaaGreatDoorRows
import Derived.WalkKit
import Derived.WalkSpells
import Derived.WalkLawsBesides
import Derived.Handy
import Derived.Deep.QuietTactic
import Derived.BigQuiet
import Derived.Test.YtjpmlagofcgheaaGreatDoorShelfA
import Derived.Deep.RegionHeld3
namespace Go.Proofs.YtjpmlagofcgheaaGreatDoor
open Go.RowKit
set_option maxRecDepth 100000

def isI (n : Int) : Prop := -9223372036854775808 ≤ n ∧ n ≤ 9223372036854775807

def partB (n : Int) : Bool := decide (0 ≤ n) && decide (n ≤ 999)
def mayV (a b c : Int) : Bool := partB a && partB b && partB c

theorem ret_bool {a b : Bool} (h : a = b) : Ending.returned (.bool a) = .returned (.bool b) := by rw [h]
theorem ret_int {a b : Int} (h : a = b) : Ending.returned (.int .i64 a) = .returned (.int .i64 b) := by rw [h]

theorem fieldV0 (w : World) (a b c : Value) : (Instr.field 31 (.agg #[a, b, c]) 0).run Tryz.prog w = .ok a w := by kernel_rfl
theorem fieldV1 (w : World) (a b c : Value) : (Instr.field 31 (.agg #[a, b, c]) 1).run Tryz.prog w = .ok b w := by kernel_rfl
theorem fieldV2 (w : World) (a b c : Value) : (Instr.field 31 (.agg #[a, b, c]) 2).run Tryz.prog w = .ok c w := by kernel_rfl

set_option maxHeartbeats 400000 in
theorem mayPart_any (n : Int) (w : World) :
    Calls Tryz.prog 114 #[.int .i64 n] w fun e w' => e = .returned (.bool (partB n)) ∧ w' = w := by
  go_enter Tryz.func114, Tryz.ntmps114
  go_wp2
  all_goals
    go_ret
    refine ⟨ret_bool ?_, rfl⟩
    rw [Bool.eq_iff_iff]
    simp [partB]
    omega

set_option maxHeartbeats 400000 in
theorem part_any (n : Int) (w : World) :
    Calls Tryz.prog 88 #[.int .i64 n] w fun e w' => e = .returned (.bool (partB n)) ∧ w' = w := by
  go_enter Tryz.func88, Tryz.ntmps88
  go_wp2
  all_goals
    go_ret
    refine ⟨ret_bool ?_, rfl⟩
    rw [Bool.eq_iff_iff]
    simp [partB]
    omega


/-- A version that was laid as a new block stays there. -/
theorem boxV {w w' : World} {x y z : Value} (hb : Below (w.alloc (.cells #[x, y, z] 31)).heap.size (w.alloc (.cells #[x, y, z] 31)) w') :
    w'.cell? ⟨w.heap.size, 0, none⟩ = some x ∧ w'.cell? ⟨w.heap.size, 1, none⟩ = some y ∧ w'.cell? ⟨w.heap.size, 2, none⟩ = some z ∧ w.heap.size < w'.heap.size ∧ Below w.heap.size w w' := by
  have hl : w.heap.size < (w.alloc (.cells #[x, y, z] 31)).heap.size := by simp
  refine ⟨?_, ?_, ?_, Nat.lt_of_lt_of_le hl hb.size, ((Below.refl _ _).alloc (Nat.le_refl _) _).trans (hb.mono (Nat.le_of_lt hl))⟩
  · rw [hb.cell (p := ⟨w.heap.size, 0, none⟩) hl]; simp
  · rw [hb.cell (p := ⟨w.heap.size, 1, none⟩) hl]; simp
  · rw [hb.cell (p := ⟨w.heap.size, 2, none⟩) hl]; simp

theorem boxB (w : World) (o : Obj) : Below w.heap.size w (w.alloc o) := (Below.refl _ _).alloc (Nat.le_refl _) _

theorem boxB2 (w : World) (o u : Obj) : Below w.heap.size w ((w.alloc o).alloc u) := (boxB w o).alloc (by simp) u
theorem boxB3 (w : World) (o u v : Obj) : Below w.heap.size w (((w.alloc o).alloc u).alloc v) := (boxB2 w o u).alloc (by simp; omega) v
theorem below_then {w w1 w' : World} (h : Below w.heap.size w w1) (hb : Below w1.heap.size w1 w') : Below w.heap.size w w' := h.trans (hb.mono h.size)

/-- The same of a block whose number is told apart, and that it is not frozen. -/
theorem boxAt {w w' : World} {N : Nat} {x y z : Value} (hN : w.heap.size = N) (hb : Below (w.alloc (.cells #[x, y, z] 31)).heap.size (w.alloc (.cells #[x, y, z] 31)) w') :
    w'.cell? ⟨N, 0, none⟩ = some x ∧ w'.cell? ⟨N, 1, none⟩ = some y ∧ w'.cell? ⟨N, 2, none⟩ = some z ∧ w'.frozen? ⟨N, 0, none⟩ = false ∧ w'.frozen? ⟨N, 1, none⟩ = false ∧ w'.frozen? ⟨N, 2, none⟩ = false ∧ N < w'.heap.size := by
  subst hN
  have hl : w.heap.size < (w.alloc (.cells #[x, y, z] 31)).heap.size := by simp
  obtain ⟨h0, h1, h2, h3, _⟩ := boxV hb
  refine ⟨h0, h1, h2, ?_, ?_, ?_, h3⟩
  · rw [hb.frozen (p := ⟨w.heap.size, 0, none⟩) hl]; simp
  · rw [hb.frozen (p := ⟨w.heap.size, 1, none⟩) hl]; simp
  · rw [hb.frozen (p := ⟨w.heap.size, 2, none⟩) hl]; simp

/-- What lies at a block stays there behind a call that writes new blocks alone. -/
theorem keepV {w w' : World} {N : Nat} {x y z : Value} (hb : Below w.heap.size w w') (hl : N < w.heap.size) (c0 : w.cell? ⟨N, 0, none⟩ = some x) (c1 : w.cell? ⟨N, 1, none⟩ = some y) (c2 : w.cell? ⟨N, 2, none⟩ = some z) :
    w'.cell? ⟨N, 0, none⟩ = some x ∧ w'.cell? ⟨N, 1, none⟩ = some y ∧ w'.cell? ⟨N, 2, none⟩ = some z ∧ N < w'.heap.size :=
  ⟨(hb.cell (p := ⟨N, 0, none⟩) hl).trans c0, (hb.cell (p := ⟨N, 1, none⟩) hl).trans c1, (hb.cell (p := ⟨N, 2, none⟩) hl).trans c2, Nat.lt_of_lt_of_le hl hb.size⟩

set_option maxHeartbeats 400000 in
theorem May_any (a b c : Int) (w : World) :
    Calls Tryz.prog 79 #[.agg #[.int .i64 a, .int .i64 b, .int .i64 c]] w fun e w' => e = .returned (.bool (mayV a b c)) ∧ Below w.heap.size w w' := by
  have hp := mayPart_any
  cases ha : partB a <;> cases hb : partB b <;> cases hc : partB c <;>
  · go_enter Tryz.func79, Tryz.ntmps79
    go_wp2_with (go_at_call 114; refine (hp _ _).mono ?_; rintro e w' ⟨rfl, rfl⟩)
    go_ret
    exact ⟨ret_bool (by simp [mayV, ha, hb, hc]), boxB _ _⟩

set_option maxHeartbeats 400000 in
theorem rMay_any (a b c : Int) (w : World) :
    Calls Tryz.prog 63 #[.agg #[.int .i64 a, .int .i64 b, .int .i64 c]] w fun e w' => e = .returned (.bool (mayV a b c)) ∧ Below w.heap.size w w' := by
  have hp := part_any
  cases ha : partB a <;> cases hb : partB b <;> cases hc : partB c <;>
  · go_enter Tryz.func63, Tryz.ntmps63
    go_wp2_with (go_at_call 88; refine (hp _ _).mono ?_; rintro e w' ⟨rfl, rfl⟩)
    go_ret
    exact ⟨ret_bool (by simp [mayV, ha, hb, hc]), boxB _ _⟩

/-- Which of two versions is less. -/
def cmpV (a b c x y z : Int) : Int := if a = x then (if b = y then (if c = z then 0 else if c < z then -1 else 1) else if b < y then -1 else 1) else if a < x then -1 else 1

def lessV (a b c x y z : Int) : Bool := if a = x then (if b = y then decide (c < z) else decide (b < y)) else decide (a < x)

set_option maxHeartbeats 400000 in
theorem less_any (a b c x y z : Int) (w : World) :
    Calls Tryz.prog 111 #[.agg #[.int .i64 a, .int .i64 b, .int .i64 c], .agg #[.int .i64 x, .int .i64 y, .int .i64 z]] w fun e w' => e = .returned (.bool (lessV a b c x y z)) ∧ Below w.heap.size w w' := by
  go_enter Tryz.func111, Tryz.ntmps111
  go_wp2
  all_goals
    go_ret
    exact ⟨ret_bool (by unfold lessV; simp_all), ((Below.refl _ _).alloc (Nat.le_refl _) _).alloc (by simp) _⟩

theorem eqlV (a b c x y z : Int) (w : World) : (binOp .eql 31 (.agg #[.int .i64 a, .int .i64 b, .int .i64 c]) (.agg #[.int .i64 x, .int .i64 y, .int .i64 z])).run Tryz.prog w = .ok (.bool (decide (a = x ∧ b = y ∧ c = z))) w := by
  have u3 := Tryz.underlying3
  have a3 := Tryz.isAgg3
  have z3 := Tryz.sizeOf3
  have hS : Tryz.prog.underlying 31 = some (.struct (Tryz.prog.fieldsOf 31)) := by kernel_rfl
  have hp : Tryz.prog.stoodInHeld 31 = false := by kernel_rfl
  rw [run_eql_struct, show (10000 : Nat) = 9999 + 1 from rfl, run_equalIn_agg w 9999 31 _ _ hS hp]
  simp only [Program.fieldsOf, Tryz.underlying31]
  by_cases h1 : a = x <;> by_cases h2 : b = y <;> by_cases h3 : c = z <;> go_simp <;> simp_all

theorem neqV (a b c x y z : Int) (w : World) : (binOp .neq 31 (.agg #[.int .i64 a, .int .i64 b, .int .i64 c]) (.agg #[.int .i64 x, .int .i64 y, .int .i64 z])).run Tryz.prog w = .ok (.bool (!decide (a = x ∧ b = y ∧ c = z))) w := by
  have u3 := Tryz.underlying3
  have a3 := Tryz.isAgg3
  have z3 := Tryz.sizeOf3
  have hS : Tryz.prog.underlying 31 = some (.struct (Tryz.prog.fieldsOf 31)) := by kernel_rfl
  have hp : Tryz.prog.stoodInHeld 31 = false := by kernel_rfl
  rw [run_neq_struct, show (10000 : Nat) = 9999 + 1 from rfl, run_equalIn_agg w 9999 31 _ _ hS hp]
  simp only [Program.fieldsOf, Tryz.underlying31]
  by_cases h1 : a = x <;> by_cases h2 : b = y <;> by_cases h3 : c = z <;> go_simp <;> simp_all

theorem guardV (op : BinOp) (x y : Operand) (xs ys : Array Value) (w : World) : (eqGuard op 31 x y (.agg xs) (.agg ys)).run Tryz.prog w = .ok () w := run_eqGuard_agg w op 31 x y xs ys (by kernel_rfl)

set_option maxHeartbeats 800000 in
theorem Compare_any (a b c x y z : Int) (w : World) :
    Calls Tryz.prog 77 #[.agg #[.int .i64 a, .int .i64 b, .int .i64 c], .agg #[.int .i64 x, .int .i64 y, .int .i64 z]] w fun e w' => e = .returned (.int .i64 (cmpV a b c x y z)) ∧ Below w.heap.size w w' := by
  have he := eqlV a b c x y z
  have hg := guardV
  have hl := less_any a b c x y z
  by_cases h : a = x ∧ b = y ∧ c = z
  · have HC : Hid (cmpV a b c x y z = 0) := by unfold Hid cmpV; obtain ⟨h1, h2, h3⟩ := h; rw [if_pos h1, if_pos h2, if_pos h3]
    rw [decide_eq_true h] at he
    clear h
    go_enter Tryz.func77, Tryz.ntmps77
    go_wp2
    go_ret
    exact ⟨ret_int HC.out.symm, boxB2 _ _ _⟩
  · rw [decide_eq_false h] at he
    cases hc : lessV a b c x y z
    · have HC : Hid (cmpV a b c x y z = 1) := by unfold Hid cmpV; unfold lessV at hc; grind
      rw [hc] at hl
      clear h hc
      go_enter Tryz.func77, Tryz.ntmps77
      go_wp2_with (go_at_call 111; refine (hl _).mono ?_; rintro e w' ⟨rfl, hb⟩)
      go_ret
      exact ⟨ret_int HC.out.symm, below_then (boxB2 _ _ _) hb⟩
    · have HC : Hid (cmpV a b c x y z = -1) := by unfold Hid cmpV; unfold lessV at hc; grind
      rw [hc] at hl
      clear h hc
      go_enter Tryz.func77, Tryz.ntmps77
      go_wp2_with (go_at_call 111; refine (hl _).mono ?_; rintro e w' ⟨rfl, hb⟩)
      go_ret
      exact ⟨ret_int HC.out.symm, below_then (boxB2 _ _ _) hb⟩

end Go.Proofs.YtjpmlagofcgheaaGreatDoor
namespace Go.Proofs.YtjpmlagofcgheaaGreatDoor
open Go.RowKit
set_option maxRecDepth 100000

theorem below_draws {B : Nat} {a w : World} (h : Below B a w) (n : Nat) : Below B a (w.drewN n) := ⟨h.os, h.tape, h.output, h.size, h.block⟩

set_option maxHeartbeats 1600000 in
theorem rCompare_any (a b c x y z : Int) (w : World) :
    Calls Tryz.prog 73 #[.agg #[.int .i64 a, .int .i64 b, .int .i64 c], .agg #[.int .i64 x, .int .i64 y, .int .i64 z]] w fun e w' => e = .returned (.int .i64 (cmpV a b c x y z)) ∧ Below w.heap.size w w' := by
  go_enter Tryz.func73, Tryz.ntmps73
  go_wp2
  refine wp_loop_rounds 4 ?_
  repeat any_goals (first | (rw [rounds_succ]; go_wp2_with fail) | (go_quiet (fail); go_wp2_with fail))
  all_goals
    go_ret
    refine ⟨ret_int (by unfold cmpV; grind), ?_⟩
    repeat' (with_reducible refine below_draws ?_ _)
    go_grown
end Go.Proofs.YtjpmlagofcgheaaGreatDoor
namespace Go.Proofs.YtjpmlagofcgheaaGreatDoor
open Go.RowKit
set_option maxRecDepth 100000

/-- A version's place; 0, where it may not be. -/
def rankV (a b c : Int) : Int := if mayV a b c = true then (a * 1000 + b) * 1000 + c else 0
def hasV (n : Int) : Bool := decide (0 ≤ n) && decide (n < 1000000000)
/-- The version at a place; zeros, where there is none. -/
def atA (n : Int) : Int := if hasV n = true then n / 1000000 else 0
def atB (n : Int) : Int := if hasV n = true then n / 1000 % 1000 else 0
def atC (n : Int) : Int := if hasV n = true then n % 1000 else 0

theorem ret_pair {a b : Int} {x y : Bool} (h : a = b) (k : x = y) : Ending.returned (.tuple #[.int .i64 a, .bool x]) = .returned (.tuple #[.int .i64 b, .bool y]) := by rw [h, k]
theorem ret_ver {a b c a' b' c' : Int} {x y : Bool} (h1 : a = a') (h2 : b = b') (h3 : c = c') (k : x = y) : Ending.returned (.tuple #[.agg #[.int .i64 a, .int .i64 b, .int .i64 c], .bool x]) = .returned (.tuple #[.agg #[.int .i64 a', .int .i64 b', .int .i64 c'], .bool y]) := by rw [h1, h2, h3, k]

theorem may_all {a b c : Int} (h : mayV a b c = true) : 0 ≤ a ∧ a ≤ 999 ∧ 0 ≤ b ∧ b ≤ 999 ∧ 0 ≤ c ∧ c ≤ 999 := by
  simp [mayV, partB] at h; omega

set_option maxHeartbeats 800000 in
theorem Rank_any (a b c : Int) (w : World) :
    Calls Tryz.prog 155 #[.agg #[.int .i64 a, .int .i64 b, .int .i64 c]] w fun e w' => e = .returned (.tuple #[.int .i64 (rankV a b c), .bool (mayV a b c)]) ∧ Below w.heap.size w w' := by
  have HM : Hid (∀ w1, Calls Tryz.prog 79 #[.agg #[.int .i64 a, .int .i64 b, .int .i64 c]] w1 fun e w' => e = .returned (.bool (mayV a b c)) ∧ Below w1.heap.size w1 w') := May_any a b c
  cases hm : mayV a b c
  · have HR : Hid (rankV a b c = 0) := by unfold Hid rankV; rw [hm]; rfl
    rw [hm] at HM
    go_enter Tryz.func155, Tryz.ntmps155
    go_wp2_with (go_at_call 79; refine (HM.out _).mono ?_; rintro e w' ⟨rfl, hb⟩)
    go_returns
    exact ⟨ret_pair HR.out.symm rfl, below_then (boxB _ _) hb⟩
  · have HR : Hid (rankV a b c = (a * 1000 + b) * 1000 + c) := by unfold Hid rankV; rw [hm]; rfl
    obtain ⟨a0, a1, b0, b1, c0, c1⟩ := may_all hm
    rw [hm] at HM
    go_enter Tryz.func155, Tryz.ntmps155
    go_wp2_with (go_at_call 79; refine (HM.out _).mono ?_; rintro e w' ⟨rfl, hb⟩; obtain ⟨k0, k1, k2, k3, k4⟩ := boxV hb)
    go_returns
    exact ⟨ret_pair (by rw [HR.out]; try go_arith) rfl, below_then (boxB _ _) hb⟩

set_option maxHeartbeats 800000 in
theorem rRank_any (a b c : Int) (w : World) :
    Calls Tryz.prog 89 #[.agg #[.int .i64 a, .int .i64 b, .int .i64 c]] w fun e w' => e = .returned (.tuple #[.int .i64 (rankV a b c), .bool (mayV a b c)]) ∧ Below w.heap.size w w' := by
  have HM : Hid (∀ w1, Calls Tryz.prog 63 #[.agg #[.int .i64 a, .int .i64 b, .int .i64 c]] w1 fun e w' => e = .returned (.bool (mayV a b c)) ∧ Below w1.heap.size w1 w') := rMay_any a b c
  cases hm : mayV a b c
  · have HR : Hid (rankV a b c = 0) := by unfold Hid rankV; rw [hm]; rfl
    rw [hm] at HM
    go_enter Tryz.func89, Tryz.ntmps89
    go_wp2_with (go_at_call 63; refine (HM.out _).mono ?_; rintro e w' ⟨rfl, hb⟩)
    go_returns
    exact ⟨ret_pair HR.out.symm rfl, below_then (boxB _ _) hb⟩
  · have HR : Hid (rankV a b c = (a * 1000 + b) * 1000 + c) := by unfold Hid rankV; rw [hm]; rfl
    obtain ⟨a0, a1, b0, b1, c0, c1⟩ := may_all hm
    rw [hm] at HM
    go_enter Tryz.func89, Tryz.ntmps89
    go_wp2_with (go_at_call 63; refine (HM.out _).mono ?_; rintro e w' ⟨rfl, hb⟩; obtain ⟨k0, k1, k2, k3, k4⟩ := boxV hb)
    go_returns
    exact ⟨ret_pair (by rw [HR.out]; try go_arith) rfl, below_then (boxB _ _) hb⟩

theorem tdiv_pos (n k : Int) (h : 0 ≤ n) : n.tdiv k = n / k := Int.tdiv_eq_ediv_of_nonneg h
theorem tmod_pos (n k : Int) (h : 0 ≤ n) : n.tmod k = n % k := Int.tmod_eq_emod_of_nonneg h

set_option maxHeartbeats 800000 in
theorem At_any (n : Int) (w : World) :
    Calls Tryz.prog 156 #[.int .i64 n] w fun e w' => e = .returned (.tuple #[.agg #[.int .i64 (atA n), .int .i64 (atB n), .int .i64 (atC n)], .bool (hasV n)]) ∧ Below w.heap.size w w' := by
  cases hh : hasV n
  · have HR : Hid (atA n = 0 ∧ atB n = 0 ∧ atC n = 0) := by unfold Hid atA atB atC; rw [hh]; exact ⟨rfl, rfl, rfl⟩
    simp [hasV] at hh
    by_cases h0 : n < 0
    · go_enter Tryz.func156, Tryz.ntmps156
      go_wp2
      go_returns
      exact ⟨ret_ver HR.out.1.symm HR.out.2.1.symm HR.out.2.2.symm rfl, by go_grown⟩
    · go_enter Tryz.func156, Tryz.ntmps156
      go_wp2
      go_returns
      exact ⟨ret_ver HR.out.1.symm HR.out.2.1.symm HR.out.2.2.symm rfl, by go_grown⟩
  · have HR : Hid (atA n = n / 1000000 ∧ atB n = n / 1000 % 1000 ∧ atC n = n % 1000) := by unfold Hid atA atB atC; rw [hh]; exact ⟨rfl, rfl, rfl⟩
    simp [hasV] at hh
    obtain ⟨h0, h1⟩ := hh
    go_enter Tryz.func156, Tryz.ntmps156
    go_wp2
    go_returns
    refine ⟨ret_ver ?_ ?_ ?_ rfl, by go_grown⟩
    · have := HR.out.1; omega
    · have := HR.out.2.1; omega
    · have := HR.out.2.2; omega

set_option maxHeartbeats 800000 in
theorem rAt_any (n : Int) (w : World) :
    Calls Tryz.prog 90 #[.int .i64 n] w fun e w' => e = .returned (.tuple #[.agg #[.int .i64 (atA n), .int .i64 (atB n), .int .i64 (atC n)], .bool (hasV n)]) ∧ Below w.heap.size w w' := by
  cases hh : hasV n
  · have HR : Hid (atA n = 0 ∧ atB n = 0 ∧ atC n = 0) := by unfold Hid atA atB atC; rw [hh]; exact ⟨rfl, rfl, rfl⟩
    simp [hasV] at hh
    by_cases h0 : n < 0
    · go_enter Tryz.func90, Tryz.ntmps90
      go_wp2
      go_returns
      exact ⟨ret_ver HR.out.1.symm HR.out.2.1.symm HR.out.2.2.symm rfl, by go_grown⟩
    · go_enter Tryz.func90, Tryz.ntmps90
      go_wp2
      go_returns
      exact ⟨ret_ver HR.out.1.symm HR.out.2.1.symm HR.out.2.2.symm rfl, by go_grown⟩
  · have HR : Hid (atA n = n / 1000000 ∧ atB n = n / 1000 % 1000 ∧ atC n = n % 1000) := by unfold Hid atA atB atC; rw [hh]; exact ⟨rfl, rfl, rfl⟩
    simp [hasV] at hh
    obtain ⟨h0, h1⟩ := hh
    go_enter Tryz.func90, Tryz.ntmps90
    go_wp2
    go_returns
    refine ⟨ret_ver ?_ ?_ ?_ rfl, by go_grown⟩
    · have := HR.out.1; omega
    · have := HR.out.2.1; omega
    · have := HR.out.2.2; omega

/-- A version that is stored whole is read so. -/
theorem setV {w : World} {N : Nat} {x y z : Value} (j0 : w.cell? ⟨N, 0, none⟩ = some x) (j1 : w.cell? ⟨N, 1, none⟩ = some y) (j2 : w.cell? ⟨N, 2, none⟩ = some z) :
    (∀ u, (w.setCell ⟨N, 0, none⟩ u).cell? ⟨N, 0, none⟩ = some u) ∧ (∀ u v, ((w.setCell ⟨N, 0, none⟩ u).setCell ⟨N, 1, none⟩ v).cell? ⟨N, 1, none⟩ = some v) ∧ (∀ u v t, (((w.setCell ⟨N, 0, none⟩ u).setCell ⟨N, 1, none⟩ v).setCell ⟨N, 2, none⟩ t).cell? ⟨N, 2, none⟩ = some t) := by
  have k1 : ∀ u, (w.setCell ⟨N, 0, none⟩ u).cell? ⟨N, 1, none⟩ = some y := fun u => (World.cell?_setCell_other _ _ _ _ (by simp)).trans j1
  have k2 : ∀ u v, ((w.setCell ⟨N, 0, none⟩ u).setCell ⟨N, 1, none⟩ v).cell? ⟨N, 2, none⟩ = some z := fun u v => (World.cell?_setCell_other _ _ _ _ (by simp)).trans ((World.cell?_setCell_other _ _ _ _ (by simp)).trans j2)
  exact ⟨fun u => World.cell?_setCell_same _ _ _ j0, fun u v => World.cell?_setCell_same _ _ _ (k1 u), fun u v t => World.cell?_setCell_same _ _ _ (k2 u v)⟩

theorem below_setV {w w' : World} {N B : Nat} {x y z : Value} (hN : B ≤ N) (h : Below B w w') : Below B w (((w'.setCell ⟨N, 0, none⟩ x).setCell ⟨N, 1, none⟩ y).setCell ⟨N, 2, none⟩ z) :=
  ((h.setCell hN _).setCell hN _).setCell hN _

set_option maxHeartbeats 800000 in
theorem beside_any (a b c k : Int) (w : World) (hk : k = 1 ∨ k = -1) :
    Calls Tryz.prog 151 #[.agg #[.int .i64 a, .int .i64 b, .int .i64 c], .int .i64 k] w fun e w' => e = .returned (.tuple #[.agg #[.int .i64 (if mayV a b c then atA (rankV a b c + k) else 0), .int .i64 (if mayV a b c then atB (rankV a b c + k) else 0), .int .i64 (if mayV a b c then atC (rankV a b c + k) else 0)], .bool (mayV a b c && hasV (rankV a b c + k))]) ∧ Below w.heap.size w w' := by
  have HM : Hid (∀ w1, Calls Tryz.prog 155 #[.agg #[.int .i64 a, .int .i64 b, .int .i64 c]] w1 fun e w' => e = .returned (.tuple #[.int .i64 (rankV a b c), .bool (mayV a b c)]) ∧ Below w1.heap.size w1 w') := Rank_any a b c
  have HA : Hid (∀ w1, Calls Tryz.prog 156 #[.int .i64 (rankV a b c + k)] w1 fun e w' => e = .returned (.tuple #[.agg #[.int .i64 (atA (rankV a b c + k)), .int .i64 (atB (rankV a b c + k)), .int .i64 (atC (rankV a b c + k))], .bool (hasV (rankV a b c + k))]) ∧ Below w1.heap.size w1 w') := At_any _
  cases hm : mayV a b c
  · rw [hm] at HM
    go_enter Tryz.func151, Tryz.ntmps151
    go_wp2_with (go_at_call 155; refine (HM.out _).mono ?_; rintro e w' ⟨rfl, hb⟩; obtain ⟨k0, k1, k2, k3, k4, k5, k6⟩ := boxAt (N := w.heap.size + 1) (by simp) hb)
    obtain ⟨s0, s1, s2⟩ := setV ‹World.cell? w' ⟨w.heap.size + 1, 0, none⟩ = _› ‹World.cell? w' ⟨w.heap.size + 1, 1, none⟩ = _› ‹World.cell? w' ⟨w.heap.size + 1, 2, none⟩ = _›
    try simp only [Exit.inBlock, Exit.then]
    refine bodyPost_ret (by simp [results, Tryz.results151, s0, s1, s2, go_sem]; try rfl) rfl ?_
    exact ⟨ret_ver rfl rfl rfl rfl, below_setV (by omega) (below_then (boxB2 _ _ _) hb)⟩
  · obtain ⟨a0, a1, b0, b1, c0, c1⟩ := may_all hm
    have hr : rankV a b c = (a * 1000 + b) * 1000 + c := by unfold rankV; rw [hm]; rfl
    have hr0 : 0 ≤ rankV a b c := by rw [hr]; omega
    have hr1 : rankV a b c < 1000000000 := by rw [hr]; omega
    rw [hm] at HM
    clear hr
    generalize rankV a b c = r at *
    go_enter Tryz.func151, Tryz.ntmps151
    go_wp2_with (first
      | (go_at_call 155; refine (HM.out _).mono ?_; rintro e w1 ⟨rfl, hb⟩; obtain ⟨k0, k1, k2, k3, k4, k5, k6⟩ := boxAt (N := w.heap.size + 1) (by simp) hb)
      | (go_at_call 156; refine (HA.out _).mono ?_; rintro e w2 ⟨rfl, hb2⟩; have j0 := (hb2.cell (p := ⟨w.heap.size + 1, 0, none⟩) k6).trans k0; have j1 := (hb2.cell (p := ⟨w.heap.size + 1, 1, none⟩) k6).trans k1; have j2 := (hb2.cell (p := ⟨w.heap.size + 1, 2, none⟩) k6).trans k2; have j3 := (hb2.frozen (p := ⟨w.heap.size + 1, 0, none⟩) k6).trans k3; have j4 := (hb2.frozen (p := ⟨w.heap.size + 1, 1, none⟩) k6).trans k4; have j5 := (hb2.frozen (p := ⟨w.heap.size + 1, 2, none⟩) k6).trans k5))
    obtain ⟨s0, s1, s2⟩ := setV ‹World.cell? w2 ⟨w.heap.size + 1, 0, none⟩ = _› ‹World.cell? w2 ⟨w.heap.size + 1, 1, none⟩ = _› ‹World.cell? w2 ⟨w.heap.size + 1, 2, none⟩ = _›
    try simp only [Exit.inBlock, Exit.then]
    refine bodyPost_ret (by simp [results, Tryz.results151, s0, s1, s2, go_sem]; try rfl) rfl ?_
    exact ⟨ret_ver rfl rfl rfl rfl, below_setV (by omega) (below_then (below_then (boxB2 _ _ _) hb) hb2)⟩
end Go.Proofs.YtjpmlagofcgheaaGreatDoor
namespace Go.Proofs.YtjpmlagofcgheaaGreatDoor
open Go.RowKit
set_option maxRecDepth 100000

/-- The version that stands k places on; zeros, where there is none. -/
def onA (a b c k : Int) : Int := if mayV a b c then atA (rankV a b c + k) else 0
def onB (a b c k : Int) : Int := if mayV a b c then atB (rankV a b c + k) else 0
def onC (a b c k : Int) : Int := if mayV a b c then atC (rankV a b c + k) else 0
def onIs (a b c k : Int) : Bool := mayV a b c && hasV (rankV a b c + k)

set_option maxHeartbeats 800000 in
theorem Next_any (a b c : Int) (w : World) :
    Calls Tryz.prog 138 #[.agg #[.int .i64 a, .int .i64 b, .int .i64 c]] w fun e w' => e = .returned (.tuple #[.agg #[.int .i64 (onA a b c 1), .int .i64 (onB a b c 1), .int .i64 (onC a b c 1)], .bool (onIs a b c 1)]) ∧ Below w.heap.size w w' := by
  have HM : Hid (∀ w1, Calls Tryz.prog 151 #[.agg #[.int .i64 a, .int .i64 b, .int .i64 c], .int .i64 1] w1 fun e w' => e = .returned (.tuple #[.agg #[.int .i64 (onA a b c 1), .int .i64 (onB a b c 1), .int .i64 (onC a b c 1)], .bool (onIs a b c 1)]) ∧ Below w1.heap.size w1 w') := fun w1 => beside_any a b c 1 w1 (by omega)
  go_enter Tryz.func138, Tryz.ntmps138
  go_wp2_with (go_at_call 151; refine (HM.out _).mono ?_; rintro e w' ⟨rfl, hb⟩; obtain ⟨k0, k1, k2, k3, k4, k5, k6⟩ := boxAt (N := w.heap.size + 1) (by simp) hb)
  obtain ⟨s0, s1, s2⟩ := setV k0 k1 k2
  try simp only [Exit.inBlock, Exit.then]
  refine bodyPost_ret (by simp [results, Tryz.results138, s0, s1, s2, go_sem]; try rfl) rfl ?_
  exact ⟨ret_ver rfl rfl rfl rfl, below_setV (by omega) (below_then (boxB2 _ _ _) hb)⟩

end Go.Proofs.YtjpmlagofcgheaaGreatDoor
namespace Go.Proofs.YtjpmlagofcgheaaGreatDoor
open Go.RowKit
set_option maxRecDepth 100000

/-- A version's text. -/
def textV (a b c : Int) : ByteArray := if mayV a b c = true then (((⟨(Lib.itoa a).toArray⟩ ++ ⟨#[46]⟩) ++ ⟨(Lib.itoa b).toArray⟩) ++ ⟨#[46]⟩) ++ ⟨(Lib.itoa c).toArray⟩ else ByteArray.empty

/-- What Print asks of Itoa. -/
def Spells (w : World) (n : Int) (S : ByteArray) : Prop := ∀ w1, Below w.heap.size w w1 → Calls Tryz.prog 129 #[.int .i64 n] w1 fun e w' => e = .returned (.string S) ∧ Below w1.heap.size w1 w'

theorem Spells.next {w : World} {n : Int} {S : ByteArray} (h : Spells w n S) {N : Nat} {x y z : Value} (w1 : World) (hb : Below w.heap.size w w1) (hl : N < w1.heap.size) (c0 : w1.cell? ⟨N, 0, none⟩ = some x) (c1 : w1.cell? ⟨N, 1, none⟩ = some y) (c2 : w1.cell? ⟨N, 2, none⟩ = some z) :
    Calls Tryz.prog 129 #[.int .i64 n] w1 fun e w' => e = .returned (.string S) ∧ w'.cell? ⟨N, 0, none⟩ = some x ∧ w'.cell? ⟨N, 1, none⟩ = some y ∧ w'.cell? ⟨N, 2, none⟩ = some z ∧ N < w'.heap.size ∧ Below w.heap.size w w' := by
  refine (h w1 hb).mono ?_
  rintro e w' ⟨rfl, hb1⟩
  exact ⟨rfl, (hb1.cell (p := ⟨N, 0, none⟩) hl).trans c0, (hb1.cell (p := ⟨N, 1, none⟩) hl).trans c1, (hb1.cell (p := ⟨N, 2, none⟩) hl).trans c2, Nat.lt_of_lt_of_le hl hb1.size, hb.trans (hb1.mono hb.size)⟩

theorem dec_three {u : Nat} (h : u < 1000) : (Lib.decDigits u).length ≤ 3 := by
  rw [Lib.decDigits]
  split
  · simp
  · rw [Lib.decDigits]
    split
    · simp
    · rw [Lib.decDigits_one (by omega)]; simp

theorem itoa_three {n : Int} (h0 : 0 ≤ n) (h1 : n ≤ 999) : (⟨(Lib.itoa n).toArray⟩ : ByteArray).size ≤ 3 := by
  obtain ⟨u, rfl⟩ : ∃ u : Nat, n = u := ⟨n.toNat, by omega⟩
  rw [Lib.itoa_nonneg]
  have := dec_three (u := u) (by omega)
  show (Lib.decDigits u).toArray.size ≤ 3
  simpa using this

theorem size_cat (x y : ByteArray) : (x ++ y).size = x.size + y.size := ByteArray.size_append

theorem ret_str {a b : ByteArray} (h : a = b) : Ending.returned (.string a) = .returned (.string b) := by rw [h]

set_option maxHeartbeats 1600000 in
theorem Print_any (a b c : Int) (w : World) (ha : mayV a b c = true → Spells w a ⟨(Lib.itoa a).toArray⟩) (hb : mayV a b c = true → Spells w b ⟨(Lib.itoa b).toArray⟩) (hc : mayV a b c = true → Spells w c ⟨(Lib.itoa c).toArray⟩) :
    Calls Tryz.prog 93 #[.agg #[.int .i64 a, .int .i64 b, .int .i64 c]] w fun e w' => e = .returned (.string (textV a b c)) ∧ Below w.heap.size w w' := by
  have HM : Hid (∀ w1, Calls Tryz.prog 79 #[.agg #[.int .i64 a, .int .i64 b, .int .i64 c]] w1 fun e w' => e = .returned (.bool (mayV a b c)) ∧ Below w1.heap.size w1 w') := May_any a b c
  cases hm : mayV a b c
  · have HR : Hid (textV a b c = ByteArray.empty) := by unfold Hid textV; rw [hm]; rfl
    rw [hm] at HM
    clear ha hb hc
    go_enter Tryz.func93, Tryz.ntmps93
    go_wp2_with (go_at_call 79; refine (HM.out _).mono ?_; rintro e w' ⟨rfl, hb⟩)
    go_returns
    exact ⟨ret_str HR.out.symm, below_then (boxB _ _) hb⟩
  · have HR : Hid (textV a b c = (((⟨(Lib.itoa a).toArray⟩ ++ ⟨#[46]⟩) ++ ⟨(Lib.itoa b).toArray⟩) ++ ⟨#[46]⟩) ++ ⟨(Lib.itoa c).toArray⟩) := by unfold Hid textV; rw [hm]; rfl
    have HA : Hid (Spells w a ⟨(Lib.itoa a).toArray⟩) := ha hm
    have HB : Hid (Spells w b ⟨(Lib.itoa b).toArray⟩) := hb hm
    have HC : Hid (Spells w c ⟨(Lib.itoa c).toArray⟩) := hc hm
    obtain ⟨a0, a1, b0, b1, c0, c1⟩ := may_all hm
    have za := itoa_three a0 a1
    have zb := itoa_three b0 b1
    have zc := itoa_three c0 c1
    rw [hm] at HM
    clear ha hb hc a0 a1 b0 b1 c0 c1
    generalize (⟨(Lib.itoa a).toArray⟩ : ByteArray) = A at *
    generalize (⟨(Lib.itoa b).toArray⟩ : ByteArray) = B at *
    generalize (⟨(Lib.itoa c).toArray⟩ : ByteArray) = C at *
    have zd : (⟨#[46]⟩ : ByteArray).size = 1 := rfl
    have e1 := fun W : World => run_string_add_sum (P := Tryz.prog) (w := W) A ⟨#[46]⟩ (by omega)
    have e2 := fun W : World => run_string_add_sum (P := Tryz.prog) (w := W) (A ++ ⟨#[46]⟩) B (by rw [size_cat]; omega)
    have e3 := fun W : World => run_string_add_sum (P := Tryz.prog) (w := W) ((A ++ ⟨#[46]⟩) ++ B) ⟨#[46]⟩ (by rw [size_cat, size_cat]; omega)
    have e4 := fun W : World => run_string_add_sum (P := Tryz.prog) (w := W) (((A ++ ⟨#[46]⟩) ++ B) ++ ⟨#[46]⟩) C (by rw [size_cat, size_cat, size_cat]; omega)
    clear za zb zc zd
    go_enter Tryz.func93, Tryz.ntmps93
    go_wp2_with (go_at_call 79; refine (HM.out _).mono ?_; rintro e w0 ⟨rfl, hb0⟩; obtain ⟨k0, k1, k2, k3, k4⟩ := boxV hb0)
    have HB0 : Hid (Below w.heap.size w w0) := k4
    have HK0 : Hid (w.heap.size < w0.heap.size ∧ w0.cell? ⟨w.heap.size, 0, none⟩ = some (.int .i64 a) ∧ w0.cell? ⟨w.heap.size, 1, none⟩ = some (.int .i64 b) ∧ w0.cell? ⟨w.heap.size, 2, none⟩ = some (.int .i64 c)) := ⟨k3, k0, k1, k2⟩
    have t1 : True := trivial
    have t2 : True := trivial
    have t3 : True := trivial
    clear k4 hb0
    go_region_held3 (fun w' => w'.cell? ⟨w.heap.size, 0, none⟩ = some (.int .i64 a) ∧ w'.cell? ⟨w.heap.size, 1, none⟩ = some (.int .i64 b) ∧ w'.cell? ⟨w.heap.size, 2, none⟩ = some (.int .i64 c)) (go_keep)
      (first
        | (go_at_call 129; clear t1; refine (HA.out.next (N := w.heap.size) (x := .int .i64 a) (y := .int .i64 b) (z := .int .i64 c) _ ?_ ?_ ?_ ?_ ?_).mono ?_; (first | exact HB0.out | exact HB0.out.drew); exact HK0.out.1; exact HK0.out.2.1; exact HK0.out.2.2.1; exact HK0.out.2.2.2; rintro e w1 ⟨rfl, q0, q1, q2, l1, b1⟩; have HB1 : Hid (Below w.heap.size w w1) := b1; have HK1 : Hid (w.heap.size < w1.heap.size ∧ w1.cell? ⟨w.heap.size, 0, none⟩ = some (.int .i64 a) ∧ w1.cell? ⟨w.heap.size, 1, none⟩ = some (.int .i64 b) ∧ w1.cell? ⟨w.heap.size, 2, none⟩ = some (.int .i64 c)) := ⟨l1, q0, q1, q2⟩; clear b1)
        | (go_at_call 129; clear t2; refine (HB.out.next (N := w.heap.size) (x := .int .i64 a) (y := .int .i64 b) (z := .int .i64 c) _ ?_ ?_ ?_ ?_ ?_).mono ?_; (first | exact HB1.out | exact HB1.out.drew); exact HK1.out.1; exact HK1.out.2.1; exact HK1.out.2.2.1; exact HK1.out.2.2.2; rintro e w2 ⟨rfl, r0, r1, r2, l2, b2⟩; have HB2 : Hid (Below w.heap.size w w2) := b2; have HK2 : Hid (w.heap.size < w2.heap.size ∧ w2.cell? ⟨w.heap.size, 0, none⟩ = some (.int .i64 a) ∧ w2.cell? ⟨w.heap.size, 1, none⟩ = some (.int .i64 b) ∧ w2.cell? ⟨w.heap.size, 2, none⟩ = some (.int .i64 c)) := ⟨l2, r0, r1, r2⟩; clear b2)
        | (go_at_call 129; clear t3; refine (HC.out.next (N := w.heap.size) (x := .int .i64 a) (y := .int .i64 b) (z := .int .i64 c) _ ?_ ?_ ?_ ?_ ?_).mono ?_; (first | exact HB2.out | exact HB2.out.drew); exact HK2.out.1; exact HK2.out.2.1; exact HK2.out.2.2.1; exact HK2.out.2.2.2; rintro e w3 ⟨rfl, u0, u1, u2, l3, b3⟩; have HB3 : Hid (Below w.heap.size w w3) := b3; clear b3))
    all_goals go_wp2
    all_goals
      go_returns
      refine ⟨ret_str (by rw [HR.out]), ?_⟩
      exact HB3.out
end Go.Proofs.YtjpmlagofcgheaaGreatDoor
namespace Go.Proofs.YtjpmlagofcgheaaGreatDoor
open Go.RowKit
set_option maxRecDepth 100000

theorem spells_small (w : World) (i : Nat) (hi : i < 100) : Spells w (i : Int) ⟨(Lib.itoa (i : Int)).toArray⟩ := by
  intro w1 _
  refine (Tryz.strconv_Itoa_small i hi w1).mono ?_
  rintro e w' ⟨rfl, rfl⟩
  exact ⟨by rw [Lib.itoa_nonneg], Below.refl _ _⟩

theorem text123 : textV 1 2 3 = ⟨#[49, 46, 50, 46, 51]⟩ := by
  have e1 : Lib.itoa 1 = [49] := by rw [show (1 : Int) = ((1 : Nat) : Int) from rfl, Lib.itoa_nonneg, Lib.decDigits_one (by decide)]; rfl
  have e2 : Lib.itoa 2 = [50] := by rw [show (2 : Int) = ((2 : Nat) : Int) from rfl, Lib.itoa_nonneg, Lib.decDigits_one (by decide)]; rfl
  have e3 : Lib.itoa 3 = [51] := by rw [show (3 : Int) = ((3 : Nat) : Int) from rfl, Lib.itoa_nonneg, Lib.decDigits_one (by decide)]; rfl
  unfold textV
  rw [e1, e2, e3, if_pos (by decide)]
  decide +kernel

end Go.Proofs.YtjpmlagofcgheaaGreatDoor
namespace Go.Proofs.YtjpmlagofcgheaaGreatDoor
set_option maxRecDepth 100000

theorem cmp_neg (a b c x y z : Int) : cmpV a b c x y z = -cmpV x y z a b c := by unfold cmpV; grind
theorem cmp_range (a b c x y z : Int) : cmpV a b c x y z = -1 ∨ cmpV a b c x y z = 0 ∨ cmpV a b c x y z = 1 := by unfold cmpV; grind
theorem cmp_zero (a b c x y z : Int) : cmpV a b c x y z = 0 ↔ a = x ∧ b = y ∧ c = z := by unfold cmpV; grind
theorem rank_of {a b c : Int} (h : mayV a b c = true) : rankV a b c = (a * 1000 + b) * 1000 + c := by unfold rankV; rw [if_pos h]
theorem rank_low {a b c : Int} (h : mayV a b c = true) : 0 ≤ rankV a b c ∧ rankV a b c < 1000000000 := by
  have := may_all h; rw [rank_of h]; omega
theorem cmp_rank {a b c x y z : Int} (h : mayV a b c = true) (k : mayV x y z = true) : cmpV a b c x y z < 0 ↔ rankV a b c < rankV x y z := by
  have h1 := may_all h; have k1 := may_all k
  rw [rank_of h, rank_of k]
  unfold cmpV
  split
  · subst_vars
    split
    · subst_vars
      split
      · omega
      · split <;> omega
    · split <;> omega
  · split <;> omega
theorem cmp_rank_eq {a b c x y z : Int} (h : mayV a b c = true) (k : mayV x y z = true) : cmpV a b c x y z = 0 ↔ rankV a b c = rankV x y z := by
  have h1 := may_all h; have k1 := may_all k
  rw [rank_of h, rank_of k, cmp_zero]
  omega
theorem has_rank {a b c : Int} (h : mayV a b c = true) : hasV (rankV a b c) = true := by
  have := rank_low h; unfold hasV; simp; omega
theorem at_rank {a b c : Int} (h : mayV a b c = true) : atA (rankV a b c) = a ∧ atB (rankV a b c) = b ∧ atC (rankV a b c) = c := by
  have h1 := may_all h
  unfold atA atB atC
  rw [has_rank h, rank_of h]
  simp
  omega
theorem may_at {n : Int} (h : hasV n = true) : mayV (atA n) (atB n) (atC n) = true ∧ rankV (atA n) (atB n) (atC n) = n := by
  have h1 : 0 ≤ n ∧ n < 1000000000 := by unfold hasV at h; simpa using h
  have m : mayV (atA n) (atB n) (atC n) = true := by
    unfold mayV partB atA atB atC
    rw [h]
    simp
    omega
  refine ⟨m, ?_⟩
  rw [rank_of m]
  unfold atA atB atC
  rw [h]
  simp
  omega
theorem on_is {a b c k : Int} (h : mayV a b c = true) : onIs a b c k = hasV (rankV a b c + k) := by unfold onIs; rw [h]; rfl
theorem on_at {a b c k : Int} (h : mayV a b c = true) : onA a b c k = atA (rankV a b c + k) ∧ onB a b c k = atB (rankV a b c + k) ∧ onC a b c k = atC (rankV a b c + k) := by
  unfold onA onB onC; rw [h]; exact ⟨rfl, rfl, rfl⟩
theorem on_may {a b c k : Int} (h : onIs a b c k = true) : mayV a b c = true ∧ mayV (onA a b c k) (onB a b c k) (onC a b c k) = true ∧ rankV (onA a b c k) (onB a b c k) (onC a b c k) = rankV a b c + k := by
  have hm : mayV a b c = true := by unfold onIs at h; revert h; cases mayV a b c <;> simp
  rw [on_is hm] at h
  obtain ⟨e1, e2, e3⟩ := on_at (k := k) hm
  rw [e1, e2, e3]
  exact ⟨hm, may_at h⟩
theorem prev_is {a b c : Int} (h : mayV a b c = true) : onIs a b c (-1) = decide (0 < rankV a b c) := by
  have := rank_low h
  rw [on_is h]; unfold hasV
  rw [Bool.eq_iff_iff]; simp; omega
theorem next_is {a b c : Int} (h : mayV a b c = true) : onIs a b c 1 = decide (rankV a b c < 999999999) := by
  have := rank_low h
  rw [on_is h]; unfold hasV
  rw [Bool.eq_iff_iff]; simp; omega
/-- Next of Prev is the version. -/
theorem next_prev {a b c : Int} (h : onIs a b c (-1) = true) :
    onIs (onA a b c (-1)) (onB a b c (-1)) (onC a b c (-1)) 1 = true ∧ onA (onA a b c (-1)) (onB a b c (-1)) (onC a b c (-1)) 1 = a ∧ onB (onA a b c (-1)) (onB a b c (-1)) (onC a b c (-1)) 1 = b ∧ onC (onA a b c (-1)) (onB a b c (-1)) (onC a b c (-1)) 1 = c := by
  obtain ⟨hm, hp, hr⟩ := on_may h
  rw [on_is hp]
  obtain ⟨e1, e2, e3⟩ := on_at (k := 1) hp
  rw [e1, e2, e3, hr]
  have e : rankV a b c + -1 + 1 = rankV a b c := by omega
  rw [e]
  exact ⟨has_rank hm, at_rank hm⟩
theorem prev_less {a b c : Int} (h : onIs a b c (-1) = true) : cmpV (onA a b c (-1)) (onB a b c (-1)) (onC a b c (-1)) a b c = -1 := by
  obtain ⟨hm, hp, hr⟩ := on_may h
  have := (cmp_rank hp hm).2 (by omega)
  rcases cmp_range (onA a b c (-1)) (onB a b c (-1)) (onC a b c (-1)) a b c with e | e | e <;> omega
end Go.Proofs.YtjpmlagofcgheaaGreatDoor
namespace Go.Proofs.YtjpmlagofcgheaaGreatDoor
open Go.RowKit
set_option maxRecDepth 100000

/-- A block and the three values that lie there. -/
structure Bx where
  n : Nat
  x : Value
  y : Value
  z : Value

/-- What lies in one box. -/
def BxAt (w1 : World) (q : Bx) : Prop := w1.cell? ⟨q.n, 0, none⟩ = some q.x ∧ w1.cell? ⟨q.n, 1, none⟩ = some q.y ∧ w1.cell? ⟨q.n, 2, none⟩ = some q.z ∧ q.n < w1.heap.size

/-- Nothing old has turned, and the boxes lie there. -/
def OKs (w : World) (bs : List Bx) (w1 : World) : Prop := Below w.heap.size w w1 ∧ ∀ q ∈ bs, BxAt w1 q

theorem BxAt.below {w1 w' : World} {q : Bx} (h : BxAt w1 q) (hb : Below w1.heap.size w1 w') : BxAt w' q := keepV hb h.2.2.2 h.1 h.2.1 h.2.2.1

theorem OKs.drew {w : World} {bs : List Bx} {w1 : World} (h : OKs w bs w1) : OKs w bs w1.drew := ⟨h.1.drew, fun q hq => h.2 q hq⟩
theorem OKs.draws {w : World} {bs : List Bx} {w1 : World} (h : OKs w bs w1) (n : Nat) : OKs w bs (w1.drewN n) := ⟨below_draws h.1 n, fun q hq => h.2 q hq⟩
theorem OKs.below {w : World} {bs : List Bx} {w1 w' : World} (h : OKs w bs w1) (hb : Below w1.heap.size w1 w') : OKs w bs w' := ⟨below_then h.1 hb, fun q hq => (h.2 q hq).below hb⟩
theorem OKs.nil (w : World) : OKs w [] w := ⟨Below.refl _ _, fun q hq => by cases hq⟩
theorem OKs.box {w : World} {bs : List Bx} {w1 : World} (h : OKs w bs w1) {N : Nat} (hN : w1.heap.size = N) (x y z : Value) : OKs w (⟨N, x, y, z⟩ :: bs) (w1.alloc (.cells #[x, y, z] 31)) := by
  subst hN
  refine ⟨below_then h.1 (boxB _ _), fun q hq => ?_⟩
  rcases List.mem_cons.1 hq with rfl | hq
  · refine ⟨?_, ?_, ?_, ?_⟩
    · simp
    · simp
    · simp
    · show w1.heap.size < (w1.alloc _).heap.size
      simp
  · exact (h.2 q hq).below (boxB _ _)
theorem OKs.put {w : World} {bs : List Bx} {w1 : World} {N : Nat} {x y z : Value} (h : OKs w (⟨N, x, y, z⟩ :: bs) w1) (hN : w.heap.size ≤ N) (hd : ∀ q ∈ bs, q.n ≠ N) (u v t : Value) :
    OKs w (⟨N, u, v, t⟩ :: bs) (((w1.setCell ⟨N, 0, none⟩ u).setCell ⟨N, 1, none⟩ v).setCell ⟨N, 2, none⟩ t) := by
  refine ⟨((h.1.setCell hN _).setCell hN _).setCell hN _, fun q hq => ?_⟩
  obtain ⟨j0, j1, j2, j3⟩ := h.2 _ (List.mem_cons_self)
  rcases List.mem_cons.1 hq with rfl | hq
  · have k1 : (w1.setCell ⟨N, 0, none⟩ u).cell? ⟨N, 1, none⟩ = some y := (World.cell?_setCell_other _ _ _ _ (by simp)).trans j1
    have k2 : ((w1.setCell ⟨N, 0, none⟩ u).setCell ⟨N, 1, none⟩ v).cell? ⟨N, 2, none⟩ = some z := (World.cell?_setCell_other _ _ _ _ (by simp)).trans ((World.cell?_setCell_other _ _ _ _ (by simp)).trans j2)
    refine ⟨?_, ?_, ?_, by simpa using j3⟩
    · rw [World.cell?_setCell_other _ _ _ _ (by simp), World.cell?_setCell_other _ _ _ _ (by simp)]; exact World.cell?_setCell_same _ _ _ j0
    · rw [World.cell?_setCell_other _ _ _ _ (by simp)]; exact World.cell?_setCell_same _ _ _ k1
    · exact World.cell?_setCell_same _ _ _ k2
  · obtain ⟨i0, i1, i2, i3⟩ := h.2 q (List.mem_cons_of_mem _ hq)
    have hne := hd q hq
    have far : ∀ o s, (⟨N, o, none⟩ : Addr) ≠ ⟨q.n, s, none⟩ := fun o s e => hne (by injection e with e1; exact e1.symm)
    refine ⟨?_, ?_, ?_, by simpa using i3⟩
    · rw [World.cell?_setCell_other _ _ _ _ (far _ _), World.cell?_setCell_other _ _ _ _ (far _ _), World.cell?_setCell_other _ _ _ _ (far _ _)]; exact i0
    · rw [World.cell?_setCell_other _ _ _ _ (far _ _), World.cell?_setCell_other _ _ _ _ (far _ _), World.cell?_setCell_other _ _ _ _ (far _ _)]; exact i1
    · rw [World.cell?_setCell_other _ _ _ _ (far _ _), World.cell?_setCell_other _ _ _ _ (far _ _), World.cell?_setCell_other _ _ _ _ (far _ _)]; exact i2

/-- A call that writes new blocks alone, from a world with boxes. -/
theorem lift {P : Program} {f : Nat} {args : Array Value} {R : Ending} (h : ∀ w1, Calls P f args w1 fun e w' => e = R ∧ Below w1.heap.size w1 w') {w : World} {bs : List Bx} (w1 : World) (ok : OKs w bs w1) :
    Calls P f args w1 fun e w' => e = R ∧ OKs w bs w' := by
  refine (h w1).mono ?_
  rintro e w' ⟨rfl, hb⟩
  exact ⟨rfl, ok.below hb⟩

theorem OKs.one {w : World} {q : Bx} {bs : List Bx} {w1 : World} (h : OKs w (q :: bs) w1) : BxAt w1 q := h.2 q List.mem_cons_self
theorem OKs.two {w : World} {q r : Bx} {bs : List Bx} {w1 : World} (h : OKs w (q :: r :: bs) w1) : BxAt w1 r := h.2 r (by simp)
theorem OKs.three {w : World} {q r s : Bx} {bs : List Bx} {w1 : World} (h : OKs w (q :: r :: s :: bs) w1) : BxAt w1 s := h.2 s (by simp)
theorem OKs.four {w : World} {q r s t : Bx} {bs : List Bx} {w1 : World} (h : OKs w (q :: r :: s :: t :: bs) w1) : BxAt w1 t := h.2 t (by simp)
theorem OKs.five {w : World} {q r s t u : Bx} {bs : List Bx} {w1 : World} (h : OKs w (q :: r :: s :: t :: u :: bs) w1) : BxAt w1 u := h.2 u (by simp)
theorem OKs.six {w : World} {q r s t u v : Bx} {bs : List Bx} {w1 : World} (h : OKs w (q :: r :: s :: t :: u :: v :: bs) w1) : BxAt w1 v := h.2 v (by simp)
theorem OKs.seven {w : World} {q r s t u v x : Bx} {bs : List Bx} {w1 : World} (h : OKs w (q :: r :: s :: t :: u :: v :: x :: bs) w1) : BxAt w1 x := h.2 x (by simp)
end Go.Proofs.YtjpmlagofcgheaaGreatDoor
namespace Go.Proofs.YtjpmlagofcgheaaGreatDoor
open Go.RowKit
set_option maxRecDepth 100000

theorem hide3 {p : Prop} (h : p) : Hid p := h

/-- Six numbers lie at a block: a span's variable. -/
def Bx6 (w : World) (N : Nat) (a b c x y z : Int) : Prop :=
  w.cell? ⟨N, 0, none⟩ = some (.int .i64 a) ∧ w.cell? ⟨N, 1, none⟩ = some (.int .i64 b) ∧ w.cell? ⟨N, 2, none⟩ = some (.int .i64 c) ∧ w.cell? ⟨N, 3, none⟩ = some (.int .i64 x) ∧ w.cell? ⟨N, 4, none⟩ = some (.int .i64 y) ∧ w.cell? ⟨N, 5, none⟩ = some (.int .i64 z) ∧ N < w.heap.size

def spObj (a b c x y z : Int) : Obj := .cells #[.int .i64 a, .int .i64 b, .int .i64 c, .int .i64 x, .int .i64 y, .int .i64 z] 80

theorem Bx6.new {w : World} {N : Nat} (hN : w.heap.size = N) (a b c x y z : Int) : Bx6 (w.alloc (.cells #[.int .i64 a, .int .i64 b, .int .i64 c, .int .i64 x, .int .i64 y, .int .i64 z] 80)) N a b c x y z := by
  subst hN
  refine ⟨?_, ?_, ?_, ?_, ?_, ?_, ?_⟩ <;> simp

theorem Bx6.below {w w' : World} {N : Nat} {a b c x y z : Int} (h : Bx6 w N a b c x y z) (hb : Below w.heap.size w w') : Bx6 w' N a b c x y z := by
  obtain ⟨h0, h1, h2, h3, h4, h5, h6⟩ := h
  have q : ∀ i, w'.cell? ⟨N, i, none⟩ = w.cell? ⟨N, i, none⟩ := fun i => hb.cell (p := ⟨N, i, none⟩) h6
  exact ⟨by rw [q]; exact h0, by rw [q]; exact h1, by rw [q]; exact h2, by rw [q]; exact h3, by rw [q]; exact h4, by rw [q]; exact h5, Nat.lt_of_lt_of_le h6 hb.size⟩

/-- What stays behind a call that writes new blocks alone. -/
def KeepP (K : World → Prop) : Prop := ∀ w w', K w → Below w.heap.size w w' → K w'
theorem KeepP.and {K M : World → Prop} (hk : KeepP K) (hm : KeepP M) : KeepP fun w => K w ∧ M w := fun _ _ h hb => ⟨hk _ _ h.1 hb, hm _ _ h.2 hb⟩
theorem KeepP.drew {K : World → Prop} (hk : KeepP K) {w : World} (h : K w) : K w.drew := hk _ _ h (Below.refl _ _).drew
theorem KeepP.draws {K : World → Prop} (hk : KeepP K) {w : World} (h : K w) (n : Nat) : K (w.drewN n) := hk _ _ h (below_draws (Below.refl _ _) n)
theorem keepBelow (w : World) : KeepP fun w1 => Below w.heap.size w w1 := fun _ _ h hb => below_then h hb
theorem keep6 (N : Nat) (a b c x y z : Int) : KeepP fun w1 => Bx6 w1 N a b c x y z := fun _ _ h hb => h.below hb
theorem keepV3 (q : Bx) : KeepP fun w1 => BxAt w1 q := fun _ _ h hb => h.below hb
/-- A call that writes new blocks alone, and what stays. -/
theorem liftK {K : World → Prop} (hk : KeepP K) {P : Program} {f : Nat} {args : Array Value} {R : Ending} (h : ∀ w1, Calls P f args w1 fun e w' => e = R ∧ Below w1.heap.size w1 w') (w1 : World) (ok : K w1) :
    Calls P f args w1 fun e w' => e = R ∧ K w' := by
  refine (h w1).mono ?_
  rintro e w' ⟨rfl, hb⟩
  exact ⟨rfl, hk _ _ ok hb⟩
/-- The same of a call that asks for what stays. -/
theorem liftK' {K : World → Prop} (hk : KeepP K) {P : Program} {f : Nat} {args : Array Value} {R : Ending} (h : ∀ w1, K w1 → Calls P f args w1 fun e w' => e = R ∧ Below w1.heap.size w1 w') (w1 : World) (ok : K w1) :
    Calls P f args w1 fun e w' => e = R ∧ K w' := by
  refine (h w1 ok).mono ?_
  rintro e w' ⟨rfl, hb⟩
  exact ⟨rfl, hk _ _ ok hb⟩

/-- A region that draws its order, whose operations read, and whose calls keep K: one walk in the order of the text serves. -/
theorem wp_region_keep {K : World → Prop} (hk : KeepP K) {P : Program} {id : Nat} {Q : Exit → Act → World → Prop} {a : Act} {w : World} {l : List Oper} (hm : P.follows .mixedOrders = true) (hB : Region.lexB .any l.toArray = true) (hC : K w)
    (h : ∀ C : World → Prop, (∀ w, K w → C w) → (∀ w, C w → K w) → wpQuiet P l.toArray C (fun a' => ∀ w', C w' → Q .normal a' w') l a) : (Code.region id l.toArray true).wp P Q a w :=
  wp_region_quiet (C := K) hm hB (hk.drew hC) (by simpa using h K (fun _ h => h) (fun _ h => h))

/-- A call in such a region. -/
theorem callC {C K : World → Prop} (hin : ∀ w, K w → C w) (hout : ∀ w, C w → K w) (hk : KeepP K) {P : Program} {f : Nat} {args : Array Value} {v : Value} (h : ∀ w1, Calls P f args w1 fun e w' => e = .returned v ∧ Below w1.heap.size w1 w') (w1 : World) (hC : C w1) :
    Calls P f args w1 fun e w' => e = .returned v ∧ C w' := by
  refine (h w1).mono ?_
  rintro e w' ⟨rfl, hb⟩
  exact ⟨rfl, hin _ (hk _ _ (hout _ hC) hb)⟩
/-- The same of a call that asks for K. -/
theorem callC' {C K : World → Prop} (hin : ∀ w, K w → C w) (hout : ∀ w, C w → K w) (hk : KeepP K) {P : Program} {f : Nat} {args : Array Value} {v : Value} (h : ∀ w1, K w1 → Calls P f args w1 fun e w' => e = .returned v ∧ Below w1.heap.size w1 w') (w1 : World) (hC : C w1) :
    Calls P f args w1 fun e w' => e = .returned v ∧ C w' := by
  refine (h w1 (hout _ hC)).mono ?_
  rintro e w' ⟨rfl, hb⟩
  exact ⟨rfl, hin _ (hk _ _ (hout _ hC) hb)⟩

/-- A span may be. -/
def maySp (a b c x y z : Int) : Bool := mayV a b c && mayV x y z && decide (cmpV a b c x y z ≤ 0)
/-- There is a version between one span's end and another one's beginning. -/
def apartV (x y z a b c : Int) : Bool := onIs x y z 1 && decide (cmpV (onA x y z 1) (onB x y z 1) (onC x y z 1) a b c < 0)

set_option maxHeartbeats 800000 in
theorem maySpan_any (a b c x y z : Int) (w : World) :
    Calls Tryz.prog 112 #[.agg #[.int .i64 a, .int .i64 b, .int .i64 c, .int .i64 x, .int .i64 y, .int .i64 z]] w fun e w' => e = .returned (.bool (maySp a b c x y z)) ∧ Below w.heap.size w w' := by
  have HL : Hid (∀ w1, Calls Tryz.prog 79 #[.agg #[.int .i64 a, .int .i64 b, .int .i64 c]] w1 fun e w' => e = .returned (.bool (mayV a b c)) ∧ Below w1.heap.size w1 w') := May_any a b c
  have HH : Hid (∀ w1, Calls Tryz.prog 79 #[.agg #[.int .i64 x, .int .i64 y, .int .i64 z]] w1 fun e w' => e = .returned (.bool (mayV x y z)) ∧ Below w1.heap.size w1 w') := May_any x y z
  have HC : Hid (∀ w1, Calls Tryz.prog 77 #[.agg #[.int .i64 a, .int .i64 b, .int .i64 c], .agg #[.int .i64 x, .int .i64 y, .int .i64 z]] w1 fun e w' => e = .returned (.int .i64 (cmpV a b c x y z)) ∧ Below w1.heap.size w1 w') := Compare_any a b c x y z
  have HB : Hid (Bx6 (w.alloc (.cells #[.int .i64 a, .int .i64 b, .int .i64 c, .int .i64 x, .int .i64 y, .int .i64 z] 80)) w.heap.size a b c x y z) := Bx6.new rfl _ _ _ _ _ _
  have t1 : True := trivial
  cases h1 : mayV a b c
  · have HR : Hid (maySp a b c x y z = false) := by unfold Hid maySp; rw [h1]; rfl
    rw [h1] at HL
    go_enter Tryz.func112, Tryz.ntmps112
    go_wp2_with (go_at_call 79; refine (HL.out _).mono ?_; rintro e w1 ⟨rfl, hb⟩)
    go_ret
    exact ⟨ret_bool HR.out.symm, below_then (boxB _ _) hb⟩
  · cases h2 : mayV x y z
    · have HR : Hid (maySp a b c x y z = false) := by unfold Hid maySp; rw [h1, h2]; rfl
      rw [h1] at HL
      rw [h2] at HH
      go_enter Tryz.func112, Tryz.ntmps112
      go_wp2_with (first
        | (have _t := t1; go_at_call 79; refine (HL.out _).mono ?_; rintro e w1 ⟨rfl, hb⟩; obtain ⟨k0, k1, k2, k3, k4, k5, k6⟩ := HB.out.below hb; clear t1)
        | (go_at_call 79; refine (HH.out _).mono ?_; rintro e w2 ⟨rfl, hb2⟩))
      go_ret
      exact ⟨ret_bool HR.out.symm, below_then (below_then (boxB _ _) hb) hb2⟩
    · rw [h1] at HL
      rw [h2] at HH
      have HR : Hid (maySp a b c x y z = decide (cmpV a b c x y z ≤ 0)) := by unfold Hid maySp; rw [h1, h2]; rfl
      generalize cmpV a b c x y z = q at *
      go_enter Tryz.func112, Tryz.ntmps112
      go_wp2_with (first
        | (have _t := t1; go_at_call 79; refine (HL.out _).mono ?_; rintro e w1 ⟨rfl, hb⟩; have HB1 := hide3 (HB.out.below hb); obtain ⟨k0, k1, k2, k3, k4, k5, k6⟩ := HB1.out; clear t1)
        | (go_at_call 79; refine (HH.out _).mono ?_; rintro e w2 ⟨rfl, hb2⟩; obtain ⟨j0, j1, j2, j3, j4, j5, j6⟩ := HB1.out.below hb2)
        | (go_at_call 77; refine (HC.out _).mono ?_; rintro e w3 ⟨rfl, hb3⟩))
      go_ret
      exact ⟨ret_bool HR.out.symm, below_then (below_then (below_then (boxB _ _) hb) hb2) hb3⟩

set_option maxHeartbeats 800000 in
theorem apart_any (a b c x y z p q r u v t : Int) (w : World) :
    Calls Tryz.prog 113 #[.agg #[.int .i64 a, .int .i64 b, .int .i64 c, .int .i64 x, .int .i64 y, .int .i64 z], .agg #[.int .i64 p, .int .i64 q, .int .i64 r, .int .i64 u, .int .i64 v, .int .i64 t]] w fun e w' => e = .returned (.bool (apartV x y z p q r)) ∧ Below w.heap.size w w' := by
  have HN : Hid (∀ w1, Calls Tryz.prog 138 #[.agg #[.int .i64 x, .int .i64 y, .int .i64 z]] w1 fun e w' => e = .returned (.tuple #[.agg #[.int .i64 (onA x y z 1), .int .i64 (onB x y z 1), .int .i64 (onC x y z 1)], .bool (onIs x y z 1)]) ∧ Below w1.heap.size w1 w') := Next_any x y z
  have HC : Hid (∀ w1, Calls Tryz.prog 77 #[.agg #[.int .i64 (onA x y z 1), .int .i64 (onB x y z 1), .int .i64 (onC x y z 1)], .agg #[.int .i64 p, .int .i64 q, .int .i64 r]] w1 fun e w' => e = .returned (.int .i64 (cmpV (onA x y z 1) (onB x y z 1) (onC x y z 1) p q r)) ∧ Below w1.heap.size w1 w') := Compare_any _ _ _ _ _ _
  have HB : Hid (Bx6 ((w.alloc (.cells #[.int .i64 a, .int .i64 b, .int .i64 c, .int .i64 x, .int .i64 y, .int .i64 z] 80)).alloc (.cells #[.int .i64 p, .int .i64 q, .int .i64 r, .int .i64 u, .int .i64 v, .int .i64 t] 80)) (w.heap.size + 1) p q r u v t) := Bx6.new (by simp) _ _ _ _ _ _
  cases h1 : onIs x y z 1
  · have HR : Hid (apartV x y z p q r = false) := by unfold Hid apartV; rw [h1]; rfl
    rw [h1] at HN
    go_enter Tryz.func113, Tryz.ntmps113
    go_wp2_with (go_at_call 138; refine (HN.out _).mono ?_; rintro e w1 ⟨rfl, hb⟩)
    go_ret
    exact ⟨ret_bool HR.out.symm, below_then (below_then (boxB2 _ _ _) hb) (boxB _ _)⟩
  · have HR : Hid (apartV x y z p q r = decide (cmpV (onA x y z 1) (onB x y z 1) (onC x y z 1) p q r < 0)) := by unfold Hid apartV; rw [h1]; rfl
    rw [h1] at HN
    generalize onA x y z 1 = nA at *
    generalize onB x y z 1 = nB at *
    generalize onC x y z 1 = nC at *
    generalize cmpV nA nB nC p q r = o at *
    go_enter Tryz.func113, Tryz.ntmps113
    go_wp2_with (first
      | (go_at_call 138; refine (HN.out _).mono ?_; rintro e w1 ⟨rfl, hb⟩; obtain ⟨k0, k1, k2, k3, k4, k5, k6⟩ := HB.out.below hb)
      | (go_at_call 77; refine (HC.out _).mono ?_; rintro e w2 ⟨rfl, hb2⟩))
    go_ret
    exact ⟨ret_bool HR.out.symm, below_then (below_then (below_then (boxB2 _ _ _) hb) (boxB _ _)) hb2⟩
end Go.Proofs.YtjpmlagofcgheaaGreatDoor
