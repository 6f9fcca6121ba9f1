/- Vers1, Vers2, Vers3, Vers4, Vers5, Vers6, Row1, Tab1, Facts1, Facts2, Boxes, Ref1, Next1, Next2, Next3, laid in one text. -/
import Derived.Test.YtjbohacllhjgmaaGreatDoorRows
import Derived.WalkKit
import Derived.WalkSpells
import Derived.WalkLawsBesides
import Derived.Handy
import Derived.Deep.QuietTactic
import Derived.BigQuiet
import Derived.Test.YtjbohacllhjgmaaGreatDoorShelfA
import Derived.Deep.RegionHeld3
import Derived.Test.YtjbohacllhjgmaaGreatDoorTie
import Derived.Test.YtjbohacllhjgmaaGreatDoorCards
import Derived.ProofKit
import Derived.OpenShut
import Derived.ChangeOld
import Derived.LaidMore
import Derived.Lay
import Derived.SevenTiedAt
import Derived.Stop.Joined
import Derived.Shelf.Vars
import Derived.Deep.Slices
import Derived.Test.YtjbohacllhjgmaaGreatDoorShelfB
import Derived.Lib.LaidTab
import Derived.Lib.AppendIntMem
import Derived.Stop.LaidErr
import Derived.Laws.IdiomStrings
import Derived.Deep.RegionWith
namespace Go.Proofs.YtjbohacllhjgmaaGreatDoor
open Go.RowKit
set_option maxRecDepth 100000

def isI (n : Int) : Prop := -9223372036854775808 ≤ n ∧ n ≤ 9223372036854775807

def partB (n : Int) : Bool := decide (0 ≤ n) && decide (n ≤ 999)
def mayV (a b c : Int) : Bool := partB a && partB b && partB c

theorem ret_bool {a b : Bool} (h : a = b) : Ending.returned (.bool a) = .returned (.bool b) := by rw [h]
theorem ret_int {a b : Int} (h : a = b) : Ending.returned (.int .i64 a) = .returned (.int .i64 b) := by rw [h]

theorem fieldV0 (w : World) (a b c : Value) : (Instr.field 39 (.agg #[a, b, c]) 0).run Tryz.prog w = .ok a w := by kernel_rfl
theorem fieldV1 (w : World) (a b c : Value) : (Instr.field 39 (.agg #[a, b, c]) 1).run Tryz.prog w = .ok b w := by kernel_rfl
theorem fieldV2 (w : World) (a b c : Value) : (Instr.field 39 (.agg #[a, b, c]) 2).run Tryz.prog w = .ok c w := by kernel_rfl

set_option maxHeartbeats 400000 in
theorem mayPart_any (n : Int) (w : World) :
    Calls Tryz.prog 57 #[.int .i64 n] w fun e w' => e = .returned (.bool (partB n)) ∧ w' = w := by
  go_enter Tryz.func57, Tryz.ntmps57
  go_wp2
  all_goals
    go_ret
    refine ⟨ret_bool ?_, rfl⟩
    rw [Bool.eq_iff_iff]
    simp [partB]
    omega

set_option maxHeartbeats 400000 in
theorem part_any (n : Int) (w : World) :
    Calls Tryz.prog 44 #[.int .i64 n] w fun e w' => e = .returned (.bool (partB n)) ∧ w' = w := by
  go_enter Tryz.func44, Tryz.ntmps44
  go_wp2
  all_goals
    go_ret
    refine ⟨ret_bool ?_, rfl⟩
    rw [Bool.eq_iff_iff]
    simp [partB]
    omega


/-- A version that was laid as a new block stays there. -/
theorem boxV {w w' : World} {x y z : Value} (hb : Below (w.alloc (.cells #[x, y, z] 39)).heap.size (w.alloc (.cells #[x, y, z] 39)) w') :
    w'.cell? ⟨w.heap.size, 0, none⟩ = some x ∧ w'.cell? ⟨w.heap.size, 1, none⟩ = some y ∧ w'.cell? ⟨w.heap.size, 2, none⟩ = some z ∧ w.heap.size < w'.heap.size ∧ Below w.heap.size w w' := by
  have hl : w.heap.size < (w.alloc (.cells #[x, y, z] 39)).heap.size := by simp
  refine ⟨?_, ?_, ?_, Nat.lt_of_lt_of_le hl hb.size, ((Below.refl _ _).alloc (Nat.le_refl _) _).trans (hb.mono (Nat.le_of_lt hl))⟩
  · rw [hb.cell (p := ⟨w.heap.size, 0, none⟩) hl]; simp
  · rw [hb.cell (p := ⟨w.heap.size, 1, none⟩) hl]; simp
  · rw [hb.cell (p := ⟨w.heap.size, 2, none⟩) hl]; simp

theorem boxB (w : World) (o : Obj) : Below w.heap.size w (w.alloc o) := (Below.refl _ _).alloc (Nat.le_refl _) _

theorem boxB2 (w : World) (o u : Obj) : Below w.heap.size w ((w.alloc o).alloc u) := (boxB w o).alloc (by simp) u
theorem boxB3 (w : World) (o u v : Obj) : Below w.heap.size w (((w.alloc o).alloc u).alloc v) := (boxB2 w o u).alloc (by simp; omega) v
theorem below_then {w w1 w' : World} (h : Below w.heap.size w w1) (hb : Below w1.heap.size w1 w') : Below w.heap.size w w' := h.trans (hb.mono h.size)

/-- The same of a block whose number is told apart, and that it is not frozen. -/
theorem boxAt {w w' : World} {N : Nat} {x y z : Value} (hN : w.heap.size = N) (hb : Below (w.alloc (.cells #[x, y, z] 39)).heap.size (w.alloc (.cells #[x, y, z] 39)) w') :
    w'.cell? ⟨N, 0, none⟩ = some x ∧ w'.cell? ⟨N, 1, none⟩ = some y ∧ w'.cell? ⟨N, 2, none⟩ = some z ∧ w'.frozen? ⟨N, 0, none⟩ = false ∧ w'.frozen? ⟨N, 1, none⟩ = false ∧ w'.frozen? ⟨N, 2, none⟩ = false ∧ N < w'.heap.size := by
  subst hN
  have hl : w.heap.size < (w.alloc (.cells #[x, y, z] 39)).heap.size := by simp
  obtain ⟨h0, h1, h2, h3, _⟩ := boxV hb
  refine ⟨h0, h1, h2, ?_, ?_, ?_, h3⟩
  · rw [hb.frozen (p := ⟨w.heap.size, 0, none⟩) hl]; simp
  · rw [hb.frozen (p := ⟨w.heap.size, 1, none⟩) hl]; simp
  · rw [hb.frozen (p := ⟨w.heap.size, 2, none⟩) hl]; simp

/-- What lies at a block stays there behind a call that writes new blocks alone. -/
theorem keepV {w w' : World} {N : Nat} {x y z : Value} (hb : Below w.heap.size w w') (hl : N < w.heap.size) (c0 : w.cell? ⟨N, 0, none⟩ = some x) (c1 : w.cell? ⟨N, 1, none⟩ = some y) (c2 : w.cell? ⟨N, 2, none⟩ = some z) :
    w'.cell? ⟨N, 0, none⟩ = some x ∧ w'.cell? ⟨N, 1, none⟩ = some y ∧ w'.cell? ⟨N, 2, none⟩ = some z ∧ N < w'.heap.size :=
  ⟨(hb.cell (p := ⟨N, 0, none⟩) hl).trans c0, (hb.cell (p := ⟨N, 1, none⟩) hl).trans c1, (hb.cell (p := ⟨N, 2, none⟩) hl).trans c2, Nat.lt_of_lt_of_le hl hb.size⟩

set_option maxHeartbeats 400000 in
theorem May_any (a b c : Int) (w : World) :
    Calls Tryz.prog 40 #[.agg #[.int .i64 a, .int .i64 b, .int .i64 c]] w fun e w' => e = .returned (.bool (mayV a b c)) ∧ Below w.heap.size w w' := by
  have hp := mayPart_any
  cases ha : partB a <;> cases hb : partB b <;> cases hc : partB c <;>
  · go_enter Tryz.func40, Tryz.ntmps40
    go_wp2_with (go_at_call 57; refine (hp _ _).mono ?_; rintro e w' ⟨rfl, rfl⟩)
    go_ret
    exact ⟨ret_bool (by simp [mayV, ha, hb, hc]), boxB _ _⟩

set_option maxHeartbeats 400000 in
theorem rMay_any (a b c : Int) (w : World) :
    Calls Tryz.prog 27 #[.agg #[.int .i64 a, .int .i64 b, .int .i64 c]] w fun e w' => e = .returned (.bool (mayV a b c)) ∧ Below w.heap.size w w' := by
  have hp := part_any
  cases ha : partB a <;> cases hb : partB b <;> cases hc : partB c <;>
  · go_enter Tryz.func27, Tryz.ntmps27
    go_wp2_with (go_at_call 44; refine (hp _ _).mono ?_; rintro e w' ⟨rfl, rfl⟩)
    go_ret
    exact ⟨ret_bool (by simp [mayV, ha, hb, hc]), boxB _ _⟩

/-- Which of two versions is less. -/
def cmpV (a b c x y z : Int) : Int := if a = x then (if b = y then (if c = z then 0 else if c < z then -1 else 1) else if b < y then -1 else 1) else if a < x then -1 else 1

def lessV (a b c x y z : Int) : Bool := if a = x then (if b = y then decide (c < z) else decide (b < y)) else decide (a < x)

theorem eqlV (a b c x y z : Int) (w : World) : (binOp .eql 39 (.agg #[.int .i64 a, .int .i64 b, .int .i64 c]) (.agg #[.int .i64 x, .int .i64 y, .int .i64 z])).run Tryz.prog w = .ok (.bool (decide (a = x ∧ b = y ∧ c = z))) w := by
  have u3 := Tryz.underlying3
  have a3 := Tryz.isAgg3
  have z3 := Tryz.sizeOf3
  have hS : Tryz.prog.underlying 39 = some (.struct (Tryz.prog.fieldsOf 39)) := by kernel_rfl
  have hp : Tryz.prog.stoodInHeld 39 = false := by kernel_rfl
  rw [run_eql_struct, show (10000 : Nat) = 9999 + 1 from rfl, run_equalIn_agg w 9999 39 _ _ hS hp]
  simp only [Program.fieldsOf, Tryz.underlying39]
  by_cases h1 : a = x <;> by_cases h2 : b = y <;> by_cases h3 : c = z <;> go_simp <;> simp_all

theorem neqV (a b c x y z : Int) (w : World) : (binOp .neq 39 (.agg #[.int .i64 a, .int .i64 b, .int .i64 c]) (.agg #[.int .i64 x, .int .i64 y, .int .i64 z])).run Tryz.prog w = .ok (.bool (!decide (a = x ∧ b = y ∧ c = z))) w := by
  have u3 := Tryz.underlying3
  have a3 := Tryz.isAgg3
  have z3 := Tryz.sizeOf3
  have hS : Tryz.prog.underlying 39 = some (.struct (Tryz.prog.fieldsOf 39)) := by kernel_rfl
  have hp : Tryz.prog.stoodInHeld 39 = false := by kernel_rfl
  rw [run_neq_struct, show (10000 : Nat) = 9999 + 1 from rfl, run_equalIn_agg w 9999 39 _ _ hS hp]
  simp only [Program.fieldsOf, Tryz.underlying39]
  by_cases h1 : a = x <;> by_cases h2 : b = y <;> by_cases h3 : c = z <;> go_simp <;> simp_all

theorem guardV (op : BinOp) (x y : Operand) (xs ys : Array Value) (w : World) : (eqGuard op 39 x y (.agg xs) (.agg ys)).run Tryz.prog w = .ok () w := run_eqGuard_agg w op 39 x y xs ys (by kernel_rfl)

end Go.Proofs.YtjbohacllhjgmaaGreatDoor
namespace Go.Proofs.YtjbohacllhjgmaaGreatDoor
open Go.RowKit
set_option maxRecDepth 100000

theorem below_draws {B : Nat} {a w : World} (h : Below B a w) (n : Nat) : Below B a (w.drewN n) := ⟨h.os, h.tape, h.output, h.size, h.block⟩

end Go.Proofs.YtjbohacllhjgmaaGreatDoor
namespace Go.Proofs.YtjbohacllhjgmaaGreatDoor
open Go.RowKit
set_option maxRecDepth 100000

/-- A version's place; 0, where it may not be. -/
def rankV (a b c : Int) : Int := if mayV a b c = true then (a * 1000 + b) * 1000 + c else 0
def hasV (n : Int) : Bool := decide (0 ≤ n) && decide (n < 1000000000)
/-- The version at a place; zeros, where there is none. -/
def atA (n : Int) : Int := if hasV n = true then n / 1000000 else 0
def atB (n : Int) : Int := if hasV n = true then n / 1000 % 1000 else 0
def atC (n : Int) : Int := if hasV n = true then n % 1000 else 0

theorem ret_pair {a b : Int} {x y : Bool} (h : a = b) (k : x = y) : Ending.returned (.tuple #[.int .i64 a, .bool x]) = .returned (.tuple #[.int .i64 b, .bool y]) := by rw [h, k]
theorem ret_ver {a b c a' b' c' : Int} {x y : Bool} (h1 : a = a') (h2 : b = b') (h3 : c = c') (k : x = y) : Ending.returned (.tuple #[.agg #[.int .i64 a, .int .i64 b, .int .i64 c], .bool x]) = .returned (.tuple #[.agg #[.int .i64 a', .int .i64 b', .int .i64 c'], .bool y]) := by rw [h1, h2, h3, k]

theorem may_all {a b c : Int} (h : mayV a b c = true) : 0 ≤ a ∧ a ≤ 999 ∧ 0 ≤ b ∧ b ≤ 999 ∧ 0 ≤ c ∧ c ≤ 999 := by
  simp [mayV, partB] at h; omega

theorem tdiv_pos (n k : Int) (h : 0 ≤ n) : n.tdiv k = n / k := Int.tdiv_eq_ediv_of_nonneg h
theorem tmod_pos (n k : Int) (h : 0 ≤ n) : n.tmod k = n % k := Int.tmod_eq_emod_of_nonneg h

/-- A version that is stored whole is read so. -/
theorem setV {w : World} {N : Nat} {x y z : Value} (j0 : w.cell? ⟨N, 0, none⟩ = some x) (j1 : w.cell? ⟨N, 1, none⟩ = some y) (j2 : w.cell? ⟨N, 2, none⟩ = some z) :
    (∀ u, (w.setCell ⟨N, 0, none⟩ u).cell? ⟨N, 0, none⟩ = some u) ∧ (∀ u v, ((w.setCell ⟨N, 0, none⟩ u).setCell ⟨N, 1, none⟩ v).cell? ⟨N, 1, none⟩ = some v) ∧ (∀ u v t, (((w.setCell ⟨N, 0, none⟩ u).setCell ⟨N, 1, none⟩ v).setCell ⟨N, 2, none⟩ t).cell? ⟨N, 2, none⟩ = some t) := by
  have k1 : ∀ u, (w.setCell ⟨N, 0, none⟩ u).cell? ⟨N, 1, none⟩ = some y := fun u => (World.cell?_setCell_other _ _ _ _ (by simp)).trans j1
  have k2 : ∀ u v, ((w.setCell ⟨N, 0, none⟩ u).setCell ⟨N, 1, none⟩ v).cell? ⟨N, 2, none⟩ = some z := fun u v => (World.cell?_setCell_other _ _ _ _ (by simp)).trans ((World.cell?_setCell_other _ _ _ _ (by simp)).trans j2)
  exact ⟨fun u => World.cell?_setCell_same _ _ _ j0, fun u v => World.cell?_setCell_same _ _ _ (k1 u), fun u v t => World.cell?_setCell_same _ _ _ (k2 u v)⟩

theorem below_setV {w w' : World} {N B : Nat} {x y z : Value} (hN : B ≤ N) (h : Below B w w') : Below B w (((w'.setCell ⟨N, 0, none⟩ x).setCell ⟨N, 1, none⟩ y).setCell ⟨N, 2, none⟩ z) :=
  ((h.setCell hN _).setCell hN _).setCell hN _

end Go.Proofs.YtjbohacllhjgmaaGreatDoor
namespace Go.Proofs.YtjbohacllhjgmaaGreatDoor
open Go.RowKit
set_option maxRecDepth 100000

/-- The version that stands k places on; zeros, where there is none. -/
def onA (a b c k : Int) : Int := if mayV a b c then atA (rankV a b c + k) else 0
def onB (a b c k : Int) : Int := if mayV a b c then atB (rankV a b c + k) else 0
def onC (a b c k : Int) : Int := if mayV a b c then atC (rankV a b c + k) else 0
def onIs (a b c k : Int) : Bool := mayV a b c && hasV (rankV a b c + k)

end Go.Proofs.YtjbohacllhjgmaaGreatDoor
namespace Go.Proofs.YtjbohacllhjgmaaGreatDoor
open Go.RowKit
set_option maxRecDepth 100000

/-- A version's text. -/
def textV (a b c : Int) : ByteArray := if mayV a b c = true then (((⟨(Lib.itoa a).toArray⟩ ++ ⟨#[46]⟩) ++ ⟨(Lib.itoa b).toArray⟩) ++ ⟨#[46]⟩) ++ ⟨(Lib.itoa c).toArray⟩ else ByteArray.empty

/-- What Print asks of Itoa. -/
def Spells (w : World) (n : Int) (S : ByteArray) : Prop := ∀ w1, Below w.heap.size w w1 → Calls Tryz.prog 46 #[.int .i64 n] w1 fun e w' => e = .returned (.string S) ∧ Below w1.heap.size w1 w'

theorem Spells.next {w : World} {n : Int} {S : ByteArray} (h : Spells w n S) {N : Nat} {x y z : Value} (w1 : World) (hb : Below w.heap.size w w1) (hl : N < w1.heap.size) (c0 : w1.cell? ⟨N, 0, none⟩ = some x) (c1 : w1.cell? ⟨N, 1, none⟩ = some y) (c2 : w1.cell? ⟨N, 2, none⟩ = some z) :
    Calls Tryz.prog 46 #[.int .i64 n] w1 fun e w' => e = .returned (.string S) ∧ w'.cell? ⟨N, 0, none⟩ = some x ∧ w'.cell? ⟨N, 1, none⟩ = some y ∧ w'.cell? ⟨N, 2, none⟩ = some z ∧ N < w'.heap.size ∧ Below w.heap.size w w' := by
  refine (h w1 hb).mono ?_
  rintro e w' ⟨rfl, hb1⟩
  exact ⟨rfl, (hb1.cell (p := ⟨N, 0, none⟩) hl).trans c0, (hb1.cell (p := ⟨N, 1, none⟩) hl).trans c1, (hb1.cell (p := ⟨N, 2, none⟩) hl).trans c2, Nat.lt_of_lt_of_le hl hb1.size, hb.trans (hb1.mono hb.size)⟩

theorem dec_three {u : Nat} (h : u < 1000) : (Lib.decDigits u).length ≤ 3 := by
  rw [Lib.decDigits]
  split
  · simp
  · rw [Lib.decDigits]
    split
    · simp
    · rw [Lib.decDigits_one (by omega)]; simp

theorem itoa_three {n : Int} (h0 : 0 ≤ n) (h1 : n ≤ 999) : (⟨(Lib.itoa n).toArray⟩ : ByteArray).size ≤ 3 := by
  obtain ⟨u, rfl⟩ : ∃ u : Nat, n = u := ⟨n.toNat, by omega⟩
  rw [Lib.itoa_nonneg]
  have := dec_three (u := u) (by omega)
  show (Lib.decDigits u).toArray.size ≤ 3
  simpa using this

theorem size_cat (x y : ByteArray) : (x ++ y).size = x.size + y.size := ByteArray.size_append

theorem ret_str {a b : ByteArray} (h : a = b) : Ending.returned (.string a) = .returned (.string b) := by rw [h]

set_option maxHeartbeats 1600000 in
theorem Print_any (a b c : Int) (w : World) (ha : mayV a b c = true → Spells w a ⟨(Lib.itoa a).toArray⟩) (hb : mayV a b c = true → Spells w b ⟨(Lib.itoa b).toArray⟩) (hc : mayV a b c = true → Spells w c ⟨(Lib.itoa c).toArray⟩) :
    Calls Tryz.prog 31 #[.agg #[.int .i64 a, .int .i64 b, .int .i64 c]] w fun e w' => e = .returned (.string (textV a b c)) ∧ Below w.heap.size w w' := by
  have HM : Hid (∀ w1, Calls Tryz.prog 40 #[.agg #[.int .i64 a, .int .i64 b, .int .i64 c]] w1 fun e w' => e = .returned (.bool (mayV a b c)) ∧ Below w1.heap.size w1 w') := May_any a b c
  cases hm : mayV a b c
  · have HR : Hid (textV a b c = ByteArray.empty) := by unfold Hid textV; rw [hm]; rfl
    rw [hm] at HM
    clear ha hb hc
    go_enter Tryz.func31, Tryz.ntmps31
    go_wp2_with (go_at_call 40; refine (HM.out _).mono ?_; rintro e w' ⟨rfl, hb⟩)
    go_returns
    exact ⟨ret_str HR.out.symm, below_then (boxB _ _) hb⟩
  · have HR : Hid (textV a b c = (((⟨(Lib.itoa a).toArray⟩ ++ ⟨#[46]⟩) ++ ⟨(Lib.itoa b).toArray⟩) ++ ⟨#[46]⟩) ++ ⟨(Lib.itoa c).toArray⟩) := by unfold Hid textV; rw [hm]; rfl
    have HA : Hid (Spells w a ⟨(Lib.itoa a).toArray⟩) := ha hm
    have HB : Hid (Spells w b ⟨(Lib.itoa b).toArray⟩) := hb hm
    have HC : Hid (Spells w c ⟨(Lib.itoa c).toArray⟩) := hc hm
    obtain ⟨a0, a1, b0, b1, c0, c1⟩ := may_all hm
    have za := itoa_three a0 a1
    have zb := itoa_three b0 b1
    have zc := itoa_three c0 c1
    rw [hm] at HM
    clear ha hb hc a0 a1 b0 b1 c0 c1
    generalize (⟨(Lib.itoa a).toArray⟩ : ByteArray) = A at *
    generalize (⟨(Lib.itoa b).toArray⟩ : ByteArray) = B at *
    generalize (⟨(Lib.itoa c).toArray⟩ : ByteArray) = C at *
    have zd : (⟨#[46]⟩ : ByteArray).size = 1 := rfl
    have e1 := fun W : World => run_string_add_sum (P := Tryz.prog) (w := W) A ⟨#[46]⟩ (by omega)
    have e2 := fun W : World => run_string_add_sum (P := Tryz.prog) (w := W) (A ++ ⟨#[46]⟩) B (by rw [size_cat]; omega)
    have e3 := fun W : World => run_string_add_sum (P := Tryz.prog) (w := W) ((A ++ ⟨#[46]⟩) ++ B) ⟨#[46]⟩ (by rw [size_cat, size_cat]; omega)
    have e4 := fun W : World => run_string_add_sum (P := Tryz.prog) (w := W) (((A ++ ⟨#[46]⟩) ++ B) ++ ⟨#[46]⟩) C (by rw [size_cat, size_cat, size_cat]; omega)
    clear za zb zc zd
    go_enter Tryz.func31, Tryz.ntmps31
    go_wp2_with (go_at_call 40; refine (HM.out _).mono ?_; rintro e w0 ⟨rfl, hb0⟩; obtain ⟨k0, k1, k2, k3, k4⟩ := boxV hb0)
    have HB0 : Hid (Below w.heap.size w w0) := k4
    have HK0 : Hid (w.heap.size < w0.heap.size ∧ w0.cell? ⟨w.heap.size, 0, none⟩ = some (.int .i64 a) ∧ w0.cell? ⟨w.heap.size, 1, none⟩ = some (.int .i64 b) ∧ w0.cell? ⟨w.heap.size, 2, none⟩ = some (.int .i64 c)) := ⟨k3, k0, k1, k2⟩
    have t1 : True := trivial
    have t2 : True := trivial
    have t3 : True := trivial
    clear k4 hb0
    go_region_held3 (fun w' => w'.cell? ⟨w.heap.size, 0, none⟩ = some (.int .i64 a) ∧ w'.cell? ⟨w.heap.size, 1, none⟩ = some (.int .i64 b) ∧ w'.cell? ⟨w.heap.size, 2, none⟩ = some (.int .i64 c)) (go_keep)
      (first
        | (go_at_call 46; clear t1; refine (HA.out.next (N := w.heap.size) (x := .int .i64 a) (y := .int .i64 b) (z := .int .i64 c) _ ?_ ?_ ?_ ?_ ?_).mono ?_; (first | exact HB0.out | exact HB0.out.drew); exact HK0.out.1; exact HK0.out.2.1; exact HK0.out.2.2.1; exact HK0.out.2.2.2; rintro e w1 ⟨rfl, q0, q1, q2, l1, b1⟩; have HB1 : Hid (Below w.heap.size w w1) := b1; have HK1 : Hid (w.heap.size < w1.heap.size ∧ w1.cell? ⟨w.heap.size, 0, none⟩ = some (.int .i64 a) ∧ w1.cell? ⟨w.heap.size, 1, none⟩ = some (.int .i64 b) ∧ w1.cell? ⟨w.heap.size, 2, none⟩ = some (.int .i64 c)) := ⟨l1, q0, q1, q2⟩; clear b1)
        | (go_at_call 46; clear t2; refine (HB.out.next (N := w.heap.size) (x := .int .i64 a) (y := .int .i64 b) (z := .int .i64 c) _ ?_ ?_ ?_ ?_ ?_).mono ?_; (first | exact HB1.out | exact HB1.out.drew); exact HK1.out.1; exact HK1.out.2.1; exact HK1.out.2.2.1; exact HK1.out.2.2.2; rintro e w2 ⟨rfl, r0, r1, r2, l2, b2⟩; have HB2 : Hid (Below w.heap.size w w2) := b2; have HK2 : Hid (w.heap.size < w2.heap.size ∧ w2.cell? ⟨w.heap.size, 0, none⟩ = some (.int .i64 a) ∧ w2.cell? ⟨w.heap.size, 1, none⟩ = some (.int .i64 b) ∧ w2.cell? ⟨w.heap.size, 2, none⟩ = some (.int .i64 c)) := ⟨l2, r0, r1, r2⟩; clear b2)
        | (go_at_call 46; clear t3; refine (HC.out.next (N := w.heap.size) (x := .int .i64 a) (y := .int .i64 b) (z := .int .i64 c) _ ?_ ?_ ?_ ?_ ?_).mono ?_; (first | exact HB2.out | exact HB2.out.drew); exact HK2.out.1; exact HK2.out.2.1; exact HK2.out.2.2.1; exact HK2.out.2.2.2; rintro e w3 ⟨rfl, u0, u1, u2, l3, b3⟩; have HB3 : Hid (Below w.heap.size w w3) := b3; clear b3))
    all_goals go_wp2
    all_goals
      go_returns
      refine ⟨ret_str (by rw [HR.out]), ?_⟩
      exact HB3.out
end Go.Proofs.YtjbohacllhjgmaaGreatDoor
namespace Go.Proofs.YtjbohacllhjgmaaGreatDoor
open Go.RowKit
set_option maxRecDepth 100000

theorem spells_small (w : World) (i : Nat) (hi : i < 100) : Spells w (i : Int) ⟨(Lib.itoa (i : Int)).toArray⟩ := by
  intro w1 _
  refine (Tryz.strconv_Itoa_small i hi w1).mono ?_
  rintro e w' ⟨rfl, rfl⟩
  exact ⟨by rw [Lib.itoa_nonneg], Below.refl _ _⟩

theorem text123 : textV 1 2 3 = ⟨#[49, 46, 50, 46, 51]⟩ := by
  have e1 : Lib.itoa 1 = [49] := by rw [show (1 : Int) = ((1 : Nat) : Int) from rfl, Lib.itoa_nonneg, Lib.decDigits_one (by decide)]; rfl
  have e2 : Lib.itoa 2 = [50] := by rw [show (2 : Int) = ((2 : Nat) : Int) from rfl, Lib.itoa_nonneg, Lib.decDigits_one (by decide)]; rfl
  have e3 : Lib.itoa 3 = [51] := by rw [show (3 : Int) = ((3 : Nat) : Int) from rfl, Lib.itoa_nonneg, Lib.decDigits_one (by decide)]; rfl
  unfold textV
  rw [e1, e2, e3, if_pos (by decide)]
  decide +kernel

end Go.Proofs.YtjbohacllhjgmaaGreatDoor
namespace Go.Proofs.YtjbohacllhjgmaaGreatDoor
open Go.ChangeShapes Go.WideShapes Go.ChangeAt Go.RowKit
set_option maxRecDepth 100000

/-- The wrap that hands on what is listed, the reach and the world's shape. -/
theorem wrap_shaped {H : Type} {enc : TypeId × Value → H} {a : Assume} {C : Checked} {os : Os} {f : FuncId} {fn : Func} {s : ChangeSpec} {conds : List PathCond} {apart fresh handsOn again : Bool} {X : World → Array Value → Prop}
    (own : ownKnob C.prog.godebug = none) (started : os.Started) (noInit : C.prog.inits.idxOf? f = none) (hfn : C.prog.funcs[f]? = some fn)
    (witness : ∃ (w : World) (tape : Tape) (i : Input), w.os = os ∧ (w.forCall tape i).Shaped C.prog ∧ i.vars = [] ∧ Input.okWide C.prog (w.forCall tape i) .any w.heap.size f i ∧
      ((s.pre enc C.prog fn conds apart (w.forCall tape i).memory i.args ∧ X (w.forCall tape i).memory i.args) ∧ sizedMet enc C.prog fn (OpenSpec.ofChange s) apart (w.forCall tape i).memory i.args) ∧ a.holds C.prog (lone (Frame.enter C.prog f i.args .normal) [] (w.forCall tape i)))
    (contract : ∀ (W : World) (base : Nat) (args : Array Value) (ds gs : List (DataW H)) (before : List MemPlace),
      (∀ (j : Nat) t v, fn.params[j]? = some t → args[j]? = some v → Value.okWide C.prog W .any base t v) →
      DataW.Whole enc C.prog fn.params.toList s.vars apart W args.toList ds gs before →
      (DataW.weightsEach C.prog (fn.params.toList ++ s.plain.varTypes C.prog) (ds ++ gs)).all (· ≤ reachBytes) = true → W.ShapedOpen C.prog →
      Calls C.prog f args W fun e W' => ∃ v, e = .returned v ∧ s.post enc C.prog fn apart fresh handsOn again W args v W') :
    ReturnsInHanded a C os f .any (fun w args => (s.pre enc C.prog fn conds apart w args ∧ X w args) ∧ sizedMet enc C.prog fn (OpenSpec.ofChange s) apart w args) (s.post enc C.prog fn apart fresh handsOn again) := by
  refine returnsInHanded_of_calls own started noInit witness ?_
  intro w tape i _ hsh _ hok hpre _
  obtain ⟨_, _, _, fn', hfn', _, _, _, _, hval⟩ := hok
  have e : fn' = fn := Option.some.inj (hfn'.symm.trans hfn)
  subst e
  obtain ⟨⟨⟨ds, gs, before, hw, _⟩, _⟩, hz⟩ := hpre
  have hw' := DataW.Whole.of_heap (w' := w.forCall tape i) (by rfl) hw
  refine (contract (w.forCall tape i) w.heap.size i.args ds gs before hval hw' (hz.weights hw) hsh).mono fun e W' ⟨v, he, hp⟩ => ?_
  subst he
  exact ChangeSpec.post_blind hp

theorem own : ownKnob Tryz.prog.godebug = none := by kernel_rfl
theorem laidOut : laidOutB Tryz.prog = true := by kernel_rfl
theorem cellsInt : Tryz.prog.cellsOf 3 = 1 := by kernel_rfl
theorem cellsVer : Tryz.prog.cellsOf 39 = 3 := by kernel_rfl

theorem take_one {cs : List Value} {o : Nat} {v : Value} (h : (cs.drop o).take 1 = [v]) : cs[o]? = some v := by
  have h0 : ((cs.drop o).take 1)[0]? = some v := by rw [h]; rfl
  simpa using h0

theorem field_at {fs : Array Field} {i ty off : Nat} (h : (fs[i]?).map (fun f => (f.type, f.offset)) = some (ty, off)) : ∃ f, fs[i]? = some f ∧ f.type = ty ∧ f.offset = off := by
  cases hf : fs[i]? with
  | none => rw [hf] at h; cases h
  | some f =>
    rw [hf] at h
    simp only [Option.map_some, Option.some.injEq, Prod.mk.injEq] at h
    exact ⟨f, rfl, h.1, h.2⟩

theorem list3 {α : Type} {l : List α} (h : l.length = 3) : ∃ a b c, l = [a, b, c] := by
  match l, h with
  | [a, b, c], _ => exact ⟨a, b, c, rfl⟩

/-- A version that came in: three ints. -/
theorem open_ver {H : Type} {enc : TypeId × Value → H} {W : World} {base b0 : Nat} {spare : Nat → Bool} {held : Bool} {v : Value} {d : DataW H} {p : List MemPlace} (hv : Value.okWide Tryz.prog W .any b0 39 v)
    (h : DataW.Trod enc Tryz.prog W base spare held 39 v d p) : ∃ a b c, v = .agg #[.int .i64 a, .int .i64 b, .int .i64 c] ∧ isI a ∧ isI b ∧ isI c := by
  have hs : Tryz.prog.underlying 39 = some (.struct (Tryz.prog.fieldsOf 39)) := by kernel_rfl
  obtain ⟨cs, rfl, hsz⟩ := okWide_struct hs hv
  obtain ⟨n, h⟩ := h
  obtain ⟨xs, n', _, _, _, hxl, hf⟩ := DataW.trod_struct hs h
  have hfz : (Tryz.prog.fieldsOf 39).size = 3 := by kernel_rfl
  rw [cellsVer] at hsz
  have ints : ∀ i off, ((Tryz.prog.fieldsOf 39)[i]?).map (fun f => (f.type, f.offset)) = some (3, off) → i < 3 → ∃ k, cs.toList[off]? = some (.int .i64 k) ∧ (Lit.int .i64 k).wf = true := by
    intro i off hfd hi
    obtain ⟨f, h1, h2, h3⟩ := field_at hfd
    have hr := hf i f h1
    rw [h2, h3, cellsInt, List.getElem?_eq_getElem (by omega : i < xs.length)] at hr
    obtain ⟨k, e1, _, wk⟩ := DataW.trod_int Tryz.underlying3 hr
    exact ⟨k, take_one e1, wk⟩
  obtain ⟨a, a0, wa⟩ := ints 0 0 (by kernel_rfl) (by decide)
  obtain ⟨b, a1, wb⟩ := ints 1 1 (by kernel_rfl) (by decide)
  obtain ⟨c, a2, wc⟩ := ints 2 2 (by kernel_rfl) (by decide)
  obtain ⟨l⟩ := cs
  obtain ⟨x, y, z, rfl⟩ := list3 (l := l) (by simpa using hsz)
  simp at a0 a1 a2
  subst a0 a1 a2
  exact ⟨a, b, c, rfl, bounds_i64 wa, bounds_i64 wb, bounds_i64 wc⟩

end Go.Proofs.YtjbohacllhjgmaaGreatDoor
namespace Go.Proofs.YtjbohacllhjgmaaGreatDoor
open Go.ChangeShapes Go.WideShapes Go.ChangeAt Go.RowKit
set_option maxRecDepth 100000

/-- The wrap that hands on what is listed, the reach and the world's shape, with what the listed variables hold. -/
theorem wrap_laid {H : Type} {enc : TypeId × Value → H} {a : Assume} {C : Checked} {os : Os} {f : FuncId} {fn : Func} {s : ChangeSpec} {conds : List PathCond} {apart fresh handsOn again : Bool} {l : List (String × DataW Unit)}
    (own : ownKnob C.prog.godebug = none) (started : os.Started) (noInit : C.prog.inits.idxOf? f = none) (hfn : C.prog.funcs[f]? = some fn)
    (witness : ∃ (w : World) (tape : Tape) (i : Input), w.os = os ∧ (w.forCall tape i).Shaped C.prog ∧ i.vars = [] ∧ Input.okWide C.prog (w.forCall tape i) .any w.heap.size f i ∧
      ((s.pre enc C.prog fn conds apart (w.forCall tape i).memory i.args ∧ laidMetH C.prog l (w.forCall tape i).memory) ∧ sizedMet enc C.prog fn (OpenSpec.ofChange s) apart (w.forCall tape i).memory i.args) ∧ a.holds C.prog (lone (Frame.enter C.prog f i.args .normal) [] (w.forCall tape i)))
    (contract : ∀ (W : World) (base : Nat) (args : Array Value) (ds gs : List (DataW H)) (before : List MemPlace),
      (∀ (j : Nat) t v, fn.params[j]? = some t → args[j]? = some v → Value.okWide C.prog W .any base t v) →
      DataW.Whole enc C.prog fn.params.toList s.vars apart W args.toList ds gs before →
      (DataW.weightsEach C.prog (fn.params.toList ++ s.plain.varTypes C.prog) (ds ++ gs)).all (· ≤ reachBytes) = true → W.ShapedOpen C.prog → laidMetH C.prog l W →
      Calls C.prog f args W fun e W' => ∃ v, e = .returned v ∧ s.post enc C.prog fn apart fresh handsOn again W args v W') :
    ReturnsInHanded a C os f .any (fun w args => (s.pre enc C.prog fn conds apart w args ∧ laidMetH C.prog l w) ∧ sizedMet enc C.prog fn (OpenSpec.ofChange s) apart w args) (s.post enc C.prog fn apart fresh handsOn again) := by
  refine returnsInHanded_of_calls own started noInit witness ?_
  intro w tape i _ hsh _ hok hpre _
  obtain ⟨_, _, _, fn', hfn', _, _, _, _, hval⟩ := hok
  have e : fn' = fn := Option.some.inj (hfn'.symm.trans hfn)
  subst e
  obtain ⟨⟨⟨ds, gs, before, hw, _⟩, hX⟩, hz⟩ := hpre
  have hw' := DataW.Whole.of_heap (w' := w.forCall tape i) (by rfl) hw
  have hX' := laidMetH.of_heap (w' := w.forCall tape i) (by rfl) hX
  refine (contract (w.forCall tape i) w.heap.size i.args ds gs before hval hw' (hz.weights hw) hsh hX').mono fun e W' ⟨v, he, hp⟩ => ?_
  subst he
  exact ChangeSpec.post_blind hp

theorem tab_is {W : World} {r : List (String × DataW Unit)} (h : laidMet Tryz.prog (("math/bits.deBruijn32tab", Rows.laid_math_bits_deBruijn32tab) :: ("math/bits.deBruijn64tab", Rows.laid_math_bits_deBruijn64tab) :: ("internal/strconv.uint64pow10", Rows.laid_internal_strconv_uint64pow10) :: r) W) :
    Lib.TabIs Tryz.prog W "internal/strconv.uint64pow10" .u64 Lib.pow10Tab := by
  have h2 : laidMet Tryz.prog (("internal/strconv.uint64pow10", Lib.tabData .u64 Lib.pow10Tab) :: r) W := (laidMet.tail (laidMet.tail h))
  exact Lib.tabIs_of_head (g := 0) (t := 111) (e := 102) (n := 20) (by kernel_rfl) (by kernel_rfl) (by kernel_rfl) Tryz.underlying102 (by kernel_rfl) (by kernel_rfl) h2

/-- Itoa answers with the numeral, in whatever world stands on one with the table. -/
theorem spells_tab {W : World} (h : Lib.TabIs Tryz.prog W "internal/strconv.uint64pow10" .u64 Lib.pow10Tab) (w : World) (hw : Below W.heap.size W w) (n : Int) (h0 : 0 ≤ n) (h1 : n ≤ 999) : Spells w n ⟨(Lib.itoa n).toArray⟩ := by
  intro w1 hb
  have ht := Lib.tabBelow_of_tabIs h w1 (below_then hw hb)
  refine (Tryz.strconv_Itoa n (by omega) (by omega) w1 ht).mono ?_
  rintro e w' ⟨rfl, k, os, rfl⟩
  exact ⟨rfl, Lib.below_grow _ _ (Nat.le_refl _) k os⟩
end Go.Proofs.YtjbohacllhjgmaaGreatDoor
namespace Go.Proofs.YtjbohacllhjgmaaGreatDoor
set_option maxRecDepth 100000

theorem cmp_neg (a b c x y z : Int) : cmpV a b c x y z = -cmpV x y z a b c := by unfold cmpV; grind
theorem cmp_range (a b c x y z : Int) : cmpV a b c x y z = -1 ∨ cmpV a b c x y z = 0 ∨ cmpV a b c x y z = 1 := by unfold cmpV; grind
theorem cmp_zero (a b c x y z : Int) : cmpV a b c x y z = 0 ↔ a = x ∧ b = y ∧ c = z := by unfold cmpV; grind
theorem rank_of {a b c : Int} (h : mayV a b c = true) : rankV a b c = (a * 1000 + b) * 1000 + c := by unfold rankV; rw [if_pos h]
theorem rank_low {a b c : Int} (h : mayV a b c = true) : 0 ≤ rankV a b c ∧ rankV a b c < 1000000000 := by
  have := may_all h; rw [rank_of h]; omega
theorem cmp_rank {a b c x y z : Int} (h : mayV a b c = true) (k : mayV x y z = true) : cmpV a b c x y z < 0 ↔ rankV a b c < rankV x y z := by
  have h1 := may_all h; have k1 := may_all k
  rw [rank_of h, rank_of k]
  unfold cmpV
  split
  · subst_vars
    split
    · subst_vars
      split
      · omega
      · split <;> omega
    · split <;> omega
  · split <;> omega
theorem cmp_rank_eq {a b c x y z : Int} (h : mayV a b c = true) (k : mayV x y z = true) : cmpV a b c x y z = 0 ↔ rankV a b c = rankV x y z := by
  have h1 := may_all h; have k1 := may_all k
  rw [rank_of h, rank_of k, cmp_zero]
  omega
theorem has_rank {a b c : Int} (h : mayV a b c = true) : hasV (rankV a b c) = true := by
  have := rank_low h; unfold hasV; simp; omega
theorem at_rank {a b c : Int} (h : mayV a b c = true) : atA (rankV a b c) = a ∧ atB (rankV a b c) = b ∧ atC (rankV a b c) = c := by
  have h1 := may_all h
  unfold atA atB atC
  rw [has_rank h, rank_of h]
  simp
  omega
theorem may_at {n : Int} (h : hasV n = true) : mayV (atA n) (atB n) (atC n) = true ∧ rankV (atA n) (atB n) (atC n) = n := by
  have h1 : 0 ≤ n ∧ n < 1000000000 := by unfold hasV at h; simpa using h
  have m : mayV (atA n) (atB n) (atC n) = true := by
    unfold mayV partB atA atB atC
    rw [h]
    simp
    omega
  refine ⟨m, ?_⟩
  rw [rank_of m]
  unfold atA atB atC
  rw [h]
  simp
  omega
theorem on_is {a b c k : Int} (h : mayV a b c = true) : onIs a b c k = hasV (rankV a b c + k) := by unfold onIs; rw [h]; rfl
theorem on_at {a b c k : Int} (h : mayV a b c = true) : onA a b c k = atA (rankV a b c + k) ∧ onB a b c k = atB (rankV a b c + k) ∧ onC a b c k = atC (rankV a b c + k) := by
  unfold onA onB onC; rw [h]; exact ⟨rfl, rfl, rfl⟩
theorem on_may {a b c k : Int} (h : onIs a b c k = true) : mayV a b c = true ∧ mayV (onA a b c k) (onB a b c k) (onC a b c k) = true ∧ rankV (onA a b c k) (onB a b c k) (onC a b c k) = rankV a b c + k := by
  have hm : mayV a b c = true := by unfold onIs at h; revert h; cases mayV a b c <;> simp
  rw [on_is hm] at h
  obtain ⟨e1, e2, e3⟩ := on_at (k := k) hm
  rw [e1, e2, e3]
  exact ⟨hm, may_at h⟩
theorem prev_is {a b c : Int} (h : mayV a b c = true) : onIs a b c (-1) = decide (0 < rankV a b c) := by
  have := rank_low h
  rw [on_is h]; unfold hasV
  rw [Bool.eq_iff_iff]; simp; omega
theorem next_is {a b c : Int} (h : mayV a b c = true) : onIs a b c 1 = decide (rankV a b c < 999999999) := by
  have := rank_low h
  rw [on_is h]; unfold hasV
  rw [Bool.eq_iff_iff]; simp; omega
/-- Next of Prev is the version. -/
theorem next_prev {a b c : Int} (h : onIs a b c (-1) = true) :
    onIs (onA a b c (-1)) (onB a b c (-1)) (onC a b c (-1)) 1 = true ∧ onA (onA a b c (-1)) (onB a b c (-1)) (onC a b c (-1)) 1 = a ∧ onB (onA a b c (-1)) (onB a b c (-1)) (onC a b c (-1)) 1 = b ∧ onC (onA a b c (-1)) (onB a b c (-1)) (onC a b c (-1)) 1 = c := by
  obtain ⟨hm, hp, hr⟩ := on_may h
  rw [on_is hp]
  obtain ⟨e1, e2, e3⟩ := on_at (k := 1) hp
  rw [e1, e2, e3, hr]
  have e : rankV a b c + -1 + 1 = rankV a b c := by omega
  rw [e]
  exact ⟨has_rank hm, at_rank hm⟩
theorem prev_less {a b c : Int} (h : onIs a b c (-1) = true) : cmpV (onA a b c (-1)) (onB a b c (-1)) (onC a b c (-1)) a b c = -1 := by
  obtain ⟨hm, hp, hr⟩ := on_may h
  have := (cmp_rank hp hm).2 (by omega)
  rcases cmp_range (onA a b c (-1)) (onB a b c (-1)) (onC a b c (-1)) a b c with e | e | e <;> omega
end Go.Proofs.YtjbohacllhjgmaaGreatDoor
namespace Go.Proofs.YtjbohacllhjgmaaGreatDoor
set_option maxRecDepth 100000

/-- The number that a row of digits spells. -/
def valOf (l : List UInt8) : Nat := l.foldl (fun n d => n * 10 + (d.toNat - 48)) 0

theorem val_snoc (l : List UInt8) (d : UInt8) : valOf (l ++ [d]) = valOf l * 10 + (d.toNat - 48) := by simp [valOf]

theorem digit_nat {k : Nat} (h : k < 10) : (UInt8.ofNat (48 + k)).toNat = 48 + k := by
  rw [UInt8.toNat_ofNat']; omega

theorem val_dec (u : Nat) : valOf (Lib.decDigits u) = u := by
  induction u using Nat.strongRecOn with
  | _ u ih =>
    rw [Lib.decDigits]
    split
    · rename_i h
      have := digit_nat h
      simp [valOf]; omega
    · rename_i h
      rw [val_snoc, ih (u / 10) (by omega)]
      have := digit_nat (k := u % 10) (by omega)
      omega

theorem dec_digits (u : Nat) : ∀ d ∈ Lib.decDigits u, 48 ≤ d.toNat ∧ d.toNat ≤ 57 := by
  induction u using Nat.strongRecOn with
  | _ u ih =>
    rw [Lib.decDigits]
    split
    · rename_i h
      intro d hd
      have := digit_nat h
      rw [List.mem_singleton] at hd; subst hd; omega
    · rename_i h
      intro d hd
      rcases List.mem_append.1 hd with h1 | h1
      · exact ih (u / 10) (by omega) d h1
      · have := digit_nat (k := u % 10) (by omega)
        rw [List.mem_singleton] at h1; subst h1; omega

theorem dec_ne (u : Nat) : Lib.decDigits u ≠ [] := by
  rw [Lib.decDigits]; split <;> simp

theorem itoa_of {n : Int} (h : 0 ≤ n) : Lib.itoa n = Lib.decDigits n.toNat := by
  obtain ⟨u, rfl⟩ : ∃ u : Nat, n = u := ⟨n.toNat, by omega⟩
  rw [Lib.itoa_nonneg]; rfl

theorem no_dot {n : Int} (h : 0 ≤ n) : (46 : UInt8) ∉ Lib.itoa n := by
  rw [itoa_of h]
  intro hd
  have := (dec_digits _ _ hd).1
  revert this; decide

theorem itoa_inj {m n : Int} (hm : 0 ≤ m) (hn : 0 ≤ n) (h : Lib.itoa m = Lib.itoa n) : m = n := by
  rw [itoa_of hm, itoa_of hn] at h
  have := congrArg valOf h
  rw [val_dec, val_dec] at this
  omega

theorem split_dot {l1 l2 r1 r2 : List UInt8} (h1 : (46 : UInt8) ∉ l1) (h2 : (46 : UInt8) ∉ l2) (h : l1 ++ 46 :: r1 = l2 ++ 46 :: r2) : l1 = l2 ∧ r1 = r2 := by
  induction l1 generalizing l2 with
  | nil =>
    cases l2 with
    | nil => simp at h; exact ⟨rfl, h⟩
    | cons x l2 => simp at h; exact absurd (by rw [h.1]; simp) h2
  | cons y l1 ih =>
    cases l2 with
    | nil => simp at h; exact absurd (by rw [h.1]; simp) h1
    | cons x l2 =>
      simp at h
      obtain ⟨e1, e2⟩ := ih (fun m => h1 (List.mem_cons_of_mem _ m)) (fun m => h2 (List.mem_cons_of_mem _ m)) h.2
      exact ⟨by rw [h.1, e1], e2⟩

theorem text_list {a b c : Int} (h : mayV a b c = true) : (textV a b c).data.toList = Lib.itoa a ++ 46 :: (Lib.itoa b ++ 46 :: Lib.itoa c) := by
  unfold textV; rw [if_pos h]
  simp [ByteArray.data_append]

theorem text_inj {a b c x y z : Int} (h : mayV a b c = true) (k : mayV x y z = true) : textV a b c = textV x y z ↔ a = x ∧ b = y ∧ c = z := by
  constructor
  · intro e
    have e1 := congrArg (fun s : ByteArray => s.data.toList) e
    simp only [text_list h, text_list k] at e1
    obtain ⟨a0, _, b0, _, c0, _⟩ := may_all h
    obtain ⟨x0, _, y0, _, z0, _⟩ := may_all k
    obtain ⟨f1, f2⟩ := split_dot (no_dot a0) (no_dot x0) e1
    obtain ⟨f3, f4⟩ := split_dot (no_dot b0) (no_dot y0) f2
    exact ⟨itoa_inj a0 x0 f1, itoa_inj b0 y0 f3, itoa_inj c0 z0 f4⟩
  · rintro ⟨rfl, rfl, rfl⟩; rfl
end Go.Proofs.YtjbohacllhjgmaaGreatDoor
namespace Go.Proofs.YtjbohacllhjgmaaGreatDoor
open Go.RowKit
set_option maxRecDepth 100000

/-- A block and the three values that lie there. -/
structure Bx where
  n : Nat
  x : Value
  y : Value
  z : Value

/-- What lies in one box. -/
def BxAt (w1 : World) (q : Bx) : Prop := w1.cell? ⟨q.n, 0, none⟩ = some q.x ∧ w1.cell? ⟨q.n, 1, none⟩ = some q.y ∧ w1.cell? ⟨q.n, 2, none⟩ = some q.z ∧ q.n < w1.heap.size

/-- Nothing old has turned, and the boxes lie there. -/
def OKs (w : World) (bs : List Bx) (w1 : World) : Prop := Below w.heap.size w w1 ∧ ∀ q ∈ bs, BxAt w1 q

theorem BxAt.below {w1 w' : World} {q : Bx} (h : BxAt w1 q) (hb : Below w1.heap.size w1 w') : BxAt w' q := keepV hb h.2.2.2 h.1 h.2.1 h.2.2.1

theorem OKs.drew {w : World} {bs : List Bx} {w1 : World} (h : OKs w bs w1) : OKs w bs w1.drew := ⟨h.1.drew, fun q hq => h.2 q hq⟩
theorem OKs.draws {w : World} {bs : List Bx} {w1 : World} (h : OKs w bs w1) (n : Nat) : OKs w bs (w1.drewN n) := ⟨below_draws h.1 n, fun q hq => h.2 q hq⟩
theorem OKs.below {w : World} {bs : List Bx} {w1 w' : World} (h : OKs w bs w1) (hb : Below w1.heap.size w1 w') : OKs w bs w' := ⟨below_then h.1 hb, fun q hq => (h.2 q hq).below hb⟩
theorem OKs.nil (w : World) : OKs w [] w := ⟨Below.refl _ _, fun q hq => by cases hq⟩
theorem OKs.box {w : World} {bs : List Bx} {w1 : World} (h : OKs w bs w1) {N : Nat} (hN : w1.heap.size = N) (x y z : Value) : OKs w (⟨N, x, y, z⟩ :: bs) (w1.alloc (.cells #[x, y, z] 39)) := by
  subst hN
  refine ⟨below_then h.1 (boxB _ _), fun q hq => ?_⟩
  rcases List.mem_cons.1 hq with rfl | hq
  · refine ⟨?_, ?_, ?_, ?_⟩
    · simp
    · simp
    · simp
    · show w1.heap.size < (w1.alloc _).heap.size
      simp
  · exact (h.2 q hq).below (boxB _ _)
theorem OKs.put {w : World} {bs : List Bx} {w1 : World} {N : Nat} {x y z : Value} (h : OKs w (⟨N, x, y, z⟩ :: bs) w1) (hN : w.heap.size ≤ N) (hd : ∀ q ∈ bs, q.n ≠ N) (u v t : Value) :
    OKs w (⟨N, u, v, t⟩ :: bs) (((w1.setCell ⟨N, 0, none⟩ u).setCell ⟨N, 1, none⟩ v).setCell ⟨N, 2, none⟩ t) := by
  refine ⟨((h.1.setCell hN _).setCell hN _).setCell hN _, fun q hq => ?_⟩
  obtain ⟨j0, j1, j2, j3⟩ := h.2 _ (List.mem_cons_self)
  rcases List.mem_cons.1 hq with rfl | hq
  · have k1 : (w1.setCell ⟨N, 0, none⟩ u).cell? ⟨N, 1, none⟩ = some y := (World.cell?_setCell_other _ _ _ _ (by simp)).trans j1
    have k2 : ((w1.setCell ⟨N, 0, none⟩ u).setCell ⟨N, 1, none⟩ v).cell? ⟨N, 2, none⟩ = some z := (World.cell?_setCell_other _ _ _ _ (by simp)).trans ((World.cell?_setCell_other _ _ _ _ (by simp)).trans j2)
    refine ⟨?_, ?_, ?_, by simpa using j3⟩
    · rw [World.cell?_setCell_other _ _ _ _ (by simp), World.cell?_setCell_other _ _ _ _ (by simp)]; exact World.cell?_setCell_same _ _ _ j0
    · rw [World.cell?_setCell_other _ _ _ _ (by simp)]; exact World.cell?_setCell_same _ _ _ k1
    · exact World.cell?_setCell_same _ _ _ k2
  · obtain ⟨i0, i1, i2, i3⟩ := h.2 q (List.mem_cons_of_mem _ hq)
    have hne := hd q hq
    have far : ∀ o s, (⟨N, o, none⟩ : Addr) ≠ ⟨q.n, s, none⟩ := fun o s e => hne (by injection e with e1; exact e1.symm)
    refine ⟨?_, ?_, ?_, by simpa using i3⟩
    · rw [World.cell?_setCell_other _ _ _ _ (far _ _), World.cell?_setCell_other _ _ _ _ (far _ _), World.cell?_setCell_other _ _ _ _ (far _ _)]; exact i0
    · rw [World.cell?_setCell_other _ _ _ _ (far _ _), World.cell?_setCell_other _ _ _ _ (far _ _), World.cell?_setCell_other _ _ _ _ (far _ _)]; exact i1
    · rw [World.cell?_setCell_other _ _ _ _ (far _ _), World.cell?_setCell_other _ _ _ _ (far _ _), World.cell?_setCell_other _ _ _ _ (far _ _)]; exact i2

/-- A call that writes new blocks alone, from a world with boxes. -/
theorem lift {P : Program} {f : Nat} {args : Array Value} {R : Ending} (h : ∀ w1, Calls P f args w1 fun e w' => e = R ∧ Below w1.heap.size w1 w') {w : World} {bs : List Bx} (w1 : World) (ok : OKs w bs w1) :
    Calls P f args w1 fun e w' => e = R ∧ OKs w bs w' := by
  refine (h w1).mono ?_
  rintro e w' ⟨rfl, hb⟩
  exact ⟨rfl, ok.below hb⟩

theorem OKs.one {w : World} {q : Bx} {bs : List Bx} {w1 : World} (h : OKs w (q :: bs) w1) : BxAt w1 q := h.2 q List.mem_cons_self
theorem OKs.two {w : World} {q r : Bx} {bs : List Bx} {w1 : World} (h : OKs w (q :: r :: bs) w1) : BxAt w1 r := h.2 r (by simp)
theorem OKs.three {w : World} {q r s : Bx} {bs : List Bx} {w1 : World} (h : OKs w (q :: r :: s :: bs) w1) : BxAt w1 s := h.2 s (by simp)
theorem OKs.four {w : World} {q r s t : Bx} {bs : List Bx} {w1 : World} (h : OKs w (q :: r :: s :: t :: bs) w1) : BxAt w1 t := h.2 t (by simp)
theorem OKs.five {w : World} {q r s t u : Bx} {bs : List Bx} {w1 : World} (h : OKs w (q :: r :: s :: t :: u :: bs) w1) : BxAt w1 u := h.2 u (by simp)
theorem OKs.six {w : World} {q r s t u v : Bx} {bs : List Bx} {w1 : World} (h : OKs w (q :: r :: s :: t :: u :: v :: bs) w1) : BxAt w1 v := h.2 v (by simp)
theorem OKs.seven {w : World} {q r s t u v x : Bx} {bs : List Bx} {w1 : World} (h : OKs w (q :: r :: s :: t :: u :: v :: x :: bs) w1) : BxAt w1 x := h.2 x (by simp)
end Go.Proofs.YtjbohacllhjgmaaGreatDoor
namespace Go.Proofs.YtjbohacllhjgmaaGreatDoor
open Go.RowKit
set_option maxRecDepth 100000

/-- A byte wherever it lies, as a string. -/
theorem byte_at (d : Int) (h0 : 0 ≤ d) (h1 : d < 10) (W : World) (N : Nat) (hN : W.cell? ⟨N, 0, none⟩ = some (.int .u8 (48 + d))) :
    (convert 77 9 (.slice (some ⟨N, 0, none⟩) 1 1)).run Tryz.prog W = .ok (.string ⟨#[UInt8.ofNat (48 + d.toNat)]⟩) W := by
  have e := digit_nat (k := d.toNat) (by omega)
  exact run_convert_bytes_back (P := Tryz.prog) W 77 9 5 ⟨N, 0, none⟩ 1 [UInt8.ofNat (48 + d.toNat)] Tryz.underlying77 Tryz.underlying5 Tryz.underlying9 (fun j hj => by
    have hj0 : j = 0 := by simp at hj; exact hj
    subst hj0
    rw [show (⟨N, 0, none⟩ : Addr).add 0 = ⟨N, 0, none⟩ from rfl, hN]
    simp only [List.getElem_cons_zero]
    rw [e]
    congr 2
    omega)

theorem byte_back (d : Int) (h0 : 0 ≤ d) (h1 : d < 10) (W : World) :
    (convert 77 9 (.slice (some ⟨W.heap.size, 0, none⟩) 1 1)).run Tryz.prog (W.alloc (.cells #[.int .u8 (48 + d)] 5)) = .ok (.string ⟨#[UInt8.ofNat (48 + d.toNat)]⟩) (W.alloc (.cells #[.int .u8 (48 + d)] 5)) :=
  byte_at d h0 h1 _ _ (by rw [World.cell?_alloc_new]; rfl)

theorem itoa_small {n : Int} (h0 : 0 ≤ n) (h1 : n < 10) : Lib.itoa n = [UInt8.ofNat (48 + n.toNat)] := by
  rw [itoa_of h0, Lib.decDigits_one (by omega)]
theorem itoa_more {n : Int} (h0 : 10 ≤ n) : Lib.itoa n = Lib.itoa (n / 10) ++ [UInt8.ofNat (48 + (n % 10).toNat)] := by
  rw [itoa_of (by omega), itoa_of (by omega), Lib.decDigits, dif_neg (by omega)]
  have e1 : n.toNat / 10 = (n / 10).toNat := by omega
  have e2 : n.toNat % 10 = (n % 10).toNat := by omega
  rw [e1, e2]

set_option maxHeartbeats 1600000 in
theorem Number_small (n : Int) (h0 : 0 ≤ n) (h1 : n < 10) (w : World) :
    Calls Tryz.prog 30 #[.int .i64 n] w fun e w' => e = .returned (.string ⟨(Lib.itoa n).toArray⟩) ∧ Below w.heap.size w w' := by
  have hc := byte_back n h0 h1
  go_enter Tryz.func30, Tryz.ntmps30
  go_wp2
  go_returns
  exact ⟨ret_str (by simp [itoa_small h0 h1]), boxB _ _⟩

set_option maxHeartbeats 1600000 in
theorem Number_more (n : Int) (h0 : 10 ≤ n) (h1 : n ≤ 999) (w : World) (A : ByteArray) (hA : A.size ≤ 100) (D : UInt8) (hD : UInt8.ofNat (48 + (n % 10).toNat) = D)
    (HN : Hid (∀ w1, Calls Tryz.prog 30 #[.int .i64 (n / 10)] w1 fun e w' => e = .returned (.string A) ∧ Below w1.heap.size w1 w')) :
    Calls Tryz.prog 30 #[.int .i64 n] w fun e w' => e = .returned (.string (A ++ ⟨#[D]⟩)) ∧ Below w.heap.size w w' := by
  have HA : Hid (∀ (W : World) (N : Nat), W.cell? ⟨N, 0, none⟩ = some (.int .u8 (48 + n % 10)) → (convert 77 9 (.slice (some ⟨N, 0, none⟩) 1 1)).run Tryz.prog W = .ok (.string ⟨#[D]⟩) W) := by
    intro W N hN
    have := byte_at (n % 10) (by omega) (by omega) W N hN
    rw [hD] at this
    exact this
  have hc : ∀ W : World, (convert 77 9 (.slice (some ⟨W.heap.size, 0, none⟩) 1 1)).run Tryz.prog (W.alloc (.cells #[.int .u8 (48 + n % 10)] 5)) = .ok (.string ⟨#[D]⟩) (W.alloc (.cells #[.int .u8 (48 + n % 10)] 5)) := fun W => HA.out _ _ (by rw [World.cell?_alloc_new]; rfl)
  have hc2 : ∀ W : World, (convert 77 9 (.slice (some ⟨W.heap.size, 0, none⟩) 1 1)).run Tryz.prog (W.alloc (.cells #[.int .u8 (48 + n % 10)] 5)).drew = .ok (.string ⟨#[D]⟩) (W.alloc (.cells #[.int .u8 (48 + n % 10)] 5)).drew := fun W => HA.out _ _ (by rw [World.cell?_drew, World.cell?_alloc_new]; rfl)
  have e1 := fun W : World => run_string_add_sum (P := Tryz.prog) (w := W) A ⟨#[D]⟩ (by have : (⟨#[D]⟩ : ByteArray).size = 1 := rfl; omega)
  have hq : IntKind.i64.wrap (n.tdiv 10) = n / 10 := by rw [Int.tdiv_eq_ediv_of_nonneg (by omega), IntKind.wrap_i64]; omega
  have hr : n.tmod 10 = n % 10 := Int.tmod_eq_emod_of_nonneg (by omega)
  have hs : IntKind.i64.wrap (48 + n % 10) = 48 + n % 10 := by rw [IntKind.wrap_i64]; omega
  have hu : IntKind.u8.wrap (48 + n % 10) = 48 + n % 10 := by rw [IntKind.wrap_u8]; omega
  clear hD
  go_enter Tryz.func30, Tryz.ntmps30
  go_wp2_with fail
  go_region_with (go_at_call 30; refine (HN.out _).mono ?_; rintro e w1 ⟨rfl, hb⟩; have hcc := hb.cell (p := ⟨w.heap.size, 0, none⟩); have hcd := HA.out w1 w.heap.size; have HB : Hid (Below w.heap.size w w1) := below_then (by go_grown) hb; clear hb)
  all_goals go_wp2
  all_goals
    go_returns
    have hb := HB.out
    have hbs := hb.size
    exact ⟨rfl, by go_grown⟩

theorem Number_any (n : Int) (h0 : 0 ≤ n) (h1 : n ≤ 999) (w : World) :
    Calls Tryz.prog 30 #[.int .i64 n] w fun e w' => e = .returned (.string ⟨(Lib.itoa n).toArray⟩) ∧ Below w.heap.size w w' := by
  obtain ⟨k, hk⟩ : ∃ k : Nat, n.toNat = k := ⟨_, rfl⟩
  induction k using Nat.strongRecOn generalizing n w with
  | _ k ih =>
    by_cases h : n < 10
    · exact Number_small n h0 h w
    · have := Number_more n (by omega) h1 w ⟨(Lib.itoa (n / 10)).toArray⟩ (Nat.le_trans (itoa_three (by omega) (by omega)) (by decide)) _ rfl (fun w1 => ih (n / 10).toNat (by omega) (n / 10) (by omega) (by omega) w1 rfl)
      refine this.mono ?_
      rintro e w' ⟨rfl, hb⟩
      refine ⟨ret_str ?_, hb⟩
      have e := itoa_more (n := n) (by omega)
      rw [e]
      simp [ByteArray.ext_iff, ByteArray.data_append]

/-- What Print asks of Number. -/
def SpellsR (w : World) (n : Int) (S : ByteArray) : Prop := ∀ w1, Below w.heap.size w w1 → Calls Tryz.prog 30 #[.int .i64 n] w1 fun e w' => e = .returned (.string S) ∧ Below w1.heap.size w1 w'

theorem SpellsR.next {w : World} {n : Int} {S : ByteArray} (h : SpellsR w n S) {N : Nat} {x y z : Value} (w1 : World) (hb : Below w.heap.size w w1) (hl : N < w1.heap.size) (c0 : w1.cell? ⟨N, 0, none⟩ = some x) (c1 : w1.cell? ⟨N, 1, none⟩ = some y) (c2 : w1.cell? ⟨N, 2, none⟩ = some z) :
    Calls Tryz.prog 30 #[.int .i64 n] w1 fun e w' => e = .returned (.string S) ∧ w'.cell? ⟨N, 0, none⟩ = some x ∧ w'.cell? ⟨N, 1, none⟩ = some y ∧ w'.cell? ⟨N, 2, none⟩ = some z ∧ N < w'.heap.size ∧ Below w.heap.size w w' := by
  refine (h w1 hb).mono ?_
  rintro e w' ⟨rfl, hb1⟩
  exact ⟨rfl, (hb1.cell (p := ⟨N, 0, none⟩) hl).trans c0, (hb1.cell (p := ⟨N, 1, none⟩) hl).trans c1, (hb1.cell (p := ⟨N, 2, none⟩) hl).trans c2, Nat.lt_of_lt_of_le hl hb1.size, hb.trans (hb1.mono hb.size)⟩

set_option maxHeartbeats 1600000 in
theorem rPrint_all (a b c : Int) (w : World) (ha : mayV a b c = true → SpellsR w a ⟨(Lib.itoa a).toArray⟩) (hb : mayV a b c = true → SpellsR w b ⟨(Lib.itoa b).toArray⟩) (hc : mayV a b c = true → SpellsR w c ⟨(Lib.itoa c).toArray⟩) :
    Calls Tryz.prog 25 #[.agg #[.int .i64 a, .int .i64 b, .int .i64 c]] w fun e w' => e = .returned (.string (textV a b c)) ∧ Below w.heap.size w w' := by
  have HM : Hid (∀ w1, Calls Tryz.prog 27 #[.agg #[.int .i64 a, .int .i64 b, .int .i64 c]] w1 fun e w' => e = .returned (.bool (mayV a b c)) ∧ Below w1.heap.size w1 w') := rMay_any a b c
  cases hm : mayV a b c
  · have HR : Hid (textV a b c = ByteArray.empty) := by unfold Hid textV; rw [hm]; rfl
    rw [hm] at HM
    clear ha hb hc
    go_enter Tryz.func25, Tryz.ntmps25
    go_wp2_with (go_at_call 27; refine (HM.out _).mono ?_; rintro e w' ⟨rfl, hb⟩)
    go_returns
    exact ⟨ret_str HR.out.symm, below_then (boxB _ _) hb⟩
  · have HR : Hid (textV a b c = (((⟨(Lib.itoa a).toArray⟩ ++ ⟨#[46]⟩) ++ ⟨(Lib.itoa b).toArray⟩) ++ ⟨#[46]⟩) ++ ⟨(Lib.itoa c).toArray⟩) := by unfold Hid textV; rw [hm]; rfl
    have HA : Hid (SpellsR w a ⟨(Lib.itoa a).toArray⟩) := ha hm
    have HB : Hid (SpellsR w b ⟨(Lib.itoa b).toArray⟩) := hb hm
    have HC : Hid (SpellsR w c ⟨(Lib.itoa c).toArray⟩) := hc hm
    obtain ⟨a0, a1, b0, b1, c0, c1⟩ := may_all hm
    have za := itoa_three a0 a1
    have zb := itoa_three b0 b1
    have zc := itoa_three c0 c1
    rw [hm] at HM
    clear ha hb hc a0 a1 b0 b1 c0 c1
    generalize (⟨(Lib.itoa a).toArray⟩ : ByteArray) = A at *
    generalize (⟨(Lib.itoa b).toArray⟩ : ByteArray) = B at *
    generalize (⟨(Lib.itoa c).toArray⟩ : ByteArray) = C at *
    have zd : (⟨#[46]⟩ : ByteArray).size = 1 := rfl
    have e1 := fun W : World => run_string_add_sum (P := Tryz.prog) (w := W) A ⟨#[46]⟩ (by omega)
    have e2 := fun W : World => run_string_add_sum (P := Tryz.prog) (w := W) (A ++ ⟨#[46]⟩) B (by rw [size_cat]; omega)
    have e3 := fun W : World => run_string_add_sum (P := Tryz.prog) (w := W) ((A ++ ⟨#[46]⟩) ++ B) ⟨#[46]⟩ (by rw [size_cat, size_cat]; omega)
    have e4 := fun W : World => run_string_add_sum (P := Tryz.prog) (w := W) (((A ++ ⟨#[46]⟩) ++ B) ++ ⟨#[46]⟩) C (by rw [size_cat, size_cat, size_cat]; omega)
    clear za zb zc zd
    go_enter Tryz.func25, Tryz.ntmps25
    go_wp2_with (go_at_call 27; refine (HM.out _).mono ?_; rintro e w0 ⟨rfl, hb0⟩; obtain ⟨k0, k1, k2, k3, k4⟩ := boxV hb0)
    have HB0 : Hid (Below w.heap.size w w0) := k4
    have HK0 : Hid (w.heap.size < w0.heap.size ∧ w0.cell? ⟨w.heap.size, 0, none⟩ = some (.int .i64 a) ∧ w0.cell? ⟨w.heap.size, 1, none⟩ = some (.int .i64 b) ∧ w0.cell? ⟨w.heap.size, 2, none⟩ = some (.int .i64 c)) := ⟨k3, k0, k1, k2⟩
    have t1 : True := trivial
    have t2 : True := trivial
    have t3 : True := trivial
    clear k4 hb0
    go_region_held3 (fun w' => w'.cell? ⟨w.heap.size, 0, none⟩ = some (.int .i64 a) ∧ w'.cell? ⟨w.heap.size, 1, none⟩ = some (.int .i64 b) ∧ w'.cell? ⟨w.heap.size, 2, none⟩ = some (.int .i64 c)) (go_keep)
      (first
        | (go_at_call 30; clear t1; refine (HA.out.next (N := w.heap.size) (x := .int .i64 a) (y := .int .i64 b) (z := .int .i64 c) _ ?_ ?_ ?_ ?_ ?_).mono ?_; (first | exact HB0.out | exact HB0.out.drew); exact HK0.out.1; exact HK0.out.2.1; exact HK0.out.2.2.1; exact HK0.out.2.2.2; rintro e w1 ⟨rfl, q0, q1, q2, l1, b1⟩; have HB1 : Hid (Below w.heap.size w w1) := b1; have HK1 : Hid (w.heap.size < w1.heap.size ∧ w1.cell? ⟨w.heap.size, 0, none⟩ = some (.int .i64 a) ∧ w1.cell? ⟨w.heap.size, 1, none⟩ = some (.int .i64 b) ∧ w1.cell? ⟨w.heap.size, 2, none⟩ = some (.int .i64 c)) := ⟨l1, q0, q1, q2⟩; clear b1)
        | (go_at_call 30; clear t2; refine (HB.out.next (N := w.heap.size) (x := .int .i64 a) (y := .int .i64 b) (z := .int .i64 c) _ ?_ ?_ ?_ ?_ ?_).mono ?_; (first | exact HB1.out | exact HB1.out.drew); exact HK1.out.1; exact HK1.out.2.1; exact HK1.out.2.2.1; exact HK1.out.2.2.2; rintro e w2 ⟨rfl, r0, r1, r2, l2, b2⟩; have HB2 : Hid (Below w.heap.size w w2) := b2; have HK2 : Hid (w.heap.size < w2.heap.size ∧ w2.cell? ⟨w.heap.size, 0, none⟩ = some (.int .i64 a) ∧ w2.cell? ⟨w.heap.size, 1, none⟩ = some (.int .i64 b) ∧ w2.cell? ⟨w.heap.size, 2, none⟩ = some (.int .i64 c)) := ⟨l2, r0, r1, r2⟩; clear b2)
        | (go_at_call 30; clear t3; refine (HC.out.next (N := w.heap.size) (x := .int .i64 a) (y := .int .i64 b) (z := .int .i64 c) _ ?_ ?_ ?_ ?_ ?_).mono ?_; (first | exact HB2.out | exact HB2.out.drew); exact HK2.out.1; exact HK2.out.2.1; exact HK2.out.2.2.1; exact HK2.out.2.2.2; rintro e w3 ⟨rfl, u0, u1, u2, l3, b3⟩; have HB3 : Hid (Below w.heap.size w w3) := b3; clear b3))
    all_goals go_wp2
    all_goals
      go_returns
      refine ⟨ret_str (by rw [HR.out]), ?_⟩
      exact HB3.out

theorem rPrint_any (a b c : Int) (w : World) :
    Calls Tryz.prog 25 #[.agg #[.int .i64 a, .int .i64 b, .int .i64 c]] w fun e w' => e = .returned (.string (textV a b c)) ∧ Below w.heap.size w w' := by
  refine rPrint_all a b c w (fun m => ?_) (fun m => ?_) (fun m => ?_) <;> (obtain ⟨a0, a1, b0, b1, c0, c1⟩ := may_all m)
  · exact fun w1 _ => Number_any a a0 a1 w1
  · exact fun w1 _ => Number_any b b0 b1 w1
  · exact fun w1 _ => Number_any c c0 c1 w1
end Go.Proofs.YtjbohacllhjgmaaGreatDoor
namespace Go.Proofs.YtjbohacllhjgmaaGreatDoor
open Go.RowKit
set_option maxRecDepth 100000

/-- A call whose contract asks that nothing old has turned. -/
theorem lift_on {P : Program} {f : Nat} {args : Array Value} {R : Ending} {w : World} (h : ∀ w1, Below w.heap.size w w1 → Calls P f args w1 fun e w' => e = R ∧ Below w1.heap.size w1 w') {bs : List Bx} (w1 : World) (ok : OKs w bs w1) :
    Calls P f args w1 fun e w' => e = R ∧ OKs w bs w' := by
  refine (h w1 ok.1).mono ?_
  rintro e w' ⟨rfl, hb⟩
  exact ⟨rfl, ok.below hb⟩

end Go.Proofs.YtjbohacllhjgmaaGreatDoor
namespace Go.Proofs.YtjbohacllhjgmaaGreatDoor
open Go.RowKit
set_option maxRecDepth 100000

end Go.Proofs.YtjbohacllhjgmaaGreatDoor
namespace Go.Proofs.YtjbohacllhjgmaaGreatDoor
open Go.RowKit
set_option maxRecDepth 100000

theorem cmp_le {a b c x y z r s t : Int} (h1 : mayV a b c = true) (h2 : mayV x y z = true) (h3 : mayV r s t = true) (hk : 0 ≤ cmpV x y z a b c) (hj : cmpV x y z r s t ≤ 0) : cmpV a b c r s t ≤ 0 := by
  have e1 := cmp_rank h2 h1
  have e2 := cmp_rank h3 h2
  have e3 := cmp_rank h3 h1
  have n1 := cmp_neg a b c r s t
  have n2 := cmp_neg x y z r s t
  have r1 := cmp_rank_eq h1 h3
  rcases cmp_range a b c r s t with e | e | e
  · omega
  · omega
  · have : rankV r s t < rankV a b c := e3.1 (by omega)
    omega

theorem print_on {W : World} (h : Lib.TabIs Tryz.prog W "internal/strconv.uint64pow10" .u64 Lib.pow10Tab) (a b c : Int) (w1 : World) (hb : Below W.heap.size W w1) :
    Calls Tryz.prog 31 #[.agg #[.int .i64 a, .int .i64 b, .int .i64 c]] w1 fun e w' => e = .returned (.string (textV a b c)) ∧ Below w1.heap.size w1 w' := by
  refine Print_any a b c w1 (fun m => ?_) (fun m => ?_) (fun m => ?_) <;> (obtain ⟨a0, a1, b0, b1, c0, c1⟩ := may_all m)
  · exact spells_tab h w1 hb a a0 a1
  · exact spells_tab h w1 hb b b0 b1
  · exact spells_tab h w1 hb c c0 c1

end Go.Proofs.YtjbohacllhjgmaaGreatDoor
