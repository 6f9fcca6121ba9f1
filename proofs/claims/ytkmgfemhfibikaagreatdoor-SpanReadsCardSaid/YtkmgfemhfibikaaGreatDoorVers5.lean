/- The walk of Print, where Itoa answers with the numeral of its three numbers; and of known: it answers true. -/
import Derived.Test.YtkmgfemhfibikaaGreatDoorVers4
import Derived.Test.YtkmgfemhfibikaaGreatDoorShelfA
import Derived.Deep.RegionHeld3
namespace Go.Proofs.YtkmgfemhfibikaaGreatDoor
open Go.RowKit
set_option maxRecDepth 100000

/-- A version's text. -/
def textV (a b c : Int) : ByteArray := if mayV a b c = true then (((⟨(Lib.itoa a).toArray⟩ ++ ⟨#[46]⟩) ++ ⟨(Lib.itoa b).toArray⟩) ++ ⟨#[46]⟩) ++ ⟨(Lib.itoa c).toArray⟩ else ByteArray.empty

/-- What Print asks of Itoa. -/
def Spells (w : World) (n : Int) (S : ByteArray) : Prop := ∀ w1, Below w.heap.size w w1 → Calls Tryz.prog 58 #[.int .i64 n] w1 fun e w' => e = .returned (.string S) ∧ Below w1.heap.size w1 w'

theorem Spells.next {w : World} {n : Int} {S : ByteArray} (h : Spells w n S) {N : Nat} {x y z : Value} (w1 : World) (hb : Below w.heap.size w w1) (hl : N < w1.heap.size) (c0 : w1.cell? ⟨N, 0, none⟩ = some x) (c1 : w1.cell? ⟨N, 1, none⟩ = some y) (c2 : w1.cell? ⟨N, 2, none⟩ = some z) :
    Calls Tryz.prog 58 #[.int .i64 n] w1 fun e w' => e = .returned (.string S) ∧ w'.cell? ⟨N, 0, none⟩ = some x ∧ w'.cell? ⟨N, 1, none⟩ = some y ∧ w'.cell? ⟨N, 2, none⟩ = some z ∧ N < w'.heap.size ∧ Below w.heap.size w w' := by
  refine (h w1 hb).mono ?_
  rintro e w' ⟨rfl, hb1⟩
  exact ⟨rfl, (hb1.cell (p := ⟨N, 0, none⟩) hl).trans c0, (hb1.cell (p := ⟨N, 1, none⟩) hl).trans c1, (hb1.cell (p := ⟨N, 2, none⟩) hl).trans c2, Nat.lt_of_lt_of_le hl hb1.size, hb.trans (hb1.mono hb.size)⟩

theorem dec_three {u : Nat} (h : u < 1000) : (Lib.decDigits u).length ≤ 3 := by
  rw [Lib.decDigits]
  split
  · simp
  · rw [Lib.decDigits]
    split
    · simp
    · rw [Lib.decDigits_one (by omega)]; simp

theorem itoa_three {n : Int} (h0 : 0 ≤ n) (h1 : n ≤ 999) : (⟨(Lib.itoa n).toArray⟩ : ByteArray).size ≤ 3 := by
  obtain ⟨u, rfl⟩ : ∃ u : Nat, n = u := ⟨n.toNat, by omega⟩
  rw [Lib.itoa_nonneg]
  have := dec_three (u := u) (by omega)
  show (Lib.decDigits u).toArray.size ≤ 3
  simpa using this

theorem size_cat (x y : ByteArray) : (x ++ y).size = x.size + y.size := ByteArray.size_append

theorem ret_str {a b : ByteArray} (h : a = b) : Ending.returned (.string a) = .returned (.string b) := by rw [h]

set_option maxHeartbeats 1600000 in
theorem Print_any (a b c : Int) (w : World) (ha : mayV a b c = true → Spells w a ⟨(Lib.itoa a).toArray⟩) (hb : mayV a b c = true → Spells w b ⟨(Lib.itoa b).toArray⟩) (hc : mayV a b c = true → Spells w c ⟨(Lib.itoa c).toArray⟩) :
    Calls Tryz.prog 38 #[.agg #[.int .i64 a, .int .i64 b, .int .i64 c]] w fun e w' => e = .returned (.string (textV a b c)) ∧ Below w.heap.size w w' := by
  have HM : Hid (∀ w1, Calls Tryz.prog 37 #[.agg #[.int .i64 a, .int .i64 b, .int .i64 c]] w1 fun e w' => e = .returned (.bool (mayV a b c)) ∧ Below w1.heap.size w1 w') := May_any a b c
  cases hm : mayV a b c
  · have HR : Hid (textV a b c = ByteArray.empty) := by unfold Hid textV; rw [hm]; rfl
    rw [hm] at HM
    clear ha hb hc
    go_enter Tryz.func38, Tryz.ntmps38
    go_wp2_with (go_at_call 37; refine (HM.out _).mono ?_; rintro e w' ⟨rfl, hb⟩)
    go_returns
    exact ⟨ret_str HR.out.symm, below_then (boxB _ _) hb⟩
  · have HR : Hid (textV a b c = (((⟨(Lib.itoa a).toArray⟩ ++ ⟨#[46]⟩) ++ ⟨(Lib.itoa b).toArray⟩) ++ ⟨#[46]⟩) ++ ⟨(Lib.itoa c).toArray⟩) := by unfold Hid textV; rw [hm]; rfl
    have HA : Hid (Spells w a ⟨(Lib.itoa a).toArray⟩) := ha hm
    have HB : Hid (Spells w b ⟨(Lib.itoa b).toArray⟩) := hb hm
    have HC : Hid (Spells w c ⟨(Lib.itoa c).toArray⟩) := hc hm
    obtain ⟨a0, a1, b0, b1, c0, c1⟩ := may_all hm
    have za := itoa_three a0 a1
    have zb := itoa_three b0 b1
    have zc := itoa_three c0 c1
    rw [hm] at HM
    clear ha hb hc a0 a1 b0 b1 c0 c1
    generalize (⟨(Lib.itoa a).toArray⟩ : ByteArray) = A at *
    generalize (⟨(Lib.itoa b).toArray⟩ : ByteArray) = B at *
    generalize (⟨(Lib.itoa c).toArray⟩ : ByteArray) = C at *
    have zd : (⟨#[46]⟩ : ByteArray).size = 1 := rfl
    have e1 := fun W : World => run_string_add_sum (P := Tryz.prog) (w := W) A ⟨#[46]⟩ (by omega)
    have e2 := fun W : World => run_string_add_sum (P := Tryz.prog) (w := W) (A ++ ⟨#[46]⟩) B (by rw [size_cat]; omega)
    have e3 := fun W : World => run_string_add_sum (P := Tryz.prog) (w := W) ((A ++ ⟨#[46]⟩) ++ B) ⟨#[46]⟩ (by rw [size_cat, size_cat]; omega)
    have e4 := fun W : World => run_string_add_sum (P := Tryz.prog) (w := W) (((A ++ ⟨#[46]⟩) ++ B) ++ ⟨#[46]⟩) C (by rw [size_cat, size_cat, size_cat]; omega)
    clear za zb zc zd
    go_enter Tryz.func38, Tryz.ntmps38
    go_wp2_with (go_at_call 37; refine (HM.out _).mono ?_; rintro e w0 ⟨rfl, hb0⟩; obtain ⟨k0, k1, k2, k3, k4⟩ := boxV hb0)
    have HB0 : Hid (Below w.heap.size w w0) := k4
    have HK0 : Hid (w.heap.size < w0.heap.size ∧ w0.cell? ⟨w.heap.size, 0, none⟩ = some (.int .i64 a) ∧ w0.cell? ⟨w.heap.size, 1, none⟩ = some (.int .i64 b) ∧ w0.cell? ⟨w.heap.size, 2, none⟩ = some (.int .i64 c)) := ⟨k3, k0, k1, k2⟩
    have t1 : True := trivial
    have t2 : True := trivial
    have t3 : True := trivial
    clear k4 hb0
    go_region_held3 (fun w' => w'.cell? ⟨w.heap.size, 0, none⟩ = some (.int .i64 a) ∧ w'.cell? ⟨w.heap.size, 1, none⟩ = some (.int .i64 b) ∧ w'.cell? ⟨w.heap.size, 2, none⟩ = some (.int .i64 c)) (go_keep)
      (first
        | (go_at_call 58; clear t1; refine (HA.out.next (N := w.heap.size) (x := .int .i64 a) (y := .int .i64 b) (z := .int .i64 c) _ ?_ ?_ ?_ ?_ ?_).mono ?_; (first | exact HB0.out | exact HB0.out.drew); exact HK0.out.1; exact HK0.out.2.1; exact HK0.out.2.2.1; exact HK0.out.2.2.2; rintro e w1 ⟨rfl, q0, q1, q2, l1, b1⟩; have HB1 : Hid (Below w.heap.size w w1) := b1; have HK1 : Hid (w.heap.size < w1.heap.size ∧ w1.cell? ⟨w.heap.size, 0, none⟩ = some (.int .i64 a) ∧ w1.cell? ⟨w.heap.size, 1, none⟩ = some (.int .i64 b) ∧ w1.cell? ⟨w.heap.size, 2, none⟩ = some (.int .i64 c)) := ⟨l1, q0, q1, q2⟩; clear b1)
        | (go_at_call 58; clear t2; refine (HB.out.next (N := w.heap.size) (x := .int .i64 a) (y := .int .i64 b) (z := .int .i64 c) _ ?_ ?_ ?_ ?_ ?_).mono ?_; (first | exact HB1.out | exact HB1.out.drew); exact HK1.out.1; exact HK1.out.2.1; exact HK1.out.2.2.1; exact HK1.out.2.2.2; rintro e w2 ⟨rfl, r0, r1, r2, l2, b2⟩; have HB2 : Hid (Below w.heap.size w w2) := b2; have HK2 : Hid (w.heap.size < w2.heap.size ∧ w2.cell? ⟨w.heap.size, 0, none⟩ = some (.int .i64 a) ∧ w2.cell? ⟨w.heap.size, 1, none⟩ = some (.int .i64 b) ∧ w2.cell? ⟨w.heap.size, 2, none⟩ = some (.int .i64 c)) := ⟨l2, r0, r1, r2⟩; clear b2)
        | (go_at_call 58; clear t3; refine (HC.out.next (N := w.heap.size) (x := .int .i64 a) (y := .int .i64 b) (z := .int .i64 c) _ ?_ ?_ ?_ ?_ ?_).mono ?_; (first | exact HB2.out | exact HB2.out.drew); exact HK2.out.1; exact HK2.out.2.1; exact HK2.out.2.2.1; exact HK2.out.2.2.2; rintro e w3 ⟨rfl, u0, u1, u2, l3, b3⟩; have HB3 : Hid (Below w.heap.size w w3) := b3; clear b3))
    all_goals go_wp2
    all_goals
      go_returns
      refine ⟨ret_str (by rw [HR.out]), ?_⟩
      exact HB3.out
end Go.Proofs.YtkmgfemhfibikaaGreatDoor
