/- The walks of the document's Number and Print: the numeral; a version's text. -/
import Derived.Test.YtkmgfemhfibikaaGreatDoorFacts2
import Derived.Test.YtkmgfemhfibikaaGreatDoorBoxes
import Derived.Laws.IdiomStrings
import Derived.Deep.RegionWith
namespace Go.Proofs.YtkmgfemhfibikaaGreatDoor
open Go.RowKit
set_option maxRecDepth 100000

/-- A byte wherever it lies, as a string. -/
theorem byte_at (d : Int) (h0 : 0 ≤ d) (h1 : d < 10) (W : World) (N : Nat) (hN : W.cell? ⟨N, 0, none⟩ = some (.int .u8 (48 + d))) :
    (convert 73 9 (.slice (some ⟨N, 0, none⟩) 1 1)).run Tryz.prog W = .ok (.string ⟨#[UInt8.ofNat (48 + d.toNat)]⟩) W := by
  have e := digit_nat (k := d.toNat) (by omega)
  exact run_convert_bytes_back (P := Tryz.prog) W 73 9 5 ⟨N, 0, none⟩ 1 [UInt8.ofNat (48 + d.toNat)] Tryz.underlying73 Tryz.underlying5 Tryz.underlying9 (fun j hj => by
    have hj0 : j = 0 := by simp at hj; exact hj
    subst hj0
    rw [show (⟨N, 0, none⟩ : Addr).add 0 = ⟨N, 0, none⟩ from rfl, hN]
    simp only [List.getElem_cons_zero]
    rw [e]
    congr 2
    omega)

theorem byte_back (d : Int) (h0 : 0 ≤ d) (h1 : d < 10) (W : World) :
    (convert 73 9 (.slice (some ⟨W.heap.size, 0, none⟩) 1 1)).run Tryz.prog (W.alloc (.cells #[.int .u8 (48 + d)] 5)) = .ok (.string ⟨#[UInt8.ofNat (48 + d.toNat)]⟩) (W.alloc (.cells #[.int .u8 (48 + d)] 5)) :=
  byte_at d h0 h1 _ _ (by rw [World.cell?_alloc_new]; rfl)

theorem itoa_small {n : Int} (h0 : 0 ≤ n) (h1 : n < 10) : Lib.itoa n = [UInt8.ofNat (48 + n.toNat)] := by
  rw [itoa_of h0, Lib.decDigits_one (by omega)]
theorem itoa_more {n : Int} (h0 : 10 ≤ n) : Lib.itoa n = Lib.itoa (n / 10) ++ [UInt8.ofNat (48 + (n % 10).toNat)] := by
  rw [itoa_of (by omega), itoa_of (by omega), Lib.decDigits, dif_neg (by omega)]
  have e1 : n.toNat / 10 = (n / 10).toNat := by omega
  have e2 : n.toNat % 10 = (n % 10).toNat := by omega
  rw [e1, e2]

set_option maxHeartbeats 1600000 in
theorem Number_small (n : Int) (h0 : 0 ≤ n) (h1 : n < 10) (w : World) :
    Calls Tryz.prog 90 #[.int .i64 n] w fun e w' => e = .returned (.string ⟨(Lib.itoa n).toArray⟩) ∧ Below w.heap.size w w' := by
  have hc := byte_back n h0 h1
  go_enter Tryz.func90, Tryz.ntmps90
  go_wp2
  go_returns
  exact ⟨ret_str (by simp [itoa_small h0 h1]), boxB _ _⟩

set_option maxHeartbeats 1600000 in
theorem Number_more (n : Int) (h0 : 10 ≤ n) (h1 : n ≤ 999) (w : World) (A : ByteArray) (hA : A.size ≤ 100) (D : UInt8) (hD : UInt8.ofNat (48 + (n % 10).toNat) = D)
    (HN : Hid (∀ w1, Calls Tryz.prog 90 #[.int .i64 (n / 10)] w1 fun e w' => e = .returned (.string A) ∧ Below w1.heap.size w1 w')) :
    Calls Tryz.prog 90 #[.int .i64 n] w fun e w' => e = .returned (.string (A ++ ⟨#[D]⟩)) ∧ Below w.heap.size w w' := by
  have HA : Hid (∀ (W : World) (N : Nat), W.cell? ⟨N, 0, none⟩ = some (.int .u8 (48 + n % 10)) → (convert 73 9 (.slice (some ⟨N, 0, none⟩) 1 1)).run Tryz.prog W = .ok (.string ⟨#[D]⟩) W) := by
    intro W N hN
    have := byte_at (n % 10) (by omega) (by omega) W N hN
    rw [hD] at this
    exact this
  have hc : ∀ W : World, (convert 73 9 (.slice (some ⟨W.heap.size, 0, none⟩) 1 1)).run Tryz.prog (W.alloc (.cells #[.int .u8 (48 + n % 10)] 5)) = .ok (.string ⟨#[D]⟩) (W.alloc (.cells #[.int .u8 (48 + n % 10)] 5)) := fun W => HA.out _ _ (by rw [World.cell?_alloc_new]; rfl)
  have hc2 : ∀ W : World, (convert 73 9 (.slice (some ⟨W.heap.size, 0, none⟩) 1 1)).run Tryz.prog (W.alloc (.cells #[.int .u8 (48 + n % 10)] 5)).drew = .ok (.string ⟨#[D]⟩) (W.alloc (.cells #[.int .u8 (48 + n % 10)] 5)).drew := fun W => HA.out _ _ (by rw [World.cell?_drew, World.cell?_alloc_new]; rfl)
  have e1 := fun W : World => run_string_add_sum (P := Tryz.prog) (w := W) A ⟨#[D]⟩ (by have : (⟨#[D]⟩ : ByteArray).size = 1 := rfl; omega)
  have hq : IntKind.i64.wrap (n.tdiv 10) = n / 10 := by rw [Int.tdiv_eq_ediv_of_nonneg (by omega), IntKind.wrap_i64]; omega
  have hr : n.tmod 10 = n % 10 := Int.tmod_eq_emod_of_nonneg (by omega)
  have hs : IntKind.i64.wrap (48 + n % 10) = 48 + n % 10 := by rw [IntKind.wrap_i64]; omega
  have hu : IntKind.u8.wrap (48 + n % 10) = 48 + n % 10 := by rw [IntKind.wrap_u8]; omega
  clear hD
  go_enter Tryz.func90, Tryz.ntmps90
  go_wp2_with fail
  go_region_with (go_at_call 90; refine (HN.out _).mono ?_; rintro e w1 ⟨rfl, hb⟩; have hcc := hb.cell (p := ⟨w.heap.size, 0, none⟩); have hcd := HA.out w1 w.heap.size; have HB : Hid (Below w.heap.size w w1) := below_then (by go_grown) hb; clear hb)
  all_goals go_wp2
  all_goals
    go_returns
    have hb := HB.out
    have hbs := hb.size
    exact ⟨rfl, by go_grown⟩

theorem Number_any (n : Int) (h0 : 0 ≤ n) (h1 : n ≤ 999) (w : World) :
    Calls Tryz.prog 90 #[.int .i64 n] w fun e w' => e = .returned (.string ⟨(Lib.itoa n).toArray⟩) ∧ Below w.heap.size w w' := by
  obtain ⟨k, hk⟩ : ∃ k : Nat, n.toNat = k := ⟨_, rfl⟩
  induction k using Nat.strongRecOn generalizing n w with
  | _ k ih =>
    by_cases h : n < 10
    · exact Number_small n h0 h w
    · have := Number_more n (by omega) h1 w ⟨(Lib.itoa (n / 10)).toArray⟩ (Nat.le_trans (itoa_three (by omega) (by omega)) (by decide)) _ rfl (fun w1 => ih (n / 10).toNat (by omega) (n / 10) (by omega) (by omega) w1 rfl)
      refine this.mono ?_
      rintro e w' ⟨rfl, hb⟩
      refine ⟨ret_str ?_, hb⟩
      have e := itoa_more (n := n) (by omega)
      rw [e]
      simp [ByteArray.ext_iff, ByteArray.data_append]

/-- What Print asks of Number. -/
def SpellsR (w : World) (n : Int) (S : ByteArray) : Prop := ∀ w1, Below w.heap.size w w1 → Calls Tryz.prog 90 #[.int .i64 n] w1 fun e w' => e = .returned (.string S) ∧ Below w1.heap.size w1 w'

theorem SpellsR.next {w : World} {n : Int} {S : ByteArray} (h : SpellsR w n S) {N : Nat} {x y z : Value} (w1 : World) (hb : Below w.heap.size w w1) (hl : N < w1.heap.size) (c0 : w1.cell? ⟨N, 0, none⟩ = some x) (c1 : w1.cell? ⟨N, 1, none⟩ = some y) (c2 : w1.cell? ⟨N, 2, none⟩ = some z) :
    Calls Tryz.prog 90 #[.int .i64 n] w1 fun e w' => e = .returned (.string S) ∧ w'.cell? ⟨N, 0, none⟩ = some x ∧ w'.cell? ⟨N, 1, none⟩ = some y ∧ w'.cell? ⟨N, 2, none⟩ = some z ∧ N < w'.heap.size ∧ Below w.heap.size w w' := by
  refine (h w1 hb).mono ?_
  rintro e w' ⟨rfl, hb1⟩
  exact ⟨rfl, (hb1.cell (p := ⟨N, 0, none⟩) hl).trans c0, (hb1.cell (p := ⟨N, 1, none⟩) hl).trans c1, (hb1.cell (p := ⟨N, 2, none⟩) hl).trans c2, Nat.lt_of_lt_of_le hl hb1.size, hb.trans (hb1.mono hb.size)⟩

set_option maxHeartbeats 1600000 in
theorem rPrint_all (a b c : Int) (w : World) (ha : mayV a b c = true → SpellsR w a ⟨(Lib.itoa a).toArray⟩) (hb : mayV a b c = true → SpellsR w b ⟨(Lib.itoa b).toArray⟩) (hc : mayV a b c = true → SpellsR w c ⟨(Lib.itoa c).toArray⟩) :
    Calls Tryz.prog 69 #[.agg #[.int .i64 a, .int .i64 b, .int .i64 c]] w fun e w' => e = .returned (.string (textV a b c)) ∧ Below w.heap.size w w' := by
  have HM : Hid (∀ w1, Calls Tryz.prog 54 #[.agg #[.int .i64 a, .int .i64 b, .int .i64 c]] w1 fun e w' => e = .returned (.bool (mayV a b c)) ∧ Below w1.heap.size w1 w') := rMay_any a b c
  cases hm : mayV a b c
  · have HR : Hid (textV a b c = ByteArray.empty) := by unfold Hid textV; rw [hm]; rfl
    rw [hm] at HM
    clear ha hb hc
    go_enter Tryz.func69, Tryz.ntmps69
    go_wp2_with (go_at_call 54; refine (HM.out _).mono ?_; rintro e w' ⟨rfl, hb⟩)
    go_returns
    exact ⟨ret_str HR.out.symm, below_then (boxB _ _) hb⟩
  · have HR : Hid (textV a b c = (((⟨(Lib.itoa a).toArray⟩ ++ ⟨#[46]⟩) ++ ⟨(Lib.itoa b).toArray⟩) ++ ⟨#[46]⟩) ++ ⟨(Lib.itoa c).toArray⟩) := by unfold Hid textV; rw [hm]; rfl
    have HA : Hid (SpellsR w a ⟨(Lib.itoa a).toArray⟩) := ha hm
    have HB : Hid (SpellsR w b ⟨(Lib.itoa b).toArray⟩) := hb hm
    have HC : Hid (SpellsR w c ⟨(Lib.itoa c).toArray⟩) := hc hm
    obtain ⟨a0, a1, b0, b1, c0, c1⟩ := may_all hm
    have za := itoa_three a0 a1
    have zb := itoa_three b0 b1
    have zc := itoa_three c0 c1
    rw [hm] at HM
    clear ha hb hc a0 a1 b0 b1 c0 c1
    generalize (⟨(Lib.itoa a).toArray⟩ : ByteArray) = A at *
    generalize (⟨(Lib.itoa b).toArray⟩ : ByteArray) = B at *
    generalize (⟨(Lib.itoa c).toArray⟩ : ByteArray) = C at *
    have zd : (⟨#[46]⟩ : ByteArray).size = 1 := rfl
    have e1 := fun W : World => run_string_add_sum (P := Tryz.prog) (w := W) A ⟨#[46]⟩ (by omega)
    have e2 := fun W : World => run_string_add_sum (P := Tryz.prog) (w := W) (A ++ ⟨#[46]⟩) B (by rw [size_cat]; omega)
    have e3 := fun W : World => run_string_add_sum (P := Tryz.prog) (w := W) ((A ++ ⟨#[46]⟩) ++ B) ⟨#[46]⟩ (by rw [size_cat, size_cat]; omega)
    have e4 := fun W : World => run_string_add_sum (P := Tryz.prog) (w := W) (((A ++ ⟨#[46]⟩) ++ B) ++ ⟨#[46]⟩) C (by rw [size_cat, size_cat, size_cat]; omega)
    clear za zb zc zd
    go_enter Tryz.func69, Tryz.ntmps69
    go_wp2_with (go_at_call 54; refine (HM.out _).mono ?_; rintro e w0 ⟨rfl, hb0⟩; obtain ⟨k0, k1, k2, k3, k4⟩ := boxV hb0)
    have HB0 : Hid (Below w.heap.size w w0) := k4
    have HK0 : Hid (w.heap.size < w0.heap.size ∧ w0.cell? ⟨w.heap.size, 0, none⟩ = some (.int .i64 a) ∧ w0.cell? ⟨w.heap.size, 1, none⟩ = some (.int .i64 b) ∧ w0.cell? ⟨w.heap.size, 2, none⟩ = some (.int .i64 c)) := ⟨k3, k0, k1, k2⟩
    have t1 : True := trivial
    have t2 : True := trivial
    have t3 : True := trivial
    clear k4 hb0
    go_region_held3 (fun w' => w'.cell? ⟨w.heap.size, 0, none⟩ = some (.int .i64 a) ∧ w'.cell? ⟨w.heap.size, 1, none⟩ = some (.int .i64 b) ∧ w'.cell? ⟨w.heap.size, 2, none⟩ = some (.int .i64 c)) (go_keep)
      (first
        | (go_at_call 90; clear t1; refine (HA.out.next (N := w.heap.size) (x := .int .i64 a) (y := .int .i64 b) (z := .int .i64 c) _ ?_ ?_ ?_ ?_ ?_).mono ?_; (first | exact HB0.out | exact HB0.out.drew); exact HK0.out.1; exact HK0.out.2.1; exact HK0.out.2.2.1; exact HK0.out.2.2.2; rintro e w1 ⟨rfl, q0, q1, q2, l1, b1⟩; have HB1 : Hid (Below w.heap.size w w1) := b1; have HK1 : Hid (w.heap.size < w1.heap.size ∧ w1.cell? ⟨w.heap.size, 0, none⟩ = some (.int .i64 a) ∧ w1.cell? ⟨w.heap.size, 1, none⟩ = some (.int .i64 b) ∧ w1.cell? ⟨w.heap.size, 2, none⟩ = some (.int .i64 c)) := ⟨l1, q0, q1, q2⟩; clear b1)
        | (go_at_call 90; clear t2; refine (HB.out.next (N := w.heap.size) (x := .int .i64 a) (y := .int .i64 b) (z := .int .i64 c) _ ?_ ?_ ?_ ?_ ?_).mono ?_; (first | exact HB1.out | exact HB1.out.drew); exact HK1.out.1; exact HK1.out.2.1; exact HK1.out.2.2.1; exact HK1.out.2.2.2; rintro e w2 ⟨rfl, r0, r1, r2, l2, b2⟩; have HB2 : Hid (Below w.heap.size w w2) := b2; have HK2 : Hid (w.heap.size < w2.heap.size ∧ w2.cell? ⟨w.heap.size, 0, none⟩ = some (.int .i64 a) ∧ w2.cell? ⟨w.heap.size, 1, none⟩ = some (.int .i64 b) ∧ w2.cell? ⟨w.heap.size, 2, none⟩ = some (.int .i64 c)) := ⟨l2, r0, r1, r2⟩; clear b2)
        | (go_at_call 90; clear t3; refine (HC.out.next (N := w.heap.size) (x := .int .i64 a) (y := .int .i64 b) (z := .int .i64 c) _ ?_ ?_ ?_ ?_ ?_).mono ?_; (first | exact HB2.out | exact HB2.out.drew); exact HK2.out.1; exact HK2.out.2.1; exact HK2.out.2.2.1; exact HK2.out.2.2.2; rintro e w3 ⟨rfl, u0, u1, u2, l3, b3⟩; have HB3 : Hid (Below w.heap.size w w3) := b3; clear b3))
    all_goals go_wp2
    all_goals
      go_returns
      refine ⟨ret_str (by rw [HR.out]), ?_⟩
      exact HB3.out

theorem rPrint_any (a b c : Int) (w : World) :
    Calls Tryz.prog 69 #[.agg #[.int .i64 a, .int .i64 b, .int .i64 c]] w fun e w' => e = .returned (.string (textV a b c)) ∧ Below w.heap.size w w' := by
  refine rPrint_all a b c w (fun m => ?_) (fun m => ?_) (fun m => ?_) <;> (obtain ⟨a0, a1, b0, b1, c0, c1⟩ := may_all m)
  · exact fun w1 _ => Number_any a a0 a1 w1
  · exact fun w1 _ => Number_any b b0 b1 w1
  · exact fun w1 _ => Number_any c c0 c1 w1
end Go.Proofs.YtkmgfemhfibikaaGreatDoor
