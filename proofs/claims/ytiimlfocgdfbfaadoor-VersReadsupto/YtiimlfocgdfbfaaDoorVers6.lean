/- The walk of known: it answers true. No condition. -/
import Derived.Test.YtiimlfocgdfbfaaDoorVers5
namespace Go.Proofs.YtiimlfocgdfbfaaDoor
open Go.RowKit
set_option maxRecDepth 100000

theorem spells_small (w : World) (i : Nat) (hi : i < 100) : Spells w (i : Int) ⟨(Lib.itoa (i : Int)).toArray⟩ := by
  intro w1 _
  refine (Tryd.strconv_Itoa_small i hi w1).mono ?_
  rintro e w' ⟨rfl, rfl⟩
  exact ⟨by rw [Lib.itoa_nonneg], Below.refl _ _⟩

theorem text123 : textV 1 2 3 = ⟨#[49, 46, 50, 46, 51]⟩ := by
  have e1 : Lib.itoa 1 = [49] := by rw [show (1 : Int) = ((1 : Nat) : Int) from rfl, Lib.itoa_nonneg, Lib.decDigits_one (by decide)]; rfl
  have e2 : Lib.itoa 2 = [50] := by rw [show (2 : Int) = ((2 : Nat) : Int) from rfl, Lib.itoa_nonneg, Lib.decDigits_one (by decide)]; rfl
  have e3 : Lib.itoa 3 = [51] := by rw [show (3 : Int) = ((3 : Nat) : Int) from rfl, Lib.itoa_nonneg, Lib.decDigits_one (by decide)]; rfl
  unfold textV
  rw [e1, e2, e3, if_pos (by decide)]
  decide +kernel

set_option maxHeartbeats 1600000 in
theorem known_any (w : World) :
    Calls Tryd.prog 13 #[] w fun e w' => e = .returned (.bool true) ∧ Below w.heap.size w w' := by
  have HM : Hid (∀ w1, Calls Tryd.prog 9 #[.agg #[.int .i64 1, .int .i64 2, .int .i64 3]] w1 fun e w' => e = .returned (.bool true) ∧ Below w1.heap.size w1 w') := fun w1 => May_any 1 2 3 w1
  have HR : Hid (∀ w1, Calls Tryd.prog 14 #[.agg #[.int .i64 1, .int .i64 2, .int .i64 3]] w1 fun e w' => e = .returned (.tuple #[.int .i64 1002003, .bool true]) ∧ Below w1.heap.size w1 w') := fun w1 => Rank_any 1 2 3 w1
  have HN : Hid (∀ w1, Calls Tryd.prog 18 #[.agg #[.int .i64 1, .int .i64 2, .int .i64 3]] w1 fun e w' => e = .returned (.tuple #[.agg #[.int .i64 1, .int .i64 2, .int .i64 4], .bool true]) ∧ Below w1.heap.size w1 w') := fun w1 => Next_any 1 2 3 w1
  have HP : Hid (∀ w1, Calls Tryd.prog 24 #[.agg #[.int .i64 1, .int .i64 2, .int .i64 3]] w1 fun e w' => e = .returned (.string ⟨#[49, 46, 50, 46, 51]⟩) ∧ Below w1.heap.size w1 w') := fun w1 => by
    have := Print_any 1 2 3 w1 (fun _ => spells_small w1 1 (by decide)) (fun _ => spells_small w1 2 (by decide)) (fun _ => spells_small w1 3 (by decide))
    rw [text123] at this
    exact this
  go_enter Tryd.func13, Tryd.ntmps13
  go_wp2_with (first
    | (go_at_call 14; refine (HR.out _).mono ?_; rintro e w1 ⟨rfl, hb1⟩; obtain ⟨k0, k1, k2, k3, k4⟩ := boxV hb1)
    | (go_at_call 18; refine (HN.out _).mono ?_; rintro e w2 ⟨rfl, hb2⟩; obtain ⟨m0, m1, m2, m3⟩ := keepV hb2 k3 k0 k1 k2)
    | (go_at_call 9; refine (HM.out _).mono ?_; rintro e w3 ⟨rfl, hb3⟩; obtain ⟨n0, n1, n2, n3⟩ := keepV (below_then (boxB _ _) hb3) m3 m0 m1 m2; obtain ⟨p0, p1, p2, p3, p4⟩ := boxV hb3)
    | (go_at_call 24; refine (HP.out _).mono ?_; rintro e w4 ⟨rfl, hb4⟩))
  go_returns
  exact ⟨rfl, below_then (below_then (below_then k4 hb2) p4) hb4⟩
end Go.Proofs.YtiimlfocgdfbfaaDoor
