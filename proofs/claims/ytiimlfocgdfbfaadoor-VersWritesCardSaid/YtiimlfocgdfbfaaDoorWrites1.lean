/- The walk of VersWrites: of any version it answers true. -/
import Derived.Test.YtiimlfocgdfbfaaDoorParse3
namespace Go.Proofs.YtiimlfocgdfbfaaDoor
open Go.RowKit
set_option maxRecDepth 100000

set_option maxHeartbeats 4000000 in
theorem writes_yes (a b c : Int) (T : ByteArray) (w : World)
    (HP : Hid (∀ w1, Below w.heap.size w w1 → Calls Tryd.prog 24 #[.agg #[.int .i64 a, .int .i64 b, .int .i64 c]] w1 fun e w' => e = .returned (.string T) ∧ Below w1.heap.size w1 w'))
    (HR : Hid (∀ w1, Below w.heap.size w w1 → Calls Tryd.prog 22 #[.string T] w1 fun e w' => e = .returned (.tuple #[.agg #[.int .i64 a, .int .i64 b, .int .i64 c], .bool true]) ∧ Below w1.heap.size w1 w'))
    (HM : Hid (∀ w1, Below w.heap.size w w1 → Calls Tryd.prog 10 #[.agg #[.int .i64 a, .int .i64 b, .int .i64 c]] w1 fun e w' => e = .returned (.bool true) ∧ Below w1.heap.size w1 w'))
    (HQ : Hid (∀ w1, Below w.heap.size w w1 → Calls Tryd.prog 25 #[.agg #[.int .i64 a, .int .i64 b, .int .i64 c]] w1 fun e w' => e = .returned (.string T) ∧ Below w1.heap.size w1 w'))
    (HK : Hid (∀ w1, Below w.heap.size w w1 → Calls Tryd.prog 13 #[] w1 fun e w' => e = .returned (.bool true) ∧ Below w1.heap.size w1 w')) :
    Calls Tryd.prog 6 #[.agg #[.int .i64 a, .int .i64 b, .int .i64 c]] w fun e w' => e = .returned (.bool true) ∧ Below w.heap.size w w' := by
  have he := eqlV a b c a b c
  simp only [and_self, decide_true] at he
  have hg := guardV
  have HO : Hid (OKs w [⟨w.heap.size, .int .i64 a, .int .i64 b, .int .i64 c⟩] (w.alloc (.cells #[.int .i64 a, .int .i64 b, .int .i64 c] 23))) := (OKs.nil w).box rfl _ _ _
  go_enter Tryd.func6, Tryd.ntmps6
  go_wp2_with (first
    | (go_at_call 24; refine (lift_on HP.out (bs := [⟨w.heap.size, .int .i64 a, .int .i64 b, .int .i64 c⟩]) _ ?_).mono ?_; exact HO.out; clear HO; rintro e w1 ⟨rfl, ok⟩; have HO : Hid (OKs w [⟨w.heap.size, .int .i64 a, .int .i64 b, .int .i64 c⟩] w1) := ok; clear ok; obtain ⟨x0, y0, z0, s0⟩ := HO.out.one)
    | (go_at_call 22; refine (lift_on HR.out (bs := [⟨w.heap.size, .int .i64 a, .int .i64 b, .int .i64 c⟩]) _ ?_).mono ?_; exact HO.out; clear HO; rintro e w2 ⟨rfl, ok⟩; have HO : Hid (OKs w [⟨w.heap.size, .int .i64 a, .int .i64 b, .int .i64 c⟩] w2) := ok; clear ok; obtain ⟨x0, y0, z0, s0⟩ := HO.out.one)
    | (go_at_call 10; refine (lift_on HM.out (bs := [⟨w2.heap.size, .int .i64 a, .int .i64 b, .int .i64 c⟩, ⟨w.heap.size, .int .i64 a, .int .i64 b, .int .i64 c⟩]) _ ?_).mono ?_; exact HO.out.box rfl _ _ _; clear HO; rintro e w3 ⟨rfl, ok⟩; have HO : Hid (OKs w [⟨w2.heap.size, .int .i64 a, .int .i64 b, .int .i64 c⟩, ⟨w.heap.size, .int .i64 a, .int .i64 b, .int .i64 c⟩] w3) := ok; clear ok; obtain ⟨x0, y0, z0, s0⟩ := HO.out.one; obtain ⟨x1, y1, z1, s1⟩ := HO.out.two)
    | (go_at_call 25; refine (lift_on HQ.out (bs := [⟨w2.heap.size, .int .i64 a, .int .i64 b, .int .i64 c⟩, ⟨w.heap.size, .int .i64 a, .int .i64 b, .int .i64 c⟩]) _ ?_).mono ?_; exact HO.out; clear HO; rintro e w4 ⟨rfl, ok⟩; have HO : Hid (OKs w [⟨w2.heap.size, .int .i64 a, .int .i64 b, .int .i64 c⟩, ⟨w.heap.size, .int .i64 a, .int .i64 b, .int .i64 c⟩] w4) := ok; clear ok; obtain ⟨x0, y0, z0, s0⟩ := HO.out.one; obtain ⟨x1, y1, z1, s1⟩ := HO.out.two)
    | (go_at_call 13; refine (lift_on HK.out (bs := [⟨w2.heap.size, .int .i64 a, .int .i64 b, .int .i64 c⟩, ⟨w.heap.size, .int .i64 a, .int .i64 b, .int .i64 c⟩]) _ ?_).mono ?_; exact HO.out; clear HO; rintro e w5 ⟨rfl, ok⟩; have HO : Hid (OKs w [⟨w2.heap.size, .int .i64 a, .int .i64 b, .int .i64 c⟩, ⟨w.heap.size, .int .i64 a, .int .i64 b, .int .i64 c⟩] w5) := ok; clear ok; obtain ⟨x0, y0, z0, s0⟩ := HO.out.one; obtain ⟨x1, y1, z1, s1⟩ := HO.out.two))
  go_returns
  exact ⟨rfl, HO.out.1⟩

set_option maxHeartbeats 4000000 in
theorem writes_no (a b c : Int) (T : ByteArray) (w : World)
    (HP : Hid (∀ w1, Below w.heap.size w w1 → Calls Tryd.prog 24 #[.agg #[.int .i64 a, .int .i64 b, .int .i64 c]] w1 fun e w' => e = .returned (.string T) ∧ Below w1.heap.size w1 w'))
    (HR : Hid (∀ w1, Below w.heap.size w w1 → Calls Tryd.prog 22 #[.string T] w1 fun e w' => e = .returned (.tuple #[.agg #[.int .i64 0, .int .i64 0, .int .i64 0], .bool false]) ∧ Below w1.heap.size w1 w'))
    (HM : Hid (∀ w1, Below w.heap.size w w1 → Calls Tryd.prog 10 #[.agg #[.int .i64 a, .int .i64 b, .int .i64 c]] w1 fun e w' => e = .returned (.bool false) ∧ Below w1.heap.size w1 w'))
    (HQ : Hid (∀ w1, Below w.heap.size w w1 → Calls Tryd.prog 25 #[.agg #[.int .i64 a, .int .i64 b, .int .i64 c]] w1 fun e w' => e = .returned (.string T) ∧ Below w1.heap.size w1 w'))
    (HK : Hid (∀ w1, Below w.heap.size w w1 → Calls Tryd.prog 13 #[] w1 fun e w' => e = .returned (.bool true) ∧ Below w1.heap.size w1 w')) :
    Calls Tryd.prog 6 #[.agg #[.int .i64 a, .int .i64 b, .int .i64 c]] w fun e w' => e = .returned (.bool true) ∧ Below w.heap.size w w' := by
  have he := eqlV a b c a b c
  simp only [and_self, decide_true] at he
  have hg := guardV
  have HO : Hid (OKs w [⟨w.heap.size, .int .i64 a, .int .i64 b, .int .i64 c⟩] (w.alloc (.cells #[.int .i64 a, .int .i64 b, .int .i64 c] 23))) := (OKs.nil w).box rfl _ _ _
  go_enter Tryd.func6, Tryd.ntmps6
  go_wp2_with (first
    | (go_at_call 24; refine (lift_on HP.out (bs := [⟨w.heap.size, .int .i64 a, .int .i64 b, .int .i64 c⟩]) _ ?_).mono ?_; exact HO.out; clear HO; rintro e w1 ⟨rfl, ok⟩; have HO : Hid (OKs w [⟨w.heap.size, .int .i64 a, .int .i64 b, .int .i64 c⟩] w1) := ok; clear ok; obtain ⟨x0, y0, z0, s0⟩ := HO.out.one)
    | (go_at_call 22; refine (lift_on HR.out (bs := [⟨w.heap.size, .int .i64 a, .int .i64 b, .int .i64 c⟩]) _ ?_).mono ?_; exact HO.out; clear HO; rintro e w2 ⟨rfl, ok⟩; have HO : Hid (OKs w [⟨w.heap.size, .int .i64 a, .int .i64 b, .int .i64 c⟩] w2) := ok; clear ok; obtain ⟨x0, y0, z0, s0⟩ := HO.out.one)
    | (go_at_call 10; refine (lift_on HM.out (bs := [⟨w2.heap.size, .int .i64 0, .int .i64 0, .int .i64 0⟩, ⟨w.heap.size, .int .i64 a, .int .i64 b, .int .i64 c⟩]) _ ?_).mono ?_; exact HO.out.box rfl _ _ _; clear HO; rintro e w3 ⟨rfl, ok⟩; have HO : Hid (OKs w [⟨w2.heap.size, .int .i64 0, .int .i64 0, .int .i64 0⟩, ⟨w.heap.size, .int .i64 a, .int .i64 b, .int .i64 c⟩] w3) := ok; clear ok; obtain ⟨x0, y0, z0, s0⟩ := HO.out.one; obtain ⟨x1, y1, z1, s1⟩ := HO.out.two)
    | (go_at_call 25; refine (lift_on HQ.out (bs := [⟨w2.heap.size, .int .i64 0, .int .i64 0, .int .i64 0⟩, ⟨w.heap.size, .int .i64 a, .int .i64 b, .int .i64 c⟩]) _ ?_).mono ?_; exact HO.out; clear HO; rintro e w4 ⟨rfl, ok⟩; have HO : Hid (OKs w [⟨w2.heap.size, .int .i64 0, .int .i64 0, .int .i64 0⟩, ⟨w.heap.size, .int .i64 a, .int .i64 b, .int .i64 c⟩] w4) := ok; clear ok; obtain ⟨x0, y0, z0, s0⟩ := HO.out.one; obtain ⟨x1, y1, z1, s1⟩ := HO.out.two)
    | (go_at_call 13; refine (lift_on HK.out (bs := [⟨w2.heap.size, .int .i64 0, .int .i64 0, .int .i64 0⟩, ⟨w.heap.size, .int .i64 a, .int .i64 b, .int .i64 c⟩]) _ ?_).mono ?_; exact HO.out; clear HO; rintro e w5 ⟨rfl, ok⟩; have HO : Hid (OKs w [⟨w2.heap.size, .int .i64 0, .int .i64 0, .int .i64 0⟩, ⟨w.heap.size, .int .i64 a, .int .i64 b, .int .i64 c⟩] w5) := ok; clear ok; obtain ⟨x0, y0, z0, s0⟩ := HO.out.one; obtain ⟨x1, y1, z1, s1⟩ := HO.out.two))
  go_returns
  exact ⟨rfl, HO.out.1⟩

theorem writes_walk (a b c : Int) (w : World) (he : Env w) :
    Calls Tryd.prog 6 #[.agg #[.int .i64 a, .int .i64 b, .int .i64 c]] w fun e w' => e = .returned (.bool true) ∧ Below w.heap.size w w' := by
  have HP := print_on he.tab a b c
  have HM := fun w1 (_ : Below w.heap.size w w1) => rMay_any a b c w1
  have HQ := fun w1 (_ : Below w.heap.size w w1) => rPrint_any a b c w1
  have HK := fun w1 (_ : Below w.heap.size w w1) => known_any w1
  cases hm : mayV a b c
  · have ht : textV a b c = ByteArray.empty := by unfold textV; rw [hm]; rfl
    have HR := fun w1 hb => Parse_any (textV a b c) (by rw [ht]; decide) w1 (he.below hb)
    rw [hm] at HM
    have e1 : okP (textV a b c) = false := by rw [ht]; exact okP_empty
    unfold resA resB resC at HR
    rw [e1] at HR
    exact writes_no a b c _ w HP HR HM HQ HK
  · obtain ⟨e0, e1, e2, e3⟩ := okP_of hm
    have hz : (textV a b c).size < 4294967281 := by
      obtain ⟨a0, a1, b0, b1, c0, c1⟩ := may_all hm
      have za := itoa_three a0 a1
      have zb := itoa_three b0 b1
      have zc := itoa_three c0 c1
      rw [bytes_size] at za zb zc
      have := congrArg List.length (text_list hm)
      rw [list_size] at this
      simp at this
      omega
    have HR := fun w1 hb => Parse_any (textV a b c) hz w1 (he.below hb)
    rw [hm] at HM
    rw [e0, e1, e2, e3] at HR
    exact writes_yes a b c _ w HP HR HM HQ HK
end Go.Proofs.YtiimlfocgdfbfaaDoor
