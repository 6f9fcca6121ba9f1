/- printSpan of package span: a span's text. -/
import Derived.Test.YtkmgfemhfibikaaGreatDoorTx5
namespace Go.Proofs.YtkmgfemhfibikaaGreatDoor
open Go.RowKit
set_option maxRecDepth 100000

/-- A span's text. -/
def spanT (a b c x y z : Int) : ByteArray :=
  if a = x ∧ b = y ∧ c = z then textV a b c else if (a = 0 ∧ b = 0 ∧ c = 0) ∧ (x = 999 ∧ y = 999 ∧ z = 999) then ⟨#[42]⟩ else if a = 0 ∧ b = 0 ∧ c = 0 then ⟨#[60, 61]⟩ ++ textV x y z else
  if x = 999 ∧ y = 999 ∧ z = 999 then ⟨#[62, 61]⟩ ++ textV a b c else ((⟨#[62, 61]⟩ ++ textV a b c) ++ ⟨#[32, 60, 61]⟩) ++ textV x y z

theorem text_size (a b c : Int) : (textV a b c).size ≤ 11 := by
  unfold textV
  split
  · rename_i h
    obtain ⟨a0, a1, b0, b1, c0, c1⟩ := may_all h
    have za := itoa_three a0 a1
    have zb := itoa_three b0 b1
    have zc := itoa_three c0 c1
    have zd : (⟨#[46]⟩ : ByteArray).size = 1 := rfl
    rw [size_cat, size_cat, size_cat, size_cat]; omega
  · decide

set_option maxHeartbeats 3200000 in
theorem printSpan_any (a b c x y z : Int) (w : World) (he : Env w) (hf : FL w) :
    Calls Tryz.prog 39 #[.agg #[.int .i64 a, .int .i64 b, .int .i64 c, .int .i64 x, .int .i64 y, .int .i64 z]] w fun e w' => e = .returned (.string (spanT a b c x y z)) ∧ Below w.heap.size w w' := by
  have hg := guardV
  have HPL : Hid (∀ w1, Below w.heap.size w w1 → Calls Tryz.prog 38 #[.agg #[.int .i64 a, .int .i64 b, .int .i64 c]] w1 fun e w' => e = .returned (.string (textV a b c)) ∧ Below w1.heap.size w1 w') := fun w1 hb => print_on he.tab a b c w1 hb
  have HPH : Hid (∀ w1, Below w.heap.size w w1 → Calls Tryz.prog 38 #[.agg #[.int .i64 x, .int .i64 y, .int .i64 z]] w1 fun e w' => e = .returned (.string (textV x y z)) ∧ Below w1.heap.size w1 w') := fun w1 hb => print_on he.tab x y z w1 hb
  have HO : Hid (Below w.heap.size w (w.alloc (.cells #[.int .i64 a, .int .i64 b, .int .i64 c, .int .i64 x, .int .i64 y, .int .i64 z] 37)) ∧ Bx6 (w.alloc (.cells #[.int .i64 a, .int .i64 b, .int .i64 c, .int .i64 x, .int .i64 y, .int .i64 z] 37)) w.heap.size a b c x y z) := ⟨boxB _ _, Bx6.new rfl _ _ _ _ _ _⟩
  have HK : Hid (KeepP fun w1 => Below w.heap.size w w1 ∧ Bx6 w1 w.heap.size a b c x y z) := (keepBelow w).and (keep6 _ _ _ _ _ _ _)
  obtain ⟨⟨g0, g1, g2⟩, ⟨l0, l1, l2⟩, _, _⟩ := hf.below (boxB w (.cells #[.int .i64 a, .int .i64 b, .int .i64 c, .int .i64 x, .int .i64 y, .int .i64 z] 37))
  have e1 := eqlV a b c x y z
  have e2 := eqlV a b c 0 0 0
  have e3 := eqlV x y z 999 999 999
  clear hf he
  by_cases h1 : a = x ∧ b = y ∧ c = z
  · have HT : Hid (spanT a b c x y z = textV a b c) := by unfold Hid spanT; rw [if_pos h1]
    rw [decide_eq_true h1] at e1
    clear h1 e2 e3
    go_enter Tryz.func39, Tryz.ntmps39
    go_wp2_with (go_at_call 38; refine (HPL.out _ HO.out.1).mono ?_; rintro e w1 ⟨rfl, ok1⟩; have HO1 := hide3 ok1; clear ok1)
    go_ret
    exact ⟨by rw [HT.out]; rfl, below_then HO.out.1 HO1.out⟩
  rw [decide_eq_false h1] at e1
  by_cases h2 : a = 0 ∧ b = 0 ∧ c = 0
  · rw [decide_eq_true h2] at e2
    by_cases h3 : x = 999 ∧ y = 999 ∧ z = 999
    · rw [decide_eq_true h3] at e3
      have HT : Hid (spanT a b c x y z = ⟨#[42]⟩) := by unfold Hid spanT; rw [if_neg h1, if_pos ⟨h2, h3⟩]
      clear h1 h2 h3
      go_enter Tryz.func39, Tryz.ntmps39
      go_wp2_with fail
      go_ret
      exact ⟨by rw [HT.out]; rfl, HO.out.1⟩
    · rw [decide_eq_false h3] at e3
      have HT : Hid (spanT a b c x y z = ⟨#[60, 61]⟩ ++ textV x y z) := by unfold Hid spanT; rw [if_neg h1, if_neg (fun h => h3 h.2), if_pos h2]
      clear h1 h2 h3
      have zT := text_size x y z
      have z2 : (⟨#[60, 61]⟩ : ByteArray).size = 2 := rfl
      generalize textV x y z = T at *
      have s1 := fun W : World => run_string_add_sum (P := Tryz.prog) (w := W) ⟨#[60, 61]⟩ T (by omega)
      clear zT z2
      go_enter Tryz.func39, Tryz.ntmps39
      go_wp2_with (go_at_call 38; refine (HPH.out _ HO.out.1).mono ?_; rintro e w1 ⟨rfl, ok1⟩; have HO1 := hide3 ok1; clear ok1)
      go_ret
      exact ⟨by rw [HT.out]; rfl, below_then HO.out.1 HO1.out⟩
  · rw [decide_eq_false h2] at e2
    by_cases h3 : x = 999 ∧ y = 999 ∧ z = 999
    · rw [decide_eq_true h3] at e3
      have HT : Hid (spanT a b c x y z = ⟨#[62, 61]⟩ ++ textV a b c) := by unfold Hid spanT; rw [if_neg h1, if_neg (fun h => h2 h.1), if_neg h2, if_pos h3]
      clear h1 h2 h3
      have zT := text_size a b c
      have z2 : (⟨#[62, 61]⟩ : ByteArray).size = 2 := rfl
      generalize textV a b c = T at *
      have s1 := fun W : World => run_string_add_sum (P := Tryz.prog) (w := W) ⟨#[62, 61]⟩ T (by omega)
      clear zT z2
      go_enter Tryz.func39, Tryz.ntmps39
      go_wp2_with (go_at_call 38; refine (HPL.out _ HO.out.1).mono ?_; rintro e w1 ⟨rfl, ok1⟩; have HO1 := hide3 ok1; clear ok1)
      go_ret
      exact ⟨by rw [HT.out]; rfl, below_then HO.out.1 HO1.out⟩
    · rw [decide_eq_false h3] at e3
      have HT : Hid (spanT a b c x y z = ((⟨#[62, 61]⟩ ++ textV a b c) ++ ⟨#[32, 60, 61]⟩) ++ textV x y z) := by unfold Hid spanT; rw [if_neg h1, if_neg (fun h => h2 h.1), if_neg h2, if_neg h3]
      have HQL : Hid (∀ w1, (Below w.heap.size w w1 ∧ Bx6 w1 w.heap.size a b c x y z) → Calls Tryz.prog 38 #[.agg #[.int .i64 a, .int .i64 b, .int .i64 c]] w1 fun e w' => e = .returned (.string (textV a b c)) ∧ Below w1.heap.size w1 w') := fun w1 h => HPL.out w1 h.1
      have HQH : Hid (∀ w1, (Below w.heap.size w w1 ∧ Bx6 w1 w.heap.size a b c x y z) → Calls Tryz.prog 38 #[.agg #[.int .i64 x, .int .i64 y, .int .i64 z]] w1 fun e w' => e = .returned (.string (textV x y z)) ∧ Below w1.heap.size w1 w') := fun w1 h => HPH.out w1 h.1
      clear h1 h2 h3
      have zT := text_size a b c
      have zU := text_size x y z
      have z2 : (⟨#[62, 61]⟩ : ByteArray).size = 2 := rfl
      have z3 : (⟨#[32, 60, 61]⟩ : ByteArray).size = 3 := rfl
      generalize textV a b c = T at *
      generalize textV x y z = U at *
      have s1 := fun W : World => run_string_add_sum (P := Tryz.prog) (w := W) ⟨#[62, 61]⟩ T (by omega)
      have s2 := fun W : World => run_string_add_sum (P := Tryz.prog) (w := W) (⟨#[62, 61]⟩ ++ T) ⟨#[32, 60, 61]⟩ (by rw [size_cat]; omega)
      have s3 := fun W : World => run_string_add_sum (P := Tryz.prog) (w := W) ((⟨#[62, 61]⟩ ++ T) ++ ⟨#[32, 60, 61]⟩) U (by rw [size_cat, size_cat]; omega)
      clear zT zU z2 z3
      go_enter Tryz.func39, Tryz.ntmps39
      go_wp2_with fail
      refine wp_region_keep HK.out (by kernel_rfl) (by kernel_rfl) (by first | exact HO.out | exact HK.out.drew HO.out) ?_
      intro C hin hout
      have HIN := hide3 hin
      have HOUT := hide3 hout
      clear hin hout HO
      repeat
        (with_reducible refine wpQuiet_step (fun K hK => ?_)
         go_simp
         first
           | (refine hK _ ?_; clear hK K)
           | (apply Exists.intro; refine ⟨fun w1 hC => ?_, hK _ ?_⟩; (focus ((first | (go_at_call 38; with_reducible exact callC' HIN.out HOUT.out HK.out HQL.out w1 hC) | (go_at_call 38; with_reducible exact callC' HIN.out HOUT.out HK.out HQH.out w1 hC) | (exact rfl) | (obtain ⟨hb1, k0, k1, k2, k3, k4, k5, k6⟩ := HOUT.out w1 hC; clear hC; go_simp; first | done | exact rfl)); done)); clear hK K))
      refine wpQuiet_nil ?_
      intro wn hC
      have HO := hide3 (HOUT.out _ hC)
      clear hC HIN HOUT C
      obtain ⟨hb1, k0, k1, k2, k3, k4, k5, k6⟩ := HO.out
      go_wp2
      go_ret
      exact ⟨by rw [HT.out]; rfl, HO.out.1⟩
end Go.Proofs.YtkmgfemhfibikaaGreatDoor
