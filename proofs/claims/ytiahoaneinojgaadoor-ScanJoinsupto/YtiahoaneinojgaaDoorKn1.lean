/- known of the statements. -/
import Derived.Test.YtiahoaneinojgaaDoorLi3
import Derived.Test.YtiahoaneinojgaaDoorNu2
import Derived.Test.YtiahoaneinojgaaDoorNm3
import Derived.Test.YtiahoaneinojgaaDoorWd1
namespace Go.Proofs.YtiahoaneinojgaaDoor.Sc
open Go.RowKit
set_option maxRecDepth 100000

theorem OwnLL.at {w : World} {B : Nat} {v : Value} {L : List (List Bs)} (h : OwnLL w B v L) : LinesAt w v L := by
  obtain ⟨ps, rfl, h⟩ := h
  exact h.at
def kL : List (List Bs) := [[[97], [98, 99]], [[100]]]
theorem kL_scan : scanR [97, 32, 98, 99, 10, 100, 10] [] [] [] = .ok kL := by kernel_rfl
theorem kL_fits : Fits kL := ⟨by decide, by decide⟩

theorem words_new (w : World) (ws : List Bs) : WordsAt (w.alloc (.cells (strs ws).toArray 9)) (.slice (some ⟨w.heap.size, 0, none⟩) ws.length ws.length) ws := by
  refine ⟨_, ws.length, rfl, Nat.le_refl _, Or.inr ⟨w.heap.size, 0, rfl, by simp, fun i hi => ?_⟩⟩
  have : (strs ws)[i]? = some (.string (ba ws[i])) := by simp [strs, hi]
  simp [this]
theorem lit_lines (w : World) : LinesAt (((w.alloc (.cells #[.string ⟨#[97]⟩, .string ⟨#[98, 99]⟩] 9)).alloc (.cells #[.string ⟨#[100]⟩] 9)).alloc (.cells #[.slice (some ⟨w.heap.size, 0, none⟩) 2 2, .slice (some ⟨w.heap.size + 1, 0, none⟩) 1 1] 27)) (.slice (some ⟨w.heap.size + 2, 0, none⟩) 2 2) kL := by
  have h1 : WordsAt (w.alloc (.cells #[.string ⟨#[97]⟩, .string ⟨#[98, 99]⟩] 9)) (.slice (some ⟨w.heap.size, 0, none⟩) 2 2) [[97], [98, 99]] := words_new w [[97], [98, 99]]
  generalize hw1 : w.alloc (.cells #[.string ⟨#[97]⟩, .string ⟨#[98, 99]⟩] 9) = w1 at *
  have e1 : w1.heap.size = w.heap.size + 1 := by rw [← hw1]; simp
  have h2 : WordsAt (w1.alloc (.cells #[.string ⟨#[100]⟩] 9)) (.slice (some ⟨w1.heap.size, 0, none⟩) 1 1) [[100]] := words_new w1 [[100]]
  have h3 := h1.below (boxB w1 (.cells #[.string ⟨#[100]⟩] 9))
  generalize hw2 : w1.alloc (.cells #[.string ⟨#[100]⟩] 9) = w2 at *
  have e2 : w2.heap.size = w.heap.size + 2 := by rw [← hw2]; simp [e1]
  rw [← e2, ← e1]
  have k0 : (w2.alloc (.cells #[.slice (some ⟨w.heap.size, 0, none⟩) 2 2, .slice (some ⟨w1.heap.size, 0, none⟩) 1 1] 27)).cell? ⟨w2.heap.size, 0, none⟩ = some (.slice (some ⟨w.heap.size, 0, none⟩) 2 2) := by simp
  have k1 : (w2.alloc (.cells #[.slice (some ⟨w.heap.size, 0, none⟩) 2 2, .slice (some ⟨w1.heap.size, 0, none⟩) 1 1] 27)).cell? ⟨w2.heap.size, 1, none⟩ = some (.slice (some ⟨w1.heap.size, 0, none⟩) 1 1) := by simp
  have h4 := h3.below (boxB w2 (.cells #[.slice (some ⟨w.heap.size, 0, none⟩) 2 2, .slice (some ⟨w1.heap.size, 0, none⟩) 1 1] 27))
  have h5 := h2.below (boxB w2 (.cells #[.slice (some ⟨w.heap.size, 0, none⟩) 2 2, .slice (some ⟨w1.heap.size, 0, none⟩) 1 1] 27))
  refine ⟨_, 2, rfl, Nat.le_refl _, Or.inr ⟨w2.heap.size, 0, rfl, by simp, fun i hi => ?_⟩⟩
  match i, hi with
  | 0, _ => exact ⟨_, k0, h4⟩
  | 1, _ => exact ⟨_, k1, h5⟩

theorem below3 (w : World) (a b c : Obj) : Below w.heap.size w (((w.alloc a).alloc b).alloc c) := below_then (below_then (boxB _ _) (boxB _ _)) (boxB _ _)

set_option maxHeartbeats 3200000 in
theorem known_any (w : World) (he : EnvS w) : Calls Tryd.prog 11 #[] w fun e w' => e = .returned (.bool true) ∧ Below w.heap.size w w' := by
  have HLn : Hid (Calls Tryd.prog 9 #[.string ⟨#[97, 32, 98, 99, 10, 100, 10]⟩, .int .i64 10] w fun e w' => ∃ v, e = .returned (.tuple #[v, .int .i64 0, .int .i64 0]) ∧ LinesAt w' v kL ∧ Below w.heap.size w w') := by
    refine (Lines_walk ⟨#[97, 32, 98, 99, 10, 100, 10]⟩ (by decide) 10 (by decide) w (fun s h1 w1 => Clone_any s (by omega) w1)).mono ?_
    rintro e w' ⟨v, rfl, ho, hb⟩
    have hk : scanR (⟨#[97, 32, 98, 99, 10, 100, 10]⟩ : ByteArray).data.toList [] [] [] = .ok kL := kL_scan
    rw [hk] at ho ⊢
    exact ⟨v, rfl, ho.at, hb⟩
  have HNu : Hid (∀ w1, Below w.heap.size w w1 → Calls Tryd.prog 14 #[.string ⟨#[49, 50]⟩, .int .i64 20] w1 fun e w' => e = .returned (.tuple #[.int .i64 12, .bool true]) ∧ Below w1.heap.size w1 w') := by
    intro w1 hb
    have := Number_any ⟨#[49, 50]⟩ (by decide) 20 w1 (he.below hb)
    unfold NumP at this
    have e1 : ansI (⟨#[49, 50]⟩ : ByteArray).data.toList 20 = 12 := by decide +kernel
    have e2 : ansB (⟨#[49, 50]⟩ : ByteArray).data.toList 20 = true := by decide +kernel
    rw [e1, e2] at this
    exact this
  have HNm : Hid (∀ w1, Calls Tryd.prog 16 #[.string ⟨#[97, 45, 49]⟩] w1 fun e w' => e = .returned (.bool true) ∧ w' = w1) := by
    intro w1
    have := Name_any ⟨#[97, 45, 49]⟩ w1
    have e1 : nameA (⟨#[97, 45, 49]⟩ : ByteArray).data.toList = true := by decide +kernel
    rw [e1] at this
    exact this
  clear he
  go_enter Tryd.func11, Tryd.ntmps11
  go_wp2_with (first
    | (go_at_call 9; refine HLn.out.mono ?_; rintro e w1 ⟨v1, rfl, hl1, hb1⟩; have HL1 := hide3 hl1; have HB1 := hide3 hb1; clear hl1 hb1 HLn)
    | (go_at_call 14; refine (HNu.out _ HB1.out).mono ?_; rintro e w2 ⟨rfl, hb2⟩; have HB2 := hide3 hb2; clear hb2 HNu)
    | (go_at_call 10; refine (same_yes ((HL1.out.below HB2.out).below (below3 _ _ _ _)) (lit_lines w2) kL_fits).mono ?_; rintro e w3 ⟨rfl, hb3⟩; have HB3 : Hid (Below w.heap.size w w3) := below_then (below_then HB1.out HB2.out) (below_then (below3 _ _ _ _) hb3); clear hb3)
    | (go_at_call 16; refine (HNm.out _).mono ?_; rintro e w4 ⟨rfl, hw4⟩; subst hw4))
  go_ret
  exact ⟨rfl, HB3.out⟩
end Go.Proofs.YtiahoaneinojgaaDoor.Sc
