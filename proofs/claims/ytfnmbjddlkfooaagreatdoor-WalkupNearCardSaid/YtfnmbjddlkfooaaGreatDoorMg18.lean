/- Tw13, laid in one text. -/
import Derived.Test.YtfnmbjddlkfooaaGreatDoorMg17
namespace Go.Proofs.YtfnmbjddlkfooaaGreatDoor
open Go.RowKit
set_option maxRecDepth 100000

set_option maxHeartbeats 3200000 in
theorem lives_any {w : World} (he : Env w) (hf : FL w) :
    Calls Tryz.prog 8 #[] w fun e w' => e = .returned (.bool true) ∧ Below w.heap.size w w' := by
  have HW : Hid ((w5S w).alloc (.cells #[.slice (some ⟨w.heap.size + 1 + 1 + 1 + 1 + 1, 0, none⟩) 2 2] 27) = w6S w) := rfl
  have hb6 := b6S w
  have hbd : Below (w2S w).heap.size (w2S w) (w6S w) := below_then (boxB (w2S w) _) (below_then (boxB (w3S w) _) (below_then (boxB (w4S w) _) (boxB (w5S w) _)))
  have HD : Hid (∀ w1, Below (w6S w).heap.size (w6S w) w1 → DirsAt w1 (.slice (some ⟨w.heap.size + 1 + 1, 0, none⟩) 2 2) smallL) := fun w1 hb => (dirs2S w).below (below_then hbd hb)
  have HM : Hid (Calls Tryz.prog 6 #[.agg #[.slice (some ⟨w.heap.size + 1 + 1, 0, none⟩) 2 2], .agg #[.slice (some ⟨w.heap.size + 1 + 1 + 1 + 1 + 1, 0, none⟩) 2 2]] (w6S w) fun e w' => ∃ gm cm, e = .returned (.tuple #[.slice (some ⟨gm, 0, none⟩) 2 cm, .int .i64 0]) ∧ (w'.cell? ⟨gm, 1, none⟩ = some (.int .i64 1) ∧ gm < w'.heap.size) ∧ Below (w6S w).heap.size (w6S w) w') := by
    refine (map_any ((dirs2S w).below hbd) (by decide) small_ok ((nodes5S w).below (boxB (w5S w) _)) small_gok (he.below hb6) (hf.below hb6)).mono ?_
    rintro e w' ⟨v', rfl, ho, hb⟩
    rw [small_mapE]
    rw [small_mapO] at ho
    obtain ⟨gm, cm, rfl, _⟩ := ho.form (by decide)
    refine ⟨gm, cm, rfl, ⟨?_, (World.ownsRow.lt ho gm rfl).2⟩, hb⟩
    exact World.ownsRow.cellAt ho 1 (by decide)
  have HL1 : Hid (∀ w1, Below (w6S w).heap.size (w6S w) w1 → Calls Tryz.prog 10 #[.agg #[.slice (some ⟨w.heap.size + 1 + 1, 0, none⟩) 2 2], .int .i64 1, .string ⟨#[97]⟩] w1 fun e w' => e = .returned (.int .i64 1) ∧ Below w1.heap.size w1 w') := fun w1 hb => by
    have h := look_any (HD.out w1 hb) (by decide) small_ok.1 1 sA
    rw [look_1a] at h
    exact h
  have HL2 : Hid (∀ w1, Below (w6S w).heap.size (w6S w) w1 → Calls Tryz.prog 10 #[.agg #[.slice (some ⟨w.heap.size + 1 + 1, 0, none⟩) 2 2], .int .i64 0, .string ⟨#[98]⟩] w1 fun e w' => e = .returned (.int .i64 (-1)) ∧ Below w1.heap.size w1 w') := fun w1 hb => by
    have h := look_any (HD.out w1 hb) (by decide) small_ok.1 0 sB
    rw [look_0b] at h
    exact h
  have HBT : Hid (∀ w1, Below (w6S w).heap.size (w6S w) w1 → w1.cell? ⟨w.heap.size + 1 + 1 + 1, 0, none⟩ = some (.slice (some ⟨w.heap.size + 1 + 1, 0, none⟩) 2 2)) := fun w1 hb => by
    have h3 : (w3S w).heap[w.heap.size + 1 + 1 + 1]? = some (.cells #[.slice (some ⟨w.heap.size + 1 + 1, 0, none⟩) 2 2] 24 (0, 0)) := by
      have h := heap_alloc_new (w2S w) (.cells #[.slice (some ⟨w.heap.size + 1 + 1, 0, none⟩) 2 2] 24)
      rw [s2S] at h
      exact h
    have hb36 : Below (w3S w).heap.size (w3S w) w1 := below_then (below_then (boxB (w3S w) _) (below_then (boxB (w4S w) _) (boxB (w5S w) _))) hb
    refine (hb36.cell (p := ⟨w.heap.size + 1 + 1 + 1, 0, none⟩) (by show w.heap.size + 1 + 1 + 1 < _; rw [s3S]; omega)).trans ?_
    rw [Lib.cell_of_heap h3]
    rfl
  have HB6 := hide3 hb6
  clear hbd hb6 he hf
  go_enter Tryz.func8, Tryz.ntmps8
  have t1 : True := trivial
  go_wp2_with (first
    | (go_at_call 6; refine HM.out.mono ?_; rintro e w7 ⟨gm, cm, rfl, ⟨hc7, hg7⟩, ok⟩; have HO7 := hide3 ok; have b7 := HBT.out _ ok; clear ok)
    | (have _t := t1; go_at_call 10; refine (HL1.out _ HO7.out).mono ?_; rintro e w8 ⟨rfl, ok⟩; have HO8 := hide3 (below_then HO7.out ok); have b8 := HBT.out _ HO8.out; have hc8 := (ok.cell (p := ⟨gm, 1, none⟩) hg7).trans hc7; have hg8 := Nat.lt_of_lt_of_le hg7 ok.size; clear ok t1)
    | (have _t := HO8; go_at_call 10; refine (HL2.out _ HO8.out).mono ?_; rintro e w9 ⟨rfl, ok⟩; have HO9 := hide3 (below_then HO8.out ok); have hc9 := (ok.cell (p := ⟨gm, 1, none⟩) hg8).trans hc8; clear ok))
  go_ret
  exact ⟨rfl, below_then HB6.out HO9.out⟩
end Go.Proofs.YtfnmbjddlkfooaaGreatDoor
