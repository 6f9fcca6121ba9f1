/- The walks of Next and Prev, of package vers and of the document's answer. No condition. -/
import Derived.Test.YtiimlfocgdfbfaaDoorVers3
namespace Go.Proofs.YtiimlfocgdfbfaaDoor
open Go.RowKit
set_option maxRecDepth 100000

/-- The version that stands k places on; zeros, where there is none. -/
def onA (a b c k : Int) : Int := if mayV a b c then atA (rankV a b c + k) else 0
def onB (a b c k : Int) : Int := if mayV a b c then atB (rankV a b c + k) else 0
def onC (a b c k : Int) : Int := if mayV a b c then atC (rankV a b c + k) else 0
def onIs (a b c k : Int) : Bool := mayV a b c && hasV (rankV a b c + k)

set_option maxHeartbeats 800000 in
theorem Next_any (a b c : Int) (w : World) :
    Calls Tryd.prog 18 #[.agg #[.int .i64 a, .int .i64 b, .int .i64 c]] w fun e w' => e = .returned (.tuple #[.agg #[.int .i64 (onA a b c 1), .int .i64 (onB a b c 1), .int .i64 (onC a b c 1)], .bool (onIs a b c 1)]) ∧ Below w.heap.size w w' := by
  have HM : Hid (∀ w1, Calls Tryd.prog 29 #[.agg #[.int .i64 a, .int .i64 b, .int .i64 c], .int .i64 1] w1 fun e w' => e = .returned (.tuple #[.agg #[.int .i64 (onA a b c 1), .int .i64 (onB a b c 1), .int .i64 (onC a b c 1)], .bool (onIs a b c 1)]) ∧ Below w1.heap.size w1 w') := fun w1 => beside_any a b c 1 w1 (by omega)
  go_enter Tryd.func18, Tryd.ntmps18
  go_wp2_with (go_at_call 29; refine (HM.out _).mono ?_; rintro e w' ⟨rfl, hb⟩; obtain ⟨k0, k1, k2, k3, k4, k5, k6⟩ := boxAt (N := w.heap.size + 1) (by simp) hb)
  obtain ⟨s0, s1, s2⟩ := setV k0 k1 k2
  try simp only [Exit.inBlock, Exit.then]
  refine bodyPost_ret (by simp [results, Tryd.results18, s0, s1, s2, go_sem]; try rfl) rfl ?_
  exact ⟨ret_ver rfl rfl rfl rfl, below_setV (by omega) (below_then (boxB2 _ _ _) hb)⟩

set_option maxHeartbeats 800000 in
theorem rNext_any (a b c : Int) (w : World) :
    Calls Tryd.prog 19 #[.agg #[.int .i64 a, .int .i64 b, .int .i64 c]] w fun e w' => e = .returned (.tuple #[.agg #[.int .i64 (onA a b c 1), .int .i64 (onB a b c 1), .int .i64 (onC a b c 1)], .bool (onIs a b c 1)]) ∧ Below w.heap.size w w' := by
  unfold onA onB onC onIs
  have HM : Hid (∀ w1, Calls Tryd.prog 15 #[.agg #[.int .i64 a, .int .i64 b, .int .i64 c]] w1 fun e w' => e = .returned (.tuple #[.int .i64 (rankV a b c), .bool (mayV a b c)]) ∧ Below w1.heap.size w1 w') := rRank_any a b c
  have HA : Hid (∀ w1, Calls Tryd.prog 17 #[.int .i64 (rankV a b c + 1)] w1 fun e w' => e = .returned (.tuple #[.agg #[.int .i64 (atA (rankV a b c + 1)), .int .i64 (atB (rankV a b c + 1)), .int .i64 (atC (rankV a b c + 1))], .bool (hasV (rankV a b c + 1))]) ∧ Below w1.heap.size w1 w') := rAt_any _
  cases hm : mayV a b c
  · rw [hm] at HM
    go_enter Tryd.func19, Tryd.ntmps19
    go_wp2_with (go_at_call 15; refine (HM.out _).mono ?_; rintro e w' ⟨rfl, hb⟩; obtain ⟨k0, k1, k2, k3, k4, k5, k6⟩ := boxAt (N := w.heap.size + 1) (by simp) hb)
    obtain ⟨s0, s1, s2⟩ := setV ‹World.cell? w' ⟨w.heap.size + 1, 0, none⟩ = _› ‹World.cell? w' ⟨w.heap.size + 1, 1, none⟩ = _› ‹World.cell? w' ⟨w.heap.size + 1, 2, none⟩ = _›
    try simp only [Exit.inBlock, Exit.then]
    refine bodyPost_ret (by simp [results, Tryd.results19, s0, s1, s2, go_sem]; try rfl) rfl ?_
    exact ⟨ret_ver rfl rfl rfl rfl, below_setV (by omega) (below_then (boxB2 _ _ _) hb)⟩
  · obtain ⟨a0, a1, b0, b1, c0, c1⟩ := may_all hm
    have hr : rankV a b c = (a * 1000 + b) * 1000 + c := by unfold rankV; rw [hm]; rfl
    have hr0 : 0 ≤ rankV a b c := by rw [hr]; omega
    have hr1 : rankV a b c < 1000000000 := by rw [hr]; omega
    rw [hm] at HM
    clear hr
    generalize rankV a b c = r at *
    go_enter Tryd.func19, Tryd.ntmps19
    go_wp2_with (first
      | (go_at_call 15; refine (HM.out _).mono ?_; rintro e w1 ⟨rfl, hb⟩; obtain ⟨k0, k1, k2, k3, k4, k5, k6⟩ := boxAt (N := w.heap.size + 1) (by simp) hb)
      | (go_at_call 17; refine (HA.out _).mono ?_; rintro e w2 ⟨rfl, hb2⟩; have j0 := (hb2.cell (p := ⟨w.heap.size + 1, 0, none⟩) k6).trans k0; have j1 := (hb2.cell (p := ⟨w.heap.size + 1, 1, none⟩) k6).trans k1; have j2 := (hb2.cell (p := ⟨w.heap.size + 1, 2, none⟩) k6).trans k2; have j3 := (hb2.frozen (p := ⟨w.heap.size + 1, 0, none⟩) k6).trans k3; have j4 := (hb2.frozen (p := ⟨w.heap.size + 1, 1, none⟩) k6).trans k4; have j5 := (hb2.frozen (p := ⟨w.heap.size + 1, 2, none⟩) k6).trans k5))
    obtain ⟨s0, s1, s2⟩ := setV ‹World.cell? w2 ⟨w.heap.size + 1, 0, none⟩ = _› ‹World.cell? w2 ⟨w.heap.size + 1, 1, none⟩ = _› ‹World.cell? w2 ⟨w.heap.size + 1, 2, none⟩ = _›
    try simp only [Exit.inBlock, Exit.then]
    refine bodyPost_ret (by simp [results, Tryd.results19, s0, s1, s2, go_sem]; try rfl) rfl ?_
    exact ⟨ret_ver rfl rfl rfl rfl, below_setV (by omega) (below_then (below_then (boxB2 _ _ _) hb) hb2)⟩

set_option maxHeartbeats 800000 in
theorem Prev_any (a b c : Int) (w : World) :
    Calls Tryd.prog 20 #[.agg #[.int .i64 a, .int .i64 b, .int .i64 c]] w fun e w' => e = .returned (.tuple #[.agg #[.int .i64 (onA a b c (-1)), .int .i64 (onB a b c (-1)), .int .i64 (onC a b c (-1))], .bool (onIs a b c (-1))]) ∧ Below w.heap.size w w' := by
  have HM : Hid (∀ w1, Calls Tryd.prog 29 #[.agg #[.int .i64 a, .int .i64 b, .int .i64 c], .int .i64 (-1)] w1 fun e w' => e = .returned (.tuple #[.agg #[.int .i64 (onA a b c (-1)), .int .i64 (onB a b c (-1)), .int .i64 (onC a b c (-1))], .bool (onIs a b c (-1))]) ∧ Below w1.heap.size w1 w') := fun w1 => beside_any a b c (-1) w1 (by omega)
  go_enter Tryd.func20, Tryd.ntmps20
  go_wp2_with (go_at_call 29; refine (HM.out _).mono ?_; rintro e w' ⟨rfl, hb⟩; obtain ⟨k0, k1, k2, k3, k4, k5, k6⟩ := boxAt (N := w.heap.size + 1) (by simp) hb)
  obtain ⟨s0, s1, s2⟩ := setV k0 k1 k2
  try simp only [Exit.inBlock, Exit.then]
  refine bodyPost_ret (by simp [results, Tryd.results20, s0, s1, s2, go_sem]; try rfl) rfl ?_
  exact ⟨ret_ver rfl rfl rfl rfl, below_setV (by omega) (below_then (boxB2 _ _ _) hb)⟩

set_option maxHeartbeats 800000 in
theorem rPrev_any (a b c : Int) (w : World) :
    Calls Tryd.prog 21 #[.agg #[.int .i64 a, .int .i64 b, .int .i64 c]] w fun e w' => e = .returned (.tuple #[.agg #[.int .i64 (onA a b c (-1)), .int .i64 (onB a b c (-1)), .int .i64 (onC a b c (-1))], .bool (onIs a b c (-1))]) ∧ Below w.heap.size w w' := by
  unfold onA onB onC onIs
  have HM : Hid (∀ w1, Calls Tryd.prog 15 #[.agg #[.int .i64 a, .int .i64 b, .int .i64 c]] w1 fun e w' => e = .returned (.tuple #[.int .i64 (rankV a b c), .bool (mayV a b c)]) ∧ Below w1.heap.size w1 w') := rRank_any a b c
  have HA : Hid (∀ w1, Calls Tryd.prog 17 #[.int .i64 (rankV a b c - 1)] w1 fun e w' => e = .returned (.tuple #[.agg #[.int .i64 (atA (rankV a b c + (-1))), .int .i64 (atB (rankV a b c + (-1))), .int .i64 (atC (rankV a b c + (-1)))], .bool (hasV (rankV a b c + (-1)))]) ∧ Below w1.heap.size w1 w') := rAt_any _
  cases hm : mayV a b c
  · rw [hm] at HM
    go_enter Tryd.func21, Tryd.ntmps21
    go_wp2_with (go_at_call 15; refine (HM.out _).mono ?_; rintro e w' ⟨rfl, hb⟩; obtain ⟨k0, k1, k2, k3, k4, k5, k6⟩ := boxAt (N := w.heap.size + 1) (by simp) hb)
    obtain ⟨s0, s1, s2⟩ := setV ‹World.cell? w' ⟨w.heap.size + 1, 0, none⟩ = _› ‹World.cell? w' ⟨w.heap.size + 1, 1, none⟩ = _› ‹World.cell? w' ⟨w.heap.size + 1, 2, none⟩ = _›
    try simp only [Exit.inBlock, Exit.then]
    refine bodyPost_ret (by simp [results, Tryd.results21, s0, s1, s2, go_sem]; try rfl) rfl ?_
    exact ⟨ret_ver rfl rfl rfl rfl, below_setV (by omega) (below_then (boxB2 _ _ _) hb)⟩
  · obtain ⟨a0, a1, b0, b1, c0, c1⟩ := may_all hm
    have hr : rankV a b c = (a * 1000 + b) * 1000 + c := by unfold rankV; rw [hm]; rfl
    have hr0 : 0 ≤ rankV a b c := by rw [hr]; omega
    have hr1 : rankV a b c < 1000000000 := by rw [hr]; omega
    rw [hm] at HM
    clear hr
    generalize rankV a b c = r at *
    go_enter Tryd.func21, Tryd.ntmps21
    go_wp2_with (first
      | (go_at_call 15; refine (HM.out _).mono ?_; rintro e w1 ⟨rfl, hb⟩; obtain ⟨k0, k1, k2, k3, k4, k5, k6⟩ := boxAt (N := w.heap.size + 1) (by simp) hb)
      | (go_at_call 17; refine (HA.out _).mono ?_; rintro e w2 ⟨rfl, hb2⟩; have j0 := (hb2.cell (p := ⟨w.heap.size + 1, 0, none⟩) k6).trans k0; have j1 := (hb2.cell (p := ⟨w.heap.size + 1, 1, none⟩) k6).trans k1; have j2 := (hb2.cell (p := ⟨w.heap.size + 1, 2, none⟩) k6).trans k2; have j3 := (hb2.frozen (p := ⟨w.heap.size + 1, 0, none⟩) k6).trans k3; have j4 := (hb2.frozen (p := ⟨w.heap.size + 1, 1, none⟩) k6).trans k4; have j5 := (hb2.frozen (p := ⟨w.heap.size + 1, 2, none⟩) k6).trans k5))
    obtain ⟨s0, s1, s2⟩ := setV ‹World.cell? w2 ⟨w.heap.size + 1, 0, none⟩ = _› ‹World.cell? w2 ⟨w.heap.size + 1, 1, none⟩ = _› ‹World.cell? w2 ⟨w.heap.size + 1, 2, none⟩ = _›
    try simp only [Exit.inBlock, Exit.then]
    refine bodyPost_ret (by simp [results, Tryd.results21, s0, s1, s2, go_sem]; try rfl) rfl ?_
    exact ⟨ret_ver rfl rfl rfl rfl, below_setV (by omega) (below_then (below_then (boxB2 _ _ _) hb) hb2)⟩

end Go.Proofs.YtiimlfocgdfbfaaDoor
