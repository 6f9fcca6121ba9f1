/- The walks of Rank, At, Next, Prev, of package vers and of the document's answer: each answers as a plain function. No condition but that the number is an int. -/
import Derived.Test.YtkmgfemhfibikaaGreatDoorVers2
namespace Go.Proofs.YtkmgfemhfibikaaGreatDoor
open Go.RowKit
set_option maxRecDepth 100000

/-- A version's place; 0, where it may not be. -/
def rankV (a b c : Int) : Int := if mayV a b c = true then (a * 1000 + b) * 1000 + c else 0
def hasV (n : Int) : Bool := decide (0 ≤ n) && decide (n < 1000000000)
/-- The version at a place; zeros, where there is none. -/
def atA (n : Int) : Int := if hasV n = true then n / 1000000 else 0
def atB (n : Int) : Int := if hasV n = true then n / 1000 % 1000 else 0
def atC (n : Int) : Int := if hasV n = true then n % 1000 else 0

theorem ret_pair {a b : Int} {x y : Bool} (h : a = b) (k : x = y) : Ending.returned (.tuple #[.int .i64 a, .bool x]) = .returned (.tuple #[.int .i64 b, .bool y]) := by rw [h, k]
theorem ret_ver {a b c a' b' c' : Int} {x y : Bool} (h1 : a = a') (h2 : b = b') (h3 : c = c') (k : x = y) : Ending.returned (.tuple #[.agg #[.int .i64 a, .int .i64 b, .int .i64 c], .bool x]) = .returned (.tuple #[.agg #[.int .i64 a', .int .i64 b', .int .i64 c'], .bool y]) := by rw [h1, h2, h3, k]

theorem may_all {a b c : Int} (h : mayV a b c = true) : 0 ≤ a ∧ a ≤ 999 ∧ 0 ≤ b ∧ b ≤ 999 ∧ 0 ≤ c ∧ c ≤ 999 := by
  simp [mayV, partB] at h; omega

set_option maxHeartbeats 800000 in
theorem Rank_any (a b c : Int) (w : World) :
    Calls Tryz.prog 73 #[.agg #[.int .i64 a, .int .i64 b, .int .i64 c]] w fun e w' => e = .returned (.tuple #[.int .i64 (rankV a b c), .bool (mayV a b c)]) ∧ Below w.heap.size w w' := by
  have HM : Hid (∀ w1, Calls Tryz.prog 37 #[.agg #[.int .i64 a, .int .i64 b, .int .i64 c]] w1 fun e w' => e = .returned (.bool (mayV a b c)) ∧ Below w1.heap.size w1 w') := May_any a b c
  cases hm : mayV a b c
  · have HR : Hid (rankV a b c = 0) := by unfold Hid rankV; rw [hm]; rfl
    rw [hm] at HM
    go_enter Tryz.func73, Tryz.ntmps73
    go_wp2_with (go_at_call 37; refine (HM.out _).mono ?_; rintro e w' ⟨rfl, hb⟩)
    go_returns
    exact ⟨ret_pair HR.out.symm rfl, below_then (boxB _ _) hb⟩
  · have HR : Hid (rankV a b c = (a * 1000 + b) * 1000 + c) := by unfold Hid rankV; rw [hm]; rfl
    obtain ⟨a0, a1, b0, b1, c0, c1⟩ := may_all hm
    rw [hm] at HM
    go_enter Tryz.func73, Tryz.ntmps73
    go_wp2_with (go_at_call 37; refine (HM.out _).mono ?_; rintro e w' ⟨rfl, hb⟩; obtain ⟨k0, k1, k2, k3, k4⟩ := boxV hb)
    go_returns
    exact ⟨ret_pair (by rw [HR.out]; try go_arith) rfl, below_then (boxB _ _) hb⟩

set_option maxHeartbeats 800000 in
theorem rRank_any (a b c : Int) (w : World) :
    Calls Tryz.prog 70 #[.agg #[.int .i64 a, .int .i64 b, .int .i64 c]] w fun e w' => e = .returned (.tuple #[.int .i64 (rankV a b c), .bool (mayV a b c)]) ∧ Below w.heap.size w w' := by
  have HM : Hid (∀ w1, Calls Tryz.prog 54 #[.agg #[.int .i64 a, .int .i64 b, .int .i64 c]] w1 fun e w' => e = .returned (.bool (mayV a b c)) ∧ Below w1.heap.size w1 w') := rMay_any a b c
  cases hm : mayV a b c
  · have HR : Hid (rankV a b c = 0) := by unfold Hid rankV; rw [hm]; rfl
    rw [hm] at HM
    go_enter Tryz.func70, Tryz.ntmps70
    go_wp2_with (go_at_call 54; refine (HM.out _).mono ?_; rintro e w' ⟨rfl, hb⟩)
    go_returns
    exact ⟨ret_pair HR.out.symm rfl, below_then (boxB _ _) hb⟩
  · have HR : Hid (rankV a b c = (a * 1000 + b) * 1000 + c) := by unfold Hid rankV; rw [hm]; rfl
    obtain ⟨a0, a1, b0, b1, c0, c1⟩ := may_all hm
    rw [hm] at HM
    go_enter Tryz.func70, Tryz.ntmps70
    go_wp2_with (go_at_call 54; refine (HM.out _).mono ?_; rintro e w' ⟨rfl, hb⟩; obtain ⟨k0, k1, k2, k3, k4⟩ := boxV hb)
    go_returns
    exact ⟨ret_pair (by rw [HR.out]; try go_arith) rfl, below_then (boxB _ _) hb⟩

theorem tdiv_pos (n k : Int) (h : 0 ≤ n) : n.tdiv k = n / k := Int.tdiv_eq_ediv_of_nonneg h
theorem tmod_pos (n k : Int) (h : 0 ≤ n) : n.tmod k = n % k := Int.tmod_eq_emod_of_nonneg h

set_option maxHeartbeats 800000 in
theorem At_any (n : Int) (w : World) :
    Calls Tryz.prog 74 #[.int .i64 n] w fun e w' => e = .returned (.tuple #[.agg #[.int .i64 (atA n), .int .i64 (atB n), .int .i64 (atC n)], .bool (hasV n)]) ∧ Below w.heap.size w w' := by
  cases hh : hasV n
  · have HR : Hid (atA n = 0 ∧ atB n = 0 ∧ atC n = 0) := by unfold Hid atA atB atC; rw [hh]; exact ⟨rfl, rfl, rfl⟩
    simp [hasV] at hh
    by_cases h0 : n < 0
    · go_enter Tryz.func74, Tryz.ntmps74
      go_wp2
      go_returns
      exact ⟨ret_ver HR.out.1.symm HR.out.2.1.symm HR.out.2.2.symm rfl, by go_grown⟩
    · go_enter Tryz.func74, Tryz.ntmps74
      go_wp2
      go_returns
      exact ⟨ret_ver HR.out.1.symm HR.out.2.1.symm HR.out.2.2.symm rfl, by go_grown⟩
  · have HR : Hid (atA n = n / 1000000 ∧ atB n = n / 1000 % 1000 ∧ atC n = n % 1000) := by unfold Hid atA atB atC; rw [hh]; exact ⟨rfl, rfl, rfl⟩
    simp [hasV] at hh
    obtain ⟨h0, h1⟩ := hh
    go_enter Tryz.func74, Tryz.ntmps74
    go_wp2
    go_returns
    refine ⟨ret_ver ?_ ?_ ?_ rfl, by go_grown⟩
    · have := HR.out.1; omega
    · have := HR.out.2.1; omega
    · have := HR.out.2.2; omega

set_option maxHeartbeats 800000 in
theorem rAt_any (n : Int) (w : World) :
    Calls Tryz.prog 62 #[.int .i64 n] w fun e w' => e = .returned (.tuple #[.agg #[.int .i64 (atA n), .int .i64 (atB n), .int .i64 (atC n)], .bool (hasV n)]) ∧ Below w.heap.size w w' := by
  cases hh : hasV n
  · have HR : Hid (atA n = 0 ∧ atB n = 0 ∧ atC n = 0) := by unfold Hid atA atB atC; rw [hh]; exact ⟨rfl, rfl, rfl⟩
    simp [hasV] at hh
    by_cases h0 : n < 0
    · go_enter Tryz.func62, Tryz.ntmps62
      go_wp2
      go_returns
      exact ⟨ret_ver HR.out.1.symm HR.out.2.1.symm HR.out.2.2.symm rfl, by go_grown⟩
    · go_enter Tryz.func62, Tryz.ntmps62
      go_wp2
      go_returns
      exact ⟨ret_ver HR.out.1.symm HR.out.2.1.symm HR.out.2.2.symm rfl, by go_grown⟩
  · have HR : Hid (atA n = n / 1000000 ∧ atB n = n / 1000 % 1000 ∧ atC n = n % 1000) := by unfold Hid atA atB atC; rw [hh]; exact ⟨rfl, rfl, rfl⟩
    simp [hasV] at hh
    obtain ⟨h0, h1⟩ := hh
    go_enter Tryz.func62, Tryz.ntmps62
    go_wp2
    go_returns
    refine ⟨ret_ver ?_ ?_ ?_ rfl, by go_grown⟩
    · have := HR.out.1; omega
    · have := HR.out.2.1; omega
    · have := HR.out.2.2; omega

/-- A version that is stored whole is read so. -/
theorem setV {w : World} {N : Nat} {x y z : Value} (j0 : w.cell? ⟨N, 0, none⟩ = some x) (j1 : w.cell? ⟨N, 1, none⟩ = some y) (j2 : w.cell? ⟨N, 2, none⟩ = some z) :
    (∀ u, (w.setCell ⟨N, 0, none⟩ u).cell? ⟨N, 0, none⟩ = some u) ∧ (∀ u v, ((w.setCell ⟨N, 0, none⟩ u).setCell ⟨N, 1, none⟩ v).cell? ⟨N, 1, none⟩ = some v) ∧ (∀ u v t, (((w.setCell ⟨N, 0, none⟩ u).setCell ⟨N, 1, none⟩ v).setCell ⟨N, 2, none⟩ t).cell? ⟨N, 2, none⟩ = some t) := by
  have k1 : ∀ u, (w.setCell ⟨N, 0, none⟩ u).cell? ⟨N, 1, none⟩ = some y := fun u => (World.cell?_setCell_other _ _ _ _ (by simp)).trans j1
  have k2 : ∀ u v, ((w.setCell ⟨N, 0, none⟩ u).setCell ⟨N, 1, none⟩ v).cell? ⟨N, 2, none⟩ = some z := fun u v => (World.cell?_setCell_other _ _ _ _ (by simp)).trans ((World.cell?_setCell_other _ _ _ _ (by simp)).trans j2)
  exact ⟨fun u => World.cell?_setCell_same _ _ _ j0, fun u v => World.cell?_setCell_same _ _ _ (k1 u), fun u v t => World.cell?_setCell_same _ _ _ (k2 u v)⟩

theorem below_setV {w w' : World} {N B : Nat} {x y z : Value} (hN : B ≤ N) (h : Below B w w') : Below B w (((w'.setCell ⟨N, 0, none⟩ x).setCell ⟨N, 1, none⟩ y).setCell ⟨N, 2, none⟩ z) :=
  ((h.setCell hN _).setCell hN _).setCell hN _

set_option maxHeartbeats 800000 in
theorem beside_any (a b c k : Int) (w : World) (hk : k = 1 ∨ k = -1) :
    Calls Tryz.prog 56 #[.agg #[.int .i64 a, .int .i64 b, .int .i64 c], .int .i64 k] w fun e w' => e = .returned (.tuple #[.agg #[.int .i64 (if mayV a b c then atA (rankV a b c + k) else 0), .int .i64 (if mayV a b c then atB (rankV a b c + k) else 0), .int .i64 (if mayV a b c then atC (rankV a b c + k) else 0)], .bool (mayV a b c && hasV (rankV a b c + k))]) ∧ Below w.heap.size w w' := by
  have HM : Hid (∀ w1, Calls Tryz.prog 73 #[.agg #[.int .i64 a, .int .i64 b, .int .i64 c]] w1 fun e w' => e = .returned (.tuple #[.int .i64 (rankV a b c), .bool (mayV a b c)]) ∧ Below w1.heap.size w1 w') := Rank_any a b c
  have HA : Hid (∀ w1, Calls Tryz.prog 74 #[.int .i64 (rankV a b c + k)] w1 fun e w' => e = .returned (.tuple #[.agg #[.int .i64 (atA (rankV a b c + k)), .int .i64 (atB (rankV a b c + k)), .int .i64 (atC (rankV a b c + k))], .bool (hasV (rankV a b c + k))]) ∧ Below w1.heap.size w1 w') := At_any _
  cases hm : mayV a b c
  · rw [hm] at HM
    go_enter Tryz.func56, Tryz.ntmps56
    go_wp2_with (go_at_call 73; refine (HM.out _).mono ?_; rintro e w' ⟨rfl, hb⟩; obtain ⟨k0, k1, k2, k3, k4, k5, k6⟩ := boxAt (N := w.heap.size + 1) (by simp) hb)
    obtain ⟨s0, s1, s2⟩ := setV ‹World.cell? w' ⟨w.heap.size + 1, 0, none⟩ = _› ‹World.cell? w' ⟨w.heap.size + 1, 1, none⟩ = _› ‹World.cell? w' ⟨w.heap.size + 1, 2, none⟩ = _›
    try simp only [Exit.inBlock, Exit.then]
    refine bodyPost_ret (by simp [results, Tryz.results56, s0, s1, s2, go_sem]; try rfl) rfl ?_
    exact ⟨ret_ver rfl rfl rfl rfl, below_setV (by omega) (below_then (boxB2 _ _ _) hb)⟩
  · obtain ⟨a0, a1, b0, b1, c0, c1⟩ := may_all hm
    have hr : rankV a b c = (a * 1000 + b) * 1000 + c := by unfold rankV; rw [hm]; rfl
    have hr0 : 0 ≤ rankV a b c := by rw [hr]; omega
    have hr1 : rankV a b c < 1000000000 := by rw [hr]; omega
    rw [hm] at HM
    clear hr
    generalize rankV a b c = r at *
    go_enter Tryz.func56, Tryz.ntmps56
    go_wp2_with (first
      | (go_at_call 73; refine (HM.out _).mono ?_; rintro e w1 ⟨rfl, hb⟩; obtain ⟨k0, k1, k2, k3, k4, k5, k6⟩ := boxAt (N := w.heap.size + 1) (by simp) hb)
      | (go_at_call 74; refine (HA.out _).mono ?_; rintro e w2 ⟨rfl, hb2⟩; have j0 := (hb2.cell (p := ⟨w.heap.size + 1, 0, none⟩) k6).trans k0; have j1 := (hb2.cell (p := ⟨w.heap.size + 1, 1, none⟩) k6).trans k1; have j2 := (hb2.cell (p := ⟨w.heap.size + 1, 2, none⟩) k6).trans k2; have j3 := (hb2.frozen (p := ⟨w.heap.size + 1, 0, none⟩) k6).trans k3; have j4 := (hb2.frozen (p := ⟨w.heap.size + 1, 1, none⟩) k6).trans k4; have j5 := (hb2.frozen (p := ⟨w.heap.size + 1, 2, none⟩) k6).trans k5))
    obtain ⟨s0, s1, s2⟩ := setV ‹World.cell? w2 ⟨w.heap.size + 1, 0, none⟩ = _› ‹World.cell? w2 ⟨w.heap.size + 1, 1, none⟩ = _› ‹World.cell? w2 ⟨w.heap.size + 1, 2, none⟩ = _›
    try simp only [Exit.inBlock, Exit.then]
    refine bodyPost_ret (by simp [results, Tryz.results56, s0, s1, s2, go_sem]; try rfl) rfl ?_
    exact ⟨ret_ver rfl rfl rfl rfl, below_setV (by omega) (below_then (below_then (boxB2 _ _ _) hb) hb2)⟩
end Go.Proofs.YtkmgfemhfibikaaGreatDoor
