/- What a sign makes of a version: lastOfMinor, lastAlike, signed of package span. -/
import Derived.Test.YtkmgfemhfibikaaGreatDoorFo3
import Derived.Deep.RegionHeld3
namespace Go.Proofs.YtkmgfemhfibikaaGreatDoor
open Go.RowKit
set_option maxRecDepth 100000

def minorR (n : Int) : Int := n / 1000 * 1000 + 999
def majorR (n : Int) : Int := n / 1000000 * 1000000 + 999999
def alikeR (n : Int) : Int := if atA n ≠ 0 then majorR n else if atB n ≠ 0 then minorR n else n

theorem at_of {n : Int} (h : okR n) : atA n = n / 1000000 ∧ atB n = n / 1000 % 1000 ∧ atC n = n % 1000 := by
  unfold atA atB atC; rw [h.has]; simp
theorem minor_ok {n : Int} (h : okR n) : okR (minorR n) ∧ n ≤ minorR n := by unfold okR minorR at *; omega
theorem major_ok {n : Int} (h : okR n) : okR (majorR n) ∧ n ≤ majorR n := by unfold okR majorR at *; omega
theorem alike_ok {n : Int} (h : okR n) : okR (alikeR n) ∧ n ≤ alikeR n := by
  unfold alikeR
  split
  · exact major_ok h
  · split
    · exact minor_ok h
    · exact ⟨h, Int.le_refl _⟩
theorem minor_at {n : Int} (h : okR n) : atA (minorR n) = atA n ∧ atB (minorR n) = atB n ∧ atC (minorR n) = 999 := by
  obtain ⟨a, b, c⟩ := at_of h
  obtain ⟨a', b', c'⟩ := at_of (minor_ok h).1
  unfold okR at h
  rw [a, b, a', b', c']
  unfold minorR
  omega
theorem major_at {n : Int} (h : okR n) : atA (majorR n) = atA n ∧ atB (majorR n) = 999 ∧ atC (majorR n) = 999 := by
  obtain ⟨a, b, c⟩ := at_of h
  obtain ⟨a', b', c'⟩ := at_of (major_ok h).1
  unfold okR at h
  rw [a, a', b', c']
  unfold majorR
  omega

theorem lastOfMinor_any (a b c : Int) (w : World) :
    Calls Tryz.prog 89 #[.agg #[.int .i64 a, .int .i64 b, .int .i64 c]] w fun e w' => e = .returned (.agg #[.int .i64 a, .int .i64 b, .int .i64 999]) ∧ Below w.heap.size w w' := by
  go_enter Tryz.func89, Tryz.ntmps89
  go_wp2
  refine bodyPost_ret (by simp [results, Tryz.results89, go_sem]; try rfl) rfl ?_
  exact ⟨rfl, boxB2 _ _ _⟩

theorem lastAlike_one (a b c : Int) (w : World) (h : (a != 0) = true) :
    Calls Tryz.prog 88 #[.agg #[.int .i64 a, .int .i64 b, .int .i64 c]] w fun e w' => e = .returned (.agg #[.int .i64 a, .int .i64 999, .int .i64 999]) ∧ Below w.heap.size w w' := by
  go_enter Tryz.func88, Tryz.ntmps88
  go_wp2
  try simp only [Exit.inBlock, Exit.then]
  refine bodyPost_ret (by simp [results, Tryz.results88, go_sem]; try rfl) rfl ?_
  exact ⟨rfl, boxB2 _ _ _⟩

theorem lastAlike_two (b c : Int) (w : World) (h : (b != 0) = true) :
    Calls Tryz.prog 88 #[.agg #[.int .i64 0, .int .i64 b, .int .i64 c]] w fun e w' => e = .returned (.agg #[.int .i64 0, .int .i64 b, .int .i64 999]) ∧ Below w.heap.size w w' := by
  have HM : Hid (∀ w1, Calls Tryz.prog 89 #[.agg #[.int .i64 0, .int .i64 b, .int .i64 c]] w1 fun e w' => e = .returned (.agg #[.int .i64 0, .int .i64 b, .int .i64 999]) ∧ Below w1.heap.size w1 w') := lastOfMinor_any 0 b c
  go_enter Tryz.func88, Tryz.ntmps88
  go_wp2_with (go_at_call 89; refine (HM.out _).mono ?_; rintro e w1 ⟨rfl, hb⟩; obtain ⟨k0, k1, k2, k3, k4, k5, k6⟩ := boxAt (N := w.heap.size + 1) (by simp) hb)
  obtain ⟨s0, s1, s2⟩ := setV ‹World.cell? w1 ⟨w.heap.size + 1, 0, none⟩ = _› ‹World.cell? w1 ⟨w.heap.size + 1, 1, none⟩ = _› ‹World.cell? w1 ⟨w.heap.size + 1, 2, none⟩ = _›
  try simp only [Exit.inBlock, Exit.then]
  refine bodyPost_ret (by simp [results, Tryz.results88, s0, s1, s2, go_sem]; try rfl) rfl ?_
  exact ⟨rfl, below_setV (by omega) (below_then (boxB2 _ _ _) hb)⟩

theorem lastAlike_three (c : Int) (w : World) :
    Calls Tryz.prog 88 #[.agg #[.int .i64 0, .int .i64 0, .int .i64 c]] w fun e w' => e = .returned (.agg #[.int .i64 0, .int .i64 0, .int .i64 c]) ∧ Below w.heap.size w w' := by
  go_enter Tryz.func88, Tryz.ntmps88
  go_wp2
  try simp only [Exit.inBlock, Exit.then]
  refine bodyPost_ret (by simp [results, Tryz.results88, go_sem]; try rfl) rfl ?_
  exact ⟨rfl, boxB2 _ _ _⟩

theorem lastOfMinor_at {n : Int} (hn : okR n) (w : World) :
    Calls Tryz.prog 89 #[.agg #[.int .i64 (atA n), .int .i64 (atB n), .int .i64 (atC n)]] w fun e w' => e = .returned (.agg #[.int .i64 (atA (minorR n)), .int .i64 (atB (minorR n)), .int .i64 (atC (minorR n))]) ∧ Below w.heap.size w w' := by
  obtain ⟨a, b, c⟩ := minor_at hn
  rw [a, b, c]
  exact lastOfMinor_any _ _ _ w
theorem lastAlike_at {n : Int} (hn : okR n) (w : World) :
    Calls Tryz.prog 88 #[.agg #[.int .i64 (atA n), .int .i64 (atB n), .int .i64 (atC n)]] w fun e w' => e = .returned (.agg #[.int .i64 (atA (alikeR n)), .int .i64 (atB (alikeR n)), .int .i64 (atC (alikeR n))]) ∧ Below w.heap.size w w' := by
  unfold alikeR
  by_cases h1 : atA n = 0
  · rw [if_neg (by simpa using h1)]
    by_cases h2 : atB n = 0
    · rw [if_neg (by simpa using h2), h1, h2]
      exact lastAlike_three _ w
    · rw [if_pos h2]
      obtain ⟨a, b, c⟩ := minor_at hn
      rw [a, b, c, h1]
      exact lastAlike_two _ _ w (by simpa using h2)
  · rw [if_pos h1]
    obtain ⟨a, b, c⟩ := major_at hn
    rw [a, b, c]
    exact lastAlike_one _ _ _ w (by simpa using h1)

/-- What a sign makes of the version at a place. -/
def signR (s : List UInt8) (n : Int) : Option Rg :=
  if s = [] ∨ s = [61] then some [(n, n)] else if s = [60] then some (cutR allR [(n, 999999999)]) else if s = [60, 61] then some [(0, n)] else if s = [62] then some (cutR allR [(0, n)]) else
  if s = [62, 61] then some [(n, 999999999)] else if s = [94] then some [(n, alikeR n)] else if s = [126] then some [(n, minorR n)] else none

theorem one_ok {g h : Int} (hg : okR g) (hh : okR h) (h1 : g ≤ h) : RangeR [(g, h)] := ⟨hg.1, h1, hh.2, trivial⟩
theorem okL : okR 999999999 := by unfold okR; omega
theorem okF : okR 0 := by unfold okR; omega
theorem sign_ok {s : List UInt8} {n : Int} (hn : okR n) {R : Rg} (h : signR s n = some R) : RangeR R := by
  unfold signR at h
  have h1 := one_ok hn okL hn.2
  have h2 := one_ok okF hn hn.1
  repeat' split at h
  all_goals first | (cases h; done) | (injection h with h; subst h)
  · exact one_ok hn hn (Int.le_refl _)
  · exact allR_ok.cut h1
  · exact h2
  · exact allR_ok.cut h2
  · exact h1
  · exact one_ok hn (alike_ok hn).1 (alike_ok hn).2
  · exact one_ok hn (minor_ok hn).1 (minor_ok hn).2

theorem signed_none {n : Int} (w : World) (hf : FL w) :
    Calls Tryz.prog 68 #[.string ⟨#[]⟩, .agg #[.int .i64 (atA n), .int .i64 (atB n), .int .i64 (atC n)]] w fun e w' => ∃ v, e = .returned (.tuple #[v, .bool true]) ∧ SpansR w' v [(n, n)] ∧ Below w.heap.size w w' := by
  have HF := hide3 (from_at n n)
  obtain ⟨⟨g0, g1, g2⟩, ⟨l0, l1, l2⟩, _, _⟩ := hf.below (boxB w (.cells #[.int .i64 (atA n), .int .i64 (atB n), .int .i64 (atC n)] 35))
  clear hf
  go_enter Tryz.func68, Tryz.ntmps68
  go_wp2_with (first
    | (go_at_call 41; refine (HF.out _).mono ?_; rintro e w1 ⟨v1, rfl, ok1⟩; have HO := hide3 ok1; clear ok1))
  go_ret2
  exact ⟨v1, rfl, HO.out.1, below_then (boxB _ _) HO.out.2⟩

theorem signed_eq {n : Int} (w : World) (hf : FL w) :
    Calls Tryz.prog 68 #[.string ⟨#[61]⟩, .agg #[.int .i64 (atA n), .int .i64 (atB n), .int .i64 (atC n)]] w fun e w' => ∃ v, e = .returned (.tuple #[v, .bool true]) ∧ SpansR w' v [(n, n)] ∧ Below w.heap.size w w' := by
  have HF := hide3 (from_at n n)
  obtain ⟨⟨g0, g1, g2⟩, ⟨l0, l1, l2⟩, _, _⟩ := hf.below (boxB w (.cells #[.int .i64 (atA n), .int .i64 (atB n), .int .i64 (atC n)] 35))
  clear hf
  go_enter Tryz.func68, Tryz.ntmps68
  go_wp2_with (first
    | (go_at_call 41; refine (HF.out _).mono ?_; rintro e w1 ⟨v1, rfl, ok1⟩; have HO := hide3 ok1; clear ok1))
  go_ret2
  exact ⟨v1, rfl, HO.out.1, below_then (boxB _ _) HO.out.2⟩

theorem signed_le {n : Int} (w : World) (hf : FL w) :
    Calls Tryz.prog 68 #[.string ⟨#[60, 61]⟩, .agg #[.int .i64 (atA n), .int .i64 (atB n), .int .i64 (atC n)]] w fun e w' => ∃ v, e = .returned (.tuple #[v, .bool true]) ∧ SpansR w' v [(0, n)] ∧ Below w.heap.size w w' := by
  have HF : Hid (∀ w1, Calls Tryz.prog 41 #[.agg #[.int .i64 0, .int .i64 0, .int .i64 0], .agg #[.int .i64 (atA n), .int .i64 (atB n), .int .i64 (atC n)]] w1 fun e w' => ∃ v, e = .returned v ∧ SpansR w' v [(0, n)] ∧ Below w1.heap.size w1 w') := from_at 0 n
  obtain ⟨⟨g0, g1, g2⟩, ⟨l0, l1, l2⟩, _, _⟩ := hf.below (boxB w (.cells #[.int .i64 (atA n), .int .i64 (atB n), .int .i64 (atC n)] 35))
  clear hf
  go_enter Tryz.func68, Tryz.ntmps68
  go_wp2_with (first
    | (go_at_call 41; refine (HF.out _).mono ?_; rintro e w1 ⟨v1, rfl, ok1⟩; have HO := hide3 ok1; clear ok1))
  go_ret2
  exact ⟨v1, rfl, HO.out.1, below_then (boxB _ _) HO.out.2⟩

theorem signed_ge {n : Int} (w : World) (hf : FL w) :
    Calls Tryz.prog 68 #[.string ⟨#[62, 61]⟩, .agg #[.int .i64 (atA n), .int .i64 (atB n), .int .i64 (atC n)]] w fun e w' => ∃ v, e = .returned (.tuple #[v, .bool true]) ∧ SpansR w' v [(n, 999999999)] ∧ Below w.heap.size w w' := by
  have HF : Hid (∀ w1, Calls Tryz.prog 41 #[.agg #[.int .i64 (atA n), .int .i64 (atB n), .int .i64 (atC n)], .agg #[.int .i64 999, .int .i64 999, .int .i64 999]] w1 fun e w' => ∃ v, e = .returned v ∧ SpansR w' v [(n, 999999999)] ∧ Below w1.heap.size w1 w') := from_at n 999999999
  obtain ⟨⟨g0, g1, g2⟩, ⟨l0, l1, l2⟩, _, _⟩ := hf.below (boxB w (.cells #[.int .i64 (atA n), .int .i64 (atB n), .int .i64 (atC n)] 35))
  clear hf
  go_enter Tryz.func68, Tryz.ntmps68
  go_wp2_with (first
    | (go_at_call 41; refine (HF.out _).mono ?_; rintro e w1 ⟨v1, rfl, ok1⟩; have HO := hide3 ok1; clear ok1))
  go_ret2
  exact ⟨v1, rfl, HO.out.1, below_then (boxB _ _) HO.out.2⟩

set_option maxHeartbeats 1600000 in
theorem signed_caret {n : Int} (hn : okR n) (w : World) (hf : FL w) :
    Calls Tryz.prog 68 #[.string ⟨#[94]⟩, .agg #[.int .i64 (atA n), .int .i64 (atB n), .int .i64 (atC n)]] w fun e w' => ∃ v, e = .returned (.tuple #[v, .bool true]) ∧ SpansR w' v [(n, alikeR n)] ∧ Below w.heap.size w w' := by
  have HF := hide3 (from_at n (alikeR n))
  have HL := hide3 (lastAlike_at hn)
  have HK : Hid (KeepP fun w1 => Below w.heap.size w w1 ∧ BxAt w1 ⟨w.heap.size, .int .i64 (atA n), .int .i64 (atB n), .int .i64 (atC n)⟩ ∧ FL w1) := (keepBelow w).and ((keepV3 _).and keepFL)
  have HO0 : Hid (Below w.heap.size w (w.alloc (.cells #[.int .i64 (atA n), .int .i64 (atB n), .int .i64 (atC n)] 35)) ∧ BxAt (w.alloc (.cells #[.int .i64 (atA n), .int .i64 (atB n), .int .i64 (atC n)] 35)) ⟨w.heap.size, .int .i64 (atA n), .int .i64 (atB n), .int .i64 (atC n)⟩ ∧ FL (w.alloc (.cells #[.int .i64 (atA n), .int .i64 (atB n), .int .i64 (atC n)] 35))) := ⟨boxB _ _, ((OKs.nil w).box rfl _ _ _).one, hf.below (boxB _ _)⟩
  clear hf
  go_enter Tryz.func68, Tryz.ntmps68
  go_wp2_with fail
  obtain ⟨_, ⟨b0, b1, b2, b3⟩, ⟨g0, g1, g2⟩, ⟨l0, l1, l2⟩, _⟩ := HO0.out
  go_region_held3 (fun w' => w'.cell? ⟨w.heap.size, 0, none⟩ = some (.int .i64 (atA n)) ∧ w'.cell? ⟨w.heap.size, 1, none⟩ = some (.int .i64 (atB n)) ∧ w'.cell? ⟨w.heap.size, 2, none⟩ = some (.int .i64 (atC n))) (go_keep)
    (first
      | (go_at_call 88; refine (HL.out _).mono ?_; rintro e w1 ⟨rfl, hb⟩; have HO1 := hide3 (HK.out _ _ (HK.out.drew HO0.out) hb); clear hb b0 b1 b2 b3 g0 g1 g2 l0 l1 l2; obtain ⟨_, ⟨b0, b1, b2, b3⟩, ⟨g0, g1, g2⟩, ⟨l0, l1, l2⟩, _⟩ := HO1.out)
      | (go_at_call 41; refine (HF.out _).mono ?_; rintro e w2 ⟨v2, rfl, ok2⟩; have HO2 := hide3 ok2; have HO3 := hide3 (HK.out _ _ HO1.out ok2.2); clear ok2 b0 b1 b2 b3 g0 g1 g2 l0 l1 l2; obtain ⟨_, ⟨b0, b1, b2, b3⟩, ⟨g0, g1, g2⟩, ⟨l0, l1, l2⟩, _⟩ := HO3.out))
  all_goals go_wp2
  all_goals go_ret2
  all_goals exact ⟨v2, rfl, HO2.out.1, HO3.out.1⟩

set_option maxHeartbeats 1600000 in
theorem signed_tilde {n : Int} (hn : okR n) (w : World) (hf : FL w) :
    Calls Tryz.prog 68 #[.string ⟨#[126]⟩, .agg #[.int .i64 (atA n), .int .i64 (atB n), .int .i64 (atC n)]] w fun e w' => ∃ v, e = .returned (.tuple #[v, .bool true]) ∧ SpansR w' v [(n, minorR n)] ∧ Below w.heap.size w w' := by
  have HF := hide3 (from_at n (minorR n))
  have HL := hide3 (lastOfMinor_at hn)
  have HK : Hid (KeepP fun w1 => Below w.heap.size w w1 ∧ BxAt w1 ⟨w.heap.size, .int .i64 (atA n), .int .i64 (atB n), .int .i64 (atC n)⟩ ∧ FL w1) := (keepBelow w).and ((keepV3 _).and keepFL)
  have HO0 : Hid (Below w.heap.size w (w.alloc (.cells #[.int .i64 (atA n), .int .i64 (atB n), .int .i64 (atC n)] 35)) ∧ BxAt (w.alloc (.cells #[.int .i64 (atA n), .int .i64 (atB n), .int .i64 (atC n)] 35)) ⟨w.heap.size, .int .i64 (atA n), .int .i64 (atB n), .int .i64 (atC n)⟩ ∧ FL (w.alloc (.cells #[.int .i64 (atA n), .int .i64 (atB n), .int .i64 (atC n)] 35))) := ⟨boxB _ _, ((OKs.nil w).box rfl _ _ _).one, hf.below (boxB _ _)⟩
  clear hf
  go_enter Tryz.func68, Tryz.ntmps68
  go_wp2_with fail
  obtain ⟨_, ⟨b0, b1, b2, b3⟩, ⟨g0, g1, g2⟩, ⟨l0, l1, l2⟩, _⟩ := HO0.out
  go_region_held3 (fun w' => w'.cell? ⟨w.heap.size, 0, none⟩ = some (.int .i64 (atA n)) ∧ w'.cell? ⟨w.heap.size, 1, none⟩ = some (.int .i64 (atB n)) ∧ w'.cell? ⟨w.heap.size, 2, none⟩ = some (.int .i64 (atC n))) (go_keep)
    (first
      | (go_at_call 89; refine (HL.out _).mono ?_; rintro e w1 ⟨rfl, hb⟩; have HO1 := hide3 (HK.out _ _ (HK.out.drew HO0.out) hb); clear hb b0 b1 b2 b3 g0 g1 g2 l0 l1 l2; obtain ⟨_, ⟨b0, b1, b2, b3⟩, ⟨g0, g1, g2⟩, ⟨l0, l1, l2⟩, _⟩ := HO1.out)
      | (go_at_call 41; refine (HF.out _).mono ?_; rintro e w2 ⟨v2, rfl, ok2⟩; have HO2 := hide3 ok2; have HO3 := hide3 (HK.out _ _ HO1.out ok2.2); clear ok2 b0 b1 b2 b3 g0 g1 g2 l0 l1 l2; obtain ⟨_, ⟨b0, b1, b2, b3⟩, ⟨g0, g1, g2⟩, ⟨l0, l1, l2⟩, _⟩ := HO3.out))
  all_goals go_wp2
  all_goals go_ret2
  all_goals exact ⟨v2, rfl, HO2.out.1, HO3.out.1⟩

set_option maxHeartbeats 1600000 in
theorem signed_lt {n : Int} (hn : okR n) (w : World) (hf : FL w) :
    Calls Tryz.prog 68 #[.string ⟨#[60]⟩, .agg #[.int .i64 (atA n), .int .i64 (atB n), .int .i64 (atC n)]] w fun e w' => ∃ v, e = .returned (.tuple #[v, .bool true]) ∧ SpansR w' v (cutR allR [(n, 999999999)]) ∧ Below w.heap.size w w' := by
  have HF : Hid (∀ w1, Calls Tryz.prog 41 #[.agg #[.int .i64 (atA n), .int .i64 (atB n), .int .i64 (atC n)], .agg #[.int .i64 999, .int .i64 999, .int .i64 999]] w1 fun e w' => ∃ v, e = .returned v ∧ SpansR w' v [(n, 999999999)] ∧ Below w1.heap.size w1 w') := from_at n 999999999
  have HAll : Hid (∀ w1, (Below w.heap.size w w1 ∧ BxAt w1 ⟨w.heap.size, .int .i64 (atA n), .int .i64 (atB n), .int .i64 (atC n)⟩ ∧ FL w1) → Calls Tryz.prog 23 #[] w1 fun e w' => ∃ v, e = .returned v ∧ SpansR w' v allR ∧ Below w1.heap.size w1 w') := fun w1 h => All_rg h.2.2
  have HC : Hid (∀ w1 v1 v2, SpansR w1 v1 allR → SpansR w1 v2 [(n, 999999999)] → Calls Tryz.prog 20 #[v1, v2] w1 fun e w' => ∃ v, e = .returned v ∧ OwnS w' w1.heap.size v ((cutR allR [(n, 999999999)]).map spR) ∧ Below w1.heap.size w1 w') := fun w1 v1 v2 h1 h2 => cut_rg allR_ok (one_ok hn okL hn.2) h1 h2
  have HK : Hid (KeepP fun w1 => Below w.heap.size w w1 ∧ BxAt w1 ⟨w.heap.size, .int .i64 (atA n), .int .i64 (atB n), .int .i64 (atC n)⟩ ∧ FL w1) := (keepBelow w).and ((keepV3 _).and keepFL)
  have HO0 : Hid (Below w.heap.size w (w.alloc (.cells #[.int .i64 (atA n), .int .i64 (atB n), .int .i64 (atC n)] 35)) ∧ BxAt (w.alloc (.cells #[.int .i64 (atA n), .int .i64 (atB n), .int .i64 (atC n)] 35)) ⟨w.heap.size, .int .i64 (atA n), .int .i64 (atB n), .int .i64 (atC n)⟩ ∧ FL (w.alloc (.cells #[.int .i64 (atA n), .int .i64 (atB n), .int .i64 (atC n)] 35))) := ⟨boxB _ _, ((OKs.nil w).box rfl _ _ _).one, hf.below (boxB _ _)⟩
  clear hf
  go_enter Tryz.func68, Tryz.ntmps68
  go_wp2_with fail
  obtain ⟨_, ⟨b0, b1, b2, b3⟩, ⟨g0, g1, g2⟩, ⟨l0, l1, l2⟩, _⟩ := HO0.out
  go_region_held3 (fun w' => (w'.cell? ⟨w.heap.size, 0, none⟩ = some (.int .i64 (atA n)) ∧ w'.cell? ⟨w.heap.size, 1, none⟩ = some (.int .i64 (atB n)) ∧ w'.cell? ⟨w.heap.size, 2, none⟩ = some (.int .i64 (atC n))) ∧ w'.cell? ⟨1, 0, none⟩ = some (.int .i64 999) ∧ w'.cell? ⟨1, 1, none⟩ = some (.int .i64 999) ∧ w'.cell? ⟨1, 2, none⟩ = some (.int .i64 999)) (go_keep)
    (first
      | (have _h := HOF; go_at_call 23; refine (HAll.out _ HOF.out.1).mono ?_; rintro e w2 ⟨v1, rfl, ok2⟩; have HOB : Hid ((Below w.heap.size w w2 ∧ BxAt w2 ⟨w.heap.size, .int .i64 (atA n), .int .i64 (atB n), .int .i64 (atC n)⟩ ∧ FL w2) ∧ SpansR w2 v1 allR ∧ SpansR w2 v2 [(n, 999999999)]) := ⟨HK.out _ _ HOF.out.1 ok2.2, ok2.1, HOF.out.2.below ok2.2⟩; clear ok2 b0 b1 b2 b3 g0 g1 g2 l0 l1 l2; obtain ⟨⟨_, ⟨b0, b1, b2, b3⟩, ⟨g0, g1, g2⟩, ⟨l0, l1, l2⟩, _⟩, _⟩ := HOB.out)
      | (have _h := HOA; go_at_call 41; refine (HF.out _).mono ?_; rintro e w2 ⟨v2, rfl, ok2⟩; have HOB : Hid ((Below w.heap.size w w2 ∧ BxAt w2 ⟨w.heap.size, .int .i64 (atA n), .int .i64 (atB n), .int .i64 (atC n)⟩ ∧ FL w2) ∧ SpansR w2 v1 allR ∧ SpansR w2 v2 [(n, 999999999)]) := ⟨HK.out _ _ HOA.out.1 ok2.2, HOA.out.2.below ok2.2, ok2.1⟩; clear ok2 b0 b1 b2 b3 g0 g1 g2 l0 l1 l2; obtain ⟨⟨_, ⟨b0, b1, b2, b3⟩, ⟨g0, g1, g2⟩, ⟨l0, l1, l2⟩, _⟩, _⟩ := HOB.out)
      | (go_at_call 23; refine (HAll.out _ (HK.out.drew HO0.out)).mono ?_; rintro e w1 ⟨v1, rfl, ok1⟩; have HOA : Hid ((Below w.heap.size w w1 ∧ BxAt w1 ⟨w.heap.size, .int .i64 (atA n), .int .i64 (atB n), .int .i64 (atC n)⟩ ∧ FL w1) ∧ SpansR w1 v1 allR) := ⟨HK.out _ _ (HK.out.drew HO0.out) ok1.2, ok1.1⟩; clear ok1 b0 b1 b2 b3 g0 g1 g2 l0 l1 l2; obtain ⟨⟨_, ⟨b0, b1, b2, b3⟩, ⟨g0, g1, g2⟩, ⟨l0, l1, l2⟩, _⟩, _⟩ := HOA.out)
      | (go_at_call 41; refine (HF.out _).mono ?_; rintro e w1 ⟨v2, rfl, ok1⟩; have HOF : Hid ((Below w.heap.size w w1 ∧ BxAt w1 ⟨w.heap.size, .int .i64 (atA n), .int .i64 (atB n), .int .i64 (atC n)⟩ ∧ FL w1) ∧ SpansR w1 v2 [(n, 999999999)]) := ⟨HK.out _ _ (HK.out.drew HO0.out) ok1.2, ok1.1⟩; clear ok1 b0 b1 b2 b3 g0 g1 g2 l0 l1 l2; obtain ⟨⟨_, ⟨b0, b1, b2, b3⟩, ⟨g0, g1, g2⟩, ⟨l0, l1, l2⟩, _⟩, _⟩ := HOF.out)
      | (go_at_call 20; refine (HC.out _ _ _ HOB.out.2.1 HOB.out.2.2).mono ?_; rintro e w3 ⟨v3, rfl, ok3⟩; have HO3 := hide3 ok3; have HO4 := hide3 (HK.out _ _ HOB.out.1 ok3.2); clear ok3 b0 b1 b2 b3 g0 g1 g2 l0 l1 l2; obtain ⟨_, ⟨b0, b1, b2, b3⟩, ⟨g0, g1, g2⟩, ⟨l0, l1, l2⟩, _⟩ := HO4.out))
  all_goals go_wp2
  all_goals go_ret2
  all_goals exact ⟨v3, rfl, HO3.out.1.spans, HO4.out.1⟩

set_option maxHeartbeats 1600000 in
theorem signed_gt {n : Int} (hn : okR n) (w : World) (hf : FL w) :
    Calls Tryz.prog 68 #[.string ⟨#[62]⟩, .agg #[.int .i64 (atA n), .int .i64 (atB n), .int .i64 (atC n)]] w fun e w' => ∃ v, e = .returned (.tuple #[v, .bool true]) ∧ SpansR w' v (cutR allR [(0, n)]) ∧ Below w.heap.size w w' := by
  have HF : Hid (∀ w1, Calls Tryz.prog 41 #[.agg #[.int .i64 0, .int .i64 0, .int .i64 0], .agg #[.int .i64 (atA n), .int .i64 (atB n), .int .i64 (atC n)]] w1 fun e w' => ∃ v, e = .returned v ∧ SpansR w' v [(0, n)] ∧ Below w1.heap.size w1 w') := from_at 0 n
  have HAll : Hid (∀ w1, (Below w.heap.size w w1 ∧ BxAt w1 ⟨w.heap.size, .int .i64 (atA n), .int .i64 (atB n), .int .i64 (atC n)⟩ ∧ FL w1) → Calls Tryz.prog 23 #[] w1 fun e w' => ∃ v, e = .returned v ∧ SpansR w' v allR ∧ Below w1.heap.size w1 w') := fun w1 h => All_rg h.2.2
  have HC : Hid (∀ w1 v1 v2, SpansR w1 v1 allR → SpansR w1 v2 [(0, n)] → Calls Tryz.prog 20 #[v1, v2] w1 fun e w' => ∃ v, e = .returned v ∧ OwnS w' w1.heap.size v ((cutR allR [(0, n)]).map spR) ∧ Below w1.heap.size w1 w') := fun w1 v1 v2 h1 h2 => cut_rg allR_ok (one_ok okF hn hn.1) h1 h2
  have HK : Hid (KeepP fun w1 => Below w.heap.size w w1 ∧ BxAt w1 ⟨w.heap.size, .int .i64 (atA n), .int .i64 (atB n), .int .i64 (atC n)⟩ ∧ FL w1) := (keepBelow w).and ((keepV3 _).and keepFL)
  have HO0 : Hid (Below w.heap.size w (w.alloc (.cells #[.int .i64 (atA n), .int .i64 (atB n), .int .i64 (atC n)] 35)) ∧ BxAt (w.alloc (.cells #[.int .i64 (atA n), .int .i64 (atB n), .int .i64 (atC n)] 35)) ⟨w.heap.size, .int .i64 (atA n), .int .i64 (atB n), .int .i64 (atC n)⟩ ∧ FL (w.alloc (.cells #[.int .i64 (atA n), .int .i64 (atB n), .int .i64 (atC n)] 35))) := ⟨boxB _ _, ((OKs.nil w).box rfl _ _ _).one, hf.below (boxB _ _)⟩
  clear hf
  go_enter Tryz.func68, Tryz.ntmps68
  go_wp2_with fail
  obtain ⟨_, ⟨b0, b1, b2, b3⟩, ⟨g0, g1, g2⟩, ⟨l0, l1, l2⟩, _⟩ := HO0.out
  go_region_held3 (fun w' => (w'.cell? ⟨w.heap.size, 0, none⟩ = some (.int .i64 (atA n)) ∧ w'.cell? ⟨w.heap.size, 1, none⟩ = some (.int .i64 (atB n)) ∧ w'.cell? ⟨w.heap.size, 2, none⟩ = some (.int .i64 (atC n))) ∧ w'.cell? ⟨0, 0, none⟩ = some (.int .i64 0) ∧ w'.cell? ⟨0, 1, none⟩ = some (.int .i64 0) ∧ w'.cell? ⟨0, 2, none⟩ = some (.int .i64 0)) (go_keep)
    (first
      | (have _h := HOF; go_at_call 23; refine (HAll.out _ HOF.out.1).mono ?_; rintro e w2 ⟨v1, rfl, ok2⟩; have HOB : Hid ((Below w.heap.size w w2 ∧ BxAt w2 ⟨w.heap.size, .int .i64 (atA n), .int .i64 (atB n), .int .i64 (atC n)⟩ ∧ FL w2) ∧ SpansR w2 v1 allR ∧ SpansR w2 v2 [(0, n)]) := ⟨HK.out _ _ HOF.out.1 ok2.2, ok2.1, HOF.out.2.below ok2.2⟩; clear ok2 b0 b1 b2 b3 g0 g1 g2 l0 l1 l2; obtain ⟨⟨_, ⟨b0, b1, b2, b3⟩, ⟨g0, g1, g2⟩, ⟨l0, l1, l2⟩, _⟩, _⟩ := HOB.out)
      | (have _h := HOA; go_at_call 41; refine (HF.out _).mono ?_; rintro e w2 ⟨v2, rfl, ok2⟩; have HOB : Hid ((Below w.heap.size w w2 ∧ BxAt w2 ⟨w.heap.size, .int .i64 (atA n), .int .i64 (atB n), .int .i64 (atC n)⟩ ∧ FL w2) ∧ SpansR w2 v1 allR ∧ SpansR w2 v2 [(0, n)]) := ⟨HK.out _ _ HOA.out.1 ok2.2, HOA.out.2.below ok2.2, ok2.1⟩; clear ok2 b0 b1 b2 b3 g0 g1 g2 l0 l1 l2; obtain ⟨⟨_, ⟨b0, b1, b2, b3⟩, ⟨g0, g1, g2⟩, ⟨l0, l1, l2⟩, _⟩, _⟩ := HOB.out)
      | (go_at_call 23; refine (HAll.out _ (HK.out.drew HO0.out)).mono ?_; rintro e w1 ⟨v1, rfl, ok1⟩; have HOA : Hid ((Below w.heap.size w w1 ∧ BxAt w1 ⟨w.heap.size, .int .i64 (atA n), .int .i64 (atB n), .int .i64 (atC n)⟩ ∧ FL w1) ∧ SpansR w1 v1 allR) := ⟨HK.out _ _ (HK.out.drew HO0.out) ok1.2, ok1.1⟩; clear ok1 b0 b1 b2 b3 g0 g1 g2 l0 l1 l2; obtain ⟨⟨_, ⟨b0, b1, b2, b3⟩, ⟨g0, g1, g2⟩, ⟨l0, l1, l2⟩, _⟩, _⟩ := HOA.out)
      | (go_at_call 41; refine (HF.out _).mono ?_; rintro e w1 ⟨v2, rfl, ok1⟩; have HOF : Hid ((Below w.heap.size w w1 ∧ BxAt w1 ⟨w.heap.size, .int .i64 (atA n), .int .i64 (atB n), .int .i64 (atC n)⟩ ∧ FL w1) ∧ SpansR w1 v2 [(0, n)]) := ⟨HK.out _ _ (HK.out.drew HO0.out) ok1.2, ok1.1⟩; clear ok1 b0 b1 b2 b3 g0 g1 g2 l0 l1 l2; obtain ⟨⟨_, ⟨b0, b1, b2, b3⟩, ⟨g0, g1, g2⟩, ⟨l0, l1, l2⟩, _⟩, _⟩ := HOF.out)
      | (go_at_call 20; refine (HC.out _ _ _ HOB.out.2.1 HOB.out.2.2).mono ?_; rintro e w3 ⟨v3, rfl, ok3⟩; have HO3 := hide3 ok3; have HO4 := hide3 (HK.out _ _ HOB.out.1 ok3.2); clear ok3 b0 b1 b2 b3 g0 g1 g2 l0 l1 l2; obtain ⟨_, ⟨b0, b1, b2, b3⟩, ⟨g0, g1, g2⟩, ⟨l0, l1, l2⟩, _⟩ := HO4.out))
  all_goals go_wp2
  all_goals go_ret2
  all_goals exact ⟨v3, rfl, HO3.out.1.spans, HO4.out.1⟩
end Go.Proofs.YtkmgfemhfibikaaGreatDoor
