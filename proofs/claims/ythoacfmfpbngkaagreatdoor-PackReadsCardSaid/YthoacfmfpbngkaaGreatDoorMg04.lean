/- Tx1, Row1, Tab1, Facts2, Ref1, Next1, Next2, Next3, Parse1, Boxes2, laid in one text. -/
import Derived.Deep.RegionHeld3
import Derived.Test.YthoacfmfpbngkaaGreatDoorRows
import Derived.Test.YthoacfmfpbngkaaGreatDoorTie
import Derived.Test.YthoacfmfpbngkaaGreatDoorCards
import Derived.ProofKit
import Derived.OpenShut
import Derived.ChangeOld
import Derived.LaidMore
import Derived.Lay
import Derived.SevenTiedAt
import Derived.Stop.Joined
import Derived.Shelf.Vars
import Derived.Deep.Slices
import Derived.Test.YthoacfmfpbngkaaGreatDoorShelfB
import Derived.Lib.LaidTab
import Derived.Lib.AppendIntMem
import Derived.Stop.LaidErr
import Derived.Laws.IdiomStrings
import Derived.Deep.RegionWith
import Derived.Test.YthoacfmfpbngkaaGreatDoorMg03
namespace Go.Proofs.YthoacfmfpbngkaaGreatDoor
open Go.RowKit
set_option maxRecDepth 100000

def minorR (n : Int) : Int := n / 1000 * 1000 + 999
def majorR (n : Int) : Int := n / 1000000 * 1000000 + 999999
def alikeR (n : Int) : Int := if atA n ≠ 0 then majorR n else if atB n ≠ 0 then minorR n else n

theorem at_of {n : Int} (h : okR n) : atA n = n / 1000000 ∧ atB n = n / 1000 % 1000 ∧ atC n = n % 1000 := by
  unfold atA atB atC; rw [h.has]; simp
theorem minor_ok {n : Int} (h : okR n) : okR (minorR n) ∧ n ≤ minorR n := by unfold okR minorR at *; omega
theorem major_ok {n : Int} (h : okR n) : okR (majorR n) ∧ n ≤ majorR n := by unfold okR majorR at *; omega
theorem alike_ok {n : Int} (h : okR n) : okR (alikeR n) ∧ n ≤ alikeR n := by
  unfold alikeR
  split
  · exact major_ok h
  · split
    · exact minor_ok h
    · exact ⟨h, Int.le_refl _⟩
theorem minor_at {n : Int} (h : okR n) : atA (minorR n) = atA n ∧ atB (minorR n) = atB n ∧ atC (minorR n) = 999 := by
  obtain ⟨a, b, c⟩ := at_of h
  obtain ⟨a', b', c'⟩ := at_of (minor_ok h).1
  unfold okR at h
  rw [a, b, a', b', c']
  unfold minorR
  omega
theorem major_at {n : Int} (h : okR n) : atA (majorR n) = atA n ∧ atB (majorR n) = 999 ∧ atC (majorR n) = 999 := by
  obtain ⟨a, b, c⟩ := at_of h
  obtain ⟨a', b', c'⟩ := at_of (major_ok h).1
  unfold okR at h
  rw [a, a', b', c']
  unfold majorR
  omega

theorem lastOfMinor_any (a b c : Int) (w : World) :
    Calls Tryz.prog 146 #[.agg #[.int .i64 a, .int .i64 b, .int .i64 c]] w fun e w' => e = .returned (.agg #[.int .i64 a, .int .i64 b, .int .i64 999]) ∧ Below w.heap.size w w' := by
  go_enter Tryz.func146, Tryz.ntmps146
  go_wp2
  refine bodyPost_ret (by simp [results, Tryz.results146, go_sem]; try rfl) rfl ?_
  exact ⟨rfl, boxB2 _ _ _⟩

theorem lastAlike_one (a b c : Int) (w : World) (h : (a != 0) = true) :
    Calls Tryz.prog 145 #[.agg #[.int .i64 a, .int .i64 b, .int .i64 c]] w fun e w' => e = .returned (.agg #[.int .i64 a, .int .i64 999, .int .i64 999]) ∧ Below w.heap.size w w' := by
  go_enter Tryz.func145, Tryz.ntmps145
  go_wp2
  try simp only [Exit.inBlock, Exit.then]
  refine bodyPost_ret (by simp [results, Tryz.results145, go_sem]; try rfl) rfl ?_
  exact ⟨rfl, boxB2 _ _ _⟩

theorem lastAlike_two (b c : Int) (w : World) (h : (b != 0) = true) :
    Calls Tryz.prog 145 #[.agg #[.int .i64 0, .int .i64 b, .int .i64 c]] w fun e w' => e = .returned (.agg #[.int .i64 0, .int .i64 b, .int .i64 999]) ∧ Below w.heap.size w w' := by
  have HM : Hid (∀ w1, Calls Tryz.prog 146 #[.agg #[.int .i64 0, .int .i64 b, .int .i64 c]] w1 fun e w' => e = .returned (.agg #[.int .i64 0, .int .i64 b, .int .i64 999]) ∧ Below w1.heap.size w1 w') := lastOfMinor_any 0 b c
  go_enter Tryz.func145, Tryz.ntmps145
  go_wp2_with (go_at_call 146; refine (HM.out _).mono ?_; rintro e w1 ⟨rfl, hb⟩; obtain ⟨k0, k1, k2, k3, k4, k5, k6⟩ := boxAt (N := w.heap.size + 1) (by simp) hb)
  obtain ⟨s0, s1, s2⟩ := setV ‹World.cell? w1 ⟨w.heap.size + 1, 0, none⟩ = _› ‹World.cell? w1 ⟨w.heap.size + 1, 1, none⟩ = _› ‹World.cell? w1 ⟨w.heap.size + 1, 2, none⟩ = _›
  try simp only [Exit.inBlock, Exit.then]
  refine bodyPost_ret (by simp [results, Tryz.results145, s0, s1, s2, go_sem]; try rfl) rfl ?_
  exact ⟨rfl, below_setV (by omega) (below_then (boxB2 _ _ _) hb)⟩

theorem lastAlike_three (c : Int) (w : World) :
    Calls Tryz.prog 145 #[.agg #[.int .i64 0, .int .i64 0, .int .i64 c]] w fun e w' => e = .returned (.agg #[.int .i64 0, .int .i64 0, .int .i64 c]) ∧ Below w.heap.size w w' := by
  go_enter Tryz.func145, Tryz.ntmps145
  go_wp2
  try simp only [Exit.inBlock, Exit.then]
  refine bodyPost_ret (by simp [results, Tryz.results145, go_sem]; try rfl) rfl ?_
  exact ⟨rfl, boxB2 _ _ _⟩

theorem lastOfMinor_at {n : Int} (hn : okR n) (w : World) :
    Calls Tryz.prog 146 #[.agg #[.int .i64 (atA n), .int .i64 (atB n), .int .i64 (atC n)]] w fun e w' => e = .returned (.agg #[.int .i64 (atA (minorR n)), .int .i64 (atB (minorR n)), .int .i64 (atC (minorR n))]) ∧ Below w.heap.size w w' := by
  obtain ⟨a, b, c⟩ := minor_at hn
  rw [a, b, c]
  exact lastOfMinor_any _ _ _ w
theorem lastAlike_at {n : Int} (hn : okR n) (w : World) :
    Calls Tryz.prog 145 #[.agg #[.int .i64 (atA n), .int .i64 (atB n), .int .i64 (atC n)]] w fun e w' => e = .returned (.agg #[.int .i64 (atA (alikeR n)), .int .i64 (atB (alikeR n)), .int .i64 (atC (alikeR n))]) ∧ Below w.heap.size w w' := by
  unfold alikeR
  by_cases h1 : atA n = 0
  · rw [if_neg (by simpa using h1)]
    by_cases h2 : atB n = 0
    · rw [if_neg (by simpa using h2), h1, h2]
      exact lastAlike_three _ w
    · rw [if_pos h2]
      obtain ⟨a, b, c⟩ := minor_at hn
      rw [a, b, c, h1]
      exact lastAlike_two _ _ w (by simpa using h2)
  · rw [if_pos h1]
    obtain ⟨a, b, c⟩ := major_at hn
    rw [a, b, c]
    exact lastAlike_one _ _ _ w (by simpa using h1)

/-- What a sign makes of the version at a place. -/
def signR (s : List UInt8) (n : Int) : Option Rg :=
  if s = [] ∨ s = [61] then some [(n, n)] else if s = [60] then some (cutR allR [(n, 999999999)]) else if s = [60, 61] then some [(0, n)] else if s = [62] then some (cutR allR [(0, n)]) else
  if s = [62, 61] then some [(n, 999999999)] else if s = [94] then some [(n, alikeR n)] else if s = [126] then some [(n, minorR n)] else none

theorem one_ok {g h : Int} (hg : okR g) (hh : okR h) (h1 : g ≤ h) : RangeR [(g, h)] := ⟨hg.1, h1, hh.2, trivial⟩
theorem okL : okR 999999999 := by unfold okR; omega
theorem okF : okR 0 := by unfold okR; omega
theorem sign_ok {s : List UInt8} {n : Int} (hn : okR n) {R : Rg} (h : signR s n = some R) : RangeR R := by
  unfold signR at h
  have h1 := one_ok hn okL hn.2
  have h2 := one_ok okF hn hn.1
  repeat' split at h
  all_goals first | (cases h; done) | (injection h with h; subst h)
  · exact one_ok hn hn (Int.le_refl _)
  · exact allR_ok.cut h1
  · exact h2
  · exact allR_ok.cut h2
  · exact h1
  · exact one_ok hn (alike_ok hn).1 (alike_ok hn).2
  · exact one_ok hn (minor_ok hn).1 (minor_ok hn).2

theorem signed_none {n : Int} (w : World) (hf : FL w) :
    Calls Tryz.prog 125 #[.string ⟨#[]⟩, .agg #[.int .i64 (atA n), .int .i64 (atB n), .int .i64 (atC n)]] w fun e w' => ∃ v, e = .returned (.tuple #[v, .bool true]) ∧ SpansR w' v [(n, n)] ∧ Below w.heap.size w w' := by
  have HF := hide3 (from_at n n)
  obtain ⟨⟨g0, g1, g2⟩, ⟨l0, l1, l2⟩, _, _⟩ := hf.below (boxB w (.cells #[.int .i64 (atA n), .int .i64 (atB n), .int .i64 (atC n)] 23))
  clear hf
  go_enter Tryz.func125, Tryz.ntmps125
  go_wp2_with (first
    | (go_at_call 123; refine (HF.out _).mono ?_; rintro e w1 ⟨v1, rfl, ok1⟩; have HO := hide3 ok1; clear ok1))
  go_ret2
  exact ⟨v1, rfl, HO.out.1, below_then (boxB _ _) HO.out.2⟩

theorem signed_eq {n : Int} (w : World) (hf : FL w) :
    Calls Tryz.prog 125 #[.string ⟨#[61]⟩, .agg #[.int .i64 (atA n), .int .i64 (atB n), .int .i64 (atC n)]] w fun e w' => ∃ v, e = .returned (.tuple #[v, .bool true]) ∧ SpansR w' v [(n, n)] ∧ Below w.heap.size w w' := by
  have HF := hide3 (from_at n n)
  obtain ⟨⟨g0, g1, g2⟩, ⟨l0, l1, l2⟩, _, _⟩ := hf.below (boxB w (.cells #[.int .i64 (atA n), .int .i64 (atB n), .int .i64 (atC n)] 23))
  clear hf
  go_enter Tryz.func125, Tryz.ntmps125
  go_wp2_with (first
    | (go_at_call 123; refine (HF.out _).mono ?_; rintro e w1 ⟨v1, rfl, ok1⟩; have HO := hide3 ok1; clear ok1))
  go_ret2
  exact ⟨v1, rfl, HO.out.1, below_then (boxB _ _) HO.out.2⟩

theorem signed_le {n : Int} (w : World) (hf : FL w) :
    Calls Tryz.prog 125 #[.string ⟨#[60, 61]⟩, .agg #[.int .i64 (atA n), .int .i64 (atB n), .int .i64 (atC n)]] w fun e w' => ∃ v, e = .returned (.tuple #[v, .bool true]) ∧ SpansR w' v [(0, n)] ∧ Below w.heap.size w w' := by
  have HF : Hid (∀ w1, Calls Tryz.prog 123 #[.agg #[.int .i64 0, .int .i64 0, .int .i64 0], .agg #[.int .i64 (atA n), .int .i64 (atB n), .int .i64 (atC n)]] w1 fun e w' => ∃ v, e = .returned v ∧ SpansR w' v [(0, n)] ∧ Below w1.heap.size w1 w') := from_at 0 n
  obtain ⟨⟨g0, g1, g2⟩, ⟨l0, l1, l2⟩, _, _⟩ := hf.below (boxB w (.cells #[.int .i64 (atA n), .int .i64 (atB n), .int .i64 (atC n)] 23))
  clear hf
  go_enter Tryz.func125, Tryz.ntmps125
  go_wp2_with (first
    | (go_at_call 123; refine (HF.out _).mono ?_; rintro e w1 ⟨v1, rfl, ok1⟩; have HO := hide3 ok1; clear ok1))
  go_ret2
  exact ⟨v1, rfl, HO.out.1, below_then (boxB _ _) HO.out.2⟩

theorem signed_ge {n : Int} (w : World) (hf : FL w) :
    Calls Tryz.prog 125 #[.string ⟨#[62, 61]⟩, .agg #[.int .i64 (atA n), .int .i64 (atB n), .int .i64 (atC n)]] w fun e w' => ∃ v, e = .returned (.tuple #[v, .bool true]) ∧ SpansR w' v [(n, 999999999)] ∧ Below w.heap.size w w' := by
  have HF : Hid (∀ w1, Calls Tryz.prog 123 #[.agg #[.int .i64 (atA n), .int .i64 (atB n), .int .i64 (atC n)], .agg #[.int .i64 999, .int .i64 999, .int .i64 999]] w1 fun e w' => ∃ v, e = .returned v ∧ SpansR w' v [(n, 999999999)] ∧ Below w1.heap.size w1 w') := from_at n 999999999
  obtain ⟨⟨g0, g1, g2⟩, ⟨l0, l1, l2⟩, _, _⟩ := hf.below (boxB w (.cells #[.int .i64 (atA n), .int .i64 (atB n), .int .i64 (atC n)] 23))
  clear hf
  go_enter Tryz.func125, Tryz.ntmps125
  go_wp2_with (first
    | (go_at_call 123; refine (HF.out _).mono ?_; rintro e w1 ⟨v1, rfl, ok1⟩; have HO := hide3 ok1; clear ok1))
  go_ret2
  exact ⟨v1, rfl, HO.out.1, below_then (boxB _ _) HO.out.2⟩

set_option maxHeartbeats 1600000 in
theorem signed_caret {n : Int} (hn : okR n) (w : World) (hf : FL w) :
    Calls Tryz.prog 125 #[.string ⟨#[94]⟩, .agg #[.int .i64 (atA n), .int .i64 (atB n), .int .i64 (atC n)]] w fun e w' => ∃ v, e = .returned (.tuple #[v, .bool true]) ∧ SpansR w' v [(n, alikeR n)] ∧ Below w.heap.size w w' := by
  have HF := hide3 (from_at n (alikeR n))
  have HL := hide3 (lastAlike_at hn)
  have HK : Hid (KeepP fun w1 => Below w.heap.size w w1 ∧ BxAt w1 ⟨w.heap.size, .int .i64 (atA n), .int .i64 (atB n), .int .i64 (atC n)⟩ ∧ FL w1) := (keepBelow w).and ((keepV3 _).and keepFL)
  have HO0 : Hid (Below w.heap.size w (w.alloc (.cells #[.int .i64 (atA n), .int .i64 (atB n), .int .i64 (atC n)] 23)) ∧ BxAt (w.alloc (.cells #[.int .i64 (atA n), .int .i64 (atB n), .int .i64 (atC n)] 23)) ⟨w.heap.size, .int .i64 (atA n), .int .i64 (atB n), .int .i64 (atC n)⟩ ∧ FL (w.alloc (.cells #[.int .i64 (atA n), .int .i64 (atB n), .int .i64 (atC n)] 23))) := ⟨boxB _ _, ((OKs.nil w).box rfl _ _ _).one, hf.below (boxB _ _)⟩
  clear hf
  go_enter Tryz.func125, Tryz.ntmps125
  go_wp2_with fail
  obtain ⟨_, ⟨b0, b1, b2, b3⟩, ⟨g0, g1, g2⟩, ⟨l0, l1, l2⟩, _⟩ := HO0.out
  go_region_held3 (fun w' => w'.cell? ⟨w.heap.size, 0, none⟩ = some (.int .i64 (atA n)) ∧ w'.cell? ⟨w.heap.size, 1, none⟩ = some (.int .i64 (atB n)) ∧ w'.cell? ⟨w.heap.size, 2, none⟩ = some (.int .i64 (atC n))) (go_keep)
    (first
      | (go_at_call 145; refine (HL.out _).mono ?_; rintro e w1 ⟨rfl, hb⟩; have HO1 := hide3 (HK.out _ _ (HK.out.drew HO0.out) hb); clear hb b0 b1 b2 b3 g0 g1 g2 l0 l1 l2; obtain ⟨_, ⟨b0, b1, b2, b3⟩, ⟨g0, g1, g2⟩, ⟨l0, l1, l2⟩, _⟩ := HO1.out)
      | (go_at_call 123; refine (HF.out _).mono ?_; rintro e w2 ⟨v2, rfl, ok2⟩; have HO2 := hide3 ok2; have HO3 := hide3 (HK.out _ _ HO1.out ok2.2); clear ok2 b0 b1 b2 b3 g0 g1 g2 l0 l1 l2; obtain ⟨_, ⟨b0, b1, b2, b3⟩, ⟨g0, g1, g2⟩, ⟨l0, l1, l2⟩, _⟩ := HO3.out))
  all_goals go_wp2
  all_goals go_ret2
  all_goals exact ⟨v2, rfl, HO2.out.1, HO3.out.1⟩

set_option maxHeartbeats 1600000 in
theorem signed_tilde {n : Int} (hn : okR n) (w : World) (hf : FL w) :
    Calls Tryz.prog 125 #[.string ⟨#[126]⟩, .agg #[.int .i64 (atA n), .int .i64 (atB n), .int .i64 (atC n)]] w fun e w' => ∃ v, e = .returned (.tuple #[v, .bool true]) ∧ SpansR w' v [(n, minorR n)] ∧ Below w.heap.size w w' := by
  have HF := hide3 (from_at n (minorR n))
  have HL := hide3 (lastOfMinor_at hn)
  have HK : Hid (KeepP fun w1 => Below w.heap.size w w1 ∧ BxAt w1 ⟨w.heap.size, .int .i64 (atA n), .int .i64 (atB n), .int .i64 (atC n)⟩ ∧ FL w1) := (keepBelow w).and ((keepV3 _).and keepFL)
  have HO0 : Hid (Below w.heap.size w (w.alloc (.cells #[.int .i64 (atA n), .int .i64 (atB n), .int .i64 (atC n)] 23)) ∧ BxAt (w.alloc (.cells #[.int .i64 (atA n), .int .i64 (atB n), .int .i64 (atC n)] 23)) ⟨w.heap.size, .int .i64 (atA n), .int .i64 (atB n), .int .i64 (atC n)⟩ ∧ FL (w.alloc (.cells #[.int .i64 (atA n), .int .i64 (atB n), .int .i64 (atC n)] 23))) := ⟨boxB _ _, ((OKs.nil w).box rfl _ _ _).one, hf.below (boxB _ _)⟩
  clear hf
  go_enter Tryz.func125, Tryz.ntmps125
  go_wp2_with fail
  obtain ⟨_, ⟨b0, b1, b2, b3⟩, ⟨g0, g1, g2⟩, ⟨l0, l1, l2⟩, _⟩ := HO0.out
  go_region_held3 (fun w' => w'.cell? ⟨w.heap.size, 0, none⟩ = some (.int .i64 (atA n)) ∧ w'.cell? ⟨w.heap.size, 1, none⟩ = some (.int .i64 (atB n)) ∧ w'.cell? ⟨w.heap.size, 2, none⟩ = some (.int .i64 (atC n))) (go_keep)
    (first
      | (go_at_call 146; refine (HL.out _).mono ?_; rintro e w1 ⟨rfl, hb⟩; have HO1 := hide3 (HK.out _ _ (HK.out.drew HO0.out) hb); clear hb b0 b1 b2 b3 g0 g1 g2 l0 l1 l2; obtain ⟨_, ⟨b0, b1, b2, b3⟩, ⟨g0, g1, g2⟩, ⟨l0, l1, l2⟩, _⟩ := HO1.out)
      | (go_at_call 123; refine (HF.out _).mono ?_; rintro e w2 ⟨v2, rfl, ok2⟩; have HO2 := hide3 ok2; have HO3 := hide3 (HK.out _ _ HO1.out ok2.2); clear ok2 b0 b1 b2 b3 g0 g1 g2 l0 l1 l2; obtain ⟨_, ⟨b0, b1, b2, b3⟩, ⟨g0, g1, g2⟩, ⟨l0, l1, l2⟩, _⟩ := HO3.out))
  all_goals go_wp2
  all_goals go_ret2
  all_goals exact ⟨v2, rfl, HO2.out.1, HO3.out.1⟩

set_option maxHeartbeats 1600000 in
theorem signed_lt {n : Int} (hn : okR n) (w : World) (hf : FL w) :
    Calls Tryz.prog 125 #[.string ⟨#[60]⟩, .agg #[.int .i64 (atA n), .int .i64 (atB n), .int .i64 (atC n)]] w fun e w' => ∃ v, e = .returned (.tuple #[v, .bool true]) ∧ SpansR w' v (cutR allR [(n, 999999999)]) ∧ Below w.heap.size w w' := by
  have HF : Hid (∀ w1, Calls Tryz.prog 123 #[.agg #[.int .i64 (atA n), .int .i64 (atB n), .int .i64 (atC n)], .agg #[.int .i64 999, .int .i64 999, .int .i64 999]] w1 fun e w' => ∃ v, e = .returned v ∧ SpansR w' v [(n, 999999999)] ∧ Below w1.heap.size w1 w') := from_at n 999999999
  have HAll : Hid (∀ w1, (Below w.heap.size w w1 ∧ BxAt w1 ⟨w.heap.size, .int .i64 (atA n), .int .i64 (atB n), .int .i64 (atC n)⟩ ∧ FL w1) → Calls Tryz.prog 101 #[] w1 fun e w' => ∃ v, e = .returned v ∧ SpansR w' v allR ∧ Below w1.heap.size w1 w') := fun w1 h => All_rg h.2.2
  have HC : Hid (∀ w1 v1 v2, SpansR w1 v1 allR → SpansR w1 v2 [(n, 999999999)] → Calls Tryz.prog 104 #[v1, v2] w1 fun e w' => ∃ v, e = .returned v ∧ OwnS w' w1.heap.size v ((cutR allR [(n, 999999999)]).map spR) ∧ Below w1.heap.size w1 w') := fun w1 v1 v2 h1 h2 => cut_rg allR_ok (one_ok hn okL hn.2) h1 h2
  have HK : Hid (KeepP fun w1 => Below w.heap.size w w1 ∧ BxAt w1 ⟨w.heap.size, .int .i64 (atA n), .int .i64 (atB n), .int .i64 (atC n)⟩ ∧ FL w1) := (keepBelow w).and ((keepV3 _).and keepFL)
  have HO0 : Hid (Below w.heap.size w (w.alloc (.cells #[.int .i64 (atA n), .int .i64 (atB n), .int .i64 (atC n)] 23)) ∧ BxAt (w.alloc (.cells #[.int .i64 (atA n), .int .i64 (atB n), .int .i64 (atC n)] 23)) ⟨w.heap.size, .int .i64 (atA n), .int .i64 (atB n), .int .i64 (atC n)⟩ ∧ FL (w.alloc (.cells #[.int .i64 (atA n), .int .i64 (atB n), .int .i64 (atC n)] 23))) := ⟨boxB _ _, ((OKs.nil w).box rfl _ _ _).one, hf.below (boxB _ _)⟩
  clear hf
  go_enter Tryz.func125, Tryz.ntmps125
  go_wp2_with fail
  obtain ⟨_, ⟨b0, b1, b2, b3⟩, ⟨g0, g1, g2⟩, ⟨l0, l1, l2⟩, _⟩ := HO0.out
  go_region_held3 (fun w' => (w'.cell? ⟨w.heap.size, 0, none⟩ = some (.int .i64 (atA n)) ∧ w'.cell? ⟨w.heap.size, 1, none⟩ = some (.int .i64 (atB n)) ∧ w'.cell? ⟨w.heap.size, 2, none⟩ = some (.int .i64 (atC n))) ∧ w'.cell? ⟨1, 0, none⟩ = some (.int .i64 999) ∧ w'.cell? ⟨1, 1, none⟩ = some (.int .i64 999) ∧ w'.cell? ⟨1, 2, none⟩ = some (.int .i64 999)) (go_keep)
    (first
      | (have _h := HOF; go_at_call 101; refine (HAll.out _ HOF.out.1).mono ?_; rintro e w2 ⟨v1, rfl, ok2⟩; have HOB : Hid ((Below w.heap.size w w2 ∧ BxAt w2 ⟨w.heap.size, .int .i64 (atA n), .int .i64 (atB n), .int .i64 (atC n)⟩ ∧ FL w2) ∧ SpansR w2 v1 allR ∧ SpansR w2 v2 [(n, 999999999)]) := ⟨HK.out _ _ HOF.out.1 ok2.2, ok2.1, HOF.out.2.below ok2.2⟩; clear ok2 b0 b1 b2 b3 g0 g1 g2 l0 l1 l2; obtain ⟨⟨_, ⟨b0, b1, b2, b3⟩, ⟨g0, g1, g2⟩, ⟨l0, l1, l2⟩, _⟩, _⟩ := HOB.out)
      | (have _h := HOA; go_at_call 123; refine (HF.out _).mono ?_; rintro e w2 ⟨v2, rfl, ok2⟩; have HOB : Hid ((Below w.heap.size w w2 ∧ BxAt w2 ⟨w.heap.size, .int .i64 (atA n), .int .i64 (atB n), .int .i64 (atC n)⟩ ∧ FL w2) ∧ SpansR w2 v1 allR ∧ SpansR w2 v2 [(n, 999999999)]) := ⟨HK.out _ _ HOA.out.1 ok2.2, HOA.out.2.below ok2.2, ok2.1⟩; clear ok2 b0 b1 b2 b3 g0 g1 g2 l0 l1 l2; obtain ⟨⟨_, ⟨b0, b1, b2, b3⟩, ⟨g0, g1, g2⟩, ⟨l0, l1, l2⟩, _⟩, _⟩ := HOB.out)
      | (go_at_call 101; refine (HAll.out _ (HK.out.drew HO0.out)).mono ?_; rintro e w1 ⟨v1, rfl, ok1⟩; have HOA : Hid ((Below w.heap.size w w1 ∧ BxAt w1 ⟨w.heap.size, .int .i64 (atA n), .int .i64 (atB n), .int .i64 (atC n)⟩ ∧ FL w1) ∧ SpansR w1 v1 allR) := ⟨HK.out _ _ (HK.out.drew HO0.out) ok1.2, ok1.1⟩; clear ok1 b0 b1 b2 b3 g0 g1 g2 l0 l1 l2; obtain ⟨⟨_, ⟨b0, b1, b2, b3⟩, ⟨g0, g1, g2⟩, ⟨l0, l1, l2⟩, _⟩, _⟩ := HOA.out)
      | (go_at_call 123; refine (HF.out _).mono ?_; rintro e w1 ⟨v2, rfl, ok1⟩; have HOF : Hid ((Below w.heap.size w w1 ∧ BxAt w1 ⟨w.heap.size, .int .i64 (atA n), .int .i64 (atB n), .int .i64 (atC n)⟩ ∧ FL w1) ∧ SpansR w1 v2 [(n, 999999999)]) := ⟨HK.out _ _ (HK.out.drew HO0.out) ok1.2, ok1.1⟩; clear ok1 b0 b1 b2 b3 g0 g1 g2 l0 l1 l2; obtain ⟨⟨_, ⟨b0, b1, b2, b3⟩, ⟨g0, g1, g2⟩, ⟨l0, l1, l2⟩, _⟩, _⟩ := HOF.out)
      | (go_at_call 104; refine (HC.out _ _ _ HOB.out.2.1 HOB.out.2.2).mono ?_; rintro e w3 ⟨v3, rfl, ok3⟩; have HO3 := hide3 ok3; have HO4 := hide3 (HK.out _ _ HOB.out.1 ok3.2); clear ok3 b0 b1 b2 b3 g0 g1 g2 l0 l1 l2; obtain ⟨_, ⟨b0, b1, b2, b3⟩, ⟨g0, g1, g2⟩, ⟨l0, l1, l2⟩, _⟩ := HO4.out))
  all_goals go_wp2
  all_goals go_ret2
  all_goals exact ⟨v3, rfl, HO3.out.1.spans, HO4.out.1⟩

set_option maxHeartbeats 1600000 in
theorem signed_gt {n : Int} (hn : okR n) (w : World) (hf : FL w) :
    Calls Tryz.prog 125 #[.string ⟨#[62]⟩, .agg #[.int .i64 (atA n), .int .i64 (atB n), .int .i64 (atC n)]] w fun e w' => ∃ v, e = .returned (.tuple #[v, .bool true]) ∧ SpansR w' v (cutR allR [(0, n)]) ∧ Below w.heap.size w w' := by
  have HF : Hid (∀ w1, Calls Tryz.prog 123 #[.agg #[.int .i64 0, .int .i64 0, .int .i64 0], .agg #[.int .i64 (atA n), .int .i64 (atB n), .int .i64 (atC n)]] w1 fun e w' => ∃ v, e = .returned v ∧ SpansR w' v [(0, n)] ∧ Below w1.heap.size w1 w') := from_at 0 n
  have HAll : Hid (∀ w1, (Below w.heap.size w w1 ∧ BxAt w1 ⟨w.heap.size, .int .i64 (atA n), .int .i64 (atB n), .int .i64 (atC n)⟩ ∧ FL w1) → Calls Tryz.prog 101 #[] w1 fun e w' => ∃ v, e = .returned v ∧ SpansR w' v allR ∧ Below w1.heap.size w1 w') := fun w1 h => All_rg h.2.2
  have HC : Hid (∀ w1 v1 v2, SpansR w1 v1 allR → SpansR w1 v2 [(0, n)] → Calls Tryz.prog 104 #[v1, v2] w1 fun e w' => ∃ v, e = .returned v ∧ OwnS w' w1.heap.size v ((cutR allR [(0, n)]).map spR) ∧ Below w1.heap.size w1 w') := fun w1 v1 v2 h1 h2 => cut_rg allR_ok (one_ok okF hn hn.1) h1 h2
  have HK : Hid (KeepP fun w1 => Below w.heap.size w w1 ∧ BxAt w1 ⟨w.heap.size, .int .i64 (atA n), .int .i64 (atB n), .int .i64 (atC n)⟩ ∧ FL w1) := (keepBelow w).and ((keepV3 _).and keepFL)
  have HO0 : Hid (Below w.heap.size w (w.alloc (.cells #[.int .i64 (atA n), .int .i64 (atB n), .int .i64 (atC n)] 23)) ∧ BxAt (w.alloc (.cells #[.int .i64 (atA n), .int .i64 (atB n), .int .i64 (atC n)] 23)) ⟨w.heap.size, .int .i64 (atA n), .int .i64 (atB n), .int .i64 (atC n)⟩ ∧ FL (w.alloc (.cells #[.int .i64 (atA n), .int .i64 (atB n), .int .i64 (atC n)] 23))) := ⟨boxB _ _, ((OKs.nil w).box rfl _ _ _).one, hf.below (boxB _ _)⟩
  clear hf
  go_enter Tryz.func125, Tryz.ntmps125
  go_wp2_with fail
  obtain ⟨_, ⟨b0, b1, b2, b3⟩, ⟨g0, g1, g2⟩, ⟨l0, l1, l2⟩, _⟩ := HO0.out
  go_region_held3 (fun w' => (w'.cell? ⟨w.heap.size, 0, none⟩ = some (.int .i64 (atA n)) ∧ w'.cell? ⟨w.heap.size, 1, none⟩ = some (.int .i64 (atB n)) ∧ w'.cell? ⟨w.heap.size, 2, none⟩ = some (.int .i64 (atC n))) ∧ w'.cell? ⟨0, 0, none⟩ = some (.int .i64 0) ∧ w'.cell? ⟨0, 1, none⟩ = some (.int .i64 0) ∧ w'.cell? ⟨0, 2, none⟩ = some (.int .i64 0)) (go_keep)
    (first
      | (have _h := HOF; go_at_call 101; refine (HAll.out _ HOF.out.1).mono ?_; rintro e w2 ⟨v1, rfl, ok2⟩; have HOB : Hid ((Below w.heap.size w w2 ∧ BxAt w2 ⟨w.heap.size, .int .i64 (atA n), .int .i64 (atB n), .int .i64 (atC n)⟩ ∧ FL w2) ∧ SpansR w2 v1 allR ∧ SpansR w2 v2 [(0, n)]) := ⟨HK.out _ _ HOF.out.1 ok2.2, ok2.1, HOF.out.2.below ok2.2⟩; clear ok2 b0 b1 b2 b3 g0 g1 g2 l0 l1 l2; obtain ⟨⟨_, ⟨b0, b1, b2, b3⟩, ⟨g0, g1, g2⟩, ⟨l0, l1, l2⟩, _⟩, _⟩ := HOB.out)
      | (have _h := HOA; go_at_call 123; refine (HF.out _).mono ?_; rintro e w2 ⟨v2, rfl, ok2⟩; have HOB : Hid ((Below w.heap.size w w2 ∧ BxAt w2 ⟨w.heap.size, .int .i64 (atA n), .int .i64 (atB n), .int .i64 (atC n)⟩ ∧ FL w2) ∧ SpansR w2 v1 allR ∧ SpansR w2 v2 [(0, n)]) := ⟨HK.out _ _ HOA.out.1 ok2.2, HOA.out.2.below ok2.2, ok2.1⟩; clear ok2 b0 b1 b2 b3 g0 g1 g2 l0 l1 l2; obtain ⟨⟨_, ⟨b0, b1, b2, b3⟩, ⟨g0, g1, g2⟩, ⟨l0, l1, l2⟩, _⟩, _⟩ := HOB.out)
      | (go_at_call 101; refine (HAll.out _ (HK.out.drew HO0.out)).mono ?_; rintro e w1 ⟨v1, rfl, ok1⟩; have HOA : Hid ((Below w.heap.size w w1 ∧ BxAt w1 ⟨w.heap.size, .int .i64 (atA n), .int .i64 (atB n), .int .i64 (atC n)⟩ ∧ FL w1) ∧ SpansR w1 v1 allR) := ⟨HK.out _ _ (HK.out.drew HO0.out) ok1.2, ok1.1⟩; clear ok1 b0 b1 b2 b3 g0 g1 g2 l0 l1 l2; obtain ⟨⟨_, ⟨b0, b1, b2, b3⟩, ⟨g0, g1, g2⟩, ⟨l0, l1, l2⟩, _⟩, _⟩ := HOA.out)
      | (go_at_call 123; refine (HF.out _).mono ?_; rintro e w1 ⟨v2, rfl, ok1⟩; have HOF : Hid ((Below w.heap.size w w1 ∧ BxAt w1 ⟨w.heap.size, .int .i64 (atA n), .int .i64 (atB n), .int .i64 (atC n)⟩ ∧ FL w1) ∧ SpansR w1 v2 [(0, n)]) := ⟨HK.out _ _ (HK.out.drew HO0.out) ok1.2, ok1.1⟩; clear ok1 b0 b1 b2 b3 g0 g1 g2 l0 l1 l2; obtain ⟨⟨_, ⟨b0, b1, b2, b3⟩, ⟨g0, g1, g2⟩, ⟨l0, l1, l2⟩, _⟩, _⟩ := HOF.out)
      | (go_at_call 104; refine (HC.out _ _ _ HOB.out.2.1 HOB.out.2.2).mono ?_; rintro e w3 ⟨v3, rfl, ok3⟩; have HO3 := hide3 ok3; have HO4 := hide3 (HK.out _ _ HOB.out.1 ok3.2); clear ok3 b0 b1 b2 b3 g0 g1 g2 l0 l1 l2; obtain ⟨_, ⟨b0, b1, b2, b3⟩, ⟨g0, g1, g2⟩, ⟨l0, l1, l2⟩, _⟩ := HO4.out))
  all_goals go_wp2
  all_goals go_ret2
  all_goals exact ⟨v3, rfl, HO3.out.1.spans, HO4.out.1⟩
end Go.Proofs.YthoacfmfpbngkaaGreatDoor
namespace Go.Proofs.YthoacfmfpbngkaaGreatDoor
open Go.ChangeShapes Go.WideShapes Go.ChangeAt Go.RowKit
set_option maxRecDepth 100000

/-- The wrap that hands on what is listed, the reach and the world's shape. -/
theorem wrap_shaped {H : Type} {enc : TypeId × Value → H} {a : Assume} {C : Checked} {os : Os} {f : FuncId} {fn : Func} {s : ChangeSpec} {conds : List PathCond} {apart fresh handsOn again : Bool} {X : World → Array Value → Prop}
    (own : ownKnob C.prog.godebug = none) (started : os.Started) (noInit : C.prog.inits.idxOf? f = none) (hfn : C.prog.funcs[f]? = some fn)
    (witness : ∃ (w : World) (tape : Tape) (i : Input), w.os = os ∧ (w.forCall tape i).Shaped C.prog ∧ i.vars = [] ∧ Input.okWide C.prog (w.forCall tape i) .any w.heap.size f i ∧
      ((s.pre enc C.prog fn conds apart (w.forCall tape i).memory i.args ∧ X (w.forCall tape i).memory i.args) ∧ sizedMet enc C.prog fn (OpenSpec.ofChange s) apart (w.forCall tape i).memory i.args) ∧ a.holds C.prog (lone (Frame.enter C.prog f i.args .normal) [] (w.forCall tape i)))
    (contract : ∀ (W : World) (base : Nat) (args : Array Value) (ds gs : List (DataW H)) (before : List MemPlace),
      (∀ (j : Nat) t v, fn.params[j]? = some t → args[j]? = some v → Value.okWide C.prog W .any base t v) →
      DataW.Whole enc C.prog fn.params.toList s.vars apart W args.toList ds gs before →
      (DataW.weightsEach C.prog (fn.params.toList ++ s.plain.varTypes C.prog) (ds ++ gs)).all (· ≤ reachBytes) = true → W.ShapedOpen C.prog →
      Calls C.prog f args W fun e W' => ∃ v, e = .returned v ∧ s.post enc C.prog fn apart fresh handsOn again W args v W') :
    ReturnsInHanded a C os f .any (fun w args => (s.pre enc C.prog fn conds apart w args ∧ X w args) ∧ sizedMet enc C.prog fn (OpenSpec.ofChange s) apart w args) (s.post enc C.prog fn apart fresh handsOn again) := by
  refine returnsInHanded_of_calls own started noInit witness ?_
  intro w tape i _ hsh _ hok hpre _
  obtain ⟨_, _, _, fn', hfn', _, _, _, _, hval⟩ := hok
  have e : fn' = fn := Option.some.inj (hfn'.symm.trans hfn)
  subst e
  obtain ⟨⟨⟨ds, gs, before, hw, _⟩, _⟩, hz⟩ := hpre
  have hw' := DataW.Whole.of_heap (w' := w.forCall tape i) (by rfl) hw
  refine (contract (w.forCall tape i) w.heap.size i.args ds gs before hval hw' (hz.weights hw) hsh).mono fun e W' ⟨v, he, hp⟩ => ?_
  subst he
  exact ChangeSpec.post_blind hp

theorem own : ownKnob Tryz.prog.godebug = none := by kernel_rfl
theorem laidOut : laidOutB Tryz.prog = true := by kernel_rfl
theorem cellsInt : Tryz.prog.cellsOf 3 = 1 := by kernel_rfl
theorem cellsVer : Tryz.prog.cellsOf 23 = 3 := by kernel_rfl

theorem take_one {cs : List Value} {o : Nat} {v : Value} (h : (cs.drop o).take 1 = [v]) : cs[o]? = some v := by
  have h0 : ((cs.drop o).take 1)[0]? = some v := by rw [h]; rfl
  simpa using h0

theorem field_at {fs : Array Field} {i ty off : Nat} (h : (fs[i]?).map (fun f => (f.type, f.offset)) = some (ty, off)) : ∃ f, fs[i]? = some f ∧ f.type = ty ∧ f.offset = off := by
  cases hf : fs[i]? with
  | none => rw [hf] at h; cases h
  | some f =>
    rw [hf] at h
    simp only [Option.map_some, Option.some.injEq, Prod.mk.injEq] at h
    exact ⟨f, rfl, h.1, h.2⟩

theorem list3 {α : Type} {l : List α} (h : l.length = 3) : ∃ a b c, l = [a, b, c] := by
  match l, h with
  | [a, b, c], _ => exact ⟨a, b, c, rfl⟩

/-- A version that came in: three ints. -/
theorem open_ver {H : Type} {enc : TypeId × Value → H} {W : World} {base b0 : Nat} {spare : Nat → Bool} {held : Bool} {v : Value} {d : DataW H} {p : List MemPlace} (hv : Value.okWide Tryz.prog W .any b0 23 v)
    (h : DataW.Trod enc Tryz.prog W base spare held 23 v d p) : ∃ a b c, v = .agg #[.int .i64 a, .int .i64 b, .int .i64 c] ∧ isI a ∧ isI b ∧ isI c := by
  have hs : Tryz.prog.underlying 23 = some (.struct (Tryz.prog.fieldsOf 23)) := by kernel_rfl
  obtain ⟨cs, rfl, hsz⟩ := okWide_struct hs hv
  obtain ⟨n, h⟩ := h
  obtain ⟨xs, n', _, _, _, hxl, hf⟩ := DataW.trod_struct hs h
  have hfz : (Tryz.prog.fieldsOf 23).size = 3 := by kernel_rfl
  rw [cellsVer] at hsz
  have ints : ∀ i off, ((Tryz.prog.fieldsOf 23)[i]?).map (fun f => (f.type, f.offset)) = some (3, off) → i < 3 → ∃ k, cs.toList[off]? = some (.int .i64 k) ∧ (Lit.int .i64 k).wf = true := by
    intro i off hfd hi
    obtain ⟨f, h1, h2, h3⟩ := field_at hfd
    have hr := hf i f h1
    rw [h2, h3, cellsInt, List.getElem?_eq_getElem (by omega : i < xs.length)] at hr
    obtain ⟨k, e1, _, wk⟩ := DataW.trod_int Tryz.underlying3 hr
    exact ⟨k, take_one e1, wk⟩
  obtain ⟨a, a0, wa⟩ := ints 0 0 (by kernel_rfl) (by decide)
  obtain ⟨b, a1, wb⟩ := ints 1 1 (by kernel_rfl) (by decide)
  obtain ⟨c, a2, wc⟩ := ints 2 2 (by kernel_rfl) (by decide)
  obtain ⟨l⟩ := cs
  obtain ⟨x, y, z, rfl⟩ := list3 (l := l) (by simpa using hsz)
  simp at a0 a1 a2
  subst a0 a1 a2
  exact ⟨a, b, c, rfl, bounds_i64 wa, bounds_i64 wb, bounds_i64 wc⟩

end Go.Proofs.YthoacfmfpbngkaaGreatDoor
namespace Go.Proofs.YthoacfmfpbngkaaGreatDoor
open Go.ChangeShapes Go.WideShapes Go.ChangeAt Go.RowKit
set_option maxRecDepth 100000

/-- The wrap that hands on what is listed, the reach and the world's shape, with what the listed variables hold. -/
theorem wrap_laid {H : Type} {enc : TypeId × Value → H} {a : Assume} {C : Checked} {os : Os} {f : FuncId} {fn : Func} {s : ChangeSpec} {conds : List PathCond} {apart fresh handsOn again : Bool} {l : List (String × DataW Unit)}
    (own : ownKnob C.prog.godebug = none) (started : os.Started) (noInit : C.prog.inits.idxOf? f = none) (hfn : C.prog.funcs[f]? = some fn)
    (witness : ∃ (w : World) (tape : Tape) (i : Input), w.os = os ∧ (w.forCall tape i).Shaped C.prog ∧ i.vars = [] ∧ Input.okWide C.prog (w.forCall tape i) .any w.heap.size f i ∧
      ((s.pre enc C.prog fn conds apart (w.forCall tape i).memory i.args ∧ laidMetH C.prog l (w.forCall tape i).memory) ∧ sizedMet enc C.prog fn (OpenSpec.ofChange s) apart (w.forCall tape i).memory i.args) ∧ a.holds C.prog (lone (Frame.enter C.prog f i.args .normal) [] (w.forCall tape i)))
    (contract : ∀ (W : World) (base : Nat) (args : Array Value) (ds gs : List (DataW H)) (before : List MemPlace),
      (∀ (j : Nat) t v, fn.params[j]? = some t → args[j]? = some v → Value.okWide C.prog W .any base t v) →
      DataW.Whole enc C.prog fn.params.toList s.vars apart W args.toList ds gs before →
      (DataW.weightsEach C.prog (fn.params.toList ++ s.plain.varTypes C.prog) (ds ++ gs)).all (· ≤ reachBytes) = true → W.ShapedOpen C.prog → laidMetH C.prog l W →
      Calls C.prog f args W fun e W' => ∃ v, e = .returned v ∧ s.post enc C.prog fn apart fresh handsOn again W args v W') :
    ReturnsInHanded a C os f .any (fun w args => (s.pre enc C.prog fn conds apart w args ∧ laidMetH C.prog l w) ∧ sizedMet enc C.prog fn (OpenSpec.ofChange s) apart w args) (s.post enc C.prog fn apart fresh handsOn again) := by
  refine returnsInHanded_of_calls own started noInit witness ?_
  intro w tape i _ hsh _ hok hpre _
  obtain ⟨_, _, _, fn', hfn', _, _, _, _, hval⟩ := hok
  have e : fn' = fn := Option.some.inj (hfn'.symm.trans hfn)
  subst e
  obtain ⟨⟨⟨ds, gs, before, hw, _⟩, hX⟩, hz⟩ := hpre
  have hw' := DataW.Whole.of_heap (w' := w.forCall tape i) (by rfl) hw
  have hX' := laidMetH.of_heap (w' := w.forCall tape i) (by rfl) hX
  refine (contract (w.forCall tape i) w.heap.size i.args ds gs before hval hw' (hz.weights hw) hsh hX').mono fun e W' ⟨v, he, hp⟩ => ?_
  subst he
  exact ChangeSpec.post_blind hp

theorem tab_is {W : World} {r : List (String × DataW Unit)} (h : laidMet Tryz.prog (("math/bits.deBruijn32tab", Rows.laid_math_bits_deBruijn32tab) :: ("math/bits.deBruijn64tab", Rows.laid_math_bits_deBruijn64tab) :: ("internal/strconv.uint64pow10", Rows.laid_internal_strconv_uint64pow10) :: r) W) :
    Lib.TabIs Tryz.prog W "internal/strconv.uint64pow10" .u64 Lib.pow10Tab := by
  have h2 : laidMet Tryz.prog (("internal/strconv.uint64pow10", Lib.tabData .u64 Lib.pow10Tab) :: r) W := (laidMet.tail (laidMet.tail h))
  exact Lib.tabIs_of_head (g := 5) (t := 170) (e := 146) (n := 20) (by kernel_rfl) (by kernel_rfl) (by kernel_rfl) Tryz.underlying146 (by kernel_rfl) (by kernel_rfl) h2

/-- Itoa answers with the numeral, in whatever world stands on one with the table. -/
theorem spells_tab {W : World} (h : Lib.TabIs Tryz.prog W "internal/strconv.uint64pow10" .u64 Lib.pow10Tab) (w : World) (hw : Below W.heap.size W w) (n : Int) (h0 : 0 ≤ n) (h1 : n ≤ 999) : Spells w n ⟨(Lib.itoa n).toArray⟩ := by
  intro w1 hb
  have ht := Lib.tabBelow_of_tabIs h w1 (below_then hw hb)
  refine (Tryz.strconv_Itoa n (by omega) (by omega) w1 ht).mono ?_
  rintro e w' ⟨rfl, k, os, rfl⟩
  exact ⟨rfl, Lib.below_grow _ _ (Nat.le_refl _) k os⟩
end Go.Proofs.YthoacfmfpbngkaaGreatDoor
namespace Go.Proofs.YthoacfmfpbngkaaGreatDoor
set_option maxRecDepth 100000

/-- The number that a row of digits spells. -/
def valOf (l : List UInt8) : Nat := l.foldl (fun n d => n * 10 + (d.toNat - 48)) 0

theorem val_snoc (l : List UInt8) (d : UInt8) : valOf (l ++ [d]) = valOf l * 10 + (d.toNat - 48) := by simp [valOf]

theorem digit_nat {k : Nat} (h : k < 10) : (UInt8.ofNat (48 + k)).toNat = 48 + k := by
  rw [UInt8.toNat_ofNat']; omega

theorem val_dec (u : Nat) : valOf (Lib.decDigits u) = u := by
  induction u using Nat.strongRecOn with
  | _ u ih =>
    rw [Lib.decDigits]
    split
    · rename_i h
      have := digit_nat h
      simp [valOf]; omega
    · rename_i h
      rw [val_snoc, ih (u / 10) (by omega)]
      have := digit_nat (k := u % 10) (by omega)
      omega

theorem dec_digits (u : Nat) : ∀ d ∈ Lib.decDigits u, 48 ≤ d.toNat ∧ d.toNat ≤ 57 := by
  induction u using Nat.strongRecOn with
  | _ u ih =>
    rw [Lib.decDigits]
    split
    · rename_i h
      intro d hd
      have := digit_nat h
      rw [List.mem_singleton] at hd; subst hd; omega
    · rename_i h
      intro d hd
      rcases List.mem_append.1 hd with h1 | h1
      · exact ih (u / 10) (by omega) d h1
      · have := digit_nat (k := u % 10) (by omega)
        rw [List.mem_singleton] at h1; subst h1; omega

theorem dec_ne (u : Nat) : Lib.decDigits u ≠ [] := by
  rw [Lib.decDigits]; split <;> simp

theorem itoa_of {n : Int} (h : 0 ≤ n) : Lib.itoa n = Lib.decDigits n.toNat := by
  obtain ⟨u, rfl⟩ : ∃ u : Nat, n = u := ⟨n.toNat, by omega⟩
  rw [Lib.itoa_nonneg]; rfl

theorem no_dot {n : Int} (h : 0 ≤ n) : (46 : UInt8) ∉ Lib.itoa n := by
  rw [itoa_of h]
  intro hd
  have := (dec_digits _ _ hd).1
  revert this; decide

theorem itoa_inj {m n : Int} (hm : 0 ≤ m) (hn : 0 ≤ n) (h : Lib.itoa m = Lib.itoa n) : m = n := by
  rw [itoa_of hm, itoa_of hn] at h
  have := congrArg valOf h
  rw [val_dec, val_dec] at this
  omega

theorem split_dot {l1 l2 r1 r2 : List UInt8} (h1 : (46 : UInt8) ∉ l1) (h2 : (46 : UInt8) ∉ l2) (h : l1 ++ 46 :: r1 = l2 ++ 46 :: r2) : l1 = l2 ∧ r1 = r2 := by
  induction l1 generalizing l2 with
  | nil =>
    cases l2 with
    | nil => simp at h; exact ⟨rfl, h⟩
    | cons x l2 => simp at h; exact absurd (by rw [h.1]; simp) h2
  | cons y l1 ih =>
    cases l2 with
    | nil => simp at h; exact absurd (by rw [h.1]; simp) h1
    | cons x l2 =>
      simp at h
      obtain ⟨e1, e2⟩ := ih (fun m => h1 (List.mem_cons_of_mem _ m)) (fun m => h2 (List.mem_cons_of_mem _ m)) h.2
      exact ⟨by rw [h.1, e1], e2⟩

theorem text_list {a b c : Int} (h : mayV a b c = true) : (textV a b c).data.toList = Lib.itoa a ++ 46 :: (Lib.itoa b ++ 46 :: Lib.itoa c) := by
  unfold textV; rw [if_pos h]
  simp [ByteArray.data_append]

theorem text_inj {a b c x y z : Int} (h : mayV a b c = true) (k : mayV x y z = true) : textV a b c = textV x y z ↔ a = x ∧ b = y ∧ c = z := by
  constructor
  · intro e
    have e1 := congrArg (fun s : ByteArray => s.data.toList) e
    simp only [text_list h, text_list k] at e1
    obtain ⟨a0, _, b0, _, c0, _⟩ := may_all h
    obtain ⟨x0, _, y0, _, z0, _⟩ := may_all k
    obtain ⟨f1, f2⟩ := split_dot (no_dot a0) (no_dot x0) e1
    obtain ⟨f3, f4⟩ := split_dot (no_dot b0) (no_dot y0) f2
    exact ⟨itoa_inj a0 x0 f1, itoa_inj b0 y0 f3, itoa_inj c0 z0 f4⟩
  · rintro ⟨rfl, rfl, rfl⟩; rfl
end Go.Proofs.YthoacfmfpbngkaaGreatDoor
namespace Go.Proofs.YthoacfmfpbngkaaGreatDoor
open Go.RowKit
set_option maxRecDepth 100000

/-- A byte wherever it lies, as a string. -/
theorem byte_at (d : Int) (h0 : 0 ≤ d) (h1 : d < 10) (W : World) (N : Nat) (hN : W.cell? ⟨N, 0, none⟩ = some (.int .u8 (48 + d))) :
    (convert 70 9 (.slice (some ⟨N, 0, none⟩) 1 1)).run Tryz.prog W = .ok (.string ⟨#[UInt8.ofNat (48 + d.toNat)]⟩) W := by
  have e := digit_nat (k := d.toNat) (by omega)
  exact run_convert_bytes_back (P := Tryz.prog) W 70 9 5 ⟨N, 0, none⟩ 1 [UInt8.ofNat (48 + d.toNat)] Tryz.underlying70 Tryz.underlying5 Tryz.underlying9 (fun j hj => by
    have hj0 : j = 0 := by simp at hj; exact hj
    subst hj0
    rw [show (⟨N, 0, none⟩ : Addr).add 0 = ⟨N, 0, none⟩ from rfl, hN]
    simp only [List.getElem_cons_zero]
    rw [e]
    congr 2
    omega)

theorem byte_back (d : Int) (h0 : 0 ≤ d) (h1 : d < 10) (W : World) :
    (convert 70 9 (.slice (some ⟨W.heap.size, 0, none⟩) 1 1)).run Tryz.prog (W.alloc (.cells #[.int .u8 (48 + d)] 5)) = .ok (.string ⟨#[UInt8.ofNat (48 + d.toNat)]⟩) (W.alloc (.cells #[.int .u8 (48 + d)] 5)) :=
  byte_at d h0 h1 _ _ (by rw [World.cell?_alloc_new]; rfl)

theorem itoa_small {n : Int} (h0 : 0 ≤ n) (h1 : n < 10) : Lib.itoa n = [UInt8.ofNat (48 + n.toNat)] := by
  rw [itoa_of h0, Lib.decDigits_one (by omega)]
theorem itoa_more {n : Int} (h0 : 10 ≤ n) : Lib.itoa n = Lib.itoa (n / 10) ++ [UInt8.ofNat (48 + (n % 10).toNat)] := by
  rw [itoa_of (by omega), itoa_of (by omega), Lib.decDigits, dif_neg (by omega)]
  have e1 : n.toNat / 10 = (n / 10).toNat := by omega
  have e2 : n.toNat % 10 = (n % 10).toNat := by omega
  rw [e1, e2]

set_option maxHeartbeats 1600000 in
theorem Number_small (n : Int) (h0 : 0 ≤ n) (h1 : n < 10) (w : World) :
    Calls Tryz.prog 48 #[.int .i64 n] w fun e w' => e = .returned (.string ⟨(Lib.itoa n).toArray⟩) ∧ Below w.heap.size w w' := by
  have hc := byte_back n h0 h1
  go_enter Tryz.func48, Tryz.ntmps48
  go_wp2
  go_returns
  exact ⟨ret_str (by simp [itoa_small h0 h1]), boxB _ _⟩

set_option maxHeartbeats 1600000 in
theorem Number_more (n : Int) (h0 : 10 ≤ n) (h1 : n ≤ 999) (w : World) (A : ByteArray) (hA : A.size ≤ 100) (D : UInt8) (hD : UInt8.ofNat (48 + (n % 10).toNat) = D)
    (HN : Hid (∀ w1, Calls Tryz.prog 48 #[.int .i64 (n / 10)] w1 fun e w' => e = .returned (.string A) ∧ Below w1.heap.size w1 w')) :
    Calls Tryz.prog 48 #[.int .i64 n] w fun e w' => e = .returned (.string (A ++ ⟨#[D]⟩)) ∧ Below w.heap.size w w' := by
  have HA : Hid (∀ (W : World) (N : Nat), W.cell? ⟨N, 0, none⟩ = some (.int .u8 (48 + n % 10)) → (convert 70 9 (.slice (some ⟨N, 0, none⟩) 1 1)).run Tryz.prog W = .ok (.string ⟨#[D]⟩) W) := by
    intro W N hN
    have := byte_at (n % 10) (by omega) (by omega) W N hN
    rw [hD] at this
    exact this
  have hc : ∀ W : World, (convert 70 9 (.slice (some ⟨W.heap.size, 0, none⟩) 1 1)).run Tryz.prog (W.alloc (.cells #[.int .u8 (48 + n % 10)] 5)) = .ok (.string ⟨#[D]⟩) (W.alloc (.cells #[.int .u8 (48 + n % 10)] 5)) := fun W => HA.out _ _ (by rw [World.cell?_alloc_new]; rfl)
  have hc2 : ∀ W : World, (convert 70 9 (.slice (some ⟨W.heap.size, 0, none⟩) 1 1)).run Tryz.prog (W.alloc (.cells #[.int .u8 (48 + n % 10)] 5)).drew = .ok (.string ⟨#[D]⟩) (W.alloc (.cells #[.int .u8 (48 + n % 10)] 5)).drew := fun W => HA.out _ _ (by rw [World.cell?_drew, World.cell?_alloc_new]; rfl)
  have e1 := fun W : World => run_string_add_sum (P := Tryz.prog) (w := W) A ⟨#[D]⟩ (by have : (⟨#[D]⟩ : ByteArray).size = 1 := rfl; omega)
  have hq : IntKind.i64.wrap (n.tdiv 10) = n / 10 := by rw [Int.tdiv_eq_ediv_of_nonneg (by omega), IntKind.wrap_i64]; omega
  have hr : n.tmod 10 = n % 10 := Int.tmod_eq_emod_of_nonneg (by omega)
  have hs : IntKind.i64.wrap (48 + n % 10) = 48 + n % 10 := by rw [IntKind.wrap_i64]; omega
  have hu : IntKind.u8.wrap (48 + n % 10) = 48 + n % 10 := by rw [IntKind.wrap_u8]; omega
  clear hD
  go_enter Tryz.func48, Tryz.ntmps48
  go_wp2_with fail
  go_region_with (go_at_call 48; refine (HN.out _).mono ?_; rintro e w1 ⟨rfl, hb⟩; have hcc := hb.cell (p := ⟨w.heap.size, 0, none⟩); have hcd := HA.out w1 w.heap.size; have HB : Hid (Below w.heap.size w w1) := below_then (by go_grown) hb; clear hb)
  all_goals go_wp2
  all_goals
    go_returns
    have hb := HB.out
    have hbs := hb.size
    exact ⟨rfl, by go_grown⟩

theorem Number_any (n : Int) (h0 : 0 ≤ n) (h1 : n ≤ 999) (w : World) :
    Calls Tryz.prog 48 #[.int .i64 n] w fun e w' => e = .returned (.string ⟨(Lib.itoa n).toArray⟩) ∧ Below w.heap.size w w' := by
  obtain ⟨k, hk⟩ : ∃ k : Nat, n.toNat = k := ⟨_, rfl⟩
  induction k using Nat.strongRecOn generalizing n w with
  | _ k ih =>
    by_cases h : n < 10
    · exact Number_small n h0 h w
    · have := Number_more n (by omega) h1 w ⟨(Lib.itoa (n / 10)).toArray⟩ (Nat.le_trans (itoa_three (by omega) (by omega)) (by decide)) _ rfl (fun w1 => ih (n / 10).toNat (by omega) (n / 10) (by omega) (by omega) w1 rfl)
      refine this.mono ?_
      rintro e w' ⟨rfl, hb⟩
      refine ⟨ret_str ?_, hb⟩
      have e := itoa_more (n := n) (by omega)
      rw [e]
      simp [ByteArray.ext_iff, ByteArray.data_append]

/-- What Print asks of Number. -/
def SpellsR (w : World) (n : Int) (S : ByteArray) : Prop := ∀ w1, Below w.heap.size w w1 → Calls Tryz.prog 48 #[.int .i64 n] w1 fun e w' => e = .returned (.string S) ∧ Below w1.heap.size w1 w'

theorem SpellsR.next {w : World} {n : Int} {S : ByteArray} (h : SpellsR w n S) {N : Nat} {x y z : Value} (w1 : World) (hb : Below w.heap.size w w1) (hl : N < w1.heap.size) (c0 : w1.cell? ⟨N, 0, none⟩ = some x) (c1 : w1.cell? ⟨N, 1, none⟩ = some y) (c2 : w1.cell? ⟨N, 2, none⟩ = some z) :
    Calls Tryz.prog 48 #[.int .i64 n] w1 fun e w' => e = .returned (.string S) ∧ w'.cell? ⟨N, 0, none⟩ = some x ∧ w'.cell? ⟨N, 1, none⟩ = some y ∧ w'.cell? ⟨N, 2, none⟩ = some z ∧ N < w'.heap.size ∧ Below w.heap.size w w' := by
  refine (h w1 hb).mono ?_
  rintro e w' ⟨rfl, hb1⟩
  exact ⟨rfl, (hb1.cell (p := ⟨N, 0, none⟩) hl).trans c0, (hb1.cell (p := ⟨N, 1, none⟩) hl).trans c1, (hb1.cell (p := ⟨N, 2, none⟩) hl).trans c2, Nat.lt_of_lt_of_le hl hb1.size, hb.trans (hb1.mono hb.size)⟩

set_option maxHeartbeats 1600000 in
theorem rPrint_all (a b c : Int) (w : World) (ha : mayV a b c = true → SpellsR w a ⟨(Lib.itoa a).toArray⟩) (hb : mayV a b c = true → SpellsR w b ⟨(Lib.itoa b).toArray⟩) (hc : mayV a b c = true → SpellsR w c ⟨(Lib.itoa c).toArray⟩) :
    Calls Tryz.prog 27 #[.agg #[.int .i64 a, .int .i64 b, .int .i64 c]] w fun e w' => e = .returned (.string (textV a b c)) ∧ Below w.heap.size w w' := by
  have HM : Hid (∀ w1, Calls Tryz.prog 29 #[.agg #[.int .i64 a, .int .i64 b, .int .i64 c]] w1 fun e w' => e = .returned (.bool (mayV a b c)) ∧ Below w1.heap.size w1 w') := rMay_any a b c
  cases hm : mayV a b c
  · have HR : Hid (textV a b c = ByteArray.empty) := by unfold Hid textV; rw [hm]; rfl
    rw [hm] at HM
    clear ha hb hc
    go_enter Tryz.func27, Tryz.ntmps27
    go_wp2_with (go_at_call 29; refine (HM.out _).mono ?_; rintro e w' ⟨rfl, hb⟩)
    go_returns
    exact ⟨ret_str HR.out.symm, below_then (boxB _ _) hb⟩
  · have HR : Hid (textV a b c = (((⟨(Lib.itoa a).toArray⟩ ++ ⟨#[46]⟩) ++ ⟨(Lib.itoa b).toArray⟩) ++ ⟨#[46]⟩) ++ ⟨(Lib.itoa c).toArray⟩) := by unfold Hid textV; rw [hm]; rfl
    have HA : Hid (SpellsR w a ⟨(Lib.itoa a).toArray⟩) := ha hm
    have HB : Hid (SpellsR w b ⟨(Lib.itoa b).toArray⟩) := hb hm
    have HC : Hid (SpellsR w c ⟨(Lib.itoa c).toArray⟩) := hc hm
    obtain ⟨a0, a1, b0, b1, c0, c1⟩ := may_all hm
    have za := itoa_three a0 a1
    have zb := itoa_three b0 b1
    have zc := itoa_three c0 c1
    rw [hm] at HM
    clear ha hb hc a0 a1 b0 b1 c0 c1
    generalize (⟨(Lib.itoa a).toArray⟩ : ByteArray) = A at *
    generalize (⟨(Lib.itoa b).toArray⟩ : ByteArray) = B at *
    generalize (⟨(Lib.itoa c).toArray⟩ : ByteArray) = C at *
    have zd : (⟨#[46]⟩ : ByteArray).size = 1 := rfl
    have e1 := fun W : World => run_string_add_sum (P := Tryz.prog) (w := W) A ⟨#[46]⟩ (by omega)
    have e2 := fun W : World => run_string_add_sum (P := Tryz.prog) (w := W) (A ++ ⟨#[46]⟩) B (by rw [size_cat]; omega)
    have e3 := fun W : World => run_string_add_sum (P := Tryz.prog) (w := W) ((A ++ ⟨#[46]⟩) ++ B) ⟨#[46]⟩ (by rw [size_cat, size_cat]; omega)
    have e4 := fun W : World => run_string_add_sum (P := Tryz.prog) (w := W) (((A ++ ⟨#[46]⟩) ++ B) ++ ⟨#[46]⟩) C (by rw [size_cat, size_cat, size_cat]; omega)
    clear za zb zc zd
    go_enter Tryz.func27, Tryz.ntmps27
    go_wp2_with (go_at_call 29; refine (HM.out _).mono ?_; rintro e w0 ⟨rfl, hb0⟩; obtain ⟨k0, k1, k2, k3, k4⟩ := boxV hb0)
    have HB0 : Hid (Below w.heap.size w w0) := k4
    have HK0 : Hid (w.heap.size < w0.heap.size ∧ w0.cell? ⟨w.heap.size, 0, none⟩ = some (.int .i64 a) ∧ w0.cell? ⟨w.heap.size, 1, none⟩ = some (.int .i64 b) ∧ w0.cell? ⟨w.heap.size, 2, none⟩ = some (.int .i64 c)) := ⟨k3, k0, k1, k2⟩
    have t1 : True := trivial
    have t2 : True := trivial
    have t3 : True := trivial
    clear k4 hb0
    go_region_held3 (fun w' => w'.cell? ⟨w.heap.size, 0, none⟩ = some (.int .i64 a) ∧ w'.cell? ⟨w.heap.size, 1, none⟩ = some (.int .i64 b) ∧ w'.cell? ⟨w.heap.size, 2, none⟩ = some (.int .i64 c)) (go_keep)
      (first
        | (go_at_call 48; clear t1; refine (HA.out.next (N := w.heap.size) (x := .int .i64 a) (y := .int .i64 b) (z := .int .i64 c) _ ?_ ?_ ?_ ?_ ?_).mono ?_; (first | exact HB0.out | exact HB0.out.drew); exact HK0.out.1; exact HK0.out.2.1; exact HK0.out.2.2.1; exact HK0.out.2.2.2; rintro e w1 ⟨rfl, q0, q1, q2, l1, b1⟩; have HB1 : Hid (Below w.heap.size w w1) := b1; have HK1 : Hid (w.heap.size < w1.heap.size ∧ w1.cell? ⟨w.heap.size, 0, none⟩ = some (.int .i64 a) ∧ w1.cell? ⟨w.heap.size, 1, none⟩ = some (.int .i64 b) ∧ w1.cell? ⟨w.heap.size, 2, none⟩ = some (.int .i64 c)) := ⟨l1, q0, q1, q2⟩; clear b1)
        | (go_at_call 48; clear t2; refine (HB.out.next (N := w.heap.size) (x := .int .i64 a) (y := .int .i64 b) (z := .int .i64 c) _ ?_ ?_ ?_ ?_ ?_).mono ?_; (first | exact HB1.out | exact HB1.out.drew); exact HK1.out.1; exact HK1.out.2.1; exact HK1.out.2.2.1; exact HK1.out.2.2.2; rintro e w2 ⟨rfl, r0, r1, r2, l2, b2⟩; have HB2 : Hid (Below w.heap.size w w2) := b2; have HK2 : Hid (w.heap.size < w2.heap.size ∧ w2.cell? ⟨w.heap.size, 0, none⟩ = some (.int .i64 a) ∧ w2.cell? ⟨w.heap.size, 1, none⟩ = some (.int .i64 b) ∧ w2.cell? ⟨w.heap.size, 2, none⟩ = some (.int .i64 c)) := ⟨l2, r0, r1, r2⟩; clear b2)
        | (go_at_call 48; clear t3; refine (HC.out.next (N := w.heap.size) (x := .int .i64 a) (y := .int .i64 b) (z := .int .i64 c) _ ?_ ?_ ?_ ?_ ?_).mono ?_; (first | exact HB2.out | exact HB2.out.drew); exact HK2.out.1; exact HK2.out.2.1; exact HK2.out.2.2.1; exact HK2.out.2.2.2; rintro e w3 ⟨rfl, u0, u1, u2, l3, b3⟩; have HB3 : Hid (Below w.heap.size w w3) := b3; clear b3))
    all_goals go_wp2
    all_goals
      go_returns
      refine ⟨ret_str (by rw [HR.out]), ?_⟩
      exact HB3.out

theorem rPrint_any (a b c : Int) (w : World) :
    Calls Tryz.prog 27 #[.agg #[.int .i64 a, .int .i64 b, .int .i64 c]] w fun e w' => e = .returned (.string (textV a b c)) ∧ Below w.heap.size w w' := by
  refine rPrint_all a b c w (fun m => ?_) (fun m => ?_) (fun m => ?_) <;> (obtain ⟨a0, a1, b0, b1, c0, c1⟩ := may_all m)
  · exact fun w1 _ => Number_any a a0 a1 w1
  · exact fun w1 _ => Number_any b b0 b1 w1
  · exact fun w1 _ => Number_any c c0 c1 w1
end Go.Proofs.YthoacfmfpbngkaaGreatDoor
namespace Go.Proofs.YthoacfmfpbngkaaGreatDoor
open Go.RowKit
set_option maxRecDepth 100000

/-- A call whose contract asks that nothing old has turned. -/
theorem lift_on {P : Program} {f : Nat} {args : Array Value} {R : Ending} {w : World} (h : ∀ w1, Below w.heap.size w w1 → Calls P f args w1 fun e w' => e = R ∧ Below w1.heap.size w1 w') {bs : List Bx} (w1 : World) (ok : OKs w bs w1) :
    Calls P f args w1 fun e w' => e = R ∧ OKs w bs w' := by
  refine (h w1 ok.1).mono ?_
  rintro e w' ⟨rfl, hb⟩
  exact ⟨rfl, ok.below hb⟩

end Go.Proofs.YthoacfmfpbngkaaGreatDoor
namespace Go.Proofs.YthoacfmfpbngkaaGreatDoor
open Go.RowKit
set_option maxRecDepth 100000

end Go.Proofs.YthoacfmfpbngkaaGreatDoor
namespace Go.Proofs.YthoacfmfpbngkaaGreatDoor
open Go.RowKit
set_option maxRecDepth 100000

theorem cmp_le {a b c x y z r s t : Int} (h1 : mayV a b c = true) (h2 : mayV x y z = true) (h3 : mayV r s t = true) (hk : 0 ≤ cmpV x y z a b c) (hj : cmpV x y z r s t ≤ 0) : cmpV a b c r s t ≤ 0 := by
  have e1 := cmp_rank h2 h1
  have e2 := cmp_rank h3 h2
  have e3 := cmp_rank h3 h1
  have n1 := cmp_neg a b c r s t
  have n2 := cmp_neg x y z r s t
  have r1 := cmp_rank_eq h1 h3
  rcases cmp_range a b c r s t with e | e | e
  · omega
  · omega
  · have : rankV r s t < rankV a b c := e3.1 (by omega)
    omega

theorem print_on {W : World} (h : Lib.TabIs Tryz.prog W "internal/strconv.uint64pow10" .u64 Lib.pow10Tab) (a b c : Int) (w1 : World) (hb : Below W.heap.size W w1) :
    Calls Tryz.prog 42 #[.agg #[.int .i64 a, .int .i64 b, .int .i64 c]] w1 fun e w' => e = .returned (.string (textV a b c)) ∧ Below w1.heap.size w1 w' := by
  refine Print_any a b c w1 (fun m => ?_) (fun m => ?_) (fun m => ?_) <;> (obtain ⟨a0, a1, b0, b1, c0, c1⟩ := may_all m)
  · exact spells_tab h w1 hb a a0 a1
  · exact spells_tab h w1 hb b b0 b1
  · exact spells_tab h w1 hb c c0 c1

end Go.Proofs.YthoacfmfpbngkaaGreatDoor
namespace Go.Proofs.YthoacfmfpbngkaaGreatDoor
open Go.RowKit
set_option maxRecDepth 100000

/-- What the library's variables hold. -/
structure Env (W : World) : Prop where
  max : ∃ m, W.cell? ⟨2, 0, none⟩ = some (.int .i64 m)
  tab : Lib.TabIs Tryz.prog W "internal/strconv.uint64pow10" .u64 Lib.pow10Tab
  syn : ∃ tp p, W.cell? ⟨3, 0, none⟩ = some (.iface tp p)
  rng : ∃ tp p, W.cell? ⟨4, 0, none⟩ = some (.iface tp p)

theorem cell_in {W : World} {a : Addr} {v : Value} (h : W.cell? a = some v) : a.block < W.heap.size := by
  rcases Nat.lt_or_ge a.block W.heap.size with h' | h'
  · exact h'
  · simp [World.cell?, Array.getElem?_eq_none h'] at h

theorem Env.below {W w : World} (h : Env W) (hb : Below W.heap.size W w) : Env w := by
  obtain ⟨m, hm⟩ := h.max
  obtain ⟨tp, p, hs⟩ := h.syn
  obtain ⟨tq, q, hq⟩ := h.rng
  exact { max := ⟨m, (hb.cell (p := ⟨2, 0, none⟩) (cell_in hm)).trans hm⟩, tab := Lib.tabBelow_of_tabIs h.tab w hb, syn := ⟨tp, p, (hb.cell (p := ⟨3, 0, none⟩) (cell_in hs)).trans hs⟩, rng := ⟨tq, q, (hb.cell (p := ⟨4, 0, none⟩) (cell_in hq)).trans hq⟩ }

/-- What a part is read as. -/
def numV (l : List UInt8) : Int := match Lib.atoiAll l with
  | .ok v => v
  | _ => -1

theorem numV_i64 (l : List UInt8) : -9223372036854775808 ≤ numV l ∧ numV l ≤ 9223372036854775807 := by
  unfold numV
  cases h : Lib.atoiAll l with
  | ok v => exact Lib.atoiAll_bounds h
  | _ => simp

theorem below_bytes {w w' : World} {t : TypeId} (h : w' = w ∨ ∃ b, w' = Lib.bytesWorld w t b) : Below w.heap.size w w' := by
  rcases h with rfl | ⟨b, rfl⟩
  · exact Below.refl _ _
  · exact Lib.bytesWorld_below _ _ _

set_option maxHeartbeats 800000 in
theorem number_any (s : ByteArray) (hs : s.size ≤ 281474976710656) (w : World) (he : Env w) :
    Calls Tryz.prog 59 #[.string s] w fun e w' => e = .returned (.int .i64 (numV s.data.toList)) ∧ Below w.heap.size w w' := by
  obtain ⟨tp, p, hsy⟩ := he.syn
  obtain ⟨tq, q, hrg⟩ := he.rng
  cases h : Lib.atoiAll s.data.toList with
  | ok v =>
    have HV : Hid (numV s.data.toList = v) := by unfold Hid numV; rw [h]
    have hc := Tryz.strconv_Atoi_ok s (by omega) v h w
    clear h hsy hrg he
    go_enter Tryz.func59, Tryz.ntmps59
    go_wp2_with (go_at_call 79; refine hc.mono ?_; rintro e w1 ⟨rfl, hb⟩; have HB : Hid (Below w.heap.size w w1) := below_bytes hb; clear hb)
    go_returns
    exact ⟨ret_int HV.out.symm, HB.out⟩
  | «syntax» =>
    have HV : Hid (numV s.data.toList = -1) := by unfold Hid numV; rw [h]
    have hc := Tryz.strconv_Atoi_syntax s hs h _ w hsy (Or.inr ⟨tp, p, rfl⟩)
    clear h hsy hrg he
    go_enter Tryz.func59, Tryz.ntmps59
    go_wp2_with (go_at_call 79; refine hc.mono ?_; rintro e w1 ⟨N, rfl, _, _, hb⟩; have HB : Hid (Below w.heap.size w w1) := hb; clear hb)
    go_returns
    exact ⟨ret_int HV.out.symm, HB.out⟩
  | range =>
    have HV : Hid (numV s.data.toList = -1) := by unfold Hid numV; rw [h]
    have hc := Tryz.strconv_Atoi_range s hs h _ w hrg (Or.inr ⟨tq, q, rfl⟩)
    clear h hsy hrg he
    go_enter Tryz.func59, Tryz.ntmps59
    go_wp2_with (go_at_call 79; refine hc.mono ?_; rintro e w1 ⟨N, rfl, _, _, hb⟩; have HB : Hid (Below w.heap.size w w1) := hb; clear hb)
    go_returns
    exact ⟨ret_int HV.out.symm, HB.out⟩
end Go.Proofs.YthoacfmfpbngkaaGreatDoor
namespace Go.Proofs.YthoacfmfpbngkaaGreatDoor
open Go.RowKit
set_option maxRecDepth 100000

def OKr (w : World) (N : Nat) (bs : List Bx) (w1 : World) : Prop := OKs w bs w1 ∧ w1.frozen? ⟨N, 0, none⟩ = false ∧ w1.frozen? ⟨N, 1, none⟩ = false ∧ w1.frozen? ⟨N, 2, none⟩ = false ∧ N < w1.heap.size

theorem OKr.below {w : World} {N : Nat} {bs : List Bx} {w1 w' : World} (h : OKr w N bs w1) (hb : Below w1.heap.size w1 w') : OKr w N bs w' :=
  ⟨h.1.below hb, (hb.frozen (p := ⟨N, 0, none⟩) h.2.2.2.2).trans h.2.1, (hb.frozen (p := ⟨N, 1, none⟩) h.2.2.2.2).trans h.2.2.1, (hb.frozen (p := ⟨N, 2, none⟩) h.2.2.2.2).trans h.2.2.2.1, Nat.lt_of_lt_of_le h.2.2.2.2 hb.size⟩
theorem OKr.drew {w : World} {N : Nat} {bs : List Bx} {w1 : World} (h : OKr w N bs w1) : OKr w N bs w1.drew := ⟨h.1.drew, h.2⟩
theorem OKr.box {w : World} {N : Nat} {bs : List Bx} {w1 : World} (h : OKr w N bs w1) {M : Nat} (hM : w1.heap.size = M) (x y z : Value) : OKr w N (⟨M, x, y, z⟩ :: bs) (w1.alloc (.cells #[x, y, z] 23)) := by
  have := h.below (boxB w1 (.cells #[x, y, z] 23))
  exact ⟨h.1.box hM x y z, this.2⟩
theorem OKr.start {w : World} {bs : List Bx} {w1 : World} (h : OKs w bs w1) {M : Nat} (hM : w1.heap.size = M) (x y z : Value) : OKr w M (⟨M, x, y, z⟩ :: bs) (w1.alloc (.cells #[x, y, z] 23)) := by
  refine ⟨h.box hM x y z, ?_⟩
  subst hM
  refine ⟨?_, ?_, ?_, ?_⟩
  · simp
  · simp
  · simp
  · show w1.heap.size < (w1.alloc _).heap.size
    simp

theorem liftr {P : Program} {f : Nat} {args : Array Value} {R : Ending} {w : World} (h : ∀ w1, Below w.heap.size w w1 → Calls P f args w1 fun e w' => e = R ∧ Below w1.heap.size w1 w') {N : Nat} {bs : List Bx} (w1 : World) (ok : OKr w N bs w1) :
    Calls P f args w1 fun e w' => e = R ∧ OKr w N bs w' := by
  refine (h w1 ok.1.1).mono ?_
  rintro e w' ⟨rfl, hb⟩
  exact ⟨rfl, ok.below hb⟩
end Go.Proofs.YthoacfmfpbngkaaGreatDoor
