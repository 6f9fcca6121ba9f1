/- strings.IndexAny over the ten digits, at any short text. -/
import Derived.Test.YtkmgfemhfibikaaGreatDoorIx1
import Derived.Lib.OthersKept
import Derived.Deep.LoopGhost
namespace Go.Proofs.YtkmgfemhfibikaaGreatDoor
open Go.RowKit
set_option maxRecDepth 100000

theorem iter_below (w : World) (s : ByteArray) (p : Nat) : Below w.heap.size w (w.iter s p) := boxB _ _

def D10 : ByteArray := ⟨#[48, 49, 50, 51, 52, 53, 54, 55, 56, 57]⟩
theorem d10_low (i : Nat) (h : i < D10.size) : (D10[i]'h).toNat < 128 := by
  have : ∀ i, (h : i < D10.size) → (D10[i]'h).toNat < 128 := by decide
  exact this i h

set_option maxHeartbeats 1600000 in
theorem IndexRune_err (w : World) (s : ByteArray) (hs : ∀ i (h : i < s.size), (s[i]'h).toNat < 128) :
    Calls Tryz.prog 82 #[.string s, .int .i32 65533] w fun e w' => e = .returned (.int .i64 (-1)) ∧ Below w.heap.size w w' := by
  have HS := hide3 hs
  clear hs
  go_enter Tryz.func82, Tryz.ntmps82
  go_wp2_with fail
  go_loopg [5, 6] s.size (fun g _ _ wx => ∃ i : Nat, i + g = s.size ∧ wx = w.iter s i)
  case atStart => exact ⟨0, by omega, rfl⟩
  case round =>
    obtain ⟨i, hig, rfl⟩ := hrel
    cases gk with
    | zero =>
      obtain rfl : i = s.size := by omega
      have hnx := run_next_end (P := Tryz.prog) w s s.size
      go_wp2
      go_ret
      exact ⟨rfl, iter_below w s _⟩
    | succ g =>
      have hi : i < s.size := by omega
      have hx128 := HS.out i hi
      have hnx := fun ty => run_next_ascii (P := Tryz.prog) w s i ty hi hx128
      have hne : (((s[i]'hi).toNat : Int) == 65533) = false := by simp; omega
      generalize (s[i]'hi).toNat = x at *
      go_wp2
      go_roundg g
      case measure => omega
      case rel => exact ⟨i + 1, by omega, rfl⟩

set_option maxHeartbeats 1600000 in
theorem IndexRune_bad (r : Int) (s : ByteArray) (w : World) (h0 : 0 ≤ r) (h1 : ¬ r < 128) (hr : (r == 65533) = false) (hv : Lib.validRune r = false) :
    Calls Tryz.prog 82 #[.string s, .int .i32 r] w fun e w' => e = .returned (.int .i64 (-1)) ∧ Below w.heap.size w w' := by
  have HV : Hid (∀ w1, Calls Tryz.prog 100 #[.int .i32 r] w1 fun e w' => e = .returned (.bool false) ∧ w' = w1) := fun w1 => by have := Tryz.utf8_ValidRune r w1; rw [hv] at this; exact this
  clear hv
  go_enter Tryz.func82, Tryz.ntmps82
  go_wp2_with (go_at_call 100; refine (HV.out _).mono ?_; rintro e w1 ⟨rfl, hw⟩; subst hw)
  go_ret
  exact ⟨rfl, Below.refl _ _⟩

theorem valid_same (r : Int) : Utf8.valid r = Lib.validRune r := by
  unfold Utf8.valid Lib.validRune
  rw [Bool.eq_iff_iff]
  simp
  omega

theorem last_high (n : Nat) : 128 ≤ (UInt8.ofNat (0x80 + n % 64)).toNat := by
  rw [UInt8.toNat_ofNat']
  omega

theorem IndexRune_hi (n : Nat) (hn : 128 ≤ n) (w : World) :
    Calls Tryz.prog 82 #[.string ⟨#[48, 49, 50, 51, 52, 53, 54, 55, 56, 57]⟩, .int .i32 (n : Int)] w fun e w' => e = .returned (.int .i64 (-1)) ∧ Below w.heap.size w w' := by
  by_cases hr : n = 65533
  · subst hr
    exact IndexRune_err w _ d10_low
  · have hr2 : ((n : Int) == 65533) = false := by simp; omega
    have h1 : ¬ (n : Int) < 128 := by omega
    cases hv : Lib.validRune (n : Int)
    · exact IndexRune_bad n _ w (by omega) h1 hr2 hv
    · have hv2 : Utf8.valid (n : Int) = true := by rw [valid_same]; exact hv
      have hlt : n ≤ 0x10FFFF := by unfold Lib.validRune at hv; simp at hv; omega
      by_cases c1 : n < 0x800
      · exact IndexRune_2 n (UInt8.ofNat (0xC0 + n / 64)) (UInt8.ofNat (0x80 + n % 64)) w (by omega) h1 hr2 hv (by unfold Utf8.encode; rw [hv2]; simp only [if_true, Int.toNat_natCast]; rw [if_neg (by omega), if_pos c1]) (last_high n)
      · by_cases c2 : n < 0x10000
        · exact IndexRune_3 n (UInt8.ofNat (0xE0 + n / 4096)) (UInt8.ofNat (0x80 + n / 64 % 64)) (UInt8.ofNat (0x80 + n % 64)) w (by omega) h1 hr2 hv (by unfold Utf8.encode; rw [hv2]; simp only [if_true, Int.toNat_natCast]; rw [if_neg (by omega), if_neg c1, if_pos c2]) (last_high n)
        · exact IndexRune_4 n (UInt8.ofNat (0xF0 + n / 262144)) (UInt8.ofNat (0x80 + n / 4096 % 64)) (UInt8.ofNat (0x80 + n / 64 % 64)) (UInt8.ofNat (0x80 + n % 64)) w (by omega) h1 hr2 hv (by unfold Utf8.encode; rw [hv2]; simp only [if_true, Int.toNat_natCast]; rw [if_neg (by omega), if_neg c1, if_neg c2]) (last_high n)

/-- IndexRune over the digits, at any rune that a text has: below 0 it is not there. -/
theorem IndexRune_all (n : Nat) (w : World) :
    Calls Tryz.prog 82 #[.string ⟨#[48, 49, 50, 51, 52, 53, 54, 55, 56, 57]⟩, .int .i32 (n : Int)] w fun e w' => ∃ q : Int, e = .returned (.int .i64 q) ∧ -1 ≤ q ∧ Below w.heap.size w w' := by
  by_cases h : n < 128
  · refine (Tryz.strings_IndexRune_ascii _ (n : Int) w (by omega) (by omega)).mono ?_
    rintro e w' ⟨rfl, rfl⟩
    exact ⟨_, rfl, Lib.indexByte_ge _ _, Below.refl _ _⟩
  · refine (IndexRune_hi n (by omega) w).mono ?_
    rintro e w' ⟨rfl, hb⟩
    exact ⟨-1, rfl, by omega, hb⟩

theorem decode_one (s : ByteArray) (pos : Nat) (h : pos < s.size) : 1 ≤ (Utf8.decode s pos).2 := by
  by_cases ha : (s[pos]'h).toNat < 128
  · rw [decode_ascii s pos h ha]; exact Nat.le_refl _
  · exact (decode_high s pos h (by omega)).2

set_option maxHeartbeats 3200000 in
theorem IndexAny_gen (s : ByteArray) (h8 : s.size ≤ 8) (w : World) :
    Calls Tryz.prog 66 #[.string s, .string ⟨#[48, 49, 50, 51, 52, 53, 54, 55, 56, 57]⟩] w fun e w' => ∃ q : Int, e = .returned (.int .i64 q) ∧ (-1 ≤ q ∧ q < s.size ∨ q = -1) ∧ Below w.heap.size w w' := by
  have HR : Hid (∀ n w1, Calls Tryz.prog 82 #[.string ⟨#[48, 49, 50, 51, 52, 53, 54, 55, 56, 57]⟩, .int .i32 ((n : Nat) : Int)] w1 fun e w' => ∃ q : Int, e = .returned (.int .i64 q) ∧ -1 ≤ q ∧ Below w1.heap.size w1 w') := IndexRune_all
  have HU : Hid (∀ w1, Calls Tryz.prog 83 #[.int .i64 (s.size : Int)] w1 fun e w' => e = .returned (.bool false) ∧ w' = w1) := fun w1 => by have := Tryz.strings_shouldUseASCIISet (s.size : Int) w1; rw [decide_eq_false (by omega)] at this; exact this
  go_enter Tryz.func66, Tryz.ntmps66
  go_wp2_with (go_at_call 83; refine (HU.out _).mono ?_; rintro e w1 ⟨rfl, hw⟩; subst hw)
  go_loopg [9, 10] s.size (fun g _ _ wx => ∃ i : Nat, s.size ≤ i + g ∧ wx.heap[w1.heap.size]? = some (.stringIter s i) ∧ Below w1.heap.size w1 wx)
  case atStart => exact ⟨0, by omega, by rw [World.iter_heap], iter_below _ _ _⟩
  case round =>
    obtain ⟨i, hig, hit, hb⟩ := hrel
    have HB := hide3 hb
    have HIT := hide3 hit
    clear hb
    by_cases hi : i < s.size
    · obtain ⟨g, rfl⟩ : ∃ g, gk = g + 1 := ⟨gk - 1, by omega⟩
      have hnx := fun ty => Lib.run_next_any_at (P := Tryz.prog) wr w1.heap.size s i ty hit hi
      have hd := decode_one s i hi
      have HIT2 := hide3 (Lib.iterAt_heap wr w1.heap.size s i (i + (Utf8.decode s i).2) hit)
      have HB2 := hide3 (Lib.below_iterAt HB.out (k := w1.heap.size) (Nat.le_refl _) s (i + (Utf8.decode s i).2))
      clear hit
      generalize (Utf8.decode s i).2 = d at *
      generalize (Utf8.decode s i).1 = n at *
      have HRn := hide3 (HR.out n)
      go_wp2_with (go_at_call 82; refine (HRn.out _).mono ?_; rintro e w2 ⟨q, rfl, hq, ok⟩; have HO := hide3 ok; clear ok)
      · go_ret
        exact ⟨i, rfl, Or.inl ⟨by omega, by omega⟩, below_then HB2.out HO.out⟩
      · have HSZ : Hid (w1.heap.size < (wr.iterAt w1.heap.size s (i + d)).heap.size) := (Array.getElem?_eq_some_iff.1 HIT2.out).1
        go_roundg g
        case measure => omega
        case rel => exact ⟨i + d, by omega, (HO.out.block _ HSZ.out).trans HIT2.out, below_then HB2.out HO.out⟩
    · have hnx := fun ty => Lib.run_next_end_at (P := Tryz.prog) wr w1.heap.size s i ty hit hi
      clear hit
      go_wp2
      go_ret
      exact ⟨-1, rfl, Or.inr rfl, HB.out⟩
end Go.Proofs.YtkmgfemhfibikaaGreatDoor
