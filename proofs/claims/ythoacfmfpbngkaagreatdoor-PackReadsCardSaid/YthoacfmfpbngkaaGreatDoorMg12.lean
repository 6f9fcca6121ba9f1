/- Ix2, Tx6, Texts1, Rp1, Rp2, laid in one text. -/
import Derived.Lib.OthersKept
import Derived.Deep.LoopGhost
import Derived.Test.YthoacfmfpbngkaaGreatDoorMg11
namespace Go.Proofs.YthoacfmfpbngkaaGreatDoor
open Go.RowKit
set_option maxRecDepth 100000

theorem iter_below (w : World) (s : ByteArray) (p : Nat) : Below w.heap.size w (w.iter s p) := boxB _ _

def D10 : ByteArray := ⟨#[48, 49, 50, 51, 52, 53, 54, 55, 56, 57]⟩
theorem d10_low (i : Nat) (h : i < D10.size) : (D10[i]'h).toNat < 128 := by
  have : ∀ i, (h : i < D10.size) → (D10[i]'h).toNat < 128 := by decide
  exact this i h

set_option maxHeartbeats 1600000 in
theorem IndexRune_err (w : World) (s : ByteArray) (hs : ∀ i (h : i < s.size), (s[i]'h).toNat < 128) :
    Calls Tryz.prog 141 #[.string s, .int .i32 65533] w fun e w' => e = .returned (.int .i64 (-1)) ∧ Below w.heap.size w w' := by
  have HS := hide3 hs
  clear hs
  go_enter Tryz.func141, Tryz.ntmps141
  go_wp2_with fail
  go_loopg [5, 6] s.size (fun g _ _ wx => ∃ i : Nat, i + g = s.size ∧ wx = w.iter s i)
  case atStart => exact ⟨0, by omega, rfl⟩
  case round =>
    obtain ⟨i, hig, rfl⟩ := hrel
    cases gk with
    | zero =>
      obtain rfl : i = s.size := by omega
      have hnx := run_next_end (P := Tryz.prog) w s s.size
      go_wp2
      go_ret
      exact ⟨rfl, iter_below w s _⟩
    | succ g =>
      have hi : i < s.size := by omega
      have hx128 := HS.out i hi
      have hnx := fun ty => run_next_ascii (P := Tryz.prog) w s i ty hi hx128
      have hne : (((s[i]'hi).toNat : Int) == 65533) = false := by simp; omega
      generalize (s[i]'hi).toNat = x at *
      go_wp2
      go_roundg g
      case measure => omega
      case rel => exact ⟨i + 1, by omega, rfl⟩

set_option maxHeartbeats 1600000 in
theorem IndexRune_bad (r : Int) (s : ByteArray) (w : World) (h0 : 0 ≤ r) (h1 : ¬ r < 128) (hr : (r == 65533) = false) (hv : Lib.validRune r = false) :
    Calls Tryz.prog 141 #[.string s, .int .i32 r] w fun e w' => e = .returned (.int .i64 (-1)) ∧ Below w.heap.size w w' := by
  have HV : Hid (∀ w1, Calls Tryz.prog 158 #[.int .i32 r] w1 fun e w' => e = .returned (.bool false) ∧ w' = w1) := fun w1 => by have := Tryz.utf8_ValidRune r w1; rw [hv] at this; exact this
  clear hv
  go_enter Tryz.func141, Tryz.ntmps141
  go_wp2_with (go_at_call 158; refine (HV.out _).mono ?_; rintro e w1 ⟨rfl, hw⟩; subst hw)
  go_ret
  exact ⟨rfl, Below.refl _ _⟩

theorem valid_same (r : Int) : Utf8.valid r = Lib.validRune r := by
  unfold Utf8.valid Lib.validRune
  rw [Bool.eq_iff_iff]
  simp
  omega

theorem last_high (n : Nat) : 128 ≤ (UInt8.ofNat (0x80 + n % 64)).toNat := by
  rw [UInt8.toNat_ofNat']
  omega

theorem IndexRune_hi (n : Nat) (hn : 128 ≤ n) (w : World) :
    Calls Tryz.prog 141 #[.string ⟨#[48, 49, 50, 51, 52, 53, 54, 55, 56, 57]⟩, .int .i32 (n : Int)] w fun e w' => e = .returned (.int .i64 (-1)) ∧ Below w.heap.size w w' := by
  by_cases hr : n = 65533
  · subst hr
    exact IndexRune_err w _ d10_low
  · have hr2 : ((n : Int) == 65533) = false := by simp; omega
    have h1 : ¬ (n : Int) < 128 := by omega
    cases hv : Lib.validRune (n : Int)
    · exact IndexRune_bad n _ w (by omega) h1 hr2 hv
    · have hv2 : Utf8.valid (n : Int) = true := by rw [valid_same]; exact hv
      have hlt : n ≤ 0x10FFFF := by unfold Lib.validRune at hv; simp at hv; omega
      by_cases c1 : n < 0x800
      · exact IndexRune_2 n (UInt8.ofNat (0xC0 + n / 64)) (UInt8.ofNat (0x80 + n % 64)) w (by omega) h1 hr2 hv (by unfold Utf8.encode; rw [hv2]; simp only [if_true, Int.toNat_natCast]; rw [if_neg (by omega), if_pos c1]) (last_high n)
      · by_cases c2 : n < 0x10000
        · exact IndexRune_3 n (UInt8.ofNat (0xE0 + n / 4096)) (UInt8.ofNat (0x80 + n / 64 % 64)) (UInt8.ofNat (0x80 + n % 64)) w (by omega) h1 hr2 hv (by unfold Utf8.encode; rw [hv2]; simp only [if_true, Int.toNat_natCast]; rw [if_neg (by omega), if_neg c1, if_pos c2]) (last_high n)
        · exact IndexRune_4 n (UInt8.ofNat (0xF0 + n / 262144)) (UInt8.ofNat (0x80 + n / 4096 % 64)) (UInt8.ofNat (0x80 + n / 64 % 64)) (UInt8.ofNat (0x80 + n % 64)) w (by omega) h1 hr2 hv (by unfold Utf8.encode; rw [hv2]; simp only [if_true, Int.toNat_natCast]; rw [if_neg (by omega), if_neg c1, if_neg c2]) (last_high n)

/-- IndexRune over the digits, at any rune that a text has: below 0 it is not there. -/
theorem IndexRune_all (n : Nat) (w : World) :
    Calls Tryz.prog 141 #[.string ⟨#[48, 49, 50, 51, 52, 53, 54, 55, 56, 57]⟩, .int .i32 (n : Int)] w fun e w' => ∃ q : Int, e = .returned (.int .i64 q) ∧ -1 ≤ q ∧ Below w.heap.size w w' := by
  by_cases h : n < 128
  · refine (Tryz.strings_IndexRune_ascii _ (n : Int) w (by omega) (by omega)).mono ?_
    rintro e w' ⟨rfl, rfl⟩
    exact ⟨_, rfl, Lib.indexByte_ge _ _, Below.refl _ _⟩
  · refine (IndexRune_hi n (by omega) w).mono ?_
    rintro e w' ⟨rfl, hb⟩
    exact ⟨-1, rfl, by omega, hb⟩

theorem decode_one (s : ByteArray) (pos : Nat) (h : pos < s.size) : 1 ≤ (Utf8.decode s pos).2 := by
  by_cases ha : (s[pos]'h).toNat < 128
  · rw [decode_ascii s pos h ha]; exact Nat.le_refl _
  · exact (decode_high s pos h (by omega)).2

set_option maxHeartbeats 3200000 in
theorem IndexAny_gen (s : ByteArray) (h8 : s.size ≤ 8) (w : World) :
    Calls Tryz.prog 124 #[.string s, .string ⟨#[48, 49, 50, 51, 52, 53, 54, 55, 56, 57]⟩] w fun e w' => ∃ q : Int, e = .returned (.int .i64 q) ∧ (-1 ≤ q ∧ q < s.size ∨ q = -1) ∧ Below w.heap.size w w' := by
  have HR : Hid (∀ n w1, Calls Tryz.prog 141 #[.string ⟨#[48, 49, 50, 51, 52, 53, 54, 55, 56, 57]⟩, .int .i32 ((n : Nat) : Int)] w1 fun e w' => ∃ q : Int, e = .returned (.int .i64 q) ∧ -1 ≤ q ∧ Below w1.heap.size w1 w') := IndexRune_all
  have HU : Hid (∀ w1, Calls Tryz.prog 142 #[.int .i64 (s.size : Int)] w1 fun e w' => e = .returned (.bool false) ∧ w' = w1) := fun w1 => by have := Tryz.strings_shouldUseASCIISet (s.size : Int) w1; rw [decide_eq_false (by omega)] at this; exact this
  go_enter Tryz.func124, Tryz.ntmps124
  go_wp2_with (go_at_call 142; refine (HU.out _).mono ?_; rintro e w1 ⟨rfl, hw⟩; subst hw)
  go_loopg [9, 10] s.size (fun g _ _ wx => ∃ i : Nat, s.size ≤ i + g ∧ wx.heap[w1.heap.size]? = some (.stringIter s i) ∧ Below w1.heap.size w1 wx)
  case atStart => exact ⟨0, by omega, by rw [World.iter_heap], iter_below _ _ _⟩
  case round =>
    obtain ⟨i, hig, hit, hb⟩ := hrel
    have HB := hide3 hb
    have HIT := hide3 hit
    clear hb
    by_cases hi : i < s.size
    · obtain ⟨g, rfl⟩ : ∃ g, gk = g + 1 := ⟨gk - 1, by omega⟩
      have hnx := fun ty => Lib.run_next_any_at (P := Tryz.prog) wr w1.heap.size s i ty hit hi
      have hd := decode_one s i hi
      have HIT2 := hide3 (Lib.iterAt_heap wr w1.heap.size s i (i + (Utf8.decode s i).2) hit)
      have HB2 := hide3 (Lib.below_iterAt HB.out (k := w1.heap.size) (Nat.le_refl _) s (i + (Utf8.decode s i).2))
      clear hit
      generalize (Utf8.decode s i).2 = d at *
      generalize (Utf8.decode s i).1 = n at *
      have HRn := hide3 (HR.out n)
      go_wp2_with (go_at_call 141; refine (HRn.out _).mono ?_; rintro e w2 ⟨q, rfl, hq, ok⟩; have HO := hide3 ok; clear ok)
      · go_ret
        exact ⟨i, rfl, Or.inl ⟨by omega, by omega⟩, below_then HB2.out HO.out⟩
      · have HSZ : Hid (w1.heap.size < (wr.iterAt w1.heap.size s (i + d)).heap.size) := (Array.getElem?_eq_some_iff.1 HIT2.out).1
        go_roundg g
        case measure => omega
        case rel => exact ⟨i + d, by omega, (HO.out.block _ HSZ.out).trans HIT2.out, below_then HB2.out HO.out⟩
    · have hnx := fun ty => Lib.run_next_end_at (P := Tryz.prog) wr w1.heap.size s i ty hit hi
      clear hit
      go_wp2
      go_ret
      exact ⟨-1, rfl, Or.inr rfl, HB.out⟩
end Go.Proofs.YthoacfmfpbngkaaGreatDoor
namespace Go.Proofs.YthoacfmfpbngkaaGreatDoor
open Go.RowKit
set_option maxRecDepth 100000

/-- A text with a byte that is no ASCII. -/
def HighB (s : ByteArray) : Prop := ∃ x ∈ s.data.toList, 128 ≤ x.toNat
theorem plain_or (s : ByteArray) : Plain8 s ∨ (s.size ≤ 8 ∧ HighB s) := by
  by_cases h8 : 8 < s.size
  · exact Or.inl (Or.inl h8)
  · by_cases h : ∀ x ∈ s.data.toList, x.toNat < 128
    · exact Or.inl (Or.inr fun j b hj => h b (List.mem_of_getElem? hj))
    · right
      refine ⟨by omega, ?_⟩
      unfold HighB
      simp only [Classical.not_forall] at h
      obtain ⟨x, hx, h2⟩ := h
      exact ⟨x, hx, by omega⟩

theorem sign_ascii {s : List UInt8} {n : Int} (h : ∃ x ∈ s, 128 ≤ x.toNat) : signR s n = none := by
  obtain ⟨x, hx, h1⟩ := h
  have no : ∀ l : List UInt8, (∀ y ∈ l, y.toNat < 128) → ¬ s = l := fun l hl e => by subst e; have := hl x hx; omega
  unfold signR
  rw [if_neg (by rintro (e | e); exact no [] (by simp) e; exact no [61] (by decide) e), if_neg (no [60] (by decide)), if_neg (no [60, 61] (by decide)), if_neg (no [62] (by decide)), if_neg (no [62, 61] (by decide)), if_neg (no [94] (by decide)), if_neg (no [126] (by decide))]

theorem high_part {s : ByteArray} (h : HighB s) {k : Nat} (ho : okP (s.extract k s.size) = true) : ∃ x ∈ (s.extract 0 k).data.toList, 128 ≤ x.toNat := by
  obtain ⟨x, hx, h1⟩ := h
  obtain ⟨m, e⟩ := okP_text ho
  have hb := text_bytes m
  rw [← e, Lib.extract_to_end] at hb
  rw [Lib.extract_from_zero]
  rw [← List.take_append_drop k s.data.toList, List.mem_append] at hx
  rcases hx with hx | hx
  · exact ⟨x, hx, h1⟩
  · have := hb x hx; omega

theorem word_high {s : ByteArray} (h : HighB s) : wordR s = none := by
  unfold wordR
  rw [if_neg]
  · split
    · rename_i ho
      exact sign_ascii (high_part h ho)
    · rfl
  · intro e
    obtain ⟨x, hx, h1⟩ := h
    rw [e] at hx
    simp at hx
    subst hx
    exact absurd h1 (by decide)

set_option maxHeartbeats 1600000 in
theorem word_bad (s : ByteArray) (h8 : s.size ≤ 8) (hh : HighB s) (w : World) (he : Env w) (hf : FL w) :
    Calls Tryz.prog 102 #[.string s] w fun e w' => ∃ v, e = .returned (.tuple #[v, .bool false]) ∧ SpansR w' v [] ∧ Below w.heap.size w w' := by
  have h42 : (s.toList == [42]) = false := beq_no fun e => by
    obtain ⟨x, hx, h1⟩ := hh
    rw [e] at hx
    simp at hx
    subst hx
    exact absurd h1 (by decide)
  have HI := hide3 (IndexAny_gen s h8 w)
  have HP : Hid (∀ k w1, Below w.heap.size w w1 → Calls Tryz.prog 37 #[.string (s.extract k s.size)] w1 fun e w' => e = .returned (.tuple #[.agg #[.int .i64 (resA (s.extract k s.size)), .int .i64 (resB (s.extract k s.size)), .int .i64 (resC (s.extract k s.size))], .bool (okP (s.extract k s.size))]) ∧ Below w1.heap.size w1 w') := fun k w1 hb => Parse_any (s.extract k s.size) (by simp; omega) w1 (he.below hb)
  have HHH := hide3 hh
  have HFL := hide3 hf
  clear he hf hh
  go_enter Tryz.func102, Tryz.ntmps102
  go_wp2_with (go_at_call 124; refine HI.out.mono ?_; rintro e w1 ⟨q, rfl, hq, ok1⟩; have HO1 := hide3 ok1; clear ok1; obtain ⟨k, hqk, hk⟩ : ∃ k : Nat, max q 0 = (k : Int) ∧ k ≤ s.size := ⟨(max q 0).toNat, by omega, by omega⟩; clear hq)
  by_cases ho : okP (s.extract k s.size) = true
  · obtain ⟨hn, e1, e2, e3⟩ := plP_ok ho
    have HPk : Hid (∀ w1, Below w.heap.size w w1 → Calls Tryz.prog 37 #[.string (s.extract k s.size)] w1 fun e w' => e = .returned (.tuple #[.agg #[.int .i64 (atA (plP (s.extract k s.size))), .int .i64 (atB (plP (s.extract k s.size))), .int .i64 (atC (plP (s.extract k s.size)))], .bool true]) ∧ Below w1.heap.size w1 w') := fun w1 hb => by
      have := HP.out k w1 hb; rw [ho, ← e1, ← e2, ← e3] at this; exact this
    have HS : Hid (∀ w1, FL w1 → Calls Tryz.prog 125 #[.string (s.extract 0 k), .agg #[.int .i64 (atA (plP (s.extract k s.size))), .int .i64 (atB (plP (s.extract k s.size))), .int .i64 (atC (plP (s.extract k s.size)))]] w1 fun e w' => ∃ v, e = .returned (.tuple #[v, .bool false]) ∧ SpansR w' v [] ∧ Below w1.heap.size w1 w') := fun w1 h => by
      have := signed_any (s.extract 0 k) hn w1 h
      rw [sign_ascii (high_part HHH.out ho)] at this
      exact this
    clear ho e1 e2 e3 hn HP
    generalize plP (s.extract k s.size) = n at *
    go_wp2_with (go_at_call 37; refine (HPk.out _ HO1.out).mono ?_; rintro e w2 ⟨rfl, ok2⟩; have HO2 := hide3 (below_then HO1.out ok2); clear ok2)
    have HB : Hid (Below w.heap.size w (w2.alloc (.cells #[.int .i64 (atA n), .int .i64 (atB n), .int .i64 (atC n)] 23)) ∧ BxAt (w2.alloc (.cells #[.int .i64 (atA n), .int .i64 (atB n), .int .i64 (atC n)] 23)) ⟨w2.heap.size, .int .i64 (atA n), .int .i64 (atB n), .int .i64 (atC n)⟩) := ⟨below_then HO2.out (boxB _ _), ((OKs.nil w2).box rfl _ _ _).one⟩
    obtain ⟨_, b0, b1, b2, b3⟩ := HB.out
    have HK : Hid (KeepP fun w1 => Below w.heap.size w w1 ∧ BxAt w1 ⟨w2.heap.size, .int .i64 (atA n), .int .i64 (atB n), .int .i64 (atC n)⟩) := (keepBelow w).and (keepV3 _)
    go_region_held3 (fun w' => w'.cell? ⟨w2.heap.size, 0, none⟩ = some (.int .i64 (atA n)) ∧ w'.cell? ⟨w2.heap.size, 1, none⟩ = some (.int .i64 (atB n)) ∧ w'.cell? ⟨w2.heap.size, 2, none⟩ = some (.int .i64 (atC n))) (go_keep)
      (first
        | (go_at_call 125; refine (HS.out _ (HFL.out.below (HK.out.drew HB.out).1)).mono ?_; rintro e w3 ⟨v3, rfl, ok3⟩; have HO3 := hide3 ok3; have HO4 := hide3 (HK.out _ _ (HK.out.drew HB.out) ok3.2); clear ok3 b0 b1 b2 b3; obtain ⟨_, b0, b1, b2, b3⟩ := HO4.out))
    all_goals go_wp2
    all_goals go_ret2
    all_goals exact ⟨v3, rfl, HO3.out.1, HO4.out.1⟩
  · have HPk : Hid (∀ w1, Below w.heap.size w w1 → Calls Tryz.prog 37 #[.string (s.extract k s.size)] w1 fun e w' => e = .returned (.tuple #[.agg #[.int .i64 (resA (s.extract k s.size)), .int .i64 (resB (s.extract k s.size)), .int .i64 (resC (s.extract k s.size))], .bool false]) ∧ Below w1.heap.size w1 w') := fun w1 hb => by
      have := HP.out k w1 hb; rw [show okP (s.extract k s.size) = false by simpa using ho] at this; exact this
    clear ho HP
    go_wp2_with (go_at_call 37; refine (HPk.out _ HO1.out).mono ?_; rintro e w2 ⟨rfl, ok2⟩; have HO2 := hide3 (below_then HO1.out ok2); clear ok2)
    go_ret2
    exact ⟨_, rfl, ⟨none, 0, rfl, Nat.le_refl _, Or.inl rfl⟩, below_then HO2.out (boxB _ _)⟩

theorem word_all (s : ByteArray) (hs : s.size ≤ 4294967200) (w : World) (he : Env w) (hf : FL w) :
    Calls Tryz.prog 102 #[.string s] w fun e w' => ∃ v, e = .returned (.tuple #[v, .bool (wordR s).isSome]) ∧ SpansR w' v ((wordR s).getD []) ∧ Below w.heap.size w w' := by
  rcases plain_or s with hp | ⟨h8, hh⟩
  · exact word_any s hs hp w he hf
  · rw [word_high hh]
    exact word_bad s h8 hh w he hf

theorem sWords_all (s : ByteArray) (hs : s.size ≤ 4096) (w : World) (he : Env w) (hf : FL w) :
    Calls Tryz.prog 82 #[.string s] w fun e w' => ∃ v, e = .returned (.tuple #[v, .bool (wordsB (piecesB s ⟨#[32]⟩))]) ∧ SpansR w' v (wordsL (piecesB s ⟨#[32]⟩)) ∧ Below w.heap.size w w' := by
  have hl := pieces_len s ⟨#[32]⟩ (by decide)
  have hc := Lib.countB_le ⟨#[32]⟩ (by decide) s.size s (Nat.le_refl _)
  refine words_walk s _ (by omega) w hf (fun w1 hb => Split_on he s ⟨#[32]⟩ (by omega) (by decide) w1 hb) ?_
  intro p hm h0 w1 hb
  have := pieces_size _ _ _ p hm
  exact word_all p (by omega) w1 (he.below hb) (hf.below hb)

/-- What Parse makes of a text of any length. -/
def parR (s : ByteArray) : Option Rg := if s.size ≤ 4096 then altR s else none
theorem sParse_all (s : ByteArray) (w : World) (he : Env w) (hf : FL w) :
    Calls Tryz.prog 62 #[.string s] w fun e w' => ∃ v, e = .returned (.tuple #[v, .int .i64 (parE (parR s))]) ∧ OwnS w' w.heap.size v ((parL (parR s)).map spR) ∧ Below w.heap.size w w' := by
  unfold parR
  by_cases hs : s.size ≤ 4096
  · rw [if_pos hs]
    have hl := pieces_len s ⟨#[124, 124]⟩ (by decide)
    have hc := Lib.countB_le ⟨#[124, 124]⟩ (by decide) s.size s (Nat.le_refl _)
    refine sParse_walk s _ (by omega) (by omega) w hf (Split_on he s ⟨#[124, 124]⟩ (by omega) (by decide) w (Below.refl _ _)) ?_
    intro a hm w1 hb
    have := pieces_size _ _ _ a hm
    exact sWords_all a (by omega) w1 (he.below hb) (hf.below hb)
  · rw [if_neg hs]
    refine (sParse_long s (by omega) w).mono ?_
    rintro e w' ⟨rfl, hb⟩
    exact ⟨_, rfl, OwnS.nil _ _, hb⟩
end Go.Proofs.YthoacfmfpbngkaaGreatDoor
namespace Go.Proofs.YthoacfmfpbngkaaGreatDoor
open Go.RowKit
set_option maxRecDepth 100000

theorem bytes_append (l r : List UInt8) : (⟨(l ++ r).toArray⟩ : ByteArray) = ⟨l.toArray⟩ ++ ⟨r.toArray⟩ := by
  have : ((⟨l.toArray⟩ : ByteArray) ++ ⟨r.toArray⟩).data.toList = l ++ r := by rw [cat_list]
  rw [of_list this]

/-- A text is one piece, or a piece, the separator and the rest. -/
theorem pieces_cases (s sep : ByteArray) (h1 : 1 ≤ sep.size) : piecesB s sep = [s] ∨ ∃ l r : List UInt8, s.data.toList = l ++ (sep.data.toList ++ r) ∧ piecesB s sep = ⟨l.toArray⟩ :: piecesB ⟨r.toArray⟩ sep ∧ r.length < s.size := by
  rcases Lib.indexB_cases s sep with hi | ⟨i, hi, hr⟩
  · left; unfold piecesB; exact Lib.splitB_miss _ _ _ _ hi
  · right
    have ho : Lib.occAt s.data.toList sep.data.toList i = true := by
      rcases Lib.index_spec s.data.toList sep.data.toList with ⟨h2, _⟩ | ⟨j, h2, _, h3, _⟩
      · rw [indexB_eq, h2] at hi; omega
      · rw [indexB_eq, h2] at hi
        have : j = i := by omega
        subst this; exact h3
    unfold Lib.occAt at ho
    obtain ⟨r, hr2⟩ := List.isPrefixOf_iff_prefix.1 ho
    have e0 : s.data.toList = s.data.toList.take i ++ (sep.data.toList ++ r) := by rw [hr2, List.take_append_drop]
    have hle : i ≤ s.data.toList.length := by rw [list_size]; omega
    have e1 : s.extract 0 (i + 0) = ⟨(s.data.toList.take i).toArray⟩ := of_list (by rw [Lib.extract_from_zero, Nat.add_zero])
    have e2 : s.extract (i + sep.size) s.size = ⟨r.toArray⟩ := by
      refine of_list ?_
      rw [Lib.extract_to_end, ← List.drop_drop, ← hr2, ← list_size sep, List.drop_left]
    refine ⟨s.data.toList.take i, r, e0, ?_, ?_⟩
    · unfold piecesB
      rw [Lib.countB_hit s sep i h1 hi, Nat.add_comm 1, Lib.splitB_hit _ _ _ _ _ hi, e1, e2]
    · have := congrArg List.length e0
      rw [List.length_append, List.length_append, list_size, list_size, List.length_take] at this
      omega

theorem pieces_append {sep : ByteArray} {c : UInt8} {tl : List UInt8} (hsep : sep.data.toList = c :: tl) (t : ByteArray) : ∀ (n : Nat) (s : ByteArray), s.size ≤ n → (∀ p ∈ piecesB s sep, ∀ x ∈ p.data.toList, x ≠ c) → piecesB ((s ++ sep) ++ t) sep = piecesB s sep ++ piecesB t sep
  | n, s, hn, h => by
    have h1 : 1 ≤ sep.size := by rw [← list_size, hsep]; simp
    rcases pieces_cases s sep h1 with e | ⟨l, r, e0, e1, hlt⟩
    · rw [e] at h ⊢
      have := pieces_more (s := (s ++ sep) ++ t) (l := s.data.toList) (r := t.data.toList) hsep (by rw [cat_list, cat_list, List.append_assoc]) (h s List.mem_cons_self)
      rw [this, list_of_bytes, list_of_bytes]; rfl
    · rw [e1] at h ⊢
      have hl : ∀ x ∈ l, x ≠ c := fun x hx => h ⟨l.toArray⟩ List.mem_cons_self x (by simpa using hx)
      have := pieces_more (s := (s ++ sep) ++ t) (l := l) (r := r ++ (sep.data.toList ++ t.data.toList)) hsep (by rw [cat_list, cat_list, e0]; simp [List.append_assoc]) hl
      rw [this, List.cons_append]
      have er : (⟨(r ++ (sep.data.toList ++ t.data.toList)).toArray⟩ : ByteArray) = ((⟨r.toArray⟩ : ByteArray) ++ sep) ++ t := by
        refine (of_list ?_).symm
        rw [cat_list, cat_list]; simp [List.append_assoc]
      rw [er]
      cases n with
      | zero => omega
      | succ n =>
        have hs : (⟨r.toArray⟩ : ByteArray).size ≤ n := by rw [bytes_size]; omega
        rw [pieces_append hsep t n ⟨r.toArray⟩ hs fun p hp => h p (List.mem_cons_of_mem _ hp)]

/-- Between single signs there are none. -/
theorem pieces_clean (c : UInt8) : ∀ (n : Nat) (s : ByteArray), s.size ≤ n → ∀ p ∈ piecesB s ⟨#[c]⟩, ∀ x ∈ p.data.toList, x ≠ c
  | n, s, hn => by
    have h1 : 1 ≤ (⟨#[c]⟩ : ByteArray).size := Nat.le_refl _
    rcases Lib.indexB_cases s ⟨#[c]⟩ with hi | ⟨i, hi, hr⟩
    · have e : piecesB s ⟨#[c]⟩ = [s] := by unfold piecesB; exact Lib.splitB_miss _ _ _ _ hi
      rw [e]
      intro p hp x hx hc
      rw [List.mem_singleton] at hp
      subst hp
      subst hc
      obtain ⟨j, hj⟩ := List.getElem?_of_mem hx
      rcases Lib.index_spec p.data.toList [x] with ⟨_, h3⟩ | ⟨j', h2, _⟩
      · have hlt : j < p.data.toList.length := (List.getElem?_eq_some_iff.1 hj).1
        have := h3 j (by omega)
        unfold Lib.occAt at this
        rw [List.drop_eq_getElem_cons hlt] at this
        rw [List.getElem?_eq_getElem hlt, Option.some.injEq] at hj
        rw [hj] at this
        simp at this
      · rw [indexB_eq] at hi
        change Lib.index p.data.toList [x] = -1 at hi
        omega
    · have hno : ∀ x ∈ s.data.toList.take i, x ≠ c := by
        intro x hx hc
        subst hc
        obtain ⟨j, hj⟩ := List.getElem?_of_mem hx
        have hji : j < i ∧ s.data.toList[j]? = some x := by
          rw [List.getElem?_take] at hj
          split at hj
          · exact ⟨by assumption, hj⟩
          · cases hj
        rcases Lib.index_spec s.data.toList [x] with ⟨h2, _⟩ | ⟨j', h2, _, _, h3⟩
        · rw [indexB_eq] at hi
          change Lib.index s.data.toList [x] = _ at hi
          omega
        · rw [indexB_eq] at hi
          change Lib.index s.data.toList [x] = _ at hi
          have : j' = i := by omega
          subst this
          have h4 := h3 j hji.1
          unfold Lib.occAt at h4
          have hlt : j < s.data.toList.length := (List.getElem?_eq_some_iff.1 hji.2).1
          rw [List.drop_eq_getElem_cons hlt] at h4
          have h5 := hji.2
          rw [List.getElem?_eq_getElem hlt, Option.some.injEq] at h5
          rw [h5] at h4
          simp at h4
      have e1 : s.extract 0 (i + 0) = ⟨(s.data.toList.take i).toArray⟩ := of_list (by rw [Lib.extract_from_zero, Nat.add_zero])
      have e : piecesB s ⟨#[c]⟩ = ⟨(s.data.toList.take i).toArray⟩ :: piecesB (s.extract (i + 1) s.size) ⟨#[c]⟩ := by
        unfold piecesB
        rw [Lib.countB_hit s ⟨#[c]⟩ i h1 hi, Nat.add_comm 1, Lib.splitB_hit _ _ _ _ _ hi, e1]
        rfl
      rw [e]
      intro p hp
      rcases List.mem_cons.1 hp with rfl | hp
      · intro x hx; exact hno x (by simpa using hx)
      · cases n with
        | zero => have : (⟨#[c]⟩ : ByteArray).size = 1 := rfl; omega
        | succ n =>
          have hz : (s.extract (i + 1) s.size).size ≤ n := by
            rw [ByteArray.size_extract]
            have : (⟨#[c]⟩ : ByteArray).size = 1 := rfl
            omega
          exact pieces_clean c n _ hz p hp

theorem join_assoc {A B C : Rg} (hA : RangeR A) (hB : RangeR B) (hC : RangeR C) : joinR (joinR A B) C = joinR A (joinR B C) := range_one ((hA.join hB).join hC) (hA.join (hB.join hC)) fun n => by
  rw [join_in (hA.join hB) hC, join_in hA hB, join_in hA (hB.join hC), join_in hB hC, or_assoc]

theorem altF_from : ∀ {l : List ByteArray} {R : Rg}, RangeR R → altF R l = (altF [] l).map (joinR R)
  | [], R, hR => by
    have : joinR R [] = R := range_one (hR.join (B := []) trivial) hR fun n => by rw [join_in hR (B := []) trivial]; exact ⟨fun h => h.elim id (fun x => x.elim), Or.inl⟩
    simp [altF, this]
  | a :: l, R, hR => by
    unfold altF
    split
    · have hX := wordsL_rg (piecesB a ⟨#[32]⟩)
      rw [altF_from (hR.join hX), join_none hX, altF_from hX, Option.map_map]
      cases hq : altF [] l with
      | none => rfl
      | some Y =>
        have hY := altF_rg (R := []) trivial hq
        simp only [Option.map_some, Function.comp_apply, Option.some.injEq]
        exact join_assoc hR hX hY
    · rfl
theorem altF_cons {a : ByteArray} {l : List ByteArray} {R : Rg} : altF R (a :: l) = if wordsB (piecesB a ⟨#[32]⟩) = true then altF (joinR R (wordsL (piecesB a ⟨#[32]⟩))) l else none := rfl
theorem altF_append : ∀ {l m : List ByteArray} {R : Rg}, altF R (l ++ m) = (altF R l).bind fun Q => altF Q m
  | [], m, R => rfl
  | a :: l, m, R => by
    rw [List.cons_append, altF_cons, altF_cons]
    split
    · exact altF_append
    · rfl

/-- A word has no bar. -/
theorem word_bar {s : ByteArray} {X : Rg} (h : wordR s = some X) : ∀ x ∈ s.data.toList, x.toNat ≠ 124 := by
  unfold wordR at h
  split at h
  · rename_i e
    intro x hx
    rw [e] at hx
    simp at hx
    subst hx
    decide
  · split at h
    · rename_i ho
      obtain ⟨m, e⟩ := okP_text ho
      have hb := text_bytes m
      rw [← e, Lib.extract_to_end] at hb
      intro x hx
      rw [← List.take_append_drop (idxK s) s.data.toList, List.mem_append] at hx
      rcases hx with hx | hx
      · rw [Lib.extract_from_zero] at h
        generalize List.take (idxK s) s.data.toList = sg at *
        intro e124
        have no : ∀ l : List UInt8, (∀ y ∈ l, y.toNat ≠ 124) → ¬ sg = l := fun l hl e => by subst e; exact hl x hx e124
        unfold signR at h
        rw [if_neg (by rintro (e | e); exact no [] (by simp) e; exact no [61] (by decide) e), if_neg (no [60] (by decide)), if_neg (no [60, 61] (by decide)), if_neg (no [62] (by decide)), if_neg (no [62, 61] (by decide)), if_neg (no [94] (by decide)), if_neg (no [126] (by decide))] at h
        cases h
      · have := hb x hx; omega
    · cases h
theorem words_bar : ∀ {ps : List ByteArray} {R : Rg} {f : Bool}, (wordsF R f ps).isSome = true → ∀ p ∈ ps, ∀ x ∈ p.data.toList, x.toNat ≠ 124
  | [], _, _, _, p, hp => by cases hp
  | q :: ps, R, f, h, p, hp => by
    unfold wordsF at h
    split at h
    · rename_i h0
      rcases List.mem_cons.1 hp with rfl | hp
      · intro x hx
        rw [← list_size] at h0
        rw [List.eq_nil_of_length_eq_zero h0] at hx
        cases hx
      · exact words_bar h p hp
    · split at h
      · cases h
      · rename_i X hX
        rcases List.mem_cons.1 hp with rfl | hp
        · exact word_bar hX
        · exact words_bar h p hp

/-- The bytes of a text are those of its pieces and of the separators. -/
theorem pieces_bytes (sep : ByteArray) (h1 : 1 ≤ sep.size) : ∀ (n : Nat) (s : ByteArray), s.size ≤ n → ∀ x ∈ s.data.toList, x ∈ sep.data.toList ∨ ∃ p ∈ piecesB s sep, x ∈ p.data.toList
  | n, s, hn, x, hx => by
    rcases pieces_cases s sep h1 with e | ⟨l, r, e0, e1, hlt⟩
    · rw [e]; exact Or.inr ⟨s, List.mem_cons_self, hx⟩
    · rw [e0] at hx
      rw [e1]
      simp only [List.mem_append] at hx
      rcases hx with hx | hx | hx
      · exact Or.inr ⟨_, List.mem_cons_self, by simpa using hx⟩
      · exact Or.inl hx
      · cases n with
        | zero => omega
        | succ n =>
          rcases pieces_bytes sep h1 n ⟨r.toArray⟩ (by rw [bytes_size]; omega) x (by simpa using hx) with h | ⟨p, hp, hpx⟩
          · exact Or.inl h
          · exact Or.inr ⟨p, List.mem_cons_of_mem _ hp, hpx⟩

theorem alt_bar : ∀ {l : List ByteArray} {R : Rg}, (altF R l).isSome = true → ∀ p ∈ l, ∀ x ∈ p.data.toList, x ≠ 124
  | [], _, _, p, hp => by cases hp
  | a :: l, R, h, p, hp => by
    unfold altF at h
    split at h
    · rename_i hb
      rcases List.mem_cons.1 hp with rfl | hp
      · intro x hx e
        have hs : (wordsF allR false (piecesB p ⟨#[32]⟩)).isSome = true := by
          unfold wordsB at hb
          split at hb
          · rename_i e2; rw [e2]; rfl
          · cases hb
        rcases pieces_bytes ⟨#[32]⟩ (by decide) p.size p (Nat.le_refl _) x hx with h2 | ⟨q, hq, hxq⟩
        · simp at h2; rw [h2] at e; exact absurd e (by decide)
        · exact words_bar hs q hq x hxq (by rw [e]; rfl)
      · exact alt_bar h p hp
    · cases h

theorem alt_both {s t : ByteArray} {A B : Rg} (ha : altR s = some A) (hb : altR t = some B) : altR ((s ++ ⟨#[124, 124]⟩) ++ t) = some (joinR A B) := by
  unfold altR at *
  rw [pieces_append (c := 124) (tl := [124]) rfl t s.size s (Nat.le_refl _) (alt_bar (by rw [ha]; rfl)), altF_append, ha, Option.bind_some, altF_from (altF_rg (R := []) trivial ha), hb]
  rfl

theorem meet_allr {R : Rg} (hR : RangeR R) : meetR R allR = R := range_one (hR.meet allR_ok) hR fun n => by
  rw [meet_in hR allR_ok, allR_in]
  exact ⟨fun h => h.1, fun h => ⟨h, hR.in h⟩⟩
theorem meet_asc {A B C : Rg} (hA : RangeR A) (hB : RangeR B) (hC : RangeR C) : meetR (meetR A B) C = meetR A (meetR B C) := range_one ((hA.meet hB).meet hC) (hA.meet (hB.meet hC)) fun n => by
  rw [meet_in hA (hB.meet hC), meet_in hB hC, meet_in (hA.meet hB) hC, meet_in hA hB]
  exact ⟨fun h => ⟨h.1.1, h.1.2, h.2⟩, fun h => ⟨⟨h.1, h.2.1⟩, h.2.2⟩⟩
theorem wordsF_from : ∀ {ps : List ByteArray} {R : Rg} {f : Bool}, RangeR R → wordsF R f ps = (wordsF allR false ps).map fun q => (meetR R q.1, f || q.2)
  | [], R, f, hR => by simp [wordsF, meet_allr hR]
  | p :: ps, R, f, hR => by
    unfold wordsF
    split
    · exact wordsF_from hR
    · split
      · rfl
      · rename_i X hX
        have hXr := word_rg hX
        rw [wordsF_from (hR.meet hXr), meet_all hXr, wordsF_from hXr, Option.map_map]
        cases hq : wordsF allR false ps with
        | none => rfl
        | some Y =>
          obtain ⟨Y, g⟩ := Y
          have hY := wordsF_rg allR_ok hq
          simp only [Option.map_some, Function.comp_apply, Option.some.injEq, Prod.mk.injEq, Bool.true_or, Bool.or_true, and_true]
          exact meet_asc hR hXr hY
theorem wordsF_cons {p : ByteArray} {ps : List ByteArray} {R : Rg} {f : Bool} : wordsF R f (p :: ps) = if p.size = 0 then wordsF R f ps else match wordR p with
    | none => none
    | some X => wordsF (meetR R X) true ps := rfl
theorem wordsF_append : ∀ {ps qs : List ByteArray} {R : Rg} {f : Bool}, wordsF R f (ps ++ qs) = (wordsF R f ps).bind fun q => wordsF q.1 q.2 qs
  | [], qs, R, f => rfl
  | p :: ps, qs, R, f => by
    rw [List.cons_append, wordsF_cons, wordsF_cons]
    split
    · exact wordsF_append
    · cases wordR p with
      | none => rfl
      | some X => exact wordsF_append

/-- A text without bars. -/
theorem alt_plain {s : ByteArray} (h : ∀ x ∈ s.data.toList, x ≠ 124) {A : Rg} : altR s = some A ↔ wordsF allR false (piecesB s ⟨#[32]⟩) = some (A, true) := by
  have p1 : piecesB s ⟨#[124, 124]⟩ = [s] := pieces_one (c := 124) (tl := [124]) rfl h
  unfold altR
  rw [p1]
  unfold altF
  have hj := join_none (wordsL_rg (piecesB s ⟨#[32]⟩))
  rw [hj]
  unfold wordsB wordsL
  cases hq : wordsF allR false (piecesB s ⟨#[32]⟩) with
  | none => simp
  | some q =>
    obtain ⟨X, f⟩ := q
    cases f <;> simp [altF]

theorem alt_blank {s t : ByteArray} {A B : Rg} (hs : ∀ x ∈ s.data.toList, x ≠ 124) (ht : ∀ x ∈ t.data.toList, x ≠ 124) (ha : altR s = some A) (hb : altR t = some B) : altR ((s ++ ⟨#[32]⟩) ++ t) = some (meetR A B) := by
  have hst : ∀ x ∈ ((s ++ ⟨#[32]⟩) ++ t).data.toList, x ≠ 124 := by
    intro x hx
    rw [cat_list, cat_list] at hx
    simp only [List.mem_append] at hx
    rcases hx with (hx | hx) | hx
    · exact hs x hx
    · simp at hx; rw [hx]; decide
    · exact ht x hx
  have ea := (alt_plain hs).1 ha
  have eb := (alt_plain ht).1 hb
  rw [alt_plain hst, pieces_append (c := 32) (tl := []) rfl t s.size s (Nat.le_refl _) (pieces_clean 32 s.size s (Nat.le_refl _)), wordsF_append, ea, Option.bind_some, wordsF_from (altR_rg ha), eb]
  rfl
end Go.Proofs.YthoacfmfpbngkaaGreatDoor
namespace Go.Proofs.YthoacfmfpbngkaaGreatDoor
open Go.RowKit
set_option maxRecDepth 100000

abbrev Bt := List UInt8
def bt (l : Bt) : ByteArray := ⟨l.toArray⟩
theorem bt_list (l : Bt) : (bt l).data.toList = l := by simp [bt]
theorem bt_size (l : Bt) : (bt l).size = l.length := bytes_size l

/-- Pieces between a text, from what is under way on. -/
def segG (sep : Bt) : Nat → Bt → Bt → List Bt
  | 0, cur, l => [cur ++ l]
  | n + 1, cur, l => if sep.isPrefixOf l = true then cur :: segG sep n [] (l.drop sep.length) else match l with
    | [] => [cur]
    | b :: r => segG sep n (cur ++ [b]) r
def seg (sep cur l : Bt) : List Bt := segG sep l.length cur l

theorem seg_fuel {sep : Bt} (h0 : sep ≠ []) : ∀ (n m : Nat) (cur l : Bt), l.length ≤ n → l.length ≤ m → segG sep n cur l = segG sep m cur l := by
  have hp : sep.isPrefixOf [] = false := by cases sep <;> simp_all
  intro n
  induction n with
  | zero =>
    intro m cur l h1 h2
    obtain rfl : l = [] := List.eq_nil_of_length_eq_zero (by omega)
    cases m with
    | zero => rfl
    | succ m => simp [segG, hp]
  | succ n ih =>
    intro m cur l h1 h2
    cases m with
    | zero =>
      obtain rfl : l = [] := List.eq_nil_of_length_eq_zero (by omega)
      simp [segG, hp]
    | succ m =>
      have hs : 0 < sep.length := List.length_pos_iff.2 h0
      unfold segG
      by_cases h : sep.isPrefixOf l = true
      · rw [if_pos h, if_pos h]
        have hl : 0 < l.length := by
          have := (List.isPrefixOf_iff_prefix.1 h).length_le
          omega
        rw [ih m [] _ (by simp; omega) (by simp; omega)]
      · rw [if_neg h, if_neg h]
        cases l with
        | nil => rfl
        | cons b r => exact ih m _ r (by simp at h1; omega) (by simp at h2; omega)

theorem seg_hit {sep cur l : Bt} (h0 : sep ≠ []) (h : sep.isPrefixOf l = true) : seg sep cur l = cur :: seg sep [] (l.drop sep.length) := by
  have hs : 0 < sep.length := List.length_pos_iff.2 h0
  have hl := (List.isPrefixOf_iff_prefix.1 h).length_le
  unfold seg
  rw [seg_fuel h0 l.length (l.length - 1 + 1) cur l (Nat.le_refl _) (by omega)]
  conv => lhs; unfold segG; rw [if_pos h]
  rw [seg_fuel h0 (l.length - 1) (l.drop sep.length).length [] _ (by simp; omega) (Nat.le_refl _)]
theorem seg_go {sep cur : Bt} {b : UInt8} {r : Bt} (h : sep.isPrefixOf (b :: r) = false) : seg sep cur (b :: r) = seg sep (cur ++ [b]) r := by
  unfold seg
  rw [List.length_cons]
  conv => lhs; unfold segG; rw [if_neg (by rw [h]; simp)]
theorem seg_nil {sep cur : Bt} : seg sep cur [] = [cur] := by simp [seg, segG]
theorem pre_no {c b : UInt8} {sep r : Bt} (h : b ≠ c) : (c :: sep).isPrefixOf (b :: r) = false := by
  show ((c == b) && sep.isPrefixOf r) = false
  rw [beq_eq_false_iff_ne.2 (fun e => h e.symm)]
  rfl
theorem seg_one {c : UInt8} {sep cur : Bt} : ∀ {l : Bt}, (∀ x ∈ l, x ≠ c) → seg (c :: sep) cur l = [cur ++ l]
  | [], _ => by rw [seg_nil]; simp
  | b :: r, h => by
    rw [seg_go (pre_no (h b List.mem_cons_self)), seg_one fun x hx => h x (List.mem_cons_of_mem _ hx)]
    simp
theorem seg_more {c : UInt8} {sep r : Bt} : ∀ {l cur : Bt}, (∀ x ∈ l, x ≠ c) → seg (c :: sep) cur (l ++ ((c :: sep) ++ r)) = (cur ++ l) :: seg (c :: sep) [] r
  | [], cur, _ => by
    rw [List.nil_append, seg_hit (by simp) (List.isPrefixOf_iff_prefix.2 (List.prefix_append _ _)), List.drop_left]
    simp
  | b :: l, cur, h => by
    rw [List.cons_append, seg_go (pre_no (h b List.mem_cons_self)), seg_more fun x hx => h x (List.mem_cons_of_mem _ hx)]
    simp

/-- The library's pieces are these. -/
theorem pieces_seg {sep : Bt} (h0 : sep ≠ []) : ∀ (n : Nat) (cur l : Bt), l.length ≤ n → (∀ j, j < cur.length → Lib.occAt (cur ++ l) sep j = false) → piecesB (bt (cur ++ l)) (bt sep) = (seg sep cur l).map bt := by
  have hs : 0 < sep.length := List.length_pos_iff.2 h0
  have h1 : 1 ≤ (bt sep).size := by rw [bt_size]; exact hs
  have miss : ∀ t : Bt, (∀ j, j ≤ t.length → Lib.occAt t sep j = false) → piecesB (bt t) (bt sep) = [bt t] := by
    intro t ht
    unfold piecesB
    refine Lib.splitB_miss _ _ _ _ ?_
    rw [indexB_eq, bt_list, bt_list]
    rcases Lib.index_spec t sep with ⟨h2, _⟩ | ⟨i, h2, h3, h4, _⟩
    · exact h2
    · rw [ht i h3] at h4; cases h4
  intro n
  induction n with
  | zero =>
    intro cur l hl hno
    obtain rfl : l = [] := List.eq_nil_of_length_eq_zero (by omega)
    rw [seg_nil, List.append_nil] at *
    refine miss cur fun j hj => ?_
    rcases Nat.lt_or_ge j cur.length with h | h
    · exact hno j h
    · unfold Lib.occAt
      rw [List.drop_of_length_le h]
      cases sep <;> simp_all
  | succ n ih =>
    intro cur l hl hno
    by_cases h : sep.isPrefixOf l = true
    · obtain ⟨r, rfl⟩ := List.isPrefixOf_iff_prefix.1 h
      rw [seg_hit h0 h, List.drop_left, List.map_cons]
      have hr : r.length ≤ n := by simp at hl; omega
      rw [← ih [] r hr (fun j hj => by simp at hj), List.nil_append]
      have hi : Lib.index (cur ++ (sep ++ r)) sep = (cur.length : Int) := by
        have ho : Lib.occAt (cur ++ (sep ++ r)) sep cur.length = true := by
          unfold Lib.occAt
          rw [List.drop_left]
          exact h
        rcases Lib.index_spec (cur ++ (sep ++ r)) sep with ⟨_, h3⟩ | ⟨i, h2, h3, h4, h5⟩
        · rw [h3 cur.length (by simp)] at ho; cases ho
        · rw [h2]
          rcases Nat.lt_trichotomy i cur.length with h6 | h6 | h6
          · rw [hno i h6] at h4; cases h4
          · rw [h6]
          · have := h5 cur.length h6
            rw [ho] at this; cases this
      unfold piecesB
      have hib : Lib.indexB (bt (cur ++ (sep ++ r))) (bt sep) = (cur.length : Nat) := by rw [indexB_eq, bt_list, bt_list, hi]
      rw [Lib.countB_hit _ _ _ h1 hib, Nat.add_comm 1, Lib.splitB_hit _ _ _ _ _ hib]
      have e1 : (bt (cur ++ (sep ++ r))).extract 0 (cur.length + 0) = bt cur := of_list (by rw [Lib.extract_from_zero, Nat.add_zero, bt_list, List.take_left])
      have e2 : (bt (cur ++ (sep ++ r))).extract (cur.length + (bt sep).size) (bt (cur ++ (sep ++ r))).size = bt r := of_list (by rw [Lib.extract_to_end, bt_list, bt_size, ← List.drop_drop, List.drop_left, List.drop_left])
      rw [e1, e2]
    · cases l with
      | nil => exact ih cur [] (Nat.zero_le _) hno
      | cons b r =>
        have h' : sep.isPrefixOf (b :: r) = false := Bool.eq_false_iff.2 h
        rw [seg_go h', ← ih (cur ++ [b]) r (by simp at hl; omega)]
        · simp
        · intro j hj
          rw [List.append_assoc, List.singleton_append]
          rcases Nat.lt_or_ge j cur.length with h2 | h2
          · exact hno j h2
          · obtain rfl : j = cur.length := by simp at hj; omega
            unfold Lib.occAt
            rw [List.drop_left]
            exact h'

theorem pieces_of (sep : Bt) (h0 : sep ≠ []) (s : ByteArray) : piecesB s (bt sep) = (seg sep [] s.data.toList).map bt := by
  have := pieces_seg h0 s.data.toList.length [] s.data.toList (Nat.le_refl _) (fun j hj => by simp at hj)
  rw [List.nil_append] at this
  rw [← this]
  rfl

/-- The words of a text. -/
def wordsD (l : Bt) : List Bt := (seg [32] [] l).filter fun p => !p.isEmpty
theorem wordsF_skip : ∀ {ps : List Bt} {R : Rg} {f : Bool}, wordsF R f (ps.map bt) = wordsF R f ((ps.filter fun p => !p.isEmpty).map bt)
  | [], _, _ => rfl
  | p :: ps, R, f => by
    cases p with
    | nil =>
      have : (bt []).size = 0 := rfl
      rw [List.map_cons, wordsF, if_pos this, wordsF_skip]
      simp
    | cons b r =>
      have hn : ¬ (bt (b :: r)).size = 0 := by rw [bt_size]; simp
      rw [List.filter_cons_of_pos (by simp), List.map_cons, List.map_cons, wordsF, wordsF, if_neg hn, if_neg hn]
      cases wordR (bt (b :: r)) with
      | none => rfl
      | some X => exact wordsF_skip

/-- What the words from a range on have; none: one is none. -/
def meetsD : Rg → List Bt → Option Rg
  | R, [] => some R
  | R, p :: ps => match wordR (bt p) with
    | none => none
    | some X => meetsD (meetR R X) ps
theorem wordsF_meets : ∀ {ps : List Bt} {R : Rg} {f : Bool}, (∀ p ∈ ps, p ≠ []) → wordsF R f (ps.map bt) = (meetsD R ps).map fun X => (X, f || !ps.isEmpty)
  | [], _, _, _ => by simp [wordsF, meetsD]
  | p :: ps, R, f, h => by
    have hn : ¬ (bt p).size = 0 := by rw [bt_size]; have := h p List.mem_cons_self; cases p <;> simp_all
    rw [List.map_cons, wordsF, if_neg hn, meetsD]
    cases hw : wordR (bt p) with
    | none => rfl
    | some X =>
      show wordsF (meetR R X) true (ps.map bt) = _
      rw [wordsF_meets fun q hq => h q (List.mem_cons_of_mem _ hq)]
      simp

/-- All that alternatives have, one behind the other. -/
def altD : Rg → List Bt → Option Rg
  | acc, [] => some acc
  | acc, a :: l => match meetsD allR (wordsD a) with
    | none => none
    | some X => if wordsD a = [] then none else altD (acc ++ X) l

theorem in_append {A B : Rg} {n : Int} : InR (A ++ B) n ↔ InR A n ∨ InR B n := by
  rw [← has_in, ← has_in, ← has_in]
  unfold hasQ
  rw [List.any_append, Bool.or_eq_true]

theorem words_D (a : Bt) : wordsF allR false (piecesB (bt a) ⟨#[32]⟩) = (meetsD allR (wordsD a)).map fun X => (X, !(wordsD a).isEmpty) := by
  have := pieces_of [32] (by simp) (bt a)
  rw [show (⟨#[32]⟩ : ByteArray) = bt [32] from rfl, this, bt_list, wordsF_skip, wordsF_meets (fun p hp => by have := (List.mem_filter.1 hp).2; intro e; rw [e] at this; simp at this)]
  rfl

theorem meetsD_rg : ∀ {ps : List Bt} {R R' : Rg}, RangeR R → meetsD R ps = some R' → RangeR R'
  | [], _, _, h, e => by simp only [meetsD, Option.some.injEq] at e; rw [← e]; exact h
  | p :: ps, R, _, h, e => by
    unfold meetsD at e
    split at e
    · cases e
    · rename_i X hX
      exact meetsD_rg (h.meet (word_rg hX)) e

/-- The program's way and the document's come to the same. -/
theorem alt_D : ∀ {l : List Bt} {R acc : Rg}, RangeR R → (∀ n, InR R n ↔ InR acc n) → (altF R (l.map bt) = none ∧ altD acc l = none) ∨ ∃ R' C, altF R (l.map bt) = some R' ∧ altD acc l = some C ∧ RangeR R' ∧ ∀ n, InR R' n ↔ InR C n
  | [], R, acc, hR, h => Or.inr ⟨R, acc, rfl, rfl, hR, h⟩
  | a :: l, R, acc, hR, h => by
    rw [List.map_cons, altF_cons, altD]
    have hw := words_D a
    unfold wordsB wordsL
    rw [hw]
    cases hm : meetsD allR (wordsD a) with
    | none => exact Or.inl ⟨rfl, rfl⟩
    | some X =>
      simp only [Option.map_some]
      by_cases he : wordsD a = []
      · rw [he]; exact Or.inl ⟨rfl, rfl⟩
      · have hb : (!(wordsD a).isEmpty) = true := by cases h' : wordsD a <;> simp_all
        rw [if_pos hb, if_neg he]
        have hX := meetsD_rg allR_ok hm
        exact alt_D (hR.join hX) fun n => by rw [join_in hR hX, in_append, h]

theorem okq_append {A B : Rg} (ha : OkQ A) (hb : OkQ B) : OkQ (A ++ B) := fun q hq => (List.mem_append.1 hq).elim (ha q) (hb q)
theorem altD_ok : ∀ {l : List Bt} {acc C : Rg}, OkQ acc → altD acc l = some C → OkQ C
  | [], _, _, h, e => by simp only [altD, Option.some.injEq] at e; rw [← e]; exact h
  | a :: l, acc, C, h, e => by
    unfold altD at e
    split at e
    · cases e
    · rename_i X hX
      split at e
      · cases e
      · exact altD_ok (okq_append h (meetsD_rg allR_ok hX).okq) e

/-- What the document makes of the alternatives. -/
def docD (l : List Bt) : Option Rg := (altD [] l).map fun C => foldK 106 C []
theorem doc_alt (s : ByteArray) : altR s = docD (seg [124, 124] [] s.data.toList) := by
  unfold altR docD
  rw [show (⟨#[124, 124]⟩ : ByteArray) = bt [124, 124] from rfl, pieces_of [124, 124] (by simp) s]
  rcases alt_D (l := seg [124, 124] [] s.data.toList) (R := []) (acc := []) trivial (fun n => Iff.rfl) with ⟨h1, h2⟩ | ⟨R', C, h1, h2, h3, h4⟩
  · rw [h1, h2]; rfl
  · rw [h1, h2]
    show some R' = some (foldK 106 C [])
    have hC := altD_ok (fun q hq => by cases hq) h2
    obtain ⟨g1, g2⟩ := foldK_spec 106 hC (b := []) (fun q hq => by cases hq)
    congr 1
    refine range_one h3 g1 fun n => ?_
    rw [g2, h4, ← has_in]
    have : wantK 106 (hasQ C n) (hasQ [] n) = hasQ C n := by
      unfold wantK
      rw [if_neg (by decide), if_pos rfl]
      show (hasQ C n || false) = _
      simp
    rw [this]
    constructor
    · intro h
      refine ⟨?_, ?_, h⟩ <;>
      · obtain ⟨q, hq, hn⟩ := List.any_eq_true.1 h
        obtain ⟨⟨a, b⟩, c, d⟩ := hC q hq
        simp at hn
        omega
    · exact fun h => h.2.2

/-- One span at most. -/
theorem meet_one {A B : Rg} (hA : RangeR A) (hB : RangeR B) (la : A.length ≤ 1) (lb : B.length ≤ 1) : (meetR A B).length ≤ 1 := by
  match A, la with
  | [], _ => simp [meetR, cutR]
  | [(g, h)], _ =>
    match B, lb with
    | [], _ =>
      have : meetR [(g, h)] [] = [] := range_none (hA.meet hB) fun n => by rw [meet_in hA hB]; exact fun x => x.2.elim
      rw [this]; exact Nat.zero_le _
    | [(p, q)], _ =>
      obtain ⟨a1, a2, a3, _⟩ := hA
      obtain ⟨b1, b2, b3, _⟩ := hB
      have hA' : RangeR [(g, h)] := ⟨a1, a2, a3, trivial⟩
      have hB' : RangeR [(p, q)] := ⟨b1, b2, b3, trivial⟩
      by_cases hm : max g p ≤ min h q
      · have hC : RangeR [(max g p, min h q)] := ⟨by omega, hm, by omega, trivial⟩
        have : meetR [(g, h)] [(p, q)] = [(max g p, min h q)] := range_one (hA'.meet hB') hC fun n => by
          rw [meet_in hA' hB']
          simp only [InR, or_false]
          omega
        rw [this]; exact Nat.le_refl _
      · have : meetR [(g, h)] [(p, q)] = [] := range_none (hA'.meet hB') fun n => by
          rw [meet_in hA' hB']
          simp only [InR, or_false]
          omega
        rw [this]; exact Nat.zero_le _
end Go.Proofs.YthoacfmfpbngkaaGreatDoor
namespace Go.Proofs.YthoacfmfpbngkaaGreatDoor
open Go.RowKit
set_option maxRecDepth 100000

def signsD : List Bt := [[60, 61], [62, 61], [60], [62], [61], [94], [126]]
/-- The sign that a text begins with. -/
def sgD (l : Bt) : Bt := (signsD.find? fun g => g.isPrefixOf l).getD []
def fromR (lo hi : Int) : Rg := if lo > hi then [] else [(lo, hi)]
/-- What the document makes of a sign and a place. -/
def docS (sg : Bt) (n : Int) : Rg := if sg = [60, 61] then fromR 0 n else if sg = [62, 61] then fromR n 999999999 else if sg = [60] then fromR 0 (n - 1) else if sg = [62] then fromR (n + 1) 999999999 else
  if sg = [126] then fromR n (minorR n) else if sg = [94] then (if 0 < atA n then fromR n (majorR n) else if 0 < atB n then fromR n (minorR n) else fromR n n) else fromR n n
def docW (l : Bt) : Option Rg := if l = [42] then some allR else if okP (bt (l.drop (sgD l).length)) = true then some (docS (sgD l) (plP (bt (l.drop (sgD l).length)))) else none

/-- What may stand ahead. -/
def IsSg (g : Bt) : Prop := g = [] ∨ g = [60, 61] ∨ g = [62, 61] ∨ g = [60] ∨ g = [62] ∨ g = [61] ∨ g = [94] ∨ g = [126]
theorem sgD_is (l : Bt) : IsSg (sgD l) := by
  unfold sgD
  cases h : signsD.find? fun g => g.isPrefixOf l with
  | none => exact Or.inl rfl
  | some g =>
    have := List.mem_of_find?_eq_some h
    simp only [signsD, List.mem_cons, List.not_mem_nil, or_false] at this
    exact Or.inr this
theorem sgD_pre (l : Bt) : l = sgD l ++ l.drop (sgD l).length := by
  have : sgD l <+: l := by
    unfold sgD
    cases h : signsD.find? fun g => g.isPrefixOf l with
    | none => exact List.nil_prefix
    | some g =>
      have := List.find?_some (p := fun g : Bt => g.isPrefixOf l) h
      exact List.isPrefixOf_iff_prefix.1 this
  obtain ⟨r, hr⟩ := this
  have hd : l.drop (sgD l).length = r := by
    conv => lhs; arg 2; rw [← hr]
    exact List.drop_left
  rw [hd, hr]
theorem sg_B {g : Bt} (h : IsSg g) : SignB (bt g) := by
  unfold SignB
  rw [bt_list]
  rcases h with rfl | rfl | rfl | rfl | rfl | rfl | rfl | rfl <;> decide

theorem from_cut1 {n : Int} (h : okR n) : cutR allR [(n, 999999999)] = fromR 0 (n - 1) := by
  have h1 : RangeR [(n, 999999999)] := one_ok h okL h.2
  obtain ⟨a, b⟩ := h
  refine range_one (allR_ok.cut h1) ?_ fun k => ?_
  · unfold fromR
    split
    · trivial
    · exact ⟨by omega, by omega, by omega, trivial⟩
  · rw [cut_in allR_ok h1, allR_in]
    unfold fromR
    split
    · simp only [InR, or_false]
      constructor
      · omega
      · exact fun h => h.elim
    · simp only [InR, or_false]
      omega
theorem from_cut2 {n : Int} (h : okR n) : cutR allR [(0, n)] = fromR (n + 1) 999999999 := by
  have h1 : RangeR [(0, n)] := one_ok okF h h.1
  obtain ⟨a, b⟩ := h
  refine range_one (allR_ok.cut h1) ?_ fun k => ?_
  · unfold fromR
    split
    · trivial
    · exact ⟨by omega, by omega, by omega, trivial⟩
  · rw [cut_in allR_ok h1, allR_in]
    unfold fromR
    split
    · simp only [InR, or_false]
      constructor
      · omega
      · exact fun h => h.elim
    · simp only [InR, or_false]
      omega
theorem from_le {a b : Int} (h : a ≤ b) : fromR a b = [(a, b)] := by unfold fromR; rw [if_neg (by omega)]
theorem at_nn {n : Int} (h : okR n) : 0 ≤ atA n ∧ 0 ≤ atB n := by
  obtain ⟨a, b, _⟩ := at_of h
  obtain ⟨c, d⟩ := h
  rw [a, b]
  omega
theorem sign_doc {g : Bt} (hg : IsSg g) {n : Int} (h : okR n) : signR g n = some (docS g n) := by
  have hm := minor_ok h
  have ha := alike_ok h
  have hM := major_ok h
  obtain ⟨z1, z2⟩ := at_nn h
  have e0 := from_le (Int.le_refl n)
  have e1 := from_le h.1
  have e2 := from_le h.2
  have e3 := from_le hm.2
  have e4 := from_le hM.2
  have e5 := from_cut1 h
  have e6 := from_cut2 h
  rcases hg with rfl | rfl | rfl | rfl | rfl | rfl | rfl | rfl
  · simp [signR, docS, e0]
  · simp [signR, docS, e1]
  · simp [signR, docS, e2]
  · simp [signR, docS, e5]
  · simp [signR, docS, e6]
  · simp [signR, docS, e0]
  · have s94 : signR [94] n = some [(n, alikeR n)] := by simp [signR]
    have d94 : docS [94] n = (if 0 < atA n then fromR n (majorR n) else if 0 < atB n then fromR n (minorR n) else fromR n n) := by simp [docS]
    rw [s94, d94]
    unfold alikeR
    by_cases c1 : atA n = 0
    · by_cases c2 : atB n = 0
      · simp [c1, c2, e0]
      · have : 0 < atB n := by omega
        simp [c1, c2, this, e3]
    · have : 0 < atA n := by omega
      simp [c1, this, e4]
  · simp [signR, docS, e3]

theorem sgD_of {g : Bt} (hg : IsSg g) {d : UInt8} {r : Bt} (hd : 48 ≤ d.toNat ∧ d.toNat ≤ 57) : sgD (g ++ d :: r) = g := by
  have ne : ∀ x : UInt8, (x.toNat < 48 ∨ 57 < x.toNat) → (x == d) = false := fun x hx => by
    rw [beq_eq_false_iff_ne]
    rintro rfl
    omega
  have n60 := ne 60 (by decide)
  have n61 := ne 61 (by decide)
  have n62 := ne 62 (by decide)
  have n94 := ne 94 (by decide)
  have n126 := ne 126 (by decide)
  rcases hg with rfl | rfl | rfl | rfl | rfl | rfl | rfl | rfl <;> simp [sgD, signsD, List.find?, List.isPrefixOf, n60, n61, n62, n94, n126]

theorem sign_is {g : Bt} {n : Int} {R : Rg} (h : signR g n = some R) : IsSg g := by
  unfold signR at h
  unfold IsSg
  repeat' split at h
  all_goals first | (cases h; done) | skip
  · rename_i hh
    rcases hh with hh | hh
    · exact Or.inl hh
    · rw [hh]; simp
  all_goals simp_all

theorem word_doc (l : Bt) : wordR (bt l) = docW l := by
  unfold docW
  by_cases h42 : l = [42]
  · rw [if_pos h42]
    subst h42
    unfold wordR
    rw [if_pos (bt_list _)]
  · rw [if_neg h42]
    by_cases ho : okP (bt (l.drop (sgD l).length)) = true
    · rw [if_pos ho]
      obtain ⟨hm, ht⟩ := okP_text ho
      have hs := sgD_pre l
      have hg := sgD_is l
      obtain ⟨hp, _⟩ := plP_ok ho
      rw [← sign_doc hg hp]
      have hb : bt l = bt (sgD l) ++ bt (l.drop (sgD l).length) := by
        rw [← (show bt (sgD l ++ l.drop (sgD l).length) = bt (sgD l) ++ bt (l.drop (sgD l).length) from bytes_append _ _), ← hs]
      rw [hb]
      conv => lhs; rw [ht]
      rw [word_sign (sg_B hg) hm, bt_list]
      rfl
    · rw [if_neg ho]
      cases hw : wordR (bt l) with
      | none => rfl
      | some R =>
        exfalso
        unfold wordR at hw
        rw [if_neg (by rw [bt_list]; exact h42)] at hw
        split at hw
        · rename_i hk
          have hg := sign_is hw
          obtain ⟨hm, ht⟩ := okP_text hk
          obtain ⟨d, r, hd, hdd⟩ := text_first hm
          rw [← ht] at hd
          have e1 : ((bt l).extract 0 (idxK (bt l))).data.toList = l.take (idxK (bt l)) := by rw [Lib.extract_from_zero, bt_list]
          have e2 : ((bt l).extract (idxK (bt l)) (bt l).size).data.toList = l.drop (idxK (bt l)) := by rw [Lib.extract_to_end, bt_list]
          rw [e1] at hg
          rw [e2] at hd
          have hl : l = l.take (idxK (bt l)) ++ d :: r := by rw [← hd, List.take_append_drop]
          have hsg : sgD l = l.take (idxK (bt l)) := by
            conv => lhs; rw [hl]
            exact sgD_of hg hdd
          have hdr : l.drop (sgD l).length = l.drop (idxK (bt l)) := by
            rw [hsg, List.length_take, Nat.min_eq_left (by have := idxK_le (bt l); rw [bt_size] at this; exact this)]
          apply ho
          rw [hdr]
          rw [of_list e2] at hk
          exact hk
        · cases hw

theorem docS_one (g : Bt) (n : Int) : (docS g n).length ≤ 1 := by
  have : ∀ a b, (fromR a b).length ≤ 1 := fun a b => by unfold fromR; split <;> simp
  unfold docS
  repeat' split
  all_goals exact this _ _
theorem word_one {p : Bt} {X : Rg} (h : wordR (bt p) = some X) : X.length ≤ 1 := by
  rw [word_doc] at h
  unfold docW at h
  split at h
  · injection h with h; subst h; exact Nat.le_refl _
  · split at h
    · injection h with h; subst h; exact docS_one _ _
    · cases h
theorem meetsD_one : ∀ {ps : List Bt} {R R' : Rg}, RangeR R → R.length ≤ 1 → meetsD R ps = some R' → R'.length ≤ 1
  | [], _, _, _, h, e => by simp only [meetsD, Option.some.injEq] at e; rw [← e]; exact h
  | p :: ps, R, _, hr, h, e => by
    unfold meetsD at e
    split at e
    · cases e
    · rename_i X hX
      exact meetsD_one (hr.meet (word_rg hX)) (meet_one hr (word_rg hX) h (word_one hX)) e
end Go.Proofs.YthoacfmfpbngkaaGreatDoor
