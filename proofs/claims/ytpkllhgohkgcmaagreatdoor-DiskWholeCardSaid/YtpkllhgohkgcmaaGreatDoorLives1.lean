/- The walk of lives: it answers true, and leaves old memory as it was. -/
import Derived.Test.YtpkllhgohkgcmaaGreatDoorDisk14
namespace Go.Proofs.YtpkllhgohkgcmaaGreatDoor
open Go.RowKit Go.Maps Go.WideMaps Go.WideElems
set_option maxRecDepth 100000

def txA : ByteArray := ⟨#[47, 97]⟩
def txF : ByteArray := ⟨#[47, 97, 47, 102]⟩
def txX : ByteArray := ⟨#[120]⟩
def ab1 : Ab := (mkdirD newAb txA).2
def ab2 : Ab := (writeFD ab1 txF txX).2

theorem lv1 : (mkdirD newAb txA).1 = 0 := by decide +kernel
theorem lv2 : (writeFD ab1 txF txX).1 = 0 := by decide +kernel
theorem lv3 : readE ab2.D txF = 0 := by decide +kernel
theorem lv4 : readT ab2.D txF = txX := by decide +kernel
theorem lv5 : kindD ab2.D txA = 2 := by decide +kernel
theorem lv6 : ab2.rs.length = 2 := by decide +kernel
theorem lv7 : ab1.rs.length = 1 := by decide +kernel
theorem lv8 : ab1.left = -1 := by decide +kernel
theorem lv9 : ab2.left = -1 := by decide +kernel

theorem foot_low {B : Nat} {w : World} {d mb n : Nat} {rv : Value} {x : Ab} (h : IsDisk B w d mb n rv x) : ∀ i, Foot d mb rv i → B ≤ i := fun _ hi => (h.foot_lt hi).2

/-- Behind a raw write the disk is fit again. -/
theorem After.fit {B : Nat} {w w' : World} {d mb n : Nat} {rv : Value} {x x' : Ab} {m : Int} (ha : After B w w' d mb n rv x') (hf : Fit B w d mb n rv x m) (hB : 0 < B) (hn : n + 1 < 2199023255552) (hl : x'.rs.length < 2199023255552) (lo : -1 ≤ x'.left) (hi : x'.left ≤ 9223372036854775807) :
    ∃ n' rv', n' ≤ n + 1 ∧ Fit B w' d mb n' rv' x' m ∧ Below B w w' ∧ Upd (Foot d mb rv) w w' ∧ ∀ j, rv'.ownBlock = some j → rv.ownBlock = some j ∨ w.heap.size ≤ j := by
  obtain ⟨n', rv', h1, h2, h3, h4⟩ := ha
  have hb := h3.below hf.base (foot_low hf.disk)
  refine ⟨n', rv', h1, ?_, hb, h3, h4⟩
  exact { disk := h2, max := by rw [hb.cell (p := ⟨0, 0, none⟩) hB]; exact hf.max, room := by omega, len := hl, lo := lo, hi := hi, base := Nat.le_trans hf.base hb.size }

theorem new_fit {w : World} {m : Int} (hm : w.cell? ⟨0, 0, none⟩ = some (.int .i64 m)) {B : Nat} (hB : B ≤ w.heap.size) : Fit B ((w.alloc (.map #[] 0)).alloc (.cells #[.map (some w.heap.size), .slice none 0 0, .int .i64 (-1)] 59)) (w.heap.size + 1) w.heap.size 0 (.slice none 0 0) newAb m :=
  { disk := new_is hB, max := cell_below hm (new_below w), room := by decide, len := by decide, lo := by decide, hi := by decide, base := Nat.le_trans hB (new_below w).size }

/-- The look at the disk that is left, with the call's own count. -/
theorem len_two {B : Nat} {w : World} {d mb n : Nat} {rv : Value} (h : IsDisk B w d mb n rv ab2) :
    Calls Tryz.prog 12 #[.pointer (some ⟨d, 0, none⟩)] w fun e w' => ∃ ao cap, e = .returned (.slice ao 2 cap) ∧ Below w.heap.size w w' := by
  refine (Raws_any h (by rw [lv6]; decide)).mono ?_
  rintro e w' ⟨ao, cap, rfl, _, hb⟩
  exact ⟨ao, cap, by rw [lv6], hb⟩

set_option maxHeartbeats 1000000 in
theorem lives_any (w : World) (m : Int) (hm : w.cell? ⟨0, 0, none⟩ = some (.int .i64 m)) :
    Calls Tryz.prog 17 #[] w fun e w' => e = .returned (.bool true) ∧ Below w.heap.size w w' := by
  have hB : 0 < w.heap.size := cell_lt hm
  have hnew := New_walk w
  have f0 := new_fit hm (Nat.le_refl w.heap.size)
  have hb0 := new_below w
  have H1 : Hid (Calls Tryz.prog 39 #[.pointer (some ⟨w.heap.size + 1, 0, none⟩), .string ⟨#[47, 97]⟩] ((w.alloc (.map #[] 0)).alloc (.cells #[.map (some w.heap.size), .slice none 0 0, .int .i64 (-1)] 59)) fun e w' => e = .returned (.int .i64 0) ∧
      ∃ n' rv', Fit w.heap.size w' (w.heap.size + 1) w.heap.size n' rv' ab1 m ∧ Below w.heap.size w w' ∧ n' ≤ 1) := by
    refine (Mkdir_any f0 txA).mono ?_
    rintro e w' ⟨rfl, ha⟩
    obtain ⟨n', rv', h1, h2, h3, _⟩ := After.fit ha f0 hB (by decide) (by rw [show (mkdirD newAb txA).2 = ab1 from rfl, lv7]; decide) (by rw [show (mkdirD newAb txA).2 = ab1 from rfl, lv8]; decide) (by rw [show (mkdirD newAb txA).2 = ab1 from rfl, lv8]; decide)
    exact ⟨by rw [lv1], n', rv', h2, hb0.trans h3, h1⟩
  have H2 : Hid (∀ w1 n1 rv1, Fit w.heap.size w1 (w.heap.size + 1) w.heap.size n1 rv1 ab1 m → n1 ≤ 1 → Calls Tryz.prog 40 #[.pointer (some ⟨w.heap.size + 1, 0, none⟩), .string ⟨#[47, 97, 47, 102]⟩, .string ⟨#[120]⟩] w1 fun e w' => e = .returned (.int .i64 0) ∧
      ∃ n' rv', Fit w.heap.size w' (w.heap.size + 1) w.heap.size n' rv' ab2 m ∧ Below w.heap.size w1 w') := by
    intro w1 n1 rv1 f1 hn1
    refine (Write_any f1 txF txX (by decide)).mono ?_
    rintro e w' ⟨rfl, ha⟩
    obtain ⟨n', rv', h1, h2, h3, _⟩ := After.fit ha f1 hB (by omega) (by rw [show (writeFD ab1 txF txX).2 = ab2 from rfl, lv6]; decide) (by rw [show (writeFD ab1 txF txX).2 = ab2 from rfl, lv9]; decide) (by rw [show (writeFD ab1 txF txX).2 = ab2 from rfl, lv9]; decide)
    exact ⟨by rw [lv2], n', rv', h2, h3⟩
  have H3 : Hid (∀ w1 n1 rv1, Fit w.heap.size w1 (w.heap.size + 1) w.heap.size n1 rv1 ab2 m → Calls Tryz.prog 25 #[.pointer (some ⟨w.heap.size + 1, 0, none⟩), .string ⟨#[47, 97, 47, 102]⟩] w1 fun e w' => e = .returned (.tuple #[.string ⟨#[120]⟩, .int .i64 0]) ∧ Below w1.heap.size w1 w') := by
    intro w1 n1 rv1 f1
    refine (Read_any f1.disk txF m f1.max (by decide)).mono ?_
    rintro e w' ⟨rfl, hb⟩
    exact ⟨by rw [lv3, lv4]; rfl, hb⟩
  have H4 : Hid (∀ w1 n1 rv1, Fit w.heap.size w1 (w.heap.size + 1) w.heap.size n1 rv1 ab2 m → Calls Tryz.prog 20 #[.pointer (some ⟨w.heap.size + 1, 0, none⟩), .string ⟨#[47, 97]⟩] w1 fun e w' => e = .returned (.int .i64 2) ∧ Below w1.heap.size w1 w') := by
    intro w1 n1 rv1 f1
    refine (Kind_any f1.disk txA (by decide)).mono ?_
    rintro e w' ⟨rfl, hb⟩
    exact ⟨by rw [lv5], hb⟩
  have H5 : Hid (∀ w1 n1 rv1, Fit w.heap.size w1 (w.heap.size + 1) w.heap.size n1 rv1 ab2 m → Calls Tryz.prog 12 #[.pointer (some ⟨w.heap.size + 1, 0, none⟩)] w1 fun e w' => ∃ ao cap, e = .returned (.slice ao 2 cap) ∧ Below w1.heap.size w1 w') :=
    fun w1 n1 rv1 f1 => len_two f1.disk
  clear f0 hb0 hm
  go_enter Tryz.func17, Tryz.ntmps17
  go_wp2_with (first
    | (go_at_call 8; refine hnew.mono ?_; rintro e w1 ⟨rfl, rfl⟩)
    | (go_at_call 39; refine H1.out.mono ?_; rintro e w2 ⟨rfl, n2, rv2, f2, hb2, hn2⟩; have F2 : Hid (Fit w.heap.size w2 (w.heap.size + 1) w.heap.size n2 rv2 ab1 m) := f2; clear f2)
    | (go_at_call 40; refine (H2.out _ _ _ F2.out hn2).mono ?_; rintro e w3 ⟨rfl, n3, rv3, f3, hb3⟩; have F3 : Hid (Fit w.heap.size w3 (w.heap.size + 1) w.heap.size n3 rv3 ab2 m) := f3; clear f3)
    | (go_at_call 25; refine (H3.out _ _ _ F3.out).mono ?_; rintro e w4 ⟨rfl, hb4⟩)
    | (go_at_call 20; refine (H4.out _ _ _ (F3.out.below hb4)).mono ?_; rintro e w5 ⟨rfl, hb5⟩)
    | (go_at_call 12; refine (H5.out _ _ _ ((F3.out.below hb4).below hb5)).mono ?_; rintro e w6 ⟨ao, cap, rfl, hb6⟩))
  go_ret
  have s3 := hb2.trans hb3
  have s4 := s3.trans (hb4.mono s3.size)
  have s5 := s4.trans (hb5.mono s4.size)
  exact ⟨rfl, s5.trans (hb6.mono s5.size)⟩

end Go.Proofs.YtpkllhgohkgcmaaGreatDoor
