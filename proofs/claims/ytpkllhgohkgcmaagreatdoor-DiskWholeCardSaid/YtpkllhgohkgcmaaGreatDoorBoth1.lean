/- The disk and the reference's disk, side by side: both stand for the same values; a raw write of both leaves them so, and both answer the same. -/
import Derived.Test.YtpkllhgohkgcmaaGreatDoorList4
import Derived.Test.YtpkllhgohkgcmaaGreatDoorLives1
namespace Go.Proofs.YtpkllhgohkgcmaaGreatDoor
open Go.RowKit Go.Maps Go.WideMaps Go.WideElems Go.Sort Go.Shelf
set_option maxRecDepth 100000

/-- Both disks, behind at most k deeds. -/
structure Two (B : Nat) (w : World) (d e : Nat) (x : Ab) (m : Int) (k : Nat) : Prop where
  ex : ∃ mb n rv lv rw, IsDisk B w d mb n rv x ∧ IsRef B w e lv rw (filesD x.D) x.rs x.left ∧ (∀ j, Foot d mb rv j → ¬ FootR e lv rw j) ∧ n ≤ k
  sound : Sound x.D
  len : x.rs.length ≤ k
  lo : -1 ≤ x.left
  hi : x.left ≤ 9223372036854775807
  max : w.cell? ⟨0, 0, none⟩ = some (.int .i64 m)
  base : B ≤ w.heap.size
  zero : 0 < B

theorem Two.below {B : Nat} {w w' : World} {d e : Nat} {x : Ab} {m : Int} {k : Nat} (h : Two B w d e x m k) (hb : Below w.heap.size w w') : Two B w' d e x m k := by
  obtain ⟨mb, n, rv, lv, rw', h1, h2, h3, h4⟩ := h.ex
  exact { ex := ⟨mb, n, rv, lv, rw', h1.below hb, h2.below hb, h3, h4⟩, sound := h.sound, len := h.len, lo := h.lo, hi := h.hi, max := cell_below h.max hb, base := Nat.le_trans h.base hb.size, zero := h.zero }

theorem Two.more {B : Nat} {w : World} {d e : Nat} {x : Ab} {m : Int} {k k' : Nat} (h : Two B w d e x m k) (hk : k ≤ k') : Two B w d e x m k' := by
  obtain ⟨mb, n, rv, lv, rw', h1, h2, h3, h4⟩ := h.ex
  exact { ex := ⟨mb, n, rv, lv, rw', h1, h2, h3, Nat.le_trans h4 hk⟩, sound := h.sound, len := Nat.le_trans h.len hk, lo := h.lo, hi := h.hi, max := h.max, base := h.base, zero := h.zero }

theorem Two.plain {B : Nat} {w : World} {d e : Nat} {x : Ab} {m : Int} {k : Nat} (h : Two B w d e x m k) : Plain x.D := by
  obtain ⟨mb, n, rv, lv, rw', h1, _⟩ := h.ex
  exact h1.plain

theorem Two.files {B : Nat} {w : World} {d e : Nat} {x : Ab} {m : Int} {k : Nat} (h : Two B w d e x m k) : (filesD x.D).length ≤ k := by
  obtain ⟨mb, n, rv, lv, rw', h1, _, _, h4⟩ := h.ex
  exact Nat.le_trans (files_facts h1.own).2.1 h4

/-- A raw write of both. -/
theorem both_op {B : Nat} {w : World} {d e : Nat} {x : Ab} {m : Int} {k : Nat} (h : Two B w d e x m k) (hk : k + 1 < 2199023255552) {fd fr : Nat} {ad ar : Array Value} {Ed Er : Ending} {x' : Ab}
    (hd : ∀ W mb n rv, Fit B W d mb n rv x m → Calls Tryz.prog fd ad W fun e' w' => e' = Ed ∧ After B W w' d mb n rv x')
    (hr : Plain x'.D → ∀ W lv rw', FitR B W e lv rw' x → Calls Tryz.prog fr ar W fun e' w' => e' = Er ∧ AfterR B W w' e lv rw' (filesD x'.D) x'.rs x'.left)
    (hS : Sound x'.D) (hl : x'.rs.length ≤ k + 1) (lo : -1 ≤ x'.left) (hi : x'.left ≤ 9223372036854775807) (W : World) (hW : Below w.heap.size w W) :
    Calls Tryz.prog fd ad W fun e1 w1 => e1 = Ed ∧ (∀ b i, w.heap.size ≤ b → b < W.heap.size → w1.cell? ⟨b, i, none⟩ = W.cell? ⟨b, i, none⟩) ∧
      Calls Tryz.prog fr ar w1 fun e2 w2 => e2 = Er ∧ Two B w2 d e x' m (k + 1) ∧ Below B w w2 ∧ (∀ b i, w.heap.size ≤ b → b < W.heap.size → w2.cell? ⟨b, i, none⟩ = W.cell? ⟨b, i, none⟩) := by
  obtain ⟨mb, n, rv, lv, rw', hdk, hrf, hap, hn⟩ := h.ex
  have hfl := (files_facts hdk.own).2.1
  have hlen := h.len
  refine (hd W mb n rv { disk := hdk.below hW, max := cell_below h.max hW, room := by omega, len := by omega, lo := h.lo, hi := h.hi, base := Nat.le_trans h.base hW.size }).mono ?_
  rintro e1 w1 ⟨he1, n', rv', hn', hdk', hu, hj⟩
  have hBW := Nat.le_trans h.base hW.size
  refine ⟨he1, fun b i hb1 hb2 => World.cell?_of_block (hu.block b hb2 (fun f => by have := (hdk.foot_lt f).1; omega)), ?_⟩
  have hr1 := (hrf.below hW).upd hu (fun j hj' hf => hap j hf hj')
  refine (hr hdk'.plain w1 lv rw' { ref := hr1, good := hdk.plain.good, map := hdk.plain.isMap, room := by omega, len := by omega, lo := h.lo, hi := h.hi, base := Nat.le_trans hBW hu.size }).mono ?_
  rintro e2 w2 ⟨he2, lv2, rw2, hr2, hu2, hj2⟩
  have hnf : ∀ j, Foot d mb rv' j → ¬ FootR e lv rw' j := by
    intro j hf hf'
    have hlt := (hrf.foot_lt hf').1
    rcases hf with rfl | rfl | hf
    · exact hap _ (Or.inl rfl) hf'
    · exact hap _ (Or.inr (Or.inl rfl)) hf'
    · rcases hj j hf with q | q
      · exact hap j (Or.inr (Or.inr q)) hf'
      · have := hW.size; omega
  have hb1 : Below B W w1 := hu.below hBW (foot_low hdk)
  have hb2 : Below B w1 w2 := hu2.below (Nat.le_trans hBW hu.size) (fun i hi => (hrf.foot_lt hi).2)
  have hbw : Below B w w2 := ((hW.mono h.base).trans hb1).trans hb2
  refine ⟨he2, { ex := ⟨mb, n', rv', lv2, rw2, hdk'.upd hu2 hnf, hr2, fun j hf hf' => ?_, by omega⟩, sound := hS, len := hl, lo := lo, hi := hi, max := by rw [hbw.cell (p := ⟨0, 0, none⟩) h.zero]; exact h.max, base := Nat.le_trans h.base hbw.size, zero := h.zero }, hbw, fun b i hb1' hb2' => ?_⟩
  rotate_left
  · exact (World.cell?_of_block (hu2.block b (Nat.lt_of_lt_of_le hb2' hu.size) (fun f => by have := (hrf.foot_lt f).1; omega))).trans (World.cell?_of_block (hu.block b hb2' (fun f => by have := (hdk.foot_lt f).1; omega)))
  rcases hj2 j hf' with q | q
  · exact hnf j hf q
  · have := (hdk'.foot_lt hf).1; omega

/-- What a raw write leaves: all as it was, or one more noted. -/
def OneMore (x x' : Ab) : Prop := x' = x ∨ ∃ D r, x' = noteAb { D := D, rs := x.rs, left := x.left } r

theorem one_ite {x : Ab} {c : Prop} [Decidable c] {a b : Int × Ab} (h1 : OneMore x a.2) (h2 : OneMore x b.2) : OneMore x (if c then a else b).2 := by
  split
  · exact h1
  · exact h2

theorem one_mkdir (x : Ab) (s : ByteArray) : OneMore x (mkdirD x s).2 := by
  unfold mkdirD
  exact one_ite (Or.inl rfl) (one_ite (Or.inl rfl) (one_ite (Or.inl rfl) (Or.inr ⟨_, _, rfl⟩)))
theorem one_write (x : Ab) (s t : ByteArray) : OneMore x (writeFD x s t).2 := by
  unfold writeFD
  exact one_ite (Or.inl rfl) (one_ite (Or.inl rfl) (Or.inr ⟨_, _, rfl⟩))
theorem one_rename (x : Ab) (s t : ByteArray) : OneMore x (renameD x s t).2 := by
  unfold renameD
  exact one_ite (Or.inl rfl) (one_ite (Or.inl rfl) (one_ite (Or.inl rfl) (Or.inr ⟨_, _, rfl⟩)))
theorem one_remove (x : Ab) (s : ByteArray) : OneMore x (removeD x s).2 := by
  unfold removeD
  exact one_ite (Or.inl rfl) (one_ite (Or.inl rfl) (one_ite (Or.inl rfl) (Or.inr ⟨_, _, rfl⟩)))

theorem OneMore.bounds {x x' : Ab} (h : OneMore x x') {k : Nat} (hl : x.rs.length ≤ k) (lo : -1 ≤ x.left) (hi : x.left ≤ 9223372036854775807) : x'.rs.length ≤ k + 1 ∧ -1 ≤ x'.left ∧ x'.left ≤ 9223372036854775807 := by
  rcases h with rfl | ⟨D, r, rfl⟩
  · exact ⟨by omega, lo, hi⟩
  · unfold noteAb
    refine ⟨by simp; omega, ?_, ?_⟩
    · simp only; split <;> omega
    · simp only; split <;> omega

theorem both_mkdir {B : Nat} {w : World} {d e : Nat} {x : Ab} {m : Int} {k : Nat} (h : Two B w d e x m k) (hk : k + 1 < 2199023255552) (s : ByteArray) (hs : s.size ≤ maxLen) (W : World) (hW : Below w.heap.size w W) :
    Calls Tryz.prog 39 #[.pointer (some ⟨d, 0, none⟩), .string s] W fun e1 w1 => e1 = .returned (.int .i64 (mkdirD x s).1) ∧ (∀ b i, w.heap.size ≤ b → b < W.heap.size → w1.cell? ⟨b, i, none⟩ = W.cell? ⟨b, i, none⟩) ∧
      Calls Tryz.prog 46 #[.pointer (some ⟨e, 0, none⟩), .string s] w1 fun e2 w2 => e2 = .returned (.int .i64 (mkdirD x s).1) ∧ Two B w2 d e (mkdirD x s).2 m (k + 1) ∧ Below B w w2 ∧ (∀ b i, w.heap.size ≤ b → b < W.heap.size → w2.cell? ⟨b, i, none⟩ = W.cell? ⟨b, i, none⟩) := by
  obtain ⟨b1, b2, b3⟩ := (one_mkdir x s).bounds h.len h.lo h.hi
  exact both_op h hk (fun W mb n rv hf => Mkdir_any hf s) (fun hp W lv rw' hf => rMkdir_any hf s hs hp.good) (sound_mkdir h.sound s) b1 b2 b3 W hW

theorem both_write {B : Nat} {w : World} {d e : Nat} {x : Ab} {m : Int} {k : Nat} (h : Two B w d e x m k) (hk : k + 1 < 2199023255552) (s t : ByteArray) (hs : s.size ≤ maxLen) (ht : t.size ≤ maxLen) (W : World) (hW : Below w.heap.size w W) :
    Calls Tryz.prog 40 #[.pointer (some ⟨d, 0, none⟩), .string s, .string t] W fun e1 w1 => e1 = .returned (.int .i64 (writeFD x s t).1) ∧ (∀ b i, w.heap.size ≤ b → b < W.heap.size → w1.cell? ⟨b, i, none⟩ = W.cell? ⟨b, i, none⟩) ∧
      Calls Tryz.prog 47 #[.pointer (some ⟨e, 0, none⟩), .string s, .string t] w1 fun e2 w2 => e2 = .returned (.int .i64 (writeFD x s t).1) ∧ Two B w2 d e (writeFD x s t).2 m (k + 1) ∧ Below B w w2 ∧ (∀ b i, w.heap.size ≤ b → b < W.heap.size → w2.cell? ⟨b, i, none⟩ = W.cell? ⟨b, i, none⟩) := by
  obtain ⟨b1, b2, b3⟩ := (one_write x s t).bounds h.len h.lo h.hi
  exact both_op h hk (fun W mb n rv hf => Write_any hf s t ht) (fun hp W lv rw' hf => rWrite_any hf s t hs hp.good) (sound_write h.sound s t) b1 b2 b3 W hW

theorem both_rename {B : Nat} {w : World} {d e : Nat} {x : Ab} {m : Int} {k : Nat} (h : Two B w d e x m k) (hk : k + 1 < 2199023255552) (s t : ByteArray) (hs : s.size ≤ maxLen) (ht : t.size ≤ maxLen) (W : World) (hW : Below w.heap.size w W) :
    Calls Tryz.prog 48 #[.pointer (some ⟨d, 0, none⟩), .string s, .string t] W fun e1 w1 => e1 = .returned (.int .i64 (renameD x s t).1) ∧ (∀ b i, w.heap.size ≤ b → b < W.heap.size → w1.cell? ⟨b, i, none⟩ = W.cell? ⟨b, i, none⟩) ∧
      Calls Tryz.prog 49 #[.pointer (some ⟨e, 0, none⟩), .string s, .string t] w1 fun e2 w2 => e2 = .returned (.int .i64 (renameD x s t).1) ∧ Two B w2 d e (renameD x s t).2 m (k + 1) ∧ Below B w w2 ∧ (∀ b i, w.heap.size ≤ b → b < W.heap.size → w2.cell? ⟨b, i, none⟩ = W.cell? ⟨b, i, none⟩) := by
  obtain ⟨b1, b2, b3⟩ := (one_rename x s t).bounds h.len h.lo h.hi
  have hp0 := h.plain
  exact both_op h hk (fun W mb n rv hf => Rename_any hf s t) (fun hp W lv rw' hf => rRename_any hf hp0 s t hs ht hp.good) (sound_rename h.sound s t) b1 b2 b3 W hW

theorem both_remove {B : Nat} {w : World} {d e : Nat} {x : Ab} {m : Int} {k : Nat} (h : Two B w d e x m k) (hk : k + 1 < 2199023255552) (s : ByteArray) (hs : s.size ≤ maxLen) (W : World) (hW : Below w.heap.size w W) :
    Calls Tryz.prog 50 #[.pointer (some ⟨d, 0, none⟩), .string s] W fun e1 w1 => e1 = .returned (.int .i64 (removeD x s).1) ∧ (∀ b i, w.heap.size ≤ b → b < W.heap.size → w1.cell? ⟨b, i, none⟩ = W.cell? ⟨b, i, none⟩) ∧
      Calls Tryz.prog 51 #[.pointer (some ⟨e, 0, none⟩), .string s] w1 fun e2 w2 => e2 = .returned (.int .i64 (removeD x s).1) ∧ Two B w2 d e (removeD x s).2 m (k + 1) ∧ Below B w w2 ∧ (∀ b i, w.heap.size ≤ b → b < W.heap.size → w2.cell? ⟨b, i, none⟩ = W.cell? ⟨b, i, none⟩) := by
  obtain ⟨b1, b2, b3⟩ := (one_remove x s).bounds h.len h.lo h.hi
  have hp0 := h.plain
  have hs0 := h.sound
  exact both_op h hk (fun W mb n rv hf => Remove_any hf s) (fun _ W lv rw' hf => rRemove_any hf hp0 hs0 s hs) (sound_remove h.sound hp0.strKeys s) b1 b2 b3 W hW

end Go.Proofs.YtpkllhgohkgcmaaGreatDoor
