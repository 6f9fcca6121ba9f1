/- Both1, Both2, Both3, Both4, Both5, Row1, laid in one text. -/
import Derived.Deep.RegionHeld3
import Derived.Test.YthijkdphlmogjaaGreatDoorRows
import Derived.Test.YthijkdphlmogjaaGreatDoorTie
import Derived.Test.YthijkdphlmogjaaGreatDoorCards
import Derived.ProofKit
import Derived.OpenShut
import Derived.ChangeOld
import Derived.LaidMore
import Derived.Lay
import Derived.SevenTiedAt
import Derived.Stop.Joined
import Derived.Shelf.Vars
import Derived.Deep.Slices
import Derived.Test.YthijkdphlmogjaaGreatDoorMg06
namespace Go.Proofs.YthijkdphlmogjaaGreatDoor
open Go.RowKit Go.Maps Go.WideMaps Go.WideElems Go.Sort Go.Shelf
set_option maxRecDepth 100000

/-- Both disks, behind at most k deeds. -/
structure Two (B : Nat) (w : World) (d e : Nat) (x : Ab) (m : Int) (k : Nat) : Prop where
  ex : ∃ mb n rv lv rw, IsDisk B w d mb n rv x ∧ IsRef B w e lv rw (filesD x.D) x.rs x.left ∧ (∀ j, Foot d mb rv j → ¬ FootR e lv rw j) ∧ n ≤ k
  sound : Sound x.D
  len : x.rs.length ≤ k
  lo : -1 ≤ x.left
  hi : x.left ≤ 9223372036854775807
  max : w.cell? ⟨0, 0, none⟩ = some (.int .i64 m)
  base : B ≤ w.heap.size
  zero : 0 < B

theorem Two.below {B : Nat} {w w' : World} {d e : Nat} {x : Ab} {m : Int} {k : Nat} (h : Two B w d e x m k) (hb : Below w.heap.size w w') : Two B w' d e x m k := by
  obtain ⟨mb, n, rv, lv, rw', h1, h2, h3, h4⟩ := h.ex
  exact { ex := ⟨mb, n, rv, lv, rw', h1.below hb, h2.below hb, h3, h4⟩, sound := h.sound, len := h.len, lo := h.lo, hi := h.hi, max := cell_below h.max hb, base := Nat.le_trans h.base hb.size, zero := h.zero }

theorem Two.more {B : Nat} {w : World} {d e : Nat} {x : Ab} {m : Int} {k k' : Nat} (h : Two B w d e x m k) (hk : k ≤ k') : Two B w d e x m k' := by
  obtain ⟨mb, n, rv, lv, rw', h1, h2, h3, h4⟩ := h.ex
  exact { ex := ⟨mb, n, rv, lv, rw', h1, h2, h3, Nat.le_trans h4 hk⟩, sound := h.sound, len := Nat.le_trans h.len hk, lo := h.lo, hi := h.hi, max := h.max, base := h.base, zero := h.zero }

theorem Two.plain {B : Nat} {w : World} {d e : Nat} {x : Ab} {m : Int} {k : Nat} (h : Two B w d e x m k) : Plain x.D := by
  obtain ⟨mb, n, rv, lv, rw', h1, _⟩ := h.ex
  exact h1.plain

theorem Two.files {B : Nat} {w : World} {d e : Nat} {x : Ab} {m : Int} {k : Nat} (h : Two B w d e x m k) : (filesD x.D).length ≤ k := by
  obtain ⟨mb, n, rv, lv, rw', h1, _, _, h4⟩ := h.ex
  exact Nat.le_trans (files_facts h1.own).2.1 h4

/-- A raw write of both. -/
theorem both_op {B : Nat} {w : World} {d e : Nat} {x : Ab} {m : Int} {k : Nat} (h : Two B w d e x m k) (hk : k + 1 < 2199023255552) {fd fr : Nat} {ad ar : Array Value} {Ed Er : Ending} {x' : Ab}
    (hd : ∀ W mb n rv, Fit B W d mb n rv x m → Calls Tryz.prog fd ad W fun e' w' => e' = Ed ∧ After B W w' d mb n rv x')
    (hr : Plain x'.D → ∀ W lv rw', FitR B W e lv rw' x → Calls Tryz.prog fr ar W fun e' w' => e' = Er ∧ AfterR B W w' e lv rw' (filesD x'.D) x'.rs x'.left)
    (hS : Sound x'.D) (hl : x'.rs.length ≤ k + 1) (lo : -1 ≤ x'.left) (hi : x'.left ≤ 9223372036854775807) (W : World) (hW : Below w.heap.size w W) :
    Calls Tryz.prog fd ad W fun e1 w1 => e1 = Ed ∧ (∀ b i, w.heap.size ≤ b → b < W.heap.size → w1.cell? ⟨b, i, none⟩ = W.cell? ⟨b, i, none⟩) ∧
      Calls Tryz.prog fr ar w1 fun e2 w2 => e2 = Er ∧ Two B w2 d e x' m (k + 1) ∧ Below B w w2 ∧ (∀ b i, w.heap.size ≤ b → b < W.heap.size → w2.cell? ⟨b, i, none⟩ = W.cell? ⟨b, i, none⟩) := by
  obtain ⟨mb, n, rv, lv, rw', hdk, hrf, hap, hn⟩ := h.ex
  have hfl := (files_facts hdk.own).2.1
  have hlen := h.len
  refine (hd W mb n rv { disk := hdk.below hW, max := cell_below h.max hW, room := by omega, len := by omega, lo := h.lo, hi := h.hi, base := Nat.le_trans h.base hW.size }).mono ?_
  rintro e1 w1 ⟨he1, n', rv', hn', hdk', hu, hj⟩
  have hBW := Nat.le_trans h.base hW.size
  refine ⟨he1, fun b i hb1 hb2 => World.cell?_of_block (hu.block b hb2 (fun f => by have := (hdk.foot_lt f).1; omega)), ?_⟩
  have hr1 := (hrf.below hW).upd hu (fun j hj' hf => hap j hf hj')
  refine (hr hdk'.plain w1 lv rw' { ref := hr1, good := hdk.plain.good, map := hdk.plain.isMap, room := by omega, len := by omega, lo := h.lo, hi := h.hi, base := Nat.le_trans hBW hu.size }).mono ?_
  rintro e2 w2 ⟨he2, lv2, rw2, hr2, hu2, hj2⟩
  have hnf : ∀ j, Foot d mb rv' j → ¬ FootR e lv rw' j := by
    intro j hf hf'
    have hlt := (hrf.foot_lt hf').1
    rcases hf with rfl | rfl | hf
    · exact hap _ (Or.inl rfl) hf'
    · exact hap _ (Or.inr (Or.inl rfl)) hf'
    · rcases hj j hf with q | q
      · exact hap j (Or.inr (Or.inr q)) hf'
      · have := hW.size; omega
  have hb1 : Below B W w1 := hu.below hBW (foot_low hdk)
  have hb2 : Below B w1 w2 := hu2.below (Nat.le_trans hBW hu.size) (fun i hi => (hrf.foot_lt hi).2)
  have hbw : Below B w w2 := ((hW.mono h.base).trans hb1).trans hb2
  refine ⟨he2, { ex := ⟨mb, n', rv', lv2, rw2, hdk'.upd hu2 hnf, hr2, fun j hf hf' => ?_, by omega⟩, sound := hS, len := hl, lo := lo, hi := hi, max := by rw [hbw.cell (p := ⟨0, 0, none⟩) h.zero]; exact h.max, base := Nat.le_trans h.base hbw.size, zero := h.zero }, hbw, fun b i hb1' hb2' => ?_⟩
  rotate_left
  · exact (World.cell?_of_block (hu2.block b (Nat.lt_of_lt_of_le hb2' hu.size) (fun f => by have := (hrf.foot_lt f).1; omega))).trans (World.cell?_of_block (hu.block b hb2' (fun f => by have := (hdk.foot_lt f).1; omega)))
  rcases hj2 j hf' with q | q
  · exact hnf j hf q
  · have := (hdk'.foot_lt hf).1; omega

/-- What a raw write leaves: all as it was, or one more noted. -/
def OneMore (x x' : Ab) : Prop := x' = x ∨ ∃ D r, x' = noteAb { D := D, rs := x.rs, left := x.left } r

theorem one_ite {x : Ab} {c : Prop} [Decidable c] {a b : Int × Ab} (h1 : OneMore x a.2) (h2 : OneMore x b.2) : OneMore x (if c then a else b).2 := by
  split
  · exact h1
  · exact h2

theorem one_mkdir (x : Ab) (s : ByteArray) : OneMore x (mkdirD x s).2 := by
  unfold mkdirD
  exact one_ite (Or.inl rfl) (one_ite (Or.inl rfl) (one_ite (Or.inl rfl) (Or.inr ⟨_, _, rfl⟩)))
theorem one_write (x : Ab) (s t : ByteArray) : OneMore x (writeFD x s t).2 := by
  unfold writeFD
  exact one_ite (Or.inl rfl) (one_ite (Or.inl rfl) (Or.inr ⟨_, _, rfl⟩))
theorem one_rename (x : Ab) (s t : ByteArray) : OneMore x (renameD x s t).2 := by
  unfold renameD
  exact one_ite (Or.inl rfl) (one_ite (Or.inl rfl) (one_ite (Or.inl rfl) (Or.inr ⟨_, _, rfl⟩)))
theorem one_remove (x : Ab) (s : ByteArray) : OneMore x (removeD x s).2 := by
  unfold removeD
  exact one_ite (Or.inl rfl) (one_ite (Or.inl rfl) (one_ite (Or.inl rfl) (Or.inr ⟨_, _, rfl⟩)))

theorem OneMore.bounds {x x' : Ab} (h : OneMore x x') {k : Nat} (hl : x.rs.length ≤ k) (lo : -1 ≤ x.left) (hi : x.left ≤ 9223372036854775807) : x'.rs.length ≤ k + 1 ∧ -1 ≤ x'.left ∧ x'.left ≤ 9223372036854775807 := by
  rcases h with rfl | ⟨D, r, rfl⟩
  · exact ⟨by omega, lo, hi⟩
  · unfold noteAb
    refine ⟨by simp; omega, ?_, ?_⟩
    · simp only; split <;> omega
    · simp only; split <;> omega

theorem both_mkdir {B : Nat} {w : World} {d e : Nat} {x : Ab} {m : Int} {k : Nat} (h : Two B w d e x m k) (hk : k + 1 < 2199023255552) (s : ByteArray) (hs : s.size ≤ maxLen) (W : World) (hW : Below w.heap.size w W) :
    Calls Tryz.prog 29 #[.pointer (some ⟨d, 0, none⟩), .string s] W fun e1 w1 => e1 = .returned (.int .i64 (mkdirD x s).1) ∧ (∀ b i, w.heap.size ≤ b → b < W.heap.size → w1.cell? ⟨b, i, none⟩ = W.cell? ⟨b, i, none⟩) ∧
      Calls Tryz.prog 53 #[.pointer (some ⟨e, 0, none⟩), .string s] w1 fun e2 w2 => e2 = .returned (.int .i64 (mkdirD x s).1) ∧ Two B w2 d e (mkdirD x s).2 m (k + 1) ∧ Below B w w2 ∧ (∀ b i, w.heap.size ≤ b → b < W.heap.size → w2.cell? ⟨b, i, none⟩ = W.cell? ⟨b, i, none⟩) := by
  obtain ⟨b1, b2, b3⟩ := (one_mkdir x s).bounds h.len h.lo h.hi
  exact both_op h hk (fun W mb n rv hf => Mkdir_any hf s) (fun hp W lv rw' hf => rMkdir_any hf s hs hp.good) (sound_mkdir h.sound s) b1 b2 b3 W hW

theorem both_write {B : Nat} {w : World} {d e : Nat} {x : Ab} {m : Int} {k : Nat} (h : Two B w d e x m k) (hk : k + 1 < 2199023255552) (s t : ByteArray) (hs : s.size ≤ maxLen) (ht : t.size ≤ maxLen) (W : World) (hW : Below w.heap.size w W) :
    Calls Tryz.prog 30 #[.pointer (some ⟨d, 0, none⟩), .string s, .string t] W fun e1 w1 => e1 = .returned (.int .i64 (writeFD x s t).1) ∧ (∀ b i, w.heap.size ≤ b → b < W.heap.size → w1.cell? ⟨b, i, none⟩ = W.cell? ⟨b, i, none⟩) ∧
      Calls Tryz.prog 54 #[.pointer (some ⟨e, 0, none⟩), .string s, .string t] w1 fun e2 w2 => e2 = .returned (.int .i64 (writeFD x s t).1) ∧ Two B w2 d e (writeFD x s t).2 m (k + 1) ∧ Below B w w2 ∧ (∀ b i, w.heap.size ≤ b → b < W.heap.size → w2.cell? ⟨b, i, none⟩ = W.cell? ⟨b, i, none⟩) := by
  obtain ⟨b1, b2, b3⟩ := (one_write x s t).bounds h.len h.lo h.hi
  exact both_op h hk (fun W mb n rv hf => Write_any hf s t ht) (fun hp W lv rw' hf => rWrite_any hf s t hs hp.good) (sound_write h.sound s t) b1 b2 b3 W hW

theorem both_rename {B : Nat} {w : World} {d e : Nat} {x : Ab} {m : Int} {k : Nat} (h : Two B w d e x m k) (hk : k + 1 < 2199023255552) (s t : ByteArray) (hs : s.size ≤ maxLen) (ht : t.size ≤ maxLen) (W : World) (hW : Below w.heap.size w W) :
    Calls Tryz.prog 44 #[.pointer (some ⟨d, 0, none⟩), .string s, .string t] W fun e1 w1 => e1 = .returned (.int .i64 (renameD x s t).1) ∧ (∀ b i, w.heap.size ≤ b → b < W.heap.size → w1.cell? ⟨b, i, none⟩ = W.cell? ⟨b, i, none⟩) ∧
      Calls Tryz.prog 55 #[.pointer (some ⟨e, 0, none⟩), .string s, .string t] w1 fun e2 w2 => e2 = .returned (.int .i64 (renameD x s t).1) ∧ Two B w2 d e (renameD x s t).2 m (k + 1) ∧ Below B w w2 ∧ (∀ b i, w.heap.size ≤ b → b < W.heap.size → w2.cell? ⟨b, i, none⟩ = W.cell? ⟨b, i, none⟩) := by
  obtain ⟨b1, b2, b3⟩ := (one_rename x s t).bounds h.len h.lo h.hi
  have hp0 := h.plain
  exact both_op h hk (fun W mb n rv hf => Rename_any hf s t) (fun hp W lv rw' hf => rRename_any hf hp0 s t hs ht hp.good) (sound_rename h.sound s t) b1 b2 b3 W hW

theorem both_remove {B : Nat} {w : World} {d e : Nat} {x : Ab} {m : Int} {k : Nat} (h : Two B w d e x m k) (hk : k + 1 < 2199023255552) (s : ByteArray) (hs : s.size ≤ maxLen) (W : World) (hW : Below w.heap.size w W) :
    Calls Tryz.prog 45 #[.pointer (some ⟨d, 0, none⟩), .string s] W fun e1 w1 => e1 = .returned (.int .i64 (removeD x s).1) ∧ (∀ b i, w.heap.size ≤ b → b < W.heap.size → w1.cell? ⟨b, i, none⟩ = W.cell? ⟨b, i, none⟩) ∧
      Calls Tryz.prog 56 #[.pointer (some ⟨e, 0, none⟩), .string s] w1 fun e2 w2 => e2 = .returned (.int .i64 (removeD x s).1) ∧ Two B w2 d e (removeD x s).2 m (k + 1) ∧ Below B w w2 ∧ (∀ b i, w.heap.size ≤ b → b < W.heap.size → w2.cell? ⟨b, i, none⟩ = W.cell? ⟨b, i, none⟩) := by
  obtain ⟨b1, b2, b3⟩ := (one_remove x s).bounds h.len h.lo h.hi
  have hp0 := h.plain
  have hs0 := h.sound
  exact both_op h hk (fun W mb n rv hf => Remove_any hf s) (fun _ W lv rw' hf => rRemove_any hf hp0 hs0 s hs) (sound_remove h.sound hp0.strKeys s) b1 b2 b3 W hW

end Go.Proofs.YthijkdphlmogjaaGreatDoor
namespace Go.Proofs.YthijkdphlmogjaaGreatDoor
open Go.RowKit Go.Maps Go.WideMaps Go.WideElems Go.Sort Go.Shelf
set_option maxRecDepth 100000

/-- A raw write of a kind. -/
def putsD (x : Ab) (k : Int) (p t u : ByteArray) : Int × Ab := if (k == 0) = true then mkdirD x p else if (k == 1) = true then writeFD x p u else if (k == 2) = true then renameD x p t else removeD x p

theorem self_eq (a : Int) : (a == a) = true := by simp

def deedObj (k : Int) (p t u : ByteArray) (z : Int) : Obj := .cells #[.int .i64 k, .string p, .string t, .string u, .int .i64 z] 36

theorem deed_cells (w : World) (k : Int) (p t u : ByteArray) (z : Int) :
    (w.alloc (deedObj k p t u z)).cell? ⟨w.heap.size, 0, none⟩ = some (.int .i64 k) ∧ (w.alloc (deedObj k p t u z)).cell? ⟨w.heap.size, 1, none⟩ = some (.string p) ∧ (w.alloc (deedObj k p t u z)).cell? ⟨w.heap.size, 2, none⟩ = some (.string t) ∧
    (w.alloc (deedObj k p t u z)).cell? ⟨w.heap.size, 3, none⟩ = some (.string u) ∧ (w.alloc (deedObj k p t u z)).cell? ⟨w.heap.size, 4, none⟩ = some (.int .i64 z) := by
  unfold deedObj
  refine ⟨?_, ?_, ?_, ?_, ?_⟩ <;> (rw [World.cell?_alloc_new]; rfl)

set_option maxHeartbeats 2000000 in
theorem writes_any {B : Nat} {w : World} {d e : Nat} {x : Ab} {m : Int} {k : Nat} (h : Two B w d e x m k) (hk : k + 1 < 2199023255552) (kd : Int) (p t u : ByteArray) (z : Int) (hp : p.size ≤ maxLen) (ht : t.size ≤ maxLen) (hu : u.size ≤ maxLen) (hk0 : -9223372036854775808 ≤ kd) (hk1 : kd ≤ 9223372036854775807) :
    Calls Tryz.prog 40 #[.pointer (some ⟨d, 0, none⟩), .pointer (some ⟨e, 0, none⟩), .agg #[.int .i64 kd, .string p, .string t, .string u, .int .i64 z]] w fun e' w' => e' = .returned (.bool true) ∧ Two B w' d e (putsD x (pickD kd 11) p t u).2 m (k + 1) ∧ Below B w w' := by
  have hpk := fun W => pick_any kd 11 W hk0 hk1 (by decide) (by decide)
  obtain ⟨_, b1, b2, b3, _⟩ := deed_cells w kd p t u z
  have hwlt : w.heap.size < (w.alloc (deedObj kd p t u z)).drew.heap.size := by
    show w.heap.size < (w.heap.push _).size
    simp
  have HW : Hid (Below w.heap.size w (w.alloc (deedObj kd p t u z)).drew) := (alloc_below w _).drew
  by_cases k0 : (pickD kd 11 == 0) = true
  · have HA : Hid (putsD x (pickD kd 11) p t u = mkdirD x p) := by unfold Hid putsD; rw [if_pos k0]
    have hc := both_mkdir h hk p hp _ HW.out
    clear h
    generalize mkdirD x p = r at *
    have hse := self_eq r.1
    generalize pickD kd 11 = pk at *
    go_enter Tryz.func40, Tryz.ntmps40
    go_wp2_with (go_at_call 32; refine (hpk _).mono ?_; rintro e w1 ⟨rfl, rfl⟩)
    go_region_held3 (fun w' => w'.cell? ⟨w.heap.size, 1, none⟩ = some (.string p)) (go_keep)
      (first
        | (go_at_call 29; refine hc.mono ?_; rintro e w1 ⟨rfl, hbx, hnx⟩; have HNX := hide3 hnx; clear hnx; have q1 := (hbx w.heap.size 1 (Nat.le_refl _) hwlt).trans b1; clear hbx)
        | (go_at_call 53; refine HNX.out.mono ?_; rintro e w2 ⟨rfl, ha, hb, hbx2⟩; have q1' := (hbx2 w.heap.size 1 (Nat.le_refl _) hwlt).trans b1; clear hbx2))
    all_goals go_wp2
    all_goals
      go_ret
      rw [HA.out]
      exact ⟨rfl, ha, hb⟩
  rw [Bool.not_eq_true] at k0
  by_cases k1 : (pickD kd 11 == 1) = true
  · have HA : Hid (putsD x (pickD kd 11) p t u = writeFD x p u) := by unfold Hid putsD; rw [if_neg (by rw [k0]; decide), if_pos k1]
    have hc := both_write h hk p u hp hu _ HW.out
    clear h
    generalize writeFD x p u = r at *
    have hse := self_eq r.1
    generalize pickD kd 11 = pk at *
    go_enter Tryz.func40, Tryz.ntmps40
    go_wp2_with (go_at_call 32; refine (hpk _).mono ?_; rintro e w1 ⟨rfl, rfl⟩)
    go_region_held3 (fun w' => w'.cell? ⟨w.heap.size, 1, none⟩ = some (.string p) ∧ w'.cell? ⟨w.heap.size, 3, none⟩ = some (.string u)) (go_keep)
      (first
        | (go_at_call 30; refine hc.mono ?_; rintro e w1 ⟨rfl, hbx, hnx⟩; have HNX := hide3 hnx; clear hnx; have q1 := (hbx w.heap.size 1 (Nat.le_refl _) hwlt).trans b1; have q3 := (hbx w.heap.size 3 (Nat.le_refl _) hwlt).trans b3; clear hbx)
        | (go_at_call 54; refine HNX.out.mono ?_; rintro e w2 ⟨rfl, ha, hb, hbx2⟩; have q1' := (hbx2 w.heap.size 1 (Nat.le_refl _) hwlt).trans b1; have q3' := (hbx2 w.heap.size 3 (Nat.le_refl _) hwlt).trans b3; clear hbx2))
    all_goals go_wp2
    all_goals
      go_ret
      rw [HA.out]
      exact ⟨rfl, ha, hb⟩
  rw [Bool.not_eq_true] at k1
  by_cases k2 : (pickD kd 11 == 2) = true
  · have HA : Hid (putsD x (pickD kd 11) p t u = renameD x p t) := by unfold Hid putsD; rw [if_neg (by rw [k0]; decide), if_neg (by rw [k1]; decide), if_pos k2]
    have hc := both_rename h hk p t hp ht _ HW.out
    clear h
    generalize renameD x p t = r at *
    have hse := self_eq r.1
    generalize pickD kd 11 = pk at *
    go_enter Tryz.func40, Tryz.ntmps40
    go_wp2_with (go_at_call 32; refine (hpk _).mono ?_; rintro e w1 ⟨rfl, rfl⟩)
    go_region_held3 (fun w' => w'.cell? ⟨w.heap.size, 1, none⟩ = some (.string p) ∧ w'.cell? ⟨w.heap.size, 2, none⟩ = some (.string t)) (go_keep)
      (first
        | (go_at_call 44; refine hc.mono ?_; rintro e w1 ⟨rfl, hbx, hnx⟩; have HNX := hide3 hnx; clear hnx; have q1 := (hbx w.heap.size 1 (Nat.le_refl _) hwlt).trans b1; have q2 := (hbx w.heap.size 2 (Nat.le_refl _) hwlt).trans b2; clear hbx)
        | (go_at_call 55; refine HNX.out.mono ?_; rintro e w2 ⟨rfl, ha, hb, hbx2⟩; have q1' := (hbx2 w.heap.size 1 (Nat.le_refl _) hwlt).trans b1; have q2' := (hbx2 w.heap.size 2 (Nat.le_refl _) hwlt).trans b2; clear hbx2))
    all_goals go_wp2
    all_goals
      go_ret
      rw [HA.out]
      exact ⟨rfl, ha, hb⟩
  · rw [Bool.not_eq_true] at k2
    have HA : Hid (putsD x (pickD kd 11) p t u = removeD x p) := by unfold Hid putsD; rw [if_neg (by rw [k0]; decide), if_neg (by rw [k1]; decide), if_neg (by rw [k2]; decide)]
    have hc := both_remove h hk p hp _ HW.out
    clear h
    generalize removeD x p = r at *
    have hse := self_eq r.1
    generalize pickD kd 11 = pk at *
    go_enter Tryz.func40, Tryz.ntmps40
    go_wp2_with (go_at_call 32; refine (hpk _).mono ?_; rintro e w1 ⟨rfl, rfl⟩)
    go_region_held3 (fun w' => w'.cell? ⟨w.heap.size, 1, none⟩ = some (.string p)) (go_keep)
      (first
        | (go_at_call 45; refine hc.mono ?_; rintro e w1 ⟨rfl, hbx, hnx⟩; have HNX := hide3 hnx; clear hnx; have q1 := (hbx w.heap.size 1 (Nat.le_refl _) hwlt).trans b1; clear hbx)
        | (go_at_call 56; refine HNX.out.mono ?_; rintro e w2 ⟨rfl, ha, hb, hbx2⟩; have q1' := (hbx2 w.heap.size 1 (Nat.le_refl _) hwlt).trans b1; clear hbx2))
    all_goals go_wp2
    all_goals
      go_ret
      rw [HA.out]
      exact ⟨rfl, ha, hb⟩

end Go.Proofs.YthijkdphlmogjaaGreatDoor
namespace Go.Proofs.YthijkdphlmogjaaGreatDoor
open Go.RowKit Go.Maps Go.WideMaps Go.WideElems Go.Sort Go.Shelf
set_option maxRecDepth 100000

theorem After.left {B : Nat} {w : World} {d mb n : Nat} {rv : Value} {x : Ab} (h : IsDisk B w d mb n rv x) (l : Int) : After B w (w.setCell ⟨d, 2, none⟩ (.int .i64 l)) d mb n rv { x with left := l } :=
  ⟨n, rv, Nat.le_succ _, h.setLeft l, (Upd.setCell w ⟨d, 2, none⟩ (.int .i64 l)).mono (fun _ _ f => Or.inl f), fun _ hj => Or.inl hj⟩

set_option maxHeartbeats 400000 in
theorem dCut_any {B : Nat} {w : World} {d mb n : Nat} {rv : Value} {x : Ab} (h : IsDisk B w d mb n rv x) (z : Int) :
    Calls Tryz.prog 37 #[.pointer (some ⟨d, 0, none⟩), .int .i64 z] w fun e w' => e = .returned (.int .i64 (cutE x.left z)) ∧ After B w w' d mb n rv { x with left := cutL x.left z } := by
  have hd := Down_any h
  have c2 := h.c2
  have f2 := h.f2
  by_cases h0 : (x.left == 0) = true
  · have HE : Hid (cutE x.left z = 15 ∧ cutL x.left z = x.left) := by unfold Hid cutE cutL; rw [if_pos h0, if_pos h0]; exact ⟨rfl, rfl⟩
    have HR := hide3 (After.same h (Below.refl _ _))
    clear h
    go_enter Tryz.func37, Tryz.ntmps37
    go_wp2_with (go_at_call 9; refine hd.mono ?_; rintro e w' ⟨rfl, rfl⟩)
    go_ret
    rw [HE.out.1, HE.out.2]
    exact ⟨rfl, HR.out⟩
  rw [Bool.not_eq_true] at h0
  by_cases h1 : z < 0
  · have HE : Hid (cutE x.left z = 1 ∧ cutL x.left z = x.left) := by unfold Hid cutE cutL; simp [h0, h1]
    have HR := hide3 (After.same h (Below.refl _ _))
    clear h
    go_enter Tryz.func37, Tryz.ntmps37
    go_wp2_with (go_at_call 9; refine hd.mono ?_; rintro e w' ⟨rfl, rfl⟩)
    go_ret
    rw [HE.out.1, HE.out.2]
    exact ⟨rfl, HR.out⟩
  · have HE : Hid (cutE x.left z = 0 ∧ cutL x.left z = z) := by unfold Hid cutE cutL; simp [h0, h1]
    have HR := hide3 (After.left h z)
    clear h
    go_enter Tryz.func37, Tryz.ntmps37
    go_wp2_with (go_at_call 9; refine hd.mono ?_; rintro e w' ⟨rfl, rfl⟩)
    go_ret
    rw [HE.out.1, HE.out.2]
    exact ⟨rfl, HR.out⟩

theorem cut_bounds {l z : Int} (lo : -1 ≤ l) (hi : l ≤ 9223372036854775807) (hz : z ≤ 9223372036854775807) : -1 ≤ cutL l z ∧ cutL l z ≤ 9223372036854775807 := by
  unfold cutL
  split
  · exact ⟨lo, hi⟩
  · split
    · exact ⟨lo, hi⟩
    · omega

theorem both_cut {B : Nat} {w : World} {d e : Nat} {x : Ab} {m : Int} {k : Nat} (h : Two B w d e x m k) (hk : k + 1 < 2199023255552) (z : Int) (hz : z ≤ 9223372036854775807) (W : World) (hW : Below w.heap.size w W) :
    Calls Tryz.prog 37 #[.pointer (some ⟨d, 0, none⟩), .int .i64 z] W fun e1 w1 => e1 = .returned (.int .i64 (cutE x.left z)) ∧ (∀ b i, w.heap.size ≤ b → b < W.heap.size → w1.cell? ⟨b, i, none⟩ = W.cell? ⟨b, i, none⟩) ∧
      Calls Tryz.prog 38 #[.pointer (some ⟨e, 0, none⟩), .int .i64 z] w1 fun e2 w2 => e2 = .returned (.int .i64 (cutE x.left z)) ∧ Two B w2 d e { x with left := cutL x.left z } m (k + 1) ∧ Below B w w2 ∧ (∀ b i, w.heap.size ≤ b → b < W.heap.size → w2.cell? ⟨b, i, none⟩ = W.cell? ⟨b, i, none⟩) := by
  obtain ⟨b2, b3⟩ := cut_bounds h.lo h.hi hz
  refine both_op (x' := { x with left := cutL x.left z }) h hk (fun W mb n rv hf => dCut_any hf.disk z) (fun _ W lv rw' hf => ?_) h.sound (Nat.le_succ_of_le h.len) b2 b3 W hW
  refine (rCut_any hf.ref z).mono ?_
  rintro e' w' ⟨rfl, h1, h2⟩
  exact ⟨rfl, lv, rw', h1, h2.mono (fun _ _ f => Or.inl f), fun _ hj => Or.inl hj⟩

theorem both_up {B : Nat} {w : World} {d e : Nat} {x : Ab} {m : Int} {k : Nat} (h : Two B w d e x m k) (hk : k + 1 < 2199023255552) (W : World) (hW : Below w.heap.size w W) :
    Calls Tryz.prog 18 #[.pointer (some ⟨d, 0, none⟩)] W fun e1 w1 => e1 = .returned (.tuple #[]) ∧ (∀ b i, w.heap.size ≤ b → b < W.heap.size → w1.cell? ⟨b, i, none⟩ = W.cell? ⟨b, i, none⟩) ∧
      Calls Tryz.prog 39 #[.pointer (some ⟨e, 0, none⟩)] w1 fun e2 w2 => e2 = .returned (.tuple #[]) ∧ Two B w2 d e { x with left := -1 } m (k + 1) ∧ Below B w w2 ∧ (∀ b i, w.heap.size ≤ b → b < W.heap.size → w2.cell? ⟨b, i, none⟩ = W.cell? ⟨b, i, none⟩) := by
  refine both_op (x' := { x with left := -1 }) h hk (fun W mb n rv hf => ?_) (fun _ W lv rw' hf => ?_) h.sound (Nat.le_succ_of_le h.len) (by show (-1 : Int) ≤ -1; decide) (by show (-1 : Int) ≤ 9223372036854775807; decide) W hW
  · refine (Up_any hf.disk).mono ?_
    rintro e' w' ⟨rfl, rfl⟩
    exact ⟨rfl, After.left hf.disk (-1)⟩
  · refine (rUp_any hf.ref).mono ?_
    rintro e' w' ⟨rfl, h1, h2⟩
    exact ⟨rfl, lv, rw', h1, h2.mono (fun _ _ f => Or.inl f), fun _ hj => Or.inl hj⟩

set_option maxHeartbeats 400000 in
theorem Clear_walk {B : Nat} {w : World} {d mb n : Nat} {rv : Value} {x : Ab} (h : IsDisk B w d mb n rv x) :
    Calls Tryz.prog 19 #[.pointer (some ⟨d, 0, none⟩)] w fun e w' => e = .returned (.tuple #[]) ∧ w' = w.setCell ⟨d, 1, none⟩ (.slice none 0 0) := by
  have c1 := h.c1
  have f1 := h.f1
  clear h
  go_enter Tryz.func19, Tryz.ntmps19
  go_wp2
  go_end0
  exact ⟨rfl, rfl⟩

theorem IsDisk.clear {B : Nat} {w : World} {d mb n : Nat} {rv : Value} {x : Ab} (h : IsDisk B w d mb n rv x) : IsDisk B (w.setCell ⟨d, 1, none⟩ (.slice none 0 0)) d mb n (.slice none 0 0) { x with rs := [] } := by
  have hc0 : (w.setCell ⟨d, 1, none⟩ (.slice none 0 0)).cell? ⟨d, 0, none⟩ = w.cell? ⟨d, 0, none⟩ := World.cell?_setCell_other _ _ _ _ (by simp)
  have hc2 : (w.setCell ⟨d, 1, none⟩ (.slice none 0 0)).cell? ⟨d, 2, none⟩ = w.cell? ⟨d, 2, none⟩ := World.cell?_setCell_other _ _ _ _ (by simp)
  exact { c0 := by rw [hc0]; exact h.c0, c1 := World.cell?_setCell_same _ _ _ h.c1, c2 := by rw [hc2]; exact h.c2,
          f1 := by rw [World.frozen?_setCell]; exact h.f1, f2 := by rw [World.frozen?_setCell]; exact h.f2,
          own := h.own.setCell (fun e => h.dm e.symm) _, row := ⟨rfl, Or.inl ⟨rfl, rfl⟩⟩,
          rd := by simp [Value.ownBlock], rm := by simp [Value.ownBlock], dm := h.dm, bd := h.bd, bm := h.bm, ld := by simp [World.setCell]; exact h.ld, keys := h.keys }

theorem IsRef.clear {B : Nat} {w : World} {e : Nat} {lv rv : Value} {fs : List Fl} {rs : List (Int × ByteArray × ByteArray)} {left : Int} (h : IsRef B w e lv rv fs rs left) : IsRef B (w.setCell ⟨e, 1, none⟩ (.slice none 0 0)) e lv (.slice none 0 0) fs [] left := by
  have hc0 : (w.setCell ⟨e, 1, none⟩ (.slice none 0 0)).cell? ⟨e, 0, none⟩ = w.cell? ⟨e, 0, none⟩ := World.cell?_setCell_other _ _ _ _ (by simp)
  have hc2 : (w.setCell ⟨e, 1, none⟩ (.slice none 0 0)).cell? ⟨e, 2, none⟩ = w.cell? ⟨e, 2, none⟩ := World.cell?_setCell_other _ _ _ _ (by simp)
  exact { c0 := by rw [hc0]; exact h.c0, c1 := World.cell?_setCell_same _ _ _ h.c1, c2 := by rw [hc2]; exact h.c2, f0 := by rw [World.frozen?_setCell]; exact h.f0, f1 := by rw [World.frozen?_setCell]; exact h.f1, f2 := by rw [World.frozen?_setCell]; exact h.f2,
          lrow := ownsRow_upd h.lrow (Upd.setCell w ⟨e, 1, none⟩ (.slice none 0 0)) (fun k hk hk' => h.le (by rw [hk]; exact congrArg some hk')), rrow := ⟨rfl, Or.inl ⟨rfl, rfl⟩⟩,
          le := h.le, re := by simp [Value.ownBlock], be := h.be, lt := by simp [World.setCell]; exact h.lt }

theorem both_clear {B : Nat} {w : World} {d e : Nat} {x : Ab} {m : Int} {k : Nat} (h : Two B w d e x m k) (W : World) (hW : Below w.heap.size w W) :
    Calls Tryz.prog 19 #[.pointer (some ⟨d, 0, none⟩)] W fun e1 w1 => e1 = .returned (.tuple #[]) ∧ (∃ rw0, w1.cell? ⟨e, 1, none⟩ = some rw0) ∧ w1.frozen? ⟨e, 1, none⟩ = false ∧
      Two B (w1.setCell ⟨e, 1, none⟩ (.slice none 0 0)) d e { x with rs := [] } m k ∧ Below B w (w1.setCell ⟨e, 1, none⟩ (.slice none 0 0)) := by
  obtain ⟨mb, n, rv, lv, rw', hdk, hrf, hap, hn⟩ := h.ex
  refine (Clear_walk (hdk.below hW)).mono ?_
  rintro e1 w1 ⟨rfl, rfl⟩
  have hu := Upd.setCell W ⟨d, 1, none⟩ (.slice none 0 0)
  have hed : ∀ j, FootR e lv rw' j → ¬ j = d := fun j hj e' => hap d (Or.inl rfl) (e' ▸ hj)
  have hr1 := (hrf.below hW).upd hu hed
  have hu2 := Upd.setCell (W.setCell ⟨d, 1, none⟩ (.slice none 0 0)) ⟨e, 1, none⟩ (.slice none 0 0)
  have hBW := Nat.le_trans h.base hW.size
  have hb1 : Below B W (W.setCell ⟨d, 1, none⟩ (.slice none 0 0)) := hu.below hBW (fun i hi => by have := hdk.bd; have : i = d := hi; omega)
  have hb2 : Below B (W.setCell ⟨d, 1, none⟩ (.slice none 0 0)) ((W.setCell ⟨d, 1, none⟩ (.slice none 0 0)).setCell ⟨e, 1, none⟩ (.slice none 0 0)) := hu2.below (Nat.le_trans hBW hu.size) (fun i hi => by have := hrf.be; have : i = e := hi; omega)
  have hbw := ((hW.mono h.base).trans hb1).trans hb2
  have hfd : ∀ j, Foot d mb (.slice none 0 0) j → Foot d mb rv j := by
    rintro j (q | q | q)
    · exact Or.inl q
    · exact Or.inr (Or.inl q)
    · cases q
  have hfr : ∀ j, FootR e lv (.slice none 0 0) j → FootR e lv rw' j := by
    rintro j (q | q | q)
    · exact Or.inl q
    · exact Or.inr (Or.inl q)
    · cases q
  refine ⟨rfl, ⟨_, hr1.c1⟩, hr1.f1, { ex := ⟨mb, n, .slice none 0 0, lv, .slice none 0 0, (hdk.below hW).clear.upd hu2 (fun j hj e' => ?_), hr1.clear, fun j hj hj' => hap j (hfd j hj) (hfr j hj'), hn⟩, sound := h.sound, len := Nat.zero_le _, lo := h.lo, hi := h.hi, max := by rw [hbw.cell (p := ⟨0, 0, none⟩) h.zero]; exact h.max, base := Nat.le_trans h.base hbw.size, zero := h.zero }, hbw⟩
  have : j = e := e'
  exact hap j (hfd j hj) (Or.inl this)

end Go.Proofs.YthijkdphlmogjaaGreatDoor
namespace Go.Proofs.YthijkdphlmogjaaGreatDoor
open Go.RowKit Go.Maps Go.WideMaps Go.WideElems Go.Sort Go.Shelf
set_option maxRecDepth 100000

/-- What a deed leaves of a disk. -/
def asksD (x : Ab) (k : Int) (p t u : ByteArray) (z : Int) : Ab :=
  if (k == 4) = true then x else if (k == 5) = true then x else if (k == 6) = true then x else if (k == 7) = true then { x with left := cutL x.left z } else if (k == 8) = true then { x with left := -1 }
  else if (k == 9) = true then { x with rs := [] } else if (k == 10) = true then x else (putsD x k p t u).2

theorem beqs_self (a : ByteArray) : (a.toList == a.toList) = true := by simp

/-- The deed is known not to be of a kind. -/
theorem not_kind {a b : Int} (h : ¬ (a == b) = true) : (a == b) = false := by simpa using h

theorem kind_of {a b : Int} (h : (a == b) = true) : a = b := by simpa using h

section
variable {B : Nat} {w : World} {d e : Nat} {x : Ab} {m : Int} {k : Nat} (h : Two B w d e x m k) (hk : k + 1 < 2199023255552) (kd : Int) (p t u : ByteArray) (z : Int)
include h hk

set_option maxHeartbeats 1000000 in
theorem asks_read (hp : p.size ≤ maxLen) (hk0 : -9223372036854775808 ≤ kd) (hk1 : kd ≤ 9223372036854775807) (k4 : (pickD kd 11 == 4) = true) :
    Calls Tryz.prog 11 #[.pointer (some ⟨d, 0, none⟩), .pointer (some ⟨e, 0, none⟩), .agg #[.int .i64 kd, .string p, .string t, .string u, .int .i64 z]] w fun e' w' => e' = .returned (.bool true) ∧ Two B w' d e x m (k + 1) ∧ Below B w w' := by
  have hpk := fun W => pick_any kd 11 W hk0 hk1 (by decide) (by decide)
  have hW := alloc_below w (deedObj kd p t u z)
  obtain ⟨_, b1, _, _, _⟩ := deed_cells w kd p t u z
  have hkk := h.files
  obtain ⟨mb, n, rv, lv, rw', hdk, hrf, hap, hn⟩ := h.ex
  have hpl := h.plain
  have hc1 := Read_any (hdk.below hW) p m (cell_below h.max hW) hp
  have HC2 : Hid (∀ W, Below w.heap.size w W → Calls Tryz.prog 33 #[.pointer (some ⟨e, 0, none⟩), .string p] W fun e w' => e = .returned (.tuple #[.string (readT x.D p), .int .i64 (readE x.D p)]) ∧ Below W.heap.size W w') :=
    fun W hb => rRead_any (hrf.below hb) hpl.good p hp (by omega)
  have HH := hide3 h
  have HW := hide3 hW
  have hlt : w.heap.size < (w.alloc (deedObj kd p t u z)).heap.size := by show w.heap.size < (w.heap.push _).size; simp
  have hs1 := beqs_self (readT x.D p)
  have hs2 := self_eq (readE x.D p)
  clear h hdk hrf hap hn hpl hW
  generalize readT x.D p = rt at *
  generalize readE x.D p = re at *
  generalize pickD kd 11 = pk at *
  obtain rfl := kind_of k4
  go_enter Tryz.func11, Tryz.ntmps11
  go_wp2_with (first
    | (go_at_call 32; refine (hpk _).mono ?_; rintro e w1 ⟨rfl, rfl⟩)
    | (go_at_call 21; refine hc1.mono ?_; rintro e w1 ⟨rfl, hb1⟩; have q1 := (hb1.cell (p := ⟨w.heap.size, 1, none⟩) hlt).trans b1; have HB1 := hide3 (HW.out.trans (hb1.mono HW.out.size)); clear hb1)
    | (go_at_call 33; refine (HC2.out _ HB1.out).mono ?_; rintro e w2 ⟨rfl, hb2⟩))
  go_ret
  have hb := HB1.out.trans (hb2.mono HB1.out.size)
  exact ⟨rfl, (HH.out.below hb).more (Nat.le_succ _), hb.mono HH.out.base⟩

set_option maxHeartbeats 2000000 in
theorem asks_kind (hp : p.size ≤ maxLen) (hk0 : -9223372036854775808 ≤ kd) (hk1 : kd ≤ 9223372036854775807) (k4 : (pickD kd 11 == 5) = true) :
    Calls Tryz.prog 11 #[.pointer (some ⟨d, 0, none⟩), .pointer (some ⟨e, 0, none⟩), .agg #[.int .i64 kd, .string p, .string t, .string u, .int .i64 z]] w fun e' w' => e' = .returned (.bool true) ∧ Two B w' d e x m (k + 1) ∧ Below B w w' := by
  have hpk := fun W => pick_any kd 11 W hk0 hk1 (by decide) (by decide)
  have hW := alloc_below w (deedObj kd p t u z)
  obtain ⟨b0, b1, b2, b3, b4⟩ := deed_cells w kd p t u z
  have hkk := h.files
  have HH := hide3 h
  have HW := hide3 hW
  have hlt : w.heap.size < (w.alloc (deedObj kd p t u z)).heap.size := by show w.heap.size < (w.heap.push _).size; simp
  obtain ⟨mb, n, rv, lv, rw', hdk, hrf, hap, hn⟩ := h.ex
  have hpl := h.plain
  have hc1 := Kind_any ((hdk.below hW).below ((Below.refl _ (w.alloc (deedObj kd p t u z))).drew)) p hp
  have HC2 : Hid (∀ W, Below w.heap.size w W → Calls Tryz.prog 28 #[.pointer (some ⟨e, 0, none⟩), .string p] W fun e w' => e = .returned (.int .i64 (kindD x.D p)) ∧ w' = W) :=
    fun W hb => rKind_any (hrf.below hb) hpl.good p (by omega)
  have hs2 := self_eq (kindD x.D p)
  clear h hdk hrf hap hn hpl hW
  generalize kindD x.D p = re at *
  generalize pickD kd 11 = pk at *
  obtain rfl := kind_of k4
  go_enter Tryz.func11, Tryz.ntmps11
  go_wp2_with (go_at_call 32; refine (hpk _).mono ?_; rintro e w1 ⟨rfl, rfl⟩)
  go_region_held3 (fun w' => w'.cell? ⟨w.heap.size, 1, none⟩ = some (.string p)) (go_keep)
    (first
      | (go_at_call 16; refine hc1.mono ?_; rintro e w1 ⟨rfl, hb1⟩; have q1 := (hb1.cell (p := ⟨w.heap.size, 1, none⟩) hlt).trans b1; have HB1 := hide3 ((HW.out.drew).trans (hb1.mono (HW.out.drew).size)); clear hb1)
      | (go_at_call 28; refine (HC2.out _ HB1.out).mono ?_; rintro e w2 ⟨rfl, rfl⟩))
  all_goals go_wp2
  all_goals
    go_ret
    exact ⟨rfl, (HH.out.below HB1.out).more (Nat.le_succ _), HB1.out.mono HH.out.base⟩

set_option maxHeartbeats 2000000 in
theorem asks_list (hp : p.size ≤ maxLen) (hk0 : -9223372036854775808 ≤ kd) (hk1 : kd ≤ 9223372036854775807) (k4 : (pickD kd 11 == 6) = true) :
    Calls Tryz.prog 11 #[.pointer (some ⟨d, 0, none⟩), .pointer (some ⟨e, 0, none⟩), .agg #[.int .i64 kd, .string p, .string t, .string u, .int .i64 z]] w fun e' w' => e' = .returned (.bool true) ∧ Two B w' d e x m (k + 1) ∧ Below B w w' := by
  have hpk := fun W => pick_any kd 11 W hk0 hk1 (by decide) (by decide)
  have hW := alloc_below w (deedObj kd p t u z)
  obtain ⟨b0, b1, b2, b3, b4⟩ := deed_cells w kd p t u z
  have hkk := h.files
  have HH := hide3 h
  have HW := hide3 hW
  have hlt : w.heap.size < (w.alloc (deedObj kd p t u z)).heap.size := by show w.heap.size < (w.heap.push _).size; simp
  obtain ⟨mb, n, rv, lv, rw', hdk, hrf, hap, hn⟩ := h.ex
  have hpl := h.plain
  have hc1 := List_any (hdk.below hW) p m (cell_below h.max hW) hp (by omega)
  have HC2 : Hid (∀ W, Below w.heap.size w W → Calls Tryz.prog 35 #[.pointer (some ⟨e, 0, none⟩), .string p] W fun e' w' => ∃ ao cap, e' = .returned (.tuple #[.slice ao (listT x.D p).length cap, .int .i64 (listE x.D p)]) ∧
      w'.ownsRow W.heap.size 9 1 (.slice ao (listT x.D p).length cap) (listT x.D p).length ((listT x.D p).map encStr) ∧ Below W.heap.size W w') :=
    fun W hb => rList_any (hrf.below hb) hpl p hp (by omega)
  have hs2 := self_eq (listE x.D p)
  have HTL : Hid ((listT x.D p).length ≤ 2199023255552) := by
    have : (listT x.D p).length ≤ (filesD x.D).length := by
      unfold listT
      split
      · unfold namesD kidsD; rw [List.length_map]; exact List.length_filter_le _ _
      · simp
    unfold Hid; omega
  clear h hdk hrf hap hn hpl hW
  generalize listT x.D p = lt at *
  generalize listE x.D p = re at *
  generalize pickD kd 11 = pk at *
  obtain rfl := kind_of k4
  go_enter Tryz.func11, Tryz.ntmps11
  go_wp2_with (first
    | (go_at_call 32; refine (hpk _).mono ?_; rintro e w1 ⟨rfl, rfl⟩)
    | (go_at_call 34; refine hc1.mono ?_; rintro e w1 ⟨ao1, cap1, rfl, hr1, hb1⟩; have q1 := (hb1.cell (p := ⟨w.heap.size, 1, none⟩) hlt).trans b1; have HB1 := hide3 (HW.out.trans (hb1.mono HW.out.size)); have HR1 := hide3 hr1; clear hb1 hr1)
    | (go_at_call 35; refine (HC2.out _ HB1.out).mono ?_; rintro e w2 ⟨ao2, cap2, rfl, hr2, hb2⟩; have HR2 := hide3 hr2; have HB2 := hide3 (HB1.out.trans (hb2.mono HB1.out.size)); have HT := hide3 (texts_any lt HTL.out (ownsRow_upd HR1.out (Upd.of_below (F := fun _ => False) hb2) (fun _ _ f => f)) HR2.out); clear hr2 hb2)
    | (go_at_call 36; refine HT.out.mono ?_; rintro e w3 ⟨rfl, q, rfl⟩))
  go_ret
  have hb : Below w.heap.size w (w2.drewN q) := ⟨HB2.out.os, HB2.out.tape, HB2.out.output, HB2.out.size, HB2.out.block⟩
  exact ⟨rfl, (HH.out.below hb).more (Nat.le_succ _), hb.mono HH.out.base⟩

set_option maxHeartbeats 2000000 in
theorem asks_cut (hk0 : -9223372036854775808 ≤ kd) (hk1 : kd ≤ 9223372036854775807) (hz : z ≤ 9223372036854775807) (k4 : (pickD kd 11 == 7) = true) :
    Calls Tryz.prog 11 #[.pointer (some ⟨d, 0, none⟩), .pointer (some ⟨e, 0, none⟩), .agg #[.int .i64 kd, .string p, .string t, .string u, .int .i64 z]] w fun e' w' => e' = .returned (.bool true) ∧ Two B w' d e { x with left := cutL x.left z } m (k + 1) ∧ Below B w w' := by
  have hpk := fun W => pick_any kd 11 W hk0 hk1 (by decide) (by decide)
  have hW := alloc_below w (deedObj kd p t u z)
  obtain ⟨b0, b1, b2, b3, b4⟩ := deed_cells w kd p t u z
  have hkk := h.files
  have HH := hide3 h
  have HW := hide3 hW
  have hlt : w.heap.size < (w.alloc (deedObj kd p t u z)).heap.size := by show w.heap.size < (w.heap.push _).size; simp
  have hc1 := both_cut h hk z hz _ hW.drew
  have hs2 := self_eq (cutE x.left z)
  clear h hW
  generalize cutE x.left z = re at *
  generalize pickD kd 11 = pk at *
  obtain rfl := kind_of k4
  go_enter Tryz.func11, Tryz.ntmps11
  go_wp2_with (go_at_call 32; refine (hpk _).mono ?_; rintro e w1 ⟨rfl, rfl⟩)
  go_region_held3 (fun w' => w'.cell? ⟨w.heap.size, 4, none⟩ = some (.int .i64 z)) (go_keep)
    (first
      | (go_at_call 37; refine hc1.mono ?_; rintro e w1 ⟨rfl, hbx, hnx⟩; have HNX := hide3 hnx; clear hnx; have q1 := (hbx w.heap.size 4 (Nat.le_refl _) hlt).trans b4; clear hbx)
      | (go_at_call 38; refine HNX.out.mono ?_; rintro e w2 ⟨rfl, ha, hb, hbx2⟩; have q2 := (hbx2 w.heap.size 4 (Nat.le_refl _) hlt).trans b4; clear hbx2))
  all_goals go_wp2
  all_goals
    go_ret
    exact ⟨rfl, ha, hb⟩

set_option maxHeartbeats 2000000 in
theorem asks_up (hk0 : -9223372036854775808 ≤ kd) (hk1 : kd ≤ 9223372036854775807) (k4 : (pickD kd 11 == 8) = true) :
    Calls Tryz.prog 11 #[.pointer (some ⟨d, 0, none⟩), .pointer (some ⟨e, 0, none⟩), .agg #[.int .i64 kd, .string p, .string t, .string u, .int .i64 z]] w fun e' w' => e' = .returned (.bool true) ∧ Two B w' d e { x with left := -1 } m (k + 1) ∧ Below B w w' := by
  have hpk := fun W => pick_any kd 11 W hk0 hk1 (by decide) (by decide)
  have hW := alloc_below w (deedObj kd p t u z)
  obtain ⟨b0, b1, b2, b3, b4⟩ := deed_cells w kd p t u z
  have hkk := h.files
  have HH := hide3 h
  have HW := hide3 hW
  have hlt : w.heap.size < (w.alloc (deedObj kd p t u z)).heap.size := by show w.heap.size < (w.heap.push _).size; simp
  have hc1 := both_up h hk _ hW
  clear h hW
  generalize pickD kd 11 = pk at *
  obtain rfl := kind_of k4
  go_enter Tryz.func11, Tryz.ntmps11
  go_wp2_with (first
    | (go_at_call 32; refine (hpk _).mono ?_; rintro e w1 ⟨rfl, rfl⟩)
    | (go_at_call 18; refine hc1.mono ?_; rintro e w1 ⟨rfl, hbx, hnx⟩; have HNX := hide3 hnx; clear hnx hbx)
    | (go_at_call 39; refine HNX.out.mono ?_; rintro e w2 ⟨rfl, ha, hb, hbx2⟩))
  go_ret
  exact ⟨rfl, ha, hb⟩

omit hk in
set_option maxHeartbeats 2000000 in
theorem asks_clear (hk0 : -9223372036854775808 ≤ kd) (hk1 : kd ≤ 9223372036854775807) (k4 : (pickD kd 11 == 9) = true) :
    Calls Tryz.prog 11 #[.pointer (some ⟨d, 0, none⟩), .pointer (some ⟨e, 0, none⟩), .agg #[.int .i64 kd, .string p, .string t, .string u, .int .i64 z]] w fun e' w' => e' = .returned (.bool true) ∧ Two B w' d e { x with rs := [] } m (k + 1) ∧ Below B w w' := by
  have hpk := fun W => pick_any kd 11 W hk0 hk1 (by decide) (by decide)
  have hW := alloc_below w (deedObj kd p t u z)
  obtain ⟨b0, b1, b2, b3, b4⟩ := deed_cells w kd p t u z
  have hkk := h.files
  have HH := hide3 h
  have HW := hide3 hW
  have hlt : w.heap.size < (w.alloc (deedObj kd p t u z)).heap.size := by show w.heap.size < (w.heap.push _).size; simp
  have hc1 := both_clear h _ hW
  clear h hW
  generalize pickD kd 11 = pk at *
  obtain rfl := kind_of k4
  go_enter Tryz.func11, Tryz.ntmps11
  go_wp2_with (first
    | (go_at_call 32; refine (hpk _).mono ?_; rintro e w1 ⟨rfl, rfl⟩)
    | (go_at_call 19; refine hc1.mono ?_; rintro e w1 ⟨rfl, ⟨rw0, q0⟩, q1, ha, hb⟩; have HA := hide3 ha; have HB := hide3 hb; clear ha hb))
  go_ret
  exact ⟨rfl, HA.out.more (Nat.le_succ _), HB.out⟩

set_option maxHeartbeats 2000000 in
theorem asks_all (hk0 : -9223372036854775808 ≤ kd) (hk1 : kd ≤ 9223372036854775807) (k4 : (pickD kd 11 == 10) = true) :
    Calls Tryz.prog 11 #[.pointer (some ⟨d, 0, none⟩), .pointer (some ⟨e, 0, none⟩), .agg #[.int .i64 kd, .string p, .string t, .string u, .int .i64 z]] w fun e' w' => e' = .returned (.bool true) ∧ Two B w' d e x m (k + 1) ∧ Below B w w' := by
  have hpk := fun W => pick_any kd 11 W hk0 hk1 (by decide) (by decide)
  have hW := alloc_below w (deedObj kd p t u z)
  obtain ⟨b0, b1, b2, b3, b4⟩ := deed_cells w kd p t u z
  have hkk := h.files
  have HH := hide3 h
  have HW := hide3 hW
  have hlt : w.heap.size < (w.alloc (deedObj kd p t u z)).heap.size := by show w.heap.size < (w.heap.push _).size; simp
  obtain ⟨mb, n, rv, lv, rw', hdk, hrf, hap, hn⟩ := h.ex
  have hc1 := All_any ((hdk.below hW).below ((Below.refl _ (w.alloc (deedObj kd p t u z))).drew)) (by omega)
  obtain ⟨lo, lc, hlv⟩ : ∃ lo lc, lv = .slice lo (filesD x.D).length lc := by
    rcases hrf.lrow.2 with ⟨rfl, h0⟩ | ⟨g, cap, cur, rfl, _⟩
    · exact ⟨none, 0, by rw [h0]⟩
    · exact ⟨some ⟨g, 0, none⟩, cap, rfl⟩
  subst hlv
  have c0 : (w.alloc (.cells #[.int .i64 kd, .string p, .string t, .string u, .int .i64 z] 36)).cell? ⟨e, 0, none⟩ = some (.slice lo (filesD x.D).length lc) := (hrf.below hW).c0
  have hel := Nat.lt_of_lt_of_le hrf.lt hW.size
  have HFL : Hid (∀ W ao cap, Below w.heap.size w W → W.ownsRow (w.alloc (deedObj kd p t u z)).drew.heap.size 47 3 (.slice ao (filesD x.D).length cap) (filesD x.D).length (fileCells (filesD x.D)) → Calls Tryz.prog 12 #[.slice ao (filesD x.D).length cap, .slice lo (filesD x.D).length lc] W fun e w' => e = .returned (.bool true) ∧ ∃ q, w' = W.drewN q) :=
    fun W ao cap hb hrow => files_any (filesD x.D) (by omega) hrow (hrf.below hb).lrow
  have HC0 : Hid (∀ W, Below w.heap.size w W → W.cell? ⟨e, 0, none⟩ = some (.slice lo (filesD x.D).length lc)) := fun W hb => (hrf.below hb).c0
  clear h hdk hrf hap hn hW
  generalize filesD x.D = fs at *
  generalize pickD kd 11 = pk at *
  obtain rfl := kind_of k4
  go_enter Tryz.func11, Tryz.ntmps11
  go_wp2_with (go_at_call 32; refine (hpk _).mono ?_; rintro e w1 ⟨rfl, rfl⟩)
  go_region_held3 (fun w' => w'.cell? ⟨e, 0, none⟩ = some (.slice lo fs.length lc)) (go_keep)
    (first
      | (go_at_call 13; refine hc1.mono ?_; rintro e w1 ⟨ao1, cap1, rfl, hr1, hb1⟩; have HB1 := hide3 ((HW.out.drew).trans (hb1.mono (HW.out.drew).size)); have q1 := HC0.out _ HB1.out; have HR1 := hide3 hr1; clear hb1 hr1)
      | (go_at_call 12; refine (HFL.out _ _ _ HB1.out HR1.out).mono ?_; rintro e w2 ⟨rfl, q, rfl⟩))
  all_goals go_wp2
  all_goals
    go_ret
    have hb : Below w.heap.size w (w1.drewN q) := ⟨HB1.out.os, HB1.out.tape, HB1.out.output, HB1.out.size, HB1.out.block⟩
    exact ⟨rfl, (HH.out.below hb).more (Nat.le_succ _), hb.mono HH.out.base⟩

set_option maxHeartbeats 2000000 in
theorem asks_writes (hp : p.size ≤ maxLen) (ht : t.size ≤ maxLen) (hu : u.size ≤ maxLen) (hk0 : -9223372036854775808 ≤ kd) (hk1 : kd ≤ 9223372036854775807) (k4 : (pickD kd 11 == 4) = false) (k5 : (pickD kd 11 == 5) = false) (k6 : (pickD kd 11 == 6) = false) (k7 : (pickD kd 11 == 7) = false) (k8 : (pickD kd 11 == 8) = false) (k9 : (pickD kd 11 == 9) = false) (k10 : (pickD kd 11 == 10) = false) :
    Calls Tryz.prog 11 #[.pointer (some ⟨d, 0, none⟩), .pointer (some ⟨e, 0, none⟩), .agg #[.int .i64 kd, .string p, .string t, .string u, .int .i64 z]] w fun e' w' => e' = .returned (.bool true) ∧ Two B w' d e (putsD x (pickD kd 11) p t u).2 m (k + 1) ∧ Below B w w' := by
  have hpk := fun W => pick_any kd 11 W hk0 hk1 (by decide) (by decide)
  have hW := alloc_below w (deedObj kd p t u z)
  obtain ⟨b0, b1, b2, b3, b4⟩ := deed_cells w kd p t u z
  have hkk := h.files
  have HH := hide3 h
  have HW := hide3 hW
  have hlt : w.heap.size < (w.alloc (deedObj kd p t u z)).heap.size := by show w.heap.size < (w.heap.push _).size; simp
  have hc1 := writes_any (h.below hW) hk kd p t u z hp ht hu hk0 hk1
  clear h
  generalize putsD x (pickD kd 11) p t u = r at *
  generalize pickD kd 11 = pk at *
  go_enter Tryz.func11, Tryz.ntmps11
  go_wp2_with (first
    | (go_at_call 32; refine (hpk _).mono ?_; rintro e w1 ⟨rfl, rfl⟩)
    | (go_at_call 40; refine hc1.mono ?_; rintro e w2 ⟨rfl, ha, hb⟩))
  go_ret
  exact ⟨rfl, ha, (hW.mono HH.out.base).trans hb⟩

end

end Go.Proofs.YthijkdphlmogjaaGreatDoor
namespace Go.Proofs.YthijkdphlmogjaaGreatDoor
open Go.RowKit Go.Maps Go.WideMaps Go.WideElems Go.Sort Go.Shelf
set_option maxRecDepth 100000

theorem asks_any {B : Nat} {w : World} {d e : Nat} {x : Ab} {m : Int} {k : Nat} (h : Two B w d e x m k) (hk : k + 1 < 2199023255552) (kd : Int) (p t u : ByteArray) (z : Int) (hp : p.size ≤ maxLen) (ht : t.size ≤ maxLen) (hu : u.size ≤ maxLen) (hk0 : -9223372036854775808 ≤ kd) (hk1 : kd ≤ 9223372036854775807) (hz : z ≤ 9223372036854775807) :
    Calls Tryz.prog 11 #[.pointer (some ⟨d, 0, none⟩), .pointer (some ⟨e, 0, none⟩), .agg #[.int .i64 kd, .string p, .string t, .string u, .int .i64 z]] w fun e' w' => e' = .returned (.bool true) ∧ Two B w' d e (asksD x (pickD kd 11) p t u z) m (k + 1) ∧ Below B w w' := by
  unfold asksD
  by_cases k4 : (pickD kd 11 == 4) = true
  · rw [if_pos k4]; exact asks_read h hk kd p t u z hp hk0 hk1 k4
  rw [if_neg k4]
  by_cases k5 : (pickD kd 11 == 5) = true
  · rw [if_pos k5]; exact asks_kind h hk kd p t u z hp hk0 hk1 k5
  rw [if_neg k5]
  by_cases k6 : (pickD kd 11 == 6) = true
  · rw [if_pos k6]; exact asks_list h hk kd p t u z hp hk0 hk1 k6
  rw [if_neg k6]
  by_cases k7 : (pickD kd 11 == 7) = true
  · rw [if_pos k7]; exact asks_cut h hk kd p t u z hk0 hk1 hz k7
  rw [if_neg k7]
  by_cases k8 : (pickD kd 11 == 8) = true
  · rw [if_pos k8]; exact asks_up h hk kd p t u z hk0 hk1 k8
  rw [if_neg k8]
  by_cases k9 : (pickD kd 11 == 9) = true
  · rw [if_pos k9]; exact asks_clear h kd p t u z hk0 hk1 k9
  rw [if_neg k9]
  by_cases k10 : (pickD kd 11 == 10) = true
  · rw [if_pos k10]; exact asks_all h hk kd p t u z hk0 hk1 k10
  rw [if_neg k10]
  exact asks_writes h hk kd p t u z hp ht hu hk0 hk1 (not_kind k4) (not_kind k5) (not_kind k6) (not_kind k7) (not_kind k8) (not_kind k9) (not_kind k10)

/-- A deed in memory: its five cells, in their bounds. -/
def DeedAt (w : World) (g o : Nat) : Prop := ∃ (k : Int) (p t u : ByteArray) (z : Int),
  w.cell? ⟨g, o, none⟩ = some (.int .i64 k) ∧ w.cell? ⟨g, o + 1, none⟩ = some (.string p) ∧ w.cell? ⟨g, o + 1 + 1, none⟩ = some (.string t) ∧ w.cell? ⟨g, o + 1 + 1 + 1, none⟩ = some (.string u) ∧ w.cell? ⟨g, o + 1 + 1 + 1 + 1, none⟩ = some (.int .i64 z) ∧
  -9223372036854775808 ≤ k ∧ k ≤ 9223372036854775807 ∧ p.size ≤ maxLen ∧ t.size ≤ maxLen ∧ u.size ≤ maxLen ∧ -9223372036854775808 ≤ z ∧ z ≤ 9223372036854775807

theorem DeedAt.below {w w' : World} {g o B : Nat} (h : DeedAt w g o) (hb : Below B w w') (hg : g < B) : DeedAt w' g o := by
  obtain ⟨k, p, t, u, z, h0, h1, h2, h3, h4, r⟩ := h
  have q : ∀ i, w'.cell? ⟨g, i, none⟩ = w.cell? ⟨g, i, none⟩ := fun i => hb.cell (p := ⟨g, i, none⟩) hg
  exact ⟨k, p, t, u, z, by rw [q]; exact h0, by rw [q]; exact h1, by rw [q]; exact h2, by rw [q]; exact h3, by rw [q]; exact h4, r⟩

def wNew (w : World) : World := (w.alloc (.map #[] 0)).alloc (.cells #[.map (some w.heap.size), .slice none 0 0, .int .i64 (-1)] 59)
theorem New_any (w : World) : Calls Tryz.prog 14 #[] w fun e w' => e = .returned (.pointer (some ⟨w.heap.size + 1, 0, none⟩)) ∧ w' = wNew w := New_walk w
theorem size_wNew (w : World) : (wNew w).heap.size = w.heap.size + 2 := by simp [wNew]

/-- Two new disks. -/
def wTwo (w : World) : World := (wNew w).alloc (.cells #[.slice none 0 0, .slice none 0 0, .int .i64 (-1)] 40)
theorem rNew_any (w : World) : Calls Tryz.prog 15 #[] (wNew w) fun e w' => e = .returned (.pointer (some ⟨w.heap.size + 2, 0, none⟩)) ∧ w' = wTwo w := by
  have := rNew_walk (wNew w)
  rw [size_wNew] at this
  exact this

theorem start_two (w : World) (m : Int) (hm : w.cell? ⟨0, 0, none⟩ = some (.int .i64 m)) : Two w.heap.size (wTwo w) (w.heap.size + 1) (w.heap.size + 2) newAb m 0 ∧ Below w.heap.size w (wTwo w) := by
  have h0 : 0 < w.heap.size := cell_lt hm
  have fa : Fit w.heap.size (wNew w) (w.heap.size + 1) w.heap.size 0 (.slice none 0 0) newAb m := new_fit hm (Nat.le_refl _)
  have hb1 : Below w.heap.size w (wNew w) := new_below w
  have hb2 : Below (wNew w).heap.size (wNew w) (wTwo w) := (Below.refl _ _).alloc (Nat.le_refl _) _
  have hr : IsRef w.heap.size (wTwo w) (w.heap.size + 2) (.slice none 0 0) (.slice none 0 0) (filesD newAb.D) newAb.rs newAb.left := by
    have := rnew_is (w := wNew w) (B := w.heap.size) hb1.size
    rw [size_wNew] at this
    exact this
  have hbw : Below w.heap.size w (wTwo w) := hb1.trans (hb2.mono hb1.size)
  refine ⟨{ ex := ⟨w.heap.size, 0, .slice none 0 0, .slice none 0 0, .slice none 0 0, fa.disk.below hb2, hr, ?_, Nat.le_refl _⟩, sound := ?_, len := Nat.le_refl _, lo := by decide, hi := by decide, max := by rw [hbw.cell (p := ⟨0, 0, none⟩) h0]; exact hm, base := hbw.size, zero := h0 }, hbw⟩
  · rintro j (rfl | rfl | hj) (e | e | e)
    · omega
    · cases e
    · cases e
    · omega
    · cases e
    · cases e
    · cases hj
    · cases hj
    · cases hj
  · intro s hs
    cases hs

end Go.Proofs.YthijkdphlmogjaaGreatDoor
namespace Go.Proofs.YthijkdphlmogjaaGreatDoor
open Go.ChangeShapes Go.WideShapes Go.ChangeAt Go.RowKit
set_option maxRecDepth 100000

/-- The wrap that hands on what is listed, the reach and the world's shape. -/
theorem wrap_shaped {H : Type} {enc : TypeId × Value → H} {a : Assume} {C : Checked} {os : Os} {f : FuncId} {fn : Func} {s : ChangeSpec} {conds : List PathCond} {apart fresh handsOn again : Bool} {X : World → Array Value → Prop}
    (own : ownKnob C.prog.godebug = none) (started : os.Started) (noInit : C.prog.inits.idxOf? f = none) (hfn : C.prog.funcs[f]? = some fn)
    (witness : ∃ (w : World) (tape : Tape) (i : Input), w.os = os ∧ (w.forCall tape i).Shaped C.prog ∧ i.vars = [] ∧ Input.okWide C.prog (w.forCall tape i) .any w.heap.size f i ∧
      ((s.pre enc C.prog fn conds apart (w.forCall tape i).memory i.args ∧ X (w.forCall tape i).memory i.args) ∧ sizedMet enc C.prog fn (OpenSpec.ofChange s) apart (w.forCall tape i).memory i.args) ∧ a.holds C.prog (lone (Frame.enter C.prog f i.args .normal) [] (w.forCall tape i)))
    (contract : ∀ (W : World) (base : Nat) (args : Array Value) (ds gs : List (DataW H)) (before : List MemPlace),
      (∀ (j : Nat) t v, fn.params[j]? = some t → args[j]? = some v → Value.okWide C.prog W .any base t v) →
      DataW.Whole enc C.prog fn.params.toList s.vars apart W args.toList ds gs before →
      (DataW.weightsEach C.prog (fn.params.toList ++ s.plain.varTypes C.prog) (ds ++ gs)).all (· ≤ reachBytes) = true → W.ShapedOpen C.prog →
      Calls C.prog f args W fun e W' => ∃ v, e = .returned v ∧ s.post enc C.prog fn apart fresh handsOn again W args v W') :
    ReturnsInHanded a C os f .any (fun w args => (s.pre enc C.prog fn conds apart w args ∧ X w args) ∧ sizedMet enc C.prog fn (OpenSpec.ofChange s) apart w args) (s.post enc C.prog fn apart fresh handsOn again) := by
  refine returnsInHanded_of_calls own started noInit witness ?_
  intro w tape i _ hsh _ hok hpre _
  obtain ⟨_, _, _, fn', hfn', _, _, _, _, hval⟩ := hok
  have e : fn' = fn := Option.some.inj (hfn'.symm.trans hfn)
  subst e
  obtain ⟨⟨⟨ds, gs, before, hw, _⟩, _⟩, hz⟩ := hpre
  have hw' := DataW.Whole.of_heap (w' := w.forCall tape i) (by rfl) hw
  refine (contract (w.forCall tape i) w.heap.size i.args ds gs before hval hw' (hz.weights hw) hsh).mono fun e W' ⟨v, he, hp⟩ => ?_
  subst he
  exact ChangeSpec.post_blind hp

theorem own : ownKnob Tryz.prog.godebug = none := by kernel_rfl
theorem laidOut : laidOutB Tryz.prog = true := by kernel_rfl
theorem cellsDeed : Tryz.prog.cellsOf 36 = 5 := by kernel_rfl
theorem bytesDeed : Tryz.prog.bytesOf 36 = 64 := by kernel_rfl

theorem max_cell {W : World} (h : W.ShapedOpen Tryz.prog) : ∃ m, W.cell? ⟨0, 0, none⟩ = some (.int .i64 m) :=
  cell_of_shapedOpen_int (t := 3) (zero := #[.int .i64 0]) h (by decide +kernel) (by kernel_rfl) rfl (by kernel_rfl) (by kernel_rfl) Tryz.underlying3

theorem list5 {α : Type} {l : List α} (h : l.length = 5) : ∃ a b c d e, l = [a, b, c, d, e] := by
  match l, h with
  | [a, b, c, d, e], _ => exact ⟨a, b, c, d, e, rfl⟩

theorem wf_bounds {k : Int} (h : (Lit.int .i64 k).wf = true) : -9223372036854775808 ≤ k ∧ k ≤ 9223372036854775807 := bounds_i64 h

theorem cellsInt : Tryz.prog.cellsOf 3 = 1 := by kernel_rfl
theorem cellsString : Tryz.prog.cellsOf 9 = 1 := by kernel_rfl

theorem take_one {cs : List Value} {o : Nat} {v : Value} (h : (cs.drop o).take 1 = [v]) : cs[o]? = some v := by
  have h0 : ((cs.drop o).take 1)[0]? = some v := by rw [h]; rfl
  simpa using h0

theorem field_at {fs : Array Field} {i ty off : Nat} (h : (fs[i]?).map (fun f => (f.type, f.offset)) = some (ty, off)) : ∃ f, fs[i]? = some f ∧ f.type = ty ∧ f.offset = off := by
  cases hf : fs[i]? with
  | none => rw [hf] at h; cases h
  | some f =>
    rw [hf] at h
    simp only [Option.map_some, Option.some.injEq, Prod.mk.injEq] at h
    exact ⟨f, rfl, h.1, h.2⟩

theorem deed_read {H : Type} {enc : TypeId × Value → H} {W : World} {base : Nat} {spare : Nat → Bool} {held : Bool} {n : Nat} {g o : Nat} {cs : List Value} {x : DataW H × List MemPlace} (hc : W.cells? base ⟨g, o, none⟩ 5 = some cs) (h : DataW.trod enc Tryz.prog W base spare held n 36 cs = some x) : DeedAt W g o := by
  have hs : Tryz.prog.underlying 36 = some (.struct (Tryz.prog.fieldsOf 36)) := by kernel_rfl
  obtain ⟨xs, n', _, _, _, hxl, hf⟩ := DataW.trod_struct hs h
  have hsz : (Tryz.prog.fieldsOf 36).size = 5 := by kernel_rfl
  obtain ⟨_, _, hq⟩ := World.cells?_some hc
  have ints : ∀ i off, ((Tryz.prog.fieldsOf 36)[i]?).map (fun f => (f.type, f.offset)) = some (3, off) → i < 5 → ∃ k, cs[off]? = some (.int .i64 k) ∧ (Lit.int .i64 k).wf = true := by
    intro i off hfd hi
    obtain ⟨f, h1, h2, h3⟩ := field_at hfd
    have hr := hf i f h1
    rw [h2, h3, cellsInt, List.getElem?_eq_getElem (by omega : i < xs.length)] at hr
    obtain ⟨k, e1, _, wk⟩ := DataW.trod_int Tryz.underlying3 hr
    exact ⟨k, take_one e1, wk⟩
  have strs : ∀ i off, ((Tryz.prog.fieldsOf 36)[i]?).map (fun f => (f.type, f.offset)) = some (9, off) → i < 5 → ∃ s, cs[off]? = some (.string s) ∧ s.size ≤ maxLen := by
    intro i off hfd hi
    obtain ⟨f, h1, h2, h3⟩ := field_at hfd
    have hr := hf i f h1
    rw [h2, h3, cellsString, List.getElem?_eq_getElem (by omega : i < xs.length)] at hr
    obtain ⟨s, e1, _, ws⟩ := DataW.trod_string Tryz.underlying9 hr
    exact ⟨s, take_one e1, ws⟩
  obtain ⟨k, a0, wk⟩ := ints 0 0 (by kernel_rfl) (by decide)
  obtain ⟨p, a1, wp⟩ := strs 1 1 (by kernel_rfl) (by decide)
  obtain ⟨t, a2, wt⟩ := strs 2 2 (by kernel_rfl) (by decide)
  obtain ⟨u, a3, wu⟩ := strs 3 3 (by kernel_rfl) (by decide)
  obtain ⟨z, a4, wz⟩ := ints 4 4 (by kernel_rfl) (by decide)
  have ad : ∀ i, (⟨g, o, none⟩ : Addr).add i = ⟨g, o + i, none⟩ := fun i => by unfold Addr.add; split <;> simp_all
  have q0 := hq 0 (by decide)
  have q1 := hq 1 (by decide)
  have q2 := hq 2 (by decide)
  have q3 := hq 3 (by decide)
  have q4 := hq 4 (by decide)
  rw [ad] at q0 q1 q2 q3 q4
  exact ⟨k, p, t, u, z, by rw [← a0, ← q0]; rfl, by rw [← a1, ← q1], by rw [← a2, ← q2], by rw [← a3, ← q3], by rw [← a4, ← q4], (wf_bounds wk).1, (wf_bounds wk).2, wp, wt, wu, (wf_bounds wz).1, (wf_bounds wz).2⟩

/-- What the walk is told of a row of deeds that came in. -/
def IsDeeds (w : World) (a : Option Addr) (len : Nat) : Prop := len = 0 ∨ ∃ g off, a = some ⟨g, off, none⟩ ∧ g < w.heap.size ∧ ∀ i, i < len → DeedAt w g (off + i * 5)

theorem open_deeds {H : Type} {enc : TypeId × Value → H} {W : World} {base fuel : Nat} {held : Bool} {a : Option Addr} {len cap : Nat} {x : DataW H × List MemPlace} (h : DataW.trod enc Tryz.prog W base (fun _ => true) held fuel 23 [.slice a len cap] = some x) :
    IsDeeds W a len ∧ (len = 0 ∨ ∃ el sp, x.1 = .slice el sp ∧ len ≤ el.length + sp.length) := by
  rcases Go.Deep.open_slice Tryz.underlying23 h with ⟨hcs, _⟩ | ⟨ad, l, c, m, n, D, Pl, hcs, _, hl, _, hm, hx, hel⟩
  · simp only [List.cons.injEq, Value.slice.injEq, and_true] at hcs
    exact ⟨Or.inl hcs.2.1, Or.inl hcs.2.1⟩
  · simp only [List.cons.injEq, Value.slice.injEq, and_true] at hcs
    obtain ⟨rfl, rfl, rfl⟩ := hcs
    refine ⟨?_, Or.inr ⟨_, _, by rw [hx], by simp⟩⟩
    rcases Nat.eq_zero_or_pos len with h0 | h0
    · exact Or.inl h0
    · right
      have hmm : len ≤ m := by rw [hm]; simp; exact hl
      rw [cellsDeed] at hel
      obtain ⟨g, off, spot⟩ := ad
      obtain ⟨cs0, hc0, _⟩ := hel 0 (by omega)
      obtain ⟨_, hln, hq⟩ := World.cells?_some hc0
      have hcell := hq 0 (by decide)
      rw [List.getElem?_eq_getElem (by omega : 0 < cs0.length)] at hcell
      have hspot : spot = none := by simpa [Addr.add] using World.cell?_spot hcell
      subst hspot
      have ad2 : ∀ o i, (⟨g, o, none⟩ : Addr).add i = ⟨g, o + i, none⟩ := fun o i => by unfold Addr.add; split <;> simp_all
      refine ⟨g, off, rfl, ?_, fun i hi => ?_⟩
      · have := cell_lt hcell
        rw [ad2, ad2] at this; exact this
      · obtain ⟨cs, hc, ht⟩ := hel i (by omega)
        rw [ad2] at hc
        exact deed_read hc ht

end Go.Proofs.YthijkdphlmogjaaGreatDoor
