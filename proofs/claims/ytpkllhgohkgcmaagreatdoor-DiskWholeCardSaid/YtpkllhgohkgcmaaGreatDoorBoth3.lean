/- Cut, Up and Clear of both disks. -/
import Derived.Test.YtpkllhgohkgcmaaGreatDoorBoth2
namespace Go.Proofs.YtpkllhgohkgcmaaGreatDoor
open Go.RowKit Go.Maps Go.WideMaps Go.WideElems Go.Sort Go.Shelf
set_option maxRecDepth 100000

theorem After.left {B : Nat} {w : World} {d mb n : Nat} {rv : Value} {x : Ab} (h : IsDisk B w d mb n rv x) (l : Int) : After B w (w.setCell ⟨d, 2, none⟩ (.int .i64 l)) d mb n rv { x with left := l } :=
  ⟨n, rv, Nat.le_succ _, h.setLeft l, (Upd.setCell w ⟨d, 2, none⟩ (.int .i64 l)).mono (fun _ _ f => Or.inl f), fun _ hj => Or.inl hj⟩

set_option maxHeartbeats 400000 in
theorem dCut_any {B : Nat} {w : World} {d mb n : Nat} {rv : Value} {x : Ab} (h : IsDisk B w d mb n rv x) (z : Int) :
    Calls Tryz.prog 30 #[.pointer (some ⟨d, 0, none⟩), .int .i64 z] w fun e w' => e = .returned (.int .i64 (cutE x.left z)) ∧ After B w w' d mb n rv { x with left := cutL x.left z } := by
  have hd := Down_any h
  have c2 := h.c2
  have f2 := h.f2
  by_cases h0 : (x.left == 0) = true
  · have HE : Hid (cutE x.left z = 15 ∧ cutL x.left z = x.left) := by unfold Hid cutE cutL; rw [if_pos h0, if_pos h0]; exact ⟨rfl, rfl⟩
    have HR := hide3 (After.same h (Below.refl _ _))
    clear h
    go_enter Tryz.func30, Tryz.ntmps30
    go_wp2_with (go_at_call 13; refine hd.mono ?_; rintro e w' ⟨rfl, rfl⟩)
    go_ret
    rw [HE.out.1, HE.out.2]
    exact ⟨rfl, HR.out⟩
  rw [Bool.not_eq_true] at h0
  by_cases h1 : z < 0
  · have HE : Hid (cutE x.left z = 1 ∧ cutL x.left z = x.left) := by unfold Hid cutE cutL; simp [h0, h1]
    have HR := hide3 (After.same h (Below.refl _ _))
    clear h
    go_enter Tryz.func30, Tryz.ntmps30
    go_wp2_with (go_at_call 13; refine hd.mono ?_; rintro e w' ⟨rfl, rfl⟩)
    go_ret
    rw [HE.out.1, HE.out.2]
    exact ⟨rfl, HR.out⟩
  · have HE : Hid (cutE x.left z = 0 ∧ cutL x.left z = z) := by unfold Hid cutE cutL; simp [h0, h1]
    have HR := hide3 (After.left h z)
    clear h
    go_enter Tryz.func30, Tryz.ntmps30
    go_wp2_with (go_at_call 13; refine hd.mono ?_; rintro e w' ⟨rfl, rfl⟩)
    go_ret
    rw [HE.out.1, HE.out.2]
    exact ⟨rfl, HR.out⟩

theorem cut_bounds {l z : Int} (lo : -1 ≤ l) (hi : l ≤ 9223372036854775807) (hz : z ≤ 9223372036854775807) : -1 ≤ cutL l z ∧ cutL l z ≤ 9223372036854775807 := by
  unfold cutL
  split
  · exact ⟨lo, hi⟩
  · split
    · exact ⟨lo, hi⟩
    · omega

theorem both_cut {B : Nat} {w : World} {d e : Nat} {x : Ab} {m : Int} {k : Nat} (h : Two B w d e x m k) (hk : k + 1 < 2199023255552) (z : Int) (hz : z ≤ 9223372036854775807) (W : World) (hW : Below w.heap.size w W) :
    Calls Tryz.prog 30 #[.pointer (some ⟨d, 0, none⟩), .int .i64 z] W fun e1 w1 => e1 = .returned (.int .i64 (cutE x.left z)) ∧ (∀ b i, w.heap.size ≤ b → b < W.heap.size → w1.cell? ⟨b, i, none⟩ = W.cell? ⟨b, i, none⟩) ∧
      Calls Tryz.prog 31 #[.pointer (some ⟨e, 0, none⟩), .int .i64 z] w1 fun e2 w2 => e2 = .returned (.int .i64 (cutE x.left z)) ∧ Two B w2 d e { x with left := cutL x.left z } m (k + 1) ∧ Below B w w2 ∧ (∀ b i, w.heap.size ≤ b → b < W.heap.size → w2.cell? ⟨b, i, none⟩ = W.cell? ⟨b, i, none⟩) := by
  obtain ⟨b2, b3⟩ := cut_bounds h.lo h.hi hz
  refine both_op (x' := { x with left := cutL x.left z }) h hk (fun W mb n rv hf => dCut_any hf.disk z) (fun _ W lv rw' hf => ?_) h.sound (Nat.le_succ_of_le h.len) b2 b3 W hW
  refine (rCut_any hf.ref z).mono ?_
  rintro e' w' ⟨rfl, h1, h2⟩
  exact ⟨rfl, lv, rw', h1, h2.mono (fun _ _ f => Or.inl f), fun _ hj => Or.inl hj⟩

theorem both_up {B : Nat} {w : World} {d e : Nat} {x : Ab} {m : Int} {k : Nat} (h : Two B w d e x m k) (hk : k + 1 < 2199023255552) (W : World) (hW : Below w.heap.size w W) :
    Calls Tryz.prog 32 #[.pointer (some ⟨d, 0, none⟩)] W fun e1 w1 => e1 = .returned (.tuple #[]) ∧ (∀ b i, w.heap.size ≤ b → b < W.heap.size → w1.cell? ⟨b, i, none⟩ = W.cell? ⟨b, i, none⟩) ∧
      Calls Tryz.prog 33 #[.pointer (some ⟨e, 0, none⟩)] w1 fun e2 w2 => e2 = .returned (.tuple #[]) ∧ Two B w2 d e { x with left := -1 } m (k + 1) ∧ Below B w w2 ∧ (∀ b i, w.heap.size ≤ b → b < W.heap.size → w2.cell? ⟨b, i, none⟩ = W.cell? ⟨b, i, none⟩) := by
  refine both_op (x' := { x with left := -1 }) h hk (fun W mb n rv hf => ?_) (fun _ W lv rw' hf => ?_) h.sound (Nat.le_succ_of_le h.len) (by show (-1 : Int) ≤ -1; decide) (by show (-1 : Int) ≤ 9223372036854775807; decide) W hW
  · refine (Up_any hf.disk).mono ?_
    rintro e' w' ⟨rfl, rfl⟩
    exact ⟨rfl, After.left hf.disk (-1)⟩
  · refine (rUp_any hf.ref).mono ?_
    rintro e' w' ⟨rfl, h1, h2⟩
    exact ⟨rfl, lv, rw', h1, h2.mono (fun _ _ f => Or.inl f), fun _ hj => Or.inl hj⟩

set_option maxHeartbeats 400000 in
theorem Clear_walk {B : Nat} {w : World} {d mb n : Nat} {rv : Value} {x : Ab} (h : IsDisk B w d mb n rv x) :
    Calls Tryz.prog 34 #[.pointer (some ⟨d, 0, none⟩)] w fun e w' => e = .returned (.tuple #[]) ∧ w' = w.setCell ⟨d, 1, none⟩ (.slice none 0 0) := by
  have c1 := h.c1
  have f1 := h.f1
  clear h
  go_enter Tryz.func34, Tryz.ntmps34
  go_wp2
  go_end0
  exact ⟨rfl, rfl⟩

theorem IsDisk.clear {B : Nat} {w : World} {d mb n : Nat} {rv : Value} {x : Ab} (h : IsDisk B w d mb n rv x) : IsDisk B (w.setCell ⟨d, 1, none⟩ (.slice none 0 0)) d mb n (.slice none 0 0) { x with rs := [] } := by
  have hc0 : (w.setCell ⟨d, 1, none⟩ (.slice none 0 0)).cell? ⟨d, 0, none⟩ = w.cell? ⟨d, 0, none⟩ := World.cell?_setCell_other _ _ _ _ (by simp)
  have hc2 : (w.setCell ⟨d, 1, none⟩ (.slice none 0 0)).cell? ⟨d, 2, none⟩ = w.cell? ⟨d, 2, none⟩ := World.cell?_setCell_other _ _ _ _ (by simp)
  exact { c0 := by rw [hc0]; exact h.c0, c1 := World.cell?_setCell_same _ _ _ h.c1, c2 := by rw [hc2]; exact h.c2,
          f1 := by rw [World.frozen?_setCell]; exact h.f1, f2 := by rw [World.frozen?_setCell]; exact h.f2,
          own := h.own.setCell (fun e => h.dm e.symm) _, row := ⟨rfl, Or.inl ⟨rfl, rfl⟩⟩,
          rd := by simp [Value.ownBlock], rm := by simp [Value.ownBlock], dm := h.dm, bd := h.bd, bm := h.bm, ld := by simp [World.setCell]; exact h.ld, keys := h.keys }

theorem IsRef.clear {B : Nat} {w : World} {e : Nat} {lv rv : Value} {fs : List Fl} {rs : List (Int × ByteArray × ByteArray)} {left : Int} (h : IsRef B w e lv rv fs rs left) : IsRef B (w.setCell ⟨e, 1, none⟩ (.slice none 0 0)) e lv (.slice none 0 0) fs [] left := by
  have hc0 : (w.setCell ⟨e, 1, none⟩ (.slice none 0 0)).cell? ⟨e, 0, none⟩ = w.cell? ⟨e, 0, none⟩ := World.cell?_setCell_other _ _ _ _ (by simp)
  have hc2 : (w.setCell ⟨e, 1, none⟩ (.slice none 0 0)).cell? ⟨e, 2, none⟩ = w.cell? ⟨e, 2, none⟩ := World.cell?_setCell_other _ _ _ _ (by simp)
  exact { c0 := by rw [hc0]; exact h.c0, c1 := World.cell?_setCell_same _ _ _ h.c1, c2 := by rw [hc2]; exact h.c2, f0 := by rw [World.frozen?_setCell]; exact h.f0, f1 := by rw [World.frozen?_setCell]; exact h.f1, f2 := by rw [World.frozen?_setCell]; exact h.f2,
          lrow := ownsRow_upd h.lrow (Upd.setCell w ⟨e, 1, none⟩ (.slice none 0 0)) (fun k hk hk' => h.le (by rw [hk]; exact congrArg some hk')), rrow := ⟨rfl, Or.inl ⟨rfl, rfl⟩⟩,
          le := h.le, re := by simp [Value.ownBlock], be := h.be, lt := by simp [World.setCell]; exact h.lt }

theorem both_clear {B : Nat} {w : World} {d e : Nat} {x : Ab} {m : Int} {k : Nat} (h : Two B w d e x m k) (W : World) (hW : Below w.heap.size w W) :
    Calls Tryz.prog 34 #[.pointer (some ⟨d, 0, none⟩)] W fun e1 w1 => e1 = .returned (.tuple #[]) ∧ (∃ rw0, w1.cell? ⟨e, 1, none⟩ = some rw0) ∧ w1.frozen? ⟨e, 1, none⟩ = false ∧
      Two B (w1.setCell ⟨e, 1, none⟩ (.slice none 0 0)) d e { x with rs := [] } m k ∧ Below B w (w1.setCell ⟨e, 1, none⟩ (.slice none 0 0)) := by
  obtain ⟨mb, n, rv, lv, rw', hdk, hrf, hap, hn⟩ := h.ex
  refine (Clear_walk (hdk.below hW)).mono ?_
  rintro e1 w1 ⟨rfl, rfl⟩
  have hu := Upd.setCell W ⟨d, 1, none⟩ (.slice none 0 0)
  have hed : ∀ j, FootR e lv rw' j → ¬ j = d := fun j hj e' => hap d (Or.inl rfl) (e' ▸ hj)
  have hr1 := (hrf.below hW).upd hu hed
  have hu2 := Upd.setCell (W.setCell ⟨d, 1, none⟩ (.slice none 0 0)) ⟨e, 1, none⟩ (.slice none 0 0)
  have hBW := Nat.le_trans h.base hW.size
  have hb1 : Below B W (W.setCell ⟨d, 1, none⟩ (.slice none 0 0)) := hu.below hBW (fun i hi => by have := hdk.bd; have : i = d := hi; omega)
  have hb2 : Below B (W.setCell ⟨d, 1, none⟩ (.slice none 0 0)) ((W.setCell ⟨d, 1, none⟩ (.slice none 0 0)).setCell ⟨e, 1, none⟩ (.slice none 0 0)) := hu2.below (Nat.le_trans hBW hu.size) (fun i hi => by have := hrf.be; have : i = e := hi; omega)
  have hbw := ((hW.mono h.base).trans hb1).trans hb2
  have hfd : ∀ j, Foot d mb (.slice none 0 0) j → Foot d mb rv j := by
    rintro j (q | q | q)
    · exact Or.inl q
    · exact Or.inr (Or.inl q)
    · cases q
  have hfr : ∀ j, FootR e lv (.slice none 0 0) j → FootR e lv rw' j := by
    rintro j (q | q | q)
    · exact Or.inl q
    · exact Or.inr (Or.inl q)
    · cases q
  refine ⟨rfl, ⟨_, hr1.c1⟩, hr1.f1, { ex := ⟨mb, n, .slice none 0 0, lv, .slice none 0 0, (hdk.below hW).clear.upd hu2 (fun j hj e' => ?_), hr1.clear, fun j hj hj' => hap j (hfd j hj) (hfr j hj'), hn⟩, sound := h.sound, len := Nat.zero_le _, lo := h.lo, hi := h.hi, max := by rw [hbw.cell (p := ⟨0, 0, none⟩) h.zero]; exact h.max, base := Nat.le_trans h.base hbw.size, zero := h.zero }, hbw⟩
  have : j = e := e'
  exact hap j (hfd j hj) (Or.inl this)

end Go.Proofs.YtpkllhgohkgcmaaGreatDoor
