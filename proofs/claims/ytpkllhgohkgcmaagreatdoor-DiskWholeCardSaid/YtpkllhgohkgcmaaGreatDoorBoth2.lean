/- The walk of writes: a raw write of both disks is answered alike. -/
import Derived.Test.YtpkllhgohkgcmaaGreatDoorBoth1
import Derived.Deep.RegionHeld3
namespace Go.Proofs.YtpkllhgohkgcmaaGreatDoor
open Go.RowKit Go.Maps Go.WideMaps Go.WideElems Go.Sort Go.Shelf
set_option maxRecDepth 100000

/-- A raw write of a kind. -/
def putsD (x : Ab) (k : Int) (p t u : ByteArray) : Int × Ab := if (k == 0) = true then mkdirD x p else if (k == 1) = true then writeFD x p u else if (k == 2) = true then renameD x p t else removeD x p

theorem self_eq (a : Int) : (a == a) = true := by simp

def deedObj (k : Int) (p t u : ByteArray) (z : Int) : Obj := .cells #[.int .i64 k, .string p, .string t, .string u, .int .i64 z] 29

theorem deed_cells (w : World) (k : Int) (p t u : ByteArray) (z : Int) :
    (w.alloc (deedObj k p t u z)).cell? ⟨w.heap.size, 0, none⟩ = some (.int .i64 k) ∧ (w.alloc (deedObj k p t u z)).cell? ⟨w.heap.size, 1, none⟩ = some (.string p) ∧ (w.alloc (deedObj k p t u z)).cell? ⟨w.heap.size, 2, none⟩ = some (.string t) ∧
    (w.alloc (deedObj k p t u z)).cell? ⟨w.heap.size, 3, none⟩ = some (.string u) ∧ (w.alloc (deedObj k p t u z)).cell? ⟨w.heap.size, 4, none⟩ = some (.int .i64 z) := by
  unfold deedObj
  refine ⟨?_, ?_, ?_, ?_, ?_⟩ <;> (rw [World.cell?_alloc_new]; rfl)

set_option maxHeartbeats 2000000 in
theorem writes_any {B : Nat} {w : World} {d e : Nat} {x : Ab} {m : Int} {k : Nat} (h : Two B w d e x m k) (hk : k + 1 < 2199023255552) (kd : Int) (p t u : ByteArray) (z : Int) (hp : p.size ≤ maxLen) (ht : t.size ≤ maxLen) (hu : u.size ≤ maxLen) (hk0 : -9223372036854775808 ≤ kd) (hk1 : kd ≤ 9223372036854775807) :
    Calls Tryz.prog 23 #[.pointer (some ⟨d, 0, none⟩), .pointer (some ⟨e, 0, none⟩), .agg #[.int .i64 kd, .string p, .string t, .string u, .int .i64 z]] w fun e' w' => e' = .returned (.bool true) ∧ Two B w' d e (putsD x (pickD kd 11) p t u).2 m (k + 1) ∧ Below B w w' := by
  have hpk := fun W => pick_any kd 11 W hk0 hk1 (by decide) (by decide)
  obtain ⟨_, b1, b2, b3, _⟩ := deed_cells w kd p t u z
  have hwlt : w.heap.size < (w.alloc (deedObj kd p t u z)).drew.heap.size := by
    show w.heap.size < (w.heap.push _).size
    simp
  have HW : Hid (Below w.heap.size w (w.alloc (deedObj kd p t u z)).drew) := (alloc_below w _).drew
  by_cases k0 : (pickD kd 11 == 0) = true
  · have HA : Hid (putsD x (pickD kd 11) p t u = mkdirD x p) := by unfold Hid putsD; rw [if_pos k0]
    have hc := both_mkdir h hk p hp _ HW.out
    clear h
    generalize mkdirD x p = r at *
    have hse := self_eq r.1
    generalize pickD kd 11 = pk at *
    go_enter Tryz.func23, Tryz.ntmps23
    go_wp2_with (go_at_call 22; refine (hpk _).mono ?_; rintro e w1 ⟨rfl, rfl⟩)
    go_region_held3 (fun w' => w'.cell? ⟨w.heap.size, 1, none⟩ = some (.string p)) (go_keep)
      (first
        | (go_at_call 39; refine hc.mono ?_; rintro e w1 ⟨rfl, hbx, hnx⟩; have HNX := hide3 hnx; clear hnx; have q1 := (hbx w.heap.size 1 (Nat.le_refl _) hwlt).trans b1; clear hbx)
        | (go_at_call 46; refine HNX.out.mono ?_; rintro e w2 ⟨rfl, ha, hb, hbx2⟩; have q1' := (hbx2 w.heap.size 1 (Nat.le_refl _) hwlt).trans b1; clear hbx2))
    all_goals go_wp2
    all_goals
      go_ret
      rw [HA.out]
      exact ⟨rfl, ha, hb⟩
  rw [Bool.not_eq_true] at k0
  by_cases k1 : (pickD kd 11 == 1) = true
  · have HA : Hid (putsD x (pickD kd 11) p t u = writeFD x p u) := by unfold Hid putsD; rw [if_neg (by rw [k0]; decide), if_pos k1]
    have hc := both_write h hk p u hp hu _ HW.out
    clear h
    generalize writeFD x p u = r at *
    have hse := self_eq r.1
    generalize pickD kd 11 = pk at *
    go_enter Tryz.func23, Tryz.ntmps23
    go_wp2_with (go_at_call 22; refine (hpk _).mono ?_; rintro e w1 ⟨rfl, rfl⟩)
    go_region_held3 (fun w' => w'.cell? ⟨w.heap.size, 1, none⟩ = some (.string p) ∧ w'.cell? ⟨w.heap.size, 3, none⟩ = some (.string u)) (go_keep)
      (first
        | (go_at_call 40; refine hc.mono ?_; rintro e w1 ⟨rfl, hbx, hnx⟩; have HNX := hide3 hnx; clear hnx; have q1 := (hbx w.heap.size 1 (Nat.le_refl _) hwlt).trans b1; have q3 := (hbx w.heap.size 3 (Nat.le_refl _) hwlt).trans b3; clear hbx)
        | (go_at_call 47; refine HNX.out.mono ?_; rintro e w2 ⟨rfl, ha, hb, hbx2⟩; have q1' := (hbx2 w.heap.size 1 (Nat.le_refl _) hwlt).trans b1; have q3' := (hbx2 w.heap.size 3 (Nat.le_refl _) hwlt).trans b3; clear hbx2))
    all_goals go_wp2
    all_goals
      go_ret
      rw [HA.out]
      exact ⟨rfl, ha, hb⟩
  rw [Bool.not_eq_true] at k1
  by_cases k2 : (pickD kd 11 == 2) = true
  · have HA : Hid (putsD x (pickD kd 11) p t u = renameD x p t) := by unfold Hid putsD; rw [if_neg (by rw [k0]; decide), if_neg (by rw [k1]; decide), if_pos k2]
    have hc := both_rename h hk p t hp ht _ HW.out
    clear h
    generalize renameD x p t = r at *
    have hse := self_eq r.1
    generalize pickD kd 11 = pk at *
    go_enter Tryz.func23, Tryz.ntmps23
    go_wp2_with (go_at_call 22; refine (hpk _).mono ?_; rintro e w1 ⟨rfl, rfl⟩)
    go_region_held3 (fun w' => w'.cell? ⟨w.heap.size, 1, none⟩ = some (.string p) ∧ w'.cell? ⟨w.heap.size, 2, none⟩ = some (.string t)) (go_keep)
      (first
        | (go_at_call 48; refine hc.mono ?_; rintro e w1 ⟨rfl, hbx, hnx⟩; have HNX := hide3 hnx; clear hnx; have q1 := (hbx w.heap.size 1 (Nat.le_refl _) hwlt).trans b1; have q2 := (hbx w.heap.size 2 (Nat.le_refl _) hwlt).trans b2; clear hbx)
        | (go_at_call 49; refine HNX.out.mono ?_; rintro e w2 ⟨rfl, ha, hb, hbx2⟩; have q1' := (hbx2 w.heap.size 1 (Nat.le_refl _) hwlt).trans b1; have q2' := (hbx2 w.heap.size 2 (Nat.le_refl _) hwlt).trans b2; clear hbx2))
    all_goals go_wp2
    all_goals
      go_ret
      rw [HA.out]
      exact ⟨rfl, ha, hb⟩
  · rw [Bool.not_eq_true] at k2
    have HA : Hid (putsD x (pickD kd 11) p t u = removeD x p) := by unfold Hid putsD; rw [if_neg (by rw [k0]; decide), if_neg (by rw [k1]; decide), if_neg (by rw [k2]; decide)]
    have hc := both_remove h hk p hp _ HW.out
    clear h
    generalize removeD x p = r at *
    have hse := self_eq r.1
    generalize pickD kd 11 = pk at *
    go_enter Tryz.func23, Tryz.ntmps23
    go_wp2_with (go_at_call 22; refine (hpk _).mono ?_; rintro e w1 ⟨rfl, rfl⟩)
    go_region_held3 (fun w' => w'.cell? ⟨w.heap.size, 1, none⟩ = some (.string p)) (go_keep)
      (first
        | (go_at_call 50; refine hc.mono ?_; rintro e w1 ⟨rfl, hbx, hnx⟩; have HNX := hide3 hnx; clear hnx; have q1 := (hbx w.heap.size 1 (Nat.le_refl _) hwlt).trans b1; clear hbx)
        | (go_at_call 51; refine HNX.out.mono ?_; rintro e w2 ⟨rfl, ha, hb, hbx2⟩; have q1' := (hbx2 w.heap.size 1 (Nat.le_refl _) hwlt).trans b1; clear hbx2))
    all_goals go_wp2
    all_goals
      go_ret
      rw [HA.out]
      exact ⟨rfl, ha, hb⟩

end Go.Proofs.YtpkllhgohkgcmaaGreatDoor
