/- The walk of writes from a world that stands on one with both disks: besides, what was laid since stays. -/
import Derived.Test.YtpkllhgohkgcmaaGreatDoorWhole1
namespace Go.Proofs.YtpkllhgohkgcmaaGreatDoor
open Go.RowKit Go.Maps Go.WideMaps Go.WideElems Go.Sort Go.Shelf
set_option maxRecDepth 100000

set_option maxHeartbeats 2000000 in
theorem writes_kept {B : Nat} {w : World} {d e : Nat} {x : Ab} {m : Int} {k : Nat} (h : Two B w d e x m k) (hk : k + 1 < 2199023255552) (kd : Int) (p t u : ByteArray) (z : Int) (hp : p.size ≤ maxLen) (ht : t.size ≤ maxLen) (hu : u.size ≤ maxLen) (hk0 : -9223372036854775808 ≤ kd) (hk1 : kd ≤ 9223372036854775807) (W : World) (hW : Below w.heap.size w W) :
    Calls Tryz.prog 23 #[.pointer (some ⟨d, 0, none⟩), .pointer (some ⟨e, 0, none⟩), .agg #[.int .i64 kd, .string p, .string t, .string u, .int .i64 z]] W fun e' w' => e' = .returned (.bool true) ∧ Two B w' d e (putsD x (pickD kd 11) p t u).2 m (k + 1) ∧ Below B w w' ∧ ∀ b i, w.heap.size ≤ b → b < W.heap.size → w'.cell? ⟨b, i, none⟩ = W.cell? ⟨b, i, none⟩ := by
  have hpk := fun Wp => pick_any kd 11 Wp hk0 hk1 (by decide) (by decide)
  obtain ⟨_, b1, b2, b3, _⟩ := deed_cells W kd p t u z
  have hwlt : W.heap.size < (W.alloc (deedObj kd p t u z)).drew.heap.size := by
    show W.heap.size < (W.heap.push _).size
    simp
  have hws := hW.size
  have HW : Hid (Below w.heap.size w (W.alloc (deedObj kd p t u z)).drew) := (hW.alloc hW.size _).drew
  have HKW : Hid (∀ (w2 : World), (∀ b i, w.heap.size ≤ b → b < (W.alloc (deedObj kd p t u z)).drew.heap.size → w2.cell? ⟨b, i, none⟩ = (W.alloc (deedObj kd p t u z)).drew.cell? ⟨b, i, none⟩) → ∀ b i, w.heap.size ≤ b → b < W.heap.size → w2.cell? ⟨b, i, none⟩ = W.cell? ⟨b, i, none⟩) := by
    intro w2 h2 b i h3 h4
    rw [h2 b i h3 (Nat.lt_trans h4 hwlt)]
    exact (alloc_below W (deedObj kd p t u z)).cell (p := ⟨b, i, none⟩) h4
  by_cases k0 : (pickD kd 11 == 0) = true
  · have HA : Hid (putsD x (pickD kd 11) p t u = mkdirD x p) := by unfold Hid putsD; rw [if_pos k0]
    have hc := both_mkdir h hk p hp _ HW.out
    clear h
    generalize mkdirD x p = r at *
    have hse := self_eq r.1
    generalize pickD kd 11 = pk at *
    go_enter Tryz.func23, Tryz.ntmps23
    go_wp2_with (go_at_call 22; refine (hpk _).mono ?_; rintro e w1 ⟨rfl, rfl⟩)
    go_region_held3 (fun w' => w'.cell? ⟨W.heap.size, 1, none⟩ = some (.string p)) (go_keep)
      (first
        | (go_at_call 39; refine hc.mono ?_; rintro e w1 ⟨rfl, hbx, hnx⟩; have HNX := hide3 hnx; clear hnx; have q1 := (hbx W.heap.size 1 hws hwlt).trans b1; clear hbx)
        | (go_at_call 46; refine HNX.out.mono ?_; rintro e w2 ⟨rfl, ha, hb, hbx2⟩; have q1' := (hbx2 W.heap.size 1 hws hwlt).trans b1; have HKP := hide3 (HKW.out _ hbx2); clear hbx2))
    all_goals go_wp2
    all_goals
      go_ret
      rw [HA.out]
      exact ⟨rfl, ha, hb, HKP.out⟩
  rw [Bool.not_eq_true] at k0
  by_cases k1 : (pickD kd 11 == 1) = true
  · have HA : Hid (putsD x (pickD kd 11) p t u = writeFD x p u) := by unfold Hid putsD; rw [if_neg (by rw [k0]; decide), if_pos k1]
    have hc := both_write h hk p u hp hu _ HW.out
    clear h
    generalize writeFD x p u = r at *
    have hse := self_eq r.1
    generalize pickD kd 11 = pk at *
    go_enter Tryz.func23, Tryz.ntmps23
    go_wp2_with (go_at_call 22; refine (hpk _).mono ?_; rintro e w1 ⟨rfl, rfl⟩)
    go_region_held3 (fun w' => w'.cell? ⟨W.heap.size, 1, none⟩ = some (.string p) ∧ w'.cell? ⟨W.heap.size, 3, none⟩ = some (.string u)) (go_keep)
      (first
        | (go_at_call 40; refine hc.mono ?_; rintro e w1 ⟨rfl, hbx, hnx⟩; have HNX := hide3 hnx; clear hnx; have q1 := (hbx W.heap.size 1 hws hwlt).trans b1; have q3 := (hbx W.heap.size 3 hws hwlt).trans b3; clear hbx)
        | (go_at_call 47; refine HNX.out.mono ?_; rintro e w2 ⟨rfl, ha, hb, hbx2⟩; have q1' := (hbx2 W.heap.size 1 hws hwlt).trans b1; have q3' := (hbx2 W.heap.size 3 hws hwlt).trans b3; have HKP := hide3 (HKW.out _ hbx2); clear hbx2))
    all_goals go_wp2
    all_goals
      go_ret
      rw [HA.out]
      exact ⟨rfl, ha, hb, HKP.out⟩
  rw [Bool.not_eq_true] at k1
  by_cases k2 : (pickD kd 11 == 2) = true
  · have HA : Hid (putsD x (pickD kd 11) p t u = renameD x p t) := by unfold Hid putsD; rw [if_neg (by rw [k0]; decide), if_neg (by rw [k1]; decide), if_pos k2]
    have hc := both_rename h hk p t hp ht _ HW.out
    clear h
    generalize renameD x p t = r at *
    have hse := self_eq r.1
    generalize pickD kd 11 = pk at *
    go_enter Tryz.func23, Tryz.ntmps23
    go_wp2_with (go_at_call 22; refine (hpk _).mono ?_; rintro e w1 ⟨rfl, rfl⟩)
    go_region_held3 (fun w' => w'.cell? ⟨W.heap.size, 1, none⟩ = some (.string p) ∧ w'.cell? ⟨W.heap.size, 2, none⟩ = some (.string t)) (go_keep)
      (first
        | (go_at_call 48; refine hc.mono ?_; rintro e w1 ⟨rfl, hbx, hnx⟩; have HNX := hide3 hnx; clear hnx; have q1 := (hbx W.heap.size 1 hws hwlt).trans b1; have q2 := (hbx W.heap.size 2 hws hwlt).trans b2; clear hbx)
        | (go_at_call 49; refine HNX.out.mono ?_; rintro e w2 ⟨rfl, ha, hb, hbx2⟩; have q1' := (hbx2 W.heap.size 1 hws hwlt).trans b1; have q2' := (hbx2 W.heap.size 2 hws hwlt).trans b2; have HKP := hide3 (HKW.out _ hbx2); clear hbx2))
    all_goals go_wp2
    all_goals
      go_ret
      rw [HA.out]
      exact ⟨rfl, ha, hb, HKP.out⟩
  · rw [Bool.not_eq_true] at k2
    have HA : Hid (putsD x (pickD kd 11) p t u = removeD x p) := by unfold Hid putsD; rw [if_neg (by rw [k0]; decide), if_neg (by rw [k1]; decide), if_neg (by rw [k2]; decide)]
    have hc := both_remove h hk p hp _ HW.out
    clear h
    generalize removeD x p = r at *
    have hse := self_eq r.1
    generalize pickD kd 11 = pk at *
    go_enter Tryz.func23, Tryz.ntmps23
    go_wp2_with (go_at_call 22; refine (hpk _).mono ?_; rintro e w1 ⟨rfl, rfl⟩)
    go_region_held3 (fun w' => w'.cell? ⟨W.heap.size, 1, none⟩ = some (.string p)) (go_keep)
      (first
        | (go_at_call 50; refine hc.mono ?_; rintro e w1 ⟨rfl, hbx, hnx⟩; have HNX := hide3 hnx; clear hnx; have q1 := (hbx W.heap.size 1 hws hwlt).trans b1; clear hbx)
        | (go_at_call 51; refine HNX.out.mono ?_; rintro e w2 ⟨rfl, ha, hb, hbx2⟩; have q1' := (hbx2 W.heap.size 1 hws hwlt).trans b1; have HKP := hide3 (HKW.out _ hbx2); clear hbx2))
    all_goals go_wp2
    all_goals
      go_ret
      rw [HA.out]
      exact ⟨rfl, ha, hb, HKP.out⟩

end Go.Proofs.YtpkllhgohkgcmaaGreatDoor
