/- The walk of asks: whatever is asked of both disks is answered alike. -/
import Derived.Test.YtpkllhgohkgcmaaGreatDoorBoth3
import Derived.Deep.RegionHeld3
namespace Go.Proofs.YtpkllhgohkgcmaaGreatDoor
open Go.RowKit Go.Maps Go.WideMaps Go.WideElems Go.Sort Go.Shelf
set_option maxRecDepth 100000

/-- What a deed leaves of a disk. -/
def asksD (x : Ab) (k : Int) (p t u : ByteArray) (z : Int) : Ab :=
  if (k == 4) = true then x else if (k == 5) = true then x else if (k == 6) = true then x else if (k == 7) = true then { x with left := cutL x.left z } else if (k == 8) = true then { x with left := -1 }
  else if (k == 9) = true then { x with rs := [] } else if (k == 10) = true then x else (putsD x k p t u).2

theorem beqs_self (a : ByteArray) : (a.toList == a.toList) = true := by simp

/-- The deed is known not to be of a kind. -/
theorem not_kind {a b : Int} (h : ¬ (a == b) = true) : (a == b) = false := by simpa using h

theorem kind_of {a b : Int} (h : (a == b) = true) : a = b := by simpa using h

section
variable {B : Nat} {w : World} {d e : Nat} {x : Ab} {m : Int} {k : Nat} (h : Two B w d e x m k) (hk : k + 1 < 2199023255552) (kd : Int) (p t u : ByteArray) (z : Int)
include h hk

set_option maxHeartbeats 1000000 in
theorem asks_read (hp : p.size ≤ maxLen) (hk0 : -9223372036854775808 ≤ kd) (hk1 : kd ≤ 9223372036854775807) (k4 : (pickD kd 11 == 4) = true) :
    Calls Tryz.prog 10 #[.pointer (some ⟨d, 0, none⟩), .pointer (some ⟨e, 0, none⟩), .agg #[.int .i64 kd, .string p, .string t, .string u, .int .i64 z]] w fun e' w' => e' = .returned (.bool true) ∧ Two B w' d e x m (k + 1) ∧ Below B w w' := by
  have hpk := fun W => pick_any kd 11 W hk0 hk1 (by decide) (by decide)
  have hW := alloc_below w (deedObj kd p t u z)
  obtain ⟨_, b1, _, _, _⟩ := deed_cells w kd p t u z
  have hkk := h.files
  obtain ⟨mb, n, rv, lv, rw', hdk, hrf, hap, hn⟩ := h.ex
  have hpl := h.plain
  have hc1 := Read_any (hdk.below hW) p m (cell_below h.max hW) hp
  have HC2 : Hid (∀ W, Below w.heap.size w W → Calls Tryz.prog 26 #[.pointer (some ⟨e, 0, none⟩), .string p] W fun e w' => e = .returned (.tuple #[.string (readT x.D p), .int .i64 (readE x.D p)]) ∧ Below W.heap.size W w') :=
    fun W hb => rRead_any (hrf.below hb) hpl.good p hp (by omega)
  have HH := hide3 h
  have HW := hide3 hW
  have hlt : w.heap.size < (w.alloc (deedObj kd p t u z)).heap.size := by show w.heap.size < (w.heap.push _).size; simp
  have hs1 := beqs_self (readT x.D p)
  have hs2 := self_eq (readE x.D p)
  clear h hdk hrf hap hn hpl hW
  generalize readT x.D p = rt at *
  generalize readE x.D p = re at *
  generalize pickD kd 11 = pk at *
  obtain rfl := kind_of k4
  go_enter Tryz.func10, Tryz.ntmps10
  go_wp2_with (first
    | (go_at_call 22; refine (hpk _).mono ?_; rintro e w1 ⟨rfl, rfl⟩)
    | (go_at_call 25; refine hc1.mono ?_; rintro e w1 ⟨rfl, hb1⟩; have q1 := (hb1.cell (p := ⟨w.heap.size, 1, none⟩) hlt).trans b1; have HB1 := hide3 (HW.out.trans (hb1.mono HW.out.size)); clear hb1)
    | (go_at_call 26; refine (HC2.out _ HB1.out).mono ?_; rintro e w2 ⟨rfl, hb2⟩))
  go_ret
  have hb := HB1.out.trans (hb2.mono HB1.out.size)
  exact ⟨rfl, (HH.out.below hb).more (Nat.le_succ _), hb.mono HH.out.base⟩

set_option maxHeartbeats 2000000 in
theorem asks_kind (hp : p.size ≤ maxLen) (hk0 : -9223372036854775808 ≤ kd) (hk1 : kd ≤ 9223372036854775807) (k4 : (pickD kd 11 == 5) = true) :
    Calls Tryz.prog 10 #[.pointer (some ⟨d, 0, none⟩), .pointer (some ⟨e, 0, none⟩), .agg #[.int .i64 kd, .string p, .string t, .string u, .int .i64 z]] w fun e' w' => e' = .returned (.bool true) ∧ Two B w' d e x m (k + 1) ∧ Below B w w' := by
  have hpk := fun W => pick_any kd 11 W hk0 hk1 (by decide) (by decide)
  have hW := alloc_below w (deedObj kd p t u z)
  obtain ⟨b0, b1, b2, b3, b4⟩ := deed_cells w kd p t u z
  have hkk := h.files
  have HH := hide3 h
  have HW := hide3 hW
  have hlt : w.heap.size < (w.alloc (deedObj kd p t u z)).heap.size := by show w.heap.size < (w.heap.push _).size; simp
  obtain ⟨mb, n, rv, lv, rw', hdk, hrf, hap, hn⟩ := h.ex
  have hpl := h.plain
  have hc1 := Kind_any ((hdk.below hW).below ((Below.refl _ (w.alloc (deedObj kd p t u z))).drew)) p hp
  have HC2 : Hid (∀ W, Below w.heap.size w W → Calls Tryz.prog 27 #[.pointer (some ⟨e, 0, none⟩), .string p] W fun e w' => e = .returned (.int .i64 (kindD x.D p)) ∧ w' = W) :=
    fun W hb => rKind_any (hrf.below hb) hpl.good p (by omega)
  have hs2 := self_eq (kindD x.D p)
  clear h hdk hrf hap hn hpl hW
  generalize kindD x.D p = re at *
  generalize pickD kd 11 = pk at *
  obtain rfl := kind_of k4
  go_enter Tryz.func10, Tryz.ntmps10
  go_wp2_with (go_at_call 22; refine (hpk _).mono ?_; rintro e w1 ⟨rfl, rfl⟩)
  go_region_held3 (fun w' => w'.cell? ⟨w.heap.size, 1, none⟩ = some (.string p)) (go_keep)
    (first
      | (go_at_call 20; refine hc1.mono ?_; rintro e w1 ⟨rfl, hb1⟩; have q1 := (hb1.cell (p := ⟨w.heap.size, 1, none⟩) hlt).trans b1; have HB1 := hide3 ((HW.out.drew).trans (hb1.mono (HW.out.drew).size)); clear hb1)
      | (go_at_call 27; refine (HC2.out _ HB1.out).mono ?_; rintro e w2 ⟨rfl, rfl⟩))
  all_goals go_wp2
  all_goals
    go_ret
    exact ⟨rfl, (HH.out.below HB1.out).more (Nat.le_succ _), HB1.out.mono HH.out.base⟩

set_option maxHeartbeats 2000000 in
theorem asks_list (hp : p.size ≤ maxLen) (hk0 : -9223372036854775808 ≤ kd) (hk1 : kd ≤ 9223372036854775807) (k4 : (pickD kd 11 == 6) = true) :
    Calls Tryz.prog 10 #[.pointer (some ⟨d, 0, none⟩), .pointer (some ⟨e, 0, none⟩), .agg #[.int .i64 kd, .string p, .string t, .string u, .int .i64 z]] w fun e' w' => e' = .returned (.bool true) ∧ Two B w' d e x m (k + 1) ∧ Below B w w' := by
  have hpk := fun W => pick_any kd 11 W hk0 hk1 (by decide) (by decide)
  have hW := alloc_below w (deedObj kd p t u z)
  obtain ⟨b0, b1, b2, b3, b4⟩ := deed_cells w kd p t u z
  have hkk := h.files
  have HH := hide3 h
  have HW := hide3 hW
  have hlt : w.heap.size < (w.alloc (deedObj kd p t u z)).heap.size := by show w.heap.size < (w.heap.push _).size; simp
  obtain ⟨mb, n, rv, lv, rw', hdk, hrf, hap, hn⟩ := h.ex
  have hpl := h.plain
  have hc1 := List_any (hdk.below hW) p m (cell_below h.max hW) hp (by omega)
  have HC2 : Hid (∀ W, Below w.heap.size w W → Calls Tryz.prog 28 #[.pointer (some ⟨e, 0, none⟩), .string p] W fun e' w' => ∃ ao cap, e' = .returned (.tuple #[.slice ao (listT x.D p).length cap, .int .i64 (listE x.D p)]) ∧
      w'.ownsRow W.heap.size 9 1 (.slice ao (listT x.D p).length cap) (listT x.D p).length ((listT x.D p).map encStr) ∧ Below W.heap.size W w') :=
    fun W hb => rList_any (hrf.below hb) hpl p hp (by omega)
  have hs2 := self_eq (listE x.D p)
  have HTL : Hid ((listT x.D p).length ≤ 2199023255552) := by
    have : (listT x.D p).length ≤ (filesD x.D).length := by
      unfold listT
      split
      · unfold namesD kidsD; rw [List.length_map]; exact List.length_filter_le _ _
      · simp
    unfold Hid; omega
  clear h hdk hrf hap hn hpl hW
  generalize listT x.D p = lt at *
  generalize listE x.D p = re at *
  generalize pickD kd 11 = pk at *
  obtain rfl := kind_of k4
  go_enter Tryz.func10, Tryz.ntmps10
  go_wp2_with (first
    | (go_at_call 22; refine (hpk _).mono ?_; rintro e w1 ⟨rfl, rfl⟩)
    | (go_at_call 24; refine hc1.mono ?_; rintro e w1 ⟨ao1, cap1, rfl, hr1, hb1⟩; have q1 := (hb1.cell (p := ⟨w.heap.size, 1, none⟩) hlt).trans b1; have HB1 := hide3 (HW.out.trans (hb1.mono HW.out.size)); have HR1 := hide3 hr1; clear hb1 hr1)
    | (go_at_call 28; refine (HC2.out _ HB1.out).mono ?_; rintro e w2 ⟨ao2, cap2, rfl, hr2, hb2⟩; have HR2 := hide3 hr2; have HB2 := hide3 (HB1.out.trans (hb2.mono HB1.out.size)); have HT := hide3 (texts_any lt HTL.out (ownsRow_upd HR1.out (Upd.of_below (F := fun _ => False) hb2) (fun _ _ f => f)) HR2.out); clear hr2 hb2)
    | (go_at_call 29; refine HT.out.mono ?_; rintro e w3 ⟨rfl, q, rfl⟩))
  go_ret
  have hb : Below w.heap.size w (w2.drewN q) := ⟨HB2.out.os, HB2.out.tape, HB2.out.output, HB2.out.size, HB2.out.block⟩
  exact ⟨rfl, (HH.out.below hb).more (Nat.le_succ _), hb.mono HH.out.base⟩

set_option maxHeartbeats 2000000 in
theorem asks_cut (hk0 : -9223372036854775808 ≤ kd) (hk1 : kd ≤ 9223372036854775807) (hz : z ≤ 9223372036854775807) (k4 : (pickD kd 11 == 7) = true) :
    Calls Tryz.prog 10 #[.pointer (some ⟨d, 0, none⟩), .pointer (some ⟨e, 0, none⟩), .agg #[.int .i64 kd, .string p, .string t, .string u, .int .i64 z]] w fun e' w' => e' = .returned (.bool true) ∧ Two B w' d e { x with left := cutL x.left z } m (k + 1) ∧ Below B w w' := by
  have hpk := fun W => pick_any kd 11 W hk0 hk1 (by decide) (by decide)
  have hW := alloc_below w (deedObj kd p t u z)
  obtain ⟨b0, b1, b2, b3, b4⟩ := deed_cells w kd p t u z
  have hkk := h.files
  have HH := hide3 h
  have HW := hide3 hW
  have hlt : w.heap.size < (w.alloc (deedObj kd p t u z)).heap.size := by show w.heap.size < (w.heap.push _).size; simp
  have hc1 := both_cut h hk z hz _ hW.drew
  have hs2 := self_eq (cutE x.left z)
  clear h hW
  generalize cutE x.left z = re at *
  generalize pickD kd 11 = pk at *
  obtain rfl := kind_of k4
  go_enter Tryz.func10, Tryz.ntmps10
  go_wp2_with (go_at_call 22; refine (hpk _).mono ?_; rintro e w1 ⟨rfl, rfl⟩)
  go_region_held3 (fun w' => w'.cell? ⟨w.heap.size, 4, none⟩ = some (.int .i64 z)) (go_keep)
    (first
      | (go_at_call 30; refine hc1.mono ?_; rintro e w1 ⟨rfl, hbx, hnx⟩; have HNX := hide3 hnx; clear hnx; have q1 := (hbx w.heap.size 4 (Nat.le_refl _) hlt).trans b4; clear hbx)
      | (go_at_call 31; refine HNX.out.mono ?_; rintro e w2 ⟨rfl, ha, hb, hbx2⟩; have q2 := (hbx2 w.heap.size 4 (Nat.le_refl _) hlt).trans b4; clear hbx2))
  all_goals go_wp2
  all_goals
    go_ret
    exact ⟨rfl, ha, hb⟩

set_option maxHeartbeats 2000000 in
theorem asks_up (hk0 : -9223372036854775808 ≤ kd) (hk1 : kd ≤ 9223372036854775807) (k4 : (pickD kd 11 == 8) = true) :
    Calls Tryz.prog 10 #[.pointer (some ⟨d, 0, none⟩), .pointer (some ⟨e, 0, none⟩), .agg #[.int .i64 kd, .string p, .string t, .string u, .int .i64 z]] w fun e' w' => e' = .returned (.bool true) ∧ Two B w' d e { x with left := -1 } m (k + 1) ∧ Below B w w' := by
  have hpk := fun W => pick_any kd 11 W hk0 hk1 (by decide) (by decide)
  have hW := alloc_below w (deedObj kd p t u z)
  obtain ⟨b0, b1, b2, b3, b4⟩ := deed_cells w kd p t u z
  have hkk := h.files
  have HH := hide3 h
  have HW := hide3 hW
  have hlt : w.heap.size < (w.alloc (deedObj kd p t u z)).heap.size := by show w.heap.size < (w.heap.push _).size; simp
  have hc1 := both_up h hk _ hW
  clear h hW
  generalize pickD kd 11 = pk at *
  obtain rfl := kind_of k4
  go_enter Tryz.func10, Tryz.ntmps10
  go_wp2_with (first
    | (go_at_call 22; refine (hpk _).mono ?_; rintro e w1 ⟨rfl, rfl⟩)
    | (go_at_call 32; refine hc1.mono ?_; rintro e w1 ⟨rfl, hbx, hnx⟩; have HNX := hide3 hnx; clear hnx hbx)
    | (go_at_call 33; refine HNX.out.mono ?_; rintro e w2 ⟨rfl, ha, hb, hbx2⟩))
  go_ret
  exact ⟨rfl, ha, hb⟩

omit hk in
set_option maxHeartbeats 2000000 in
theorem asks_clear (hk0 : -9223372036854775808 ≤ kd) (hk1 : kd ≤ 9223372036854775807) (k4 : (pickD kd 11 == 9) = true) :
    Calls Tryz.prog 10 #[.pointer (some ⟨d, 0, none⟩), .pointer (some ⟨e, 0, none⟩), .agg #[.int .i64 kd, .string p, .string t, .string u, .int .i64 z]] w fun e' w' => e' = .returned (.bool true) ∧ Two B w' d e { x with rs := [] } m (k + 1) ∧ Below B w w' := by
  have hpk := fun W => pick_any kd 11 W hk0 hk1 (by decide) (by decide)
  have hW := alloc_below w (deedObj kd p t u z)
  obtain ⟨b0, b1, b2, b3, b4⟩ := deed_cells w kd p t u z
  have hkk := h.files
  have HH := hide3 h
  have HW := hide3 hW
  have hlt : w.heap.size < (w.alloc (deedObj kd p t u z)).heap.size := by show w.heap.size < (w.heap.push _).size; simp
  have hc1 := both_clear h _ hW
  clear h hW
  generalize pickD kd 11 = pk at *
  obtain rfl := kind_of k4
  go_enter Tryz.func10, Tryz.ntmps10
  go_wp2_with (first
    | (go_at_call 22; refine (hpk _).mono ?_; rintro e w1 ⟨rfl, rfl⟩)
    | (go_at_call 34; refine hc1.mono ?_; rintro e w1 ⟨rfl, ⟨rw0, q0⟩, q1, ha, hb⟩; have HA := hide3 ha; have HB := hide3 hb; clear ha hb))
  go_ret
  exact ⟨rfl, HA.out.more (Nat.le_succ _), HB.out⟩

set_option maxHeartbeats 2000000 in
theorem asks_all (hk0 : -9223372036854775808 ≤ kd) (hk1 : kd ≤ 9223372036854775807) (k4 : (pickD kd 11 == 10) = true) :
    Calls Tryz.prog 10 #[.pointer (some ⟨d, 0, none⟩), .pointer (some ⟨e, 0, none⟩), .agg #[.int .i64 kd, .string p, .string t, .string u, .int .i64 z]] w fun e' w' => e' = .returned (.bool true) ∧ Two B w' d e x m (k + 1) ∧ Below B w w' := by
  have hpk := fun W => pick_any kd 11 W hk0 hk1 (by decide) (by decide)
  have hW := alloc_below w (deedObj kd p t u z)
  obtain ⟨b0, b1, b2, b3, b4⟩ := deed_cells w kd p t u z
  have hkk := h.files
  have HH := hide3 h
  have HW := hide3 hW
  have hlt : w.heap.size < (w.alloc (deedObj kd p t u z)).heap.size := by show w.heap.size < (w.heap.push _).size; simp
  obtain ⟨mb, n, rv, lv, rw', hdk, hrf, hap, hn⟩ := h.ex
  have hc1 := All_any ((hdk.below hW).below ((Below.refl _ (w.alloc (deedObj kd p t u z))).drew)) (by omega)
  obtain ⟨lo, lc, hlv⟩ : ∃ lo lc, lv = .slice lo (filesD x.D).length lc := by
    rcases hrf.lrow.2 with ⟨rfl, h0⟩ | ⟨g, cap, cur, rfl, _⟩
    · exact ⟨none, 0, by rw [h0]⟩
    · exact ⟨some ⟨g, 0, none⟩, cap, rfl⟩
  subst hlv
  have c0 : (w.alloc (.cells #[.int .i64 kd, .string p, .string t, .string u, .int .i64 z] 29)).cell? ⟨e, 0, none⟩ = some (.slice lo (filesD x.D).length lc) := (hrf.below hW).c0
  have hel := Nat.lt_of_lt_of_le hrf.lt hW.size
  have HFL : Hid (∀ W ao cap, Below w.heap.size w W → W.ownsRow (w.alloc (deedObj kd p t u z)).drew.heap.size 49 3 (.slice ao (filesD x.D).length cap) (filesD x.D).length (fileCells (filesD x.D)) → Calls Tryz.prog 15 #[.slice ao (filesD x.D).length cap, .slice lo (filesD x.D).length lc] W fun e w' => e = .returned (.bool true) ∧ ∃ q, w' = W.drewN q) :=
    fun W ao cap hb hrow => files_any (filesD x.D) (by omega) hrow (hrf.below hb).lrow
  have HC0 : Hid (∀ W, Below w.heap.size w W → W.cell? ⟨e, 0, none⟩ = some (.slice lo (filesD x.D).length lc)) := fun W hb => (hrf.below hb).c0
  clear h hdk hrf hap hn hW
  generalize filesD x.D = fs at *
  generalize pickD kd 11 = pk at *
  obtain rfl := kind_of k4
  go_enter Tryz.func10, Tryz.ntmps10
  go_wp2_with (go_at_call 22; refine (hpk _).mono ?_; rintro e w1 ⟨rfl, rfl⟩)
  go_region_held3 (fun w' => w'.cell? ⟨e, 0, none⟩ = some (.slice lo fs.length lc)) (go_keep)
    (first
      | (go_at_call 16; refine hc1.mono ?_; rintro e w1 ⟨ao1, cap1, rfl, hr1, hb1⟩; have HB1 := hide3 ((HW.out.drew).trans (hb1.mono (HW.out.drew).size)); have q1 := HC0.out _ HB1.out; have HR1 := hide3 hr1; clear hb1 hr1)
      | (go_at_call 15; refine (HFL.out _ _ _ HB1.out HR1.out).mono ?_; rintro e w2 ⟨rfl, q, rfl⟩))
  all_goals go_wp2
  all_goals
    go_ret
    have hb : Below w.heap.size w (w1.drewN q) := ⟨HB1.out.os, HB1.out.tape, HB1.out.output, HB1.out.size, HB1.out.block⟩
    exact ⟨rfl, (HH.out.below hb).more (Nat.le_succ _), hb.mono HH.out.base⟩

set_option maxHeartbeats 2000000 in
theorem asks_writes (hp : p.size ≤ maxLen) (ht : t.size ≤ maxLen) (hu : u.size ≤ maxLen) (hk0 : -9223372036854775808 ≤ kd) (hk1 : kd ≤ 9223372036854775807) (k4 : (pickD kd 11 == 4) = false) (k5 : (pickD kd 11 == 5) = false) (k6 : (pickD kd 11 == 6) = false) (k7 : (pickD kd 11 == 7) = false) (k8 : (pickD kd 11 == 8) = false) (k9 : (pickD kd 11 == 9) = false) (k10 : (pickD kd 11 == 10) = false) :
    Calls Tryz.prog 10 #[.pointer (some ⟨d, 0, none⟩), .pointer (some ⟨e, 0, none⟩), .agg #[.int .i64 kd, .string p, .string t, .string u, .int .i64 z]] w fun e' w' => e' = .returned (.bool true) ∧ Two B w' d e (putsD x (pickD kd 11) p t u).2 m (k + 1) ∧ Below B w w' := by
  have hpk := fun W => pick_any kd 11 W hk0 hk1 (by decide) (by decide)
  have hW := alloc_below w (deedObj kd p t u z)
  obtain ⟨b0, b1, b2, b3, b4⟩ := deed_cells w kd p t u z
  have hkk := h.files
  have HH := hide3 h
  have HW := hide3 hW
  have hlt : w.heap.size < (w.alloc (deedObj kd p t u z)).heap.size := by show w.heap.size < (w.heap.push _).size; simp
  have hc1 := writes_any (h.below hW) hk kd p t u z hp ht hu hk0 hk1
  clear h
  generalize putsD x (pickD kd 11) p t u = r at *
  generalize pickD kd 11 = pk at *
  go_enter Tryz.func10, Tryz.ntmps10
  go_wp2_with (first
    | (go_at_call 22; refine (hpk _).mono ?_; rintro e w1 ⟨rfl, rfl⟩)
    | (go_at_call 23; refine hc1.mono ?_; rintro e w2 ⟨rfl, ha, hb⟩))
  go_ret
  exact ⟨rfl, ha, (hW.mono HH.out.base).trans hb⟩

end

end Go.Proofs.YtpkllhgohkgcmaaGreatDoor
