/- The walks of Mkdir, Write, Rename and Remove: of a disk in memory each answers, and leaves the disk, as the plain function of the raw write says; nothing else turns. -/
import Derived.Test.YtpkllhgohkgcmaaGreatDoorDisk7
namespace Go.Proofs.YtpkllhgohkgcmaaGreatDoor
open Go.RowKit Go.Maps Go.WideMaps Go.WideElems
set_option maxRecDepth 100000

/-- What the four raw writes are told of the disk and of the numbers. -/
structure Fit (B : Nat) (w : World) (d mb n : Nat) (rv : Value) (x : Ab) (m : Int) : Prop where
  disk : IsDisk B w d mb n rv x
  max : w.cell? ⟨0, 0, none⟩ = some (.int .i64 m)
  room : n < 2199023255552
  len : x.rs.length < 2199023255552
  lo : -1 ≤ x.left
  hi : x.left ≤ 9223372036854775807
  base : B ≤ w.heap.size

theorem alloc_below (w : World) (o : Obj) : Below w.heap.size w (w.alloc o) := (Below.refl _ _).alloc (Nat.le_refl _) _

theorem wf_one {B : Nat} {w : World} {d mb n : Nat} {rv : Value} {x : Ab} {m : Int} (h : Fit B w d mb n rv x m) (s : ByteArray) :
    Calls Tryz.prog 58 #[.pointer (some ⟨d, 0, none⟩), .slice (some ⟨w.heap.size, 0, none⟩) 1 1] (w.alloc (.cells #[.string s] 9)) fun e w' => e = .returned (.int .i64 (writeD x.left [s])) ∧ Below w.heap.size w w' := by
  have := writeFault_any (h.disk.below (alloc_below w (.cells #[.string s] 9))) m (cell_below h.max (alloc_below w _)) w.heap.size 1 [s] (by simp) (fun k hk => by
    have : k = 0 := by simpa using hk
    subst this
    rw [World.cell?_alloc_new]; rfl)
  refine this.mono ?_
  rintro e w' ⟨rfl, hb⟩
  exact ⟨rfl, (alloc_below w _).trans (hb.mono (by simp))⟩

theorem wf_two {B : Nat} {w : World} {d mb n : Nat} {rv : Value} {x : Ab} {m : Int} (h : Fit B w d mb n rv x m) (s t : ByteArray) :
    Calls Tryz.prog 58 #[.pointer (some ⟨d, 0, none⟩), .slice (some ⟨w.heap.size, 0, none⟩) 2 2] (w.alloc (.cells #[.string s, .string t] 9)) fun e w' => e = .returned (.int .i64 (writeD x.left [s, t])) ∧ Below w.heap.size w w' := by
  have := writeFault_any (h.disk.below (alloc_below w (.cells #[.string s, .string t] 9))) m (cell_below h.max (alloc_below w _)) w.heap.size 2 [s, t] (by simp) (fun k hk => by
    have : k < 2 := by simpa using hk
    match k, this with
    | 0, _ => rw [World.cell?_alloc_new]; rfl
    | 1, _ => rw [World.cell?_alloc_new]; rfl)
  refine this.mono ?_
  rintro e w' ⟨rfl, hb⟩
  exact ⟨rfl, (alloc_below w _).trans (hb.mono (by simp))⟩

theorem note_at {B : Nat} {w : World} {d mb n : Nat} {rv : Value} {x : Ab} {m : Int} (h : Fit B w d mb n rv x m) (k : Int) (p t : ByteArray) (D' : DataW Unit) (n' : Nat) (w1 : World) (hw : w.heap.size ≤ w1.heap.size) (hd : IsDisk B w1 d mb n' rv { D := D', rs := x.rs, left := x.left }) :
    Calls Tryz.prog 59 #[.pointer (some ⟨d, 0, none⟩), .agg #[.int .i64 k, .string p, .string t]] w1 fun e w' => e = .returned (.tuple #[]) ∧
      ∃ rv', IsDisk B w' d mb n' rv' (noteAb { D := D', rs := x.rs, left := x.left } (k, p, t)) ∧ Upd (Foot d mb rv) w1 w' ∧ ∀ j, rv'.ownBlock = some j → rv.ownBlock = some j ∨ w1.heap.size ≤ j :=
  note_any hd k p t h.len h.lo h.hi (Nat.le_trans h.base hw)

set_option maxHeartbeats 1000000 in
theorem Mkdir_any {B : Nat} {w : World} {d mb n : Nat} {rv : Value} {x : Ab} {m : Int} (h : Fit B w d mb n rv x m) (s : ByteArray) :
    Calls Tryz.prog 39 #[.pointer (some ⟨d, 0, none⟩), .string s] w fun e w' => e = .returned (.int .i64 (mkdirD x s).1) ∧ After B w w' d mb n rv (mkdirD x s).2 := by
  have hwf := wf_one h s
  by_cases h0 : (writeD x.left [s] != 0) = true
  · have HE : Hid (mkdirD x s = (writeD x.left [s], x)) := by unfold Hid mkdirD; rw [if_pos h0]
    have HD : Hid (IsDisk B w d mb n rv x) := h.disk
    clear h
    generalize writeD x.left [s] = e0 at *
    go_enter Tryz.func39, Tryz.ntmps39
    go_wp2_with (go_at_call 58; refine hwf.mono ?_; rintro e w1 ⟨rfl, hb⟩)
    go_ret
    rw [HE.out]
    exact ⟨rfl, After.same HD.out hb⟩
  rw [Bool.not_eq_true] at h0
  have hok : okPath s = true := by simpa using writeD_ok h0
  have HPF : Hid (∀ w1, Below w.heap.size w w1 → Calls Tryz.prog 42 #[.pointer (some ⟨d, 0, none⟩), .string s] w1 fun e w' => e = .returned (.int .i64 (parentD x.D s)) ∧ Below w1.heap.size w1 w') :=
    fun w1 hb => parentFault_any (h.disk.below hb) s hok
  have HKD : Hid (∀ w1, Below w.heap.size w w1 → Calls Tryz.prog 20 #[.pointer (some ⟨d, 0, none⟩), .string s] w1 fun e w' => e = .returned (.int .i64 (kindD x.D s)) ∧ Below w1.heap.size w1 w') :=
    fun w1 hb => Kind_any (h.disk.below hb) s (okPath_size hok)
  have HKY : Hid (keyOf Tryz.prog 9 (.string s) = some (keyD s)) := keyOf_str (okPath_size hok)
  have HF : Hid (Fit B w d mb n rv x m) := h
  have HOK : Hid (okPath s = true) := hok
  clear h hok
  by_cases h1 : (parentD x.D s != 0) = true
  · have HE : Hid (mkdirD x s = (parentD x.D s, x)) := by unfold Hid mkdirD; rw [if_neg (by rw [h0]; decide), if_pos h1]
    generalize writeD x.left [s] = e0 at *
    generalize parentD x.D s = e1 at *
    go_enter Tryz.func39, Tryz.ntmps39
    go_wp2_with (first
      | (go_at_call 58; refine hwf.mono ?_; rintro e w1 ⟨rfl, hb⟩)
      | (go_at_call 42; refine (HPF.out _ hb).mono ?_; rintro e w2 ⟨rfl, hb2⟩))
    go_ret
    rw [HE.out]
    exact ⟨rfl, After.same HF.out.disk (hb.trans (hb2.mono hb.size))⟩
  rw [Bool.not_eq_true] at h1
  by_cases h2 : (kindD x.D s != 0) = true
  · have HE : Hid (mkdirD x s = (11, x)) := by unfold Hid mkdirD; rw [if_neg (by rw [h0]; decide), if_neg (by rw [h1]; decide), if_pos h2]
    generalize writeD x.left [s] = e0 at *
    generalize parentD x.D s = e1 at *
    generalize kindD x.D s = e2 at *
    go_enter Tryz.func39, Tryz.ntmps39
    go_wp2_with (first
      | (go_at_call 58; refine hwf.mono ?_; rintro e w1 ⟨rfl, hb⟩)
      | (go_at_call 42; refine (HPF.out _ hb).mono ?_; rintro e w2 ⟨rfl, hb2⟩)
      | (go_at_call 20; refine (HKD.out _ (hb.trans (hb2.mono hb.size))).mono ?_; rintro e w3 ⟨rfl, hb3⟩))
    go_ret
    rw [HE.out]
    have hb12 := hb.trans (hb2.mono hb.size)
    exact ⟨rfl, After.same HF.out.disk (hb12.trans (hb3.mono hb12.size))⟩
  rw [Bool.not_eq_true] at h2
  have HE : Hid (mkdirD x s = (0, noteAb { D := x.D.put (keyD s) (itemD true ByteArray.empty), rs := x.rs, left := x.left } (1, s, ByteArray.empty))) := by
    unfold Hid mkdirD; rw [if_neg (by rw [h0]; decide), if_neg (by rw [h1]; decide), if_neg (by rw [h2]; decide)]
  generalize writeD x.left [s] = e0 at *
  generalize parentD x.D s = e1 at *
  generalize kindD x.D s = e2 at *
  go_enter Tryz.func39, Tryz.ntmps39
  go_wp2_with (first
    | (go_at_call 58; refine hwf.mono ?_; rintro e w1 ⟨rfl, hb⟩)
    | (go_at_call 42; refine (HPF.out _ hb).mono ?_; rintro e w2 ⟨rfl, hb2⟩)
    | (go_at_call 20; refine (HKD.out _ (hb.trans (hb2.mono hb.size))).mono ?_; rintro e w3 ⟨rfl, hb3⟩; have hb12 := hb.trans (hb2.mono hb.size); have hb13 := hb12.trans (hb3.mono hb12.size); have c0 := (HF.out.disk.below hb13).c0)
    | (at_mapUpdate; refine wpList_mapUpdate_own _ rfl _ _ _ 57 rfl 9 66 keyed Tryz.underlying57 _ mb n x.D rfl (HF.out.disk.below hb13).own (by have := HF.out.room; unfold maxLen; omega) _ _ _ rfl rfl HKY.out _ [] (itemR_mk (by decide)) ?_; intro w4 hown4 hg4)
    | (go_at_call 59; refine (note_at HF.out _ _ _ _ _ _ (Nat.le_trans hb13.size hg4.size) (turned (HF.out.disk.below hb13) hown4 hg4 (keys_put HOK.out HF.out.disk.keys)).1).mono ?_; rintro e w5 ⟨rfl, ha⟩))
  go_ret
  rw [HE.out]
  exact ⟨rfl, After.from ((Upd.of_below hb13).trans (turned (HF.out.disk.below hb13) hown4 hg4 (keys_put HOK.out HF.out.disk.keys)).2 (fun _ _ f => f)) ha (Nat.le_refl _)⟩

end Go.Proofs.YtpkllhgohkgcmaaGreatDoor
