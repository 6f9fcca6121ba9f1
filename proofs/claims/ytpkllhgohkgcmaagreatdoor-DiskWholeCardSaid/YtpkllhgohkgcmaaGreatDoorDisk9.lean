/- The walks of Write, Rename and Remove: of a disk in memory each answers, and leaves the disk, as the plain function of the raw write says; nothing else turns. The bytes that are written are a text that may be. -/
import Derived.Test.YtpkllhgohkgcmaaGreatDoorDisk8
namespace Go.Proofs.YtpkllhgohkgcmaaGreatDoor
open Go.RowKit Go.Maps Go.WideMaps Go.WideElems
set_option maxRecDepth 100000

set_option maxHeartbeats 1000000 in
theorem Write_any {B : Nat} {w : World} {d mb n : Nat} {rv : Value} {x : Ab} {m : Int} (h : Fit B w d mb n rv x m) (s t : ByteArray) (ht : t.size ≤ maxLen) :
    Calls Tryz.prog 40 #[.pointer (some ⟨d, 0, none⟩), .string s, .string t] w fun e w' => e = .returned (.int .i64 (writeFD x s t).1) ∧ After B w w' d mb n rv (writeFD x s t).2 := by
  have hwf := wf_one h s
  have HT : Hid (t.size ≤ maxLen) := ht
  clear ht
  by_cases h0 : (writeD x.left [s] != 0) = true
  · have HE : Hid (writeFD x s t = (writeD x.left [s], x)) := by unfold Hid writeFD; rw [if_pos h0]
    have HD : Hid (IsDisk B w d mb n rv x) := h.disk
    clear h
    generalize writeD x.left [s] = e0 at *
    go_enter Tryz.func40, Tryz.ntmps40
    go_wp2_with (go_at_call 58; refine hwf.mono ?_; rintro e w1 ⟨rfl, hb⟩)
    go_ret
    rw [HE.out]
    exact ⟨rfl, After.same HD.out hb⟩
  rw [Bool.not_eq_true] at h0
  have hok : okPath s = true := by simpa using writeD_ok h0
  have HPF : Hid (∀ w1, Below w.heap.size w w1 → Calls Tryz.prog 60 #[.pointer (some ⟨d, 0, none⟩), .string s] w1 fun e w' => e = .returned (.int .i64 (fileD x.D s)) ∧ Below w1.heap.size w1 w') :=
    fun w1 hb => fileFault_any (h.disk.below hb) s hok
  have HKY : Hid (keyOf Tryz.prog 9 (.string s) = some (keyD s)) := keyOf_str (okPath_size hok)
  have HF : Hid (Fit B w d mb n rv x m) := h
  have HOK : Hid (okPath s = true) := hok
  clear h hok
  by_cases h1 : (fileD x.D s != 0) = true
  · have HE : Hid (writeFD x s t = (fileD x.D s, x)) := by unfold Hid writeFD; rw [if_neg (by rw [h0]; decide), if_pos h1]
    generalize writeD x.left [s] = e0 at *
    generalize fileD x.D s = e1 at *
    go_enter Tryz.func40, Tryz.ntmps40
    go_wp2_with (first
      | (go_at_call 58; refine hwf.mono ?_; rintro e w1 ⟨rfl, hb⟩)
      | (go_at_call 60; refine (HPF.out _ hb).mono ?_; rintro e w2 ⟨rfl, hb2⟩))
    go_ret
    rw [HE.out]
    exact ⟨rfl, After.same HF.out.disk (hb.trans (hb2.mono hb.size))⟩
  rw [Bool.not_eq_true] at h1
  have HE : Hid (writeFD x s t = (0, noteAb { D := x.D.put (keyD s) (itemD false t), rs := x.rs, left := x.left } (2, s, ByteArray.empty))) := by
    unfold Hid writeFD; rw [if_neg (by rw [h0]; decide), if_neg (by rw [h1]; decide)]
  generalize writeD x.left [s] = e0 at *
  generalize fileD x.D s = e1 at *
  go_enter Tryz.func40, Tryz.ntmps40
  go_wp2_with (first
    | (go_at_call 58; refine hwf.mono ?_; rintro e w1 ⟨rfl, hb⟩)
    | (go_at_call 60; refine (HPF.out _ hb).mono ?_; rintro e w3 ⟨rfl, hb3⟩; have hb13 := hb.trans (hb3.mono hb.size); have c0 := (HF.out.disk.below hb13).c0)
    | (at_mapUpdate; refine wpList_mapUpdate_own _ rfl _ _ _ 57 rfl 9 66 keyed Tryz.underlying57 _ mb n x.D rfl (HF.out.disk.below hb13).own (by have := HF.out.room; unfold maxLen; omega) _ _ _ rfl rfl HKY.out _ [] (itemR_mk HT.out) ?_; intro w4 hown4 hg4)
    | (go_at_call 59; refine (note_at HF.out _ _ _ _ _ _ (Nat.le_trans hb13.size hg4.size) (turned (HF.out.disk.below hb13) hown4 hg4 (keys_put HOK.out HF.out.disk.keys)).1).mono ?_; rintro e w5 ⟨rfl, ha⟩))
  go_ret
  rw [HE.out]
  exact ⟨rfl, After.from ((Upd.of_below hb13).trans (turned (HF.out.disk.below hb13) hown4 hg4 (keys_put HOK.out HF.out.disk.keys)).2 (fun _ _ f => f)) ha (Nat.le_refl _)⟩

set_option maxHeartbeats 1000000 in
theorem Remove_any {B : Nat} {w : World} {d mb n : Nat} {rv : Value} {x : Ab} {m : Int} (h : Fit B w d mb n rv x m) (s : ByteArray) :
    Calls Tryz.prog 50 #[.pointer (some ⟨d, 0, none⟩), .string s] w fun e w' => e = .returned (.int .i64 (removeD x s).1) ∧ After B w w' d mb n rv (removeD x s).2 := by
  have hwf := wf_one h s
  by_cases h0 : (writeD x.left [s] != 0) = true
  · have HE : Hid (removeD x s = (writeD x.left [s], x)) := by unfold Hid removeD; rw [if_pos h0]
    have HD : Hid (IsDisk B w d mb n rv x) := h.disk
    clear h
    generalize writeD x.left [s] = e0 at *
    go_enter Tryz.func50, Tryz.ntmps50
    go_wp2_with (go_at_call 58; refine hwf.mono ?_; rintro e w1 ⟨rfl, hb⟩)
    go_ret
    rw [HE.out]
    exact ⟨rfl, After.same HD.out hb⟩
  rw [Bool.not_eq_true] at h0
  have hok : okPath s = true := by simpa using writeD_ok h0
  have HKD : Hid (∀ w1, Below w.heap.size w w1 → Calls Tryz.prog 20 #[.pointer (some ⟨d, 0, none⟩), .string s] w1 fun e w' => e = .returned (.int .i64 (kindD x.D s)) ∧ Below w1.heap.size w1 w') :=
    fun w1 hb => Kind_any (h.disk.below hb) s (okPath_size hok)
  have HUS : Hid (∀ w1, Below w.heap.size w w1 → Calls Tryz.prog 65 #[.pointer (some ⟨d, 0, none⟩), .string s] w1 fun e w' => e = .returned (.bool (usedD x.D s)) ∧ Below w1.heap.size w1 w') :=
    fun w1 hb => used_any (h.disk.below hb) s
  have HKY : Hid (keyOf Tryz.prog 9 (.string s) = some (keyD s)) := keyOf_str (okPath_size hok)
  have HF : Hid (Fit B w d mb n rv x m) := h
  clear h hok
  by_cases h1 : (kindD x.D s == 0) = true
  · have HE : Hid (removeD x s = (12, x)) := by unfold Hid removeD; rw [if_neg (by rw [h0]; decide), if_pos h1]
    generalize writeD x.left [s] = e0 at *
    generalize kindD x.D s = e1 at *
    go_enter Tryz.func50, Tryz.ntmps50
    go_wp2_with (first
      | (go_at_call 58; refine hwf.mono ?_; rintro e w1 ⟨rfl, hb⟩)
      | (go_at_call 20; refine (HKD.out _ hb).mono ?_; rintro e w2 ⟨rfl, hb2⟩))
    go_ret
    rw [HE.out]
    exact ⟨rfl, After.same HF.out.disk (hb.trans (hb2.mono hb.size))⟩
  rw [Bool.not_eq_true] at h1
  by_cases h2 : (kindD x.D s == 2) = true
  · by_cases h3 : usedD x.D s = true
    · have HE : Hid (removeD x s = (14, x)) := by unfold Hid removeD; rw [if_neg (by rw [h0]; decide), if_neg (by rw [h1]; decide), if_pos (by rw [h2, h3]; rfl)]
      generalize writeD x.left [s] = e0 at *
      generalize kindD x.D s = e1 at *
      generalize usedD x.D s = e2 at *
      go_enter Tryz.func50, Tryz.ntmps50
      go_wp2_with (first
        | (go_at_call 58; refine hwf.mono ?_; rintro e w1 ⟨rfl, hb⟩)
        | (go_at_call 20; refine (HKD.out _ hb).mono ?_; rintro e w2 ⟨rfl, hb2⟩; have hb12 := hb.trans (hb2.mono hb.size))
        | (go_at_call 65; refine (HUS.out _ hb12).mono ?_; rintro e w3 ⟨rfl, hb3⟩))
      go_ret
      rw [HE.out]
      exact ⟨rfl, After.same HF.out.disk (hb12.trans (hb3.mono hb12.size))⟩
    · rw [Bool.not_eq_true] at h3
      have HE : Hid (removeD x s = (0, noteAb { D := x.D.del (keyD s), rs := x.rs, left := x.left } (4, s, ByteArray.empty))) := by
        unfold Hid removeD; rw [if_neg (by rw [h0]; decide), if_neg (by rw [h1]; decide), if_neg (by rw [h2, h3]; decide)]
      generalize writeD x.left [s] = e0 at *
      generalize kindD x.D s = e1 at *
      generalize usedD x.D s = e2 at *
      go_enter Tryz.func50, Tryz.ntmps50
      go_wp2_with (first
        | (go_at_call 58; refine hwf.mono ?_; rintro e w1 ⟨rfl, hb⟩)
        | (go_at_call 20; refine (HKD.out _ hb).mono ?_; rintro e w2 ⟨rfl, hb2⟩; have hb12 := hb.trans (hb2.mono hb.size))
        | (go_at_call 65; refine (HUS.out _ hb12).mono ?_; rintro e w3 ⟨rfl, hb3⟩; have hb13 := hb12.trans (hb3.mono hb12.size); have c0 := (HF.out.disk.below hb13).c0)
        | (at_delete; refine wpList_delete_own _ rfl _ _ 57 9 rfl 66 keyed Tryz.underlying57 _ mb n x.D rfl (HF.out.disk.below hb13).own _ _ rfl HKY.out ?_; intro w4 hown4 ht4; have hg4 := ht4.grown)
        | (go_at_call 59; refine (note_at HF.out _ _ _ _ _ _ (Nat.le_trans hb13.size hg4.size) (turned (HF.out.disk.below hb13) hown4 hg4 (keys_del HF.out.disk.keys)).1).mono ?_; rintro e w5 ⟨rfl, ha⟩))
      go_ret
      rw [HE.out]
      exact ⟨rfl, After.from ((Upd.of_below hb13).trans (turned (HF.out.disk.below hb13) hown4 hg4 (keys_del HF.out.disk.keys)).2 (fun _ _ f => f)) ha (Nat.le_succ _)⟩
  · rw [Bool.not_eq_true] at h2
    have HE : Hid (removeD x s = (0, noteAb { D := x.D.del (keyD s), rs := x.rs, left := x.left } (4, s, ByteArray.empty))) := by
      unfold Hid removeD; rw [if_neg (by rw [h0]; decide), if_neg (by rw [h1]; decide), if_neg (by rw [h2]; simp)]
    generalize writeD x.left [s] = e0 at *
    generalize kindD x.D s = e1 at *
    go_enter Tryz.func50, Tryz.ntmps50
    go_wp2_with (first
      | (go_at_call 58; refine hwf.mono ?_; rintro e w1 ⟨rfl, hb⟩)
      | (go_at_call 20; refine (HKD.out _ hb).mono ?_; rintro e w2 ⟨rfl, hb2⟩; have hb13 := hb.trans (hb2.mono hb.size); have c0 := (HF.out.disk.below hb13).c0)
      | (at_delete; refine wpList_delete_own _ rfl _ _ 57 9 rfl 66 keyed Tryz.underlying57 _ mb n x.D rfl (HF.out.disk.below hb13).own _ _ rfl HKY.out ?_; intro w4 hown4 ht4; have hg4 := ht4.grown)
      | (go_at_call 59; refine (note_at HF.out _ _ _ _ _ _ (Nat.le_trans hb13.size hg4.size) (turned (HF.out.disk.below hb13) hown4 hg4 (keys_del HF.out.disk.keys)).1).mono ?_; rintro e w5 ⟨rfl, ha⟩))
    go_ret
    rw [HE.out]
    exact ⟨rfl, After.from ((Upd.of_below hb13).trans (turned (HF.out.disk.below hb13) hown4 hg4 (keys_del HF.out.disk.keys)).2 (fun _ _ f => f)) ha (Nat.le_succ _)⟩

end Go.Proofs.YtpkllhgohkgcmaaGreatDoor
