/- The walk of Rename: of a disk in memory it answers, and leaves the disk, as the plain function says; nothing else turns. -/
import Derived.Test.YtpkllhgohkgcmaaGreatDoorDisk8
namespace Go.Proofs.YtpkllhgohkgcmaaGreatDoor
open Go.RowKit Go.Maps Go.WideMaps Go.WideElems
set_option maxRecDepth 100000

theorem readT_size {B : Nat} {w : World} {d mb n : Nat} {rv : Value} {x : Ab} (h : IsDisk B w d mb n rv x) {s : ByteArray} (hs : s.size ≤ maxLen) : (readT x.D s).size ≤ maxLen := by
  unfold readT
  split
  · obtain ⟨v, ps, _, hv⟩ := h.own.lookup keyed Tryz.underlying57 (zeroItem _) (zd := zeroD) (zp := []) (itemR_mk (by decide)) (keyOf_str hs)
    obtain ⟨c, t, _, h2, h3⟩ := itemR_inv hv
    have e : x.D.atKey (keyD s) zeroD = itemD c t := congrArg Prod.fst h2
    rw [e, itData_mk, bytes_mk]; exact h3
  · decide

set_option maxHeartbeats 1000000 in
theorem Rename_any {B : Nat} {w : World} {d mb n : Nat} {rv : Value} {x : Ab} {m : Int} (h : Fit B w d mb n rv x m) (s t : ByteArray) :
    Calls Tryz.prog 48 #[.pointer (some ⟨d, 0, none⟩), .string s, .string t] w fun e w' => e = .returned (.int .i64 (renameD x s t).1) ∧ After B w w' d mb n rv (renameD x s t).2 := by
  have hwf := wf_two h s t
  by_cases h0 : (writeD x.left [s, t] != 0) = true
  · have HE : Hid (renameD x s t = (writeD x.left [s, t], x)) := by unfold Hid renameD; rw [if_pos h0]
    have HD : Hid (IsDisk B w d mb n rv x) := h.disk
    clear h
    generalize writeD x.left [s, t] = e0 at *
    go_enter Tryz.func48, Tryz.ntmps48
    go_wp2_with (go_at_call 58; refine hwf.mono ?_; rintro e w1 ⟨rfl, hb⟩)
    go_ret
    rw [HE.out]
    exact ⟨rfl, After.same HD.out hb⟩
  rw [Bool.not_eq_true] at h0
  have hoks : okPath s = true ∧ okPath t = true := by simpa using writeD_ok h0
  obtain ⟨hok, hokt⟩ := hoks
  have HRD : Hid (∀ w1, Below w.heap.size w w1 → Calls Tryz.prog 25 #[.pointer (some ⟨d, 0, none⟩), .string s] w1 fun e w' => e = .returned (.tuple #[.string (readT x.D s), .int .i64 (readE x.D s)]) ∧ Below w1.heap.size w1 w') :=
    fun w1 hb => Read_any (h.disk.below hb) s m (cell_below h.max hb) (okPath_size hok)
  have HPF : Hid (∀ w1, Below w.heap.size w w1 → Calls Tryz.prog 60 #[.pointer (some ⟨d, 0, none⟩), .string t] w1 fun e w' => e = .returned (.int .i64 (fileD x.D t)) ∧ Below w1.heap.size w1 w') :=
    fun w1 hb => fileFault_any (h.disk.below hb) t hokt
  have HKY : Hid (keyOf Tryz.prog 9 (.string s) = some (keyD s)) := keyOf_str (okPath_size hok)
  have HKT : Hid (keyOf Tryz.prog 9 (.string t) = some (keyD t)) := keyOf_str (okPath_size hokt)
  have HZ : Hid ((readT x.D s).size ≤ maxLen) := readT_size h.disk (okPath_size hok)
  have HF : Hid (Fit B w d mb n rv x m) := h
  have HOK : Hid (okPath t = true) := hokt
  clear h hok hokt
  by_cases h1 : (readE x.D s != 0) = true
  · have HE : Hid (renameD x s t = (readE x.D s, x)) := by unfold Hid renameD; rw [if_neg (by rw [h0]; decide), if_pos h1]
    generalize writeD x.left [s, t] = e0 at *
    generalize readE x.D s = e1 at *
    generalize readT x.D s = u at *
    go_enter Tryz.func48, Tryz.ntmps48
    go_wp2_with (first
      | (go_at_call 58; refine hwf.mono ?_; rintro e w1 ⟨rfl, hb⟩)
      | (go_at_call 25; refine (HRD.out _ hb).mono ?_; rintro e w2 ⟨rfl, hb2⟩))
    go_ret
    rw [HE.out]
    exact ⟨rfl, After.same HF.out.disk (hb.trans (hb2.mono hb.size))⟩
  rw [Bool.not_eq_true] at h1
  by_cases h2 : (fileD x.D t != 0) = true
  · have HE : Hid (renameD x s t = (fileD x.D t, x)) := by unfold Hid renameD; rw [if_neg (by rw [h0]; decide), if_neg (by rw [h1]; decide), if_pos h2]
    generalize writeD x.left [s, t] = e0 at *
    generalize readE x.D s = e1 at *
    generalize readT x.D s = u at *
    generalize fileD x.D t = e2 at *
    go_enter Tryz.func48, Tryz.ntmps48
    go_wp2_with (first
      | (go_at_call 58; refine hwf.mono ?_; rintro e w1 ⟨rfl, hb⟩)
      | (go_at_call 25; refine (HRD.out _ hb).mono ?_; rintro e w2 ⟨rfl, hb2⟩; have hb12 := hb.trans (hb2.mono hb.size))
      | (go_at_call 60; refine (HPF.out _ hb12).mono ?_; rintro e w3 ⟨rfl, hb3⟩))
    go_ret
    rw [HE.out]
    exact ⟨rfl, After.same HF.out.disk (hb12.trans (hb3.mono hb12.size))⟩
  rw [Bool.not_eq_true] at h2
  have HE : Hid (renameD x s t = (0, noteAb { D := (x.D.del (keyD s)).put (keyD t) (itemD false (readT x.D s)), rs := x.rs, left := x.left } (3, s, t))) := by
    unfold Hid renameD; rw [if_neg (by rw [h0]; decide), if_neg (by rw [h1]; decide), if_neg (by rw [h2]; decide)]
  generalize writeD x.left [s, t] = e0 at *
  generalize readE x.D s = e1 at *
  generalize readT x.D s = u at *
  generalize fileD x.D t = e2 at *
  go_enter Tryz.func48, Tryz.ntmps48
  go_wp2_with (first
    | (go_at_call 58; refine hwf.mono ?_; rintro e w1 ⟨rfl, hb⟩)
    | (go_at_call 25; refine (HRD.out _ hb).mono ?_; rintro e w2 ⟨rfl, hb2⟩; have hb12 := hb.trans (hb2.mono hb.size))
    | (go_at_call 60; refine (HPF.out _ hb12).mono ?_; rintro e w3 ⟨rfl, hb3⟩; have hb13 := hb12.trans (hb3.mono hb12.size); have c0 := (HF.out.disk.below hb13).c0)
    | (at_delete; refine wpList_delete_own _ rfl _ _ 57 9 rfl 66 keyed Tryz.underlying57 _ mb n x.D rfl (HF.out.disk.below hb13).own _ _ rfl HKY.out ?_; intro w4 hown4 ht4; have hg4 := ht4.grown; have HT4 := turned (HF.out.disk.below hb13) hown4 hg4 (keys_del HF.out.disk.keys); have c0' := HT4.1.c0; clear ht4)
    | (at_mapUpdate; refine wpList_mapUpdate_own _ rfl _ _ _ 57 rfl 9 66 keyed Tryz.underlying57 _ mb n _ rfl hown4 (by have := HF.out.room; unfold maxLen; omega) _ _ _ rfl rfl HKT.out _ [] (itemR_mk HZ.out) ?_; intro w5 hown5 hg5)
    | (go_at_call 59; refine (note_at HF.out _ _ _ _ _ _ (Nat.le_trans (Nat.le_trans hb13.size hg4.size) hg5.size) (turned HT4.1 hown5 hg5 (keys_put HOK.out HT4.1.keys)).1).mono ?_; rintro e w6 ⟨rfl, ha⟩))
  go_ret
  rw [HE.out]
  exact ⟨rfl, After.from (((Upd.of_below hb13).trans HT4.2 (fun _ _ f => f)).trans (turned HT4.1 hown5 hg5 (keys_put HOK.out HT4.1.keys)).2 (fun _ _ f => f)) ha (Nat.le_refl _)⟩

end Go.Proofs.YtpkllhgohkgcmaaGreatDoor
