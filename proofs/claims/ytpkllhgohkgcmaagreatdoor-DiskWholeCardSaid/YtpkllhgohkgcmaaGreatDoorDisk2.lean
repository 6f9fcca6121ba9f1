/- The walks of New, Cut, parentFault, fileFault and Read: of a disk in memory, each answers as the plain function says and leaves old memory as it was (Cut: but for the count). -/
import Derived.Test.YtpkllhgohkgcmaaGreatDoorDisk1
namespace Go.Proofs.YtpkllhgohkgcmaaGreatDoor
open Go.RowKit Go.Maps Go.WideMaps Go.WideElems
set_option maxRecDepth 100000

set_option maxHeartbeats 400000 in
theorem New_walk (w : World) : Calls Tryz.prog 8 #[] w fun e w' => e = .returned (.pointer (some ⟨w.heap.size + 1, 0, none⟩)) ∧
    w' = (w.alloc (.map #[] 0)).alloc (.cells #[.map (some w.heap.size), .slice none 0 0, .int .i64 (-1)] 59) := by
  have hmm := @run_makeMap Tryz.prog
  go_enter Tryz.func8, Tryz.ntmps8
  go_wp2
  go_ret
  exact ⟨rfl, rfl⟩

def newAb : Ab := { D := .map [], rs := [], left := -1 }

theorem new_is {w : World} {B : Nat} (hB : B ≤ w.heap.size) : IsDisk B ((w.alloc (.map #[] 0)).alloc (.cells #[.map (some w.heap.size), .slice none 0 0, .int .i64 (-1)] 59)) (w.heap.size + 1) w.heap.size 0 (.slice none 0 0) newAb := by
  have hsz : (w.alloc (.map #[] 0)).heap.size = w.heap.size + 1 := by simp
  have cell : ∀ i v, (#[Value.map (some w.heap.size), .slice none 0 0, .int .i64 (-1)])[i]? = some v → ((w.alloc (.map #[] 0)).alloc (.cells #[.map (some w.heap.size), .slice none 0 0, .int .i64 (-1)] 59)).cell? ⟨w.heap.size + 1, i, none⟩ = some v := by
    intro i v h
    have := World.cell?_alloc_new (w := w.alloc (.map #[] 0)) #[.map (some w.heap.size), .slice none 0 0, .int .i64 (-1)] 59 i
    rw [hsz] at this
    rw [this]; exact h
  have fz : ∀ i, ((w.alloc (.map #[] 0)).alloc (.cells #[.map (some w.heap.size), .slice none 0 0, .int .i64 (-1)] 59)).frozen? ⟨w.heap.size + 1, i, none⟩ = false := by
    intro i
    have e : ((w.alloc (.map #[] 0)).alloc (.cells #[.map (some w.heap.size), .slice none 0 0, .int .i64 (-1)] 59)).heap[w.heap.size + 1]? = some (.cells #[.map (some w.heap.size), .slice none 0 0, .int .i64 (-1)] 59 (0, 0)) := by
      show ((w.heap.push _).push _)[w.heap.size + 1]? = _
      rw [Array.getElem?_push, if_pos (by simp)]
    unfold World.frozen?
    simp only [e]
    simp
  exact { c0 := cell 0 _ rfl, c1 := cell 1 _ rfl, c2 := cell 2 _ rfl, f1 := fz 1, f2 := fz 2,
          own := (World.ownsMap_made w Tryz.prog 9 itemR).alloc _, row := ⟨rfl, Or.inl ⟨rfl, rfl⟩⟩,
          rd := by simp [Value.ownBlock], rm := by simp [Value.ownBlock], dm := by omega, bd := by omega, bm := hB,
          ld := by simp, keys := fun kl h => by simp [newAb, Maps.has] at h }

theorem new_below (w : World) : Below w.heap.size w ((w.alloc (.map #[] 0)).alloc (.cells #[.map (some w.heap.size), .slice none 0 0, .int .i64 (-1)] 59)) :=
  ((Below.refl _ _).alloc (Nat.le_refl _) _).alloc (by simp) _

theorem IsDisk.setLeft {B : Nat} {w : World} {d mb n : Nat} {rv : Value} {x : Ab} (h : IsDisk B w d mb n rv x) (l : Int) : IsDisk B (w.setCell ⟨d, 2, none⟩ (.int .i64 l)) d mb n rv { x with left := l } := by
  have hc0 : (w.setCell ⟨d, 2, none⟩ (.int .i64 l)).cell? ⟨d, 0, none⟩ = w.cell? ⟨d, 0, none⟩ := World.cell?_setCell_other _ _ _ _ (by simp)
  have hc1 : (w.setCell ⟨d, 2, none⟩ (.int .i64 l)).cell? ⟨d, 1, none⟩ = w.cell? ⟨d, 1, none⟩ := World.cell?_setCell_other _ _ _ _ (by simp)
  exact { c0 := by rw [hc0]; exact h.c0, c1 := by rw [hc1]; exact h.c1, c2 := World.cell?_setCell_same _ _ _ h.c2,
          f1 := by rw [World.frozen?_setCell]; exact h.f1, f2 := by rw [World.frozen?_setCell]; exact h.f2,
          own := h.own.setCell (fun e => h.dm e.symm) _, row := ownsRow_upd h.row (Upd.setCell w ⟨d, 2, none⟩ (.int .i64 l)) (fun k hk e => h.rd (by rw [hk]; exact congrArg some e)),
          rd := h.rd, rm := h.rm, dm := h.dm, bd := h.bd, bm := h.bm, ld := by simp [World.setCell]; exact h.ld, keys := h.keys }

theorem Cut_any {B : Nat} {w : World} {d mb n : Nat} {rv : Value} {x : Ab} (h : IsDisk B w d mb n rv x) (k : Int) (h0 : (x.left == 0) = false) (hk : 0 ≤ k) :
    Calls Tryz.prog 30 #[.pointer (some ⟨d, 0, none⟩), .int .i64 k] w fun e w' => e = .returned (.int .i64 0) ∧ w' = w.setCell ⟨d, 2, none⟩ (.int .i64 k) := by
  have hd := Down_any h
  have c2 := h.c2
  have f2 := h.f2
  clear h
  go_enter Tryz.func30, Tryz.ntmps30
  go_wp2_with (go_at_call 13; refine hd.mono ?_; rintro e w' ⟨rfl, rfl⟩)
  go_ret
  exact ⟨rfl, rfl⟩

theorem kindD_cases (D : DataW Unit) (s : ByteArray) : kindD D s = 0 ∨ kindD D s = 1 ∨ kindD D s = 2 := by
  unfold kindD
  split
  · exact Or.inr (Or.inr rfl)
  · split
    · split
      · exact Or.inr (Or.inr rfl)
      · exact Or.inr (Or.inl rfl)
    · exact Or.inl rfl

/-- Why nothing can stand at a path, for its parent's sake. -/
def parentD (D : DataW Unit) (s : ByteArray) : Int := if (kindD D (parentOf s) == 0) = true then 12 else if (kindD D (parentOf s) == 1) = true then 13 else 0

theorem prefix_last {s : ByteArray} (h : Lib.hasPrefix s.data.toList [47] = true) : 0 ≤ Lib.lastIndexByte s 47 := by
  unfold Lib.lastIndexByte
  rcases Lib.lastIdx_spec s 47 s.size with ⟨_, hj⟩ | ⟨i, _, h2, _⟩
  · exfalso
    unfold Lib.hasPrefix at h
    cases hl : s.data.toList with
    | nil => rw [hl] at h; cases h
    | cons a t =>
      rw [hl] at h
      have ha : a = 47 := (show (47 : UInt8) = a by simpa using h).symm
      have hsz : 0 < s.size := by rw [← size_list, hl]; simp
      have := hj 0 hsz
      apply this
      have e : s.data[0]! = a := by
        have : s.data[0]? = some a := by rw [← Array.getElem?_toList, hl]; rfl
        simp [getElem!_def, this]
      rw [e, ha]; rfl
  · rw [h2]; omega

theorem okPath_parts {s : ByteArray} (h : okPath s = true) : s.size ≤ 4096 ∧ 0 ≤ Lib.lastIndexByte s 47 := by
  unfold okPath pathB at h
  simp only [Bool.and_eq_true, Bool.or_eq_true, Bool.not_eq_true'] at h
  obtain ⟨h1, h2⟩ := h
  rcases h1 with h1 | ⟨⟨h3, h4⟩, _⟩
  · rw [h2] at h1; cases h1
  · exact ⟨by simpa using h3, prefix_last h4⟩

theorem parentOf_size {s : ByteArray} (h : s.size ≤ 4096) : (parentOf s).size ≤ maxLen := by
  unfold parentOf maxLen
  split
  · decide
  · simp only [ByteArray.size_extract]; omega

set_option maxHeartbeats 400000 in
theorem parentFault_any {B : Nat} {w : World} {d mb n : Nat} {rv : Value} {x : Ab} (h : IsDisk B w d mb n rv x) (s : ByteArray) (hs : okPath s = true) :
    Calls Tryz.prog 42 #[.pointer (some ⟨d, 0, none⟩), .string s] w fun e w' => e = .returned (.int .i64 (parentD x.D s)) ∧ Below w.heap.size w w' := by
  obtain ⟨p1, p2⟩ := okPath_parts hs
  have hsp := split_any s w p1 p2
  have hk := Kind_any (h.below (Below.refl _ w).drew) (parentOf s) (parentOf_size p1)
  have HP : Hid (parentD x.D s = if (kindD x.D (parentOf s) == 0) = true then 12 else if (kindD x.D (parentOf s) == 1) = true then 13 else 0) := by unfold Hid parentD; rfl
  generalize kindD x.D (parentOf s) = k at *
  generalize parentOf s = ps at *
  clear h hs p1 p2
  by_cases h0 : (k == 0) = true
  · go_enter Tryz.func42, Tryz.ntmps42
    go_wp2_with (first
      | (go_at_call 53; refine hsp.mono ?_; rintro e w' ⟨rfl, rfl⟩)
      | (go_at_call 20; refine hk.mono ?_; rintro e w' ⟨rfl, hb⟩))
    go_ret
    exact ⟨ret_int (by rw [HP.out, if_pos h0]), (Below.refl _ w).drew.trans hb⟩
  · rw [Bool.not_eq_true] at h0
    by_cases h1 : (k == 1) = true
    · go_enter Tryz.func42, Tryz.ntmps42
      go_wp2_with (first
        | (go_at_call 53; refine hsp.mono ?_; rintro e w' ⟨rfl, rfl⟩)
        | (go_at_call 20; refine hk.mono ?_; rintro e w' ⟨rfl, hb⟩))
      go_ret
      exact ⟨ret_int (by rw [HP.out, if_neg (by rw [h0]; decide), if_pos h1]), (Below.refl _ w).drew.trans hb⟩
    · rw [Bool.not_eq_true] at h1
      go_enter Tryz.func42, Tryz.ntmps42
      go_wp2_with (first
        | (go_at_call 53; refine hsp.mono ?_; rintro e w' ⟨rfl, rfl⟩)
        | (go_at_call 20; refine hk.mono ?_; rintro e w' ⟨rfl, hb⟩))
      go_ret
      exact ⟨ret_int (by rw [HP.out, if_neg (by rw [h0]; decide), if_neg (by rw [h1]; decide)]), (Below.refl _ w).drew.trans hb⟩

end Go.Proofs.YtpkllhgohkgcmaaGreatDoor
