/- Dd6, laid in one text. -/
import Derived.Deep.RegionHeld3
import Derived.Test.YtpaoimhebheaeaaGreatDoorMg05
namespace Go.Proofs.YtpaoimhebheaeaaGreatDoor.Dk
open Go.RowKit Go.Maps
set_option maxRecDepth 100000

theorem noted_is {B : Nat} {w w1 : World} {e : Nat} {lv rv : Value} {fs : List Fl} {rs : List (Int × ByteArray × ByteArray)} {left : Int} (h : IsRef B w e lv rv fs rs left) {k : Int} {p t : ByteArray} {g cap : Nat}
    (hown : w1.ownsRow B 52 3 (.slice (some ⟨g, 0, none⟩) (rs.length + 1) cap) (rs.length + 1) (rawCells rs ++ [.int .i64 k, .string p, .string t]))
    (hgrow : (w.alloc (rawObj k p t)).grownBy w1 rv.ownBlock) (hat : rv.ownBlock = some g ∨ g = w.heap.size + 1) :
    IsRef B (w1.setCell ⟨e, 1, none⟩ (.slice (some ⟨g, 0, none⟩) (rs.length + 1) cap)) e lv (.slice (some ⟨g, 0, none⟩) (rs.length + 1) cap) fs (rs ++ [(k, p, t)]) left ∧
      Upd (FootR e lv rv) w (w1.setCell ⟨e, 1, none⟩ (.slice (some ⟨g, 0, none⟩) (rs.length + 1) cap)) := by
  have hb := alloc_below w (rawObj k p t)
  have hu : Upd (fun j => rv.ownBlock = some j) w w1 := (Upd.of_below hb).trans (Upd.of_grown hgrow) (fun _ _ f => f)
  have q : ∀ i, w1.cell? ⟨e, i, none⟩ = w.cell? ⟨e, i, none⟩ ∧ w1.frozen? ⟨e, i, none⟩ = w.frozen? ⟨e, i, none⟩ := fun i =>
    ⟨World.cell?_of_block (w := w) (hu.block e h.lt h.re), World.frozen?_of_block (w := w) (hu.block e h.lt h.re)⟩
  have hge : g ≠ e := by
    rcases hat with e' | e'
    · intro e''; exact h.re (by rw [e', e''])
    · have := h.lt; omega
  have o0 : (w1.setCell ⟨e, 1, none⟩ (.slice (some ⟨g, 0, none⟩) (rs.length + 1) cap)).cell? ⟨e, 0, none⟩ = w1.cell? ⟨e, 0, none⟩ := World.cell?_setCell_other _ _ _ _ (by simp)
  have o2 : (w1.setCell ⟨e, 1, none⟩ (.slice (some ⟨g, 0, none⟩) (rs.length + 1) cap)).cell? ⟨e, 2, none⟩ = w1.cell? ⟨e, 2, none⟩ := World.cell?_setCell_other _ _ _ _ (by simp)
  have c1' : w1.cell? ⟨e, 1, none⟩ = some rv := by rw [(q 1).1]; exact h.c1
  have hs := Upd.setCell w1 ⟨e, 1, none⟩ (.slice (some ⟨g, 0, none⟩) (rs.length + 1) cap)
  refine ⟨?_, (hu.mono (fun _ _ f => Or.inr (Or.inr f))).trans hs (fun i _ f => Or.inl f)⟩
  exact { c0 := by rw [o0, (q 0).1]; exact h.c0, c1 := World.cell?_setCell_same _ _ _ c1', c2 := by rw [o2, (q 2).1]; exact h.c2, f0 := by rw [World.frozen?_setCell, (q 0).2]; exact h.f0, f1 := by rw [World.frozen?_setCell, (q 1).2]; exact h.f1, f2 := by rw [World.frozen?_setCell, (q 2).2]; exact h.f2,
          lrow := ownsRow_upd (ownsRow_upd h.lrow hu (fun j hj hr => h.apart hj hr)) hs (fun j hj hj' => h.le (by rw [hj]; exact congrArg some hj')),
          rrow := by
            rw [rawCells_snoc, List.length_append]
            exact ownsRow_upd hown hs (fun j hj e' => by cases hj; exact hge e')
          le := h.le, re := by simp only [Value.ownBlock]; intro e'; exact hge (Option.some.inj e'), be := h.be, lt := by have := h.lt; have := hu.size; simp [World.setCell]; omega }

theorem noted_any {B : Nat} {w : World} {e : Nat} {lv rv : Value} {fs : List Fl} {rs : List (Int × ByteArray × ByteArray)} {left : Int} (h : IsRef B w e lv rv fs rs left) (k : Int) (p t : ByteArray) (hlen : rs.length < 2199023255552) (hl0 : -1 ≤ left) (hl1 : left ≤ 9223372036854775807) (hB : B ≤ w.heap.size) :
    Calls Tryz.prog 78 #[.pointer (some ⟨e, 0, none⟩), .int .i64 k, .string p, .string t] w fun e' w' => e' = .returned (.int .i64 0) ∧ AfterR B w w' e lv rv fs (rs ++ [(k, p, t)]) (leftNext left) := by
  refine (noted_walk h k p t hlen hl0 hl1 hB).mono ?_
  rintro e' w' ⟨rfl, g, cap, w1, hown, hgrow, hat, _, hw⟩
  obtain ⟨hd, hu⟩ := noted_is h hown hgrow hat
  have hj : ∀ j, FootR e lv (.slice (some ⟨g, 0, none⟩) (rs.length + 1) cap) j → FootR e lv rv j ∨ w.heap.size ≤ j := by
    rintro j (rfl | hj | hj)
    · exact Or.inl (Or.inl rfl)
    · exact Or.inl (Or.inr (Or.inl hj))
    · cases hj
      rcases hat with e' | e'
      · exact Or.inl (Or.inr (Or.inr e'))
      · exact Or.inr (by simp only; omega)
  refine ⟨rfl, lv, .slice (some ⟨g, 0, none⟩) (rs.length + 1) cap, ?_⟩
  rcases hw with ⟨rfl, h0⟩ | ⟨rfl, h0⟩
  · refine ⟨?_, hu, hj⟩
    unfold leftNext; rw [if_neg (by omega)]; exact hd
  · refine ⟨?_, hu.trans (Upd.setCell _ ⟨e, 2, none⟩ _) (fun i _ f => Or.inl f), hj⟩
    unfold leftNext; rw [if_pos h0]; exact hd.setLeft (left - 1)

/-- What the reference's raw writes are told of its disk and of the numbers. -/
structure FitR (B : Nat) (w : World) (e : Nat) (lv rv : Value) (x : Ab) : Prop where
  ref : IsRef B w e lv rv (filesD x.D) x.rs x.left
  good : Good x.D
  map : IsMap x.D
  room : (filesD x.D).length < 2199023255552
  len : x.rs.length < 2199023255552
  lo : -1 ≤ x.left
  hi : x.left ≤ 9223372036854775807
  base : B ≤ w.heap.size

theorem AfterR.same {B : Nat} {w : World} {e : Nat} {lv rv : Value} {fs : List Fl} {rs : List (Int × ByteArray × ByteArray)} {left : Int} (h : IsRef B w e lv rv fs rs left) : AfterR B w w e lv rv fs rs left :=
  ⟨lv, rv, h, Upd.refl _ _, fun _ hj => Or.inl hj⟩

theorem AfterR.trans {B : Nat} {w w1 w' : World} {e : Nat} {lv rv lv1 rv1 : Value} {fs : List Fl} {rs : List (Int × ByteArray × ByteArray)} {left : Int} (hu : Upd (FootR e lv rv) w w1) (hj : ∀ j, FootR e lv1 rv1 j → FootR e lv rv j ∨ w.heap.size ≤ j) (h : AfterR B w1 w' e lv1 rv1 fs rs left) : AfterR B w w' e lv rv fs rs left := by
  obtain ⟨lv', rv', h1, h2, h3⟩ := h
  refine ⟨lv', rv', h1, hu.trans h2 (fun i hi hf => (hj i hf).elim id (fun q => by omega)), fun j hf => ?_⟩
  rcases h3 j hf with q | q
  · exact hj j q
  · exact Or.inr (Nat.le_trans hu.size q)

/-- put, then noted. -/
theorem put_noted {B : Nat} {w : World} {e : Nat} {lv rv : Value} {x : Ab} (h : FitR B w e lv rv x) (fp : ByteArray) (fc : Bool) (ft : ByteArray) (gone : Bool) (k : Int) (p t : ByteArray) (D' : DataW Unit) (hD : putD (filesD x.D) (fp, fc, ft) gone = filesD D') :
    Calls Tryz.prog 54 #[.pointer (some ⟨e, 0, none⟩), .agg #[.string fp, .bool fc, .string ft], .bool gone] w fun e' w1 => e' = .returned (.tuple #[]) ∧
      Calls Tryz.prog 78 #[.pointer (some ⟨e, 0, none⟩), .int .i64 k, .string p, .string t] w1 fun e' w' => e' = .returned (.int .i64 0) ∧ AfterR B w w' e lv rv (filesD D') (x.rs ++ [(k, p, t)]) (leftNext x.left) := by
  refine (put_any h.ref fp fc ft gone h.room h.base).mono ?_
  rintro e' w1 ⟨rfl, lv1, rv1, h1, hu, hj⟩
  refine ⟨rfl, ?_⟩
  rw [hD] at h1
  refine (noted_any h1 k p t h.len h.lo h.hi (Nat.le_trans h.base hu.size)).mono ?_
  rintro e' w' ⟨rfl, ha⟩
  exact ⟨rfl, AfterR.trans hu hj ha⟩

set_option maxHeartbeats 1000000 in
theorem rMkdir_any {B : Nat} {w : World} {e : Nat} {lv rv : Value} {x : Ab} (h : FitR B w e lv rv x) (s : ByteArray) (hs : s.size ≤ maxLen) (hG : Good (mkdirD x s).2.D) :
    Calls Tryz.prog 35 #[.pointer (some ⟨e, 0, none⟩), .string s] w fun e' w' => e' = .returned (.int .i64 (mkdirD x s).1) ∧ AfterR B w w' e lv rv (filesD (mkdirD x s).2.D) (mkdirD x s).2.rs (mkdirD x s).2.left := by
  have hm := may_any h.ref s hs
  by_cases h0 : (writeD x.left [s] != 0) = true
  · have HE : Hid (mkdirD x s = (writeD x.left [s], x)) := by unfold Hid mkdirD; rw [if_pos h0]
    have HA := hide3 (AfterR.same h.ref)
    clear h hG
    generalize writeD x.left [s] = e0 at *
    go_enter Tryz.func35, Tryz.ntmps35
    go_wp2_with (go_at_call 76; refine hm.mono ?_; rintro e w1 ⟨rfl, rfl⟩)
    go_ret
    rw [HE.out]
    exact ⟨rfl, HA.out⟩
  rw [Bool.not_eq_true] at h0
  have hok : okPath s = true := by simpa using writeD_ok h0
  have hh := home_any h.ref h.good s (Nat.le_of_lt h.room) hok
  have hk := rKind_any h.ref h.good s (Nat.le_of_lt h.room)
  by_cases h1 : (parentD x.D s != 0) = true
  · have HE : Hid (mkdirD x s = (parentD x.D s, x)) := by unfold Hid mkdirD; rw [if_neg (by rw [h0]; decide), if_pos h1]
    have HA := hide3 (AfterR.same h.ref)
    clear h hG hk
    generalize writeD x.left [s] = e0 at *
    generalize parentD x.D s = e1 at *
    go_enter Tryz.func35, Tryz.ntmps35
    go_wp2_with (first
      | (go_at_call 76; refine hm.mono ?_; rintro e w1 ⟨rfl, rfl⟩)
      | (go_at_call 77; refine hh.mono ?_; rintro e w1 ⟨rfl, rfl⟩))
    go_ret
    rw [HE.out]
    exact ⟨rfl, HA.out⟩
  rw [Bool.not_eq_true] at h1
  by_cases h2 : (kindD x.D s != 0) = true
  · have HE : Hid (mkdirD x s = (11, x)) := by unfold Hid mkdirD; rw [if_neg (by rw [h0]; decide), if_neg (by rw [h1]; decide), if_pos h2]
    have HA := hide3 (AfterR.same h.ref)
    clear h hG
    generalize writeD x.left [s] = e0 at *
    generalize parentD x.D s = e1 at *
    generalize kindD x.D s = e2 at *
    go_enter Tryz.func35, Tryz.ntmps35
    go_wp2_with (first
      | (go_at_call 76; refine hm.mono ?_; rintro e w1 ⟨rfl, rfl⟩)
      | (go_at_call 77; refine hh.mono ?_; rintro e w1 ⟨rfl, rfl⟩)
      | (go_at_call 32; refine hk.mono ?_; rintro e w1 ⟨rfl, rfl⟩))
    go_ret
    rw [HE.out]
    exact ⟨rfl, HA.out⟩
  rw [Bool.not_eq_true] at h2
  have he : mkdirD x s = (0, noteAb { D := x.D.put (keyD s) (itemD true ByteArray.empty), rs := x.rs, left := x.left } (1, s, ByteArray.empty)) := by
    unfold mkdirD; rw [if_neg (by rw [h0]; decide), if_neg (by rw [h1]; decide), if_neg (by rw [h2]; decide)]
  have hpn := put_noted h s true ByteArray.empty false 1 s ByteArray.empty _ (put_files h.good h.map (by rw [he] at hG; exact hG))
  have HE := hide3 he
  clear h hG he
  generalize writeD x.left [s] = e0 at *
  generalize parentD x.D s = e1 at *
  generalize kindD x.D s = e2 at *
  go_enter Tryz.func35, Tryz.ntmps35
  go_wp2_with (first
    | (go_at_call 76; refine hm.mono ?_; rintro e w1 ⟨rfl, rfl⟩)
    | (go_at_call 77; refine hh.mono ?_; rintro e w1 ⟨rfl, rfl⟩)
    | (go_at_call 32; refine hk.mono ?_; rintro e w1 ⟨rfl, rfl⟩)
    | (go_at_call 54; refine hpn.mono ?_; rintro e w2 ⟨rfl, hnt⟩; have HNT := hide3 hnt; clear hnt)
    | (go_at_call 78; refine HNT.out.mono ?_; rintro e w3 ⟨rfl, ha⟩))
  go_ret
  rw [HE.out]
  exact ⟨rfl, ha⟩

/-- Each path's parent is the root or a directory. -/
def Sound (D : DataW Unit) : Prop := ∀ s, Maps.has D (keyD s) = true → kindD D (parentOf s) = 2

theorem parent_ne {s : ByteArray} (h : okPath s = true) : parentOf s ≠ s := by
  obtain ⟨i, hi, he, _, _⟩ := last_at (okPath_parts h).2
  unfold parentOf
  rw [he]
  intro e
  by_cases h0 : (i : Int) = 0
  · rw [if_pos h0] at e
    unfold okPath at h
    rw [← e] at h
    simp only [Bool.and_eq_true] at h
    exact absurd h.2 (by decide +kernel)
  · rw [if_neg h0] at e
    have := congrArg ByteArray.size e
    rw [ByteArray.size_extract] at this
    simp only [Int.toNat_natCast] at this
    omega

theorem kind_put_other {D : DataW Unit} {s q : ByteArray} {v : DataW Unit} (h : q ≠ s) : kindD (D.put (keyD s) v) q = kindD D q := by
  have hk : keyD q ≠ keyD s := fun e => h (keyD_inj e)
  unfold kindD
  rw [has_put_other hk, atKey_put_other hk]
theorem kind_del_other {D : DataW Unit} {s q : ByteArray} (h : q ≠ s) : kindD (D.del (keyD s)) q = kindD D q := by
  have hk : keyD q ≠ keyD s := fun e => h (keyD_inj e)
  unfold kindD
  rw [has_del_other hk, atKey_del_other hk]

theorem sound_put {D : DataW Unit} (hS : Sound D) {s : ByteArray} {v : DataW Unit} (hok : okPath s = true) (hp : kindD D (parentOf s) = 2) (hk : kindD D s ≠ 2) : Sound (D.put (keyD s) v) := by
  intro y hy
  by_cases e : y = s
  · subst e
    rw [kind_put_other (parent_ne hok)]; exact hp
  · rw [has_put_other (fun h => e (keyD_inj h))] at hy
    have h2 := hS y hy
    have : parentOf y ≠ s := fun h => hk (by rw [← h]; exact h2)
    rw [kind_put_other this]; exact h2

theorem sound_del {D : DataW Unit} (hS : Sound D) {s : ByteArray} (hn : ∀ y, Maps.has D (keyD y) = true → parentOf y ≠ s) : Sound (D.del (keyD s)) := by
  intro y hy
  by_cases e : y = s
  · subst e; rw [has_del_same] at hy; cases hy
  · rw [has_del_other (fun h => e (keyD_inj h))] at hy
    rw [kind_del_other (hn y hy)]; exact hS y hy

theorem used_iff {D : DataW Unit} (hk : StrKeys D) (s : ByteArray) : usedD D s = true ↔ ∃ y, Maps.has D (keyD y) = true ∧ parentOf y = s := by
  unfold usedD
  rw [List.any_eq_true]
  constructor
  · rintro ⟨y, hy, e⟩
    exact ⟨y, (mem_keys hk y).1 hy, beq_bytes.1 e⟩
  · rintro ⟨y, hy, e⟩
    exact ⟨y, (mem_keys hk y).2 hy, beq_bytes.2 e⟩

theorem not_used {D : DataW Unit} (hS : Sound D) (hk : StrKeys D) {s : ByteArray} (h : kindD D s ≠ 2) : usedD D s = false := by
  rw [Bool.eq_false_iff]
  intro hu
  obtain ⟨y, hy, e⟩ := (used_iff hk s).1 hu
  exact h (by rw [← e]; exact hS y hy)

theorem parentD_zero {D : DataW Unit} {s : ByteArray} (h : (parentD D s != 0) = false) : kindD D (parentOf s) = 2 := by
  unfold parentD at h
  rcases kindD_cases D (parentOf s) with k | k | k
  · rw [k] at h; simp at h
  · rw [k] at h; simp at h
  · exact k

set_option maxHeartbeats 1000000 in
theorem rWrite_any {B : Nat} {w : World} {e : Nat} {lv rv : Value} {x : Ab} (h : FitR B w e lv rv x) (s t : ByteArray) (hs : s.size ≤ maxLen) (hG : Good (writeFD x s t).2.D) :
    Calls Tryz.prog 36 #[.pointer (some ⟨e, 0, none⟩), .string s, .string t] w fun e' w' => e' = .returned (.int .i64 (writeFD x s t).1) ∧ AfterR B w w' e lv rv (filesD (writeFD x s t).2.D) (writeFD x s t).2.rs (writeFD x s t).2.left := by
  have hm := may_any h.ref s hs
  by_cases h0 : (writeD x.left [s] != 0) = true
  · have HE : Hid (writeFD x s t = (writeD x.left [s], x)) := by unfold Hid writeFD; rw [if_pos h0]
    have HA := hide3 (AfterR.same h.ref)
    clear h hG
    generalize writeD x.left [s] = e0 at *
    go_enter Tryz.func36, Tryz.ntmps36
    go_wp2_with (go_at_call 76; refine hm.mono ?_; rintro e w1 ⟨rfl, rfl⟩)
    go_ret
    rw [HE.out]
    exact ⟨rfl, HA.out⟩
  rw [Bool.not_eq_true] at h0
  have hok : okPath s = true := by simpa using writeD_ok h0
  have hh := home_any h.ref h.good s (Nat.le_of_lt h.room) hok
  have hk := rKind_any h.ref h.good s (Nat.le_of_lt h.room)
  by_cases h1 : (parentD x.D s != 0) = true
  · have hf : fileD x.D s = parentD x.D s := by unfold fileD; rw [if_pos h1]
    have HE : Hid (writeFD x s t = (parentD x.D s, x)) := by unfold Hid writeFD; rw [if_neg (by rw [h0]; decide), hf, if_pos h1]
    have HA := hide3 (AfterR.same h.ref)
    clear h hG hk hf
    generalize writeD x.left [s] = e0 at *
    generalize parentD x.D s = e1 at *
    go_enter Tryz.func36, Tryz.ntmps36
    go_wp2_with (first
      | (go_at_call 76; refine hm.mono ?_; rintro e w1 ⟨rfl, rfl⟩)
      | (go_at_call 77; refine hh.mono ?_; rintro e w1 ⟨rfl, rfl⟩))
    go_ret
    rw [HE.out]
    exact ⟨rfl, HA.out⟩
  have hf : fileD x.D s = if (kindD x.D s == 2) = true then 13 else 0 := by unfold fileD; rw [if_neg h1]
  rw [Bool.not_eq_true] at h1
  by_cases h2 : (kindD x.D s == 2) = true
  · have HE : Hid (writeFD x s t = (13, x)) := by unfold Hid writeFD; rw [if_neg (by rw [h0]; decide), hf, if_pos h2, if_pos (by decide)]
    have HA := hide3 (AfterR.same h.ref)
    clear h hG hf
    generalize writeD x.left [s] = e0 at *
    generalize parentD x.D s = e1 at *
    generalize kindD x.D s = e2 at *
    go_enter Tryz.func36, Tryz.ntmps36
    go_wp2_with (first
      | (go_at_call 76; refine hm.mono ?_; rintro e w1 ⟨rfl, rfl⟩)
      | (go_at_call 77; refine hh.mono ?_; rintro e w1 ⟨rfl, rfl⟩)
      | (go_at_call 32; refine hk.mono ?_; rintro e w1 ⟨rfl, rfl⟩))
    go_ret
    rw [HE.out]
    exact ⟨rfl, HA.out⟩
  have he : writeFD x s t = (0, noteAb { D := x.D.put (keyD s) (itemD false t), rs := x.rs, left := x.left } (2, s, ByteArray.empty)) := by
    unfold writeFD; rw [if_neg (by rw [h0]; decide), hf, if_neg h2, if_neg (by decide)]
  rw [Bool.not_eq_true] at h2
  have hpn := put_noted h s false t false 2 s ByteArray.empty _ (put_files h.good h.map (by rw [he] at hG; exact hG))
  have HE := hide3 he
  clear h hG he hf
  generalize writeD x.left [s] = e0 at *
  generalize parentD x.D s = e1 at *
  generalize kindD x.D s = e2 at *
  go_enter Tryz.func36, Tryz.ntmps36
  go_wp2_with (first
    | (go_at_call 76; refine hm.mono ?_; rintro e w1 ⟨rfl, rfl⟩)
    | (go_at_call 77; refine hh.mono ?_; rintro e w1 ⟨rfl, rfl⟩)
    | (go_at_call 32; refine hk.mono ?_; rintro e w1 ⟨rfl, rfl⟩)
    | (go_at_call 54; refine hpn.mono ?_; rintro e w2 ⟨rfl, hnt⟩; have HNT := hide3 hnt; clear hnt)
    | (go_at_call 78; refine HNT.out.mono ?_; rintro e w3 ⟨rfl, ha⟩))
  go_ret
  rw [HE.out]
  exact ⟨rfl, ha⟩

theorem pathB_root (s : ByteArray) (h : (s.toList == [47]) = true) : pathB s = true := by unfold pathB; rw [h]; rfl
theorem okPath_not_root (s : ByteArray) (h : (s.toList == [47]) = false) : okPath s = pathB s := by unfold okPath; rw [h]; simp
theorem okPath_root (s : ByteArray) (h : (s.toList == [47]) = true) : okPath s = false := by unfold okPath; rw [h]; simp
theorem kindD_root (D : DataW Unit) (s : ByteArray) (h : (s.toList == [47]) = true) : kindD D s = 2 := by unfold kindD; rw [if_pos h]

set_option maxHeartbeats 1000000 in
theorem rRead_any {B : Nat} {w : World} {e : Nat} {lv rv : Value} {D : DataW Unit} {rs : List (Int × ByteArray × ByteArray)} {left : Int} (h : IsRef B w e lv rv (filesD D) rs left) (hD : Good D) (s : ByteArray) (hs : s.size ≤ maxLen) (hlen : (filesD D).length ≤ 2199023255552) :
    Calls Tryz.prog 45 #[.pointer (some ⟨e, 0, none⟩), .string s] w fun e w' => e = .returned (.tuple #[.string (readT D s), .int .i64 (readE D s)]) ∧ Below w.heap.size w w' := by
  have hp := rPath_any s w hs
  have hk := rKind_any h hD s hlen
  have HF : Hid (∀ w1, Below w.heap.size w w1 → Calls Tryz.prog 53 #[.pointer (some ⟨e, 0, none⟩), .string s] w1 fun e w' => e = .returned (.int .i64 (findD (filesD D) s)) ∧ w' = w1) := fun w1 hb => find_any (h.below hb) s hlen
  have c0 := h.c0
  by_cases h1 : (s.toList == [47]) = true
  · have HE : Hid (readE D s = 13) := by unfold Hid readE; rw [if_pos (pathB_root s h1), kindD_root D s h1]; decide
    have HT : Hid (readT D s = ByteArray.empty) := by unfold Hid readT; rw [HE.out]; rfl
    rw [okPath_root s h1] at hp
    rw [kindD_root D s h1] at hk
    clear h
    go_enter Tryz.func45, Tryz.ntmps45
    go_wp2_with (first
      | (go_at_call 52; refine hp.mono ?_; rintro e w1 ⟨rfl, rfl⟩)
      | (go_at_call 32; refine hk.mono ?_; rintro e w1 ⟨rfl, rfl⟩))
    go_ret2
    rw [HE.out, HT.out]
    exact ⟨rfl, Below.refl _ _⟩
  rw [Bool.not_eq_true] at h1
  rw [okPath_not_root s h1] at hp
  by_cases h2 : pathB s = false
  · have HE : Hid (readE D s = 10) := by unfold Hid readE; rw [if_neg (by rw [h2]; decide)]
    have HT : Hid (readT D s = ByteArray.empty) := by unfold Hid readT; rw [HE.out]; rfl
    rw [h2] at hp
    clear h hk
    go_enter Tryz.func45, Tryz.ntmps45
    go_wp2_with (first
      | (go_at_call 52; refine hp.mono ?_; rintro e w1 ⟨rfl, rfl⟩)
      | (go_at_call 32; refine hk.mono ?_; rintro e w1 ⟨rfl, rfl⟩))
    go_ret2
    rw [HE.out, HT.out]
    exact ⟨rfl, Below.refl _ _⟩
  rw [Bool.not_eq_false] at h2
  rw [h2] at hp
  have he : readE D s = if (kindD D s == 0) = true then 12 else if (kindD D s == 2) = true then 13 else 0 := by unfold readE; rw [if_pos h2]
  rcases kindD_cases D s with hk0 | hk0 | hk0
  · have HE : Hid (readE D s = 12) := by unfold Hid; rw [he, hk0]; decide
    have HT : Hid (readT D s = ByteArray.empty) := by unfold Hid readT; rw [HE.out]; rfl
    rw [hk0] at hk
    clear h he
    go_enter Tryz.func45, Tryz.ntmps45
    go_wp2_with (first
      | (go_at_call 52; refine hp.mono ?_; rintro e w1 ⟨rfl, rfl⟩)
      | (go_at_call 32; refine hk.mono ?_; rintro e w1 ⟨rfl, rfl⟩))
    go_ret2
    rw [HE.out, HT.out]
    exact ⟨rfl, Below.refl _ _⟩
  · have HE : Hid (readE D s = 0) := by unfold Hid; rw [he, hk0]; decide
    rw [hk0] at hk
    rcases find_has hD s with ⟨hr, hh⟩ | ⟨k, hkl, hr, hpp, hh, hat⟩
    · exfalso
      unfold kindD at hk0
      rw [if_neg (by rw [h1]; decide), if_neg (by rw [hh]; decide)] at hk0
      cases hk0
    rw [hr] at HF
    have HT : Hid (readT D s = (filesD D)[k].2.2) := by
      unfold Hid readT; rw [HE.out, if_pos (by decide), hat]
      unfold itemD itData
      rfl
    rcases h.lrow.2 with ⟨_, h0⟩ | ⟨g, cap, cur, rfl, _, _, _, _, _, _⟩
    · omega
    obtain ⟨_, _, a2⟩ := file_cells h.lrow k hkl
    generalize (filesD D)[k].2.2 = c at *
    clear h hr hh hat hpp he
    go_enter Tryz.func45, Tryz.ntmps45
    go_wp2_with (first
      | (go_at_call 52; refine hp.mono ?_; rintro e w1 ⟨rfl, rfl⟩)
      | (go_at_call 32; refine hk.mono ?_; rintro e w1 ⟨rfl, rfl⟩))
    go_region_held3 (fun w' => w'.cell? ⟨e, 0, none⟩ = some (.slice (some ⟨g, 0, none⟩) (filesD D).length cap) ∧ w'.cell? ⟨g, k * 3 + 1 + 1, none⟩ = some (.string c)) (go_keep)
      (first | (go_at_call 53; refine (HF.out _ ?_).mono ?_; (first | exact Below.refl _ _ | exact (Below.refl _ _).drew); rintro e w1 ⟨rfl, rfl⟩))
    all_goals go_wp2
    all_goals
      go_ret2
      rw [HE.out, HT.out]
      exact ⟨rfl, (Below.refl _ _).drew⟩
  · have HE : Hid (readE D s = 13) := by unfold Hid; rw [he, hk0]; decide
    have HT : Hid (readT D s = ByteArray.empty) := by unfold Hid readT; rw [HE.out]; rfl
    rw [hk0] at hk
    clear h he
    go_enter Tryz.func45, Tryz.ntmps45
    go_wp2_with (first
      | (go_at_call 52; refine hp.mono ?_; rintro e w1 ⟨rfl, rfl⟩)
      | (go_at_call 32; refine hk.mono ?_; rintro e w1 ⟨rfl, rfl⟩))
    go_ret2
    rw [HE.out, HT.out]
    exact ⟨rfl, Below.refl _ _⟩

/-- What Cut answers and leaves. -/
def cutE (left n : Int) : Int := if (left == 0) = true then 15 else if n < 0 then 1 else 0
def cutL (left n : Int) : Int := if (left == 0) = true then left else if n < 0 then left else n

/-- A map's datum: entries by rising paths, each an item. -/
def Plain (D : DataW Unit) : Prop := ∃ es, D = .map es ∧ es.Pairwise (fun p q => p.1.before q.1 = true) ∧ ∀ p ∈ es, ∃ s c t, p = (keyD s, itemD c t) ∧ okPath s = true

theorem IsDisk.plain {B : Nat} {w : World} {d mb n : Nat} {rv : Value} {x : Ab} (h : IsDisk B w d mb n rv x) : Plain x.D := by
  obtain ⟨es, he, hr, _, hf⟩ := own_entries h.own
  refine ⟨es, he, hr, fun p hp => ?_⟩
  obtain ⟨s, c, t, rfl⟩ := hf p hp
  obtain ⟨s', hs, hok⟩ := h.keys (keyD s) (by rw [he, has_eq, List.any_eq_true]; exact ⟨_, hp, WideAt.sameKey_self (isKey s)⟩)
  rw [← keyD_inj hs] at hok
  exact ⟨s, c, t, rfl, hok⟩

theorem Plain.isMap {D : DataW Unit} (h : Plain D) : IsMap D := by obtain ⟨es, rfl, _⟩ := h; exact ⟨es, rfl⟩
theorem Plain.strKeys {D : DataW Unit} (h : Plain D) : StrKeys D := by
  obtain ⟨es, rfl, _, hf⟩ := h
  exact ⟨es, rfl, fun p hp => by obtain ⟨s, c, t, rfl, _⟩ := hf p hp; exact ⟨s, rfl⟩⟩
theorem Plain.del {D : DataW Unit} (h : Plain D) (k : Lit) : Plain (D.del k) := by
  obtain ⟨es, rfl, hr, hf⟩ := h
  exact ⟨_, rfl, hr.filter _, fun p hp => hf p (List.mem_filter.1 hp).1⟩

theorem Plain.good {D : DataW Unit} (h : Plain D) : Good D := by
  obtain ⟨es, rfl, hr, hf⟩ := h
  have hap := apart_of_rising hr
  have hit : ∀ s, Maps.has (.map es : DataW Unit) (keyD s) = true → ∃ c t, DataW.atKey (.map es) (keyD s) zeroD = itemD c t ∧ (keyD s, itemD c t) ∈ es ∧ okPath s = true := by
    intro s hs
    rw [has_eq, List.any_eq_true] at hs
    obtain ⟨p, hp, hk⟩ := hs
    obtain ⟨s', c, t, rfl, hok⟩ := hf p hp
    have es' : s' = s := (sameKey_keyD _ _).1 hk
    subst es'
    exact ⟨c, t, WideAt.atKey_mem zeroD (isKey s') hap hp, hp, hok⟩
  refine ⟨?_, fun f => ?_, fun s hs => ?_, fun kl hk => ?_⟩
  · unfold Rising filesD
    rw [List.pairwise_map]
    refine hr.imp_of_mem fun {p q} hp hq hb => ?_
    obtain ⟨s, c, t, rfl, _⟩ := hf p hp
    obtain ⟨s', c', t', rfl, _⟩ := hf q hq
    simp only [litB_key]
    exact hb
  · unfold filesD
    rw [List.mem_map]
    constructor
    · rintro ⟨p, hp, rfl⟩
      obtain ⟨s, c, t, rfl, _⟩ := hf p hp
      simp only [litB_key, itDir_mk, itData_mk, bytes_mk]
      refine ⟨?_, WideAt.atKey_mem _ (isKey s) hap hp⟩
      rw [has_eq, List.any_eq_true]
      exact ⟨_, hp, WideAt.sameKey_self (isKey s)⟩
    · rintro ⟨h1, h2⟩
      obtain ⟨c, t, hat, hm, _⟩ := hit f.1 h1
      rw [h2] at hat
      refine ⟨_, hm, ?_⟩
      rw [← hat, file_of]
  · obtain ⟨c, t, hat, _, _⟩ := hit s hs
    exact ⟨c, t, hat⟩
  · rw [has_eq, List.any_eq_true] at hk
    obtain ⟨p, hp, hk⟩ := hk
    obtain ⟨s, c, t, rfl, hok⟩ := hf p hp
    exact ⟨s, (WideAt.sameKey_eq hk).symm, hok⟩

theorem used_files {D : DataW Unit} (hP : Plain D) (s : ByteArray) : usedD D s = (filesD D).any fun f => (parentOf f.1).toList == s.toList := by
  obtain ⟨es, rfl, _, _⟩ := hP
  unfold usedD keysD filesD
  rw [List.any_map, List.any_map]
  rfl

set_option maxHeartbeats 400000 in
theorem rCut_any {B : Nat} {w : World} {e : Nat} {lv rv : Value} {fs : List Fl} {rs : List (Int × ByteArray × ByteArray)} {left : Int} (h : IsRef B w e lv rv fs rs left) (k : Int) :
    Calls Tryz.prog 11 #[.pointer (some ⟨e, 0, none⟩), .int .i64 k] w fun e' w' => e' = .returned (.int .i64 (cutE left k)) ∧ IsRef B w' e lv rv fs rs (cutL left k) ∧ Upd (fun j => j = e) w w' := by
  have c2 := h.c2
  have f2 := h.f2
  by_cases h0 : (left == 0) = true
  · have HE : Hid (cutE left k = 15 ∧ cutL left k = left) := by unfold Hid cutE cutL; rw [if_pos h0, if_pos h0]; exact ⟨rfl, rfl⟩
    have HR := hide3 h
    clear h
    go_enter Tryz.func11, Tryz.ntmps11
    go_wp2
    go_ret
    rw [HE.out.1, HE.out.2]
    exact ⟨rfl, HR.out, Upd.refl _ _⟩
  rw [Bool.not_eq_true] at h0
  by_cases h1 : k < 0
  · have HE : Hid (cutE left k = 1 ∧ cutL left k = left) := by unfold Hid cutE cutL; simp [h0, h1]
    have HR := hide3 h
    clear h
    go_enter Tryz.func11, Tryz.ntmps11
    go_wp2
    go_ret
    rw [HE.out.1, HE.out.2]
    exact ⟨rfl, HR.out, Upd.refl _ _⟩
  · have HE : Hid (cutE left k = 0 ∧ cutL left k = k) := by unfold Hid cutE cutL; simp [h0, h1]
    have HR := hide3 (h.setLeft k)
    clear h
    go_enter Tryz.func11, Tryz.ntmps11
    go_wp2
    go_ret
    rw [HE.out.1, HE.out.2]
    exact ⟨rfl, HR.out, Upd.setCell _ ⟨_, 2, none⟩ _⟩

set_option maxHeartbeats 400000 in
theorem rUp_any {B : Nat} {w : World} {e : Nat} {lv rv : Value} {fs : List Fl} {rs : List (Int × ByteArray × ByteArray)} {left : Int} (h : IsRef B w e lv rv fs rs left) :
    Calls Tryz.prog 16 #[.pointer (some ⟨e, 0, none⟩)] w fun e' w' => e' = .returned (.tuple #[]) ∧ IsRef B w' e lv rv fs rs (-1) ∧ Upd (fun j => j = e) w w' := by
  have c2 := h.c2
  have f2 := h.f2
  have HR := hide3 (h.setLeft (-1))
  clear h
  go_enter Tryz.func16, Tryz.ntmps16
  go_wp2
  go_end0
  exact ⟨rfl, HR.out, Upd.setCell _ ⟨_, 2, none⟩ _⟩

set_option maxHeartbeats 1000000 in
theorem rRemove_any {B : Nat} {w : World} {e : Nat} {lv rv : Value} {x : Ab} (h : FitR B w e lv rv x) (hP : Plain x.D) (hS : Sound x.D) (s : ByteArray) (hs : s.size ≤ maxLen) :
    Calls Tryz.prog 79 #[.pointer (some ⟨e, 0, none⟩), .string s] w fun e' w' => e' = .returned (.int .i64 (removeD x s).1) ∧ AfterR B w w' e lv rv (filesD (removeD x s).2.D) (removeD x s).2.rs (removeD x s).2.left := by
  have hm := may_any h.ref s hs
  by_cases h0 : (writeD x.left [s] != 0) = true
  · have HE : Hid (removeD x s = (writeD x.left [s], x)) := by unfold Hid removeD; rw [if_pos h0]
    have HA := hide3 (AfterR.same h.ref)
    clear h hP hS
    generalize writeD x.left [s] = e0 at *
    go_enter Tryz.func79, Tryz.ntmps79
    go_wp2_with (go_at_call 76; refine hm.mono ?_; rintro e w1 ⟨rfl, rfl⟩)
    go_ret
    rw [HE.out]
    exact ⟨rfl, HA.out⟩
  rw [Bool.not_eq_true] at h0
  have hok : okPath s = true := by simpa using writeD_ok h0
  have hk := rKind_any h.ref h.good s (Nat.le_of_lt h.room)
  by_cases h1 : (kindD x.D s == 0) = true
  · have HE : Hid (removeD x s = (12, x)) := by unfold Hid removeD; rw [if_neg (by rw [h0]; decide), if_pos h1]
    have HA := hide3 (AfterR.same h.ref)
    clear h hP hS
    generalize writeD x.left [s] = e0 at *
    generalize kindD x.D s = e2 at *
    go_enter Tryz.func79, Tryz.ntmps79
    go_wp2_with (first
      | (go_at_call 76; refine hm.mono ?_; rintro e w1 ⟨rfl, rfl⟩)
      | (go_at_call 32; refine hk.mono ?_; rintro e w1 ⟨rfl, rfl⟩))
    go_ret
    rw [HE.out]
    exact ⟨rfl, HA.out⟩
  have hu : (kindD x.D s == 2 && usedD x.D s) = usedD x.D s := by
    by_cases h2 : kindD x.D s = 2
    · rw [h2]; rfl
    · rw [not_used hS hP.strKeys h2]; simp
  have he : removeD x s = if usedD x.D s = true then (14, x) else (0, noteAb { D := x.D.del (keyD s), rs := x.rs, left := x.left } (4, s, ByteArray.empty)) := by
    unfold removeD; rw [if_neg (by rw [h0]; decide), if_neg h1, hu]
  rw [used_files hP] at he
  rw [Bool.not_eq_true] at h1
  have HE := hide3 he
  have HA := hide3 (AfterR.same h.ref)
  have HPN := hide3 (put_noted h s false ByteArray.empty true 4 s ByteArray.empty _ (del_files (f := (s, false, ByteArray.empty)) h.good (hP.del _).good))
  have c0 := h.ref.c0
  have hlen := h.room
  have HO : Hid (∀ f ∈ filesD x.D, okPath f.1 = true) := fun f hf => by
    obtain ⟨s', hs', hok'⟩ := h.good.keys _ ((h.good.mem f).1 hf).1
    rw [keyD_inj hs']; exact hok'
  rcases h.ref.lrow.2 with ⟨rfl, hz⟩ | ⟨g, cap, cur, rfl, _, _, _, _, _, _⟩
  · have hF : filesD x.D = [] := List.eq_nil_of_length_eq_zero hz
    have HN : Hid (((filesD x.D).any fun f => (parentOf f.1).toList == s.toList) = false) := by unfold Hid; rw [hF]; rfl
    clear h hP hS hu he hF
    generalize writeD x.left [s] = e0 at *
    generalize kindD x.D s = e2 at *
    go_enter Tryz.func79, Tryz.ntmps79
    go_wp2_with (first
      | (go_at_call 76; refine hm.mono ?_; rintro e w1 ⟨rfl, rfl⟩)
      | (go_at_call 32; refine hk.mono ?_; rintro e w1 ⟨rfl, rfl⟩))
    go_loop [7] (fun i => i = .int .i64 0) (fun _ => 0)
    case atStart => rfl
    case round =>
      subst hrel
      go_wp2_with (first
        | (go_at_call 54; refine HPN.out.mono ?_; rintro e w2 ⟨rfl, hnt⟩; have HNT := hide3 hnt; clear hnt)
        | (go_at_call 78; refine HNT.out.mono ?_; rintro e w3 ⟨rfl, ha⟩))
      go_ret
      rw [HE.out, HN.out]
      exact ⟨rfl, ha⟩
  · have HL := hide3 h.ref.lrow
    have HPA : Hid (∀ (q : ByteArray) , okPath q = true → Calls Tryz.prog 55 #[.string q] w fun e w' => e = .returned (.string (parentOf q)) ∧ w' = w) := fun q hq => rParent_any q w (okPath_size hq) (okPath_parts hq).2
    clear h hP hS hu he
    generalize writeD x.left [s] = e0 at *
    generalize kindD x.D s = e2 at *
    generalize hfs : filesD x.D = fs at *
    have HFS := hide3 hfs
    clear hfs
    go_enter Tryz.func79, Tryz.ntmps79
    go_wp2_with (first
      | (go_at_call 76; refine hm.mono ?_; rintro e w1 ⟨rfl, rfl⟩)
      | (go_at_call 32; refine hk.mono ?_; rintro e w1 ⟨rfl, rfl⟩))
    go_loop [7] (fun i => ∃ k : Nat, k ≤ fs.length ∧ i = .int .i64 k ∧ ∀ j (hj : j < k) (hj' : j < fs.length), ((parentOf fs[j].1).toList == s.toList) = false) (fun i => fs.length - (intOf i).toNat)
    case atStart => exact ⟨0, Nat.zero_le _, rfl, fun j hj => absurd hj (Nat.not_lt_zero _)⟩
    case round =>
      obtain ⟨k, hk', rfl, hall⟩ := hrel
      have HALL := hide3 hall
      clear hall
      by_cases hlt : k < fs.length
      · obtain ⟨a0, _, _⟩ := file_cells HL.out k hlt
        have hpa := HPA.out fs[k].1 (HO.out _ (List.getElem_mem hlt))
        by_cases hc : ((parentOf fs[k].1).toList == s.toList) = true
        · have HN : Hid ((fs.any fun f => (parentOf f.1).toList == s.toList) = true) := List.any_eq_true.2 ⟨_, List.getElem_mem hlt, hc⟩
          generalize parentOf fs[k].1 = pq at *
          generalize fs[k].1 = fp at *
          go_wp2_with (go_at_call 55; refine hpa.mono ?_; rintro e w1 ⟨rfl, rfl⟩)
          go_ret
          rw [HE.out, HN.out, if_pos rfl, HFS.out]
          exact ⟨rfl, HA.out⟩
        · rw [Bool.not_eq_true] at hc
          have HC := hide3 hc
          obtain ⟨pq, hpq⟩ : ∃ pq, pq = parentOf fs[k].1 := ⟨_, rfl⟩
          obtain ⟨fp, hfp⟩ : ∃ fp, fp = fs[k].1 := ⟨_, rfl⟩
          rw [← hpq] at hc hpa
          rw [← hfp] at a0 hpa
          clear hfp hpq
          go_wp2_with (go_at_call 55; refine hpa.mono ?_; rintro e w1 ⟨rfl, rfl⟩)
          refine ⟨⟨k + 1, by omega, by go_num, fun j hj hj' => ?_⟩, by simp [intOf]; omega⟩
          by_cases ej : j = k
          · subst ej; exact HC.out
          · exact HALL.out j (by omega) hj'
      · have HN : Hid ((fs.any fun f => (parentOf f.1).toList == s.toList) = false) := by
          unfold Hid
          rw [Bool.eq_false_iff]
          intro hany
          obtain ⟨f, hf, hc⟩ := List.any_eq_true.1 hany
          obtain ⟨j, hj, rfl⟩ := List.getElem_of_mem hf
          have := HALL.out j (by omega) hj
          rw [hc] at this
          cases this
        go_wp2_with (first
          | (go_at_call 54; refine HPN.out.mono ?_; rintro e w2 ⟨rfl, hnt⟩; have HNT := hide3 hnt; clear hnt)
          | (go_at_call 78; refine HNT.out.mono ?_; rintro e w3 ⟨rfl, ha⟩))
        go_ret
        rw [HE.out, HN.out]
        exact ⟨rfl, ha⟩

/-- put, a store into the variable, put, then noted: as Rename does it. -/
theorem move_noted {B : Nat} {w : World} {e : Nat} {lv rv : Value} {x : Ab} (h : FitR B w e lv rv x) (hP : Plain x.D) (s t : ByteArray) (c : Bool) (u : ByteArray) (hG : Good ((x.D.del (keyD s)).put (keyD t) (itemD c u))) :
    Calls Tryz.prog 54 #[.pointer (some ⟨e, 0, none⟩), .agg #[.string s, .bool c, .string u], .bool true] (w.alloc (.cells #[.string s, .bool c, .string u] 83)).drew fun e' w1 => e' = .returned (.tuple #[]) ∧
      (w1.cell? ⟨w.heap.size, 0, none⟩ = some (.string s) ∧ w1.cell? ⟨w.heap.size, 1, none⟩ = some (.bool c) ∧ w1.cell? ⟨w.heap.size, 2, none⟩ = some (.string u) ∧ w1.frozen? ⟨w.heap.size, 0, none⟩ = false) ∧
      Calls Tryz.prog 54 #[.pointer (some ⟨e, 0, none⟩), .agg #[.string t, .bool c, .string u], .bool false] (w1.setCell ⟨w.heap.size, 0, none⟩ (.string t)) fun e' w2 => e' = .returned (.tuple #[]) ∧
        Calls Tryz.prog 78 #[.pointer (some ⟨e, 0, none⟩), .int .i64 3, .string s, .string t] w2 fun e' w' => e' = .returned (.int .i64 0) ∧ AfterR B w w' e lv rv (filesD ((x.D.del (keyD s)).put (keyD t) (itemD c u))) (x.rs ++ [(3, s, t)]) (leftNext x.left) := by
  have hd := hP.del (keyD s)
  have hdf := del_files (f := (s, c, u)) h.good hd.good
  have hb : Below w.heap.size w (w.alloc (.cells #[.string s, .bool c, .string u] 83)).drew := (alloc_below w _).drew
  have hblk : (w.alloc (.cells #[.string s, .bool c, .string u] 83)).drew.heap[w.heap.size]? = some (.cells #[.string s, .bool c, .string u] 83 (0, 0)) := by
    show (w.heap.push _)[w.heap.size]? = _
    rw [Array.getElem?_push, if_pos rfl]
  have hsz : (w.alloc (.cells #[.string s, .bool c, .string u] 83)).drew.heap.size = w.heap.size + 1 := by
    show (w.heap.push _).size = _
    simp
  generalize (w.alloc (.cells #[.string s, .bool c, .string u] 83)).drew = W at *
  refine (put_any (h.ref.below hb) s c u true h.room (Nat.le_trans h.base hb.size)).mono ?_
  rintro e' w1 ⟨rfl, lv1, rv1, h1, hu, hj⟩
  have hfn : ¬ FootR e lv rv w.heap.size := fun hf => by have := (h.ref.foot_lt hf).1; omega
  have hfn1 : ¬ FootR e lv1 rv1 w.heap.size := fun hf => (hj _ hf).elim hfn (fun q => by omega)
  have hblk1 : w1.heap[w.heap.size]? = some (.cells #[.string s, .bool c, .string u] 83 (0, 0)) := by
    rw [hu.block w.heap.size (by omega) hfn]; exact hblk
  refine ⟨rfl, ⟨?_, ?_, ?_, ?_⟩, ?_⟩
  · unfold World.cell?; simp only [hblk1]; rfl
  · unfold World.cell?; simp only [hblk1]; rfl
  · unfold World.cell?; simp only [hblk1]; rfl
  · unfold World.frozen?; simp only [hblk1]; simp
  have hlen : (putD (filesD x.D) (s, c, u) true).length ≤ (filesD x.D).length := by rw [putD_del]; exact List.length_filter_le _ _
  rw [hdf] at h1 hlen
  have hu2 := Upd.setCell w1 ⟨w.heap.size, 0, none⟩ (.string t)
  have h2 := h1.upd hu2 (fun k hk e' => hfn1 (by rw [← (show k = w.heap.size from e')]; exact hk))
  have hf1 : FitR B (w1.setCell ⟨w.heap.size, 0, none⟩ (.string t)) e lv1 rv1 { D := x.D.del (keyD s), rs := x.rs, left := x.left } :=
    { ref := h2, good := hd.good, map := hd.isMap, room := Nat.lt_of_le_of_lt hlen h.room, len := h.len, lo := h.lo, hi := h.hi, base := Nat.le_trans (Nat.le_trans h.base hb.size) (Nat.le_trans hu.size hu2.size) }
  have hu3 : Upd (FootR e lv rv) w (w1.setCell ⟨w.heap.size, 0, none⟩ (.string t)) :=
    ((Upd.of_below hb).trans hu (fun i _ f => f)).trans hu2 (fun i hi f => by have : i = w.heap.size := f; omega)
  refine (put_noted hf1 t c u false 3 s t _ (put_files hd.good hd.isMap hG)).mono ?_
  rintro e' w2 ⟨rfl, hn⟩
  refine ⟨rfl, hn.mono ?_⟩
  rintro e' w' ⟨rfl, ha⟩
  exact ⟨rfl, AfterR.trans hu3 (fun j hf => (hj j hf).imp id (fun q => by have := hb.size; omega)) ha⟩

theorem readE_kind {D : DataW Unit} {s : ByteArray} (h : okPath s = true) : readE D s = if (kindD D s == 0) = true then 12 else if (kindD D s == 2) = true then 13 else 0 := by
  unfold readE
  rw [if_pos (by unfold okPath at h; simp only [Bool.and_eq_true] at h; exact h.1)]

theorem writeD_two (l : Int) (s t : ByteArray) : writeD l [s, t] = if (writeD l [s] != 0) = true then writeD l [s] else writeD l [t] := by
  unfold writeD
  by_cases h0 : (l == 0) = true
  · simp [h0]
  · simp only [h0, List.all_cons, List.all_nil, Bool.and_true]
    cases okPath s <;> simp
end Go.Proofs.YtpaoimhebheaeaaGreatDoor.Dk
