/- Dd7, laid in one text. -/
import Derived.Sort.KeysCollected
import Derived.Test.YtpaoimhebheaeaaGreatDoorMg06
namespace Go.Proofs.YtpaoimhebheaeaaGreatDoor.Dk
open Go.RowKit Go.Maps
set_option maxRecDepth 100000
open Go.RowKit Go.Maps Go.Sort
open Go.RowKit Go.Maps Go.WideMaps Go.WideElems
open Go.RowKit Go.Maps Go.WideMaps Go.WideElems Go.Sort Go.Shelf

set_option maxHeartbeats 2000000 in
theorem rRename_any {B : Nat} {w : World} {e : Nat} {lv rv : Value} {x : Ab} (h : FitR B w e lv rv x) (hP : Plain x.D) (s t : ByteArray) (hs : s.size ≤ maxLen) (ht : t.size ≤ maxLen) (hG : Good (renameD x s t).2.D) :
    Calls Tryz.prog 37 #[.pointer (some ⟨e, 0, none⟩), .string s, .string t] w fun e' w' => e' = .returned (.int .i64 (renameD x s t).1) ∧ AfterR B w w' e lv rv (filesD (renameD x s t).2.D) (renameD x s t).2.rs (renameD x s t).2.left := by
  have hm := may_any h.ref s hs
  have hm2 := may_any h.ref t ht
  have h2w := writeD_two x.left s t
  by_cases h0 : (writeD x.left [s] != 0) = true
  · have HE : Hid (renameD x s t = (writeD x.left [s], x)) := by unfold Hid renameD; rw [h2w, if_pos h0, if_pos h0]
    have HA := hide3 (AfterR.same h.ref)
    clear h hG hP h2w
    generalize writeD x.left [s] = e0 at *
    have tok1 : True := trivial
    have tok2 : True := trivial
    go_enter Tryz.func37, Tryz.ntmps37
    go_wp2_with (go_at_call 76; refine hm.mono ?_; rintro e w1 ⟨rfl, rfl⟩)
    go_ret
    rw [HE.out]
    exact ⟨rfl, HA.out⟩
  rw [if_neg h0] at h2w
  rw [Bool.not_eq_true] at h0
  by_cases h1 : (writeD x.left [t] != 0) = true
  · have HE : Hid (renameD x s t = (writeD x.left [t], x)) := by unfold Hid renameD; rw [h2w, if_pos h1]
    have HA := hide3 (AfterR.same h.ref)
    clear h hG hP h2w
    generalize writeD x.left [s] = e0 at *
    generalize writeD x.left [t] = e1 at *
    have tok1 : True := trivial
    have tok2 : True := trivial
    go_enter Tryz.func37, Tryz.ntmps37
    go_wp2_with (first
      | (go_at_call 76; have _t := tok1; clear _t tok1; refine hm.mono ?_; rintro e w1 ⟨rfl, rfl⟩)
      | (go_at_call 76; refine hm2.mono ?_; rintro e w1 ⟨rfl, rfl⟩))
    go_ret
    rw [HE.out]
    exact ⟨rfl, HA.out⟩
  rw [Bool.not_eq_true] at h1
  have hoks : okPath s = true := by simpa using writeD_ok h0
  have hokt : okPath t = true := by simpa using writeD_ok h1
  have he : renameD x s t = if (readE x.D s != 0) = true then (readE x.D s, x) else if (fileD x.D t != 0) = true then (fileD x.D t, x)
      else (0, noteAb { D := (x.D.del (keyD s)).put (keyD t) (itemD false (readT x.D s)), rs := x.rs, left := x.left } (3, s, t)) := by
    unfold renameD; rw [h2w, if_neg (by rw [h1]; decide)]
  rw [readE_kind hoks] at he
  have hk := rKind_any h.ref h.good s (Nat.le_of_lt h.room)
  have hk2 := rKind_any h.ref h.good t (Nat.le_of_lt h.room)
  have hh := home_any h.ref h.good t (Nat.le_of_lt h.room) hokt
  rcases kindD_cases x.D s with k0 | k0 | k0
  · have HE : Hid (renameD x s t = (12, x)) := by unfold Hid; rw [he, k0]; rfl
    have HA := hide3 (AfterR.same h.ref)
    rw [k0] at hk
    clear h hG hP h2w he hk2 hh
    generalize writeD x.left [s] = e0 at *
    generalize writeD x.left [t] = e1 at *
    have tok1 : True := trivial
    have tok2 : True := trivial
    go_enter Tryz.func37, Tryz.ntmps37
    go_wp2_with (first
      | (go_at_call 76; have _t := tok1; clear _t tok1; refine hm.mono ?_; rintro e w1 ⟨rfl, rfl⟩)
      | (go_at_call 76; refine hm2.mono ?_; rintro e w1 ⟨rfl, rfl⟩)
      | (go_at_call 32; have _t := tok2; clear _t tok2; refine hk.mono ?_; rintro e w1 ⟨rfl, rfl⟩))
    go_ret
    rw [HE.out]
    exact ⟨rfl, HA.out⟩
  · have he' : renameD x s t = if (fileD x.D t != 0) = true then (fileD x.D t, x)
        else (0, noteAb { D := (x.D.del (keyD s)).put (keyD t) (itemD false (readT x.D s)), rs := x.rs, left := x.left } (3, s, t)) := by rw [he, k0]; rfl
    by_cases h3 : (parentD x.D t != 0) = true
    · have hf : fileD x.D t = parentD x.D t := by unfold fileD; rw [if_pos h3]
      have HE : Hid (renameD x s t = (parentD x.D t, x)) := by unfold Hid; rw [he', hf, if_pos h3]
      have HA := hide3 (AfterR.same h.ref)
      rw [k0] at hk
      clear h hG hP h2w he hk2 he' hf
      generalize writeD x.left [s] = e0 at *
      generalize writeD x.left [t] = e1 at *
      generalize parentD x.D t = e2 at *
      have tok1 : True := trivial
      have tok2 : True := trivial
      go_enter Tryz.func37, Tryz.ntmps37
      go_wp2_with (first
        | (go_at_call 76; have _t := tok1; clear _t tok1; refine hm.mono ?_; rintro e w1 ⟨rfl, rfl⟩)
        | (go_at_call 76; refine hm2.mono ?_; rintro e w1 ⟨rfl, rfl⟩)
        | (go_at_call 32; have _t := tok2; clear _t tok2; refine hk.mono ?_; rintro e w1 ⟨rfl, rfl⟩)
        | (go_at_call 77; refine hh.mono ?_; rintro e w1 ⟨rfl, rfl⟩))
      go_ret
      rw [HE.out]
      exact ⟨rfl, HA.out⟩
    have hf : fileD x.D t = if (kindD x.D t == 2) = true then 13 else 0 := by unfold fileD; rw [if_neg h3]
    rw [Bool.not_eq_true] at h3
    by_cases h4 : (kindD x.D t == 2) = true
    · have HE : Hid (renameD x s t = (13, x)) := by unfold Hid; rw [he', hf, if_pos h4, if_pos (by decide)]
      have HA := hide3 (AfterR.same h.ref)
      rw [k0] at hk
      clear h hG hP h2w he he' hf k0
      generalize writeD x.left [s] = e0 at *
      generalize writeD x.left [t] = e1 at *
      generalize parentD x.D t = e2 at *
      generalize kindD x.D t = e3 at *
      have tok1 : True := trivial
      have tok2 : True := trivial
      go_enter Tryz.func37, Tryz.ntmps37
      go_wp2_with (first
        | (go_at_call 76; have _t := tok1; clear _t tok1; refine hm.mono ?_; rintro e w1 ⟨rfl, rfl⟩)
        | (go_at_call 76; refine hm2.mono ?_; rintro e w1 ⟨rfl, rfl⟩)
        | (go_at_call 32; have _t := tok2; clear _t tok2; refine hk.mono ?_; rintro e w1 ⟨rfl, rfl⟩)
        | (go_at_call 32; refine hk2.mono ?_; rintro e w1 ⟨rfl, rfl⟩)
        | (go_at_call 77; refine hh.mono ?_; rintro e w1 ⟨rfl, rfl⟩))
      go_ret
      rw [HE.out]
      exact ⟨rfl, HA.out⟩
    have he3 : renameD x s t = (0, noteAb { D := (x.D.del (keyD s)).put (keyD t) (itemD false (readT x.D s)), rs := x.rs, left := x.left } (3, s, t)) := by
      rw [he', hf, if_neg h4, if_neg (by decide)]
    rw [Bool.not_eq_true] at h4
    have hG' : Good ((x.D.del (keyD s)).put (keyD t) (itemD false (readT x.D s))) := by rw [he3] at hG; exact hG
    have hns : (s.toList == [47]) = false := by
      unfold okPath at hoks
      simp only [Bool.and_eq_true, Bool.not_eq_true'] at hoks
      exact hoks.2
    rcases find_has h.good s with ⟨hr, hhs⟩ | ⟨k, hkl, hr, hpp, hhs, hat⟩
    · exfalso
      unfold kindD at k0
      rw [if_neg (by rw [hns]; decide), if_neg (by rw [hhs]; decide)] at k0
      cases k0
    have hdir : (filesD x.D)[k].2.1 = false := by
      unfold kindD at k0
      rw [if_neg (by rw [hns]; decide), if_pos hhs, hat, itDir_mk] at k0
      by_cases q : (filesD x.D)[k].2.1 = true
      · rw [if_pos q] at k0; cases k0
      · simpa using q
    have htx : readT x.D s = (filesD x.D)[k].2.2 := by
      unfold readT
      rw [readE_kind hoks, k0, hat]
      rfl
    have HF : Hid (∀ w1, Below w.heap.size w w1 → Calls Tryz.prog 53 #[.pointer (some ⟨e, 0, none⟩), .string s] w1 fun e w' => e = .returned (.int .i64 k) ∧ w' = w1) := fun w1 hb => by
      have := find_any (h.ref.below hb) s (Nat.le_of_lt h.room)
      rw [hr] at this
      exact this
    have hlen := h.room
    have c0 := h.ref.c0
    rcases h.ref.lrow.2 with ⟨_, hz⟩ | ⟨g, cap, cur, rfl, _, _, _, _, _, _⟩
    · omega
    obtain ⟨a0, a1, a2⟩ := file_cells h.ref.lrow k hkl
    rw [hpp] at a0
    rw [hdir] at a1
    rw [← htx] at a2
    have HMV := hide3 (move_noted h hP s t false (readT x.D s) hG')
    have HE := hide3 he3
    have hkl' : (k : Int) < (filesD x.D).length := by omega
    have hk0 : (0 : Int) ≤ (k : Int) := by omega
    rw [k0] at hk
    clear h hG hP h2w he he' hf k0 he3 hG' hr hhs hat hpp htx hdir
    generalize readT x.D s = u at *
    generalize writeD x.left [s] = e0 at *
    generalize writeD x.left [t] = e1 at *
    generalize parentD x.D t = e2 at *
    generalize kindD x.D t = e3 at *
    have tok1 : True := trivial
    have tok2 : True := trivial
    go_enter Tryz.func37, Tryz.ntmps37
    go_wp2_with (first
      | (go_at_call 76; have _t := tok1; clear _t tok1; refine hm.mono ?_; rintro e w1 ⟨rfl, rfl⟩)
      | (go_at_call 76; refine hm2.mono ?_; rintro e w1 ⟨rfl, rfl⟩)
      | (go_at_call 32; have _t := tok2; clear _t tok2; refine hk.mono ?_; rintro e w1 ⟨rfl, rfl⟩)
      | (go_at_call 32; refine hk2.mono ?_; rintro e w1 ⟨rfl, rfl⟩)
      | (go_at_call 77; refine hh.mono ?_; rintro e w1 ⟨rfl, rfl⟩))
    go_region_held3 (fun w' => w'.cell? ⟨e, 0, none⟩ = some (.slice (some ⟨g, 0, none⟩) (filesD x.D).length cap) ∧ w'.cell? ⟨g, k * 3, none⟩ = some (.string s) ∧ w'.cell? ⟨g, k * 3 + 1, none⟩ = some (.bool false) ∧ w'.cell? ⟨g, k * 3 + 1 + 1, none⟩ = some (.string u)) (go_keep)
      (first | (go_at_call 53; refine (HF.out _ ?_).mono ?_; (first | exact Below.refl _ _ | exact (Below.refl _ _).drew | exact ((Below.refl _ _).alloc (Nat.le_refl _) _).drew); rintro e w1 ⟨rfl, rfl⟩))
    all_goals have tok3 : True := trivial
    all_goals go_wp2_with (first
      | (go_at_call 54; have _t := tok3; clear _t tok3; refine HMV.out.mono ?_; rintro e w2 ⟨rfl, ⟨q0, q1, q2, q3⟩, hnt⟩; have HNT := hide3 hnt; clear hnt)
      | (go_at_call 54; refine HNT.out.mono ?_; rintro e w3 ⟨rfl, hnt2⟩; have HNT2 := hide3 hnt2; clear hnt2)
      | (go_at_call 78; refine HNT2.out.mono ?_; rintro e w4 ⟨rfl, ha⟩))
    all_goals
      go_ret
      rw [HE.out]
      exact ⟨rfl, ha⟩
  · have HE : Hid (renameD x s t = (13, x)) := by unfold Hid; rw [he, k0]; rfl
    have HA := hide3 (AfterR.same h.ref)
    rw [k0] at hk
    clear h hG hP h2w he hk2 hh
    generalize writeD x.left [s] = e0 at *
    generalize writeD x.left [t] = e1 at *
    have tok1 : True := trivial
    have tok2 : True := trivial
    go_enter Tryz.func37, Tryz.ntmps37
    go_wp2_with (first
      | (go_at_call 76; have _t := tok1; clear _t tok1; refine hm.mono ?_; rintro e w1 ⟨rfl, rfl⟩)
      | (go_at_call 76; refine hm2.mono ?_; rintro e w1 ⟨rfl, rfl⟩)
      | (go_at_call 32; have _t := tok2; clear _t tok2; refine hk.mono ?_; rintro e w1 ⟨rfl, rfl⟩))
    go_ret
    rw [HE.out]
    exact ⟨rfl, HA.out⟩

theorem Plain.ok {D : DataW Unit} (hP : Plain D) {f : Fl} (hf : f ∈ filesD D) : okPath f.1 = true := by
  obtain ⟨s', hs', hok'⟩ := hP.good.keys _ ((hP.good.mem f).1 hf).1
  rw [keyD_inj hs']; exact hok'

def txA : ByteArray := ⟨#[47, 97]⟩
def txF : ByteArray := ⟨#[47, 97, 47, 102]⟩
def txX : ByteArray := ⟨#[120]⟩
def ab1 : Ab := (mkdirD newAb txA).2
def ab2 : Ab := (writeFD ab1 txF txX).2

theorem lv1 : (mkdirD newAb txA).1 = 0 := by decide +kernel
theorem lv2 : (writeFD ab1 txF txX).1 = 0 := by decide +kernel
theorem lv3 : readE ab2.D txF = 0 := by decide +kernel
theorem lv4 : readT ab2.D txF = txX := by decide +kernel
theorem lv5 : kindD ab2.D txA = 2 := by decide +kernel
theorem lv6 : ab2.rs.length = 2 := by decide +kernel
theorem lv7 : ab1.rs.length = 1 := by decide +kernel
theorem lv8 : ab1.left = -1 := by decide +kernel
theorem lv9 : ab2.left = -1 := by decide +kernel

/-- Both disks, behind at most k deeds. -/
structure Two (B : Nat) (w : World) (d e : Nat) (x : Ab) (m : Int) (k : Nat) : Prop where
  ex : ∃ mb n rv lv rw, IsDisk B w d mb n rv x ∧ IsRef B w e lv rw (filesD x.D) x.rs x.left ∧ (∀ j, Foot d mb rv j → ¬ FootR e lv rw j) ∧ n ≤ k
  sound : Sound x.D
  len : x.rs.length ≤ k
  lo : -1 ≤ x.left
  hi : x.left ≤ 9223372036854775807
  max : w.cell? ⟨0, 0, none⟩ = some (.int .i64 m)
  base : B ≤ w.heap.size
  zero : 0 < B

theorem Two.below {B : Nat} {w w' : World} {d e : Nat} {x : Ab} {m : Int} {k : Nat} (h : Two B w d e x m k) (hb : Below w.heap.size w w') : Two B w' d e x m k := by
  obtain ⟨mb, n, rv, lv, rw', h1, h2, h3, h4⟩ := h.ex
  exact { ex := ⟨mb, n, rv, lv, rw', h1.below hb, h2.below hb, h3, h4⟩, sound := h.sound, len := h.len, lo := h.lo, hi := h.hi, max := cell_below h.max hb, base := Nat.le_trans h.base hb.size, zero := h.zero }

theorem Two.plain {B : Nat} {w : World} {d e : Nat} {x : Ab} {m : Int} {k : Nat} (h : Two B w d e x m k) : Plain x.D := by
  obtain ⟨mb, n, rv, lv, rw', h1, _⟩ := h.ex
  exact h1.plain

theorem After.left {B : Nat} {w : World} {d mb n : Nat} {rv : Value} {x : Ab} (h : IsDisk B w d mb n rv x) (l : Int) : After B w (w.setCell ⟨d, 2, none⟩ (.int .i64 l)) d mb n rv { x with left := l } :=
  ⟨n, rv, Nat.le_succ _, h.setLeft l, (Upd.setCell w ⟨d, 2, none⟩ (.int .i64 l)).mono (fun _ _ f => Or.inl f), fun _ hj => Or.inl hj⟩

set_option maxHeartbeats 400000 in
theorem dCut_any {B : Nat} {w : World} {d mb n : Nat} {rv : Value} {x : Ab} (h : IsDisk B w d mb n rv x) (z : Int) :
    Calls Tryz.prog 10 #[.pointer (some ⟨d, 0, none⟩), .int .i64 z] w fun e w' => e = .returned (.int .i64 (cutE x.left z)) ∧ After B w w' d mb n rv { x with left := cutL x.left z } := by
  have hd := Down_any h
  have c2 := h.c2
  have f2 := h.f2
  by_cases h0 : (x.left == 0) = true
  · have HE : Hid (cutE x.left z = 15 ∧ cutL x.left z = x.left) := by unfold Hid cutE cutL; rw [if_pos h0, if_pos h0]; exact ⟨rfl, rfl⟩
    have HR := hide3 (After.same h (Below.refl _ _))
    clear h
    go_enter Tryz.func10, Tryz.ntmps10
    go_wp2_with (go_at_call 28; refine hd.mono ?_; rintro e w' ⟨rfl, rfl⟩)
    go_ret
    rw [HE.out.1, HE.out.2]
    exact ⟨rfl, HR.out⟩
  rw [Bool.not_eq_true] at h0
  by_cases h1 : z < 0
  · have HE : Hid (cutE x.left z = 1 ∧ cutL x.left z = x.left) := by unfold Hid cutE cutL; simp [h0, h1]
    have HR := hide3 (After.same h (Below.refl _ _))
    clear h
    go_enter Tryz.func10, Tryz.ntmps10
    go_wp2_with (go_at_call 28; refine hd.mono ?_; rintro e w' ⟨rfl, rfl⟩)
    go_ret
    rw [HE.out.1, HE.out.2]
    exact ⟨rfl, HR.out⟩
  · have HE : Hid (cutE x.left z = 0 ∧ cutL x.left z = z) := by unfold Hid cutE cutL; simp [h0, h1]
    have HR := hide3 (After.left h z)
    clear h
    go_enter Tryz.func10, Tryz.ntmps10
    go_wp2_with (go_at_call 28; refine hd.mono ?_; rintro e w' ⟨rfl, rfl⟩)
    go_ret
    rw [HE.out.1, HE.out.2]
    exact ⟨rfl, HR.out⟩

set_option maxHeartbeats 400000 in
theorem Clear_walk {B : Nat} {w : World} {d mb n : Nat} {rv : Value} {x : Ab} (h : IsDisk B w d mb n rv x) :
    Calls Tryz.prog 25 #[.pointer (some ⟨d, 0, none⟩)] w fun e w' => e = .returned (.tuple #[]) ∧ w' = w.setCell ⟨d, 1, none⟩ (.slice none 0 0) := by
  have c1 := h.c1
  have f1 := h.f1
  clear h
  go_enter Tryz.func25, Tryz.ntmps25
  go_wp2
  go_end0
  exact ⟨rfl, rfl⟩

theorem IsDisk.clear {B : Nat} {w : World} {d mb n : Nat} {rv : Value} {x : Ab} (h : IsDisk B w d mb n rv x) : IsDisk B (w.setCell ⟨d, 1, none⟩ (.slice none 0 0)) d mb n (.slice none 0 0) { x with rs := [] } := by
  have hc0 : (w.setCell ⟨d, 1, none⟩ (.slice none 0 0)).cell? ⟨d, 0, none⟩ = w.cell? ⟨d, 0, none⟩ := World.cell?_setCell_other _ _ _ _ (by simp)
  have hc2 : (w.setCell ⟨d, 1, none⟩ (.slice none 0 0)).cell? ⟨d, 2, none⟩ = w.cell? ⟨d, 2, none⟩ := World.cell?_setCell_other _ _ _ _ (by simp)
  exact { c0 := by rw [hc0]; exact h.c0, c1 := World.cell?_setCell_same _ _ _ h.c1, c2 := by rw [hc2]; exact h.c2,
          f1 := by rw [World.frozen?_setCell]; exact h.f1, f2 := by rw [World.frozen?_setCell]; exact h.f2,
          own := h.own.setCell (fun e => h.dm e.symm) _, row := ⟨rfl, Or.inl ⟨rfl, rfl⟩⟩,
          rd := by simp [Value.ownBlock], rm := by simp [Value.ownBlock], dm := h.dm, bd := h.bd, bm := h.bm, ld := by simp [World.setCell]; exact h.ld, keys := h.keys }

theorem IsRef.clear {B : Nat} {w : World} {e : Nat} {lv rv : Value} {fs : List Fl} {rs : List (Int × ByteArray × ByteArray)} {left : Int} (h : IsRef B w e lv rv fs rs left) : IsRef B (w.setCell ⟨e, 1, none⟩ (.slice none 0 0)) e lv (.slice none 0 0) fs [] left := by
  have hc0 : (w.setCell ⟨e, 1, none⟩ (.slice none 0 0)).cell? ⟨e, 0, none⟩ = w.cell? ⟨e, 0, none⟩ := World.cell?_setCell_other _ _ _ _ (by simp)
  have hc2 : (w.setCell ⟨e, 1, none⟩ (.slice none 0 0)).cell? ⟨e, 2, none⟩ = w.cell? ⟨e, 2, none⟩ := World.cell?_setCell_other _ _ _ _ (by simp)
  exact { c0 := by rw [hc0]; exact h.c0, c1 := World.cell?_setCell_same _ _ _ h.c1, c2 := by rw [hc2]; exact h.c2, f0 := by rw [World.frozen?_setCell]; exact h.f0, f1 := by rw [World.frozen?_setCell]; exact h.f1, f2 := by rw [World.frozen?_setCell]; exact h.f2,
          lrow := ownsRow_upd h.lrow (Upd.setCell w ⟨e, 1, none⟩ (.slice none 0 0)) (fun k hk hk' => h.le (by rw [hk]; exact congrArg some hk')), rrow := ⟨rfl, Or.inl ⟨rfl, rfl⟩⟩,
          le := h.le, re := by simp [Value.ownBlock], be := h.be, lt := by simp [World.setCell]; exact h.lt }

/-- A deed in memory: its five cells, in their bounds. -/
def DeedAt (w : World) (g o : Nat) : Prop := ∃ (k : Int) (p t u : ByteArray) (z : Int),
  w.cell? ⟨g, o, none⟩ = some (.int .i64 k) ∧ w.cell? ⟨g, o + 1, none⟩ = some (.string p) ∧ w.cell? ⟨g, o + 1 + 1, none⟩ = some (.string t) ∧ w.cell? ⟨g, o + 1 + 1 + 1, none⟩ = some (.string u) ∧ w.cell? ⟨g, o + 1 + 1 + 1 + 1, none⟩ = some (.int .i64 z) ∧
  -9223372036854775808 ≤ k ∧ k ≤ 9223372036854775807 ∧ p.size ≤ maxLen ∧ t.size ≤ maxLen ∧ u.size ≤ maxLen ∧ -9223372036854775808 ≤ z ∧ z ≤ 9223372036854775807

theorem DeedAt.below {w w' : World} {g o B : Nat} (h : DeedAt w g o) (hb : Below B w w') (hg : g < B) : DeedAt w' g o := by
  obtain ⟨k, p, t, u, z, h0, h1, h2, h3, h4, r⟩ := h
  have q : ∀ i, w'.cell? ⟨g, i, none⟩ = w.cell? ⟨g, i, none⟩ := fun i => hb.cell (p := ⟨g, i, none⟩) hg
  exact ⟨k, p, t, u, z, by rw [q]; exact h0, by rw [q]; exact h1, by rw [q]; exact h2, by rw [q]; exact h3, by rw [q]; exact h4, r⟩

def wNew (w : World) : World := (w.alloc (.map #[] 0)).alloc (.cells #[.map (some w.heap.size), .slice none 0 0, .int .i64 (-1)] 62)
theorem New_any (w : World) : Calls Tryz.prog 60 #[] w fun e w' => e = .returned (.pointer (some ⟨w.heap.size + 1, 0, none⟩)) ∧ w' = wNew w := New_walk w
theorem size_wNew (w : World) : (wNew w).heap.size = w.heap.size + 2 := by simp [wNew]

/-- A directory bears no data; the path may be. -/
def okF (f : Fl) : Bool := okPath f.1 && !(f.2.1 && !(f.2.2.toList == []))
def putF (D : DataW Unit) (f : Fl) : DataW Unit := D.put (keyD f.1) (itemD f.2.1 f.2.2)
def loadD (fs : List Fl) : DataW Unit := fs.foldl putF (.map [])

theorem loadD_take (fs : List Fl) (k : Nat) (hk : k < fs.length) : loadD (fs.take (k + 1)) = putF (loadD (fs.take k)) fs[k] := by
  unfold loadD
  rw [List.take_succ_eq_append_getElem hk, List.foldl_append]; rfl
theorem loadD_snoc (fs : List Fl) (f : Fl) : loadD (fs ++ [f]) = putF (loadD fs) f := by
  unfold loadD
  rw [List.foldl_append]; rfl

/-- What Load takes. -/
def Loads (fs : List Fl) : Prop := (∀ i (hi : i < fs.length), okF fs[i] = true ∧ kindD (loadD (fs.take i)) fs[i].1 = 0) ∧ ∀ i (hi : i < fs.length), parentD (loadD fs) fs[i].1 = 0

theorem isMap_put {D : DataW Unit} (h : IsMap D) (f : Fl) : IsMap (putF D f) := by
  obtain ⟨es, rfl⟩ := h
  exact ⟨_, rfl⟩

theorem snoc_ind {P : List Fl → Prop} (h0 : P []) (h1 : ∀ l f, P l → P (l ++ [f])) (l : List Fl) : P l := by
  have : ∀ n (l : List Fl), l.length = n → P l := by
    intro n
    induction n with
    | zero => intro l hl; rw [List.eq_nil_of_length_eq_zero hl]; exact h0
    | succ n ih =>
      intro l hl
      have hne : l ≠ [] := by rintro rfl; cases hl
      rw [← List.dropLast_concat_getLast hne]
      exact h1 _ _ (ih _ (by rw [List.length_dropLast, hl]; rfl))
  exact this _ l rfl

theorem loadD_map (fs : List Fl) : IsMap (loadD fs) := by
  refine snoc_ind (P := fun l => IsMap (loadD l)) ⟨[], rfl⟩ (fun l f h => ?_) fs
  rw [loadD_snoc]
  exact isMap_put h f

theorem has_nil (kl : Lit) : Maps.has (loadD []) kl = false := rfl

theorem has_load (fs : List Fl) (s : ByteArray) : Maps.has (loadD fs) (keyD s) = true ↔ ∃ f ∈ fs, f.1 = s := by
  refine snoc_ind (P := fun l => Maps.has (loadD l) (keyD s) = true ↔ ∃ f ∈ l, f.1 = s) ?_ (fun l f h => ?_) fs
  · rw [has_nil]
    exact ⟨(fun h => by cases h), (fun ⟨f, hf, _⟩ => by cases hf)⟩
  · rw [loadD_snoc]
    unfold putF
    by_cases e : f.1 = s
    · rw [e, has_put_same (loadD_map l) (isKey s)]
      exact ⟨fun _ => ⟨f, by simp, e⟩, fun _ => rfl⟩
    · rw [has_put_other (fun h' => e (keyD_inj h').symm), h]
      constructor
      · rintro ⟨g, hg, rfl⟩
        exact ⟨g, by simp [hg], rfl⟩
      · rintro ⟨g, hg, rfl⟩
        rcases List.mem_append.1 hg with hg | hg
        · exact ⟨g, hg, rfl⟩
        · exact absurd (List.mem_singleton.1 hg ▸ rfl) e

theorem keys_load (fs : List Fl) (hok : ∀ f ∈ fs, okPath f.1 = true) : ∀ kl, Maps.has (loadD fs) kl = true → ∃ s, kl = keyD s ∧ okPath s = true := by
  revert hok
  refine snoc_ind (P := fun l => (∀ f ∈ l, okPath f.1 = true) → ∀ kl, Maps.has (loadD l) kl = true → ∃ s, kl = keyD s ∧ okPath s = true) ?_ (fun l f h => ?_) fs
  · intro _ kl h
    rw [has_nil] at h
    cases h
  · intro hok
    rw [loadD_snoc]
    exact keys_put (hok f (by simp)) (h fun g hg => hok g (by simp [hg]))

theorem at_load (fs : List Fl) (hd : fs.Pairwise fun x y => x.1 ≠ y.1) (f : Fl) (hf : f ∈ fs) : (loadD fs).atKey (keyD f.1) zeroD = itemD f.2.1 f.2.2 := by
  revert hd hf
  refine snoc_ind (P := fun l => (l.Pairwise fun x y => x.1 ≠ y.1) → f ∈ l → (loadD l).atKey (keyD f.1) zeroD = itemD f.2.1 f.2.2) ?_ (fun l g h => ?_) fs
  · intro _ hf
    cases hf
  · intro hd hf
    rw [List.pairwise_append] at hd
    rw [loadD_snoc]
    unfold putF
    rcases List.mem_append.1 hf with hf | hf
    · have hne : f.1 ≠ g.1 := hd.2.2 f hf g (by simp)
      rw [atKey_put_other (fun e => hne (keyD_inj e))]
      exact h hd.1 hf
    · obtain rfl := List.mem_singleton.1 hf
      exact atKey_put_same (loadD_map l) (isKey f.1) _ _

theorem rising_apart {fs : List Fl} (h : Rising fs) : fs.Pairwise fun x y => x.1 ≠ y.1 := h.imp fun {x y} h e => by rw [e, WideAt.bytes_irrefl] at h; cases h

/-- Directories bear no data. -/
def DirE (D : DataW Unit) : Prop := ∀ f ∈ filesD D, f.2.1 = true → f.2.2 = ByteArray.empty

theorem not_root {s : ByteArray} (h : okPath s = true) : (s.toList == [47]) = false := by
  unfold okPath at h
  simp only [Bool.and_eq_true, Bool.not_eq_true'] at h
  exact h.2

theorem kind_none {D : DataW Unit} {s : ByteArray} (h1 : (s.toList == [47]) = false) (h2 : Maps.has D (keyD s) = false) : kindD D s = 0 := by
  unfold kindD
  rw [if_neg (by rw [h1]; decide), if_neg (by rw [h2]; decide)]
theorem kind_none_has {D : DataW Unit} {s : ByteArray} (h : kindD D s = 0) : Maps.has D (keyD s) = false := by
  rw [Bool.eq_false_iff]
  intro h2
  unfold kindD at h
  rw [if_pos h2] at h
  split at h
  · cases h
  · split at h <;> cases h

/-- Apart: the keys of what Load takes differ. -/
theorem loads_apart {fs : List Fl} (h : ∀ i (hi : i < fs.length), okF fs[i] = true ∧ kindD (loadD (fs.take i)) fs[i].1 = 0) : fs.Pairwise fun x y => x.1 ≠ y.1 := by
  rw [List.pairwise_iff_getElem]
  intro i j hi hj hij e
  have h1 := kind_none_has (h j hj).2
  rw [Bool.eq_false_iff] at h1
  refine h1 ((has_load _ _).2 ⟨fs[i], ?_, e⟩)
  exact List.mem_take_iff_getElem.2 ⟨i, by omega, by simp⟩

/-- The files that a loaded disk has are those of the list. -/
theorem mem_files_load {fs : List Fl} (hd : fs.Pairwise fun x y => x.1 ≠ y.1) (hL : Good (loadD fs)) (f : Fl) : f ∈ filesD (loadD fs) ↔ f ∈ fs := by
  rw [hL.mem, has_load]
  constructor
  · rintro ⟨⟨g, hg, e⟩, h2⟩
    have h3 := at_load _ hd g hg
    rw [e, h2] at h3
    unfold itemD at h3
    simp only [DataW.agg.injEq, List.cons.injEq, DataW.lit.injEq, Lit.bool.injEq, Lit.string.injEq, and_true] at h3
    obtain ⟨fs', fc, ft⟩ := f
    obtain ⟨gs, gc, gt⟩ := g
    simp only at e h3
    rw [← e, h3.1, bytes_eq h3.2]
    exact hg
  · intro hf
    exact ⟨⟨f, hf, rfl⟩, at_load _ hd f hf⟩

theorem load_dirE {fs : List Fl} (hok : ∀ f ∈ fs, okF f = true) (hd : fs.Pairwise fun x y => x.1 ≠ y.1) (hL : Good (loadD fs)) : DirE (loadD fs) := by
  intro f hf hc
  have h := hok f ((mem_files_load hd hL f).1 hf)
  unfold okF at h
  rw [hc] at h
  simp only [Bool.true_and, Bool.not_not, Bool.and_eq_true, beq_iff_eq] at h
  have h2 := h.2
  rw [toList_data] at h2
  exact bytes_eq h2

theorem load_sound {fs : List Fl} (h : Loads fs) : Sound (loadD fs) := by
  intro s hs
  obtain ⟨f, hf, rfl⟩ := (has_load _ _).1 hs
  obtain ⟨i, hi, rfl⟩ := List.getElem_of_mem hf
  exact parentD_zero (by rw [h.2 i hi]; rfl)

def fileObj (p : ByteArray) (c : Bool) (t : ByteArray) : Obj := .cells #[.string p, .bool c, .string t] 83
theorem file_new (w W : World) (p : ByteArray) (c : Bool) (t : ByteArray) (hb : Below (w.alloc (fileObj p c t)).heap.size (w.alloc (fileObj p c t)) W) :
    W.cell? ⟨w.heap.size, 0, none⟩ = some (.string p) ∧ W.cell? ⟨w.heap.size, 1, none⟩ = some (.bool c) ∧ W.cell? ⟨w.heap.size, 2, none⟩ = some (.string t) := by
  have q : ∀ i, W.cell? ⟨w.heap.size, i, none⟩ = (w.alloc (fileObj p c t)).cell? ⟨w.heap.size, i, none⟩ := fun i => hb.cell (p := ⟨w.heap.size, i, none⟩) (by simp)
  refine ⟨?_, ?_, ?_⟩ <;> rw [q] <;> unfold fileObj <;> rw [World.cell?_alloc_new] <;> rfl

set_option maxHeartbeats 1000000 in
theorem mayLoad_any (p : ByteArray) (c : Bool) (t : ByteArray) (m : Int) (w : World) (hm : w.cell? ⟨0, 0, none⟩ = some (.int .i64 m)) :
    Calls Tryz.prog 61 #[.agg #[.string p, .bool c, .string t]] w fun e w' => e = .returned (.bool (okF (p, c, t))) ∧ Below w.heap.size w w' := by
  have HP : Hid (Calls Tryz.prog 63 #[.string p] (w.alloc (.cells #[.string p, .bool c, .string t] 83)) fun e w' => e = .returned (.bool (pathB p)) ∧ Below (w.alloc (.cells #[.string p, .bool c, .string t] 83)).heap.size (w.alloc (.cells #[.string p, .bool c, .string t] 83)) w') := isPath_any p m _ (cell_below hm (alloc_below w _))
  have HB := hide3 (alloc_below w (.cells #[.string p, .bool c, .string t] 83))
  have HC := hide3 (fun W => file_new w W p c t)
  have HE : Hid (okF (p, c, t) = (!(p.toList == [47]) && pathB p && !(c && !(t.toList == [])))) := by
    unfold Hid okF okPath
    simp only
    rw [Bool.and_comm (pathB p)]
  generalize okF (p, c, t) = ok at *
  clear hm
  by_cases h1 : (p.toList == [47]) = true
  · rw [h1] at HE
    go_enter Tryz.func61, Tryz.ntmps61
    go_wp2
    go_ret
    exact ⟨ret_bool (by rw [HE.out]; rfl), HB.out⟩
  rw [Bool.not_eq_true] at h1
  rw [h1] at HE
  generalize pathB p = b at *
  cases b
  · go_enter Tryz.func61, Tryz.ntmps61
    go_wp2_with (go_at_call 63; refine HP.out.mono ?_; rintro e w1 ⟨rfl, hb⟩)
    go_ret
    exact ⟨ret_bool (by rw [HE.out]; rfl), HB.out.trans (hb.mono HB.out.size)⟩
  · cases c
    · go_enter Tryz.func61, Tryz.ntmps61
      go_wp2_with (go_at_call 63; refine HP.out.mono ?_; rintro e w1 ⟨rfl, hb⟩; obtain ⟨q0, q1, q2⟩ := HC.out _ hb)
      go_ret
      exact ⟨ret_bool (by rw [HE.out]; rfl), HB.out.trans (hb.mono HB.out.size)⟩
    · by_cases ht : (t.toList == []) = true
      · rw [ht] at HE
        go_enter Tryz.func61, Tryz.ntmps61
        go_wp2_with (go_at_call 63; refine HP.out.mono ?_; rintro e w1 ⟨rfl, hb⟩; obtain ⟨q0, q1, q2⟩ := HC.out _ hb)
        go_ret
        exact ⟨ret_bool (by rw [HE.out]; rfl), HB.out.trans (hb.mono HB.out.size)⟩
      · rw [Bool.not_eq_true] at ht
        rw [ht] at HE
        go_enter Tryz.func61, Tryz.ntmps61
        go_wp2_with (go_at_call 63; refine HP.out.mono ?_; rintro e w1 ⟨rfl, hb⟩; obtain ⟨q0, q1, q2⟩ := HC.out _ hb)
        go_ret
        exact ⟨ret_bool (by rw [HE.out]; rfl), HB.out.trans (hb.mono HB.out.size)⟩

/-- What Load answers. -/
def LoadQ (w : World) (fs : List Fl) (e : Ending) (w' : World) : Prop := Below w.heap.size w w' ∧
  ((Loads fs ∧ e = .returned (.tuple #[.pointer (some ⟨w.heap.size + 1, 0, none⟩), .int .i64 0]) ∧ ∃ n, n ≤ fs.length ∧ IsDisk w.heap.size w' (w.heap.size + 1) w.heap.size n (.slice none 0 0) ⟨loadD fs, [], -1⟩) ∨
   (¬ Loads fs ∧ e = .returned (.tuple #[.pointer none, .int .i64 1])))

/-- A list of files in memory. -/
def FilesAt (w : World) (g off : Nat) (fs : List Fl) : Prop := ∀ k (hk : k < fs.length), w.cell? ⟨g, off + k * 3, none⟩ = some (.string fs[k].1) ∧ w.cell? ⟨g, off + k * 3 + 1, none⟩ = some (.bool fs[k].2.1) ∧ w.cell? ⟨g, off + k * 3 + 1 + 1, none⟩ = some (.string fs[k].2.2)

theorem okF_path {p : ByteArray} {c : Bool} {t : ByteArray} (h : okF (p, c, t) = true) : okPath p = true := by
  unfold okF at h
  simp only [Bool.and_eq_true] at h
  exact h.1

set_option maxHeartbeats 4000000 in
theorem Load_some (fs : List Fl) (g off cap : Nat) (m : Int) (w : World) (hm : w.cell? ⟨0, 0, none⟩ = some (.int .i64 m)) (hg : g < w.heap.size) (hlen : fs.length ≤ 2199023255551)
    (hc : FilesAt w g off fs) (hz : ∀ f ∈ fs, f.1.size ≤ maxLen ∧ f.2.2.size ≤ maxLen) :
    Calls Tryz.prog 26 #[.slice (some ⟨g, off, none⟩) fs.length cap] w (LoadQ w fs) := by
  have HC := hide3 hc
  have HZ := hide3 hz
  have HM := hide3 hm
  have hb0 := new_below w
  have HN : Hid (IsDisk w.heap.size (wNew w) (w.heap.size + 1) w.heap.size 0 (.slice none 0 0) newAb) := new_is (Nat.le_refl _)
  have HB0 : Hid (Below w.heap.size w (wNew w)) := hb0
  have hsz := size_wNew w
  have HNO : Hid (∀ w', ¬ Loads fs → Below w.heap.size w w' → LoadQ w fs (.returned (.tuple #[.pointer none, .int .i64 1])) w') := fun w' h hb => ⟨hb, Or.inr ⟨h, rfl⟩⟩
  have HYES : Hid (∀ w' n, Loads fs → Below w.heap.size w w' → n ≤ fs.length → IsDisk w.heap.size w' (w.heap.size + 1) w.heap.size n (.slice none 0 0) ⟨loadD fs, [], -1⟩ → LoadQ w fs (.returned (.tuple #[.pointer (some ⟨w.heap.size + 1, 0, none⟩), .int .i64 0])) w') := fun w' n h hb hn hd => ⟨hb, Or.inl ⟨h, rfl, n, hn, hd⟩⟩
  have HLD : Hid (Loads fs → ∀ i (hi : i < fs.length), okF fs[i] = true ∧ kindD (loadD (fs.take i)) fs[i].1 = 0) := fun h => h.1
  have HLP : Hid (Loads fs → ∀ i (hi : i < fs.length), parentD (loadD fs) fs[i].1 = 0) := fun h => h.2
  have HLI : Hid ((∀ i (hi : i < fs.length), okF fs[i] = true ∧ kindD (loadD (fs.take i)) fs[i].1 = 0) → (∀ i (hi : i < fs.length), parentD (loadD fs) fs[i].1 = 0) → Loads fs) := fun h h' => ⟨h, h'⟩
  clear hc hz hm hb0
  generalize LoadQ w fs = HQ at *
  go_enter Tryz.func26, Tryz.ntmps26
  go_wp2_with (go_at_call 60; refine (New_any _).mono ?_; rintro e w1 ⟨rfl, rfl⟩)
  go_loopw [12] (fun i wr => ∃ k : Nat, k ≤ fs.length ∧ i = .int .i64 k ∧ (∃ n, n ≤ k ∧ IsDisk w.heap.size wr (w.heap.size + 1) w.heap.size n (.slice none 0 0) ⟨loadD (fs.take k), [], -1⟩) ∧ Below w.heap.size w wr ∧ ∀ j (hj : j < fs.length), j < k → okF fs[j] = true ∧ kindD (loadD (fs.take j)) fs[j].1 = 0) (fun i _ => fs.length - (intOf i).toNat)
  case atStart => exact ⟨0, Nat.zero_le _, rfl, ⟨0, Nat.le_refl _, HN.out⟩, HB0.out, fun j hj h => absurd h (Nat.not_lt_zero _)⟩
  case round =>
    obtain ⟨k, hk, rfl, ⟨n, hn, hd⟩, hb, hall⟩ := hrel
    have HD := hide3 hd
    have HB := hide3 hb
    have HA := hide3 hall
    clear hd hb hall
    by_cases hlt : k < fs.length
    · obtain ⟨f, hf⟩ : ∃ f, f = fs[k] := ⟨_, rfl⟩
      have HF := hide3 hf
      obtain ⟨p, c, t⟩ := f
      have hcs := HC.out k hlt
      rw [← hf] at hcs
      obtain ⟨a0, a1, a2⟩ := hcs
      have b0 := (HB.out.cell (p := ⟨g, off + k * 3, none⟩) hg).trans a0
      have b1 := (HB.out.cell (p := ⟨g, off + k * 3 + 1, none⟩) hg).trans a1
      have b2 := (HB.out.cell (p := ⟨g, off + k * 3 + 1 + 1, none⟩) hg).trans a2
      have hzz := HZ.out fs[k] (List.getElem_mem hlt)
      rw [← hf] at hzz
      obtain ⟨hz1, hz2⟩ := hzz
      have HZ1 := hide3 hz1
      have HZ2 := hide3 hz2
      clear hf a0 a1 a2 hz1 hz2
      have HX := hide3 (alloc_below wr (.cells #[.string p, .bool c, .string t] 83))
      have HFN := hide3 (fun W => file_new wr W p c t)
      have HML : Hid (Calls Tryz.prog 61 #[.agg #[.string p, .bool c, .string t]] (wr.alloc (.cells #[.string p, .bool c, .string t] 83)) fun e w' => e = .returned (.bool (okF (p, c, t))) ∧ Below (wr.alloc (.cells #[.string p, .bool c, .string t] 83)).heap.size (wr.alloc (.cells #[.string p, .bool c, .string t] 83)) w') :=
        mayLoad_any p c t m _ (cell_below (HB.out.cell (p := ⟨0, 0, none⟩) (cell_lt HM.out) |>.trans HM.out) (alloc_below wr _))
      have HKD : Hid (∀ w1, Below wr.heap.size wr w1 → Calls Tryz.prog 22 #[.pointer (some ⟨w.heap.size + 1, 0, none⟩), .string p] w1 fun e w' => e = .returned (.int .i64 (kindD (loadD (fs.take k)) p)) ∧ Below w1.heap.size w1 w') := fun w1 hb => Kind_any (HD.out.below hb) p HZ1.out
      have HKY : Hid (keyOf Tryz.prog 9 (.string p) = some (keyD p)) := keyOf_str HZ1.out
      by_cases hok : okF (p, c, t) = true
      · by_cases hkd : kindD (loadD (fs.take k)) p = 0
        · rw [hok] at HML
          rw [hkd] at HKD
          have HOK := hide3 hok
          have HK0 := hide3 hkd
          clear hok hkd
          go_wp2_with (first
            | (go_at_call 61; refine HML.out.mono ?_; rintro e w1 ⟨rfl, hb1⟩; obtain ⟨q0, q1, q2⟩ := HFN.out _ hb1; have HB1 := hide3 hb1; have HX1 := hide3 (HX.out.trans (hb1.mono HX.out.size)); clear hb1)
            | (go_at_call 22; refine (HKD.out _ HX1.out).mono ?_; rintro e w2 ⟨rfl, hb2⟩; clear q0 q1 q2; obtain ⟨q0, q1, q2⟩ := HFN.out _ (HB1.out.trans (hb2.mono HB1.out.size)); have HX2 := hide3 (HX1.out.trans (hb2.mono HX1.out.size)); have c0 := (HD.out.below HX2.out).c0; clear hb2))
          obtain ⟨w4, hrun, hown4, hg4⟩ := (HD.out.below HX2.out.drew).own.update keyed Tryz.underlying60 (by unfold maxLen; omega) HKY.out (itemR_mk (b := c) HZ2.out)
          have hxs : wr.heap.size < w2.drew.heap.size := by have := HX2.out.size; have := cell_lt q0; exact this
          have hds : w.heap.size + 1 < w2.drew.heap.size := cell_lt c0
          have HOWN4 := hide3 hown4
          have HG4 := hide3 hg4
          have e0 := (grown_far hg4 hds (fun e => by have := Option.some.inj e; omega) 0).1.trans c0
          have e1 := (grown_far hg4 hxs (fun e => by have := Option.some.inj e; have := HB.out.size; have := HD.out.own.lt; omega) 0).1.trans q0
          have e2 := (grown_far hg4 hxs (fun e => by have := Option.some.inj e; have := HB.out.size; have := HD.out.own.lt; omega) 1).1.trans q1
          have e3 := (grown_far hg4 hxs (fun e => by have := Option.some.inj e; have := HB.out.size; have := HD.out.own.lt; omega) 2).1.trans q2
          clear hown4 hg4 hxs hds
          go_region_held3 (fun w' => w'.cell? ⟨w.heap.size + 1, 0, none⟩ = some (.map (some w.heap.size)) ∧ w'.cell? ⟨wr.heap.size, 0, none⟩ = some (.string p) ∧ w'.cell? ⟨wr.heap.size, 1, none⟩ = some (.bool c) ∧ w'.cell? ⟨wr.heap.size, 2, none⟩ = some (.string t)) (go_keep) (fail)
          all_goals go_wp2_with fail
          have ht := turned (HD.out.below HX2.out.drew) HOWN4.out HG4.out (keys_put (okF_path HOK.out) HD.out.keys)
          refine ⟨⟨k + 1, by omega, by go_num, ⟨n + 1, by omega, ?_⟩, ?_, fun j hj hjk => ?_⟩, by simp [intOf]; omega⟩
          · rw [loadD_take fs k hlt, ← HF.out]
            exact ht.1
          · refine (HB.out.trans (HX2.out.drew.mono HB.out.size)).trans (ht.2.below (Nat.le_trans HB.out.size HX2.out.size) fun i hi => ?_)
            rcases hi with rfl | rfl | hi
            · omega
            · omega
            · cases hi
          · by_cases e : j = k
            · subst e
              rw [← HF.out]
              exact ⟨HOK.out, HK0.out⟩
            · exact HA.out j hj (by omega)
        · have HNL : Hid (¬ Loads fs) := fun h => hkd (by have := (HLD.out h k hlt).2; rw [← HF.out] at this; exact this)
          have hk0 : (kindD (loadD (fs.take k)) p == 0) = false := by simpa using hkd
          rw [hok] at HML
          generalize kindD (loadD (fs.take k)) p = kd at *
          clear hok hkd
          go_wp2_with (first
            | (go_at_call 61; refine HML.out.mono ?_; rintro e w1 ⟨rfl, hb1⟩; obtain ⟨q0, q1, q2⟩ := HFN.out _ hb1; have HX1 := hide3 (HX.out.trans (hb1.mono HX.out.size)); clear hb1)
            | (go_at_call 22; refine (HKD.out _ HX1.out).mono ?_; rintro e w2 ⟨rfl, hb2⟩; have HX2 := hide3 (HX1.out.trans (hb2.mono HX1.out.size)); clear hb2))
          exact HNO.out _ HNL.out (HB.out.trans (HX2.out.mono HB.out.size))
      · have HNL : Hid (¬ Loads fs) := fun h => hok (by have := (HLD.out h k hlt).1; rw [← HF.out] at this; exact this)
        rw [Bool.not_eq_true] at hok
        rw [hok] at HML
        clear hok
        go_wp2_with (go_at_call 61; refine HML.out.mono ?_; rintro e w1 ⟨rfl, hb1⟩; have HX1 := hide3 (HX.out.trans (hb1.mono HX.out.size)); clear hb1)
        exact HNO.out _ HNL.out (HB.out.trans (HX1.out.mono HB.out.size))
    · obtain rfl : k = fs.length := by omega
      rw [List.take_length] at HD
      have HA' : Hid (∀ i (hi : i < fs.length), okF fs[i] = true ∧ kindD (loadD (fs.take i)) fs[i].1 = 0) := fun i hi => HA.out i hi hi
      clear HA
      obtain ⟨wa, rfl⟩ : ∃ x, x = wr := ⟨wr, rfl⟩
      go_wp2
      go_loopw [40] (fun i wr => ∃ k : Nat, k ≤ fs.length ∧ i = .int .i64 k ∧ Below wa.heap.size wa wr ∧ ∀ j (hj : j < fs.length), j < k → parentD (loadD fs) fs[j].1 = 0) (fun i _ => fs.length - (intOf i).toNat)
      case atStart => exact ⟨0, Nat.zero_le _, rfl, Below.refl _ _, fun j hj h => absurd h (Nat.not_lt_zero _)⟩
      case round =>
        obtain ⟨j, hj, rfl, hbq, hpar⟩ := hrel
        have HBQ := hide3 hbq
        have HPR := hide3 hpar
        have HBW := hide3 (HB.out.trans (hbq.mono HB.out.size))
        clear hbq hpar
        by_cases hlt2 : j < fs.length
        · obtain ⟨f, hf⟩ : ∃ f, f = fs[j] := ⟨_, rfl⟩
          have HF := hide3 hf
          obtain ⟨p, c, t⟩ := f
          have hcs := HC.out j hlt2
          rw [← hf] at hcs
          obtain ⟨a0, a1, a2⟩ := hcs
          have b0 := (HBW.out.cell (p := ⟨g, off + j * 3, none⟩) hg).trans a0
          have b1 := (HBW.out.cell (p := ⟨g, off + j * 3 + 1, none⟩) hg).trans a1
          have b2 := (HBW.out.cell (p := ⟨g, off + j * 3 + 1 + 1, none⟩) hg).trans a2
          have hop : okPath p = true := by
            have := (HA'.out j hlt2).1
            rw [← hf] at this
            exact okF_path this
          clear hf a0 a1 a2
          have HX := hide3 (HBQ.out.trans ((alloc_below wr (.cells #[.string p, .bool c, .string t] 83)).mono HBQ.out.size))
          have HPF : Hid (∀ W, Below wa.heap.size wa W → Calls Tryz.prog 62 #[.pointer (some ⟨w.heap.size + 1, 0, none⟩), .string p] W fun e w' => e = .returned (.int .i64 (parentD (loadD fs) p)) ∧ Below W.heap.size W w') := fun W hb => parentFault_any (HD.out.below hb) p hop
          clear hop
          by_cases hp0 : parentD (loadD fs) p = 0
          · rw [hp0] at HPF
            have HP0 := hide3 hp0
            clear hp0
            go_wp2_with (go_at_call 62; refine (HPF.out _ HX.out).mono ?_; rintro e w2 ⟨rfl, hb2⟩; have HX2 := hide3 (HX.out.trans (hb2.mono HX.out.size)); clear hb2)
            refine ⟨⟨j + 1, by omega, by go_num, HX2.out, fun i hi hij => ?_⟩, by simp [intOf]; omega⟩
            by_cases e : i = j
            · subst e
              rw [← HF.out]
              exact HP0.out
            · exact HPR.out i hi (by omega)
          · have HNL : Hid (¬ Loads fs) := fun h => hp0 (by have := HLP.out h j hlt2; rw [← HF.out] at this; exact this)
            have hk0 : (parentD (loadD fs) p == 0) = false := by simpa using hp0
            generalize parentD (loadD fs) p = pd at *
            clear hp0
            go_wp2_with (go_at_call 62; refine (HPF.out _ HX.out).mono ?_; rintro e w2 ⟨rfl, hb2⟩; have HX2 := hide3 (HX.out.trans (hb2.mono HX.out.size)); clear hb2)
            exact HNO.out _ HNL.out (HB.out.trans (HX2.out.mono HB.out.size))
        · obtain rfl : j = fs.length := by omega
          go_wp2
          exact HYES.out _ n (HLI.out HA'.out fun i hi => HPR.out i hi hi) HBW.out hn (HD.out.below HBQ.out)

set_option maxHeartbeats 1000000 in
theorem Load_nil (ao : Option Addr) (cap : Nat) (w : World) : Calls Tryz.prog 26 #[.slice ao 0 cap] w (LoadQ w []) := by
  have HYES : Hid (LoadQ w [] (.returned (.tuple #[.pointer (some ⟨w.heap.size + 1, 0, none⟩), .int .i64 0])) (wNew w)) := ⟨new_below w, Or.inl ⟨⟨fun i hi => absurd hi (Nat.not_lt_zero _), fun i hi => absurd hi (Nat.not_lt_zero _)⟩, rfl, 0, Nat.le_refl _, new_is (Nat.le_refl _)⟩⟩
  generalize LoadQ w [] = HQ at *
  go_enter Tryz.func26, Tryz.ntmps26
  go_wp2_with (go_at_call 60; refine (New_any _).mono ?_; rintro e w1 ⟨rfl, rfl⟩)
  go_loop [12] (fun i => i = .int .i64 0) (fun _ => 0)
  case atStart => rfl
  case round =>
    obtain rfl := hrel
    go_wp2
    go_loop [40] (fun i => i = .int .i64 0) (fun _ => 0)
    case atStart => rfl
    case round =>
      obtain rfl := hrel
      go_wp2
      exact HYES.out

/-- A list of files that lies in memory, or is empty. -/
def IsFiles (w : World) (a : Option Addr) (fs : List Fl) : Prop := fs = [] ∨ ∃ g off, a = some ⟨g, off, none⟩ ∧ g < w.heap.size ∧ FilesAt w g off fs

theorem IsFiles.below {w w' : World} {a : Option Addr} {fs : List Fl} (h : IsFiles w a fs) (hb : Below w.heap.size w w') : IsFiles w' a fs := by
  rcases h with h | ⟨g, off, rfl, hg, hc⟩
  · exact Or.inl h
  · refine Or.inr ⟨g, off, rfl, Nat.lt_of_lt_of_le hg hb.size, fun k hk => ?_⟩
    obtain ⟨a0, a1, a2⟩ := hc k hk
    exact ⟨cell_below a0 hb, cell_below a1 hb, cell_below a2 hb⟩

theorem Load_any (fs : List Fl) (a : Option Addr) (cap : Nat) (m : Int) (w : World) (hm : w.cell? ⟨0, 0, none⟩ = some (.int .i64 m)) (hlen : fs.length ≤ 2199023255551)
    (hc : IsFiles w a fs) (hz : ∀ f ∈ fs, f.1.size ≤ maxLen ∧ f.2.2.size ≤ maxLen) : Calls Tryz.prog 26 #[.slice a fs.length cap] w (LoadQ w fs) := by
  rcases hc with rfl | ⟨g, off, rfl, hg, hc⟩
  · exact Load_nil a cap w
  · exact Load_some fs g off cap m w hm hg hlen hc hz

theorem row_form {w : World} {B t sz n : Nat} {v : Value} {xs : List Value} (h : w.ownsRow B t sz v n xs) : ∃ ao cap, v = .slice ao n cap := by
  rcases h.2 with ⟨rfl, h0⟩ | ⟨g, cap, cur, rfl, _⟩
  · exact ⟨none, 0, by rw [h0]⟩
  · exact ⟨some ⟨g, 0, none⟩, cap, rfl⟩
end Go.Proofs.YtpaoimhebheaeaaGreatDoor.Dk
