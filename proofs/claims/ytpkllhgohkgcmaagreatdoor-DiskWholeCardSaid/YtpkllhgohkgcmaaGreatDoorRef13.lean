/- The reference's Rename. -/
import Derived.Test.YtpkllhgohkgcmaaGreatDoorRef12
import Derived.Deep.RegionHeld3
namespace Go.Proofs.YtpkllhgohkgcmaaGreatDoor
open Go.RowKit Go.Maps
set_option maxRecDepth 100000

set_option maxHeartbeats 2000000 in
theorem rRename_any {B : Nat} {w : World} {e : Nat} {lv rv : Value} {x : Ab} (h : FitR B w e lv rv x) (hP : Plain x.D) (s t : ByteArray) (hs : s.size ≤ maxLen) (ht : t.size ≤ maxLen) (hG : Good (renameD x s t).2.D) :
    Calls Tryz.prog 49 #[.pointer (some ⟨e, 0, none⟩), .string s, .string t] w fun e' w' => e' = .returned (.int .i64 (renameD x s t).1) ∧ AfterR B w w' e lv rv (filesD (renameD x s t).2.D) (renameD x s t).2.rs (renameD x s t).2.left := by
  have hm := may_any h.ref s hs
  have hm2 := may_any h.ref t ht
  have h2w := writeD_two x.left s t
  by_cases h0 : (writeD x.left [s] != 0) = true
  · have HE : Hid (renameD x s t = (writeD x.left [s], x)) := by unfold Hid renameD; rw [h2w, if_pos h0, if_pos h0]
    have HA := hide3 (AfterR.same h.ref)
    clear h hG hP h2w
    generalize writeD x.left [s] = e0 at *
    have tok1 : True := trivial
    have tok2 : True := trivial
    go_enter Tryz.func49, Tryz.ntmps49
    go_wp2_with (go_at_call 62; refine hm.mono ?_; rintro e w1 ⟨rfl, rfl⟩)
    go_ret
    rw [HE.out]
    exact ⟨rfl, HA.out⟩
  rw [if_neg h0] at h2w
  rw [Bool.not_eq_true] at h0
  by_cases h1 : (writeD x.left [t] != 0) = true
  · have HE : Hid (renameD x s t = (writeD x.left [t], x)) := by unfold Hid renameD; rw [h2w, if_pos h1]
    have HA := hide3 (AfterR.same h.ref)
    clear h hG hP h2w
    generalize writeD x.left [s] = e0 at *
    generalize writeD x.left [t] = e1 at *
    have tok1 : True := trivial
    have tok2 : True := trivial
    go_enter Tryz.func49, Tryz.ntmps49
    go_wp2_with (first
      | (go_at_call 62; have _t := tok1; clear _t tok1; refine hm.mono ?_; rintro e w1 ⟨rfl, rfl⟩)
      | (go_at_call 62; refine hm2.mono ?_; rintro e w1 ⟨rfl, rfl⟩))
    go_ret
    rw [HE.out]
    exact ⟨rfl, HA.out⟩
  rw [Bool.not_eq_true] at h1
  have hoks : okPath s = true := by simpa using writeD_ok h0
  have hokt : okPath t = true := by simpa using writeD_ok h1
  have he : renameD x s t = if (readE x.D s != 0) = true then (readE x.D s, x) else if (fileD x.D t != 0) = true then (fileD x.D t, x)
      else (0, noteAb { D := (x.D.del (keyD s)).put (keyD t) (itemD false (readT x.D s)), rs := x.rs, left := x.left } (3, s, t)) := by
    unfold renameD; rw [h2w, if_neg (by rw [h1]; decide)]
  rw [readE_kind hoks] at he
  have hk := rKind_any h.ref h.good s (Nat.le_of_lt h.room)
  have hk2 := rKind_any h.ref h.good t (Nat.le_of_lt h.room)
  have hh := home_any h.ref h.good t (Nat.le_of_lt h.room) hokt
  rcases kindD_cases x.D s with k0 | k0 | k0
  · have HE : Hid (renameD x s t = (12, x)) := by unfold Hid; rw [he, k0]; rfl
    have HA := hide3 (AfterR.same h.ref)
    rw [k0] at hk
    clear h hG hP h2w he hk2 hh
    generalize writeD x.left [s] = e0 at *
    generalize writeD x.left [t] = e1 at *
    have tok1 : True := trivial
    have tok2 : True := trivial
    go_enter Tryz.func49, Tryz.ntmps49
    go_wp2_with (first
      | (go_at_call 62; have _t := tok1; clear _t tok1; refine hm.mono ?_; rintro e w1 ⟨rfl, rfl⟩)
      | (go_at_call 62; refine hm2.mono ?_; rintro e w1 ⟨rfl, rfl⟩)
      | (go_at_call 27; have _t := tok2; clear _t tok2; refine hk.mono ?_; rintro e w1 ⟨rfl, rfl⟩))
    go_ret
    rw [HE.out]
    exact ⟨rfl, HA.out⟩
  · have he' : renameD x s t = if (fileD x.D t != 0) = true then (fileD x.D t, x)
        else (0, noteAb { D := (x.D.del (keyD s)).put (keyD t) (itemD false (readT x.D s)), rs := x.rs, left := x.left } (3, s, t)) := by rw [he, k0]; rfl
    by_cases h3 : (parentD x.D t != 0) = true
    · have hf : fileD x.D t = parentD x.D t := by unfold fileD; rw [if_pos h3]
      have HE : Hid (renameD x s t = (parentD x.D t, x)) := by unfold Hid; rw [he', hf, if_pos h3]
      have HA := hide3 (AfterR.same h.ref)
      rw [k0] at hk
      clear h hG hP h2w he hk2 he' hf
      generalize writeD x.left [s] = e0 at *
      generalize writeD x.left [t] = e1 at *
      generalize parentD x.D t = e2 at *
      have tok1 : True := trivial
      have tok2 : True := trivial
      go_enter Tryz.func49, Tryz.ntmps49
      go_wp2_with (first
        | (go_at_call 62; have _t := tok1; clear _t tok1; refine hm.mono ?_; rintro e w1 ⟨rfl, rfl⟩)
        | (go_at_call 62; refine hm2.mono ?_; rintro e w1 ⟨rfl, rfl⟩)
        | (go_at_call 27; have _t := tok2; clear _t tok2; refine hk.mono ?_; rintro e w1 ⟨rfl, rfl⟩)
        | (go_at_call 63; refine hh.mono ?_; rintro e w1 ⟨rfl, rfl⟩))
      go_ret
      rw [HE.out]
      exact ⟨rfl, HA.out⟩
    have hf : fileD x.D t = if (kindD x.D t == 2) = true then 13 else 0 := by unfold fileD; rw [if_neg h3]
    rw [Bool.not_eq_true] at h3
    by_cases h4 : (kindD x.D t == 2) = true
    · have HE : Hid (renameD x s t = (13, x)) := by unfold Hid; rw [he', hf, if_pos h4, if_pos (by decide)]
      have HA := hide3 (AfterR.same h.ref)
      rw [k0] at hk
      clear h hG hP h2w he he' hf k0
      generalize writeD x.left [s] = e0 at *
      generalize writeD x.left [t] = e1 at *
      generalize parentD x.D t = e2 at *
      generalize kindD x.D t = e3 at *
      have tok1 : True := trivial
      have tok2 : True := trivial
      go_enter Tryz.func49, Tryz.ntmps49
      go_wp2_with (first
        | (go_at_call 62; have _t := tok1; clear _t tok1; refine hm.mono ?_; rintro e w1 ⟨rfl, rfl⟩)
        | (go_at_call 62; refine hm2.mono ?_; rintro e w1 ⟨rfl, rfl⟩)
        | (go_at_call 27; have _t := tok2; clear _t tok2; refine hk.mono ?_; rintro e w1 ⟨rfl, rfl⟩)
        | (go_at_call 27; refine hk2.mono ?_; rintro e w1 ⟨rfl, rfl⟩)
        | (go_at_call 63; refine hh.mono ?_; rintro e w1 ⟨rfl, rfl⟩))
      go_ret
      rw [HE.out]
      exact ⟨rfl, HA.out⟩
    have he3 : renameD x s t = (0, noteAb { D := (x.D.del (keyD s)).put (keyD t) (itemD false (readT x.D s)), rs := x.rs, left := x.left } (3, s, t)) := by
      rw [he', hf, if_neg h4, if_neg (by decide)]
    rw [Bool.not_eq_true] at h4
    have hG' : Good ((x.D.del (keyD s)).put (keyD t) (itemD false (readT x.D s))) := by rw [he3] at hG; exact hG
    have hns : (s.toList == [47]) = false := by
      unfold okPath at hoks
      simp only [Bool.and_eq_true, Bool.not_eq_true'] at hoks
      exact hoks.2
    rcases find_has h.good s with ⟨hr, hhs⟩ | ⟨k, hkl, hr, hpp, hhs, hat⟩
    · exfalso
      unfold kindD at k0
      rw [if_neg (by rw [hns]; decide), if_neg (by rw [hhs]; decide)] at k0
      cases k0
    have hdir : (filesD x.D)[k].2.1 = false := by
      unfold kindD at k0
      rw [if_neg (by rw [hns]; decide), if_pos hhs, hat, itDir_mk] at k0
      by_cases q : (filesD x.D)[k].2.1 = true
      · rw [if_pos q] at k0; cases k0
      · simpa using q
    have htx : readT x.D s = (filesD x.D)[k].2.2 := by
      unfold readT
      rw [readE_kind hoks, k0, hat]
      rfl
    have HF : Hid (∀ w1, Below w.heap.size w w1 → Calls Tryz.prog 44 #[.pointer (some ⟨e, 0, none⟩), .string s] w1 fun e w' => e = .returned (.int .i64 k) ∧ w' = w1) := fun w1 hb => by
      have := find_any (h.ref.below hb) s (Nat.le_of_lt h.room)
      rw [hr] at this
      exact this
    have hlen := h.room
    have c0 := h.ref.c0
    rcases h.ref.lrow.2 with ⟨_, hz⟩ | ⟨g, cap, cur, rfl, _, _, _, _, _, _⟩
    · omega
    obtain ⟨a0, a1, a2⟩ := file_cells h.ref.lrow k hkl
    rw [hpp] at a0
    rw [hdir] at a1
    rw [← htx] at a2
    have HMV := hide3 (move_noted h hP s t false (readT x.D s) hG')
    have HE := hide3 he3
    have hkl' : (k : Int) < (filesD x.D).length := by omega
    have hk0 : (0 : Int) ≤ (k : Int) := by omega
    rw [k0] at hk
    clear h hG hP h2w he he' hf k0 he3 hG' hr hhs hat hpp htx hdir
    generalize readT x.D s = u at *
    generalize writeD x.left [s] = e0 at *
    generalize writeD x.left [t] = e1 at *
    generalize parentD x.D t = e2 at *
    generalize kindD x.D t = e3 at *
    have tok1 : True := trivial
    have tok2 : True := trivial
    go_enter Tryz.func49, Tryz.ntmps49
    go_wp2_with (first
      | (go_at_call 62; have _t := tok1; clear _t tok1; refine hm.mono ?_; rintro e w1 ⟨rfl, rfl⟩)
      | (go_at_call 62; refine hm2.mono ?_; rintro e w1 ⟨rfl, rfl⟩)
      | (go_at_call 27; have _t := tok2; clear _t tok2; refine hk.mono ?_; rintro e w1 ⟨rfl, rfl⟩)
      | (go_at_call 27; refine hk2.mono ?_; rintro e w1 ⟨rfl, rfl⟩)
      | (go_at_call 63; refine hh.mono ?_; rintro e w1 ⟨rfl, rfl⟩))
    go_region_held3 (fun w' => w'.cell? ⟨e, 0, none⟩ = some (.slice (some ⟨g, 0, none⟩) (filesD x.D).length cap) ∧ w'.cell? ⟨g, k * 3, none⟩ = some (.string s) ∧ w'.cell? ⟨g, k * 3 + 1, none⟩ = some (.bool false) ∧ w'.cell? ⟨g, k * 3 + 1 + 1, none⟩ = some (.string u)) (go_keep)
      (first | (go_at_call 44; refine (HF.out _ ?_).mono ?_; (first | exact Below.refl _ _ | exact (Below.refl _ _).drew | exact ((Below.refl _ _).alloc (Nat.le_refl _) _).drew); rintro e w1 ⟨rfl, rfl⟩))
    all_goals have tok3 : True := trivial
    all_goals go_wp2_with (first
      | (go_at_call 45; have _t := tok3; clear _t tok3; refine HMV.out.mono ?_; rintro e w2 ⟨rfl, ⟨q0, q1, q2, q3⟩, hnt⟩; have HNT := hide3 hnt; clear hnt)
      | (go_at_call 45; refine HNT.out.mono ?_; rintro e w3 ⟨rfl, hnt2⟩; have HNT2 := hide3 hnt2; clear hnt2)
      | (go_at_call 64; refine HNT2.out.mono ?_; rintro e w4 ⟨rfl, ha⟩))
    all_goals
      go_ret
      rw [HE.out]
      exact ⟨rfl, ha⟩
  · have HE : Hid (renameD x s t = (13, x)) := by unfold Hid; rw [he, k0]; rfl
    have HA := hide3 (AfterR.same h.ref)
    rw [k0] at hk
    clear h hG hP h2w he hk2 hh
    generalize writeD x.left [s] = e0 at *
    generalize writeD x.left [t] = e1 at *
    have tok1 : True := trivial
    have tok2 : True := trivial
    go_enter Tryz.func49, Tryz.ntmps49
    go_wp2_with (first
      | (go_at_call 62; have _t := tok1; clear _t tok1; refine hm.mono ?_; rintro e w1 ⟨rfl, rfl⟩)
      | (go_at_call 62; refine hm2.mono ?_; rintro e w1 ⟨rfl, rfl⟩)
      | (go_at_call 27; have _t := tok2; clear _t tok2; refine hk.mono ?_; rintro e w1 ⟨rfl, rfl⟩))
    go_ret
    rw [HE.out]
    exact ⟨rfl, HA.out⟩

end Go.Proofs.YtpkllhgohkgcmaaGreatDoor
