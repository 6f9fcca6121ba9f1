/- The reference's Write, Read, Cut and Up: each answers, and leaves its disk, as the plain function says. -/
import Derived.Test.YtpkllhgohkgcmaaGreatDoorSound1
import Derived.Deep.RegionHeld3
namespace Go.Proofs.YtpkllhgohkgcmaaGreatDoor
open Go.RowKit Go.Maps
set_option maxRecDepth 100000

set_option maxHeartbeats 1000000 in
theorem rWrite_any {B : Nat} {w : World} {e : Nat} {lv rv : Value} {x : Ab} (h : FitR B w e lv rv x) (s t : ByteArray) (hs : s.size ≤ maxLen) (hG : Good (writeFD x s t).2.D) :
    Calls Tryz.prog 47 #[.pointer (some ⟨e, 0, none⟩), .string s, .string t] w fun e' w' => e' = .returned (.int .i64 (writeFD x s t).1) ∧ AfterR B w w' e lv rv (filesD (writeFD x s t).2.D) (writeFD x s t).2.rs (writeFD x s t).2.left := by
  have hm := may_any h.ref s hs
  by_cases h0 : (writeD x.left [s] != 0) = true
  · have HE : Hid (writeFD x s t = (writeD x.left [s], x)) := by unfold Hid writeFD; rw [if_pos h0]
    have HA := hide3 (AfterR.same h.ref)
    clear h hG
    generalize writeD x.left [s] = e0 at *
    go_enter Tryz.func47, Tryz.ntmps47
    go_wp2_with (go_at_call 62; refine hm.mono ?_; rintro e w1 ⟨rfl, rfl⟩)
    go_ret
    rw [HE.out]
    exact ⟨rfl, HA.out⟩
  rw [Bool.not_eq_true] at h0
  have hok : okPath s = true := by simpa using writeD_ok h0
  have hh := home_any h.ref h.good s (Nat.le_of_lt h.room) hok
  have hk := rKind_any h.ref h.good s (Nat.le_of_lt h.room)
  by_cases h1 : (parentD x.D s != 0) = true
  · have hf : fileD x.D s = parentD x.D s := by unfold fileD; rw [if_pos h1]
    have HE : Hid (writeFD x s t = (parentD x.D s, x)) := by unfold Hid writeFD; rw [if_neg (by rw [h0]; decide), hf, if_pos h1]
    have HA := hide3 (AfterR.same h.ref)
    clear h hG hk hf
    generalize writeD x.left [s] = e0 at *
    generalize parentD x.D s = e1 at *
    go_enter Tryz.func47, Tryz.ntmps47
    go_wp2_with (first
      | (go_at_call 62; refine hm.mono ?_; rintro e w1 ⟨rfl, rfl⟩)
      | (go_at_call 63; refine hh.mono ?_; rintro e w1 ⟨rfl, rfl⟩))
    go_ret
    rw [HE.out]
    exact ⟨rfl, HA.out⟩
  have hf : fileD x.D s = if (kindD x.D s == 2) = true then 13 else 0 := by unfold fileD; rw [if_neg h1]
  rw [Bool.not_eq_true] at h1
  by_cases h2 : (kindD x.D s == 2) = true
  · have HE : Hid (writeFD x s t = (13, x)) := by unfold Hid writeFD; rw [if_neg (by rw [h0]; decide), hf, if_pos h2, if_pos (by decide)]
    have HA := hide3 (AfterR.same h.ref)
    clear h hG hf
    generalize writeD x.left [s] = e0 at *
    generalize parentD x.D s = e1 at *
    generalize kindD x.D s = e2 at *
    go_enter Tryz.func47, Tryz.ntmps47
    go_wp2_with (first
      | (go_at_call 62; refine hm.mono ?_; rintro e w1 ⟨rfl, rfl⟩)
      | (go_at_call 63; refine hh.mono ?_; rintro e w1 ⟨rfl, rfl⟩)
      | (go_at_call 27; refine hk.mono ?_; rintro e w1 ⟨rfl, rfl⟩))
    go_ret
    rw [HE.out]
    exact ⟨rfl, HA.out⟩
  have he : writeFD x s t = (0, noteAb { D := x.D.put (keyD s) (itemD false t), rs := x.rs, left := x.left } (2, s, ByteArray.empty)) := by
    unfold writeFD; rw [if_neg (by rw [h0]; decide), hf, if_neg h2, if_neg (by decide)]
  rw [Bool.not_eq_true] at h2
  have hpn := put_noted h s false t false 2 s ByteArray.empty _ (put_files h.good h.map (by rw [he] at hG; exact hG))
  have HE := hide3 he
  clear h hG he hf
  generalize writeD x.left [s] = e0 at *
  generalize parentD x.D s = e1 at *
  generalize kindD x.D s = e2 at *
  go_enter Tryz.func47, Tryz.ntmps47
  go_wp2_with (first
    | (go_at_call 62; refine hm.mono ?_; rintro e w1 ⟨rfl, rfl⟩)
    | (go_at_call 63; refine hh.mono ?_; rintro e w1 ⟨rfl, rfl⟩)
    | (go_at_call 27; refine hk.mono ?_; rintro e w1 ⟨rfl, rfl⟩)
    | (go_at_call 45; refine hpn.mono ?_; rintro e w2 ⟨rfl, hnt⟩; have HNT := hide3 hnt; clear hnt)
    | (go_at_call 64; refine HNT.out.mono ?_; rintro e w3 ⟨rfl, ha⟩))
  go_ret
  rw [HE.out]
  exact ⟨rfl, ha⟩

theorem pathB_root (s : ByteArray) (h : (s.toList == [47]) = true) : pathB s = true := by unfold pathB; rw [h]; rfl
theorem okPath_not_root (s : ByteArray) (h : (s.toList == [47]) = false) : okPath s = pathB s := by unfold okPath; rw [h]; simp
theorem okPath_root (s : ByteArray) (h : (s.toList == [47]) = true) : okPath s = false := by unfold okPath; rw [h]; simp
theorem kindD_root (D : DataW Unit) (s : ByteArray) (h : (s.toList == [47]) = true) : kindD D s = 2 := by unfold kindD; rw [if_pos h]

set_option maxHeartbeats 1000000 in
theorem rRead_any {B : Nat} {w : World} {e : Nat} {lv rv : Value} {D : DataW Unit} {rs : List (Int × ByteArray × ByteArray)} {left : Int} (h : IsRef B w e lv rv (filesD D) rs left) (hD : Good D) (s : ByteArray) (hs : s.size ≤ maxLen) (hlen : (filesD D).length ≤ 2199023255552) :
    Calls Tryz.prog 26 #[.pointer (some ⟨e, 0, none⟩), .string s] w fun e w' => e = .returned (.tuple #[.string (readT D s), .int .i64 (readE D s)]) ∧ Below w.heap.size w w' := by
  have hp := rPath_any s w hs
  have hk := rKind_any h hD s hlen
  have HF : Hid (∀ w1, Below w.heap.size w w1 → Calls Tryz.prog 44 #[.pointer (some ⟨e, 0, none⟩), .string s] w1 fun e w' => e = .returned (.int .i64 (findD (filesD D) s)) ∧ w' = w1) := fun w1 hb => find_any (h.below hb) s hlen
  have c0 := h.c0
  by_cases h1 : (s.toList == [47]) = true
  · have HE : Hid (readE D s = 13) := by unfold Hid readE; rw [if_pos (pathB_root s h1), kindD_root D s h1]; decide
    have HT : Hid (readT D s = ByteArray.empty) := by unfold Hid readT; rw [HE.out]; rfl
    rw [okPath_root s h1] at hp
    rw [kindD_root D s h1] at hk
    clear h
    go_enter Tryz.func26, Tryz.ntmps26
    go_wp2_with (first
      | (go_at_call 43; refine hp.mono ?_; rintro e w1 ⟨rfl, rfl⟩)
      | (go_at_call 27; refine hk.mono ?_; rintro e w1 ⟨rfl, rfl⟩))
    go_ret2
    rw [HE.out, HT.out]
    exact ⟨rfl, Below.refl _ _⟩
  rw [Bool.not_eq_true] at h1
  rw [okPath_not_root s h1] at hp
  by_cases h2 : pathB s = false
  · have HE : Hid (readE D s = 10) := by unfold Hid readE; rw [if_neg (by rw [h2]; decide)]
    have HT : Hid (readT D s = ByteArray.empty) := by unfold Hid readT; rw [HE.out]; rfl
    rw [h2] at hp
    clear h hk
    go_enter Tryz.func26, Tryz.ntmps26
    go_wp2_with (first
      | (go_at_call 43; refine hp.mono ?_; rintro e w1 ⟨rfl, rfl⟩)
      | (go_at_call 27; refine hk.mono ?_; rintro e w1 ⟨rfl, rfl⟩))
    go_ret2
    rw [HE.out, HT.out]
    exact ⟨rfl, Below.refl _ _⟩
  rw [Bool.not_eq_false] at h2
  rw [h2] at hp
  have he : readE D s = if (kindD D s == 0) = true then 12 else if (kindD D s == 2) = true then 13 else 0 := by unfold readE; rw [if_pos h2]
  rcases kindD_cases D s with hk0 | hk0 | hk0
  · have HE : Hid (readE D s = 12) := by unfold Hid; rw [he, hk0]; decide
    have HT : Hid (readT D s = ByteArray.empty) := by unfold Hid readT; rw [HE.out]; rfl
    rw [hk0] at hk
    clear h he
    go_enter Tryz.func26, Tryz.ntmps26
    go_wp2_with (first
      | (go_at_call 43; refine hp.mono ?_; rintro e w1 ⟨rfl, rfl⟩)
      | (go_at_call 27; refine hk.mono ?_; rintro e w1 ⟨rfl, rfl⟩))
    go_ret2
    rw [HE.out, HT.out]
    exact ⟨rfl, Below.refl _ _⟩
  · have HE : Hid (readE D s = 0) := by unfold Hid; rw [he, hk0]; decide
    rw [hk0] at hk
    rcases find_has hD s with ⟨hr, hh⟩ | ⟨k, hkl, hr, hpp, hh, hat⟩
    · exfalso
      unfold kindD at hk0
      rw [if_neg (by rw [h1]; decide), if_neg (by rw [hh]; decide)] at hk0
      cases hk0
    rw [hr] at HF
    have HT : Hid (readT D s = (filesD D)[k].2.2) := by
      unfold Hid readT; rw [HE.out, if_pos (by decide), hat]
      unfold itemD itData
      rfl
    rcases h.lrow.2 with ⟨_, h0⟩ | ⟨g, cap, cur, rfl, _, _, _, _, _, _⟩
    · omega
    obtain ⟨_, _, a2⟩ := file_cells h.lrow k hkl
    generalize (filesD D)[k].2.2 = c at *
    clear h hr hh hat hpp he
    go_enter Tryz.func26, Tryz.ntmps26
    go_wp2_with (first
      | (go_at_call 43; refine hp.mono ?_; rintro e w1 ⟨rfl, rfl⟩)
      | (go_at_call 27; refine hk.mono ?_; rintro e w1 ⟨rfl, rfl⟩))
    go_region_held3 (fun w' => w'.cell? ⟨e, 0, none⟩ = some (.slice (some ⟨g, 0, none⟩) (filesD D).length cap) ∧ w'.cell? ⟨g, k * 3 + 1 + 1, none⟩ = some (.string c)) (go_keep)
      (first | (go_at_call 44; refine (HF.out _ ?_).mono ?_; (first | exact Below.refl _ _ | exact (Below.refl _ _).drew); rintro e w1 ⟨rfl, rfl⟩))
    all_goals go_wp2
    all_goals
      go_ret2
      rw [HE.out, HT.out]
      exact ⟨rfl, (Below.refl _ _).drew⟩
  · have HE : Hid (readE D s = 13) := by unfold Hid; rw [he, hk0]; decide
    have HT : Hid (readT D s = ByteArray.empty) := by unfold Hid readT; rw [HE.out]; rfl
    rw [hk0] at hk
    clear h he
    go_enter Tryz.func26, Tryz.ntmps26
    go_wp2_with (first
      | (go_at_call 43; refine hp.mono ?_; rintro e w1 ⟨rfl, rfl⟩)
      | (go_at_call 27; refine hk.mono ?_; rintro e w1 ⟨rfl, rfl⟩))
    go_ret2
    rw [HE.out, HT.out]
    exact ⟨rfl, Below.refl _ _⟩

/-- What Cut answers and leaves. -/
def cutE (left n : Int) : Int := if (left == 0) = true then 15 else if n < 0 then 1 else 0
def cutL (left n : Int) : Int := if (left == 0) = true then left else if n < 0 then left else n

end Go.Proofs.YtpkllhgohkgcmaaGreatDoor
