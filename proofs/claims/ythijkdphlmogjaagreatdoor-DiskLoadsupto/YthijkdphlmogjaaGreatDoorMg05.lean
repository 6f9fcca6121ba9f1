/- Sound1, Ref10, Ref11, Ref12, Ref13, List1, laid in one text. -/
import Derived.Deep.RegionHeld3
import Derived.Sort.OwnSorted
import Derived.Sort.KeysCollected
import Derived.Test.YthijkdphlmogjaaGreatDoorMg04
namespace Go.Proofs.YthijkdphlmogjaaGreatDoor
open Go.RowKit Go.Maps
set_option maxRecDepth 100000

/-- Each path's parent is the root or a directory. -/
def Sound (D : DataW Unit) : Prop := ∀ s, Maps.has D (keyD s) = true → kindD D (parentOf s) = 2

theorem parent_ne {s : ByteArray} (h : okPath s = true) : parentOf s ≠ s := by
  obtain ⟨i, hi, he, _, _⟩ := last_at (okPath_parts h).2
  unfold parentOf
  rw [he]
  intro e
  by_cases h0 : (i : Int) = 0
  · rw [if_pos h0] at e
    unfold okPath at h
    rw [← e] at h
    simp only [Bool.and_eq_true] at h
    exact absurd h.2 (by decide +kernel)
  · rw [if_neg h0] at e
    have := congrArg ByteArray.size e
    rw [ByteArray.size_extract] at this
    simp only [Int.toNat_natCast] at this
    omega

theorem kind_put_other {D : DataW Unit} {s q : ByteArray} {v : DataW Unit} (h : q ≠ s) : kindD (D.put (keyD s) v) q = kindD D q := by
  have hk : keyD q ≠ keyD s := fun e => h (keyD_inj e)
  unfold kindD
  rw [has_put_other hk, atKey_put_other hk]
theorem kind_del_other {D : DataW Unit} {s q : ByteArray} (h : q ≠ s) : kindD (D.del (keyD s)) q = kindD D q := by
  have hk : keyD q ≠ keyD s := fun e => h (keyD_inj e)
  unfold kindD
  rw [has_del_other hk, atKey_del_other hk]

theorem sound_put {D : DataW Unit} (hS : Sound D) {s : ByteArray} {v : DataW Unit} (hok : okPath s = true) (hp : kindD D (parentOf s) = 2) (hk : kindD D s ≠ 2) : Sound (D.put (keyD s) v) := by
  intro y hy
  by_cases e : y = s
  · subst e
    rw [kind_put_other (parent_ne hok)]; exact hp
  · rw [has_put_other (fun h => e (keyD_inj h))] at hy
    have h2 := hS y hy
    have : parentOf y ≠ s := fun h => hk (by rw [← h]; exact h2)
    rw [kind_put_other this]; exact h2

theorem sound_del {D : DataW Unit} (hS : Sound D) {s : ByteArray} (hn : ∀ y, Maps.has D (keyD y) = true → parentOf y ≠ s) : Sound (D.del (keyD s)) := by
  intro y hy
  by_cases e : y = s
  · subst e; rw [has_del_same] at hy; cases hy
  · rw [has_del_other (fun h => e (keyD_inj h))] at hy
    rw [kind_del_other (hn y hy)]; exact hS y hy

theorem strKeys_good {D : DataW Unit} (hm : IsMap D) (hG : Good D) (hk : ∀ es, D = .map es → ∀ p ∈ es, WideAt.IsKeyLit p.1) : StrKeys D := by
  obtain ⟨es, rfl⟩ := hm
  refine ⟨es, rfl, fun p hp => ?_⟩
  obtain ⟨s, hs, _⟩ := hG.keys p.1 (by rw [has_eq, List.any_eq_true]; exact ⟨p, hp, WideAt.sameKey_self (hk es rfl p hp)⟩)
  exact ⟨s, hs⟩

theorem used_iff {D : DataW Unit} (hk : StrKeys D) (s : ByteArray) : usedD D s = true ↔ ∃ y, Maps.has D (keyD y) = true ∧ parentOf y = s := by
  unfold usedD
  rw [List.any_eq_true]
  constructor
  · rintro ⟨y, hy, e⟩
    exact ⟨y, (mem_keys hk y).1 hy, beq_bytes.1 e⟩
  · rintro ⟨y, hy, e⟩
    exact ⟨y, (mem_keys hk y).2 hy, beq_bytes.2 e⟩

theorem not_used {D : DataW Unit} (hS : Sound D) (hk : StrKeys D) {s : ByteArray} (h : kindD D s ≠ 2) : usedD D s = false := by
  rw [Bool.eq_false_iff]
  intro hu
  obtain ⟨y, hy, e⟩ := (used_iff hk s).1 hu
  exact h (by rw [← e]; exact hS y hy)

theorem parentD_zero {D : DataW Unit} {s : ByteArray} (h : (parentD D s != 0) = false) : kindD D (parentOf s) = 2 := by
  unfold parentD at h
  rcases kindD_cases D (parentOf s) with k | k | k
  · rw [k] at h; simp at h
  · rw [k] at h; simp at h
  · exact k

theorem fileD_zero {D : DataW Unit} {s : ByteArray} (h : (fileD D s != 0) = false) : kindD D (parentOf s) = 2 ∧ kindD D s ≠ 2 := by
  unfold fileD at h
  by_cases h1 : (parentD D s != 0) = true
  · rw [if_pos h1, h1] at h; cases h
  · rw [if_neg h1] at h
    rw [Bool.not_eq_true] at h1
    refine ⟨parentD_zero h1, fun e => ?_⟩
    rw [e] at h
    simp at h

theorem kind_file {D : DataW Unit} {s : ByteArray} (h : (readE D s != 0) = false) : kindD D s = 1 := by
  unfold readE at h
  split at h
  · rcases kindD_cases D s with k | k | k
    · rw [k] at h; simp at h
    · exact k
    · rw [k] at h; simp at h
  · simp at h

theorem sound_mkdir {x : Ab} (hS : Sound x.D) (s : ByteArray) : Sound (mkdirD x s).2.D := by
  unfold mkdirD
  split
  · exact hS
  · next h0 =>
    split
    · exact hS
    · next h1 =>
      split
      · exact hS
      · next h2 =>
        rw [Bool.not_eq_true] at h0 h1 h2
        have hok : okPath s = true := by simpa using writeD_ok h0
        exact sound_put hS hok (parentD_zero h1) (by rw [bne_eq_false_iff_eq.1 h2]; decide)

theorem sound_write {x : Ab} (hS : Sound x.D) (s t : ByteArray) : Sound (writeFD x s t).2.D := by
  unfold writeFD
  split
  · exact hS
  · next h0 =>
    split
    · exact hS
    · next h1 =>
      rw [Bool.not_eq_true] at h0 h1
      have hok : okPath s = true := by simpa using writeD_ok h0
      exact sound_put hS hok (fileD_zero h1).1 (fileD_zero h1).2

theorem sound_rename {x : Ab} (hS : Sound x.D) (s t : ByteArray) : Sound (renameD x s t).2.D := by
  unfold renameD
  split
  · exact hS
  · next h0 =>
    split
    · exact hS
    · next h1 =>
      split
      · exact hS
      · next h2 =>
        rw [Bool.not_eq_true] at h0 h1 h2
        have hok : okPath s = true ∧ okPath t = true := by simpa using writeD_ok h0
        obtain ⟨hp, hk⟩ := fileD_zero h2
        have hf := kind_file h1
        have hd : Sound (x.D.del (keyD s)) := sound_del hS (fun y hy e => by have := hS y hy; rw [e, hf] at this; cases this)
        have hps : parentOf t ≠ s := fun e => by rw [e, hf] at hp; cases hp
        refine sound_put hd hok.2 (by rw [kind_del_other hps]; exact hp) ?_
        by_cases e : t = s
        · subst e
          unfold kindD
          rw [has_del_same]
          have : ¬ (t.toList == [47]) = true := by
            have h := hok.1
            unfold okPath at h
            simp only [Bool.and_eq_true, Bool.not_eq_true'] at h
            rw [h.2]; decide
          rw [if_neg this, if_neg (by decide)]; decide
        · rw [kind_del_other e]; exact hk

theorem sound_remove {x : Ab} (hS : Sound x.D) (hk : StrKeys x.D) (s : ByteArray) : Sound (removeD x s).2.D := by
  unfold removeD
  split
  · exact hS
  · split
    · exact hS
    · split
      · exact hS
      · next h2 =>
        rw [Bool.not_eq_true] at h2
        refine sound_del hS fun y hy e => ?_
        have hu : usedD x.D s = true := (used_iff hk s).2 ⟨y, hy, e⟩
        have h3 := hS y hy
        rw [e] at h3
        rw [hu, h3] at h2
        simp at h2

end Go.Proofs.YthijkdphlmogjaaGreatDoor
namespace Go.Proofs.YthijkdphlmogjaaGreatDoor
open Go.RowKit Go.Maps
set_option maxRecDepth 100000

set_option maxHeartbeats 1000000 in
theorem rWrite_any {B : Nat} {w : World} {e : Nat} {lv rv : Value} {x : Ab} (h : FitR B w e lv rv x) (s t : ByteArray) (hs : s.size ≤ maxLen) (hG : Good (writeFD x s t).2.D) :
    Calls Tryz.prog 54 #[.pointer (some ⟨e, 0, none⟩), .string s, .string t] w fun e' w' => e' = .returned (.int .i64 (writeFD x s t).1) ∧ AfterR B w w' e lv rv (filesD (writeFD x s t).2.D) (writeFD x s t).2.rs (writeFD x s t).2.left := by
  have hm := may_any h.ref s hs
  by_cases h0 : (writeD x.left [s] != 0) = true
  · have HE : Hid (writeFD x s t = (writeD x.left [s], x)) := by unfold Hid writeFD; rw [if_pos h0]
    have HA := hide3 (AfterR.same h.ref)
    clear h hG
    generalize writeD x.left [s] = e0 at *
    go_enter Tryz.func54, Tryz.ntmps54
    go_wp2_with (go_at_call 66; refine hm.mono ?_; rintro e w1 ⟨rfl, rfl⟩)
    go_ret
    rw [HE.out]
    exact ⟨rfl, HA.out⟩
  rw [Bool.not_eq_true] at h0
  have hok : okPath s = true := by simpa using writeD_ok h0
  have hh := home_any h.ref h.good s (Nat.le_of_lt h.room) hok
  have hk := rKind_any h.ref h.good s (Nat.le_of_lt h.room)
  by_cases h1 : (parentD x.D s != 0) = true
  · have hf : fileD x.D s = parentD x.D s := by unfold fileD; rw [if_pos h1]
    have HE : Hid (writeFD x s t = (parentD x.D s, x)) := by unfold Hid writeFD; rw [if_neg (by rw [h0]; decide), hf, if_pos h1]
    have HA := hide3 (AfterR.same h.ref)
    clear h hG hk hf
    generalize writeD x.left [s] = e0 at *
    generalize parentD x.D s = e1 at *
    go_enter Tryz.func54, Tryz.ntmps54
    go_wp2_with (first
      | (go_at_call 66; refine hm.mono ?_; rintro e w1 ⟨rfl, rfl⟩)
      | (go_at_call 67; refine hh.mono ?_; rintro e w1 ⟨rfl, rfl⟩))
    go_ret
    rw [HE.out]
    exact ⟨rfl, HA.out⟩
  have hf : fileD x.D s = if (kindD x.D s == 2) = true then 13 else 0 := by unfold fileD; rw [if_neg h1]
  rw [Bool.not_eq_true] at h1
  by_cases h2 : (kindD x.D s == 2) = true
  · have HE : Hid (writeFD x s t = (13, x)) := by unfold Hid writeFD; rw [if_neg (by rw [h0]; decide), hf, if_pos h2, if_pos (by decide)]
    have HA := hide3 (AfterR.same h.ref)
    clear h hG hf
    generalize writeD x.left [s] = e0 at *
    generalize parentD x.D s = e1 at *
    generalize kindD x.D s = e2 at *
    go_enter Tryz.func54, Tryz.ntmps54
    go_wp2_with (first
      | (go_at_call 66; refine hm.mono ?_; rintro e w1 ⟨rfl, rfl⟩)
      | (go_at_call 67; refine hh.mono ?_; rintro e w1 ⟨rfl, rfl⟩)
      | (go_at_call 28; refine hk.mono ?_; rintro e w1 ⟨rfl, rfl⟩))
    go_ret
    rw [HE.out]
    exact ⟨rfl, HA.out⟩
  have he : writeFD x s t = (0, noteAb { D := x.D.put (keyD s) (itemD false t), rs := x.rs, left := x.left } (2, s, ByteArray.empty)) := by
    unfold writeFD; rw [if_neg (by rw [h0]; decide), hf, if_neg h2, if_neg (by decide)]
  rw [Bool.not_eq_true] at h2
  have hpn := put_noted h s false t false 2 s ByteArray.empty _ (put_files h.good h.map (by rw [he] at hG; exact hG))
  have HE := hide3 he
  clear h hG he hf
  generalize writeD x.left [s] = e0 at *
  generalize parentD x.D s = e1 at *
  generalize kindD x.D s = e2 at *
  go_enter Tryz.func54, Tryz.ntmps54
  go_wp2_with (first
    | (go_at_call 66; refine hm.mono ?_; rintro e w1 ⟨rfl, rfl⟩)
    | (go_at_call 67; refine hh.mono ?_; rintro e w1 ⟨rfl, rfl⟩)
    | (go_at_call 28; refine hk.mono ?_; rintro e w1 ⟨rfl, rfl⟩)
    | (go_at_call 27; refine hpn.mono ?_; rintro e w2 ⟨rfl, hnt⟩; have HNT := hide3 hnt; clear hnt)
    | (go_at_call 68; refine HNT.out.mono ?_; rintro e w3 ⟨rfl, ha⟩))
  go_ret
  rw [HE.out]
  exact ⟨rfl, ha⟩

theorem pathB_root (s : ByteArray) (h : (s.toList == [47]) = true) : pathB s = true := by unfold pathB; rw [h]; rfl
theorem okPath_not_root (s : ByteArray) (h : (s.toList == [47]) = false) : okPath s = pathB s := by unfold okPath; rw [h]; simp
theorem okPath_root (s : ByteArray) (h : (s.toList == [47]) = true) : okPath s = false := by unfold okPath; rw [h]; simp
theorem kindD_root (D : DataW Unit) (s : ByteArray) (h : (s.toList == [47]) = true) : kindD D s = 2 := by unfold kindD; rw [if_pos h]

set_option maxHeartbeats 1000000 in
theorem rRead_any {B : Nat} {w : World} {e : Nat} {lv rv : Value} {D : DataW Unit} {rs : List (Int × ByteArray × ByteArray)} {left : Int} (h : IsRef B w e lv rv (filesD D) rs left) (hD : Good D) (s : ByteArray) (hs : s.size ≤ maxLen) (hlen : (filesD D).length ≤ 2199023255552) :
    Calls Tryz.prog 33 #[.pointer (some ⟨e, 0, none⟩), .string s] w fun e w' => e = .returned (.tuple #[.string (readT D s), .int .i64 (readE D s)]) ∧ Below w.heap.size w w' := by
  have hp := rPath_any s w hs
  have hk := rKind_any h hD s hlen
  have HF : Hid (∀ w1, Below w.heap.size w w1 → Calls Tryz.prog 26 #[.pointer (some ⟨e, 0, none⟩), .string s] w1 fun e w' => e = .returned (.int .i64 (findD (filesD D) s)) ∧ w' = w1) := fun w1 hb => find_any (h.below hb) s hlen
  have c0 := h.c0
  by_cases h1 : (s.toList == [47]) = true
  · have HE : Hid (readE D s = 13) := by unfold Hid readE; rw [if_pos (pathB_root s h1), kindD_root D s h1]; decide
    have HT : Hid (readT D s = ByteArray.empty) := by unfold Hid readT; rw [HE.out]; rfl
    rw [okPath_root s h1] at hp
    rw [kindD_root D s h1] at hk
    clear h
    go_enter Tryz.func33, Tryz.ntmps33
    go_wp2_with (first
      | (go_at_call 25; refine hp.mono ?_; rintro e w1 ⟨rfl, rfl⟩)
      | (go_at_call 28; refine hk.mono ?_; rintro e w1 ⟨rfl, rfl⟩))
    go_ret2
    rw [HE.out, HT.out]
    exact ⟨rfl, Below.refl _ _⟩
  rw [Bool.not_eq_true] at h1
  rw [okPath_not_root s h1] at hp
  by_cases h2 : pathB s = false
  · have HE : Hid (readE D s = 10) := by unfold Hid readE; rw [if_neg (by rw [h2]; decide)]
    have HT : Hid (readT D s = ByteArray.empty) := by unfold Hid readT; rw [HE.out]; rfl
    rw [h2] at hp
    clear h hk
    go_enter Tryz.func33, Tryz.ntmps33
    go_wp2_with (first
      | (go_at_call 25; refine hp.mono ?_; rintro e w1 ⟨rfl, rfl⟩)
      | (go_at_call 28; refine hk.mono ?_; rintro e w1 ⟨rfl, rfl⟩))
    go_ret2
    rw [HE.out, HT.out]
    exact ⟨rfl, Below.refl _ _⟩
  rw [Bool.not_eq_false] at h2
  rw [h2] at hp
  have he : readE D s = if (kindD D s == 0) = true then 12 else if (kindD D s == 2) = true then 13 else 0 := by unfold readE; rw [if_pos h2]
  rcases kindD_cases D s with hk0 | hk0 | hk0
  · have HE : Hid (readE D s = 12) := by unfold Hid; rw [he, hk0]; decide
    have HT : Hid (readT D s = ByteArray.empty) := by unfold Hid readT; rw [HE.out]; rfl
    rw [hk0] at hk
    clear h he
    go_enter Tryz.func33, Tryz.ntmps33
    go_wp2_with (first
      | (go_at_call 25; refine hp.mono ?_; rintro e w1 ⟨rfl, rfl⟩)
      | (go_at_call 28; refine hk.mono ?_; rintro e w1 ⟨rfl, rfl⟩))
    go_ret2
    rw [HE.out, HT.out]
    exact ⟨rfl, Below.refl _ _⟩
  · have HE : Hid (readE D s = 0) := by unfold Hid; rw [he, hk0]; decide
    rw [hk0] at hk
    rcases find_has hD s with ⟨hr, hh⟩ | ⟨k, hkl, hr, hpp, hh, hat⟩
    · exfalso
      unfold kindD at hk0
      rw [if_neg (by rw [h1]; decide), if_neg (by rw [hh]; decide)] at hk0
      cases hk0
    rw [hr] at HF
    have HT : Hid (readT D s = (filesD D)[k].2.2) := by
      unfold Hid readT; rw [HE.out, if_pos (by decide), hat]
      unfold itemD itData
      rfl
    rcases h.lrow.2 with ⟨_, h0⟩ | ⟨g, cap, cur, rfl, _, _, _, _, _, _⟩
    · omega
    obtain ⟨_, _, a2⟩ := file_cells h.lrow k hkl
    generalize (filesD D)[k].2.2 = c at *
    clear h hr hh hat hpp he
    go_enter Tryz.func33, Tryz.ntmps33
    go_wp2_with (first
      | (go_at_call 25; refine hp.mono ?_; rintro e w1 ⟨rfl, rfl⟩)
      | (go_at_call 28; refine hk.mono ?_; rintro e w1 ⟨rfl, rfl⟩))
    go_region_held3 (fun w' => w'.cell? ⟨e, 0, none⟩ = some (.slice (some ⟨g, 0, none⟩) (filesD D).length cap) ∧ w'.cell? ⟨g, k * 3 + 1 + 1, none⟩ = some (.string c)) (go_keep)
      (first | (go_at_call 26; refine (HF.out _ ?_).mono ?_; (first | exact Below.refl _ _ | exact (Below.refl _ _).drew); rintro e w1 ⟨rfl, rfl⟩))
    all_goals go_wp2
    all_goals
      go_ret2
      rw [HE.out, HT.out]
      exact ⟨rfl, (Below.refl _ _).drew⟩
  · have HE : Hid (readE D s = 13) := by unfold Hid; rw [he, hk0]; decide
    have HT : Hid (readT D s = ByteArray.empty) := by unfold Hid readT; rw [HE.out]; rfl
    rw [hk0] at hk
    clear h he
    go_enter Tryz.func33, Tryz.ntmps33
    go_wp2_with (first
      | (go_at_call 25; refine hp.mono ?_; rintro e w1 ⟨rfl, rfl⟩)
      | (go_at_call 28; refine hk.mono ?_; rintro e w1 ⟨rfl, rfl⟩))
    go_ret2
    rw [HE.out, HT.out]
    exact ⟨rfl, Below.refl _ _⟩

/-- What Cut answers and leaves. -/
def cutE (left n : Int) : Int := if (left == 0) = true then 15 else if n < 0 then 1 else 0
def cutL (left n : Int) : Int := if (left == 0) = true then left else if n < 0 then left else n

end Go.Proofs.YthijkdphlmogjaaGreatDoor
namespace Go.Proofs.YthijkdphlmogjaaGreatDoor
open Go.RowKit Go.Maps
set_option maxRecDepth 100000

/-- A map's datum: entries by rising paths, each an item. -/
def Plain (D : DataW Unit) : Prop := ∃ es, D = .map es ∧ es.Pairwise (fun p q => p.1.before q.1 = true) ∧ ∀ p ∈ es, ∃ s c t, p = (keyD s, itemD c t) ∧ okPath s = true

theorem IsDisk.plain {B : Nat} {w : World} {d mb n : Nat} {rv : Value} {x : Ab} (h : IsDisk B w d mb n rv x) : Plain x.D := by
  obtain ⟨es, he, hr, _, hf⟩ := own_entries h.own
  refine ⟨es, he, hr, fun p hp => ?_⟩
  obtain ⟨s, c, t, rfl⟩ := hf p hp
  obtain ⟨s', hs, hok⟩ := h.keys (keyD s) (by rw [he, has_eq, List.any_eq_true]; exact ⟨_, hp, WideAt.sameKey_self (isKey s)⟩)
  rw [← keyD_inj hs] at hok
  exact ⟨s, c, t, rfl, hok⟩

theorem Plain.isMap {D : DataW Unit} (h : Plain D) : IsMap D := by obtain ⟨es, rfl, _⟩ := h; exact ⟨es, rfl⟩
theorem Plain.strKeys {D : DataW Unit} (h : Plain D) : StrKeys D := by
  obtain ⟨es, rfl, _, hf⟩ := h
  exact ⟨es, rfl, fun p hp => by obtain ⟨s, c, t, rfl, _⟩ := hf p hp; exact ⟨s, rfl⟩⟩
theorem Plain.del {D : DataW Unit} (h : Plain D) (k : Lit) : Plain (D.del k) := by
  obtain ⟨es, rfl, hr, hf⟩ := h
  exact ⟨_, rfl, hr.filter _, fun p hp => hf p (List.mem_filter.1 hp).1⟩

theorem Plain.good {D : DataW Unit} (h : Plain D) : Good D := by
  obtain ⟨es, rfl, hr, hf⟩ := h
  have hap := apart_of_rising hr
  have hit : ∀ s, Maps.has (.map es : DataW Unit) (keyD s) = true → ∃ c t, DataW.atKey (.map es) (keyD s) zeroD = itemD c t ∧ (keyD s, itemD c t) ∈ es ∧ okPath s = true := by
    intro s hs
    rw [has_eq, List.any_eq_true] at hs
    obtain ⟨p, hp, hk⟩ := hs
    obtain ⟨s', c, t, rfl, hok⟩ := hf p hp
    have es' : s' = s := (sameKey_keyD _ _).1 hk
    subst es'
    exact ⟨c, t, WideAt.atKey_mem zeroD (isKey s') hap hp, hp, hok⟩
  refine ⟨?_, fun f => ?_, fun s hs => ?_, fun kl hk => ?_⟩
  · unfold Rising filesD
    rw [List.pairwise_map]
    refine hr.imp_of_mem fun {p q} hp hq hb => ?_
    obtain ⟨s, c, t, rfl, _⟩ := hf p hp
    obtain ⟨s', c', t', rfl, _⟩ := hf q hq
    simp only [litB_key]
    exact hb
  · unfold filesD
    rw [List.mem_map]
    constructor
    · rintro ⟨p, hp, rfl⟩
      obtain ⟨s, c, t, rfl, _⟩ := hf p hp
      simp only [litB_key, itDir_mk, itData_mk, bytes_mk]
      refine ⟨?_, WideAt.atKey_mem _ (isKey s) hap hp⟩
      rw [has_eq, List.any_eq_true]
      exact ⟨_, hp, WideAt.sameKey_self (isKey s)⟩
    · rintro ⟨h1, h2⟩
      obtain ⟨c, t, hat, hm, _⟩ := hit f.1 h1
      rw [h2] at hat
      refine ⟨_, hm, ?_⟩
      rw [← hat, file_of]
  · obtain ⟨c, t, hat, _, _⟩ := hit s hs
    exact ⟨c, t, hat⟩
  · rw [has_eq, List.any_eq_true] at hk
    obtain ⟨p, hp, hk⟩ := hk
    obtain ⟨s, c, t, rfl, hok⟩ := hf p hp
    exact ⟨s, (WideAt.sameKey_eq hk).symm, hok⟩

theorem used_files {D : DataW Unit} (hP : Plain D) (s : ByteArray) : usedD D s = (filesD D).any fun f => (parentOf f.1).toList == s.toList := by
  obtain ⟨es, rfl, _, _⟩ := hP
  unfold usedD keysD filesD
  rw [List.any_map, List.any_map]
  rfl

set_option maxHeartbeats 400000 in
theorem rCut_any {B : Nat} {w : World} {e : Nat} {lv rv : Value} {fs : List Fl} {rs : List (Int × ByteArray × ByteArray)} {left : Int} (h : IsRef B w e lv rv fs rs left) (k : Int) :
    Calls Tryz.prog 38 #[.pointer (some ⟨e, 0, none⟩), .int .i64 k] w fun e' w' => e' = .returned (.int .i64 (cutE left k)) ∧ IsRef B w' e lv rv fs rs (cutL left k) ∧ Upd (fun j => j = e) w w' := by
  have c2 := h.c2
  have f2 := h.f2
  by_cases h0 : (left == 0) = true
  · have HE : Hid (cutE left k = 15 ∧ cutL left k = left) := by unfold Hid cutE cutL; rw [if_pos h0, if_pos h0]; exact ⟨rfl, rfl⟩
    have HR := hide3 h
    clear h
    go_enter Tryz.func38, Tryz.ntmps38
    go_wp2
    go_ret
    rw [HE.out.1, HE.out.2]
    exact ⟨rfl, HR.out, Upd.refl _ _⟩
  rw [Bool.not_eq_true] at h0
  by_cases h1 : k < 0
  · have HE : Hid (cutE left k = 1 ∧ cutL left k = left) := by unfold Hid cutE cutL; simp [h0, h1]
    have HR := hide3 h
    clear h
    go_enter Tryz.func38, Tryz.ntmps38
    go_wp2
    go_ret
    rw [HE.out.1, HE.out.2]
    exact ⟨rfl, HR.out, Upd.refl _ _⟩
  · have HE : Hid (cutE left k = 0 ∧ cutL left k = k) := by unfold Hid cutE cutL; simp [h0, h1]
    have HR := hide3 (h.setLeft k)
    clear h
    go_enter Tryz.func38, Tryz.ntmps38
    go_wp2
    go_ret
    rw [HE.out.1, HE.out.2]
    exact ⟨rfl, HR.out, Upd.setCell _ ⟨_, 2, none⟩ _⟩

set_option maxHeartbeats 400000 in
theorem rUp_any {B : Nat} {w : World} {e : Nat} {lv rv : Value} {fs : List Fl} {rs : List (Int × ByteArray × ByteArray)} {left : Int} (h : IsRef B w e lv rv fs rs left) :
    Calls Tryz.prog 39 #[.pointer (some ⟨e, 0, none⟩)] w fun e' w' => e' = .returned (.tuple #[]) ∧ IsRef B w' e lv rv fs rs (-1) ∧ Upd (fun j => j = e) w w' := by
  have c2 := h.c2
  have f2 := h.f2
  have HR := hide3 (h.setLeft (-1))
  clear h
  go_enter Tryz.func39, Tryz.ntmps39
  go_wp2
  go_end0
  exact ⟨rfl, HR.out, Upd.setCell _ ⟨_, 2, none⟩ _⟩

end Go.Proofs.YthijkdphlmogjaaGreatDoor
namespace Go.Proofs.YthijkdphlmogjaaGreatDoor
open Go.RowKit Go.Maps
set_option maxRecDepth 100000

set_option maxHeartbeats 1000000 in
theorem rRemove_any {B : Nat} {w : World} {e : Nat} {lv rv : Value} {x : Ab} (h : FitR B w e lv rv x) (hP : Plain x.D) (hS : Sound x.D) (s : ByteArray) (hs : s.size ≤ maxLen) :
    Calls Tryz.prog 56 #[.pointer (some ⟨e, 0, none⟩), .string s] w fun e' w' => e' = .returned (.int .i64 (removeD x s).1) ∧ AfterR B w w' e lv rv (filesD (removeD x s).2.D) (removeD x s).2.rs (removeD x s).2.left := by
  have hm := may_any h.ref s hs
  by_cases h0 : (writeD x.left [s] != 0) = true
  · have HE : Hid (removeD x s = (writeD x.left [s], x)) := by unfold Hid removeD; rw [if_pos h0]
    have HA := hide3 (AfterR.same h.ref)
    clear h hP hS
    generalize writeD x.left [s] = e0 at *
    go_enter Tryz.func56, Tryz.ntmps56
    go_wp2_with (go_at_call 66; refine hm.mono ?_; rintro e w1 ⟨rfl, rfl⟩)
    go_ret
    rw [HE.out]
    exact ⟨rfl, HA.out⟩
  rw [Bool.not_eq_true] at h0
  have hok : okPath s = true := by simpa using writeD_ok h0
  have hk := rKind_any h.ref h.good s (Nat.le_of_lt h.room)
  by_cases h1 : (kindD x.D s == 0) = true
  · have HE : Hid (removeD x s = (12, x)) := by unfold Hid removeD; rw [if_neg (by rw [h0]; decide), if_pos h1]
    have HA := hide3 (AfterR.same h.ref)
    clear h hP hS
    generalize writeD x.left [s] = e0 at *
    generalize kindD x.D s = e2 at *
    go_enter Tryz.func56, Tryz.ntmps56
    go_wp2_with (first
      | (go_at_call 66; refine hm.mono ?_; rintro e w1 ⟨rfl, rfl⟩)
      | (go_at_call 28; refine hk.mono ?_; rintro e w1 ⟨rfl, rfl⟩))
    go_ret
    rw [HE.out]
    exact ⟨rfl, HA.out⟩
  have hu : (kindD x.D s == 2 && usedD x.D s) = usedD x.D s := by
    by_cases h2 : kindD x.D s = 2
    · rw [h2]; rfl
    · rw [not_used hS hP.strKeys h2]; simp
  have he : removeD x s = if usedD x.D s = true then (14, x) else (0, noteAb { D := x.D.del (keyD s), rs := x.rs, left := x.left } (4, s, ByteArray.empty)) := by
    unfold removeD; rw [if_neg (by rw [h0]; decide), if_neg h1, hu]
  rw [used_files hP] at he
  rw [Bool.not_eq_true] at h1
  have HE := hide3 he
  have HA := hide3 (AfterR.same h.ref)
  have HPN := hide3 (put_noted h s false ByteArray.empty true 4 s ByteArray.empty _ (del_files (f := (s, false, ByteArray.empty)) h.good (hP.del _).good))
  have c0 := h.ref.c0
  have hlen := h.room
  have HO : Hid (∀ f ∈ filesD x.D, okPath f.1 = true) := fun f hf => by
    obtain ⟨s', hs', hok'⟩ := h.good.keys _ ((h.good.mem f).1 hf).1
    rw [keyD_inj hs']; exact hok'
  rcases h.ref.lrow.2 with ⟨rfl, hz⟩ | ⟨g, cap, cur, rfl, _, _, _, _, _, _⟩
  · have hF : filesD x.D = [] := List.eq_nil_of_length_eq_zero hz
    have HN : Hid (((filesD x.D).any fun f => (parentOf f.1).toList == s.toList) = false) := by unfold Hid; rw [hF]; rfl
    clear h hP hS hu he hF
    generalize writeD x.left [s] = e0 at *
    generalize kindD x.D s = e2 at *
    go_enter Tryz.func56, Tryz.ntmps56
    go_wp2_with (first
      | (go_at_call 66; refine hm.mono ?_; rintro e w1 ⟨rfl, rfl⟩)
      | (go_at_call 28; refine hk.mono ?_; rintro e w1 ⟨rfl, rfl⟩))
    go_loop [7] (fun i => i = .int .i64 0) (fun _ => 0)
    case atStart => rfl
    case round =>
      subst hrel
      go_wp2_with (first
        | (go_at_call 27; refine HPN.out.mono ?_; rintro e w2 ⟨rfl, hnt⟩; have HNT := hide3 hnt; clear hnt)
        | (go_at_call 68; refine HNT.out.mono ?_; rintro e w3 ⟨rfl, ha⟩))
      go_ret
      rw [HE.out, HN.out]
      exact ⟨rfl, ha⟩
  · have HL := hide3 h.ref.lrow
    have HPA : Hid (∀ (q : ByteArray) , okPath q = true → Calls Tryz.prog 17 #[.string q] w fun e w' => e = .returned (.string (parentOf q)) ∧ w' = w) := fun q hq => rParent_any q w (okPath_size hq) (okPath_parts hq).2
    clear h hP hS hu he
    generalize writeD x.left [s] = e0 at *
    generalize kindD x.D s = e2 at *
    generalize hfs : filesD x.D = fs at *
    have HFS := hide3 hfs
    clear hfs
    go_enter Tryz.func56, Tryz.ntmps56
    go_wp2_with (first
      | (go_at_call 66; refine hm.mono ?_; rintro e w1 ⟨rfl, rfl⟩)
      | (go_at_call 28; refine hk.mono ?_; rintro e w1 ⟨rfl, rfl⟩))
    go_loop [7] (fun i => ∃ k : Nat, k ≤ fs.length ∧ i = .int .i64 k ∧ ∀ j (hj : j < k) (hj' : j < fs.length), ((parentOf fs[j].1).toList == s.toList) = false) (fun i => fs.length - (intOf i).toNat)
    case atStart => exact ⟨0, Nat.zero_le _, rfl, fun j hj => absurd hj (Nat.not_lt_zero _)⟩
    case round =>
      obtain ⟨k, hk', rfl, hall⟩ := hrel
      have HALL := hide3 hall
      clear hall
      by_cases hlt : k < fs.length
      · obtain ⟨a0, _, _⟩ := file_cells HL.out k hlt
        have hpa := HPA.out fs[k].1 (HO.out _ (List.getElem_mem hlt))
        by_cases hc : ((parentOf fs[k].1).toList == s.toList) = true
        · have HN : Hid ((fs.any fun f => (parentOf f.1).toList == s.toList) = true) := List.any_eq_true.2 ⟨_, List.getElem_mem hlt, hc⟩
          generalize parentOf fs[k].1 = pq at *
          generalize fs[k].1 = fp at *
          go_wp2_with (go_at_call 17; refine hpa.mono ?_; rintro e w1 ⟨rfl, rfl⟩)
          go_ret
          rw [HE.out, HN.out, if_pos rfl, HFS.out]
          exact ⟨rfl, HA.out⟩
        · rw [Bool.not_eq_true] at hc
          have HC := hide3 hc
          obtain ⟨pq, hpq⟩ : ∃ pq, pq = parentOf fs[k].1 := ⟨_, rfl⟩
          obtain ⟨fp, hfp⟩ : ∃ fp, fp = fs[k].1 := ⟨_, rfl⟩
          rw [← hpq] at hc hpa
          rw [← hfp] at a0 hpa
          clear hfp hpq
          go_wp2_with (go_at_call 17; refine hpa.mono ?_; rintro e w1 ⟨rfl, rfl⟩)
          refine ⟨⟨k + 1, by omega, by go_num, fun j hj hj' => ?_⟩, by simp [intOf]; omega⟩
          by_cases ej : j = k
          · subst ej; exact HC.out
          · exact HALL.out j (by omega) hj'
      · have HN : Hid ((fs.any fun f => (parentOf f.1).toList == s.toList) = false) := by
          unfold Hid
          rw [Bool.eq_false_iff]
          intro hany
          obtain ⟨f, hf, hc⟩ := List.any_eq_true.1 hany
          obtain ⟨j, hj, rfl⟩ := List.getElem_of_mem hf
          have := HALL.out j (by omega) hj
          rw [hc] at this
          cases this
        go_wp2_with (first
          | (go_at_call 27; refine HPN.out.mono ?_; rintro e w2 ⟨rfl, hnt⟩; have HNT := hide3 hnt; clear hnt)
          | (go_at_call 68; refine HNT.out.mono ?_; rintro e w3 ⟨rfl, ha⟩))
        go_ret
        rw [HE.out, HN.out]
        exact ⟨rfl, ha⟩

/-- put, a store into the variable, put, then noted: as Rename does it. -/
theorem move_noted {B : Nat} {w : World} {e : Nat} {lv rv : Value} {x : Ab} (h : FitR B w e lv rv x) (hP : Plain x.D) (s t : ByteArray) (c : Bool) (u : ByteArray) (hG : Good ((x.D.del (keyD s)).put (keyD t) (itemD c u))) :
    Calls Tryz.prog 27 #[.pointer (some ⟨e, 0, none⟩), .agg #[.string s, .bool c, .string u], .bool true] (w.alloc (.cells #[.string s, .bool c, .string u] 47)).drew fun e' w1 => e' = .returned (.tuple #[]) ∧
      (w1.cell? ⟨w.heap.size, 0, none⟩ = some (.string s) ∧ w1.cell? ⟨w.heap.size, 1, none⟩ = some (.bool c) ∧ w1.cell? ⟨w.heap.size, 2, none⟩ = some (.string u) ∧ w1.frozen? ⟨w.heap.size, 0, none⟩ = false) ∧
      Calls Tryz.prog 27 #[.pointer (some ⟨e, 0, none⟩), .agg #[.string t, .bool c, .string u], .bool false] (w1.setCell ⟨w.heap.size, 0, none⟩ (.string t)) fun e' w2 => e' = .returned (.tuple #[]) ∧
        Calls Tryz.prog 68 #[.pointer (some ⟨e, 0, none⟩), .int .i64 3, .string s, .string t] w2 fun e' w' => e' = .returned (.int .i64 0) ∧ AfterR B w w' e lv rv (filesD ((x.D.del (keyD s)).put (keyD t) (itemD c u))) (x.rs ++ [(3, s, t)]) (leftNext x.left) := by
  have hd := hP.del (keyD s)
  have hdf := del_files (f := (s, c, u)) h.good hd.good
  have hb : Below w.heap.size w (w.alloc (.cells #[.string s, .bool c, .string u] 47)).drew := (alloc_below w _).drew
  have hblk : (w.alloc (.cells #[.string s, .bool c, .string u] 47)).drew.heap[w.heap.size]? = some (.cells #[.string s, .bool c, .string u] 47 (0, 0)) := by
    show (w.heap.push _)[w.heap.size]? = _
    rw [Array.getElem?_push, if_pos rfl]
  have hsz : (w.alloc (.cells #[.string s, .bool c, .string u] 47)).drew.heap.size = w.heap.size + 1 := by
    show (w.heap.push _).size = _
    simp
  generalize (w.alloc (.cells #[.string s, .bool c, .string u] 47)).drew = W at *
  refine (put_any (h.ref.below hb) s c u true h.room (Nat.le_trans h.base hb.size)).mono ?_
  rintro e' w1 ⟨rfl, lv1, rv1, h1, hu, hj⟩
  have hfn : ¬ FootR e lv rv w.heap.size := fun hf => by have := (h.ref.foot_lt hf).1; omega
  have hfn1 : ¬ FootR e lv1 rv1 w.heap.size := fun hf => (hj _ hf).elim hfn (fun q => by omega)
  have hblk1 : w1.heap[w.heap.size]? = some (.cells #[.string s, .bool c, .string u] 47 (0, 0)) := by
    rw [hu.block w.heap.size (by omega) hfn]; exact hblk
  refine ⟨rfl, ⟨?_, ?_, ?_, ?_⟩, ?_⟩
  · unfold World.cell?; simp only [hblk1]; rfl
  · unfold World.cell?; simp only [hblk1]; rfl
  · unfold World.cell?; simp only [hblk1]; rfl
  · unfold World.frozen?; simp only [hblk1]; simp
  have hlen : (putD (filesD x.D) (s, c, u) true).length ≤ (filesD x.D).length := by rw [putD_del]; exact List.length_filter_le _ _
  rw [hdf] at h1 hlen
  have hu2 := Upd.setCell w1 ⟨w.heap.size, 0, none⟩ (.string t)
  have h2 := h1.upd hu2 (fun k hk e' => hfn1 (by rw [← (show k = w.heap.size from e')]; exact hk))
  have hf1 : FitR B (w1.setCell ⟨w.heap.size, 0, none⟩ (.string t)) e lv1 rv1 { D := x.D.del (keyD s), rs := x.rs, left := x.left } :=
    { ref := h2, good := hd.good, map := hd.isMap, room := Nat.lt_of_le_of_lt hlen h.room, len := h.len, lo := h.lo, hi := h.hi, base := Nat.le_trans (Nat.le_trans h.base hb.size) (Nat.le_trans hu.size hu2.size) }
  have hu3 : Upd (FootR e lv rv) w (w1.setCell ⟨w.heap.size, 0, none⟩ (.string t)) :=
    ((Upd.of_below hb).trans hu (fun i _ f => f)).trans hu2 (fun i hi f => by have : i = w.heap.size := f; omega)
  refine (put_noted hf1 t c u false 3 s t _ (put_files hd.good hd.isMap hG)).mono ?_
  rintro e' w2 ⟨rfl, hn⟩
  refine ⟨rfl, hn.mono ?_⟩
  rintro e' w' ⟨rfl, ha⟩
  exact ⟨rfl, AfterR.trans hu3 (fun j hf => (hj j hf).imp id (fun q => by have := hb.size; omega)) ha⟩

theorem readE_kind {D : DataW Unit} {s : ByteArray} (h : okPath s = true) : readE D s = if (kindD D s == 0) = true then 12 else if (kindD D s == 2) = true then 13 else 0 := by
  unfold readE
  rw [if_pos (by unfold okPath at h; simp only [Bool.and_eq_true] at h; exact h.1)]

theorem writeD_two (l : Int) (s t : ByteArray) : writeD l [s, t] = if (writeD l [s] != 0) = true then writeD l [s] else writeD l [t] := by
  unfold writeD
  by_cases h0 : (l == 0) = true
  · simp [h0]
  · simp only [h0, List.all_cons, List.all_nil, Bool.and_true]
    cases okPath s <;> simp

end Go.Proofs.YthijkdphlmogjaaGreatDoor
namespace Go.Proofs.YthijkdphlmogjaaGreatDoor
open Go.RowKit Go.Maps
set_option maxRecDepth 100000

set_option maxHeartbeats 2000000 in
theorem rRename_any {B : Nat} {w : World} {e : Nat} {lv rv : Value} {x : Ab} (h : FitR B w e lv rv x) (hP : Plain x.D) (s t : ByteArray) (hs : s.size ≤ maxLen) (ht : t.size ≤ maxLen) (hG : Good (renameD x s t).2.D) :
    Calls Tryz.prog 55 #[.pointer (some ⟨e, 0, none⟩), .string s, .string t] w fun e' w' => e' = .returned (.int .i64 (renameD x s t).1) ∧ AfterR B w w' e lv rv (filesD (renameD x s t).2.D) (renameD x s t).2.rs (renameD x s t).2.left := by
  have hm := may_any h.ref s hs
  have hm2 := may_any h.ref t ht
  have h2w := writeD_two x.left s t
  by_cases h0 : (writeD x.left [s] != 0) = true
  · have HE : Hid (renameD x s t = (writeD x.left [s], x)) := by unfold Hid renameD; rw [h2w, if_pos h0, if_pos h0]
    have HA := hide3 (AfterR.same h.ref)
    clear h hG hP h2w
    generalize writeD x.left [s] = e0 at *
    have tok1 : True := trivial
    have tok2 : True := trivial
    go_enter Tryz.func55, Tryz.ntmps55
    go_wp2_with (go_at_call 66; refine hm.mono ?_; rintro e w1 ⟨rfl, rfl⟩)
    go_ret
    rw [HE.out]
    exact ⟨rfl, HA.out⟩
  rw [if_neg h0] at h2w
  rw [Bool.not_eq_true] at h0
  by_cases h1 : (writeD x.left [t] != 0) = true
  · have HE : Hid (renameD x s t = (writeD x.left [t], x)) := by unfold Hid renameD; rw [h2w, if_pos h1]
    have HA := hide3 (AfterR.same h.ref)
    clear h hG hP h2w
    generalize writeD x.left [s] = e0 at *
    generalize writeD x.left [t] = e1 at *
    have tok1 : True := trivial
    have tok2 : True := trivial
    go_enter Tryz.func55, Tryz.ntmps55
    go_wp2_with (first
      | (go_at_call 66; have _t := tok1; clear _t tok1; refine hm.mono ?_; rintro e w1 ⟨rfl, rfl⟩)
      | (go_at_call 66; refine hm2.mono ?_; rintro e w1 ⟨rfl, rfl⟩))
    go_ret
    rw [HE.out]
    exact ⟨rfl, HA.out⟩
  rw [Bool.not_eq_true] at h1
  have hoks : okPath s = true := by simpa using writeD_ok h0
  have hokt : okPath t = true := by simpa using writeD_ok h1
  have he : renameD x s t = if (readE x.D s != 0) = true then (readE x.D s, x) else if (fileD x.D t != 0) = true then (fileD x.D t, x)
      else (0, noteAb { D := (x.D.del (keyD s)).put (keyD t) (itemD false (readT x.D s)), rs := x.rs, left := x.left } (3, s, t)) := by
    unfold renameD; rw [h2w, if_neg (by rw [h1]; decide)]
  rw [readE_kind hoks] at he
  have hk := rKind_any h.ref h.good s (Nat.le_of_lt h.room)
  have hk2 := rKind_any h.ref h.good t (Nat.le_of_lt h.room)
  have hh := home_any h.ref h.good t (Nat.le_of_lt h.room) hokt
  rcases kindD_cases x.D s with k0 | k0 | k0
  · have HE : Hid (renameD x s t = (12, x)) := by unfold Hid; rw [he, k0]; rfl
    have HA := hide3 (AfterR.same h.ref)
    rw [k0] at hk
    clear h hG hP h2w he hk2 hh
    generalize writeD x.left [s] = e0 at *
    generalize writeD x.left [t] = e1 at *
    have tok1 : True := trivial
    have tok2 : True := trivial
    go_enter Tryz.func55, Tryz.ntmps55
    go_wp2_with (first
      | (go_at_call 66; have _t := tok1; clear _t tok1; refine hm.mono ?_; rintro e w1 ⟨rfl, rfl⟩)
      | (go_at_call 66; refine hm2.mono ?_; rintro e w1 ⟨rfl, rfl⟩)
      | (go_at_call 28; have _t := tok2; clear _t tok2; refine hk.mono ?_; rintro e w1 ⟨rfl, rfl⟩))
    go_ret
    rw [HE.out]
    exact ⟨rfl, HA.out⟩
  · have he' : renameD x s t = if (fileD x.D t != 0) = true then (fileD x.D t, x)
        else (0, noteAb { D := (x.D.del (keyD s)).put (keyD t) (itemD false (readT x.D s)), rs := x.rs, left := x.left } (3, s, t)) := by rw [he, k0]; rfl
    by_cases h3 : (parentD x.D t != 0) = true
    · have hf : fileD x.D t = parentD x.D t := by unfold fileD; rw [if_pos h3]
      have HE : Hid (renameD x s t = (parentD x.D t, x)) := by unfold Hid; rw [he', hf, if_pos h3]
      have HA := hide3 (AfterR.same h.ref)
      rw [k0] at hk
      clear h hG hP h2w he hk2 he' hf
      generalize writeD x.left [s] = e0 at *
      generalize writeD x.left [t] = e1 at *
      generalize parentD x.D t = e2 at *
      have tok1 : True := trivial
      have tok2 : True := trivial
      go_enter Tryz.func55, Tryz.ntmps55
      go_wp2_with (first
        | (go_at_call 66; have _t := tok1; clear _t tok1; refine hm.mono ?_; rintro e w1 ⟨rfl, rfl⟩)
        | (go_at_call 66; refine hm2.mono ?_; rintro e w1 ⟨rfl, rfl⟩)
        | (go_at_call 28; have _t := tok2; clear _t tok2; refine hk.mono ?_; rintro e w1 ⟨rfl, rfl⟩)
        | (go_at_call 67; refine hh.mono ?_; rintro e w1 ⟨rfl, rfl⟩))
      go_ret
      rw [HE.out]
      exact ⟨rfl, HA.out⟩
    have hf : fileD x.D t = if (kindD x.D t == 2) = true then 13 else 0 := by unfold fileD; rw [if_neg h3]
    rw [Bool.not_eq_true] at h3
    by_cases h4 : (kindD x.D t == 2) = true
    · have HE : Hid (renameD x s t = (13, x)) := by unfold Hid; rw [he', hf, if_pos h4, if_pos (by decide)]
      have HA := hide3 (AfterR.same h.ref)
      rw [k0] at hk
      clear h hG hP h2w he he' hf k0
      generalize writeD x.left [s] = e0 at *
      generalize writeD x.left [t] = e1 at *
      generalize parentD x.D t = e2 at *
      generalize kindD x.D t = e3 at *
      have tok1 : True := trivial
      have tok2 : True := trivial
      go_enter Tryz.func55, Tryz.ntmps55
      go_wp2_with (first
        | (go_at_call 66; have _t := tok1; clear _t tok1; refine hm.mono ?_; rintro e w1 ⟨rfl, rfl⟩)
        | (go_at_call 66; refine hm2.mono ?_; rintro e w1 ⟨rfl, rfl⟩)
        | (go_at_call 28; have _t := tok2; clear _t tok2; refine hk.mono ?_; rintro e w1 ⟨rfl, rfl⟩)
        | (go_at_call 28; refine hk2.mono ?_; rintro e w1 ⟨rfl, rfl⟩)
        | (go_at_call 67; refine hh.mono ?_; rintro e w1 ⟨rfl, rfl⟩))
      go_ret
      rw [HE.out]
      exact ⟨rfl, HA.out⟩
    have he3 : renameD x s t = (0, noteAb { D := (x.D.del (keyD s)).put (keyD t) (itemD false (readT x.D s)), rs := x.rs, left := x.left } (3, s, t)) := by
      rw [he', hf, if_neg h4, if_neg (by decide)]
    rw [Bool.not_eq_true] at h4
    have hG' : Good ((x.D.del (keyD s)).put (keyD t) (itemD false (readT x.D s))) := by rw [he3] at hG; exact hG
    have hns : (s.toList == [47]) = false := by
      unfold okPath at hoks
      simp only [Bool.and_eq_true, Bool.not_eq_true'] at hoks
      exact hoks.2
    rcases find_has h.good s with ⟨hr, hhs⟩ | ⟨k, hkl, hr, hpp, hhs, hat⟩
    · exfalso
      unfold kindD at k0
      rw [if_neg (by rw [hns]; decide), if_neg (by rw [hhs]; decide)] at k0
      cases k0
    have hdir : (filesD x.D)[k].2.1 = false := by
      unfold kindD at k0
      rw [if_neg (by rw [hns]; decide), if_pos hhs, hat, itDir_mk] at k0
      by_cases q : (filesD x.D)[k].2.1 = true
      · rw [if_pos q] at k0; cases k0
      · simpa using q
    have htx : readT x.D s = (filesD x.D)[k].2.2 := by
      unfold readT
      rw [readE_kind hoks, k0, hat]
      rfl
    have HF : Hid (∀ w1, Below w.heap.size w w1 → Calls Tryz.prog 26 #[.pointer (some ⟨e, 0, none⟩), .string s] w1 fun e w' => e = .returned (.int .i64 k) ∧ w' = w1) := fun w1 hb => by
      have := find_any (h.ref.below hb) s (Nat.le_of_lt h.room)
      rw [hr] at this
      exact this
    have hlen := h.room
    have c0 := h.ref.c0
    rcases h.ref.lrow.2 with ⟨_, hz⟩ | ⟨g, cap, cur, rfl, _, _, _, _, _, _⟩
    · omega
    obtain ⟨a0, a1, a2⟩ := file_cells h.ref.lrow k hkl
    rw [hpp] at a0
    rw [hdir] at a1
    rw [← htx] at a2
    have HMV := hide3 (move_noted h hP s t false (readT x.D s) hG')
    have HE := hide3 he3
    have hkl' : (k : Int) < (filesD x.D).length := by omega
    have hk0 : (0 : Int) ≤ (k : Int) := by omega
    rw [k0] at hk
    clear h hG hP h2w he he' hf k0 he3 hG' hr hhs hat hpp htx hdir
    generalize readT x.D s = u at *
    generalize writeD x.left [s] = e0 at *
    generalize writeD x.left [t] = e1 at *
    generalize parentD x.D t = e2 at *
    generalize kindD x.D t = e3 at *
    have tok1 : True := trivial
    have tok2 : True := trivial
    go_enter Tryz.func55, Tryz.ntmps55
    go_wp2_with (first
      | (go_at_call 66; have _t := tok1; clear _t tok1; refine hm.mono ?_; rintro e w1 ⟨rfl, rfl⟩)
      | (go_at_call 66; refine hm2.mono ?_; rintro e w1 ⟨rfl, rfl⟩)
      | (go_at_call 28; have _t := tok2; clear _t tok2; refine hk.mono ?_; rintro e w1 ⟨rfl, rfl⟩)
      | (go_at_call 28; refine hk2.mono ?_; rintro e w1 ⟨rfl, rfl⟩)
      | (go_at_call 67; refine hh.mono ?_; rintro e w1 ⟨rfl, rfl⟩))
    go_region_held3 (fun w' => w'.cell? ⟨e, 0, none⟩ = some (.slice (some ⟨g, 0, none⟩) (filesD x.D).length cap) ∧ w'.cell? ⟨g, k * 3, none⟩ = some (.string s) ∧ w'.cell? ⟨g, k * 3 + 1, none⟩ = some (.bool false) ∧ w'.cell? ⟨g, k * 3 + 1 + 1, none⟩ = some (.string u)) (go_keep)
      (first | (go_at_call 26; refine (HF.out _ ?_).mono ?_; (first | exact Below.refl _ _ | exact (Below.refl _ _).drew | exact ((Below.refl _ _).alloc (Nat.le_refl _) _).drew); rintro e w1 ⟨rfl, rfl⟩))
    all_goals have tok3 : True := trivial
    all_goals go_wp2_with (first
      | (go_at_call 27; have _t := tok3; clear _t tok3; refine HMV.out.mono ?_; rintro e w2 ⟨rfl, ⟨q0, q1, q2, q3⟩, hnt⟩; have HNT := hide3 hnt; clear hnt)
      | (go_at_call 27; refine HNT.out.mono ?_; rintro e w3 ⟨rfl, hnt2⟩; have HNT2 := hide3 hnt2; clear hnt2)
      | (go_at_call 68; refine HNT2.out.mono ?_; rintro e w4 ⟨rfl, ha⟩))
    all_goals
      go_ret
      rw [HE.out]
      exact ⟨rfl, ha⟩
  · have HE : Hid (renameD x s t = (13, x)) := by unfold Hid; rw [he, k0]; rfl
    have HA := hide3 (AfterR.same h.ref)
    rw [k0] at hk
    clear h hG hP h2w he hk2 hh
    generalize writeD x.left [s] = e0 at *
    generalize writeD x.left [t] = e1 at *
    have tok1 : True := trivial
    have tok2 : True := trivial
    go_enter Tryz.func55, Tryz.ntmps55
    go_wp2_with (first
      | (go_at_call 66; have _t := tok1; clear _t tok1; refine hm.mono ?_; rintro e w1 ⟨rfl, rfl⟩)
      | (go_at_call 66; refine hm2.mono ?_; rintro e w1 ⟨rfl, rfl⟩)
      | (go_at_call 28; have _t := tok2; clear _t tok2; refine hk.mono ?_; rintro e w1 ⟨rfl, rfl⟩))
    go_ret
    rw [HE.out]
    exact ⟨rfl, HA.out⟩

end Go.Proofs.YthijkdphlmogjaaGreatDoor
namespace Go.Proofs.YthijkdphlmogjaaGreatDoor
open Go.RowKit Go.Maps Go.Sort
set_option maxRecDepth 100000

/-- Where a child's name begins. -/
def fromOf (s : ByteArray) : Nat := if (s.toList == [47]) = true then 1 else s.size + 1
/-- What stands ahead of a child's name. -/
def headOf (s : ByteArray) : List UInt8 := if (s.toList == [47]) = true then [47] else s.data.toList ++ [47]

theorem extract_size0 (s : ByteArray) (i : Nat) (h : i ≤ s.size) : (s.extract 0 i).size = i := by rw [ByteArray.size_extract]; omega

theorem root_eq {s : ByteArray} (h : (s.toList == [47]) = true) : s.data.toList = [47] := by
  rw [toList_data] at h; simpa using h

theorem child_split {f : ByteArray} (h : okPath f = true) : ∃ i, i < f.size ∧ fromOf (parentOf f) = i + 1 ∧ nameOf f = f.extract (i + 1) f.size ∧ f.data.toList = headOf (parentOf f) ++ (nameOf f).data.toList := by
  obtain ⟨i, hi, he, hc, _⟩ := last_at (okPath_parts h).2
  have hr := h
  rw [okPath_rest] at hr
  simp only [Bool.and_eq_true, decide_eq_true_eq, beq_iff_eq] at hr
  obtain ⟨⟨⟨h2, _⟩, hh⟩, hrest⟩ := hr
  have hn : nameOf f = f.extract (i + 1) f.size := by unfold nameOf; rw [he]; simp
  have hp : parentOf f = if (i : Int) = 0 then ⟨#[47]⟩ else f.extract 0 i := by unfold parentOf; rw [he]; simp
  have hsz : f.data.toList.length = f.size := by rw [Array.length_toList]; rfl
  have htake : f.data.toList.take (i + 1) ++ f.data.toList.drop (i + 1) = f.data.toList := List.take_append_drop _ _
  have hname : (nameOf f).data.toList = f.data.toList.drop (i + 1) := by
    rw [hn, extract_list]
    rw [List.take_of_length_le]
    rw [List.length_drop, hsz]; omega
  have hgi : f.data.toList[i]'(by rw [hsz]; exact hi) = 47 := by rw [← hc]; rfl
  have hsnoc : f.data.toList.take (i + 1) = f.data.toList.take i ++ [47] := by
    rw [List.take_succ_eq_append_getElem (by rw [hsz]; exact hi), hgi]
  by_cases h0 : i = 0
  · subst h0
    have hp' : parentOf f = ⟨#[47]⟩ := by rw [hp]; rfl
    have hroot : ((parentOf f).toList == [47]) = true := by rw [hp', toList_data]; rfl
    refine ⟨0, hi, by unfold fromOf; rw [if_pos hroot], hn, ?_⟩
    unfold headOf
    rw [if_pos hroot, hname]
    refine htake.symm.trans ?_
    rw [hsnoc]
    simp
  · have hp' : parentOf f = f.extract 0 i := by rw [hp, if_neg (by omega)]
    have hnr : ((parentOf f).toList == [47]) = false := by
      rw [Bool.eq_false_iff]
      intro hroot
      have h1 := root_eq hroot
      have hs1 : (parentOf f).size = 1 := by
        show (parentOf f).data.size = 1
        rw [← Array.length_toList, h1]; rfl
      rw [hp', extract_size0 f i (by omega)] at hs1
      subst hs1
      have hd : f.data.toList.drop 1 = 47 :: f.data.toList.drop 2 := by
        rw [List.drop_eq_getElem_cons (by rw [hsz]; exact hi), hgi]
      rw [hd, restOk_slash] at hrest
      have : partB [] = false := rfl
      rw [this] at hrest
      cases hrest
    have hsz' : (parentOf f).size = i := by rw [hp', extract_size0 f i (by omega)]
    refine ⟨i, hi, by unfold fromOf; rw [if_neg (by rw [hnr]; decide), hsz'], hn, ?_⟩
    unfold headOf
    rw [if_neg (by rw [hnr]; decide), hname, hp', extract_list]
    refine htake.symm.trans ?_
    rw [hsnoc]
    simp

theorem before_prefix : ∀ (P a b : List UInt8), bytesBefore (P ++ a) (P ++ b) = bytesBefore a b
  | [], _, _ => rfl
  | c :: P, a, b => by
    have ih := before_prefix P a b
    show (decide (c < c) || c == c && bytesBefore (P ++ a) (P ++ b)) = _
    rw [ih]
    simp

/-- What is in a directory. -/
def kidsD (D : DataW Unit) (s : ByteArray) : List Fl := (filesD D).filter fun f => (parentOf f.1).toList == s.toList
/-- The names in it. -/
def namesD (D : DataW Unit) (s : ByteArray) : List (List UInt8) := (kidsD D s).map fun f => (nameOf f.1).data.toList

theorem mem_kids {D : DataW Unit} {s : ByteArray} {f : Fl} : f ∈ kidsD D s ↔ f ∈ filesD D ∧ parentOf f.1 = s := by
  unfold kidsD
  rw [List.mem_filter]
  exact ⟨fun ⟨h1, h2⟩ => ⟨h1, beq_bytes.1 h2⟩, fun ⟨h1, h2⟩ => ⟨h1, beq_bytes.2 h2⟩⟩

theorem Plain.ok {D : DataW Unit} (hP : Plain D) {f : Fl} (hf : f ∈ filesD D) : okPath f.1 = true := by
  obtain ⟨s', hs', hok'⟩ := hP.good.keys _ ((hP.good.mem f).1 hf).1
  rw [keyD_inj hs']; exact hok'

theorem names_rising {D : DataW Unit} (hP : Plain D) (s : ByteArray) : (namesD D s).Pairwise fun a b => bytesBefore a b = true := by
  unfold namesD
  rw [List.pairwise_map]
  have hr : (kidsD D s).Pairwise fun x y => bytesBefore x.1.data.toList y.1.data.toList = true := List.Pairwise.filter _ hP.good.rise
  refine hr.imp_of_mem fun {f g} hf hg hb => ?_
  obtain ⟨hf1, hf2⟩ := mem_kids.1 hf
  obtain ⟨hg1, hg2⟩ := mem_kids.1 hg
  obtain ⟨_, _, _, _, ef⟩ := child_split (hP.ok hf1)
  obtain ⟨_, _, _, _, eg⟩ := child_split (hP.ok hg1)
  rw [hf2] at ef
  rw [hg2] at eg
  rw [ef, eg, before_prefix] at hb
  exact hb

theorem before_le : ∀ {a b : List UInt8}, bytesBefore a b = true → a ≤ b
  | [], [], h => by simp [bytesBefore] at h
  | [], _ :: _, _ => by simp
  | _ :: _, [], h => by simp [bytesBefore] at h
  | x :: a, y :: b, h => by
    unfold bytesBefore at h
    simp only [Bool.or_eq_true, Bool.and_eq_true, decide_eq_true_eq, beq_iff_eq] at h
    rw [List.cons_le_cons_iff]
    rcases h with h | ⟨h1, h2⟩
    · exact Or.inl h
    · exact Or.inr ⟨h1, before_le h2⟩

theorem names_sorted {D : DataW Unit} (hP : Plain D) (s : ByteArray) {ss : List (List UInt8)} (h : ss.Perm (namesD D s)) : (ss.mergeSort fun x y => decide (x ≤ y)) = namesD D s := by
  have hm := mergeSort_of_perm h
  show ss.mergeSort leB = _
  rw [hm]
  refine List.mergeSort_of_pairwise ((names_rising hP s).imp fun {a b} h => ?_)
  simp only [leB, decide_eq_true_eq]
  exact before_le h

/-- What List answers: its error. -/
def listE (D : DataW Unit) (s : ByteArray) : Int := if pathB s = true then (if (kindD D s == 0) = true then 12 else if (kindD D s == 1) = true then 13 else 0) else 10
/-- The names that it tells. -/
def listT (D : DataW Unit) (s : ByteArray) : List (List UInt8) := if (listE D s == 0) = true then namesD D s else []

/-- What has been collected of a list. -/
def CollL (L : List Fl) (left : Lit → Bool) (fs : List Fl) : Prop := fs.Nodup ∧ ∀ f : Fl, f ∈ fs ↔ (f ∈ L ∧ left (keyD f.1) = false)

theorem CollL.start {L : List Fl} {has : Lit → Bool} (hm : ∀ f : Fl, f ∈ L → has (keyD f.1) = true) : CollL L has [] :=
  ⟨List.nodup_nil, fun f => ⟨fun h => (by cases h), fun ⟨h1, h2⟩ => (by rw [hm f h1] at h2; cases h2)⟩⟩

theorem CollL.step {L : List Fl} {left : Lit → Bool} {fs : List Fl} (h : CollL L left fs) {f : Fl} (hf : f ∈ L) (hl : left (keyD f.1) = true) (hu : ∀ g ∈ L, g.1 = f.1 → g = f) : CollL L (fun z => left z && !z.sameKey (keyD f.1)) (fs ++ [f]) := by
  have hnew : f ∉ fs := fun hx => by have := ((h.2 f).1 hx).2; rw [hl] at this; cases this
  refine ⟨List.nodup_append.2 ⟨h.1, by simp, fun a ha b hb => by simp only [List.mem_singleton] at hb; subst hb; exact fun e => hnew (e ▸ ha)⟩, fun g => ?_⟩
  rw [List.mem_append, List.mem_singleton, h.2 g]
  by_cases e : g.1 = f.1
  · constructor
    · rintro (⟨h1, h2⟩ | rfl)
      · exact ⟨h1, by simp [h2]⟩
      · exact ⟨hf, by simp [(sameKey_keyD _ _).2 rfl]⟩
    · rintro ⟨h1, _⟩
      exact Or.inr (hu g h1 e)
  · have : (keyD g.1).sameKey (keyD f.1) = false := by rw [Bool.eq_false_iff]; intro h; exact e ((sameKey_keyD _ _).1 h)
    simp only [this, Bool.not_false, Bool.and_true]
    constructor
    · rintro (h1 | rfl)
      · exact h1
      · exact absurd rfl e
    · exact Or.inl

theorem CollL.skip {L : List Fl} {left : Lit → Bool} {fs : List Fl} (h : CollL L left fs) {q : ByteArray} (hu : ∀ g ∈ L, g.1 ≠ q) : CollL L (fun z => left z && !z.sameKey (keyD q)) fs := by
  refine ⟨h.1, fun g => ?_⟩
  rw [h.2 g]
  constructor
  · rintro ⟨h1, h2⟩; exact ⟨h1, by simp [h2]⟩
  · rintro ⟨h1, h2⟩
    have : (keyD g.1).sameKey (keyD q) = false := by rw [Bool.eq_false_iff]; intro h; exact hu g h1 ((sameKey_keyD _ _).1 h)
    simp only [this, Bool.not_false, Bool.and_true] at h2
    exact ⟨h1, h2⟩

theorem CollL.perm {L : List Fl} {left : Lit → Bool} {fs : List Fl} (h : CollL L left fs) (hd : L.Nodup) (hl : ∀ kl, left kl = false) : fs.Perm L :=
  (List.perm_ext_iff_of_nodup h.1 hd).2 fun f => by rw [h.2 f, hl]; simp

end Go.Proofs.YthijkdphlmogjaaGreatDoor
