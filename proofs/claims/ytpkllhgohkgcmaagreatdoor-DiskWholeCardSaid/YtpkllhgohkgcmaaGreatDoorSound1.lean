/- What lies on a disk hangs together: each path's parent is a directory; the raw writes keep that. Plain facts. -/
import Derived.Test.YtpkllhgohkgcmaaGreatDoorRef9
namespace Go.Proofs.YtpkllhgohkgcmaaGreatDoor
open Go.RowKit Go.Maps
set_option maxRecDepth 100000

/-- Each path's parent is the root or a directory. -/
def Sound (D : DataW Unit) : Prop := ∀ s, Maps.has D (keyD s) = true → kindD D (parentOf s) = 2

theorem parent_ne {s : ByteArray} (h : okPath s = true) : parentOf s ≠ s := by
  obtain ⟨i, hi, he, _, _⟩ := last_at (okPath_parts h).2
  unfold parentOf
  rw [he]
  intro e
  by_cases h0 : (i : Int) = 0
  · rw [if_pos h0] at e
    unfold okPath at h
    rw [← e] at h
    simp only [Bool.and_eq_true] at h
    exact absurd h.2 (by decide +kernel)
  · rw [if_neg h0] at e
    have := congrArg ByteArray.size e
    rw [ByteArray.size_extract] at this
    simp only [Int.toNat_natCast] at this
    omega

theorem kind_put_other {D : DataW Unit} {s q : ByteArray} {v : DataW Unit} (h : q ≠ s) : kindD (D.put (keyD s) v) q = kindD D q := by
  have hk : keyD q ≠ keyD s := fun e => h (keyD_inj e)
  unfold kindD
  rw [has_put_other hk, atKey_put_other hk]
theorem kind_del_other {D : DataW Unit} {s q : ByteArray} (h : q ≠ s) : kindD (D.del (keyD s)) q = kindD D q := by
  have hk : keyD q ≠ keyD s := fun e => h (keyD_inj e)
  unfold kindD
  rw [has_del_other hk, atKey_del_other hk]

theorem sound_put {D : DataW Unit} (hS : Sound D) {s : ByteArray} {v : DataW Unit} (hok : okPath s = true) (hp : kindD D (parentOf s) = 2) (hk : kindD D s ≠ 2) : Sound (D.put (keyD s) v) := by
  intro y hy
  by_cases e : y = s
  · subst e
    rw [kind_put_other (parent_ne hok)]; exact hp
  · rw [has_put_other (fun h => e (keyD_inj h))] at hy
    have h2 := hS y hy
    have : parentOf y ≠ s := fun h => hk (by rw [← h]; exact h2)
    rw [kind_put_other this]; exact h2

theorem sound_del {D : DataW Unit} (hS : Sound D) {s : ByteArray} (hn : ∀ y, Maps.has D (keyD y) = true → parentOf y ≠ s) : Sound (D.del (keyD s)) := by
  intro y hy
  by_cases e : y = s
  · subst e; rw [has_del_same] at hy; cases hy
  · rw [has_del_other (fun h => e (keyD_inj h))] at hy
    rw [kind_del_other (hn y hy)]; exact hS y hy

theorem strKeys_good {D : DataW Unit} (hm : IsMap D) (hG : Good D) (hk : ∀ es, D = .map es → ∀ p ∈ es, WideAt.IsKeyLit p.1) : StrKeys D := by
  obtain ⟨es, rfl⟩ := hm
  refine ⟨es, rfl, fun p hp => ?_⟩
  obtain ⟨s, hs, _⟩ := hG.keys p.1 (by rw [has_eq, List.any_eq_true]; exact ⟨p, hp, WideAt.sameKey_self (hk es rfl p hp)⟩)
  exact ⟨s, hs⟩

theorem used_iff {D : DataW Unit} (hk : StrKeys D) (s : ByteArray) : usedD D s = true ↔ ∃ y, Maps.has D (keyD y) = true ∧ parentOf y = s := by
  unfold usedD
  rw [List.any_eq_true]
  constructor
  · rintro ⟨y, hy, e⟩
    exact ⟨y, (mem_keys hk y).1 hy, beq_bytes.1 e⟩
  · rintro ⟨y, hy, e⟩
    exact ⟨y, (mem_keys hk y).2 hy, beq_bytes.2 e⟩

theorem not_used {D : DataW Unit} (hS : Sound D) (hk : StrKeys D) {s : ByteArray} (h : kindD D s ≠ 2) : usedD D s = false := by
  rw [Bool.eq_false_iff]
  intro hu
  obtain ⟨y, hy, e⟩ := (used_iff hk s).1 hu
  exact h (by rw [← e]; exact hS y hy)

theorem parentD_zero {D : DataW Unit} {s : ByteArray} (h : (parentD D s != 0) = false) : kindD D (parentOf s) = 2 := by
  unfold parentD at h
  rcases kindD_cases D (parentOf s) with k | k | k
  · rw [k] at h; simp at h
  · rw [k] at h; simp at h
  · exact k

theorem fileD_zero {D : DataW Unit} {s : ByteArray} (h : (fileD D s != 0) = false) : kindD D (parentOf s) = 2 ∧ kindD D s ≠ 2 := by
  unfold fileD at h
  by_cases h1 : (parentD D s != 0) = true
  · rw [if_pos h1, h1] at h; cases h
  · rw [if_neg h1] at h
    rw [Bool.not_eq_true] at h1
    refine ⟨parentD_zero h1, fun e => ?_⟩
    rw [e] at h
    simp at h

theorem kind_file {D : DataW Unit} {s : ByteArray} (h : (readE D s != 0) = false) : kindD D s = 1 := by
  unfold readE at h
  split at h
  · rcases kindD_cases D s with k | k | k
    · rw [k] at h; simp at h
    · exact k
    · rw [k] at h; simp at h
  · simp at h

theorem sound_mkdir {x : Ab} (hS : Sound x.D) (s : ByteArray) : Sound (mkdirD x s).2.D := by
  unfold mkdirD
  split
  · exact hS
  · next h0 =>
    split
    · exact hS
    · next h1 =>
      split
      · exact hS
      · next h2 =>
        rw [Bool.not_eq_true] at h0 h1 h2
        have hok : okPath s = true := by simpa using writeD_ok h0
        exact sound_put hS hok (parentD_zero h1) (by rw [bne_eq_false_iff_eq.1 h2]; decide)

theorem sound_write {x : Ab} (hS : Sound x.D) (s t : ByteArray) : Sound (writeFD x s t).2.D := by
  unfold writeFD
  split
  · exact hS
  · next h0 =>
    split
    · exact hS
    · next h1 =>
      rw [Bool.not_eq_true] at h0 h1
      have hok : okPath s = true := by simpa using writeD_ok h0
      exact sound_put hS hok (fileD_zero h1).1 (fileD_zero h1).2

theorem sound_rename {x : Ab} (hS : Sound x.D) (s t : ByteArray) : Sound (renameD x s t).2.D := by
  unfold renameD
  split
  · exact hS
  · next h0 =>
    split
    · exact hS
    · next h1 =>
      split
      · exact hS
      · next h2 =>
        rw [Bool.not_eq_true] at h0 h1 h2
        have hok : okPath s = true ∧ okPath t = true := by simpa using writeD_ok h0
        obtain ⟨hp, hk⟩ := fileD_zero h2
        have hf := kind_file h1
        have hd : Sound (x.D.del (keyD s)) := sound_del hS (fun y hy e => by have := hS y hy; rw [e, hf] at this; cases this)
        have hps : parentOf t ≠ s := fun e => by rw [e, hf] at hp; cases hp
        refine sound_put hd hok.2 (by rw [kind_del_other hps]; exact hp) ?_
        by_cases e : t = s
        · subst e
          unfold kindD
          rw [has_del_same]
          have : ¬ (t.toList == [47]) = true := by
            have h := hok.1
            unfold okPath at h
            simp only [Bool.and_eq_true, Bool.not_eq_true'] at h
            rw [h.2]; decide
          rw [if_neg this, if_neg (by decide)]; decide
        · rw [kind_del_other e]; exact hk

theorem sound_remove {x : Ab} (hS : Sound x.D) (hk : StrKeys x.D) (s : ByteArray) : Sound (removeD x s).2.D := by
  unfold removeD
  split
  · exact hS
  · split
    · exact hS
    · split
      · exact hS
      · next h2 =>
        rw [Bool.not_eq_true] at h2
        refine sound_del hS fun y hy e => ?_
        have hu : usedD x.D s = true := (used_iff hk s).2 ⟨y, hy, e⟩
        have h3 := hS y hy
        rw [e] at h3
        rw [hu, h3] at h2
        simp at h2

end Go.Proofs.YtpkllhgohkgcmaaGreatDoor
