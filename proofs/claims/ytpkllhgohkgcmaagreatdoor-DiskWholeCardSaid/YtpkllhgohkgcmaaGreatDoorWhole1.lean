/- A raw write changes nothing but what is at its paths: of a disk's files, in plain words. -/
import Derived.Test.YtpkllhgohkgcmaaGreatDoorPlays1
namespace Go.Proofs.YtpkllhgohkgcmaaGreatDoor
open Go.RowKit Go.Maps Go.WideMaps Go.WideElems Go.Sort Go.Shelf
set_option maxRecDepth 100000

/-- The paths of a raw write. -/
def atPath (k : Int) (p t y : ByteArray) : Prop := y = p ∨ (k = 2 ∧ y = t)

/-- Away from its paths a map is as it was. -/
def Off (k : Int) (p t : ByteArray) (D D' : DataW Unit) : Prop := ∀ y, ¬ atPath k p t y → Maps.has D' (keyD y) = Maps.has D (keyD y) ∧ D'.atKey (keyD y) zeroD = D.atKey (keyD y) zeroD

theorem off_put (k : Int) (p t : ByteArray) (D : DataW Unit) (v : DataW Unit) : Off k p t D (D.put (keyD p) v) := by
  intro y hy
  have hk : keyD y ≠ keyD p := fun h => hy (Or.inl (keyD_inj h))
  exact ⟨has_put_other hk _, atKey_put_other hk _ _⟩
theorem off_del (k : Int) (p t : ByteArray) (D : DataW Unit) : Off k p t D (D.del (keyD p)) := by
  intro y hy
  have hk : keyD y ≠ keyD p := fun h => hy (Or.inl (keyD_inj h))
  exact ⟨has_del_other hk, atKey_del_other hk _⟩
theorem off_move (p t : ByteArray) (D : DataW Unit) (v : DataW Unit) : Off 2 p t D ((D.del (keyD p)).put (keyD t) v) := by
  intro y hy
  have hk : keyD y ≠ keyD p := fun h => hy (Or.inl (keyD_inj h))
  have ht : keyD y ≠ keyD t := fun h => hy (Or.inr ⟨rfl, keyD_inj h⟩)
  exact ⟨(has_put_other ht _).trans (has_del_other hk), (atKey_put_other ht _ _).trans (atKey_del_other hk _)⟩

/-- What a raw write leaves: the disk as it was, or one write more and all else as it was. -/
def WholeD (k : Int) (p t : ByteArray) (x x' : Ab) : Prop := x' = x ∨ (x'.rs.length = x.rs.length + 1 ∧ Off k p t x.D x'.D)

theorem whole_note {k : Int} {p t : ByteArray} {x : Ab} {D' : DataW Unit} (r : Int × ByteArray × ByteArray) (h : Off k p t x.D D') : WholeD k p t x (noteAb { D := D', rs := x.rs, left := x.left } r) :=
  Or.inr ⟨by unfold noteAb; simp, h⟩
theorem whole_ite {k : Int} {p t : ByteArray} {x : Ab} {c : Prop} [Decidable c] {a b : Int × Ab} (h1 : WholeD k p t x a.2) (h2 : WholeD k p t x b.2) : WholeD k p t x (if c then a else b).2 := by
  split
  · exact h1
  · exact h2
theorem whole_mkdir (k : Int) (t : ByteArray) (x : Ab) (s : ByteArray) : WholeD k s t x (mkdirD x s).2 := by
  unfold mkdirD
  exact whole_ite (Or.inl rfl) (whole_ite (Or.inl rfl) (whole_ite (Or.inl rfl) (whole_note _ (off_put k s t x.D _))))
theorem whole_write (k : Int) (t : ByteArray) (x : Ab) (s u : ByteArray) : WholeD k s t x (writeFD x s u).2 := by
  unfold writeFD
  exact whole_ite (Or.inl rfl) (whole_ite (Or.inl rfl) (whole_note _ (off_put k s t x.D _)))
theorem whole_rename (x : Ab) (s t : ByteArray) : WholeD 2 s t x (renameD x s t).2 := by
  unfold renameD
  exact whole_ite (Or.inl rfl) (whole_ite (Or.inl rfl) (whole_ite (Or.inl rfl) (whole_note _ (off_move s t x.D _))))
theorem whole_remove (k : Int) (t : ByteArray) (x : Ab) (s : ByteArray) : WholeD k s t x (removeD x s).2 := by
  unfold removeD
  exact whole_ite (Or.inl rfl) (whole_ite (Or.inl rfl) (whole_ite (Or.inl rfl) (whole_note _ (off_del k s t x.D))))

theorem whole_puts (x : Ab) (k : Int) (p t u : ByteArray) : WholeD k p t x (putsD x k p t u).2 := by
  unfold putsD
  split
  · exact whole_mkdir k t x p
  · split
    · exact whole_write k t x p u
    · split
      · rename_i h
        rw [beq_iff_eq] at h
        subst h
        exact whole_rename x p t
      · exact whole_remove k t x p

theorem off_mem {k : Int} {p t : ByteArray} {D D' : DataW Unit} (h : Off k p t D D') (hD : Good D) (hD' : Good D') {f : Fl} (hf : ¬ atPath k p t f.1) : f ∈ filesD D ↔ f ∈ filesD D' := by
  rw [hD.mem f, hD'.mem f, (h f.1 hf).1, (h f.1 hf).2]

/-- The four kinds of a raw write. -/
theorem pick_four (c : Int) : pickD (pickD c 4) 11 = pickD c 4 ∧ 0 ≤ pickD c 4 ∧ pickD c 4 < 4 := by
  have h : 0 ≤ pickD c 4 ∧ pickD c 4 < 4 := by
    unfold pickD
    split
    · rw [Int.tmod_eq_emod_of_nonneg (by omega)]; omega
    · rw [Int.tmod_eq_emod_of_nonneg (by omega)]; omega
  refine ⟨?_, h⟩
  generalize pickD c 4 = v at *
  unfold pickD
  rw [if_neg (by omega), Int.tmod_eq_emod_of_nonneg h.1]
  omega
end Go.Proofs.YtpkllhgohkgcmaaGreatDoor
