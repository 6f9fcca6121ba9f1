/- The document's clear and at. No condition but sizes. -/
import Derived.Test.YtcpmfhalphoppaaDoorDx9
import Derived.BigQuiet
namespace Go.Proofs.YtcpmfhalphoppaaDoor
open Go.RowKit Go.Maps Go.WideMaps Go.WideElems Dk
set_option maxRecDepth 100000

theorem below_drewQ {w w1 : World} (h : Below w.heap.size w w1) (q : Nat) : Below w.heap.size w (w1.drewN q) := ⟨h.os, h.tape, h.output, h.size, h.block⟩
/-- Nothing of the journal's is among files. -/
def clrB (fs : List Fl) : Bool := fs.all fun f => !jB f.1
theorem clr_iff (fs : List Fl) : clrB fs = true ↔ ∀ f ∈ fs, jB f.1 = false := by
  unfold clrB
  rw [List.all_eq_true]
  exact ⟨fun h f hf => by simpa using h f hf, fun h f hf => by rw [h f hf]; rfl⟩
theorem jn_list : jn.toList = [47, 106, 111, 117, 114, 110, 97, 108] := by decide +kernel
theorem jS_list : jS.toList = [47, 106, 111, 117, 114, 110, 97, 108, 47] := by decide +kernel

set_option maxHeartbeats 4000000 in
theorem clear_any (fs : List Fl) (a : Option Addr) (cap : Nat) (w : World) (hlen : fs.length ≤ 1048576) (hc : IsFiles w a fs) (hz : ∀ f ∈ fs, f.1.size ≤ maxLen) :
    Calls Tryd.prog 15 #[.slice a fs.length cap] w fun e w' => e = .returned (.bool (clrB fs)) ∧ w' = w := by
  have HC := hide3 hc
  have HZ := hide3 hz
  have HYE : Hid ((∀ j (hj : j < fs.length), jB fs[j].1 = false) → clrB fs = true) := fun h => (clr_iff fs).2 fun f hf => by
    obtain ⟨j, hj, rfl⟩ := List.getElem_of_mem hf
    exact h j hj
  have HNO : Hid (∀ j (hj : j < fs.length), jB fs[j].1 = true → clrB fs = false) := fun j hj h => Bool.eq_false_iff.2 fun q => by
    rw [(clr_iff fs).1 q _ (List.getElem_mem hj)] at h; cases h
  clear hc hz
  generalize clrB fs = cl at *
  go_enter Tryd.func15, Tryd.ntmps15
  go_wp2_with fail
  go_loopw [3] (fun i wr => ∃ k : Nat, k ≤ fs.length ∧ i = .int .i64 k ∧ wr = w ∧ ∀ j (hj : j < fs.length), j < k → jB fs[j].1 = false) (fun i _ => fs.length - (intOf i).toNat)
  case atStart => exact ⟨0, Nat.zero_le _, rfl, rfl, fun j hj h => absurd h (Nat.not_lt_zero _)⟩
  case round =>
    obtain ⟨k, hk, rfl, hwr, hall⟩ := hrel
    subst hwr
    have HA := hide3 hall
    clear hall
    by_cases hlt : k < fs.length
    · obtain ⟨g, off, rfl, hg, hcs⟩ : ∃ g off, a = some ⟨g, off, none⟩ ∧ g < wr.heap.size ∧ FilesAt wr g off fs := by
        rcases HC.out with h | h
        · rw [h] at hlt; exact absurd hlt (Nat.not_lt_zero _)
        · exact h
      obtain ⟨c0, _, _⟩ := hcs k hlt
      have HNK := hide3 (HNO.out k hlt)
      have HZK := HZ.out fs[k] (List.getElem_mem hlt)
      unfold maxLen at HZK
      have HST : Hid (jB fs[k].1 = false → ∀ j (hj : j < fs.length), j < k + 1 → jB fs[j].1 = false) := fun h j hj hjk => by
        by_cases e : j = k
        · subst e; exact h
        · exact HA.out j hj (by omega)
      have hki : (k : Int) < (fs.length : Int) := by omega
      have HJ : Hid (jB fs[k].1 = (fs[k].1.toList == [47, 106, 111, 117, 114, 110, 97, 108] || (decide (8 < fs[k].1.size) && (fs[k].1.extract 0 9).toList == [47, 106, 111, 117, 114, 110, 97, 108, 47]))) := by unfold Hid jB; rw [jn_list, jS_list]
      clear hcs
      generalize jB fs[k].1 = jb at *
      generalize fs[k].1 = p at *
      cases h1 : (p.toList == [47, 106, 111, 117, 114, 110, 97, 108])
      · by_cases h8 : 8 < p.size
        · have h8i : (8 : Int) < (p.size : Int) := by omega
          have h8d : decide ((8 : Int) < (p.size : Int)) = true := decide_eq_true h8i
          have h9 : 9 ≤ p.size := h8
          cases h2 : ((p.extract 0 9).toList == [47, 106, 111, 117, 114, 110, 97, 108, 47])
          · have HF : Hid (jb = false) := by unfold Hid; rw [HJ.out, h1, h2]; simp
            clear HJ
            go_wp2
            exact ⟨⟨k + 1, by omega, by go_num, by trivial, HST.out HF.out⟩, by simp [intOf]; omega⟩
          · have HF : Hid (jb = true) := by unfold Hid; rw [HJ.out, h2, decide_eq_true h8]; simp
            clear HJ
            go_wp2
            go_ret
            exact ⟨ret_bool (HNK.out HF.out).symm, rfl⟩
        · have h8i : ¬ (8 : Int) < (p.size : Int) := by omega
          have h8d : decide ((8 : Int) < (p.size : Int)) = false := decide_eq_false h8i
          have HF : Hid (jb = false) := by unfold Hid; rw [HJ.out, h1, decide_eq_false h8]; rfl
          clear HJ
          go_wp2
          exact ⟨⟨k + 1, by omega, by go_num, by trivial, HST.out HF.out⟩, by simp [intOf]; omega⟩
      · have HF : Hid (jb = true) := by unfold Hid; rw [HJ.out, h1]; rfl
        clear HJ
        go_wp2
        go_ret
        exact ⟨ret_bool (HNK.out HF.out).symm, rfl⟩
    · go_wp2
      go_ret
      exact ⟨ret_bool (HYE.out fun j hj => HA.out j hj (by omega)).symm, rfl⟩

theorem atL_drop {L : List Fl} {s : ByteArray} : ∀ k, k ≤ L.length → (∀ j (hj : j < L.length), j < k → (L[j].1.toList == s.toList) = false) → atL L s = atL (L.drop k) s := by
  induction L with
  | nil => intro k _ _; rw [List.drop_nil]
  | cons x r ih =>
    intro k hk h
    cases k with
    | zero => rfl
    | succ k =>
      have h0 := h 0 (by simp) (by omega)
      simp only [List.getElem_cons_zero] at h0
      rw [List.drop_succ_cons]
      conv => lhs; unfold atL
      rw [if_neg (by rw [h0]; decide)]
      exact ih k (by simpa using hk) fun j hj hjk => by
        have := h (j + 1) (by simpa using hj) (by omega)
        simpa using this
theorem atL_here {L : List Fl} {s : ByteArray} (k : Nat) (hk : k < L.length) (h : ∀ j (hj : j < L.length), j < k → (L[j].1.toList == s.toList) = false) (he : (L[k].1.toList == s.toList) = true) : atL L s = toldF L[k] := by
  rw [atL_drop k (Nat.le_of_lt hk) h, List.drop_eq_getElem_cons hk]
  unfold atL
  rw [if_pos he]
  rfl
theorem atL_end {L : List Fl} {s : ByteArray} (h : ∀ j (hj : j < L.length), (L[j].1.toList == s.toList) = false) : atL L s = (0, ByteArray.empty) := by
  rw [atL_drop L.length (Nat.le_refl _) fun j hj _ => h j hj, List.drop_length]
  rfl

set_option maxHeartbeats 4000000 in
theorem at_any {B : Nat} {w : World} {ao : Option Addr} {cap : Nat} {L : List Fl} (hr : w.ownsRow B 31 3 (.slice ao L.length cap) L.length (fileCells L)) (hlen : L.length ≤ 1048576) (s : ByteArray) :
    Calls Tryd.prog 16 #[.slice ao L.length cap, .string s] w fun e w' => e = .returned (.tuple #[.int .i64 (atL L s).1, .string (atL L s).2]) ∧ Below w.heap.size w w' := by
  have HR := hide3 hr
  have HHE : Hid (∀ k (hk : k < L.length), (∀ j (hj : j < L.length), j < k → (L[j].1.toList == s.toList) = false) → (L[k].1.toList == s.toList) = true → atL L s = toldF L[k]) := fun k hk h he => atL_here k hk h he
  have HEN : Hid ((∀ j (hj : j < L.length), (L[j].1.toList == s.toList) = false) → atL L s = (0, ByteArray.empty)) := fun h => atL_end h
  have HB0 : Hid (Below w.heap.size w w) := Below.refl _ _
  have HBD : Hid (Below w.heap.size w w.drew) := (Below.refl _ _).drew
  clear hr
  generalize atL L s = at0 at *
  go_enter Tryd.func16, Tryd.ntmps16
  go_wp2_with fail
  go_loopw [6] (fun i wr => ∃ k : Nat, k ≤ L.length ∧ i = .int .i64 k ∧ wr = w ∧ ∀ j (hj : j < L.length), j < k → (L[j].1.toList == s.toList) = false) (fun i _ => L.length - (intOf i).toNat)
  case atStart => exact ⟨0, Nat.zero_le _, rfl, rfl, fun j hj h => absurd h (Nat.not_lt_zero _)⟩
  case round =>
    obtain ⟨k, hk, rfl, hwr, hall⟩ := hrel
    subst hwr
    have HA := hide3 hall
    clear hall
    by_cases hlt : k < L.length
    · obtain ⟨g, rfl⟩ := row_shape HR.out (by omega)
      obtain ⟨c0, c1, c2⟩ := file_cells HR.out k hlt
      have HHK := hide3 (HHE.out k hlt HA.out)
      have HST : Hid ((L[k].1.toList == s.toList) = false → ∀ j (hj : j < L.length), j < k + 1 → (L[j].1.toList == s.toList) = false) := fun h j hj hjk => by
        by_cases e : j = k
        · subst e; exact h
        · exact HA.out j hj (by omega)
      have hki : (k : Int) < (L.length : Int) := by omega
      cases h1 : (L[k].1.toList == s.toList)
      · have HS1 := hide3 (HST.out h1)
        clear HHK HST
        generalize L[k].1 = p at *
        go_wp2
        exact ⟨⟨k + 1, by omega, by go_num, by trivial, HS1.out⟩, by simp [intOf]; omega⟩
      · have ht := HHK.out h1
        unfold toldF at ht
        clear HHK HST
        cases hc : L[k].2.1
        · rw [hc] at ht c1
          have HT : Hid (at0 = (1, L[k].2.2)) := ht
          clear ht hc
          generalize L[k].1 = p at *
          generalize L[k].2.2 = t at *
          go_wp2_with fail
          go_quiet (fail)
          go_wp2
          go_ret2
          rw [HT.out]
          exact ⟨rfl, below_drewQ HB0.out _⟩
        · rw [hc] at ht c1
          have HT : Hid (at0 = (2, ByteArray.empty)) := ht
          clear ht hc
          generalize L[k].1 = p at *
          go_wp2
          go_ret2
          rw [HT.out]
          exact ⟨rfl, HB0.out⟩
    · have HT : Hid (at0 = (0, ByteArray.empty)) := HEN.out fun j hj => HA.out j hj (by omega)
      go_wp2
      go_ret2
      rw [HT.out]
      exact ⟨rfl, HB0.out⟩
end Go.Proofs.YtcpmfhalphoppaaDoor
