/- Ts5, laid in one text. -/
import Derived.Test.YtfnmbjddlkfooaaGreatDoorMg19
namespace Go.Proofs.YtfnmbjddlkfooaaGreatDoor
open Go.RowKit
set_option maxRecDepth 100000

theorem look_found {L : List Dr} {p : List ByteArray} {s : ByteArray} : ∀ {n : Nat}, n ≤ p.length → (lookN L p s n = -1 ∧ ∀ j, j ≤ n → findV L (p.take j ++ [s]) = -1) ∨ ∃ j a, ∃ ha : a < L.length, j ≤ n ∧ lookN L p s n = ((a : Nat) : Int) ∧ L[a].pa = p.take j ++ [s] ∧ ∀ i, j < i → i ≤ n → findV L (p.take i ++ [s]) = -1
  | 0, _ => by
    rcases findV_or L (p.take 0 ++ [s]) with ⟨h, _⟩ | ⟨k, hk, h, hp, _⟩
    · exact Or.inl ⟨h, fun j hj => by obtain rfl : j = 0 := by omega
                                      exact h⟩
    · exact Or.inr ⟨0, k, hk, Nat.le_refl _, h, hp, fun i h1 h2 => by omega⟩
  | n + 1, hn => by
    by_cases hm : findV L (p.take (n + 1) ++ [s]) = -1
    · rw [look_miss hm]
      rcases look_found (L := L) (p := p) (s := s) (n := n) (by omega) with ⟨h, hall⟩ | ⟨j, a, ha, hj, h, hp, hall⟩
      · refine Or.inl ⟨h, fun j hj => ?_⟩
        rcases Nat.lt_or_ge j (n + 1) with h1 | h1
        · exact hall j (by omega)
        · obtain rfl : j = n + 1 := by omega
          exact hm
      · refine Or.inr ⟨j, a, ha, by omega, h, hp, fun i h1 h2 => ?_⟩
        rcases Nat.lt_or_ge i (n + 1) with h3 | h3
        · exact hall i h1 (by omega)
        · obtain rfl : i = n + 1 := by omega
          exact hm
    · rw [look_hit hm]
      rcases findV_or L (p.take (n + 1) ++ [s]) with ⟨h, _⟩ | ⟨k, hk, h, hp, _⟩
      · exact absurd h hm
      · exact Or.inr ⟨n + 1, k, hk, Nat.le_refl _, h, hp, fun i h1 h2 => by omega⟩

theorem find_has {L : List Dr} {i : Nat} (hi : i < L.length) : findV L L[i].pa ≠ -1 := by
  rcases findV_or L L[i].pa with ⟨_, hall⟩ | ⟨k, _, h, _⟩
  · exact absurd rfl (hall i hi)
  · rw [h]; omega

/-- What is found has the name, and stands in the modules of one further up. -/
theorem near_at {L : List Dr} {k a : Nat} {s : ByteArray} (hk : k < L.length) (h : lookV L (k : Int) s = a) : ∃ (ha : a < L.length) (m : Nat), L[a].pa.length = m + 1 ∧ m ≤ L[k].pa.length ∧ lastP L[a].pa = s ∧ L[a].pa.take m = L[k].pa.take m := by
  by_cases hn : Sc.nameA s.data.toList = true
  · rw [lookV_in hk hn] at h
    rcases look_found (L := L) (p := L[k].pa) (s := s) (Nat.le_refl _) with ⟨h1, _⟩ | ⟨j, b, hb, hj, h1, hp, _⟩
    · rw [h1] at h; omega
    · obtain rfl : a = b := by omega
      have hl : (L[k].pa.take j).length = j := by rw [List.length_take]; omega
      refine ⟨hb, j, by rw [hp, List.length_append, hl]; rfl, hj, ?_, ?_⟩
      · rw [hp]; unfold lastP; simp
      · rw [hp, List.take_append_of_le_length (by omega), List.take_of_length_le (by omega)]
  · rw [lookV_out (fun hh => hn hh.2.2)] at h
    omega
/-- None that is nearer has the name. -/
theorem near_no {L : List Dr} (hc : checkB L = true) {k i m : Nat} {s : ByteArray} (hk : k < L.length) (hi : i < L.length) (hm : L[i].pa.length = m + 1) (hmk : m ≤ L[k].pa.length) (hl : lastP L[i].pa = s) (ht : L[i].pa.take m = L[k].pa.take m) : ∃ (a : Nat) (ha : a < L.length), lookV L (k : Int) s = a ∧ L[i].pa.length ≤ L[a].pa.length := by
  have hp : L[i].pa = L[k].pa.take m ++ [s] := by
    have := last_app (p := L[i].pa) (by omega)
    rw [hm, Nat.add_sub_cancel, hl, ht] at this
    exact this.symm
  have h0 : i ≠ 0 := fun h0 => by
    subst h0
    have h1 := (checkB_iff.1 hc).2.1
    rw [rootL_at hi] at h1
    unfold rootB at h1
    simp only [Bool.and_eq_true, decide_eq_true_eq] at h1
    omega
  have hn : Sc.nameA s.data.toList = true := by
    have hf := (checkB_iff.1 hc).2.2 i hi h0
    rw [follI_at hi] at hf
    unfold follD at hf
    simp only [Bool.and_eq_true] at hf
    have h1 := hf.1.1.1.1.1
    unfold mayPaB at h1
    simp only [Bool.and_eq_true] at h1
    have h2 := h1.1.2
    unfold namesB at h2
    rw [List.all_eq_true] at h2
    rw [← hl, lastP_at (by omega)]
    exact h2 _ (List.getElem_mem _)
  have hfi := find_has hi
  rw [hp] at hfi
  rcases look_found (L := L) (p := L[k].pa) (s := s) (Nat.le_refl _) with ⟨_, hall⟩ | ⟨j, a, ha, hj, h1, hpa, hall⟩
  · exact absurd (hall m hmk) hfi
  · refine ⟨a, ha, by rw [lookV_in hk hn]; exact h1, ?_⟩
    have hjm : m ≤ j := by
      rcases Nat.lt_or_ge j m with h | h
      · exact absurd (hall m h hmk) hfi
      · exact h
    have hl2 : (L[k].pa.take j).length = j := by rw [List.length_take]; omega
    rw [hpa, List.length_append, hl2, hm]
    simp
    omega
end Go.Proofs.YtfnmbjddlkfooaaGreatDoor
