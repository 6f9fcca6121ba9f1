/- Te6, laid in one text. -/
import Derived.Test.YtcclfaioicklaaaGreatDoorMg24
namespace Go.Proofs.YtcclfaioicklaaaGreatDoor
open Go.Shelf Go.RowKit Go.Lib Go.Sort
set_option maxRecDepth 100000

/-- How many stand ahead of a name, or bear it. -/
def posI (L : List Dr) : List Nat → Nat → Nat
  | [], _ => 0
  | j :: r, i => if 0 < cmpS (lsN L j) (lsN L i) then 0 else posI L r i + 1
def insI (L : List Dr) (ts : List Nat) (i : Nat) : List Nat := ts.take (posI L ts i) ++ i :: ts.drop (posI L ts i)
theorem posI_le (L : List Dr) : ∀ (ts : List Nat) (i : Nat), posI L ts i ≤ ts.length
  | [], _ => Nat.le_refl _
  | j :: r, i => by
    have := posI_le L r i
    unfold posI
    split
    · exact Nat.zero_le _
    · rw [List.length_cons]; omega
theorem posI_ahead {L : List Dr} : ∀ {ts : List Nat} {i k : Nat} (hk : k < ts.length), k < posI L ts i → ¬ 0 < cmpS (lsN L ts[k]) (lsN L i)
  | [], _, _, hk, _ => by cases hk
  | j :: r, i, k, hk, h => by
    unfold posI at h
    by_cases hy : 0 < cmpS (lsN L j) (lsN L i)
    · rw [if_pos hy] at h
      omega
    · rw [if_neg hy] at h
      cases k with
      | zero => exact hy
      | succ k =>
        rw [List.getElem_cons_succ]
        exact posI_ahead (by simpa using hk) (by omega)
theorem posI_at {L : List Dr} : ∀ {ts : List Nat} {i k : Nat} (hk : k < ts.length), k = posI L ts i → 0 < cmpS (lsN L ts[k]) (lsN L i)
  | [], _, _, hk, _ => by cases hk
  | j :: r, i, k, hk, h => by
    unfold posI at h
    by_cases hy : 0 < cmpS (lsN L j) (lsN L i)
    · rw [if_pos hy] at h
      subst h
      exact hy
    · rw [if_neg hy] at h
      subst h
      rw [List.getElem_cons_succ]
      exact posI_at (by simpa using hk) rfl
theorem insI_perm (L : List Dr) (ts : List Nat) (i : Nat) : (insI L ts i).Perm (i :: ts) := by
  unfold insI
  have h := List.perm_middle (a := i) (l₁ := ts.take (posI L ts i)) (l₂ := ts.drop (posI L ts i))
  rw [List.take_append_drop] at h
  exact h
theorem insI_len (L : List Dr) (ts : List Nat) (i : Nat) : (insI L ts i).length = ts.length + 1 := by rw [(insI_perm L ts i).length_eq, List.length_cons]
theorem insI_sorted {L : List Dr} {ts : List Nat} {i : Nat} (hs : ts.Pairwise fun x y => cmpI L x y < 0) (hi : ∀ x ∈ ts, x < i) : (insI L ts i).Pairwise fun x y => cmpI L x y < 0 := by
  have hah : ∀ x ∈ ts.take (posI L ts i), cmpI L x i < 0 := fun x hx => by
    obtain ⟨k, hk, rfl⟩ := List.getElem_of_mem hx
    rw [List.length_take] at hk
    rw [List.getElem_take]
    have q := posI_ahead (L := L) (ts := ts) (i := i) (k := k) (by omega) (by omega)
    have h2 := hi ts[k] (List.getElem_mem _)
    unfold cmpI
    rw [or2_lt]
    rcases Int.lt_trichotomy (cmpS (lsN L ts[k]) (lsN L i)) 0 with r | r | r
    · exact Or.inl r
    · exact Or.inr ⟨r, by unfold cmpN; rw [if_pos h2]; decide⟩
    · exact absurd r q
  have hbe : ∀ y ∈ ts.drop (posI L ts i), cmpI L i y < 0 := fun y hy => by
    obtain ⟨k, hk, rfl⟩ := List.getElem_of_mem hy
    rw [List.length_drop] at hk
    rw [List.getElem_drop]
    have h0 := posI_at (L := L) (ts := ts) (i := i) (k := posI L ts i) (by omega) rfl
    have hlt : cmpS (lsN L i) (lsN L ts[posI L ts i]) < 0 := (ordS.anti _ _).2 h0
    unfold cmpI
    rw [or2_lt]
    by_cases e : k = 0
    · subst e
      exact Or.inl hlt
    · have hp := List.pairwise_iff_getElem.1 hs (posI L ts i) (posI L ts i + k) (by omega) (by omega) (by omega)
      unfold cmpI at hp
      rw [or2_lt] at hp
      rcases hp with r | ⟨r, _⟩
      · exact Or.inl (ordS.trans _ _ _ hlt r)
      · rw [ordS.eq] at r
        rw [← r]
        exact Or.inl hlt
  unfold insI
  rw [List.pairwise_append]
  refine ⟨hs.sublist (List.take_sublist _ _), List.pairwise_cons.2 ⟨hbe, hs.sublist (List.drop_sublist _ _)⟩, fun x hx y hy => ?_⟩
  rcases List.mem_cons.1 hy with rfl | hy
  · exact hah x hx
  · exact (ordI L).trans _ _ _ (hah x hx) (hbe y hy)
/-- What stands in a directory's modules, of the first k. -/
def InsK (L : List Dr) (a k : Nat) (ts : List Nat) : Prop := ts.Perm (inK L a k) ∧ ts.Pairwise fun i j => cmpI L i j < 0
theorem InsK.start (L : List Dr) (a : Nat) : InsK L a 0 [] := ⟨by unfold inK; exact List.Perm.refl _, List.Pairwise.nil⟩
theorem InsK.no {L : List Dr} {a k : Nat} {ts : List Nat} (h : InsK L a k ts) (hs : stB (paN L k) (paN L a) = false) : InsK L a (k + 1) ts := ⟨by rw [inK_no hs]; exact h.1, h.2⟩
theorem InsK.yes {L : List Dr} {a k : Nat} {ts : List Nat} (h : InsK L a k ts) (hs : stB (paN L k) (paN L a) = true) : InsK L a (k + 1) (insI L ts k) := by
  refine ⟨?_, insI_sorted h.2 fun x hx => (inK_mem.1 (h.1.mem_iff.1 hx)).1⟩
  rw [inK_yes hs]
  exact (insI_perm L ts k).trans ((List.Perm.cons k h.1).trans (List.perm_append_singleton k _).symm)
theorem InsK.mem {L : List Dr} {a k : Nat} {ts : List Nat} (h : InsK L a k ts) {i : Nat} : i ∈ ts ↔ i < k ∧ stB (paN L i) (paN L a) = true := (h.1.mem_iff).trans inK_mem
theorem InsK.len {L : List Dr} {a k : Nat} {ts : List Nat} (h : InsK L a k ts) : ts.length ≤ k := by rw [h.1.length_eq]; exact inK_len _ _ _
theorem st_len {p q : List ByteArray} (h : stB p q = true) : p.length = q.length + 1 := by
  obtain ⟨h1, h2⟩ := stB_iff.1 h
  have := congrArg List.length h2
  rw [List.length_take] at this
  omega
/-- What the document asks of a path: it is one name longer, and begins so. -/
theorem st_doc {p q : List ByteArray} (h : p.length = q.length + 1) : stB p q = eqB (p.take q.length) q := by
  unfold stB
  rw [decide_eq_true (by omega), Bool.true_and, show p.length - 1 = q.length by omega]
theorem st_short {p q : List ByteArray} (h : p.length ≠ q.length + 1) : stB p q = false := by
  cases e : stB p q
  · rfl
  · exact absurd (st_len e) h
theorem last_in {L : List Dr} {i n : Nat} (hi : i < L.length) (h : L[i].pa.length = n + 1) : L[i].pa[n]'(by omega) = lsN L i := by
  rw [lsN_at hi, lastP_at (by omega)]
  congr 1
  omega
end Go.Proofs.YtcclfaioicklaaaGreatDoor
