/- Wb4, laid in one text. -/
import Derived.Test.YtfehbkmahemknaaGreatDoorMg22
namespace Go.Proofs.YtfehbkmahemknaaGreatDoor
open Go.RowKit Go.Maps Go.WideMaps
set_option maxRecDepth 100000

theorem bl_total : ∀ (a b : List UInt8), Op.bytesLess a b = false → a ≠ b → Op.bytesLess b a = true
  | [], [], _, h => absurd rfl h
  | [], _ :: _, h, _ => by cases h
  | _ :: _, [], _, _ => rfl
  | x :: a, y :: b, h, hn => by
    have h' : (decide (x < y) || (x == y && Op.bytesLess a b)) = false := h
    show (decide (y < x) || (y == x && Op.bytesLess b a)) = true
    rw [Bool.or_eq_false_iff, decide_eq_false_iff_not] at h'
    obtain ⟨h1, h2⟩ := h'
    rw [Bool.or_eq_true, decide_eq_true_eq]
    by_cases e : x = y
    · subst e
      right
      rw [beq_self_eq_true, Bool.true_and] at h2 ⊢
      exact bl_total a b h2 (fun q => hn (by rw [q]))
    · left
      rcases UInt8.lt_or_lt_of_ne e with q | q
      · exact absurd q h1
      · exact q
theorem bl_before : ∀ (a b : List UInt8), Op.bytesLess a b = bytesBefore a b
  | [], [] => rfl
  | [], _ :: _ => rfl
  | _ :: _, [] => rfl
  | x :: a, y :: b => by
    show (decide (x < y) || (x == y && Op.bytesLess a b)) = (decide (x < y) || (x == y && bytesBefore a b))
    rw [bl_before a b]
theorem ltS_before (s t : ByteArray) : ltS s t = bytesBefore s.data.toList t.data.toList := by
  unfold ltS
  rw [bl_before, ByteArray.toList_eq, ByteArray.toList_eq]
theorem ltS_total {s t : ByteArray} (h : ltS s t = false) (hn : s ≠ t) : ltS t s = true := bl_total _ _ h (fun e => hn (bytes_same e))
theorem ltS_irr (s : ByteArray) : ltS s s = false := bl_irr _
theorem ltS_trans {s t u : ByteArray} (h : ltS s t = true) (h' : ltS t u = true) : ltS s u = true := bl_trans h h'
def SortedN (so : List Pn) : Prop := so.Pairwise fun x y => ltS x.nm y.nm = true
theorem pos_hasnt {so : List Pn} {p : Pn} (h : hasPn so p.nm = false) : ∀ hi : posN so p < so.length, so[posN so p].nm ≠ p.nm := fun hi e => by
  rw [Bool.eq_false_iff] at h
  exact h (hasPn_iff.2 (List.mem_map.2 ⟨_, List.getElem_mem hi, e⟩))
theorem pos_has {so : List Pn} {p : Pn} (hs : SortedN so) (h : hasPn so p.nm = true) : ∃ hi : posN so p < so.length, so[posN so p].nm = p.nm := by
  obtain ⟨q, hq, e⟩ := List.mem_map.1 (hasPn_iff.1 h)
  obtain ⟨k, hk, rfl⟩ := List.getElem_of_mem hq
  have h1 : posN so p ≤ k := by
    rcases Nat.lt_or_ge k (posN so p) with c | c
    · have := posN_ahead hk c
      rw [e, ltS_irr] at this
      cases this
    · exact c
  have hi : posN so p < so.length := by omega
  refine ⟨hi, ?_⟩
  rcases Nat.lt_or_ge (posN so p) k with c | c
  · have h2 := List.pairwise_iff_getElem.1 hs (posN so p) k hi hk c
    rw [e, posN_at hi rfl] at h2
    cases h2
  · have c2 : posN so p = k := by omega
    simp only [c2]
    exact e
theorem ins_sorted {so : List Pn} {p : Pn} (hs : SortedN so) (h : hasPn so p.nm = false) : SortedN (insN so p) := by
  have hne := pos_hasnt h
  unfold SortedN insN
  rw [List.pairwise_append]
  refine ⟨hs.sublist (List.take_sublist _ _), List.pairwise_cons.2 ⟨fun y hy => ?_, hs.sublist (List.drop_sublist _ _)⟩, fun x hx y hy => ?_⟩
  · obtain ⟨k, hk, rfl⟩ := List.getElem_of_mem hy
    rw [List.length_drop] at hk
    rw [List.getElem_drop]
    have hp : posN so p < so.length := by omega
    have h0 := ltS_total (posN_at hp rfl) (hne hp)
    rcases Nat.eq_zero_or_pos k with c | c
    · subst c
      exact h0
    · exact ltS_trans h0 (List.pairwise_iff_getElem.1 hs (posN so p) (posN so p + k) hp (by omega) (by omega))
  · obtain ⟨k, hk, rfl⟩ := List.getElem_of_mem hx
    rw [List.length_take] at hk
    rw [List.getElem_take]
    have hks : k < so.length := by omega
    have h1 := posN_ahead (p := p) hks (by omega)
    rcases List.mem_cons.1 hy with rfl | hy
    · exact h1
    · obtain ⟨j, hj, rfl⟩ := List.getElem_of_mem hy
      rw [List.length_drop] at hj
      rw [List.getElem_drop]
      exact List.pairwise_iff_getElem.1 hs k (posN so p + j) hks (by omega) (by omega)
theorem has_perm {a b : List Pn} (h : a.Perm b) (s : ByteArray) : hasPn a s = hasPn b s := by
  rw [Bool.eq_iff_iff, hasPn_iff, hasPn_iff]
  exact (h.map Pn.nm).mem_iff
/-- Two ways of sorting tell the same list. -/
theorem sorted_same {ts so od : List Pn} (h1 : ts.Perm od) (h2 : ts.Pairwise fun x y => ltP y x = false) (hn : (od.map Pn.nm).Nodup) (h3 : so.Perm od) (h4 : SortedN so) : ts = so := by
  have hne : ts.Pairwise fun x y => x.nm ≠ y.nm := by
    have e : (ts.map Pn.nm).Nodup := (h1.map Pn.nm).nodup_iff.2 hn
    rw [List.nodup_iff_pairwise_ne, List.pairwise_map] at e
    exact e
  have h5 : ts.Pairwise fun x y => ltS x.nm y.nm = true := (h2.and hne).imp fun {x y} q => by
    refine ltS_total ?_ (fun e => q.2 e.symm)
    rw [ltS_before]
    exact q.1
  refine List.Perm.eq_of_pairwise (le := fun x y : Pn => ltS x.nm y.nm = true) (fun a b _ _ g1 g2 => ?_) h5 h4 (h1.trans h3.symm)
  have := ltS_trans g1 g2
  rw [ltS_irr] at this
  cases this
end Go.Proofs.YtfehbkmahemknaaGreatDoor
