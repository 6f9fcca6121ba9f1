/- There and back: the same paths are touched; as many come as go on the way back. Plain facts. -/
import Derived.Test.YtcpmfhalphoppaaDoorDx10
namespace Go.Proofs.YtcpmfhalphoppaaDoor
open Go.RowKit Go.Maps Dk
set_option maxRecDepth 100000

/-- How many deeds of a kind there are. -/
def cN (k : Int) (l : List De) : Nat := l.countP fun d => d.kd == k
theorem cN_append (k : Int) (l m : List De) : cN k (l ++ m) = cN k l + cN k m := by unfold cN; rw [List.countP_append]
theorem cN_one (k : Int) (d : De) : cN k [d] = if (d.kd == k) = true then 1 else 0 := by unfold cN; rw [List.countP_cons, List.countP_nil]; simp
theorem cN_map {l : List Fl} {f : Fl → De} {j : Int} (h : ∀ x, (f x).kd = j) (k : Int) : cN k (l.map f) = if (j == k) = true then l.length else 0 := by
  unfold cN
  rw [List.countP_map]
  by_cases e : (j == k) = true
  · rw [if_pos e, List.countP_eq_length]
    intro x _
    show ((f x).kd == k) = true
    rw [h]; exact e
  · rw [if_neg e, List.countP_eq_zero]
    intro x _ q
    exact e (by have : ((f x).kd == k) = true := q; rwa [h] at this)
theorem cN_le (k : Int) (l : List De) : cN k l ≤ l.length := List.countP_le_length
theorem count_kinds (L M : List Fl) : cN 1 (deD L M) = (L.filter (wU M)).length ∧ cN 2 (deD L M) = (L.filter (wR M)).length ∧ cN 3 (deD L M) = (M.filter (wM L)).length ∧ cN 4 (deD L M) = (M.filter (wP L)).length := by
  have hr : ∀ w : Fl → Bool, (L.reverse.filter w).length = (L.filter w).length := fun w => ((List.reverse_perm L).filter w).length_eq
  unfold deD lU lR lM lP
  simp only [cN_append]
  rw [cN_map (j := 1) (fun _ => rfl), cN_map (j := 2) (fun _ => rfl), cN_map (j := 3) (fun _ => rfl), cN_map (j := 4) (fun _ => rfl)]
  rw [cN_map (j := 1) (fun _ => rfl), cN_map (j := 2) (fun _ => rfl), cN_map (j := 3) (fun _ => rfl), cN_map (j := 4) (fun _ => rfl)]
  rw [cN_map (j := 1) (fun _ => rfl), cN_map (j := 2) (fun _ => rfl), cN_map (j := 3) (fun _ => rfl), cN_map (j := 4) (fun _ => rfl)]
  rw [cN_map (j := 1) (fun _ => rfl), cN_map (j := 2) (fun _ => rfl), cN_map (j := 3) (fun _ => rfl), cN_map (j := 4) (fun _ => rfl)]
  rw [hr, hr]
  simp

/-- Files with other bytes. -/
def wO (L : List Fl) (x : Fl) : Bool := !x.2.1 && ((atL L x.1).1 == 1) && !((atL L x.1).2.toList == x.2.2.toList)
theorem put_len (L : List Fl) : ∀ M : List Fl, (M.filter (wP L)).length = (M.filter (wU L)).length + (M.filter (wO L)).length
  | [] => rfl
  | x :: M => by
    have ih := put_len L M
    have hx : (wP L x = false ∧ wU L x = false ∧ wO L x = false) ∨ (wP L x = true ∧ wU L x = true ∧ wO L x = false) ∨ (wP L x = true ∧ wU L x = false ∧ wO L x = true) := by
      unfold wP wU wO
      cases x.2.1 <;> cases ((atL L x.1).1 == 1) <;> cases ((atL L x.1).2.toList == x.2.2.toList) <;> simp
    rw [List.filter_cons, List.filter_cons, List.filter_cons]
    rcases hx with ⟨a, b, c⟩ | ⟨a, b, c⟩ | ⟨a, b, c⟩ <;> rw [a, b, c] <;> simp <;> omega
theorem other_at {L : List Fl} (hL : Apart L) {x : Fl} (h : wO L x = true) : ∃ z ∈ L, z.1 = x.1 ∧ z.2.1 = false ∧ x.2.1 = false ∧ z.2.2 ≠ x.2.2 := by
  unfold wO at h
  simp only [Bool.and_eq_true, Bool.not_eq_true', beq_iff_eq] at h
  obtain ⟨⟨h1, h2⟩, h3⟩ := h
  rcases atL_cases hL x.1 with ⟨z, hz, e1, e2⟩ | ⟨_, e2⟩
  · rw [e2] at h2 h3
    unfold toldF at h2 h3
    cases hc : z.2.1 with
    | true => rw [hc] at h2; simp at h2
    | false =>
      rw [hc] at h3
      refine ⟨z, hz, e1, hc, h1, fun e => ?_⟩
      rw [e] at h3
      simp at h3
  · rw [e2] at h2; simp at h2
theorem other_of {L : List Fl} (hL : Apart L) {z x : Fl} (hz : z ∈ L) (e : z.1 = x.1) (h1 : z.2.1 = false) (h2 : x.2.1 = false) (h3 : z.2.2 ≠ x.2.2) : wO L x = true := by
  unfold wO
  rw [← e, atL_mem hL hz]
  unfold toldF
  rw [h1, h2]
  simp
  exact fun q => h3 (beq_bytes.1 (beq_iff_eq.2 q))
theorem other_len {L M : List Fl} (hL : Apart L) (hM : Apart M) : (M.filter (wO L)).length = (L.filter (wO M)).length := by
  have hn : ∀ {A : List Fl} (_ : Apart A) (w : Fl → Bool), ((A.filter w).map (·.1)).Nodup := fun hA w => by
    unfold List.Nodup
    rw [List.pairwise_map]
    exact List.Pairwise.filter _ hA
  have hp : ((M.filter (wO L)).map (·.1)).Perm ((L.filter (wO M)).map (·.1)) := by
    refine (List.perm_ext_iff_of_nodup (hn hM _) (hn hL _)).2 fun s => ?_
    have hh : ∀ {A B : List Fl} (_ : Apart A) (_ : Apart B), s ∈ (B.filter (wO A)).map (·.1) → s ∈ (A.filter (wO B)).map (·.1) := fun {A B} hA hB h => by
      obtain ⟨x, hx, rfl⟩ := List.mem_map.1 h
      obtain ⟨h1, h2⟩ := List.mem_filter.1 hx
      obtain ⟨z, hz, e, q1, q2, q3⟩ := other_at hA h2
      exact List.mem_map.2 ⟨z, List.mem_filter.2 ⟨hz, other_of hB h1 e.symm q2 q1 (fun q => q3 q.symm)⟩, e⟩
    exact ⟨hh hL hM, hh hM hL⟩
  have := hp.length_eq
  rwa [List.length_map, List.length_map] at this

/-- As many come as go on the way back. -/
theorem back_counts {L M : List Fl} (hL : Apart L) (hM : Apart M) : cN 3 (deD L M) = cN 2 (deD M L) ∧ cN 2 (deD L M) = cN 3 (deD M L) ∧ cN 4 (deD L M) + cN 1 (deD L M) = cN 1 (deD M L) + cN 4 (deD M L) := by
  obtain ⟨a1, a2, a3, a4⟩ := count_kinds L M
  obtain ⟨b1, b2, b3, b4⟩ := count_kinds M L
  have h1 := put_len L M
  have h2 := put_len M L
  have h3 := other_len hL hM
  rw [a1, a2, a3, a4, b1, b2, b3, b4]
  refine ⟨rfl, rfl, ?_⟩
  omega
theorem kinds_in {L M : List Fl} {d : De} (h : d ∈ deD L M) : d.kd = 1 ∨ d.kd = 2 ∨ d.kd = 3 ∨ d.kd = 4 := by
  unfold deD at h
  rcases List.mem_append.1 h with h | h
  · rcases List.mem_append.1 h with h | h
    · rcases List.mem_append.1 h with h | h
      · obtain ⟨y, _, rfl⟩ := List.mem_map.1 h
        exact Or.inl rfl
      · obtain ⟨y, _, rfl⟩ := List.mem_map.1 h
        exact Or.inr (Or.inl rfl)
    · obtain ⟨y, _, rfl⟩ := List.mem_map.1 h
      exact Or.inr (Or.inr (Or.inl rfl))
  · obtain ⟨y, _, rfl⟩ := List.mem_map.1 h
    exact Or.inr (Or.inr (Or.inr rfl))
/-- The same paths are touched. -/
theorem back_paths {L M : List Fl} (hL : Apart L) (hM : Apart M) {d : De} (h : d ∈ deD L M) : ∃ d' ∈ deD M L, d'.pa = d.pa := by
  have iU : ∀ y ∈ M, wU L y = true → dU y ∈ deD M L := fun y hy hw => by
    unfold deD lU
    exact List.mem_append_left _ (List.mem_append_left _ (List.mem_append_left _ (List.mem_map.2 ⟨y, List.mem_filter.2 ⟨List.mem_reverse.2 hy, hw⟩, rfl⟩)))
  have iR : ∀ y ∈ M, wR L y = true → dR y ∈ deD M L := fun y hy hw => by
    unfold deD lR
    exact List.mem_append_left _ (List.mem_append_left _ (List.mem_append_right _ (List.mem_map.2 ⟨y, List.mem_filter.2 ⟨List.mem_reverse.2 hy, hw⟩, rfl⟩)))
  have iM : ∀ y ∈ L, wM M y = true → dM y ∈ deD M L := fun y hy hw => by
    unfold deD lM
    exact List.mem_append_left _ (List.mem_append_right _ (List.mem_map.2 ⟨y, List.mem_filter.2 ⟨hy, hw⟩, rfl⟩))
  have iP : ∀ y ∈ L, wP M y = true → dP y ∈ deD M L := fun y hy hw => by
    unfold deD lP
    exact List.mem_append_right _ (List.mem_map.2 ⟨y, List.mem_filter.2 ⟨hy, hw⟩, rfl⟩)
  rcases mem_deeds h with ⟨y, hy, he, hw⟩ | ⟨y, hy, he, hw⟩
  · rcases hw with hw | hw
    · refine ⟨dP y, iP y hy ?_, he.symm⟩
      unfold wU at hw
      unfold wP
      simp only [Bool.and_eq_true] at hw
      rw [hw.1, hw.2]; rfl
    · exact ⟨dM y, iM y hy hw, he.symm⟩
  · rcases hw with hw | hw
    · exact ⟨dR y, iR y hy hw, he.symm⟩
    · by_cases q : wU L y = true
      · exact ⟨dU y, iU y hy q, he.symm⟩
      · have ho : wO L y = true := by
          unfold wU at q
          unfold wP at hw
          unfold wO
          revert q hw
          cases y.2.1 <;> cases ((atL L y.1).1 == 1) <;> cases ((atL L y.1).2.toList == y.2.2.toList) <;> simp
        obtain ⟨z, hz, e, q1, q2, q3⟩ := other_at hL ho
        refine ⟨dP z, iP z hz ?_, e.trans he.symm⟩
        have hz2 := other_of hM hy e.symm q2 q1 (fun k => q3 k.symm)
        unfold wO at hz2
        unfold wP
        revert hz2
        cases z.2.1 <;> cases ((atL M z.1).1 == 1) <;> cases ((atL M z.1).2.toList == z.2.2.toList) <;> simp
end Go.Proofs.YtcpmfhalphoppaaDoor
