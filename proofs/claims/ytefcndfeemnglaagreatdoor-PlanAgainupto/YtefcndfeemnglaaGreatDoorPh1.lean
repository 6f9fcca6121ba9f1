/- Deeds done on a disk, and done once more: plain facts. No condition. -/
import Derived.Test.YtefcndfeemnglaaGreatDoorPc2
namespace Go.Proofs.YtefcndfeemnglaaGreatDoor
open Go.RowKit Go.Maps Go.WideMaps Go.WideElems Dk
set_option maxRecDepth 100000

theorem memP_put {D : DataW Unit} (hP : Plain D) {s : ByteArray} (c : Bool) (t : ByteArray) (hok : okPath s = true) (y : Fl) : y ∈ filesD (D.put (keyD s) (itemD c t)) ↔ y = (s, c, t) ∨ (y ∈ filesD D ∧ y.1 ≠ s) := by
  rw [← put_files hP.good hP.isMap (hP.put c t hok).good, putD_ins, mem_ins]
theorem memP_del {D : DataW Unit} (hP : Plain D) (s : ByteArray) (y : Fl) : y ∈ filesD (D.del (keyD s)) ↔ y ∈ filesD D ∧ y.1 ≠ s := by
  have := del_files (f := (s, false, ByteArray.empty)) hP.good (hP.del _).good
  rw [← this, putD_del, mem_filterF]
theorem has_mem {D : DataW Unit} (hP : Plain D) (s : ByteArray) : Maps.has D (keyD s) = true ↔ ∃ y ∈ filesD D, y.1 = s := by
  constructor
  · intro h
    obtain ⟨c, t, hct⟩ := hP.good.item s h
    exact ⟨(s, c, t), (hP.good.mem _).2 ⟨h, hct⟩, rfl⟩
  · rintro ⟨y, hy, rfl⟩
    exact ((hP.good.mem y).1 hy).1
theorem kindP_in {D : DataW Unit} (hP : Plain D) {y : Fl} (hy : y ∈ filesD D) : kindD D y.1 = if y.2.1 = true then 2 else 1 := by
  have hG := hP.good
  obtain ⟨h1, h2⟩ := (hG.mem y).1 hy
  obtain ⟨s, e, hok⟩ := hG.keys _ h1
  rw [← keyD_inj e] at hok
  unfold kindD
  rw [if_neg (by rw [not_root hok]; decide), if_pos h1, h2, itDir_mk]
theorem kindP_out {D : DataW Unit} (hP : Plain D) {s : ByteArray} (hr : (s.toList == [47]) = false) (hn : ∀ y ∈ filesD D, y.1 ≠ s) : kindD D s = 0 := by
  refine kind_none hr ?_
  rw [Bool.eq_false_iff]
  intro h
  obtain ⟨y, hy, e⟩ := (has_mem hP s).1 h
  exact hn y hy e
/-- Disks with the same files are the same. -/
theorem plain_eq {D E : DataW Unit} (hD : Plain D) (hE : Plain E) (h : ∀ y, y ∈ filesD D ↔ y ∈ filesD E) : D = E := by
  have hf := eq_of_rising hD.good.rise hE.good.rise h
  obtain ⟨es, rfl, _, h1⟩ := hD
  obtain ⟨fs, rfl, _, h2⟩ := hE
  congr 1
  have key : ∀ p : Lit × DataW Unit, (∃ s c t, p = (keyD s, itemD c t) ∧ okPath s = true) → (keyD (litB p.1), itemD (itDir p.2) ⟨(itData p.2).toArray⟩) = p := by
    rintro p ⟨s, c, t, rfl, _⟩
    simp only
    rw [litB_key, itDir_mk, itData_mk, bytes_mk]
  have e : ∀ (l : List (Lit × DataW Unit)), (∀ p ∈ l, ∃ s c t, p = (keyD s, itemD c t) ∧ okPath s = true) → (filesD (.map l)).map (fun f : Fl => (keyD f.1, itemD f.2.1 f.2.2)) = l := by
    intro l hl
    show (l.map _).map _ = l
    rw [List.map_map]
    conv => rhs; rw [← List.map_id l]
    exact List.map_congr_left fun p hp => key p (hl p hp)
  rw [← e es h1, ← e fs h2, hf]

/-- What a deed does to a disk on which it can be done. -/
def appD (D : DataW Unit) (x : De) : DataW Unit := if x.kd ≤ 2 then D.del (keyD x.pa) else if x.kd = 3 then D.put (keyD x.pa) (itemD true ByteArray.empty) else D.put (keyD x.pa) (itemD false x.da)
/-- What the law's does does. -/
def dD (D : DataW Unit) (x : De) : DataW Unit :=
  if (x.kd == 1) = true then (if (kindD D x.pa == 1) = true then D.del (keyD x.pa) else D)
  else if (x.kd == 2) = true then (if (kindD D x.pa == 2) = true then (if usedD D x.pa = true then D else D.del (keyD x.pa)) else D)
  else if (x.kd == 3) = true then (if (kindD D x.pa == 0) = true then (if (parentD D x.pa != 0) = true then D else D.put (keyD x.pa) (itemD true ByteArray.empty)) else D)
  else if (fileD D x.pa != 0) = true then D else D.put (keyD x.pa) (itemD false x.da)
/-- Can a deed be done? -/
def canD (D : DataW Unit) (x : De) : Bool :=
  if (x.kd == 1) = true then kindD D x.pa == 1
  else if (x.kd == 2) = true then (kindD D x.pa == 2 && !usedD D x.pa)
  else if (x.kd == 3) = true then kindD D x.pa == 0
  else kindD D x.pa != 2
/-- Was it done? -/
def wasD (D : DataW Unit) (x : De) : Bool := !((x.kd == 3 && kindD D x.pa != 2) || (x.kd == 4 && kindD D x.pa != 1))
structure OkX (x : De) : Prop where
  lo : 1 ≤ x.kd
  hi : x.kd ≤ 4
  path : okPath x.pa = true
structure OkD (D : DataW Unit) : Prop where
  pl : Plain D
  so : Sound D
theorem root_not {s : ByteArray} (h : okPath s = true) : (s.toList == [47]) = false := not_root h
theorem parent_zero {D : DataW Unit} {s : ByteArray} (h : kindD D (parentOf s) = 2) : parentD D s = 0 := by unfold parentD; rw [h]; rfl
theorem kind_has {D : DataW Unit} {s : ByteArray} (hok : okPath s = true) (h : kindD D s ≠ 0) : Maps.has D (keyD s) = true := by
  cases hh : Maps.has D (keyD s) with
  | true => rfl
  | false => exact absurd (kind_none (root_not hok) hh) h
theorem b11 : ((1 : Int) == 1) = true := rfl
theorem b22 : ((2 : Int) == 2) = true := rfl
theorem b33 : ((3 : Int) == 3) = true := rfl
theorem b43 : ¬ ((4 : Int) == 3) = true := by decide
/-- A deed that can be done, and was, does what it says. -/
theorem does_is {D : DataW Unit} (hD : OkD D) {x : De} (hx : OkX x) (hc : canD D x = true) (hw : wasD (dD D x) x = true) : dD D x = appD D x ∧ OkD (appD D x) := by
  obtain ⟨k, p, t⟩ := x
  obtain ⟨lo, hi, hp⟩ := hx
  simp only at lo hi hp
  unfold canD at hc
  unfold dD at hw ⊢
  unfold appD
  simp only at hc hw ⊢
  by_cases h1 : k = 1
  · subst h1
    rw [if_pos b11] at hc
    rw [if_pos b11, if_pos hc, if_pos (by decide)]
    refine ⟨rfl, hD.pl.del _, sound_del hD.so fun y hy e => ?_⟩
    have := hD.so y hy
    rw [e, beq_iff_eq.1 hc] at this
    cases this
  · have k1 : (k == 1) = false := beq_eq_false_iff_ne.2 h1
    rw [if_neg (by rw [k1]; decide)] at hc hw ⊢
    by_cases h2 : k = 2
    · subst h2
      rw [if_pos b22, Bool.and_eq_true, Bool.not_eq_true'] at hc
      rw [if_pos b22, if_pos hc.1, if_neg (by rw [hc.2]; decide), if_pos (by decide)]
      refine ⟨rfl, hD.pl.del _, sound_del hD.so fun y hy e => ?_⟩
      have hu : usedD D p = true := (used_iff hD.pl.strKeys p).2 ⟨y, hy, e⟩
      rw [hc.2] at hu
      cases hu
    · have k2 : (k == 2) = false := beq_eq_false_iff_ne.2 h2
      rw [if_neg (by rw [k2]; decide)] at hc hw ⊢
      by_cases h3 : k = 3
      · subst h3
        rw [if_pos b33] at hc hw ⊢
        rw [if_pos hc] at hw ⊢
        rw [if_neg (show ¬ (3 : Int) ≤ 2 by decide), if_pos rfl]
        cases hpd : (parentD D p != 0)
        · rw [if_neg (by decide)]
          exact ⟨rfl, hD.pl.put _ _ hp, sound_put hD.so hp (parentD_zero hpd) (by rw [beq_iff_eq.1 hc]; decide)⟩
        · rw [hpd, if_pos rfl] at hw
          unfold wasD at hw
          simp only at hw
          rw [beq_iff_eq.1 hc] at hw
          cases hw
      · obtain rfl : k = 4 := by omega
        rw [if_neg b43] at hc hw ⊢
        rw [if_neg (show ¬ (4 : Int) ≤ 2 by decide), if_neg (show ¬ (4 : Int) = 3 by decide)]
        have hc2 : kindD D p ≠ 2 := bne_iff_ne.1 hc
        cases hfd : (fileD D p != 0)
        · rw [if_neg (by decide)]
          have hpd : (parentD D p != 0) = false := by
            cases q : (parentD D p != 0)
            · rfl
            · unfold fileD at hfd
              rw [if_pos q, q] at hfd
              cases hfd
          exact ⟨rfl, hD.pl.put _ _ hp, sound_put hD.so hp (parentD_zero hpd) hc2⟩
        · rw [hfd, if_pos rfl] at hw
          exfalso
          unfold wasD at hw
          simp only at hw
          have hk1 : kindD D p = 1 := by
            cases q : (kindD D p != 1)
            · have : ¬ (kindD D p ≠ 1) := fun e => by rw [bne_iff_ne.2 e] at q; cases q
              omega
            · rw [q] at hw; cases hw
          have hpar := hD.so p (kind_has hp (by rw [hk1]; decide))
          unfold fileD at hfd
          rw [parent_zero hpar, hk1] at hfd
          cases hfd
/-- A deed that is done. -/
def Done (D : DataW Unit) (x : De) : Prop := (x.kd = 1 → kindD D x.pa ≠ 1) ∧ (x.kd = 2 → kindD D x.pa ≠ 2) ∧ (x.kd = 3 → kindD D x.pa = 2) ∧ (x.kd = 4 → (x.pa, false, x.da) ∈ filesD D)
/-- A deed that is done is done once more: nothing turns. -/
theorem done_again {D : DataW Unit} (hD : OkD D) {x : De} (hx : OkX x) (h : Done D x) : dD D x = D := by
  obtain ⟨k, p, t⟩ := x
  obtain ⟨lo, hi, hp⟩ := hx
  obtain ⟨d1, d2, d3, d4⟩ := h
  simp only at lo hi hp d1 d2 d3 d4
  unfold dD
  simp only
  by_cases h1 : k = 1
  · rw [if_pos (by rw [h1]; rfl), if_neg (fun e => d1 h1 (beq_iff_eq.1 e))]
  · rw [if_neg (fun e => h1 (beq_iff_eq.1 e))]
    by_cases h2 : k = 2
    · rw [if_pos (by rw [h2]; rfl), if_neg (fun e => d2 h2 (beq_iff_eq.1 e))]
    · rw [if_neg (fun e => h2 (beq_iff_eq.1 e))]
      by_cases h3 : k = 3
      · rw [if_pos (by rw [h3]; rfl), if_neg (fun e => by have := beq_iff_eq.1 e; have := d3 h3; omega)]
      · rw [if_neg (fun e => h3 (beq_iff_eq.1 e))]
        have hm := d4 (by omega)
        split
        · rfl
        · refine plain_eq (hD.pl.put _ _ hp) hD.pl fun y => ?_
          rw [memP_put hD.pl _ _ hp]
          constructor
          · rintro (rfl | ⟨hy, _⟩)
            · exact hm
            · exact hy
          · intro hy
            by_cases e : y.1 = p
            · refine Or.inl ?_
              have hap := rising_apart hD.pl.good.rise
              by_cases q : y = (p, false, t)
              · exact q
              · exfalso
                obtain ⟨i, hi2, rfl⟩ := List.getElem_of_mem hy
                obtain ⟨j, hj2, ej⟩ := List.getElem_of_mem hm
                have hne : i ≠ j := fun e2 => q (by subst e2; exact ej)
                rcases Nat.lt_or_gt_of_ne hne with hl | hl
                · exact (List.pairwise_iff_getElem.1 hap i j hi2 hj2 hl) (by rw [e, ej])
                · exact (List.pairwise_iff_getElem.1 hap j i hj2 hi2 hl) (by rw [e, ej])
            · exact Or.inr ⟨hy, e⟩
theorem kind_other {D : DataW Unit} {x : De} {s : ByteArray} (h : s ≠ x.pa) : kindD (appD D x) s = kindD D s := by
  unfold appD
  split
  · exact kind_del_other h
  · split
    · exact kind_put_other h
    · exact kind_put_other h
theorem mem_other {D : DataW Unit} (hP : Plain D) {x : De} (hx : OkX x) {y : Fl} (h : y.1 ≠ x.pa) : y ∈ filesD (appD D x) ↔ y ∈ filesD D := by
  unfold appD
  split
  · rw [memP_del hP]; exact ⟨fun q => q.1, fun q => ⟨q, h⟩⟩
  · split
    · rw [memP_put hP _ _ hx.path]; exact ⟨fun q => q.elim (fun e => absurd (by rw [e]) h) (fun q => q.1), fun q => Or.inr ⟨q, h⟩⟩
    · rw [memP_put hP _ _ hx.path]; exact ⟨fun q => q.elim (fun e => absurd (by rw [e]) h) (fun q => q.1), fun q => Or.inr ⟨q, h⟩⟩
/-- The kind behind a deed. -/
theorem kind_own {D : DataW Unit} (hP : Plain D) {x : De} (hx : OkX x) : kindD (appD D x) x.pa = if x.kd ≤ 2 then 0 else if x.kd = 3 then 2 else 1 := by
  have hr := root_not hx.path
  unfold appD
  by_cases h2 : x.kd ≤ 2
  · rw [if_pos h2, if_pos h2]
    exact kindP_out (hP.del _) hr fun y hy => ((memP_del hP _ y).1 hy).2
  · rw [if_neg h2, if_neg h2]
    by_cases h3 : x.kd = 3
    · rw [if_pos h3, if_pos h3]
      exact kindP_in (hP.put true ByteArray.empty hx.path) (y := (x.pa, true, ByteArray.empty)) ((memP_put hP _ _ hx.path _).2 (Or.inl rfl))
    · rw [if_neg h3, if_neg h3]
      exact kindP_in (hP.put false x.da hx.path) (y := (x.pa, false, x.da)) ((memP_put hP _ _ hx.path _).2 (Or.inl rfl))
/-- What is done stays done. -/
theorem done_next {D : DataW Unit} (hD : OkD D) {pre : List De} {x : De} (hx : OkX x) (hpl : okDe pre x = true) (hpre : ∀ a ∈ pre, OkX a ∧ Done D a) : ∀ a ∈ pre ++ [x], Done (appD D x) a := by
  intro a ha
  rcases List.mem_append.1 ha with ha | ha
  · obtain ⟨hax, d1, d2, d3, d4⟩ := hpre a ha
    by_cases e : a.pa = x.pa
    · have hpair : pairB a.kd x.kd = true := by
        unfold okDe at hpl
        simp only [Bool.and_eq_true, List.all_eq_true] at hpl
        have := hpl.2.1 a ha
        unfold atP at this
        rw [e] at this
        simpa using this
      have hk := kind_own hD.pl hx
      unfold pairB at hpair
      simp only [Bool.or_eq_true, Bool.and_eq_true, beq_iff_eq] at hpair
      rcases hpair with ⟨q1, q2⟩ | ⟨q1, q2⟩
      · rw [if_neg (by omega), if_pos q2] at hk
        refine ⟨fun _ => by rw [e, hk]; decide, fun h => by omega, fun h => by omega, fun h => by omega⟩
      · rw [if_neg (by omega), if_neg (by omega)] at hk
        refine ⟨fun h => by omega, fun _ => by rw [e, hk]; decide, fun h => by omega, fun h => by omega⟩
    · have hk := kind_other (D := D) (x := x) e
      refine ⟨fun h => by rw [hk]; exact d1 h, fun h => by rw [hk]; exact d2 h, fun h => by rw [hk]; exact d3 h, fun h => (mem_other hD.pl hx e).2 (d4 h)⟩
  · obtain rfl := List.mem_singleton.1 ha
    have hk := kind_own hD.pl hx
    refine ⟨fun h => by rw [hk, if_pos (by omega)]; decide, fun h => by rw [hk, if_pos (by omega)]; decide, fun h => by rw [hk, if_neg (by omega), if_pos h], fun h => ?_⟩
    unfold appD
    rw [if_neg (by omega), if_neg (by omega)]
    exact (memP_put hD.pl _ _ hx.path _).2 (Or.inl rfl)
/-- The disk behind the first deeds. -/
def runD (D : DataW Unit) (l : List De) (i : Nat) : DataW Unit := (l.take i).foldl appD D
theorem runD_succ {D : DataW Unit} {l : List De} {i : Nat} (h : i < l.length) : runD D l (i + 1) = appD (runD D l i) l[i] := by
  unfold runD
  rw [List.take_succ_eq_append_getElem h, List.foldl_append]
  rfl
/-- What holds while deeds are done one by one. -/
structure RunI (D : DataW Unit) (l : List De) (i : Nat) : Prop where
  le : i ≤ l.length
  ok : ∀ j, j ≤ i → OkD (runD D l j)
  step : ∀ j (h : j < l.length), j < i → dD (runD D l j) l[j] = runD D l (j + 1)
  done : ∀ j, j ≤ i → ∀ a ∈ l.take j, OkX a ∧ Done (runD D l j) a
theorem RunI.start {D : DataW Unit} (h : OkD D) (l : List De) : RunI D l 0 := by
  refine ⟨Nat.zero_le _, fun j hj => ?_, fun j _ hj => absurd hj (Nat.not_lt_zero _), fun j hj a ha => ?_⟩
  · obtain rfl : j = 0 := by omega
    exact h
  · obtain rfl : j = 0 := by omega
    cases ha
theorem RunI.next {D : DataW Unit} {l : List De} {i : Nat} (h : RunI D l i) (hp : Plan l) (hi : i < l.length) (hc : canD (runD D l i) l[i] = true) (hw : wasD (dD (runD D l i) l[i]) l[i] = true) : RunI D l (i + 1) := by
  have hpp := hp.parts l[i] (List.getElem_mem hi)
  have hx : OkX l[i] := ⟨hpp.1, hpp.2.1, hpp.2.2.2⟩
  obtain ⟨e1, e2⟩ := does_is (h.ok i (Nat.le_refl _)) hx hc hw
  refine ⟨hi, fun j hj => ?_, fun j hj hji => ?_, fun j hj a ha => ?_⟩
  · by_cases e : j = i + 1
    · rw [e, runD_succ hi]; exact e2
    · exact h.ok j (by omega)
  · by_cases e : j = i
    · subst e; rw [runD_succ hi]; exact e1
    · exact h.step j hj (by omega)
  · by_cases e : j = i + 1
    · subst e
      rw [List.take_succ_eq_append_getElem hi] at ha
      refine ⟨?_, ?_⟩
      · rcases List.mem_append.1 ha with q | q
        · exact (h.done i (Nat.le_refl _) a q).1
        · rw [List.mem_singleton.1 q]; exact hx
      · rw [runD_succ hi]
        exact done_next (h.ok i (Nat.le_refl _)) hx (hp i hi) (h.done i (Nat.le_refl _)) a ha
    · exact h.done j (by omega) a ha
/-- Done once more from the beginning. -/
theorem RunI.again {D : DataW Unit} {l : List De} (h : RunI D l l.length) {g j : Nat} (hg : g ≤ l.length) (hj : j < l.length) : dD (runD D l (max g j)) l[j] = runD D l (max g (j + 1)) := by
  by_cases e : j < g
  · rw [Nat.max_eq_left (by omega), Nat.max_eq_left (by omega)]
    have hm : l[j] ∈ l.take g := List.mem_take_iff_getElem.2 ⟨j, by omega, rfl⟩
    obtain ⟨h1, h2⟩ := h.done g hg l[j] hm
    exact done_again (h.ok g hg) h1 h2
  · rw [Nat.max_eq_right (by omega), Nat.max_eq_right (by omega)]
    exact h.step j hj hj
end Go.Proofs.YtefcndfeemnglaaGreatDoor
