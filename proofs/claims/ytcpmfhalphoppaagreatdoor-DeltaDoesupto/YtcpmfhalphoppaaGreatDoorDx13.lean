/- Deeds done one behind the other: each is possible, and in the end there is just the other set. Plain facts. -/
import Derived.Test.YtcpmfhalphoppaaGreatDoorDx9
namespace Go.Proofs.YtcpmfhalphoppaaGreatDoor
open Go.RowKit Go.Maps Dk
set_option maxRecDepth 100000

/-- A set of files that hangs together. -/
structure Hang (L : List Fl) : Prop where
  rise : Rising L
  ok : ∀ y ∈ L, okPath y.1 = true
  dirs : ∀ y ∈ L, y.2.1 = true → y.2.2 = ByteArray.empty
  above : ∀ y ∈ L, ((parentOf y.1).toList == [47]) = true ∨ ∃ z ∈ L, z.1 = parentOf y.1 ∧ z.2.1 = true
theorem Hang.apart {L : List Fl} (h : Hang L) : Apart L := rising_apart h.rise

theorem kind_in {D : DataW Unit} (hP : Plain D) {y : Fl} (hy : y ∈ filesD D) : kindD D y.1 = kdF y := by
  have hG := hP.good
  obtain ⟨h1, h2⟩ := (hG.mem y).1 hy
  obtain ⟨s, e, hok⟩ := hG.keys _ h1
  rw [← keyD_inj e] at hok
  unfold kindD kdF
  rw [if_neg (by rw [not_root hok]; decide), if_pos h1, h2, itDir_mk]
theorem kind_out {D : DataW Unit} (hP : Plain D) {s : ByteArray} (hr : (s.toList == [47]) = false) (hn : ∀ y ∈ filesD D, y.1 ≠ s) : kindD D s = 0 := by
  refine kind_none hr ?_
  rw [Bool.eq_false_iff]
  intro h
  obtain ⟨c, t, hct⟩ := hP.good.item s h
  exact hn (s, c, t) ((hP.good.mem _).2 ⟨h, hct⟩) rfl
theorem mem_put {D : DataW Unit} (hP : Plain D) {s : ByteArray} (c : Bool) (t : ByteArray) (hok : okPath s = true) (y : Fl) : y ∈ filesD (D.put (keyD s) (itemD c t)) ↔ y = (s, c, t) ∨ (y ∈ filesD D ∧ y.1 ≠ s) := by
  rw [← put_files hP.good hP.isMap (hP.put c t hok).good, putD_ins, mem_ins]
theorem mem_del {D : DataW Unit} (hP : Plain D) (s : ByteArray) (y : Fl) : y ∈ filesD (D.del (keyD s)) ↔ y ∈ filesD D ∧ y.1 ≠ s := by
  have := del_files (f := (s, false, ByteArray.empty)) hP.good (hP.del _).good
  rw [← this, putD_del, mem_filterF]
theorem hang_of {fs : List Fl} (h : OkJ fs) : Hang (filesD (loadD fs)) := by
  have hP := loads_plain h.1
  have o := ordL h.1
  refine ⟨o.rise, fun y hy => okF_path (loads_ok h.1 y ((o.mem y).1 hy)), fun y hy => o.dirs y ((o.mem y).1 hy), fun y hy => ?_⟩
  have hs := load_sound h.1 y.1 ((hP.good.mem y).1 hy).1
  cases hr : ((parentOf y.1).toList == [47]) with
  | true => exact Or.inl rfl
  | false =>
    right
    have hh := kind_two_has hs hr
    obtain ⟨c, t, hct⟩ := hP.good.item _ hh
    have hz : ((parentOf y.1, c, t) : Fl) ∈ filesD (loadD fs) := (hP.good.mem _).2 ⟨hh, hct⟩
    refine ⟨_, hz, rfl, ?_⟩
    have := kind_in hP hz
    rw [show ((parentOf y.1, c, t) : Fl).1 = parentOf y.1 from rfl, hs] at this
    unfold kdF at this
    cases c
    · simp at this
    · rfl

theorem before_take : ∀ (l : List UInt8) (i : Nat), i < l.length → bytesBefore (l.take i) l = true
  | [], i, h => by cases h
  | x :: l, 0, _ => by simp [bytesBefore]
  | x :: l, i + 1, h => by
    rw [List.take_succ_cons]
    unfold bytesBefore
    simp [before_take l i (by simpa using h)]
theorem parent_before {s : ByteArray} (hok : okPath s = true) (hr : ((parentOf s).toList == [47]) = false) : bytesBefore (parentOf s).data.toList s.data.toList = true := by
  obtain ⟨i, hi, hl, _, _⟩ := last_at (okPath_parts hok).2
  have hp : parentOf s = s.extract 0 i := by
    unfold parentOf at hr ⊢
    rw [hl] at hr ⊢
    by_cases h0 : (i : Int) = 0
    · rw [if_pos h0] at hr
      exact absurd hr (by decide +kernel)
    · rw [if_neg h0, Int.toNat_natCast]
  rw [hp, ext_list]
  refine before_take _ _ ?_
  rw [Array.length_toList]
  exact hi

/-- What a deed is. -/
theorem mem_deD {L M : List Fl} {d : De} : d ∈ deD L M ↔ (∃ y ∈ L, wU M y = true ∧ d = dU y) ∨ (∃ y ∈ L, wR M y = true ∧ d = dR y) ∨ (∃ y ∈ M, wM L y = true ∧ d = dM y) ∨ (∃ y ∈ M, wP L y = true ∧ d = dP y) := by
  unfold deD lU lR lM lP
  simp only [List.mem_append, List.mem_map, List.mem_filter, List.mem_reverse]
  constructor
  · rintro (((⟨y, ⟨h1, h2⟩, rfl⟩ | ⟨y, ⟨h1, h2⟩, rfl⟩) | ⟨y, ⟨h1, h2⟩, rfl⟩) | ⟨y, ⟨h1, h2⟩, rfl⟩)
    · exact Or.inl ⟨y, h1, h2, rfl⟩
    · exact Or.inr (Or.inl ⟨y, h1, h2, rfl⟩)
    · exact Or.inr (Or.inr (Or.inl ⟨y, h1, h2, rfl⟩))
    · exact Or.inr (Or.inr (Or.inr ⟨y, h1, h2, rfl⟩))
  · rintro (⟨y, h1, h2, rfl⟩ | ⟨y, h1, h2, rfl⟩ | ⟨y, h1, h2, rfl⟩ | ⟨y, h1, h2, rfl⟩)
    · exact Or.inl (Or.inl (Or.inl ⟨y, ⟨h1, h2⟩, rfl⟩))
    · exact Or.inl (Or.inl (Or.inr ⟨y, ⟨h1, h2⟩, rfl⟩))
    · exact Or.inl (Or.inr ⟨y, ⟨h1, h2⟩, rfl⟩)
    · exact Or.inr ⟨y, ⟨h1, h2⟩, rfl⟩
theorem wU_iff {M : List Fl} (hM : Apart M) {y : Fl} : wU M y = true ↔ y.2.1 = false ∧ ∀ z ∈ M, z.1 = y.1 → z.2.1 = true := by
  unfold wU
  rw [Bool.and_eq_true, Bool.not_eq_true', Bool.not_eq_true']
  refine and_congr_right fun _ => ?_
  rcases atL_cases hM y.1 with ⟨z, hz, e1, e2⟩ | ⟨hn, e2⟩
  · rw [e2]
    unfold toldF
    constructor
    · intro h z' hz' e'
      obtain rfl := uniq_key hM hz hz' (e1.trans e'.symm)
      cases hc : z.2.1 with
      | true => rfl
      | false => rw [hc] at h; simp at h
    · intro h; rw [h z hz e1]; rfl
  · rw [e2]
    exact ⟨fun _ z hz e => absurd e (hn z hz), fun _ => rfl⟩
theorem wR_iff {M : List Fl} (hM : Apart M) {y : Fl} : wR M y = true ↔ y.2.1 = true ∧ ∀ z ∈ M, z.1 = y.1 → z.2.1 = false := by
  unfold wR
  rw [Bool.and_eq_true, Bool.not_eq_true']
  refine and_congr_right fun _ => ?_
  rcases atL_cases hM y.1 with ⟨z, hz, e1, e2⟩ | ⟨hn, e2⟩
  · rw [e2]
    unfold toldF
    constructor
    · intro h z' hz' e'
      obtain rfl := uniq_key hM hz hz' (e1.trans e'.symm)
      cases hc : z.2.1 with
      | false => rfl
      | true => rw [hc] at h; simp at h
    · intro h; rw [h z hz e1]; rfl
  · rw [e2]
    exact ⟨fun _ z hz e => absurd e (hn z hz), fun _ => rfl⟩
theorem wP_iff {L : List Fl} (hL : Apart L) {y : Fl} : wP L y = true ↔ y.2.1 = false ∧ ∀ z ∈ L, z.1 = y.1 → z.2.1 = true ∨ z.2.2 ≠ y.2.2 := by
  unfold wP
  rw [Bool.and_eq_true, Bool.not_eq_true']
  refine and_congr_right fun _ => ?_
  rcases atL_cases hL y.1 with ⟨z, hz, e1, e2⟩ | ⟨hn, e2⟩
  · rw [e2]
    unfold toldF
    constructor
    · intro h z' hz' e'
      obtain rfl := uniq_key hL hz hz' (e1.trans e'.symm)
      cases hc : z.2.1 with
      | true => exact Or.inl rfl
      | false =>
        right
        intro e
        rw [hc, e] at h
        simp at h
    · intro h
      rcases h z hz e1 with q | q
      · rw [q]; rfl
      · cases hc : z.2.1 with
        | true => rfl
        | false =>
          have : (z.2.2.toList == y.2.2.toList) = false := Bool.eq_false_iff.2 fun e => q (beq_bytes.1 e)
          simp [this]
  · rw [e2]
    exact ⟨fun _ z hz e => absurd e (hn z hz), fun _ => rfl⟩

/-- The order of all deeds. -/
def ordD (a b : De) : Prop := a.kd < b.kd ∨ (a.kd = b.kd ∧ (a.kd ≤ 2 → bytesBefore b.pa.data.toList a.pa.data.toList = true) ∧ (3 ≤ a.kd → bytesBefore a.pa.data.toList b.pa.data.toList = true))
theorem ord_deD {L M : List Fl} (hL : Rising L) (hM : Rising M) : (deD L M).Pairwise ordD := by
  have h1 : (lU M L.reverse).Pairwise ordD := by
    refine (pair_fall hL (k := 1) (f := dU) (w := wU M) (fun _ => rfl) (fun _ => rfl)).imp_of_mem fun {a b} ha hb h => ?_
    obtain ⟨x, _, rfl⟩ := List.mem_map.1 ha
    obtain ⟨y, _, rfl⟩ := List.mem_map.1 hb
    rcases h with h | ⟨e, h⟩
    · exact Or.inl h
    · exact Or.inr ⟨e, fun _ => by simpa using h, fun q => absurd q (by show ¬ (3 : Int) ≤ 1; omega)⟩
  have h2 : (lR M L.reverse).Pairwise ordD := by
    refine (pair_fall hL (k := 2) (f := dR) (w := wR M) (fun _ => rfl) (fun _ => rfl)).imp_of_mem fun {a b} ha hb h => ?_
    obtain ⟨x, _, rfl⟩ := List.mem_map.1 ha
    obtain ⟨y, _, rfl⟩ := List.mem_map.1 hb
    rcases h with h | ⟨e, h⟩
    · exact Or.inl h
    · exact Or.inr ⟨e, fun _ => by simpa using h, fun q => absurd q (by show ¬ (3 : Int) ≤ 2; omega)⟩
  have h3 : (lM L M).Pairwise ordD := by
    refine (pair_rise hM (k := 3) (f := dM) (w := wM L) (fun _ => rfl) (fun _ => rfl)).imp_of_mem fun {a b} ha hb h => ?_
    obtain ⟨x, _, rfl⟩ := List.mem_map.1 ha
    obtain ⟨y, _, rfl⟩ := List.mem_map.1 hb
    rcases h with h | ⟨e, h⟩
    · exact Or.inl h
    · exact Or.inr ⟨e, fun q => absurd q (by show ¬ (3 : Int) ≤ 2; omega), fun _ => by simpa using h⟩
  have h4 : (lP L M).Pairwise ordD := by
    refine (pair_rise hM (k := 4) (f := dP) (w := wP L) (fun _ => rfl) (fun _ => rfl)).imp_of_mem fun {a b} ha hb h => ?_
    obtain ⟨x, _, rfl⟩ := List.mem_map.1 ha
    obtain ⟨y, _, rfl⟩ := List.mem_map.1 hb
    rcases h with h | ⟨e, h⟩
    · exact Or.inl h
    · exact Or.inr ⟨e, fun q => absurd q (by show ¬ (4 : Int) ≤ 2; omega), fun _ => by simpa using h⟩
  have k1 : ∀ a ∈ lU M L.reverse, a.kd = 1 := fun a ha => by obtain ⟨x, _, rfl⟩ := List.mem_map.1 ha; rfl
  have k2 : ∀ a ∈ lR M L.reverse, a.kd = 2 := fun a ha => by obtain ⟨x, _, rfl⟩ := List.mem_map.1 ha; rfl
  have k3 : ∀ a ∈ lM L M, a.kd = 3 := fun a ha => by obtain ⟨x, _, rfl⟩ := List.mem_map.1 ha; rfl
  have k4 : ∀ a ∈ lP L M, a.kd = 4 := fun a ha => by obtain ⟨x, _, rfl⟩ := List.mem_map.1 ha; rfl
  unfold deD
  rw [List.pairwise_append, List.pairwise_append, List.pairwise_append]
  refine ⟨⟨⟨h1, h2, fun a ha b hb => Or.inl (by rw [k1 a ha, k2 b hb]; decide)⟩, h3, fun a ha b hb => Or.inl ?_⟩, h4, fun a ha b hb => Or.inl ?_⟩
  · rw [k3 b hb]
    rcases List.mem_append.1 ha with q | q
    · rw [k1 a q]; decide
    · rw [k2 a q]; decide
  · rw [k4 b hb]
    rcases List.mem_append.1 ha with q | q
    · rcases List.mem_append.1 q with q | q
      · rw [k1 a q]; decide
      · rw [k2 a q]; decide
    · rw [k3 a q]; decide

/-- What is there when some deeds are done. -/
def StD (L : List Fl) (pre : List De) (y : Fl) : Prop := (y ∈ L ∧ ∀ d ∈ pre, d.kd ≠ 3 → d.pa ≠ y.1) ∨ (∃ d ∈ pre, d.kd = 3 ∧ y = (d.pa, true, ByteArray.empty)) ∨ (∃ d ∈ pre, d.kd = 4 ∧ y = (d.pa, false, d.da))
/-- A deed done on a disk. -/
def doesD (x : Ab) (d : De) : Int × Ab := if d.kd ≤ 2 then removeD x d.pa else if d.kd = 3 then mkdirD x d.pa else writeFD x d.pa d.da

theorem kinds1 {L M : List Fl} {d : De} (h : d ∈ deD L M) : d.kd = 1 ∨ d.kd = 2 ∨ d.kd = 3 ∨ d.kd = 4 := by
  rcases mem_deD.1 h with ⟨y, _, _, rfl⟩ | ⟨y, _, _, rfl⟩ | ⟨y, _, _, rfl⟩ | ⟨y, _, _, rfl⟩
  · exact Or.inl rfl
  · exact Or.inr (Or.inl rfl)
  · exact Or.inr (Or.inr (Or.inl rfl))
  · exact Or.inr (Or.inr (Or.inr rfl))
/-- What is taken away is there no more. -/
theorem st_remove {L : List Fl} {pre : List De} {d : De} {y : Fl} {s : ByteArray} (hk : ∀ a ∈ pre, a.kd ≤ d.kd) (hs : d.pa = s) (h2 : d.kd ≤ 2) : (StD L pre y ∧ y.1 ≠ s) ↔ StD L (pre ++ [d]) y := by
  constructor
  · rintro ⟨⟨h1, h3⟩ | ⟨a, ha, q, _⟩ | ⟨a, ha, q, _⟩, hne⟩
    · refine Or.inl ⟨h1, fun a ha h4 => ?_⟩
      rcases List.mem_append.1 ha with q | q
      · exact h3 a q h4
      · rw [List.mem_singleton.1 q, hs]
        exact fun e => hne e.symm
    · have := hk a ha; omega
    · have := hk a ha; omega
  · rintro (⟨h1, h3⟩ | ⟨a, ha, q, _⟩ | ⟨a, ha, q, _⟩)
    · exact ⟨Or.inl ⟨h1, fun a ha => h3 a (List.mem_append_left _ ha)⟩, fun e => h3 d (by simp) (by omega) (by rw [hs, e])⟩
    · rcases List.mem_append.1 ha with r | r
      · have := hk a r; omega
      · rw [List.mem_singleton.1 r] at q; omega
    · rcases List.mem_append.1 ha with r | r
      · have := hk a r; omega
      · rw [List.mem_singleton.1 r] at q; omega

theorem bb_irr {s t : ByteArray} (h : bytesBefore s.data.toList t.data.toList = true) : s ≠ t := fun e => by rw [e, WideAt.bytes_irrefl] at h; cases h
theorem writeD_zero {s : ByteArray} (h : okPath s = true) : (writeD (-1) [s] != 0) = false := by unfold writeD; simp [h]

theorem st_ord {L M : List Fl} (hL : Hang L) (hM : Hang M) {pre rest : List De} {d : De} (hd : pre ++ d :: rest = deD L M) : (∀ a ∈ pre, ordD a d) ∧ ∀ b ∈ rest, ordD d b := by
  have h := ord_deD hL.rise hM.rise
  rw [← hd, List.pairwise_append, List.pairwise_cons] at h
  exact ⟨fun a ha => h.2.2 a ha d List.mem_cons_self, h.2.1.1⟩
theorem st_in {L M : List Fl} {pre rest : List De} {d : De} (hd : pre ++ d :: rest = deD L M) : d ∈ deD L M := by rw [← hd]; exact List.mem_append_right _ List.mem_cons_self
theorem st_pre {L M : List Fl} {pre rest : List De} {d : De} (hd : pre ++ d :: rest = deD L M) {a : De} (ha : a ∈ pre) : a ∈ deD L M := by rw [← hd]; exact List.mem_append_left _ ha
/-- What comes ahead was done. -/
theorem st_done {L M : List Fl} (hL : Hang L) (hM : Hang M) {pre rest : List De} {d : De} (hd : pre ++ d :: rest = deD L M) {a : De} (ha : a ∈ deD L M) (h : a.kd < d.kd ∨ (a.kd = d.kd ∧ ((a.kd ≤ 2 ∧ bytesBefore d.pa.data.toList a.pa.data.toList = true) ∨ (3 ≤ a.kd ∧ bytesBefore a.pa.data.toList d.pa.data.toList = true)))) : a ∈ pre := by
  rw [← hd] at ha
  rcases List.mem_append.1 ha with q | q
  · exact q
  · exfalso
    rcases List.mem_cons.1 q with rfl | q
    · rcases h with h | ⟨_, ⟨_, h⟩ | ⟨_, h⟩⟩
      · omega
      · rw [WideAt.bytes_irrefl] at h; cases h
      · rw [WideAt.bytes_irrefl] at h; cases h
    · rcases (st_ord hL hM hd).2 a q with o | ⟨o1, o2, o3⟩
      · rcases h with h | ⟨h, _⟩ <;> omega
      · rcases h with h | ⟨h, ⟨h1, h2⟩ | ⟨h1, h2⟩⟩
        · omega
        · have := o2 (by omega)
          rw [Dk.before_asymm h2] at this; cases this
        · have := o3 (by omega)
          rw [Dk.before_asymm h2] at this; cases this
theorem st_kd {L M : List Fl} (hL : Hang L) (hM : Hang M) {pre rest : List De} {d : De} (hd : pre ++ d :: rest = deD L M) {a : De} (ha : a ∈ pre) : a.kd ≤ d.kd := by
  rcases (st_ord hL hM hd).1 a ha with o | ⟨o, _⟩ <;> omega
theorem st_ne {L M : List Fl} (hL : Hang L) (hM : Hang M) {pre rest : List De} {d : De} (hd : pre ++ d :: rest = deD L M) {a : De} (ha : a ∈ pre) (hk : a.kd = d.kd) : a.pa ≠ d.pa := by
  rcases (st_ord hL hM hd).1 a ha with o | ⟨o1, o2, o3⟩
  · omega
  · by_cases q : a.kd ≤ 2
    · exact fun e => bb_irr (o2 q) e.symm
    · exact bb_irr (o3 (by omega))

/-- The directory around what comes is there. -/
theorem st_parent {L M : List Fl} (hL : Hang L) (hM : Hang M) {pre rest : List De} {d : De} (hd : pre ++ d :: rest = deD L M) {y : Fl} (hy : y ∈ M) (hdy : d.pa = y.1) (hk : d.kd = 3 ∨ d.kd = 4) : ((parentOf y.1).toList == [47]) = true ∨ StD L pre (parentOf y.1, true, ByteArray.empty) := by
  rcases hM.above y hy with h | ⟨z, hz, e1, e2⟩
  · exact Or.inl h
  · cases hr : ((parentOf y.1).toList == [47]) with
    | true => exact Or.inl rfl
    | false =>
      right
      have hzE : z = (parentOf y.1, true, ByteArray.empty) := by
        obtain ⟨a, b, c⟩ := z
        have := hM.dirs _ hz e2
        simp only at e1 e2 this
        rw [e1, e2, this]
      by_cases hzL : ∃ z' ∈ L, z'.1 = z.1 ∧ z'.2.1 = true
      · obtain ⟨z', hz', e3, e4⟩ := hzL
        have hzz : z' = z := by
          obtain ⟨a, b, c⟩ := z'
          obtain ⟨a', b', c'⟩ := z
          have q1 := hL.dirs _ hz' e4
          have q2 := hM.dirs _ hz e2
          simp only at e2 e3 e4 q1 q2
          rw [e3, e4, e2, q1, q2]
        subst hzz
        left
        rw [← hzE]
        refine ⟨hz', fun a ha h3 e => ?_⟩
        rcases mem_deD.1 (st_pre hd ha) with ⟨u, hu, hw, rfl⟩ | ⟨u, hu, hw, rfl⟩ | ⟨u, hu, hw, rfl⟩ | ⟨u, hu, hw, rfl⟩
        · have : u = z' := uniq_key hL.apart hu hz' e
          subst this
          rw [((wU_iff hM.apart).1 hw).1] at e2; cases e2
        · have : u = z' := uniq_key hL.apart hu hz' e
          subst this
          have := ((wR_iff hM.apart).1 hw).2 u hz rfl
          rw [e2] at this; cases this
        · exact h3 rfl
        · have : u = z' := uniq_key hM.apart hu hz e
          subst this
          rw [((wP_iff hL.apart).1 hw).1] at e2; cases e2
      · have hw : wM L z = true := (wR_iff hL.apart).2 ⟨e2, fun z' hz' e => by
          cases hc : z'.2.1 with
          | false => rfl
          | true => exact absurd ⟨z', hz', e, hc⟩ hzL⟩
        have hin : dM z ∈ deD L M := mem_deD.2 (Or.inr (Or.inr (Or.inl ⟨z, hz, hw, rfl⟩)))
        have hpre : dM z ∈ pre := by
          refine st_done hL hM hd hin ?_
          rcases hk with hk | hk
          · right
            refine ⟨hk.symm, Or.inr ⟨by show (3 : Int) ≤ 3; omega, ?_⟩⟩
            show bytesBefore z.1.data.toList d.pa.data.toList = true
            rw [e1, hdy]
            exact parent_before (hM.ok y hy) hr
          · left
            rw [hk]
            show (3 : Int) < 4
            omega
        right; left
        exact ⟨dM z, hpre, rfl, by show _ = (z.1, true, ByteArray.empty); rw [e1]⟩

/-- Each deed is possible, and does what it says. -/
theorem does_step {L M : List Fl} (hL : Hang L) (hM : Hang M) {pre rest : List De} {d : De} (hd : pre ++ d :: rest = deD L M) {D : DataW Unit} (hP : Plain D) (hS : ∀ y : Fl, y ∈ filesD D ↔ StD L pre y) (rs : List (Int × ByteArray × ByteArray)) :
    okPath d.pa = true ∧ (d.kd = 1 → kindD D d.pa = 1) ∧ (d.kd = 2 → kindD D d.pa = 2) ∧ ∃ D' r, doesD ⟨D, rs, -1⟩ d = (0, ⟨D', rs ++ [r], -1⟩) ∧ Plain D' ∧ ∀ y : Fl, y ∈ filesD D' ↔ StD L (pre ++ [d]) y := by
  have hin := st_in hd
  have hkd := fun {a} => st_kd hL hM hd (a := a)
  have hne := fun {a} => st_ne hL hM hd (a := a)
  rcases mem_deD.1 hin with ⟨x, hx, hw, rfl⟩ | ⟨x, hx, hw, rfl⟩ | ⟨x, hx, hw, rfl⟩ | ⟨x, hx, hw, rfl⟩
  · -- a file goes
    obtain ⟨hf, hz⟩ := (wU_iff hM.apart).1 hw
    have hok := hL.ok x hx
    have hxS : x ∈ filesD D := (hS x).2 (Or.inl ⟨hx, fun a ha _ e => by
      have h1 : a.kd ≤ 1 := hkd ha
      rcases kinds1 (st_pre hd ha) with q | q | q | q
      · exact hne ha q e
      all_goals omega⟩)
    have hk : kindD D x.1 = 1 := by rw [kind_in hP hxS]; unfold kdF; rw [hf]; rfl
    refine ⟨hok, fun _ => hk, fun q => absurd q (by show ¬ (1 : Int) = 2; omega), D.del (keyD x.1), (4, x.1, ByteArray.empty), ?_, hP.del _, fun y => ?_⟩
    · show (if (1 : Int) ≤ 2 then removeD _ x.1 else _) = _
      rw [if_pos (by decide)]
      unfold removeD noteAb
      simp only
      rw [if_neg (by rw [writeD_zero hok]; decide), if_neg (by rw [hk]; decide), if_neg (by rw [hk]; simp)]
      rfl
    · rw [mem_del hP, hS]
      exact st_remove (fun a ha => hkd ha) rfl (by show (1 : Int) ≤ 2; omega)
  · -- a directory goes
    obtain ⟨hf, hz⟩ := (wR_iff hM.apart).1 hw
    have hok := hL.ok x hx
    have hxS : x ∈ filesD D := (hS x).2 (Or.inl ⟨hx, fun a ha _ e => by
      have h1 : a.kd ≤ 2 := hkd ha
      rcases mem_deD.1 (st_pre hd ha) with ⟨u, hu, hwu, rfl⟩ | ⟨u, hu, hwu, rfl⟩ | ⟨u, hu, hwu, rfl⟩ | ⟨u, hu, hwu, rfl⟩
      · have : u = x := uniq_key hL.apart hu hx e
        subst this
        rw [((wU_iff hM.apart).1 hwu).1] at hf; cases hf
      · exact hne ha rfl e
      · exact absurd h1 (by show ¬ (3 : Int) ≤ 2; omega)
      · exact absurd h1 (by show ¬ (4 : Int) ≤ 2; omega)⟩)
    have hk : kindD D x.1 = 2 := by rw [kind_in hP hxS]; unfold kdF; rw [hf]; rfl
    have hu : usedD D x.1 = false := by
      rw [Bool.eq_false_iff]
      intro hu
      obtain ⟨s, hs, hps⟩ := (used_iff hP.strKeys x.1).1 hu
      obtain ⟨c, t, hct⟩ := hP.good.item s hs
      have hy : ((s, c, t) : Fl) ∈ filesD D := (hP.good.mem _).2 ⟨hs, hct⟩
      rcases (hS _).1 hy with ⟨hyL, hno⟩ | ⟨a, ha, h3, _⟩ | ⟨a, ha, h4, _⟩
      · have hyM : ∀ z ∈ M, z.1 ≠ s := fun z hzM e => by
          rcases hM.above z hzM with q | ⟨v, hv, e1, e2⟩
          · rw [e, hps, not_root hok] at q; cases q
          · have := hz v hv (by rw [e1, e, hps])
            rw [e2] at this; cases this
        cases hc : c with
        | false =>
          subst hc
          have hwy : wU M (s, false, t) = true := (wU_iff hM.apart).2 ⟨rfl, fun z hz e => absurd e (hyM z hz)⟩
          have hpre := st_done hL hM hd (mem_deD.2 (Or.inl ⟨_, hyL, hwy, rfl⟩)) (Or.inl (by show (1 : Int) < 2; omega))
          exact hno _ hpre (by show ¬ (1 : Int) = 3; omega) rfl
        | true =>
          subst hc
          have hwy : wR M (s, true, t) = true := (wR_iff hM.apart).2 ⟨rfl, fun z hz e => absurd e (hyM z hz)⟩
          have hbb : bytesBefore x.1.data.toList s.data.toList = true := by
            have h1 := parent_before (s := s) (hL.ok _ hyL) (by rw [hps]; exact not_root hok)
            rwa [hps] at h1
          have hpre := st_done hL hM hd (mem_deD.2 (Or.inr (Or.inl ⟨_, hyL, hwy, rfl⟩))) (Or.inr ⟨rfl, Or.inl ⟨by show (2 : Int) ≤ 2; omega, hbb⟩⟩)
          exact hno _ hpre (by show ¬ (2 : Int) = 3; omega) rfl
      · have : a.kd ≤ 2 := hkd ha
        omega
      · have : a.kd ≤ 2 := hkd ha
        omega
    refine ⟨hok, fun q => absurd q (by show ¬ (2 : Int) = 1; omega), fun _ => hk, D.del (keyD x.1), (4, x.1, ByteArray.empty), ?_, hP.del _, fun y => ?_⟩
    · show (if (2 : Int) ≤ 2 then removeD _ x.1 else _) = _
      rw [if_pos (by decide)]
      unfold removeD noteAb
      simp only
      rw [if_neg (by rw [writeD_zero hok]; decide), if_neg (by rw [hk]; decide), if_neg (by rw [hu, Bool.and_false]; decide)]
      rfl
    · rw [mem_del hP, hS]
      exact st_remove (fun a ha => hkd ha) rfl (by show (2 : Int) ≤ 2; omega)
  · -- a directory comes
    obtain ⟨hf, hz⟩ := (wR_iff hL.apart).1 hw
    have hok := hM.ok x hx
    have hout : ∀ y ∈ filesD D, y.1 ≠ x.1 := fun y hy e => by
      rcases (hS y).1 hy with ⟨hyL, hno⟩ | ⟨a, ha, h3, rfl⟩ | ⟨a, ha, h4, rfl⟩
      · have hyf := hz y hyL e
        have hwy : wU M y = true := (wU_iff hM.apart).2 ⟨hyf, fun z hzM ez => by
          have : z = x := uniq_key hM.apart hzM hx (ez.trans e)
          rw [this]; exact hf⟩
        have hpre := st_done hL hM hd (mem_deD.2 (Or.inl ⟨_, hyL, hwy, rfl⟩)) (Or.inl (by show (1 : Int) < 3; omega))
        exact hno _ hpre (by show ¬ (1 : Int) = 3; omega) rfl
      · exact hne ha h3 e
      · have : a.kd ≤ 3 := hkd ha
        omega
    have hk : kindD D x.1 = 0 := kind_out hP (not_root hok) hout
    have hpar : parentD D x.1 = 0 := by
      have h2 : kindD D (parentOf x.1) = 2 := by
        rcases st_parent hL hM hd hx rfl (Or.inl rfl) with q | q
        · unfold kindD; rw [if_pos q]
        · rw [kind_in hP ((hS _).2 q)]; rfl
      unfold parentD
      rw [h2]; rfl
    refine ⟨hok, fun q => absurd q (by show ¬ (3 : Int) = 1; omega), fun q => absurd q (by show ¬ (3 : Int) = 2; omega), D.put (keyD x.1) (itemD true ByteArray.empty), (1, x.1, ByteArray.empty), ?_, hP.put _ _ hok, fun y => ?_⟩
    · show (if (3 : Int) ≤ 2 then _ else if (3 : Int) = 3 then mkdirD _ x.1 else _) = _
      rw [if_neg (by decide), if_pos rfl]
      unfold mkdirD noteAb
      simp only
      rw [if_neg (by rw [writeD_zero hok]; decide), if_neg (by rw [hpar]; decide), if_neg (by rw [hk]; decide)]
      rfl
    · rw [mem_put hP _ _ hok, hS]
      constructor
      · rintro (rfl | ⟨h, _⟩)
        · exact Or.inr (Or.inl ⟨dM x, by simp, rfl, rfl⟩)
        · rcases h with ⟨h1, h2⟩ | ⟨a, ha, h3, e⟩ | ⟨a, ha, h4, e⟩
          · refine Or.inl ⟨h1, fun a ha h3 => ?_⟩
            rcases List.mem_append.1 ha with q | q
            · exact h2 a q h3
            · rw [List.mem_singleton.1 q] at h3
              exact absurd rfl h3
          · exact Or.inr (Or.inl ⟨a, List.mem_append_left _ ha, h3, e⟩)
          · exact Or.inr (Or.inr ⟨a, List.mem_append_left _ ha, h4, e⟩)
      · rintro (⟨h1, h2⟩ | ⟨a, ha, h3, e⟩ | ⟨a, ha, h4, e⟩)
        · have hh : StD L pre y := Or.inl ⟨h1, fun a ha => h2 a (List.mem_append_left _ ha)⟩
          exact Or.inr ⟨hh, hout y ((hS y).2 hh)⟩
        · rcases List.mem_append.1 ha with q | q
          · have hh : StD L pre y := Or.inr (Or.inl ⟨a, q, h3, e⟩)
            exact Or.inr ⟨hh, hout y ((hS y).2 hh)⟩
          · rw [List.mem_singleton.1 q] at e
            exact Or.inl e
        · rcases List.mem_append.1 ha with q | q
          · have hh : StD L pre y := Or.inr (Or.inr ⟨a, q, h4, e⟩)
            exact Or.inr ⟨hh, hout y ((hS y).2 hh)⟩
          · rw [List.mem_singleton.1 q] at h4
            exact absurd h4 (by show ¬ (3 : Int) = 4; omega)
  · -- a file is put
    obtain ⟨hf, hz⟩ := (wP_iff hL.apart).1 hw
    have hok := hM.ok x hx
    have hnd : ∀ y ∈ filesD D, y.1 = x.1 → y.2.1 = false := fun y hy e => by
      cases hc : y.2.1 with
      | false => rfl
      | true =>
        exfalso
        rcases (hS y).1 hy with ⟨hyL, hno⟩ | ⟨a, ha, h3, rfl⟩ | ⟨a, ha, h4, rfl⟩
        · have hwy : wR M y = true := (wR_iff hM.apart).2 ⟨hc, fun z hzM ez => by
            have : z = x := uniq_key hM.apart hzM hx (ez.trans e)
            rw [this]; exact hf⟩
          have hpre := st_done hL hM hd (mem_deD.2 (Or.inr (Or.inl ⟨_, hyL, hwy, rfl⟩))) (Or.inl (by show (2 : Int) < 4; omega))
          exact hno _ hpre (by show ¬ (2 : Int) = 3; omega) rfl
        · rcases mem_deD.1 (st_pre hd ha) with ⟨u, hu, hwu, rfl⟩ | ⟨u, hu, hwu, rfl⟩ | ⟨u, hu, hwu, rfl⟩ | ⟨u, hu, hwu, rfl⟩
          · exact absurd h3 (by show ¬ (1 : Int) = 3; omega)
          · exact absurd h3 (by show ¬ (2 : Int) = 3; omega)
          · have : u = x := uniq_key hM.apart hu hx e
            subst this
            rw [((wR_iff hL.apart).1 hwu).1] at hf; cases hf
          · exact absurd h3 (by show ¬ (4 : Int) = 3; omega)
        · cases hc
    have hk : kindD D x.1 ≠ 2 := fun h => by
      have hh := kind_two_has h (not_root hok)
      obtain ⟨c, t, hct⟩ := hP.good.item _ hh
      have hy : ((x.1, c, t) : Fl) ∈ filesD D := (hP.good.mem _).2 ⟨hh, hct⟩
      have h1 := kind_in hP hy
      have h2 := hnd _ hy rfl
      rw [show ((x.1, c, t) : Fl).1 = x.1 from rfl, h] at h1
      unfold kdF at h1
      rw [h2] at h1
      cases h1
    have hpar : parentD D x.1 = 0 := by
      have h2 : kindD D (parentOf x.1) = 2 := by
        rcases st_parent hL hM hd hx rfl (Or.inr rfl) with q | q
        · unfold kindD; rw [if_pos q]
        · rw [kind_in hP ((hS _).2 q)]; rfl
      unfold parentD
      rw [h2]; rfl
    have hfile : fileD D x.1 = 0 := by
      unfold fileD
      rw [if_neg (by rw [hpar]; decide), if_neg (by simpa using hk)]
    refine ⟨hok, fun q => absurd q (by show ¬ (4 : Int) = 1; omega), fun q => absurd q (by show ¬ (4 : Int) = 2; omega), D.put (keyD x.1) (itemD false x.2.2), (2, x.1, ByteArray.empty), ?_, hP.put _ _ hok, fun y => ?_⟩
    · show (if (4 : Int) ≤ 2 then _ else if (4 : Int) = 3 then _ else writeFD _ x.1 x.2.2) = _
      rw [if_neg (by decide), if_neg (by decide)]
      unfold writeFD noteAb
      simp only
      rw [if_neg (by rw [writeD_zero hok]; decide), if_neg (by rw [hfile]; decide)]
      rfl
    · rw [mem_put hP _ _ hok, hS]
      constructor
      · rintro (rfl | ⟨h, hnx⟩)
        · exact Or.inr (Or.inr ⟨dP x, by simp, rfl, rfl⟩)
        · rcases h with ⟨h1, h2⟩ | ⟨a, ha, h3, e⟩ | ⟨a, ha, h4, e⟩
          · refine Or.inl ⟨h1, fun a ha h3 => ?_⟩
            rcases List.mem_append.1 ha with q | q
            · exact h2 a q h3
            · rw [List.mem_singleton.1 q]
              exact fun e => hnx e.symm
          · exact Or.inr (Or.inl ⟨a, List.mem_append_left _ ha, h3, e⟩)
          · exact Or.inr (Or.inr ⟨a, List.mem_append_left _ ha, h4, e⟩)
      · rintro (⟨h1, h2⟩ | ⟨a, ha, h3, e⟩ | ⟨a, ha, h4, e⟩)
        · exact Or.inr ⟨Or.inl ⟨h1, fun a ha => h2 a (List.mem_append_left _ ha)⟩, fun q => h2 (dP x) (by simp) (by show ¬ (4 : Int) = 3; omega) q.symm⟩
        · rcases List.mem_append.1 ha with q | q
          · refine Or.inr ⟨Or.inr (Or.inl ⟨a, q, h3, e⟩), fun ex => ?_⟩
            have hy : y ∈ filesD D := (hS y).2 (Or.inr (Or.inl ⟨a, q, h3, e⟩))
            have := hnd y hy ex
            rw [e] at this
            cases this
          · rw [List.mem_singleton.1 q] at h3
            exact absurd h3 (by show ¬ (4 : Int) = 3; omega)
        · rcases List.mem_append.1 ha with q | q
          · refine Or.inr ⟨Or.inr (Or.inr ⟨a, q, h4, e⟩), fun ex => ?_⟩
            rw [e] at ex
            exact hne q h4 ex
          · rw [List.mem_singleton.1 q] at e
            exact Or.inl e

/-- In the end there is just the other set. -/
theorem does_end {L M : List Fl} (hL : Hang L) (hM : Hang M) {D : DataW Unit} (hP : Plain D) (hS : ∀ y : Fl, y ∈ filesD D ↔ StD L (deD L M) y) : filesD D = M := by
  refine eq_of_rising hP.good.rise hM.rise fun y => ?_
  rw [hS]
  constructor
  · rintro (⟨h1, h2⟩ | ⟨a, ha, h3, rfl⟩ | ⟨a, ha, h4, rfl⟩)
    · by_cases hex : ∃ z ∈ M, z.1 = y.1
      · obtain ⟨z, hz, e⟩ := hex
        cases hc : y.2.1 with
        | true =>
          cases hcz : z.2.1 with
          | true =>
            have : y = z := by
              obtain ⟨a, b, c⟩ := y
              obtain ⟨a', b', c'⟩ := z
              have q1 := hL.dirs _ h1 hc
              have q2 := hM.dirs _ hz hcz
              simp only at e hc hcz q1 q2
              rw [e, hc, hcz, q1, q2]
            rw [this]; exact hz
          | false =>
            have hwy : wR M y = true := (wR_iff hM.apart).2 ⟨hc, fun z' hz' e' => by rw [uniq_key hM.apart hz' hz (e'.trans e.symm)]; exact hcz⟩
            exact absurd rfl (h2 (dR y) (mem_deD.2 (Or.inr (Or.inl ⟨y, h1, hwy, rfl⟩))) (by show ¬ (2 : Int) = 3; omega))
        | false =>
          cases hcz : z.2.1 with
          | true =>
            have hwy : wU M y = true := (wU_iff hM.apart).2 ⟨hc, fun z' hz' e' => by rw [uniq_key hM.apart hz' hz (e'.trans e.symm)]; exact hcz⟩
            exact absurd rfl (h2 (dU y) (mem_deD.2 (Or.inl ⟨y, h1, hwy, rfl⟩)) (by show ¬ (1 : Int) = 3; omega))
          | false =>
            by_cases ht : y.2.2 = z.2.2
            · have : y = z := by
                obtain ⟨a, b, c⟩ := y
                obtain ⟨a', b', c'⟩ := z
                simp only at e hc hcz ht
                rw [e, hc, hcz, ht]
              rw [this]; exact hz
            · have hwz : wP L z = true := (wP_iff hL.apart).2 ⟨hcz, fun z' hz' e' => by rw [uniq_key hL.apart hz' h1 (e'.trans e)]; exact Or.inr ht⟩
              exact absurd e (h2 (dP z) (mem_deD.2 (Or.inr (Or.inr (Or.inr ⟨z, hz, hwz, rfl⟩)))) (by show ¬ (4 : Int) = 3; omega))
      · have hno : ∀ z ∈ M, z.1 ≠ y.1 := fun z hz e => hex ⟨z, hz, e⟩
        cases hc : y.2.1 with
        | true =>
          have hwy : wR M y = true := (wR_iff hM.apart).2 ⟨hc, fun z hz e => absurd e (hno z hz)⟩
          exact absurd rfl (h2 (dR y) (mem_deD.2 (Or.inr (Or.inl ⟨y, h1, hwy, rfl⟩))) (by show ¬ (2 : Int) = 3; omega))
        | false =>
          have hwy : wU M y = true := (wU_iff hM.apart).2 ⟨hc, fun z hz e => absurd e (hno z hz)⟩
          exact absurd rfl (h2 (dU y) (mem_deD.2 (Or.inl ⟨y, h1, hwy, rfl⟩)) (by show ¬ (1 : Int) = 3; omega))
    · rcases mem_deD.1 ha with ⟨u, hu, hwu, rfl⟩ | ⟨u, hu, hwu, rfl⟩ | ⟨u, hu, hwu, rfl⟩ | ⟨u, hu, hwu, rfl⟩
      · exact absurd h3 (by show ¬ (1 : Int) = 3; omega)
      · exact absurd h3 (by show ¬ (2 : Int) = 3; omega)
      · have hc := ((wR_iff hL.apart).1 hwu).1
        have : ((dM u).pa, true, ByteArray.empty) = u := by
          obtain ⟨a, b, c⟩ := u
          have q := hM.dirs _ hu hc
          simp only at hc q
          rw [hc, q]; rfl
        rw [this]; exact hu
      · exact absurd h3 (by show ¬ (4 : Int) = 3; omega)
    · rcases mem_deD.1 ha with ⟨u, hu, hwu, rfl⟩ | ⟨u, hu, hwu, rfl⟩ | ⟨u, hu, hwu, rfl⟩ | ⟨u, hu, hwu, rfl⟩
      · exact absurd h4 (by show ¬ (1 : Int) = 4; omega)
      · exact absurd h4 (by show ¬ (2 : Int) = 4; omega)
      · exact absurd h4 (by show ¬ (3 : Int) = 4; omega)
      · have hc := ((wP_iff hL.apart).1 hwu).1
        have : ((dP u).pa, false, (dP u).da) = u := by
          obtain ⟨a, b, c⟩ := u
          simp only at hc
          rw [hc]; rfl
        rw [this]; exact hu
  · intro hy
    cases hc : y.2.1 with
    | true =>
      by_cases hw : wM L y = true
      · right; left
        refine ⟨dM y, mem_deD.2 (Or.inr (Or.inr (Or.inl ⟨y, hy, hw, rfl⟩))), rfl, ?_⟩
        obtain ⟨a, b, c⟩ := y
        have q := hM.dirs _ hy hc
        simp only at hc q
        rw [hc, q]; rfl
      · have hex : ∃ z ∈ L, z.1 = y.1 ∧ z.2.1 = true := by
          by_cases hex : ∃ z ∈ L, z.1 = y.1 ∧ z.2.1 = true
          · exact hex
          · exfalso
            refine hw ((wR_iff hL.apart).2 ⟨hc, fun z hz e => ?_⟩)
            cases hcz : z.2.1 with
            | false => rfl
            | true => exact absurd ⟨z, hz, e, hcz⟩ hex
        obtain ⟨z, hz, e, hcz⟩ := hex
        have : z = y := by
          obtain ⟨a, b, c⟩ := z
          obtain ⟨a', b', c'⟩ := y
          have q1 := hL.dirs _ hz hcz
          have q2 := hM.dirs _ hy hc
          simp only at e hc hcz q1 q2
          rw [e, hc, hcz, q1, q2]
        subst this
        left
        refine ⟨hz, fun a ha h3 e => ?_⟩
        rcases mem_deD.1 ha with ⟨u, hu, hwu, rfl⟩ | ⟨u, hu, hwu, rfl⟩ | ⟨u, hu, hwu, rfl⟩ | ⟨u, hu, hwu, rfl⟩
        · have := uniq_key hL.apart hu hz e
          rw [← this, ((wU_iff hM.apart).1 hwu).1] at hc; cases hc
        · have := uniq_key hL.apart hu hz e
          have q := ((wR_iff hM.apart).1 hwu).2 z hy (by rw [this])
          rw [hc] at q; cases q
        · exact h3 rfl
        · have := uniq_key hM.apart hu hy e
          rw [← this, ((wP_iff hL.apart).1 hwu).1] at hc; cases hc
    | false =>
      by_cases hw : wP L y = true
      · right; right
        refine ⟨dP y, mem_deD.2 (Or.inr (Or.inr (Or.inr ⟨y, hy, hw, rfl⟩))), rfl, ?_⟩
        obtain ⟨a, b, c⟩ := y
        simp only at hc
        rw [hc]; rfl
      · have hex : ∃ z ∈ L, z.1 = y.1 ∧ z.2.1 = false ∧ z.2.2 = y.2.2 := by
          by_cases hex : ∃ z ∈ L, z.1 = y.1 ∧ z.2.1 = false ∧ z.2.2 = y.2.2
          · exact hex
          · exfalso
            refine hw ((wP_iff hL.apart).2 ⟨hc, fun z hz e => ?_⟩)
            cases hcz : z.2.1 with
            | true => exact Or.inl rfl
            | false => exact Or.inr fun q => hex ⟨z, hz, e, hcz, q⟩
        obtain ⟨z, hz, e, hcz, ht⟩ := hex
        have : z = y := by
          obtain ⟨a, b, c⟩ := z
          obtain ⟨a', b', c'⟩ := y
          simp only at e hc hcz ht
          rw [e, hc, hcz, ht]
        subst this
        left
        refine ⟨hz, fun a ha h3 e => ?_⟩
        rcases mem_deD.1 ha with ⟨u, hu, hwu, rfl⟩ | ⟨u, hu, hwu, rfl⟩ | ⟨u, hu, hwu, rfl⟩ | ⟨u, hu, hwu, rfl⟩
        · have := uniq_key hL.apart hu hz e
          have q := ((wU_iff hM.apart).1 hwu).2 z hy (by rw [this])
          rw [hc] at q; cases q
        · have := uniq_key hL.apart hu hz e
          rw [← this, ((wR_iff hM.apart).1 hwu).1] at hc; cases hc
        · exact h3 rfl
        · have := uniq_key hM.apart hu hy e
          rcases ((wP_iff hL.apart).1 hwu).2 z hz (by rw [this]) with q | q
          · rw [hc] at q; cases q
          · exact q (by rw [this])
end Go.Proofs.YtcpmfhalphoppaaGreatDoor
