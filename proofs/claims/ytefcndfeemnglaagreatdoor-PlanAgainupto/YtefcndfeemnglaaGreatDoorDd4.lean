/- Dd: pieces of Ref4, Ref5, Ref6, Ref7. -/
import Derived.Test.YtefcndfeemnglaaGreatDoorDd3
namespace Go.Proofs.YtefcndfeemnglaaGreatDoor.Dk
open Go.RowKit Go.Maps
set_option maxRecDepth 100000

theorem IsRef.upd {F : Nat → Prop} {B : Nat} {w w' : World} {e : Nat} {lv rv : Value} {fs : List Fl} {rs : List (Int × ByteArray × ByteArray)} {left : Int} (h : IsRef B w e lv rv fs rs left) (hu : Upd F w w') (hF : ∀ k, FootR e lv rv k → ¬ F k) : IsRef B w' e lv rv fs rs left := by
  have hb := hu.block e h.lt (hF e (Or.inl rfl))
  exact { c0 := by rw [World.cell?_of_block (w := w) hb]; exact h.c0, c1 := by rw [World.cell?_of_block (w := w) hb]; exact h.c1, c2 := by rw [World.cell?_of_block (w := w) hb]; exact h.c2,
          f0 := by rw [World.frozen?_of_block (w := w) hb]; exact h.f0, f1 := by rw [World.frozen?_of_block (w := w) hb]; exact h.f1, f2 := by rw [World.frozen?_of_block (w := w) hb]; exact h.f2,
          lrow := ownsRow_upd h.lrow hu (fun k hk => hF k (Or.inr (Or.inl hk))), rrow := ownsRow_upd h.rrow hu (fun k hk => hF k (Or.inr (Or.inr hk))),
          le := h.le, re := h.re, be := h.be, lt := Nat.lt_of_lt_of_le h.lt hu.size }

theorem IsRef.below {B : Nat} {w w' : World} {e : Nat} {lv rv : Value} {fs : List Fl} {rs : List (Int × ByteArray × ByteArray)} {left : Int} (h : IsRef B w e lv rv fs rs left) (hu : Below w.heap.size w w') : IsRef B w' e lv rv fs rs left :=
  h.upd (Upd.of_below (F := fun _ => False) hu) (fun _ _ f => f)

theorem IsRef.foot_lt {B : Nat} {w : World} {e : Nat} {lv rv : Value} {fs : List Fl} {rs : List (Int × ByteArray × ByteArray)} {left : Int} (h : IsRef B w e lv rv fs rs left) {k : Nat} (hk : FootR e lv rv k) : k < w.heap.size ∧ B ≤ k := by
  rcases hk with rfl | hk | hk
  · exact ⟨h.lt, h.be⟩
  · exact row_lt h.lrow hk
  · exact row_lt h.rrow hk

/-- The place of a path; -1: nothing is there. -/
def findD : List Fl → ByteArray → Int
  | [], _ => -1
  | f :: r, s => if (f.1.toList == s.toList) = true then 0 else (if findD r s = -1 then -1 else findD r s + 1)

theorem findD_none {fs : List Fl} {s : ByteArray} (h : ∀ j (hj : j < fs.length), (fs[j].1.toList == s.toList) = false) : findD fs s = -1 := by
  induction fs with
  | nil => rfl
  | cons f r ih =>
    unfold findD
    rw [if_neg (by have := h 0 (by simp); simp only [List.getElem_cons_zero] at this; rw [this]; decide), if_pos (ih fun j hj => by have := h (j + 1) (by simpa using hj); simpa using this)]

theorem findD_some {fs : List Fl} {s : ByteArray} (k : Nat) (hk : k < fs.length) (h : ∀ j (_ : j < k) (hj' : j < fs.length), (fs[j].1.toList == s.toList) = false) (hc : (fs[k].1.toList == s.toList) = true) : findD fs s = k := by
  induction fs generalizing k with
  | nil => simp at hk
  | cons f r ih =>
    unfold findD
    cases k with
    | zero => rw [if_pos (by simpa using hc)]; rfl
    | succ k =>
      have := ih k (by simpa using hk) (fun j hj hj' => by have := h (j + 1) (by omega) (by simpa using hj'); simpa using this) (by simpa using hc)
      rw [if_neg (by have := h 0 (by omega) (by simp); simp only [List.getElem_cons_zero] at this; rw [this]; decide), this, if_neg (by omega)]
      omega

theorem file_cells {w : World} {B : Nat} {g cap : Nat} {fs : List Fl} (h : w.ownsRow B 45 3 (.slice (some ⟨g, 0, none⟩) fs.length cap) fs.length (fileCells fs)) (k : Nat) (hk : k < fs.length) :
    w.cell? ⟨g, k * 3, none⟩ = some (.string fs[k].1) ∧ w.cell? ⟨g, k * 3 + 1, none⟩ = some (.bool fs[k].2.1) ∧ w.cell? ⟨g, k * 3 + 1 + 1, none⟩ = some (.string fs[k].2.2) := by
  obtain ⟨h0, h1, h2⟩ := fileCells_get fs k hk
  exact ⟨row_cells h _ _ h0, row_cells h _ _ h1, row_cells h _ _ h2⟩

/-- What is known of a map's datum apart from memory. -/
structure Good (D : DataW Unit) : Prop where
  rise : Rising (filesD D)
  mem : ∀ f : Fl, f ∈ filesD D ↔ Maps.has D (keyD f.1) = true ∧ D.atKey (keyD f.1) zeroD = itemD f.2.1 f.2.2
  item : ∀ s, Maps.has D (keyD s) = true → ∃ c t, D.atKey (keyD s) zeroD = itemD c t
  keys : ∀ kl, Maps.has D kl = true → ∃ s, kl = keyD s ∧ okPath s = true

theorem IsDisk.good {B : Nat} {w : World} {d mb n : Nat} {rv : Value} {x : Ab} (h : IsDisk B w d mb n rv x) : Good x.D := by
  obtain ⟨h1, _, h3⟩ := files_facts h.own
  refine ⟨h1, h3, fun s hs => ?_, h.keys⟩
  obtain ⟨es, he, hr, _, hf⟩ := own_entries h.own
  rw [he, has_eq, List.any_eq_true] at hs
  obtain ⟨p, hp, hk⟩ := hs
  obtain ⟨s', c, t, rfl⟩ := hf p hp
  have es' : s' = s := (sameKey_keyD _ _).1 hk
  subst es'
  exact ⟨c, t, by rw [he]; exact WideAt.atKey_mem zeroD (isKey s') (apart_of_rising hr) hp⟩

theorem beq_bytes {a b : ByteArray} : (a.toList == b.toList) = true ↔ a = b := by
  rw [toList_data, toList_data, beq_iff_eq]
  exact ⟨fun h => bytes_eq h, fun h => by rw [h]⟩

/-- find, said of the map. -/
theorem find_has {D : DataW Unit} (hD : Good D) (s : ByteArray) : (findD (filesD D) s = -1 ∧ Maps.has D (keyD s) = false) ∨
    ∃ (k : Nat) (hk : k < (filesD D).length), findD (filesD D) s = k ∧ (filesD D)[k].1 = s ∧ Maps.has D (keyD s) = true ∧ D.atKey (keyD s) zeroD = itemD (filesD D)[k].2.1 (filesD D)[k].2.2 := by
  by_cases hs : Maps.has D (keyD s) = true
  · right
    obtain ⟨c, t, hct⟩ := hD.item s hs
    have hm : ((s, c, t) : Fl) ∈ filesD D := (hD.mem _).2 ⟨hs, hct⟩
    obtain ⟨k, hk, ek⟩ := List.getElem_of_mem hm
    refine ⟨k, hk, findD_some k hk (fun j hj hj' => ?_) (by rw [ek]; simp), by rw [ek], hs, by rw [ek]; exact hct⟩
    rw [Bool.eq_false_iff]
    intro e
    have e1 := beq_bytes.1 e
    have h1 := List.pairwise_iff_getElem.1 hD.rise j k hj' hk hj
    rw [e1, ek, WideAt.bytes_irrefl] at h1
    cases h1
  · left
    rw [Bool.not_eq_true] at hs
    refine ⟨findD_none fun j hj => ?_, hs⟩
    rw [Bool.eq_false_iff]
    intro e
    have e1 := beq_bytes.1 e
    have := ((hD.mem _).1 (List.getElem_mem hj)).1
    rw [e1, hs] at this
    cases this

/-- One step of put. -/
def putStep (f : Fl) (st : List Fl × Bool) (x : Fl) : List Fl × Bool :=
  if (!(Op.bytesLess x.1.toList f.1.toList) && !st.2) = true then (if (x.1.toList == f.1.toList) = true then (st.1 ++ [f], true) else (st.1 ++ [f] ++ [x], true))
  else (if (x.1.toList == f.1.toList) = true then (st.1, st.2) else (st.1 ++ [x], st.2))
/-- put: something is at a path, whatever was (gone: nothing is). -/
def putTo (fs : List Fl) (f : Fl) (gone : Bool) : List Fl × Bool := fs.foldl (putStep f) ([], gone)
def putD (fs : List Fl) (f : Fl) (gone : Bool) : List Fl := if (putTo fs f gone).2 = true then (putTo fs f gone).1 else (putTo fs f gone).1 ++ [f]

theorem putTo_snoc (fs : List Fl) (f : Fl) (gone : Bool) (k : Nat) (hk : k < fs.length) : putTo (fs.take (k + 1)) f gone = putStep f (putTo (fs.take k) f gone) fs[k] := by
  unfold putTo
  rw [List.take_succ_eq_append_getElem hk, List.foldl_append]; rfl

theorem own_form {w : World} {B : Nat} {e : TypeId} {size n : Nat} {v : Value} {xs : List Value} (h : w.ownsRow B e size v n xs) (hn : 0 < n) : ∃ g cap, v = .slice (some ⟨g, 0, none⟩) n cap := by
  obtain ⟨g, cap, hv, _⟩ := h.form hn
  exact ⟨g, cap, hv⟩

theorem less_before : ∀ (a b : List UInt8), Op.bytesLess a b = bytesBefore a b
  | [], [] => rfl
  | [], _ :: _ => rfl
  | _ :: _, [] => rfl
  | a :: r, b :: s => by
    have ih := less_before r s
    unfold Op.bytesLess bytesBefore
    rw [ih]

def lessF (x f : Fl) : Bool := bytesBefore x.1.data.toList f.1.data.toList
theorem lessF_eq (x f : Fl) : Op.bytesLess x.1.toList f.1.toList = lessF x f := by rw [less_before, toList_data, toList_data]; rfl

/-- Put among files in their order. -/
def insF : List Fl → Fl → List Fl
  | [], f => [f]
  | x :: r, f => if lessF x f = true then x :: insF r f else if (x.1.toList == f.1.toList) = true then f :: r.filter (fun y => !(y.1.toList == f.1.toList)) else f :: x :: r.filter (fun y => !(y.1.toList == f.1.toList))

theorem step_true (f x : Fl) (o : List Fl) : putStep f (o, true) x = (if (x.1.toList == f.1.toList) = true then (o, true) else (o ++ [x], true)) := by
  unfold putStep
  simp only [Bool.not_true, Bool.and_false, Bool.false_eq_true, if_false]

theorem step_less (f x : Fl) (o : List Fl) (h : lessF x f = true) : putStep f (o, false) x = (o ++ [x], false) := by
  have hne : (x.1.toList == f.1.toList) = false := by
    rw [Bool.eq_false_iff]; intro e
    unfold lessF at h
    rw [beq_bytes.1 e, WideAt.bytes_irrefl] at h; cases h
  unfold putStep
  rw [lessF_eq, h, hne]; rfl

theorem step_ins (f x : Fl) (o : List Fl) (h : lessF x f = false) : putStep f (o, false) x = (if (x.1.toList == f.1.toList) = true then (o ++ [f], true) else (o ++ [f] ++ [x], true)) := by
  unfold putStep
  rw [lessF_eq, h]; rfl

theorem fold_true (f : Fl) : ∀ (fs o : List Fl), fs.foldl (putStep f) (o, true) = (o ++ fs.filter (fun y => !(y.1.toList == f.1.toList)), true)
  | [], o => by simp
  | x :: r, o => by
    rw [List.foldl_cons, step_true]
    by_cases h : (x.1.toList == f.1.toList) = true
    · rw [if_pos h, fold_true f r o]
      simp [h]
    · rw [if_neg h, fold_true f r (o ++ [x])]
      simp [h]

def endF (f : Fl) (st : List Fl × Bool) : List Fl := if st.2 = true then st.1 else st.1 ++ [f]

theorem fold_false (f : Fl) : ∀ (fs o : List Fl), endF f (fs.foldl (putStep f) (o, false)) = o ++ insF fs f
  | [], o => rfl
  | x :: r, o => by
    rw [List.foldl_cons]
    unfold insF
    by_cases h : lessF x f = true
    · rw [step_less f x o h, fold_false f r (o ++ [x]), if_pos h]
      simp
    · rw [Bool.not_eq_true] at h
      rw [step_ins f x o h]
      have hn : ¬ lessF x f = true := by rw [h]; decide
      by_cases h2 : (x.1.toList == f.1.toList) = true
      · rw [if_neg hn, if_pos h2, if_pos h2, fold_true]
        unfold endF; simp
      · rw [if_neg hn, if_neg h2, if_neg h2, fold_true]
        unfold endF; simp

theorem putD_ins (fs : List Fl) (f : Fl) : putD fs f false = insF fs f := by
  have := fold_false f fs []
  unfold endF at this
  unfold putD putTo
  simpa using this
theorem putD_del (fs : List Fl) (f : Fl) : putD fs f true = fs.filter (fun y => !(y.1.toList == f.1.toList)) := by
  unfold putD putTo
  rw [fold_true]; simp

theorem mem_filterF (fs : List Fl) (f y : Fl) : y ∈ fs.filter (fun y => !(y.1.toList == f.1.toList)) ↔ y ∈ fs ∧ y.1 ≠ f.1 := by
  rw [List.mem_filter]
  constructor
  · rintro ⟨h1, h2⟩
    refine ⟨h1, fun e => ?_⟩
    rw [e] at h2; simp at h2
  · rintro ⟨h1, h2⟩
    refine ⟨h1, ?_⟩
    rw [Bool.not_eq_true', Bool.eq_false_iff]
    exact fun e => h2 (beq_bytes.1 e)

theorem less_ne {x f : Fl} (h : lessF x f = true) : x.1 ≠ f.1 := by
  intro e; unfold lessF at h; rw [e, WideAt.bytes_irrefl] at h; cases h

theorem mem_ins (f y : Fl) : ∀ fs : List Fl, y ∈ insF fs f ↔ y = f ∨ (y ∈ fs ∧ y.1 ≠ f.1)
  | [] => by simp [insF]
  | x :: r => by
    unfold insF
    by_cases h : lessF x f = true
    · rw [if_pos h, List.mem_cons, mem_ins f y r, List.mem_cons]
      constructor
      · rintro (rfl | h1 | ⟨h1, h2⟩)
        · exact Or.inr ⟨Or.inl rfl, less_ne h⟩
        · exact Or.inl h1
        · exact Or.inr ⟨Or.inr h1, h2⟩
      · rintro (h1 | ⟨h1 | h1, h2⟩)
        · exact Or.inr (Or.inl h1)
        · exact Or.inl h1
        · exact Or.inr (Or.inr ⟨h1, h2⟩)
    · rw [if_neg h]
      by_cases h2 : (x.1.toList == f.1.toList) = true
      · rw [if_pos h2, List.mem_cons, mem_filterF, List.mem_cons]
        have ex := beq_bytes.1 h2
        constructor
        · rintro (h1 | ⟨h1, h3⟩)
          · exact Or.inl h1
          · exact Or.inr ⟨Or.inr h1, h3⟩
        · rintro (h1 | ⟨rfl | h1, h3⟩)
          · exact Or.inl h1
          · exact absurd ex h3
          · exact Or.inr ⟨h1, h3⟩
      · rw [if_neg h2, List.mem_cons, List.mem_cons, mem_filterF, List.mem_cons]
        constructor
        · rintro (h1 | rfl | ⟨h1, h3⟩)
          · exact Or.inl h1
          · exact Or.inr ⟨Or.inl rfl, fun e => h2 (beq_bytes.2 e)⟩
          · exact Or.inr ⟨Or.inr h1, h3⟩
        · rintro (h1 | ⟨h1 | h1, h3⟩)
          · exact Or.inl h1
          · exact Or.inr (Or.inl h1)
          · exact Or.inr (Or.inr ⟨h1, h3⟩)

theorem rising_ins (f : Fl) : ∀ fs : List Fl, Rising fs → Rising (insF fs f)
  | [], _ => by unfold insF Rising; simp
  | x :: r, h => by
    unfold Rising at h
    rw [List.pairwise_cons] at h
    obtain ⟨h1, h2⟩ := h
    unfold insF
    by_cases hl : lessF x f = true
    · rw [if_pos hl]
      unfold Rising
      rw [List.pairwise_cons]
      refine ⟨fun y hy => ?_, rising_ins f r h2⟩
      rcases (mem_ins f y r).1 hy with rfl | ⟨hy, _⟩
      · exact hl
      · exact h1 y hy
    · rw [if_neg hl]
      by_cases h3 : (x.1.toList == f.1.toList) = true
      · rw [if_pos h3]
        unfold Rising
        rw [List.pairwise_cons]
        refine ⟨fun y hy => ?_, h2.filter _⟩
        rw [← beq_bytes.1 h3]
        exact h1 y ((List.mem_filter.1 hy).1)
      · rw [if_neg h3]
        have hfx : bytesBefore f.1.data.toList x.1.data.toList = true := by
          rcases WideAt.bytes_total x.1.data.toList f.1.data.toList (fun e => h3 (beq_bytes.2 (bytes_eq e))) with q | q
          · exact absurd q hl
          · exact q
        unfold Rising
        rw [List.pairwise_cons, List.pairwise_cons]
        refine ⟨fun y hy => ?_, fun y hy => h1 y ((List.mem_filter.1 hy).1), h2.filter _⟩
        rcases List.mem_cons.1 hy with rfl | hy
        · exact hfx
        · exact WideShapes.bytes_trans _ _ _ hfx (h1 y ((List.mem_filter.1 hy).1))

theorem eq_of_rising {l₁ l₂ : List Fl} (h1 : Rising l₁) (h2 : Rising l₂) (hm : ∀ y, y ∈ l₁ ↔ y ∈ l₂) : l₁ = l₂ := by
  have hp : l₁.Perm l₂ := (List.perm_ext_iff_of_nodup (distinct h1) (distinct h2)).2 hm
  unfold Rising at h1 h2
  exact List.Perm.eq_of_pairwise (le := fun (x y : Fl) => bytesBefore x.1.data.toList y.1.data.toList = true) (fun a b _ _ k1 k2 => by rw [before_asymm k1] at k2; cases k2) h1 h2 hp

theorem put_files {D : DataW Unit} (hD : Good D) {s : ByteArray} {c : Bool} {t : ByteArray} (hm : IsMap D) (hP : Good (D.put (keyD s) (itemD c t))) : putD (filesD D) (s, c, t) false = filesD (D.put (keyD s) (itemD c t)) := by
  rw [putD_ins]
  refine eq_of_rising (rising_ins _ _ hD.rise) hP.rise fun y => ?_
  rw [mem_ins, hP.mem y, hD.mem y]
  by_cases e : y.1 = s
  · rw [e, has_put_same hm (isKey s), atKey_put_same hm (isKey s)]
    constructor
    · rintro (rfl | ⟨_, h⟩)
      · exact ⟨rfl, rfl⟩
      · exact absurd rfl h
    · rintro ⟨_, h⟩
      left
      unfold itemD at h
      simp only [DataW.agg.injEq, List.cons.injEq, DataW.lit.injEq, Lit.bool.injEq, Lit.string.injEq, and_true] at h
      obtain ⟨ys, yc, yt⟩ := y
      simp only at e h
      rw [e, h.1, bytes_eq h.2]
  · have hk : keyD y.1 ≠ keyD s := fun h => e (keyD_inj h)
    rw [has_put_other hk, atKey_put_other hk]
    constructor
    · rintro (rfl | ⟨h, _⟩)
      · exact absurd rfl e
      · exact h
    · exact fun h => Or.inr ⟨h, e⟩

theorem del_files {D : DataW Unit} (hD : Good D) {f : Fl} (hP : Good (D.del (keyD f.1))) : putD (filesD D) f true = filesD (D.del (keyD f.1)) := by
  rw [putD_del]
  refine eq_of_rising (List.Pairwise.filter _ hD.rise) hP.rise fun y => ?_
  rw [mem_filterF, hP.mem y, hD.mem y]
  by_cases e : y.1 = f.1
  · rw [e, has_del_same]
    constructor
    · rintro ⟨_, h⟩; exact absurd rfl h
    · rintro ⟨h, _⟩; cases h
  · have hk : keyD y.1 ≠ keyD f.1 := fun h => e (keyD_inj h)
    rw [has_del_other hk, atKey_del_other hk]
    exact ⟨fun h => h.1, fun h => ⟨h, e⟩⟩

/-- Behind put. -/
def AfterR (B : Nat) (w w' : World) (e : Nat) (lv rv : Value) (fs : List Fl) (rs : List (Int × ByteArray × ByteArray)) (left : Int) : Prop :=
  ∃ lv' rv', IsRef B w' e lv' rv' fs rs left ∧ Upd (FootR e lv rv) w w' ∧ (∀ j, FootR e lv' rv' j → FootR e lv rv j ∨ w.heap.size ≤ j)