/- Files, and maps of files by their paths. Plain facts, and what a map does. -/
import Derived.Test.YtefcndfeemnglaaGreatDoorRows
import Derived.WalkKit
import Derived.WalkSpells
import Derived.WalkLawsBesides
import Derived.Maps.OwnSet
import Derived.Maps.RangeWalk
namespace Go.Proofs.YtefcndfeemnglaaGreatDoor
open Go.RowKit Go.Maps Go.WideMaps Go.WideElems
set_option maxRecDepth 100000

/-- A file or directory. -/
structure Fi where
  pa : ByteArray
  dr : Bool
  da : ByteArray
def filC (x : Fi) : Value := .agg #[.string x.pa, .bool x.dr, .string x.da]
def encF (x : Fi) : List Value := [.string x.pa, .bool x.dr, .string x.da]
theorem filC_inj {x y : Fi} (h : filC x = filC y) : x = y := by
  unfold filC at h
  simp only [Value.agg.injEq, Array.mk.injEq, List.cons.injEq, Value.string.injEq, Value.bool.injEq, and_true] at h
  cases x
  cases y
  simp only at h
  rw [h.1, h.2.1, h.2.2]
def keyF (s : ByteArray) : Lit := .string s.data.toList
theorem keyF_inj {s t : ByteArray} (h : keyF s = keyF t) : s = t := by
  unfold keyF at h
  injection h with h
  cases s
  cases t
  simp only [ByteArray.mk.injEq]
  exact Array.toList_inj.1 h
theorem isKeyF (s : ByteArray) : WideAt.IsKeyLit (keyF s) := by unfold keyF WideAt.IsKeyLit; trivial
theorem keyedF : Keyed Tryz.prog 9 := string_keyed Tryz.underlying9
theorem keyOfF {s : ByteArray} (hs : s.size ≤ maxLen) : keyOf Tryz.prog 9 (.string s) = some (keyF s) := keyOf_string_mk Tryz.underlying9 hs
/-- What lies in a map is read as itself. -/
def hldR (v : Value) : Option (DataW Value × List MemPlace) := some (.held v, [])

/-- A map of files by their paths. -/
structure MapF (D : DataW Value) (L : List Fi) : Prop where
  map : Maps.IsMap D
  keys : ∀ kl, Maps.has D kl = true → ∃ x ∈ L, kl = keyF x.pa
  has : ∀ x ∈ L, Maps.has D (keyF x.pa) = true ∧ ∀ z, D.atKey (keyF x.pa) z = .held (filC x)
  dist : L.Pairwise fun x y => x.pa ≠ y.pa
theorem MapF.new : MapF (.map []) [] := ⟨⟨[], rfl⟩, (fun kl h => by cases h), (fun x hx => by cases hx), List.Pairwise.nil⟩
open Classical in
/-- A file more, in the place of what had its path. -/
noncomputable def putL (L : List Fi) (x : Fi) : List Fi := x :: L.filter fun y => decide (y.pa ≠ x.pa)
theorem mem_putL {L : List Fi} {x y : Fi} : y ∈ putL L x ↔ y = x ∨ (y ∈ L ∧ y.pa ≠ x.pa) := by
  unfold putL
  rw [List.mem_cons, List.mem_filter, decide_eq_true_eq]
theorem putL_len (L : List Fi) (x : Fi) : (putL L x).length ≤ L.length + 1 := by
  unfold putL
  rw [List.length_cons]
  exact Nat.succ_le_succ (List.length_filter_le _ _)
theorem MapF.put {D : DataW Value} {L : List Fi} (h : MapF D L) (x : Fi) : MapF (D.put (keyF x.pa) (.held (filC x))) (putL L x) := by
  have hm : Maps.IsMap (D.put (keyF x.pa) (.held (filC x))) := by
    obtain ⟨es, rfl⟩ := h.map
    exact ⟨_, rfl⟩
  refine ⟨hm, fun kl hk => ?_, fun y hy => ?_, ?_⟩
  · by_cases e : kl = keyF x.pa
    · exact ⟨x, mem_putL.2 (Or.inl rfl), e⟩
    · rw [Maps.has_put_other e] at hk
      obtain ⟨y, hy, rfl⟩ := h.keys kl hk
      exact ⟨y, mem_putL.2 (Or.inr ⟨hy, fun q => e (by rw [q])⟩), rfl⟩
  · rcases mem_putL.1 hy with rfl | ⟨hy, hne⟩
    · exact ⟨Maps.has_put_same h.map (isKeyF _) _, fun z => Maps.atKey_put_same h.map (isKeyF _) _ z⟩
    · have hk : keyF y.pa ≠ keyF x.pa := fun e => hne (keyF_inj e)
      rw [Maps.has_put_other hk]
      exact ⟨(h.has y hy).1, fun z => by rw [Maps.atKey_put_other hk]; exact (h.has y hy).2 z⟩
  · unfold putL
    rw [List.pairwise_cons]
    refine ⟨fun y hy => ?_, h.dist.filter _⟩
    have := (List.mem_filter.1 hy).2
    rw [decide_eq_true_eq] at this
    exact fun e => this e.symm

/-- While a map is gone through: V came, U is to come. -/
def GoneF (L V U : List Fi) (left : Lit → Bool) : Prop := (V ++ U).Perm L ∧ (∀ x ∈ U, left (keyF x.pa) = true) ∧ ∀ kl, left kl = true → ∃ x ∈ U, kl = keyF x.pa
theorem same_litF {x : Fi} {kl : Lit} (h : (keyF x.pa).sameKey kl = true) : kl = keyF x.pa := by
  unfold keyF at *
  cases kl <;> simp [Lit.sameKey] at h
  rw [h]
theorem same_selfF (x : Fi) : (keyF x.pa).sameKey (keyF x.pa) = true := by simp [keyF, Lit.sameKey]
theorem GoneF.start {D : DataW Value} {L : List Fi} (h : MapF D L) : GoneF L [] L (Maps.has D) := ⟨List.Perm.refl _, fun x hx => (h.has x hx).1, h.keys⟩
theorem GoneF.step {L V U : List Fi} {left : Lit → Bool} (h : GoneF L V U left) (hL : L.Pairwise fun x y => x.pa ≠ y.pa) {x : Fi} (hx : x ∈ U) : ∃ U', GoneF L (V ++ [x]) U' (fun z => left z && !z.sameKey (keyF x.pa)) := by
  obtain ⟨hp, h1, h2⟩ := h
  obtain ⟨U1, U2, rfl⟩ := List.append_of_mem hx
  refine ⟨U1 ++ U2, ?_, fun y hy => ?_, fun kl hk => ?_⟩
  · refine List.Perm.trans ?_ hp
    rw [List.append_assoc]
    refine List.Perm.append_left V ?_
    exact (List.perm_middle (a := x) (l₁ := U1) (l₂ := U2)).symm
  · have hpw : (V ++ (U1 ++ x :: U2)).Pairwise fun x y => x.pa ≠ y.pa := (hp.pairwise_iff (fun q e => q e.symm)).2 hL
    have hu := (List.pairwise_append.1 hpw).2.1
    have hu2 := (List.perm_middle.pairwise_iff (fun q e => q e.symm)).1 hu
    have hne : x.pa ≠ y.pa := (List.pairwise_cons.1 hu2).1 y hy
    have hy' : y ∈ U1 ++ x :: U2 := by
      rcases List.mem_append.1 hy with q | q
      · exact List.mem_append_left _ q
      · exact List.mem_append_right _ (List.mem_cons_of_mem _ q)
    show (left (keyF y.pa) && !(keyF y.pa).sameKey (keyF x.pa)) = true
    rw [h1 y hy', Bool.true_and, Bool.not_eq_true']
    cases hs : (keyF y.pa).sameKey (keyF x.pa) with
    | false => rfl
    | true => exact absurd (keyF_inj (same_litF hs)) hne
  · rw [Bool.and_eq_true, Bool.not_eq_true'] at hk
    obtain ⟨y, hy, rfl⟩ := h2 kl hk.1
    rcases List.mem_append.1 hy with q | q
    · exact ⟨y, List.mem_append_left _ q, rfl⟩
    · rcases List.mem_cons.1 q with rfl | q
      · rw [same_selfF] at hk; exact absurd hk.2 (by decide)
      · exact ⟨y, List.mem_append_right _ q, rfl⟩
theorem GoneF.done {L V U : List Fi} {left : Lit → Bool} (h : GoneF L V U left) (hl : ∀ kl, left kl = false) : V.Perm L := by
  have : U = [] := by
    cases U with
    | nil => rfl
    | cons x U =>
      have := h.2.1 x List.mem_cons_self
      rw [hl] at this
      cases this
  subst this
  have := h.1
  rwa [List.append_nil] at this
end Go.Proofs.YtefcndfeemnglaaGreatDoor
