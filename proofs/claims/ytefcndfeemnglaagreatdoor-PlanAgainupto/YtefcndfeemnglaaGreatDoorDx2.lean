/- The journal's paths; what is loaded stands in order. Plain facts. -/
import Derived.Test.YtefcndfeemnglaaGreatDoorDx1
namespace Go.Proofs.YtefcndfeemnglaaGreatDoor
open Go.RowKit Go.Maps Dk
set_option maxRecDepth 100000

def jn : ByteArray := ⟨#[47, 106, 111, 117, 114, 110, 97, 108]⟩
def jS : ByteArray := ⟨#[47, 106, 111, 117, 114, 110, 97, 108, 47]⟩
/-- Is a path the journal's, or below it? -/
def jB (s : ByteArray) : Bool := s.toList == jn.toList || (decide (8 < s.size) && (s.extract 0 9).toList == jS.toList)

theorem ext_list (s : ByteArray) (b : Nat) : (s.extract 0 b).data.toList = s.data.toList.take b := by
  rw [ByteArray.data_extract, Array.toList_extract, List.extract_eq_take_drop]
  simp
theorem ext_ext (s : ByteArray) {a b : Nat} (h : a ≤ b) : (s.extract 0 b).extract 0 a = s.extract 0 a := by
  refine bytes_eq ?_
  rw [ext_list, ext_list, ext_list, List.take_take, Nat.min_eq_left h]

theorem kind_two_has {D : DataW Unit} {s : ByteArray} (h : kindD D s = 2) (hr : (s.toList == [47]) = false) : Maps.has D (keyD s) = true := by
  unfold kindD at h
  rw [if_neg (by rw [hr]; decide)] at h
  cases hh : Maps.has D (keyD s) with
  | true => rfl
  | false => rw [if_neg (by rw [hh]; decide)] at h; cases h

theorem jour_in {D : DataW Unit} (hS : Sound D) (hK : ∀ kl, Maps.has D kl = true → ∃ s, kl = keyD s ∧ okPath s = true) : ∀ (n : Nat) (s : ByteArray), s.size ≤ n → Maps.has D (keyD s) = true → 8 < s.size → s.extract 0 9 = jS → Maps.has D (keyD jn) = true := by
  intro n
  induction n with
  | zero => intro s h1 _ h2 _; omega
  | succ n ih =>
    intro s hs hh h8 he
    obtain ⟨s', e', hok⟩ := hK _ hh
    rw [← keyD_inj e'] at hok
    clear e'
    obtain ⟨i, hi, hl, hc, hn⟩ := last_at (okPath_parts hok).2
    have hlen : s.data.toList.length = s.size := Array.length_toList
    have h47 : s[8] = 47 := by
      have h1 : s.data.toList.take 9 = jS.data.toList := by rw [← ext_list, he]
      have h2 : s.data.toList[8]? = some 47 := by
        rw [← List.getElem?_take_of_lt (show 8 < 9 by omega), h1]; rfl
      rw [List.getElem?_eq_getElem (by omega)] at h2
      have h3 := Option.some.inj h2
      rw [Array.getElem_toList] at h3
      exact h3
    have i8 : 8 ≤ i := by
      by_cases q : 8 ≤ i
      · exact q
      · exact absurd h47 (hn 8 h8 (by omega))
    have hp : parentOf s = s.extract 0 i := by
      unfold parentOf
      rw [hl, if_neg (by omega), Int.toNat_natCast]
    have hk := hS s hh
    rw [hp] at hk
    have hsz : (s.extract 0 i).size = i := by rw [ByteArray.size_extract]; omega
    have hr : ((s.extract 0 i).toList == [47]) = false := by
      rw [Bool.eq_false_iff]
      intro e
      have e1 := congrArg List.length (beq_iff_eq.1 e)
      rw [toList_data, Array.length_toList] at e1
      have : (s.extract 0 i).data.size = i := hsz
      simp at e1
      omega
    have hhas := kind_two_has hk hr
    by_cases q : i = 8
    · subst q
      have : s.extract 0 8 = jn := by
        rw [← ext_ext s (show 8 ≤ 9 by omega), he]
        rfl
      rw [← this]
      exact hhas
    · exact ih _ (by omega) hhas (by omega) (by rw [ext_ext s (by omega)]; exact he)

theorem jn_root : (jn.toList == [47]) = false := by decide +kernel
theorem jour {fs : List Fl} (h : Loads fs) : kindD (loadD fs) jn = 0 ↔ ∀ f ∈ fs, jB f.1 = false := by
  constructor
  · intro hk f hf
    have h0 := kind_none_has hk
    rw [Bool.eq_false_iff]
    intro hj
    have hh : Maps.has (loadD fs) (keyD f.1) = true := (has_load _ _).2 ⟨f, hf, rfl⟩
    unfold jB at hj
    rw [Bool.or_eq_true, Bool.and_eq_true, decide_eq_true_eq] at hj
    rcases hj with hj | ⟨h8, hj⟩
    · rw [beq_bytes.1 hj, h0] at hh; cases hh
    · have := jour_in (load_sound h) (keys_load fs fun g hg => by
        obtain ⟨i, hi, rfl⟩ := List.getElem_of_mem hg
        exact okF_path (h.1 i hi).1) _ f.1 (Nat.le_refl _) hh h8 (beq_bytes.1 hj)
      rw [h0] at this; cases this
  · intro hj
    refine kind_none jn_root ?_
    rw [Bool.eq_false_iff]
    intro hh
    obtain ⟨f, hf, e⟩ := (has_load _ _).1 hh
    have := hj f hf
    unfold jB at this
    rw [e, beq_bytes.2 rfl] at this
    cases this

/-- What may be handed in. -/
def OkJ (fs : List Fl) : Prop := Loads fs ∧ ∀ f ∈ fs, jB f.1 = false
theorem loads_ok {fs : List Fl} (h : Loads fs) : ∀ f ∈ fs, okF f = true := fun f hf => by
  obtain ⟨i, hi, rfl⟩ := List.getElem_of_mem hf
  exact (h.1 i hi).1
theorem loads_plain {fs : List Fl} (h : Loads fs) : Plain (loadD fs) := plain_load fs fun f hf => okF_path (loads_ok h f hf)
theorem ordL {fs : List Fl} (h : Loads fs) : Ord fs (filesD (loadD fs)) :=
  ⟨(loads_plain h).good.rise, loads_apart h.1, fun f => mem_files_load (loads_apart h.1) (loads_plain h).good f, fun f hf hc => by
    have h1 := loads_ok h f hf
    unfold okF at h1
    rw [hc] at h1
    simp only [Bool.true_and, Bool.not_not, Bool.and_eq_true, beq_iff_eq] at h1
    have h2 := h1.2
    rw [toList_data] at h2
    exact bytes_eq h2⟩
end Go.Proofs.YtefcndfeemnglaaGreatDoor
