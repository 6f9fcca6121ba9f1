/- Ld1, Ld2, DkU, DkF, Plays1, laid in one text. -/
import Derived.Deep.RegionHeld3
import Derived.Deep.DeepHandedRow
import Derived.Deep.DeepWitnessRowRef
import Derived.Test.YthijkdphlmogjaaGreatDoorMg07
namespace Go.Proofs.YthijkdphlmogjaaGreatDoor
open Go.RowKit Go.Maps Go.WideMaps Go.WideElems Go.Sort Go.Shelf
set_option maxRecDepth 100000

/-- A directory bears no data; the path may be. -/
def okF (f : Fl) : Bool := okPath f.1 && !(f.2.1 && !(f.2.2.toList == []))
def putF (D : DataW Unit) (f : Fl) : DataW Unit := D.put (keyD f.1) (itemD f.2.1 f.2.2)
def loadD (fs : List Fl) : DataW Unit := fs.foldl putF (.map [])

theorem loadD_take (fs : List Fl) (k : Nat) (hk : k < fs.length) : loadD (fs.take (k + 1)) = putF (loadD (fs.take k)) fs[k] := by
  unfold loadD
  rw [List.take_succ_eq_append_getElem hk, List.foldl_append]; rfl
theorem loadD_snoc (fs : List Fl) (f : Fl) : loadD (fs ++ [f]) = putF (loadD fs) f := by
  unfold loadD
  rw [List.foldl_append]; rfl

/-- What Load takes. -/
def Loads (fs : List Fl) : Prop := (∀ i (hi : i < fs.length), okF fs[i] = true ∧ kindD (loadD (fs.take i)) fs[i].1 = 0) ∧ ∀ i (hi : i < fs.length), parentD (loadD fs) fs[i].1 = 0

theorem isMap_put {D : DataW Unit} (h : IsMap D) (f : Fl) : IsMap (putF D f) := by
  obtain ⟨es, rfl⟩ := h
  exact ⟨_, rfl⟩

theorem snoc_ind {P : List Fl → Prop} (h0 : P []) (h1 : ∀ l f, P l → P (l ++ [f])) (l : List Fl) : P l := by
  have : ∀ n (l : List Fl), l.length = n → P l := by
    intro n
    induction n with
    | zero => intro l hl; rw [List.eq_nil_of_length_eq_zero hl]; exact h0
    | succ n ih =>
      intro l hl
      have hne : l ≠ [] := by rintro rfl; cases hl
      rw [← List.dropLast_concat_getLast hne]
      exact h1 _ _ (ih _ (by rw [List.length_dropLast, hl]; rfl))
  exact this _ l rfl

theorem loadD_map (fs : List Fl) : IsMap (loadD fs) := by
  refine snoc_ind (P := fun l => IsMap (loadD l)) ⟨[], rfl⟩ (fun l f h => ?_) fs
  rw [loadD_snoc]
  exact isMap_put h f

theorem has_nil (kl : Lit) : Maps.has (loadD []) kl = false := rfl

theorem has_load (fs : List Fl) (s : ByteArray) : Maps.has (loadD fs) (keyD s) = true ↔ ∃ f ∈ fs, f.1 = s := by
  refine snoc_ind (P := fun l => Maps.has (loadD l) (keyD s) = true ↔ ∃ f ∈ l, f.1 = s) ?_ (fun l f h => ?_) fs
  · rw [has_nil]
    exact ⟨(fun h => by cases h), (fun ⟨f, hf, _⟩ => by cases hf)⟩
  · rw [loadD_snoc]
    unfold putF
    by_cases e : f.1 = s
    · rw [e, has_put_same (loadD_map l) (isKey s)]
      exact ⟨fun _ => ⟨f, by simp, e⟩, fun _ => rfl⟩
    · rw [has_put_other (fun h' => e (keyD_inj h').symm), h]
      constructor
      · rintro ⟨g, hg, rfl⟩
        exact ⟨g, by simp [hg], rfl⟩
      · rintro ⟨g, hg, rfl⟩
        rcases List.mem_append.1 hg with hg | hg
        · exact ⟨g, hg, rfl⟩
        · exact absurd (List.mem_singleton.1 hg ▸ rfl) e

theorem keys_load (fs : List Fl) (hok : ∀ f ∈ fs, okPath f.1 = true) : ∀ kl, Maps.has (loadD fs) kl = true → ∃ s, kl = keyD s ∧ okPath s = true := by
  revert hok
  refine snoc_ind (P := fun l => (∀ f ∈ l, okPath f.1 = true) → ∀ kl, Maps.has (loadD l) kl = true → ∃ s, kl = keyD s ∧ okPath s = true) ?_ (fun l f h => ?_) fs
  · intro _ kl h
    rw [has_nil] at h
    cases h
  · intro hok
    rw [loadD_snoc]
    exact keys_put (hok f (by simp)) (h fun g hg => hok g (by simp [hg]))

theorem at_load (fs : List Fl) (hd : fs.Pairwise fun x y => x.1 ≠ y.1) (f : Fl) (hf : f ∈ fs) : (loadD fs).atKey (keyD f.1) zeroD = itemD f.2.1 f.2.2 := by
  revert hd hf
  refine snoc_ind (P := fun l => (l.Pairwise fun x y => x.1 ≠ y.1) → f ∈ l → (loadD l).atKey (keyD f.1) zeroD = itemD f.2.1 f.2.2) ?_ (fun l g h => ?_) fs
  · intro _ hf
    cases hf
  · intro hd hf
    rw [List.pairwise_append] at hd
    rw [loadD_snoc]
    unfold putF
    rcases List.mem_append.1 hf with hf | hf
    · have hne : f.1 ≠ g.1 := hd.2.2 f hf g (by simp)
      rw [atKey_put_other (fun e => hne (keyD_inj e))]
      exact h hd.1 hf
    · obtain rfl := List.mem_singleton.1 hf
      exact atKey_put_same (loadD_map l) (isKey f.1) _ _

theorem rising_apart {fs : List Fl} (h : Rising fs) : fs.Pairwise fun x y => x.1 ≠ y.1 := h.imp fun {x y} h e => by rw [e, WideAt.bytes_irrefl] at h; cases h

/-- Directories bear no data. -/
def DirE (D : DataW Unit) : Prop := ∀ f ∈ filesD D, f.2.1 = true → f.2.2 = ByteArray.empty

theorem kind_load {D : DataW Unit} (hG : Good D) (s : ByteArray) : kindD (loadD (filesD D)) s = kindD D s := by
  unfold kindD
  by_cases h1 : (s.toList == [47]) = true
  · rw [if_pos h1, if_pos h1]
  rw [if_neg h1, if_neg h1]
  by_cases hs : Maps.has D (keyD s) = true
  · obtain ⟨c, t, hct⟩ := hG.item s hs
    have hm : ((s, c, t) : Fl) ∈ filesD D := (hG.mem _).2 ⟨hs, hct⟩
    have h2 : Maps.has (loadD (filesD D)) (keyD s) = true := (has_load _ s).2 ⟨_, hm, rfl⟩
    have h3 := at_load _ (rising_apart hG.rise) _ hm
    simp only at h3
    rw [if_pos hs, if_pos h2, h3, hct]
  · have h2 : ¬ Maps.has (loadD (filesD D)) (keyD s) = true := fun h => by
      obtain ⟨f, hf, rfl⟩ := (has_load _ s).1 h
      exact hs ((hG.mem f).1 hf).1
    rw [if_neg hs, if_neg h2]

theorem okF_of {D : DataW Unit} (hG : Good D) (hE : DirE D) {f : Fl} (hf : f ∈ filesD D) : okF f = true := by
  have h1 : okPath f.1 = true := by
    obtain ⟨s, hs, ho⟩ := hG.keys _ ((hG.mem f).1 hf).1
    rw [keyD_inj hs]
    exact ho
  unfold okF
  rw [h1]
  cases hc : f.2.1 with
  | false => rfl
  | true => rw [hE f hf hc, toList_data]; rfl

theorem not_root {s : ByteArray} (h : okPath s = true) : (s.toList == [47]) = false := by
  unfold okPath at h
  simp only [Bool.and_eq_true, Bool.not_eq_true'] at h
  exact h.2

theorem take_has (fs : List Fl) (hd : fs.Pairwise fun x y => x.1 ≠ y.1) (i : Nat) (hi : i < fs.length) : Maps.has (loadD (fs.take i)) (keyD fs[i].1) = false := by
  rw [Bool.eq_false_iff]
  intro h
  obtain ⟨f, hf, he⟩ := (has_load _ _).1 h
  obtain ⟨j, hj, rfl⟩ := List.getElem_of_mem hf
  have hj' : j < i := by rw [List.length_take] at hj; omega
  have := List.pairwise_iff_getElem.1 hd j i (by omega) hi hj'
  rw [List.getElem_take] at he
  exact this he

theorem kind_none {D : DataW Unit} {s : ByteArray} (h1 : (s.toList == [47]) = false) (h2 : Maps.has D (keyD s) = false) : kindD D s = 0 := by
  unfold kindD
  rw [if_neg (by rw [h1]; decide), if_neg (by rw [h2]; decide)]
theorem kind_none_has {D : DataW Unit} {s : ByteArray} (h : kindD D s = 0) : Maps.has D (keyD s) = false := by
  rw [Bool.eq_false_iff]
  intro h2
  unfold kindD at h
  rw [if_pos h2] at h
  split at h
  · cases h
  · split at h <;> cases h

/-- All that a disk has may be loaded. -/
theorem loads_all {D : DataW Unit} (hG : Good D) (hS : Sound D) (hE : DirE D) : Loads (filesD D) := by
  refine ⟨fun i hi => ?_, fun i hi => ?_⟩
  · have h1 := okF_of hG hE (List.getElem_mem hi)
    have h2 : okPath (filesD D)[i].1 = true := by unfold okF at h1; simp only [Bool.and_eq_true] at h1; exact h1.1
    exact ⟨h1, kind_none (not_root h2) (take_has _ (rising_apart hG.rise) i hi)⟩
  · have h1 := hS _ ((hG.mem _).1 (List.getElem_mem hi)).1
    unfold parentD
    rw [kind_load hG, h1]
    rfl

theorem files_load {D : DataW Unit} (hG : Good D) (hL : Good (loadD (filesD D))) : filesD (loadD (filesD D)) = filesD D := by
  refine eq_of_rising hL.rise hG.rise fun y => ?_
  rw [hL.mem, hG.mem, has_load]
  constructor
  · rintro ⟨⟨f, hf, e⟩, h2⟩
    have h3 := at_load _ (rising_apart hG.rise) f hf
    have h4 := (hG.mem f).1 hf
    rw [e] at h3 h4
    refine ⟨h4.1, ?_⟩
    rw [h4.2, ← h3, h2]
  · rintro ⟨h1, h2⟩
    have hm : y ∈ filesD D := (hG.mem y).2 ⟨h1, h2⟩
    exact ⟨⟨y, hm, rfl⟩, at_load _ (rising_apart hG.rise) y hm⟩

/-- Apart: the keys of what Load takes differ. -/
theorem loads_apart {fs : List Fl} (h : ∀ i (hi : i < fs.length), okF fs[i] = true ∧ kindD (loadD (fs.take i)) fs[i].1 = 0) : fs.Pairwise fun x y => x.1 ≠ y.1 := by
  rw [List.pairwise_iff_getElem]
  intro i j hi hj hij e
  have h1 := kind_none_has (h j hj).2
  rw [Bool.eq_false_iff] at h1
  refine h1 ((has_load _ _).2 ⟨fs[i], ?_, e⟩)
  exact List.mem_take_iff_getElem.2 ⟨i, by omega, by simp⟩

/-- The files that a loaded disk has are those of the list. -/
theorem mem_files_load {fs : List Fl} (hd : fs.Pairwise fun x y => x.1 ≠ y.1) (hL : Good (loadD fs)) (f : Fl) : f ∈ filesD (loadD fs) ↔ f ∈ fs := by
  rw [hL.mem, has_load]
  constructor
  · rintro ⟨⟨g, hg, e⟩, h2⟩
    have h3 := at_load _ hd g hg
    rw [e, h2] at h3
    unfold itemD at h3
    simp only [DataW.agg.injEq, List.cons.injEq, DataW.lit.injEq, Lit.bool.injEq, Lit.string.injEq, and_true] at h3
    obtain ⟨fs', fc, ft⟩ := f
    obtain ⟨gs, gc, gt⟩ := g
    simp only at e h3
    rw [← e, h3.1, bytes_eq h3.2]
    exact hg
  · intro hf
    exact ⟨⟨f, hf, rfl⟩, at_load _ hd f hf⟩

theorem load_dirE {fs : List Fl} (hok : ∀ f ∈ fs, okF f = true) (hd : fs.Pairwise fun x y => x.1 ≠ y.1) (hL : Good (loadD fs)) : DirE (loadD fs) := by
  intro f hf hc
  have h := hok f ((mem_files_load hd hL f).1 hf)
  unfold okF at h
  rw [hc] at h
  simp only [Bool.true_and, Bool.not_not, Bool.and_eq_true, beq_iff_eq] at h
  have h2 := h.2
  rw [toList_data] at h2
  exact bytes_eq h2

theorem load_sound {fs : List Fl} (h : Loads fs) : Sound (loadD fs) := by
  intro s hs
  obtain ⟨f, hf, rfl⟩ := (has_load _ _).1 hs
  obtain ⟨i, hi, rfl⟩ := List.getElem_of_mem hf
  exact parentD_zero (by rw [h.2 i hi]; rfl)

/-- A map's datum is known by its files. -/
theorem entries_eq {es es' : List (Lit × DataW Unit)} (h : ∀ p ∈ es, ∃ s c t, p = (keyD s, itemD c t)) (h' : ∀ p ∈ es', ∃ s c t, p = (keyD s, itemD c t)) (e : filesD (.map es) = filesD (.map es')) : es = es' := by
  induction es generalizing es' with
  | nil =>
    cases es' with
    | nil => rfl
    | cons p r => cases e
  | cons p r ih =>
    cases es' with
    | nil => cases e
    | cons p' r' =>
      unfold filesD at e ih
      simp only [List.map_cons, List.cons.injEq] at e
      obtain ⟨s, c, t, rfl⟩ := h p (by simp)
      obtain ⟨s', c', t', rfl⟩ := h' p' (by simp)
      have e1 := e.1
      rw [file_of, file_of] at e1
      cases e1
      rw [ih (fun q hq => h q (List.mem_cons_of_mem _ hq)) (fun q hq => h' q (List.mem_cons_of_mem _ hq)) e.2]
theorem disk_eq {B B' : Nat} {w w' : World} {d mb n d' mb' n' : Nat} {rv rv' : Value} {x x' : Ab} (h : IsDisk B w d mb n rv x) (h' : IsDisk B' w' d' mb' n' rv' x') (e : filesD x.D = filesD x'.D) : x.D = x'.D := by
  obtain ⟨es, he, _, _, hf⟩ := own_entries h.own
  obtain ⟨es', he', _, _, hf'⟩ := own_entries h'.own
  rw [he, he'] at e
  rw [he, he', entries_eq hf hf' e]

/-- Deeds keep directories without data. -/
theorem dirE_put {D : DataW Unit} (hm : IsMap D) (hG : Good D) {s : ByteArray} {c : Bool} {t : ByteArray} (hP : Good (D.put (keyD s) (itemD c t))) (hE : DirE D) (h : c = true → t = ByteArray.empty) : DirE (D.put (keyD s) (itemD c t)) := by
  intro f hf hc
  rw [← put_files hG hm hP, putD_ins, mem_ins] at hf
  rcases hf with rfl | ⟨hf, _⟩
  · exact h hc
  · exact hE f hf hc
theorem dirE_del {D : DataW Unit} (hG : Good D) {s : ByteArray} (hP : Good (D.del (keyD s))) (hE : DirE D) : DirE (D.del (keyD s)) := by
  intro f hf hc
  have := del_files (f := (s, false, ByteArray.empty)) hG hP
  rw [← this, putD_del, mem_filterF] at hf
  exact hE f hf.1 hc
theorem dirE_new : DirE newAb.D := fun f hf => by cases hf
theorem ite_dirE {c : Prop} [Decidable c] {a b : Int × Ab} (h1 : c → Plain a.2.D → DirE a.2.D) (h2 : ¬ c → Plain b.2.D → DirE b.2.D) : Plain (if c then a else b).2.D → DirE (if c then a else b).2.D := by
  split
  · exact h1 ‹_›
  · exact h2 ‹_›
theorem dirE_mkdir {x : Ab} (hP : Plain x.D) (hE : DirE x.D) (s : ByteArray) : Plain (mkdirD x s).2.D → DirE (mkdirD x s).2.D := by
  unfold mkdirD
  refine ite_dirE (fun _ _ => hE) fun _ => ite_dirE (fun _ _ => hE) fun _ => ite_dirE (fun _ _ => hE) fun _ h => ?_
  exact dirE_put hP.isMap hP.good h.good hE (fun _ => rfl)
theorem dirE_write {x : Ab} (hP : Plain x.D) (hE : DirE x.D) (s t : ByteArray) : Plain (writeFD x s t).2.D → DirE (writeFD x s t).2.D := by
  unfold writeFD
  refine ite_dirE (fun _ _ => hE) fun _ => ite_dirE (fun _ _ => hE) fun _ h => ?_
  exact dirE_put hP.isMap hP.good h.good hE (fun h => by cases h)
theorem dirE_rename {x : Ab} (hP : Plain x.D) (hE : DirE x.D) (s t : ByteArray) : Plain (renameD x s t).2.D → DirE (renameD x s t).2.D := by
  unfold renameD
  refine ite_dirE (fun _ _ => hE) fun _ => ite_dirE (fun _ _ => hE) fun _ => ite_dirE (fun _ _ => hE) fun _ h => ?_
  exact dirE_put (hP.del _).isMap (hP.del _).good h.good (dirE_del hP.good (hP.del _).good hE) (fun h => by cases h)
theorem dirE_remove {x : Ab} (hP : Plain x.D) (hE : DirE x.D) (s : ByteArray) : Plain (removeD x s).2.D → DirE (removeD x s).2.D := by
  unfold removeD
  refine ite_dirE (fun _ _ => hE) fun _ => ite_dirE (fun _ _ => hE) fun _ => ite_dirE (fun _ _ => hE) fun _ h => ?_
  exact dirE_del hP.good (hP.del _).good hE
theorem dirE_puts {x : Ab} (hP : Plain x.D) (hE : DirE x.D) (k : Int) (p t u : ByteArray) : Plain (putsD x k p t u).2.D → DirE (putsD x k p t u).2.D := by
  unfold putsD
  exact ite_dirE (fun _ => dirE_mkdir hP hE p) fun _ => ite_dirE (fun _ => dirE_write hP hE p u) fun _ => ite_dirE (fun _ => dirE_rename hP hE p t) fun _ => dirE_remove hP hE p
theorem dirE_asks {x : Ab} (hP : Plain x.D) (hE : DirE x.D) (k : Int) (p t u : ByteArray) (z : Int) : Plain (asksD x k p t u z).D → DirE (asksD x k p t u z).D := by
  unfold asksD
  repeat' split
  all_goals first
    | exact fun _ => hE
    | exact dirE_puts hP hE k p t u
end Go.Proofs.YthijkdphlmogjaaGreatDoor
namespace Go.Proofs.YthijkdphlmogjaaGreatDoor
open Go.RowKit Go.Maps Go.WideMaps Go.WideElems Go.Sort Go.Shelf
set_option maxRecDepth 100000

def fileObj (p : ByteArray) (c : Bool) (t : ByteArray) : Obj := .cells #[.string p, .bool c, .string t] 47
theorem file_new (w W : World) (p : ByteArray) (c : Bool) (t : ByteArray) (hb : Below (w.alloc (fileObj p c t)).heap.size (w.alloc (fileObj p c t)) W) :
    W.cell? ⟨w.heap.size, 0, none⟩ = some (.string p) ∧ W.cell? ⟨w.heap.size, 1, none⟩ = some (.bool c) ∧ W.cell? ⟨w.heap.size, 2, none⟩ = some (.string t) := by
  have q : ∀ i, W.cell? ⟨w.heap.size, i, none⟩ = (w.alloc (fileObj p c t)).cell? ⟨w.heap.size, i, none⟩ := fun i => hb.cell (p := ⟨w.heap.size, i, none⟩) (by simp)
  refine ⟨?_, ?_, ?_⟩ <;> rw [q] <;> unfold fileObj <;> rw [World.cell?_alloc_new] <;> rfl

set_option maxHeartbeats 1000000 in
theorem mayLoad_any (p : ByteArray) (c : Bool) (t : ByteArray) (m : Int) (w : World) (hm : w.cell? ⟨0, 0, none⟩ = some (.int .i64 m)) :
    Calls Tryz.prog 23 #[.agg #[.string p, .bool c, .string t]] w fun e w' => e = .returned (.bool (okF (p, c, t))) ∧ Below w.heap.size w w' := by
  have HP : Hid (Calls Tryz.prog 46 #[.string p] (w.alloc (.cells #[.string p, .bool c, .string t] 47)) fun e w' => e = .returned (.bool (pathB p)) ∧ Below (w.alloc (.cells #[.string p, .bool c, .string t] 47)).heap.size (w.alloc (.cells #[.string p, .bool c, .string t] 47)) w') := isPath_any p m _ (cell_below hm (alloc_below w _))
  have HB := hide3 (alloc_below w (.cells #[.string p, .bool c, .string t] 47))
  have HC := hide3 (fun W => file_new w W p c t)
  have HE : Hid (okF (p, c, t) = (!(p.toList == [47]) && pathB p && !(c && !(t.toList == [])))) := by
    unfold Hid okF okPath
    simp only
    rw [Bool.and_comm (pathB p)]
  generalize okF (p, c, t) = ok at *
  clear hm
  by_cases h1 : (p.toList == [47]) = true
  · rw [h1] at HE
    go_enter Tryz.func23, Tryz.ntmps23
    go_wp2
    go_ret
    exact ⟨ret_bool (by rw [HE.out]; rfl), HB.out⟩
  rw [Bool.not_eq_true] at h1
  rw [h1] at HE
  generalize pathB p = b at *
  cases b
  · go_enter Tryz.func23, Tryz.ntmps23
    go_wp2_with (go_at_call 46; refine HP.out.mono ?_; rintro e w1 ⟨rfl, hb⟩)
    go_ret
    exact ⟨ret_bool (by rw [HE.out]; rfl), HB.out.trans (hb.mono HB.out.size)⟩
  · cases c
    · go_enter Tryz.func23, Tryz.ntmps23
      go_wp2_with (go_at_call 46; refine HP.out.mono ?_; rintro e w1 ⟨rfl, hb⟩; obtain ⟨q0, q1, q2⟩ := HC.out _ hb)
      go_ret
      exact ⟨ret_bool (by rw [HE.out]; rfl), HB.out.trans (hb.mono HB.out.size)⟩
    · by_cases ht : (t.toList == []) = true
      · rw [ht] at HE
        go_enter Tryz.func23, Tryz.ntmps23
        go_wp2_with (go_at_call 46; refine HP.out.mono ?_; rintro e w1 ⟨rfl, hb⟩; obtain ⟨q0, q1, q2⟩ := HC.out _ hb)
        go_ret
        exact ⟨ret_bool (by rw [HE.out]; rfl), HB.out.trans (hb.mono HB.out.size)⟩
      · rw [Bool.not_eq_true] at ht
        rw [ht] at HE
        go_enter Tryz.func23, Tryz.ntmps23
        go_wp2_with (go_at_call 46; refine HP.out.mono ?_; rintro e w1 ⟨rfl, hb⟩; obtain ⟨q0, q1, q2⟩ := HC.out _ hb)
        go_ret
        exact ⟨ret_bool (by rw [HE.out]; rfl), HB.out.trans (hb.mono HB.out.size)⟩

/-- What Load answers. -/
def LoadQ (w : World) (fs : List Fl) (e : Ending) (w' : World) : Prop := Below w.heap.size w w' ∧
  ((Loads fs ∧ e = .returned (.tuple #[.pointer (some ⟨w.heap.size + 1, 0, none⟩), .int .i64 0]) ∧ ∃ n, n ≤ fs.length ∧ IsDisk w.heap.size w' (w.heap.size + 1) w.heap.size n (.slice none 0 0) ⟨loadD fs, [], -1⟩) ∨
   (¬ Loads fs ∧ e = .returned (.tuple #[.pointer none, .int .i64 1])))

/-- A list of files in memory. -/
def FilesAt (w : World) (g off : Nat) (fs : List Fl) : Prop := ∀ k (hk : k < fs.length), w.cell? ⟨g, off + k * 3, none⟩ = some (.string fs[k].1) ∧ w.cell? ⟨g, off + k * 3 + 1, none⟩ = some (.bool fs[k].2.1) ∧ w.cell? ⟨g, off + k * 3 + 1 + 1, none⟩ = some (.string fs[k].2.2)

theorem okF_path {p : ByteArray} {c : Bool} {t : ByteArray} (h : okF (p, c, t) = true) : okPath p = true := by
  unfold okF at h
  simp only [Bool.and_eq_true] at h
  exact h.1

set_option maxHeartbeats 4000000 in
theorem Load_some (fs : List Fl) (g off cap : Nat) (m : Int) (w : World) (hm : w.cell? ⟨0, 0, none⟩ = some (.int .i64 m)) (hg : g < w.heap.size) (hlen : fs.length ≤ 2199023255551)
    (hc : FilesAt w g off fs) (hz : ∀ f ∈ fs, f.1.size ≤ maxLen ∧ f.2.2.size ≤ maxLen) :
    Calls Tryz.prog 6 #[.slice (some ⟨g, off, none⟩) fs.length cap] w (LoadQ w fs) := by
  have HC := hide3 hc
  have HZ := hide3 hz
  have HM := hide3 hm
  have hb0 := new_below w
  have HN : Hid (IsDisk w.heap.size (wNew w) (w.heap.size + 1) w.heap.size 0 (.slice none 0 0) newAb) := new_is (Nat.le_refl _)
  have HB0 : Hid (Below w.heap.size w (wNew w)) := hb0
  have hsz := size_wNew w
  have HNO : Hid (∀ w', ¬ Loads fs → Below w.heap.size w w' → LoadQ w fs (.returned (.tuple #[.pointer none, .int .i64 1])) w') := fun w' h hb => ⟨hb, Or.inr ⟨h, rfl⟩⟩
  have HYES : Hid (∀ w' n, Loads fs → Below w.heap.size w w' → n ≤ fs.length → IsDisk w.heap.size w' (w.heap.size + 1) w.heap.size n (.slice none 0 0) ⟨loadD fs, [], -1⟩ → LoadQ w fs (.returned (.tuple #[.pointer (some ⟨w.heap.size + 1, 0, none⟩), .int .i64 0])) w') := fun w' n h hb hn hd => ⟨hb, Or.inl ⟨h, rfl, n, hn, hd⟩⟩
  have HLD : Hid (Loads fs → ∀ i (hi : i < fs.length), okF fs[i] = true ∧ kindD (loadD (fs.take i)) fs[i].1 = 0) := fun h => h.1
  have HLP : Hid (Loads fs → ∀ i (hi : i < fs.length), parentD (loadD fs) fs[i].1 = 0) := fun h => h.2
  have HLI : Hid ((∀ i (hi : i < fs.length), okF fs[i] = true ∧ kindD (loadD (fs.take i)) fs[i].1 = 0) → (∀ i (hi : i < fs.length), parentD (loadD fs) fs[i].1 = 0) → Loads fs) := fun h h' => ⟨h, h'⟩
  clear hc hz hm hb0
  generalize LoadQ w fs = HQ at *
  go_enter Tryz.func6, Tryz.ntmps6
  go_wp2_with (go_at_call 14; refine (New_any _).mono ?_; rintro e w1 ⟨rfl, rfl⟩)
  go_loopw [12] (fun i wr => ∃ k : Nat, k ≤ fs.length ∧ i = .int .i64 k ∧ (∃ n, n ≤ k ∧ IsDisk w.heap.size wr (w.heap.size + 1) w.heap.size n (.slice none 0 0) ⟨loadD (fs.take k), [], -1⟩) ∧ Below w.heap.size w wr ∧ ∀ j (hj : j < fs.length), j < k → okF fs[j] = true ∧ kindD (loadD (fs.take j)) fs[j].1 = 0) (fun i _ => fs.length - (intOf i).toNat)
  case atStart => exact ⟨0, Nat.zero_le _, rfl, ⟨0, Nat.le_refl _, HN.out⟩, HB0.out, fun j hj h => absurd h (Nat.not_lt_zero _)⟩
  case round =>
    obtain ⟨k, hk, rfl, ⟨n, hn, hd⟩, hb, hall⟩ := hrel
    have HD := hide3 hd
    have HB := hide3 hb
    have HA := hide3 hall
    clear hd hb hall
    by_cases hlt : k < fs.length
    · obtain ⟨f, hf⟩ : ∃ f, f = fs[k] := ⟨_, rfl⟩
      have HF := hide3 hf
      obtain ⟨p, c, t⟩ := f
      have hcs := HC.out k hlt
      rw [← hf] at hcs
      obtain ⟨a0, a1, a2⟩ := hcs
      have b0 := (HB.out.cell (p := ⟨g, off + k * 3, none⟩) hg).trans a0
      have b1 := (HB.out.cell (p := ⟨g, off + k * 3 + 1, none⟩) hg).trans a1
      have b2 := (HB.out.cell (p := ⟨g, off + k * 3 + 1 + 1, none⟩) hg).trans a2
      have hzz := HZ.out fs[k] (List.getElem_mem hlt)
      rw [← hf] at hzz
      obtain ⟨hz1, hz2⟩ := hzz
      have HZ1 := hide3 hz1
      have HZ2 := hide3 hz2
      clear hf a0 a1 a2 hz1 hz2
      have HX := hide3 (alloc_below wr (.cells #[.string p, .bool c, .string t] 47))
      have HFN := hide3 (fun W => file_new wr W p c t)
      have HML : Hid (Calls Tryz.prog 23 #[.agg #[.string p, .bool c, .string t]] (wr.alloc (.cells #[.string p, .bool c, .string t] 47)) fun e w' => e = .returned (.bool (okF (p, c, t))) ∧ Below (wr.alloc (.cells #[.string p, .bool c, .string t] 47)).heap.size (wr.alloc (.cells #[.string p, .bool c, .string t] 47)) w') :=
        mayLoad_any p c t m _ (cell_below (HB.out.cell (p := ⟨0, 0, none⟩) (cell_lt HM.out) |>.trans HM.out) (alloc_below wr _))
      have HKD : Hid (∀ w1, Below wr.heap.size wr w1 → Calls Tryz.prog 16 #[.pointer (some ⟨w.heap.size + 1, 0, none⟩), .string p] w1 fun e w' => e = .returned (.int .i64 (kindD (loadD (fs.take k)) p)) ∧ Below w1.heap.size w1 w') := fun w1 hb => Kind_any (HD.out.below hb) p HZ1.out
      have HKY : Hid (keyOf Tryz.prog 9 (.string p) = some (keyD p)) := keyOf_str HZ1.out
      by_cases hok : okF (p, c, t) = true
      · by_cases hkd : kindD (loadD (fs.take k)) p = 0
        · rw [hok] at HML
          rw [hkd] at HKD
          have HOK := hide3 hok
          have HK0 := hide3 hkd
          clear hok hkd
          go_wp2_with (first
            | (go_at_call 23; refine HML.out.mono ?_; rintro e w1 ⟨rfl, hb1⟩; obtain ⟨q0, q1, q2⟩ := HFN.out _ hb1; have HB1 := hide3 hb1; have HX1 := hide3 (HX.out.trans (hb1.mono HX.out.size)); clear hb1)
            | (go_at_call 16; refine (HKD.out _ HX1.out).mono ?_; rintro e w2 ⟨rfl, hb2⟩; clear q0 q1 q2; obtain ⟨q0, q1, q2⟩ := HFN.out _ (HB1.out.trans (hb2.mono HB1.out.size)); have HX2 := hide3 (HX1.out.trans (hb2.mono HX1.out.size)); have c0 := (HD.out.below HX2.out).c0; clear hb2))
          obtain ⟨w4, hrun, hown4, hg4⟩ := (HD.out.below HX2.out.drew).own.update keyed Tryz.underlying57 (by unfold maxLen; omega) HKY.out (itemR_mk (b := c) HZ2.out)
          have hxs : wr.heap.size < w2.drew.heap.size := by have := HX2.out.size; have := cell_lt q0; exact this
          have hds : w.heap.size + 1 < w2.drew.heap.size := cell_lt c0
          have HOWN4 := hide3 hown4
          have HG4 := hide3 hg4
          have e0 := (grown_far hg4 hds (fun e => by have := Option.some.inj e; omega) 0).1.trans c0
          have e1 := (grown_far hg4 hxs (fun e => by have := Option.some.inj e; have := HB.out.size; have := HD.out.own.lt; omega) 0).1.trans q0
          have e2 := (grown_far hg4 hxs (fun e => by have := Option.some.inj e; have := HB.out.size; have := HD.out.own.lt; omega) 1).1.trans q1
          have e3 := (grown_far hg4 hxs (fun e => by have := Option.some.inj e; have := HB.out.size; have := HD.out.own.lt; omega) 2).1.trans q2
          clear hown4 hg4 hxs hds
          go_region_held3 (fun w' => w'.cell? ⟨w.heap.size + 1, 0, none⟩ = some (.map (some w.heap.size)) ∧ w'.cell? ⟨wr.heap.size, 0, none⟩ = some (.string p) ∧ w'.cell? ⟨wr.heap.size, 1, none⟩ = some (.bool c) ∧ w'.cell? ⟨wr.heap.size, 2, none⟩ = some (.string t)) (go_keep) (fail)
          all_goals go_wp2_with fail
          have ht := turned (HD.out.below HX2.out.drew) HOWN4.out HG4.out (keys_put (okF_path HOK.out) HD.out.keys)
          refine ⟨⟨k + 1, by omega, by go_num, ⟨n + 1, by omega, ?_⟩, ?_, fun j hj hjk => ?_⟩, by simp [intOf]; omega⟩
          · rw [loadD_take fs k hlt, ← HF.out]
            exact ht.1
          · refine (HB.out.trans (HX2.out.drew.mono HB.out.size)).trans (ht.2.below (Nat.le_trans HB.out.size HX2.out.size) fun i hi => ?_)
            rcases hi with rfl | rfl | hi
            · omega
            · omega
            · cases hi
          · by_cases e : j = k
            · subst e
              rw [← HF.out]
              exact ⟨HOK.out, HK0.out⟩
            · exact HA.out j hj (by omega)
        · have HNL : Hid (¬ Loads fs) := fun h => hkd (by have := (HLD.out h k hlt).2; rw [← HF.out] at this; exact this)
          have hk0 : (kindD (loadD (fs.take k)) p == 0) = false := by simpa using hkd
          rw [hok] at HML
          generalize kindD (loadD (fs.take k)) p = kd at *
          clear hok hkd
          go_wp2_with (first
            | (go_at_call 23; refine HML.out.mono ?_; rintro e w1 ⟨rfl, hb1⟩; obtain ⟨q0, q1, q2⟩ := HFN.out _ hb1; have HX1 := hide3 (HX.out.trans (hb1.mono HX.out.size)); clear hb1)
            | (go_at_call 16; refine (HKD.out _ HX1.out).mono ?_; rintro e w2 ⟨rfl, hb2⟩; have HX2 := hide3 (HX1.out.trans (hb2.mono HX1.out.size)); clear hb2))
          exact HNO.out _ HNL.out (HB.out.trans (HX2.out.mono HB.out.size))
      · have HNL : Hid (¬ Loads fs) := fun h => hok (by have := (HLD.out h k hlt).1; rw [← HF.out] at this; exact this)
        rw [Bool.not_eq_true] at hok
        rw [hok] at HML
        clear hok
        go_wp2_with (go_at_call 23; refine HML.out.mono ?_; rintro e w1 ⟨rfl, hb1⟩; have HX1 := hide3 (HX.out.trans (hb1.mono HX.out.size)); clear hb1)
        exact HNO.out _ HNL.out (HB.out.trans (HX1.out.mono HB.out.size))
    · obtain rfl : k = fs.length := by omega
      rw [List.take_length] at HD
      have HA' : Hid (∀ i (hi : i < fs.length), okF fs[i] = true ∧ kindD (loadD (fs.take i)) fs[i].1 = 0) := fun i hi => HA.out i hi hi
      clear HA
      obtain ⟨wa, rfl⟩ : ∃ x, x = wr := ⟨wr, rfl⟩
      go_wp2
      go_loopw [40] (fun i wr => ∃ k : Nat, k ≤ fs.length ∧ i = .int .i64 k ∧ Below wa.heap.size wa wr ∧ ∀ j (hj : j < fs.length), j < k → parentD (loadD fs) fs[j].1 = 0) (fun i _ => fs.length - (intOf i).toNat)
      case atStart => exact ⟨0, Nat.zero_le _, rfl, Below.refl _ _, fun j hj h => absurd h (Nat.not_lt_zero _)⟩
      case round =>
        obtain ⟨j, hj, rfl, hbq, hpar⟩ := hrel
        have HBQ := hide3 hbq
        have HPR := hide3 hpar
        have HBW := hide3 (HB.out.trans (hbq.mono HB.out.size))
        clear hbq hpar
        by_cases hlt2 : j < fs.length
        · obtain ⟨f, hf⟩ : ∃ f, f = fs[j] := ⟨_, rfl⟩
          have HF := hide3 hf
          obtain ⟨p, c, t⟩ := f
          have hcs := HC.out j hlt2
          rw [← hf] at hcs
          obtain ⟨a0, a1, a2⟩ := hcs
          have b0 := (HBW.out.cell (p := ⟨g, off + j * 3, none⟩) hg).trans a0
          have b1 := (HBW.out.cell (p := ⟨g, off + j * 3 + 1, none⟩) hg).trans a1
          have b2 := (HBW.out.cell (p := ⟨g, off + j * 3 + 1 + 1, none⟩) hg).trans a2
          have hop : okPath p = true := by
            have := (HA'.out j hlt2).1
            rw [← hf] at this
            exact okF_path this
          clear hf a0 a1 a2
          have HX := hide3 (HBQ.out.trans ((alloc_below wr (.cells #[.string p, .bool c, .string t] 47)).mono HBQ.out.size))
          have HPF : Hid (∀ W, Below wa.heap.size wa W → Calls Tryz.prog 24 #[.pointer (some ⟨w.heap.size + 1, 0, none⟩), .string p] W fun e w' => e = .returned (.int .i64 (parentD (loadD fs) p)) ∧ Below W.heap.size W w') := fun W hb => parentFault_any (HD.out.below hb) p hop
          clear hop
          by_cases hp0 : parentD (loadD fs) p = 0
          · rw [hp0] at HPF
            have HP0 := hide3 hp0
            clear hp0
            go_wp2_with (go_at_call 24; refine (HPF.out _ HX.out).mono ?_; rintro e w2 ⟨rfl, hb2⟩; have HX2 := hide3 (HX.out.trans (hb2.mono HX.out.size)); clear hb2)
            refine ⟨⟨j + 1, by omega, by go_num, HX2.out, fun i hi hij => ?_⟩, by simp [intOf]; omega⟩
            by_cases e : i = j
            · subst e
              rw [← HF.out]
              exact HP0.out
            · exact HPR.out i hi (by omega)
          · have HNL : Hid (¬ Loads fs) := fun h => hp0 (by have := HLP.out h j hlt2; rw [← HF.out] at this; exact this)
            have hk0 : (parentD (loadD fs) p == 0) = false := by simpa using hp0
            generalize parentD (loadD fs) p = pd at *
            clear hp0
            go_wp2_with (go_at_call 24; refine (HPF.out _ HX.out).mono ?_; rintro e w2 ⟨rfl, hb2⟩; have HX2 := hide3 (HX.out.trans (hb2.mono HX.out.size)); clear hb2)
            exact HNO.out _ HNL.out (HB.out.trans (HX2.out.mono HB.out.size))
        · obtain rfl : j = fs.length := by omega
          go_wp2
          exact HYES.out _ n (HLI.out HA'.out fun i hi => HPR.out i hi hi) HBW.out hn (HD.out.below HBQ.out)

set_option maxHeartbeats 1000000 in
theorem Load_nil (ao : Option Addr) (cap : Nat) (w : World) : Calls Tryz.prog 6 #[.slice ao 0 cap] w (LoadQ w []) := by
  have HYES : Hid (LoadQ w [] (.returned (.tuple #[.pointer (some ⟨w.heap.size + 1, 0, none⟩), .int .i64 0])) (wNew w)) := ⟨new_below w, Or.inl ⟨⟨fun i hi => absurd hi (Nat.not_lt_zero _), fun i hi => absurd hi (Nat.not_lt_zero _)⟩, rfl, 0, Nat.le_refl _, new_is (Nat.le_refl _)⟩⟩
  generalize LoadQ w [] = HQ at *
  go_enter Tryz.func6, Tryz.ntmps6
  go_wp2_with (go_at_call 14; refine (New_any _).mono ?_; rintro e w1 ⟨rfl, rfl⟩)
  go_loop [12] (fun i => i = .int .i64 0) (fun _ => 0)
  case atStart => rfl
  case round =>
    obtain rfl := hrel
    go_wp2
    go_loop [40] (fun i => i = .int .i64 0) (fun _ => 0)
    case atStart => rfl
    case round =>
      obtain rfl := hrel
      go_wp2
      exact HYES.out

/-- A list of files that lies in memory, or is empty. -/
def IsFiles (w : World) (a : Option Addr) (fs : List Fl) : Prop := fs = [] ∨ ∃ g off, a = some ⟨g, off, none⟩ ∧ g < w.heap.size ∧ FilesAt w g off fs

theorem IsFiles.below {w w' : World} {a : Option Addr} {fs : List Fl} (h : IsFiles w a fs) (hb : Below w.heap.size w w') : IsFiles w' a fs := by
  rcases h with h | ⟨g, off, rfl, hg, hc⟩
  · exact Or.inl h
  · refine Or.inr ⟨g, off, rfl, Nat.lt_of_lt_of_le hg hb.size, fun k hk => ?_⟩
    obtain ⟨a0, a1, a2⟩ := hc k hk
    exact ⟨cell_below a0 hb, cell_below a1 hb, cell_below a2 hb⟩

theorem files_row {w : World} {B cap : Nat} {a : Option Addr} {fs : List Fl} (h : w.ownsRow B 47 3 (.slice a fs.length cap) fs.length (fileCells fs)) : IsFiles w a fs := by
  cases hfs : fs with
  | nil => exact Or.inl rfl
  | cons f r =>
    rw [← hfs]
    obtain ⟨g, rfl⟩ := row_shape h (by rw [hfs]; simp)
    refine Or.inr ⟨g, 0, rfl, (row_lt h (k := g) rfl).1, fun k hk => ?_⟩
    rw [Nat.zero_add]
    exact file_cells h k hk

theorem Load_any (fs : List Fl) (a : Option Addr) (cap : Nat) (m : Int) (w : World) (hm : w.cell? ⟨0, 0, none⟩ = some (.int .i64 m)) (hlen : fs.length ≤ 2199023255551)
    (hc : IsFiles w a fs) (hz : ∀ f ∈ fs, f.1.size ≤ maxLen ∧ f.2.2.size ≤ maxLen) : Calls Tryz.prog 6 #[.slice a fs.length cap] w (LoadQ w fs) := by
  rcases hc with rfl | ⟨g, off, rfl, hg, hc⟩
  · exact Load_nil a cap w
  · exact Load_some fs g off cap m w hm hg hlen hc hz

theorem files_size {B : Nat} {w : World} {d mb n : Nat} {rv : Value} {x : Ab} (h : IsDisk B w d mb n rv x) : ∀ f ∈ filesD x.D, f.1.size ≤ maxLen ∧ f.2.2.size ≤ maxLen := by
  intro f hf
  have hG := h.good
  have h1 := (hG.mem f).1 hf
  have hs : f.1.size ≤ maxLen := by
    obtain ⟨s, e, ho⟩ := hG.keys _ h1.1
    rw [keyD_inj e]
    exact okPath_size ho
  refine ⟨hs, ?_⟩
  obtain ⟨v, ps, _, hv⟩ := h.own.lookup keyed Tryz.underlying57 (zeroItem w) (zd := zeroD) (zp := []) (itemR_mk (by decide)) (keyOf_str hs)
  obtain ⟨c, t, _, h2, h3⟩ := itemR_inv hv
  have e : x.D.atKey (keyD f.1) zeroD = itemD c t := congrArg Prod.fst h2
  rw [h1.2] at e
  unfold itemD at e
  simp only [DataW.agg.injEq, List.cons.injEq, DataW.lit.injEq, Lit.bool.injEq, Lit.string.injEq, and_true] at e
  rw [bytes_eq e.2]
  exact h3

theorem ownsRow_below {w w' : World} {B : Nat} {e : TypeId} {size : Nat} {v : Value} {n : Nat} {xs : List Value} (h : w.ownsRow B e size v n xs) (hb : Below w.heap.size w w') : w'.ownsRow B e size v n xs :=
  ownsRow_upd h (Upd.of_below (F := fun _ => False) hb) (fun _ _ f => f)
end Go.Proofs.YthijkdphlmogjaaGreatDoor
namespace Go.Proofs.YthijkdphlmogjaaGreatDoor
open Go.ChangeShapes Go.WideShapes Go.ChangeAt Go.RowKit Go.ChangeMaps
set_option maxRecDepth 100000

theorem bulk_pos {H : Type} (d : DataW H) : 1 ≤ Rows.uptoBulk d := by
  cases d with
  | lit l => cases l <;> simp [Rows.uptoBulk]
  | _ => simp [Rows.uptoBulk]
theorem bulk_len {H : Type} : ∀ l : List (DataW H), l.length ≤ Rows.uptoBulkAll l
  | [] => by simp [Rows.uptoBulkAll]
  | d :: r => by
    have h1 := bulk_pos d
    have h2 := bulk_len r
    simp only [Rows.uptoBulkAll, List.length_cons]
    omega
theorem deeds_bulk {H : Type} {d : DataW H} {len : Nat} (h : len = 0 ∨ ∃ el sp, d = .slice el sp ∧ len ≤ el.length + sp.length) : len ≤ Rows.uptoBulk d := by
  rcases h with rfl | ⟨el, sp, rfl, h⟩
  · exact Nat.zero_le _
  · have h1 := bulk_len el
    have h2 := bulk_len sp
    simp only [Rows.uptoBulk]
    omega
end Go.Proofs.YthijkdphlmogjaaGreatDoor
namespace Go.Proofs.YthijkdphlmogjaaGreatDoor
open Go.ChangeShapes Go.WideShapes Go.ChangeAt Go.RowKit Go.ChangeMaps
set_option maxRecDepth 100000

theorem cellsFile : Tryz.prog.cellsOf 47 = 3 := by kernel_rfl
theorem cellsBool : Tryz.prog.cellsOf 4 = 1 := by kernel_rfl
theorem file_read {H : Type} {enc : TypeId × Value → H} {W : World} {base : Nat} {spare : Nat → Bool} {held : Bool} {n : Nat} {g o : Nat} {cs : List Value} {x : DataW H × List MemPlace} (hc : W.cells? base ⟨g, o, none⟩ 3 = some cs) (h : DataW.trod enc Tryz.prog W base spare held n 47 cs = some x) :
    ∃ f : Fl, W.cell? ⟨g, o, none⟩ = some (.string f.1) ∧ W.cell? ⟨g, o + 1, none⟩ = some (.bool f.2.1) ∧ W.cell? ⟨g, o + 1 + 1, none⟩ = some (.string f.2.2) ∧ f.1.size ≤ maxLen ∧ f.2.2.size ≤ maxLen := by
  have hs : Tryz.prog.underlying 47 = some (.struct (Tryz.prog.fieldsOf 47)) := by kernel_rfl
  obtain ⟨xs, n', _, _, _, hxl, hf⟩ := DataW.trod_struct hs h
  have hsz : (Tryz.prog.fieldsOf 47).size = 3 := by kernel_rfl
  obtain ⟨_, _, hq⟩ := World.cells?_some hc
  have bools : ∀ i off, ((Tryz.prog.fieldsOf 47)[i]?).map (fun f => (f.type, f.offset)) = some (4, off) → i < 3 → ∃ k, cs[off]? = some (.bool k) := by
    intro i off hfd hi
    obtain ⟨f, h1, h2, h3⟩ := field_at hfd
    have hr := hf i f h1
    rw [h2, h3, cellsBool, List.getElem?_eq_getElem (by omega : i < xs.length)] at hr
    obtain ⟨k, e1, _⟩ := DataW.trod_bool Tryz.underlying4 hr
    exact ⟨k, take_one e1⟩
  have strs : ∀ i off, ((Tryz.prog.fieldsOf 47)[i]?).map (fun f => (f.type, f.offset)) = some (9, off) → i < 3 → ∃ s, cs[off]? = some (.string s) ∧ s.size ≤ maxLen := by
    intro i off hfd hi
    obtain ⟨f, h1, h2, h3⟩ := field_at hfd
    have hr := hf i f h1
    rw [h2, h3, cellsString, List.getElem?_eq_getElem (by omega : i < xs.length)] at hr
    obtain ⟨s, e1, _, ws⟩ := DataW.trod_string Tryz.underlying9 hr
    exact ⟨s, take_one e1, ws⟩
  obtain ⟨p, a0, wp⟩ := strs 0 0 (by kernel_rfl) (by decide)
  obtain ⟨c, a1⟩ := bools 1 1 (by kernel_rfl) (by decide)
  obtain ⟨t, a2, wt⟩ := strs 2 2 (by kernel_rfl) (by decide)
  have ad : ∀ i, (⟨g, o, none⟩ : Addr).add i = ⟨g, o + i, none⟩ := fun i => by unfold Addr.add; split <;> simp_all
  have q0 := hq 0 (by decide)
  have q1 := hq 1 (by decide)
  have q2 := hq 2 (by decide)
  rw [ad] at q0 q1 q2
  exact ⟨(p, c, t), by rw [← a0, ← q0]; rfl, by rw [← a1, ← q1], by rw [← a2, ← q2], wp, wt⟩

/-- A list is made of what lies at each place. -/
theorem list_of {P : Nat → Fl → Prop} : ∀ n, (∀ i, i < n → ∃ f, P i f) → ∃ fs : List Fl, fs.length = n ∧ ∀ i (hi : i < fs.length), P i fs[i]
  | 0, _ => ⟨[], rfl, fun i hi => absurd hi (Nat.not_lt_zero _)⟩
  | n + 1, h => by
    obtain ⟨fs, hl, hp⟩ := list_of n (fun i hi => h i (by omega))
    obtain ⟨f, hf⟩ := h n (by omega)
    refine ⟨fs ++ [f], by simp [hl], fun i hi => ?_⟩
    by_cases e : i < fs.length
    · rw [List.getElem_append_left e]; exact hp i e
    · have : i = fs.length := by simp at hi; omega
      subst this
      rw [List.getElem_append_right (Nat.le_refl _)]
      simp only [Nat.sub_self, List.getElem_cons_zero]
      rw [hl]
      exact hf

theorem open_files {H : Type} {enc : TypeId × Value → H} {W : World} {base fuel : Nat} {held : Bool} {a : Option Addr} {len cap : Nat} {x : DataW H × List MemPlace} (h : DataW.trod enc Tryz.prog W base (fun _ => true) held fuel 22 [.slice a len cap] = some x) :
    ∃ fs : List Fl, fs.length = len ∧ IsFiles W a fs ∧ (∀ f ∈ fs, f.1.size ≤ maxLen ∧ f.2.2.size ≤ maxLen) ∧ (len = 0 ∨ ∃ el sp, x.1 = .slice el sp ∧ len ≤ el.length + sp.length) := by
  rcases Go.Deep.open_slice Tryz.underlying22 h with ⟨hcs, _⟩ | ⟨ad, l, c, m, n, D, Pl, hcs, _, hl, _, hm, hx, hel⟩
  · simp only [List.cons.injEq, Value.slice.injEq, and_true] at hcs
    exact ⟨[], hcs.2.1.symm, Or.inl rfl, fun f hf => (by cases hf), Or.inl hcs.2.1⟩
  · simp only [List.cons.injEq, Value.slice.injEq, and_true] at hcs
    obtain ⟨rfl, rfl, rfl⟩ := hcs
    rcases Nat.eq_zero_or_pos len with h0 | h0
    · exact ⟨[], h0.symm, Or.inl rfl, fun f hf => (by cases hf), Or.inl h0⟩
    · have hmm : len ≤ m := by rw [hm]; simp; exact hl
      rw [cellsFile] at hel
      obtain ⟨g, off, spot⟩ := ad
      obtain ⟨cs0, hc0, _⟩ := hel 0 (by omega)
      obtain ⟨_, hln, hq⟩ := World.cells?_some hc0
      have hcell := hq 0 (by decide)
      rw [List.getElem?_eq_getElem (by omega : 0 < cs0.length)] at hcell
      have hspot : spot = none := by simpa [Addr.add] using World.cell?_spot hcell
      subst hspot
      have ad2 : ∀ o i, (⟨g, o, none⟩ : Addr).add i = ⟨g, o + i, none⟩ := fun o i => by unfold Addr.add; split <;> simp_all
      obtain ⟨fs, hfl, hfs⟩ := list_of (P := fun i f => W.cell? ⟨g, off + i * 3, none⟩ = some (.string f.1) ∧ W.cell? ⟨g, off + i * 3 + 1, none⟩ = some (.bool f.2.1) ∧ W.cell? ⟨g, off + i * 3 + 1 + 1, none⟩ = some (.string f.2.2) ∧ f.1.size ≤ maxLen ∧ f.2.2.size ≤ maxLen) len (fun i hi => by
        obtain ⟨cs, hc, ht⟩ := hel i (by omega)
        rw [ad2] at hc
        exact file_read hc ht)
      refine ⟨fs, hfl, Or.inr ⟨g, off, rfl, ?_, fun k hk => ?_⟩, fun f hf => ?_, Or.inr ⟨_, _, by rw [hx], by simp⟩⟩
      · have := cell_lt hcell
        rw [ad2, ad2] at this; exact this
      · obtain ⟨q0, q1, q2, _, _⟩ := hfs k hk
        exact ⟨q0, q1, q2⟩
      · obtain ⟨i, hi, rfl⟩ := List.getElem_of_mem hf
        exact ⟨(hfs i hi).2.2.2.1, (hfs i hi).2.2.2.2⟩
end Go.Proofs.YthijkdphlmogjaaGreatDoor
namespace Go.Proofs.YthijkdphlmogjaaGreatDoor
open Go.RowKit Go.Maps Go.WideMaps Go.WideElems Go.Sort Go.Shelf
set_option maxRecDepth 100000

theorem row_form {w : World} {B t sz n : Nat} {v : Value} {xs : List Value} (h : w.ownsRow B t sz v n xs) : ∃ ao cap, v = .slice ao n cap := by
  rcases h.2 with ⟨rfl, h0⟩ | ⟨g, cap, cur, rfl, _⟩
  · exact ⟨none, 0, by rw [h0]⟩
  · exact ⟨some ⟨g, 0, none⟩, cap, rfl⟩

theorem two_raws {B : Nat} {w : World} {d e : Nat} {x : Ab} {m : Int} {k : Nat} (h : Two B w d e x m k) (hk : k ≤ 2199023255552) :
    ∃ ro rc, (∀ W, Below w.heap.size w W → W.cell? ⟨e, 1, none⟩ = some (.slice ro x.rs.length rc)) ∧
      (∀ W, Below w.heap.size w W → Calls Tryz.prog 10 #[.pointer (some ⟨d, 0, none⟩)] W fun e w' => ∃ ao cap, e = .returned (.slice ao x.rs.length cap) ∧ w'.ownsRow W.heap.size 66 3 (.slice ao x.rs.length cap) x.rs.length (rawCells x.rs) ∧ Below W.heap.size W w') ∧
      (∀ W ao cap b, Below w.heap.size w W → W.ownsRow b 66 3 (.slice ao x.rs.length cap) x.rs.length (rawCells x.rs) → Calls Tryz.prog 22 #[.slice ao x.rs.length cap, .slice ro x.rs.length rc] W fun e w' => e = .returned (.bool true) ∧ ∃ q, w' = W.drewN q) := by
  obtain ⟨mb, n, rv, lv, rw', hdk, hrf, hap, hn⟩ := h.ex
  obtain ⟨ro, rc, rfl⟩ := row_form hrf.rrow
  have hl := h.len
  exact ⟨ro, rc, fun W hb => (hrf.below hb).c1, fun W hb => Raws_any (hdk.below hb) (by omega), fun W ao cap b hb hrow => raws_any x.rs (by omega) hrow (hrf.below hb).rrow⟩

theorem two_files {B : Nat} {w : World} {d e : Nat} {x : Ab} {m : Int} {k : Nat} (h : Two B w d e x m k) (hk : k ≤ 2199023255552) :
    ∃ lo lc, (∀ W, Below w.heap.size w W → W.cell? ⟨e, 0, none⟩ = some (.slice lo (filesD x.D).length lc)) ∧
      (∀ W, Below w.heap.size w W → Calls Tryz.prog 13 #[.pointer (some ⟨d, 0, none⟩)] W fun e w' => ∃ ao cap, e = .returned (.slice ao (filesD x.D).length cap) ∧ w'.ownsRow W.heap.size 47 3 (.slice ao (filesD x.D).length cap) (filesD x.D).length (fileCells (filesD x.D)) ∧ Below W.heap.size W w') ∧
      (∀ W ao cap b, Below w.heap.size w W → W.ownsRow b 47 3 (.slice ao (filesD x.D).length cap) (filesD x.D).length (fileCells (filesD x.D)) → Calls Tryz.prog 12 #[.slice ao (filesD x.D).length cap, .slice lo (filesD x.D).length lc] W fun e w' => e = .returned (.bool true) ∧ ∃ q, w' = W.drewN q) := by
  have hf := h.files
  obtain ⟨mb, n, rv, lv, rw', hdk, hrf, hap, hn⟩ := h.ex
  obtain ⟨lo, lc, rfl⟩ := row_form hrf.lrow
  exact ⟨lo, lc, fun W hb => (hrf.below hb).c0, fun W hb => All_any (hdk.below hb) (by omega), fun W ao cap b hb hrow => files_any (filesD x.D) (by omega) hrow (hrf.below hb).lrow⟩

theorem below_draws {B : Nat} {a w : World} (h : Below B a w) (n : Nat) : Below B a (w.drewN n) := ⟨h.os, h.tape, h.output, h.size, h.block⟩

end Go.Proofs.YthijkdphlmogjaaGreatDoor
