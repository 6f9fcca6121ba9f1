/- Dk4, Dk5, Od1, laid in one text. -/
import Derived.Test.YtogpkhpephhbiaaGreatDoorTie
import Derived.Test.YtogpkhpephhbiaaGreatDoorCards
import Derived.ProofKit
import Derived.OpenShut
import Derived.ChangeOld
import Derived.LaidMore
import Derived.Lay
import Derived.SevenTiedAt
import Derived.Stop.Joined
import Derived.Shelf.Vars
import Derived.Deep.Slices
import Derived.Deep.DeepHandedRow
import Derived.Deep.DeepWitnessRowRef
import Derived.Test.YtogpkhpephhbiaaGreatDoorMg17
namespace Go.Proofs.YtogpkhpephhbiaaGreatDoor.Dk
open Go.RowKit Go.Maps Go.WideMaps Go.WideElems Go.Sort Go.Shelf
set_option maxRecDepth 100000
open Go.ChangeShapes Go.WideShapes Go.ChangeAt Go.RowKit

theorem loadD_take (fs : List Fl) (k : Nat) (hk : k < fs.length) : loadD (fs.take (k + 1)) = putF (loadD (fs.take k)) fs[k] := by
  unfold loadD
  rw [List.take_succ_eq_append_getElem hk, List.foldl_append]; rfl
theorem loadD_snoc (fs : List Fl) (f : Fl) : loadD (fs ++ [f]) = putF (loadD fs) f := by
  unfold loadD
  rw [List.foldl_append]; rfl

/-- What Load takes. -/
def Loads (fs : List Fl) : Prop := (∀ i (hi : i < fs.length), okF fs[i] = true ∧ kindD (loadD (fs.take i)) fs[i].1 = 0) ∧ ∀ i (hi : i < fs.length), parentD (loadD fs) fs[i].1 = 0

theorem isMap_put {D : DataW Unit} (h : IsMap D) (f : Fl) : IsMap (putF D f) := by
  obtain ⟨es, rfl⟩ := h
  exact ⟨_, rfl⟩

theorem snoc_ind {P : List Fl → Prop} (h0 : P []) (h1 : ∀ l f, P l → P (l ++ [f])) (l : List Fl) : P l := by
  have : ∀ n (l : List Fl), l.length = n → P l := by
    intro n
    induction n with
    | zero => intro l hl; rw [List.eq_nil_of_length_eq_zero hl]; exact h0
    | succ n ih =>
      intro l hl
      have hne : l ≠ [] := by rintro rfl; cases hl
      rw [← List.dropLast_concat_getLast hne]
      exact h1 _ _ (ih _ (by rw [List.length_dropLast, hl]; rfl))
  exact this _ l rfl

theorem loadD_map (fs : List Fl) : IsMap (loadD fs) := by
  refine snoc_ind (P := fun l => IsMap (loadD l)) ⟨[], rfl⟩ (fun l f h => ?_) fs
  rw [loadD_snoc]
  exact isMap_put h f

theorem has_nil (kl : Lit) : Maps.has (loadD []) kl = false := rfl

theorem has_load (fs : List Fl) (s : ByteArray) : Maps.has (loadD fs) (keyD s) = true ↔ ∃ f ∈ fs, f.1 = s := by
  refine snoc_ind (P := fun l => Maps.has (loadD l) (keyD s) = true ↔ ∃ f ∈ l, f.1 = s) ?_ (fun l f h => ?_) fs
  · rw [has_nil]
    exact ⟨(fun h => by cases h), (fun ⟨f, hf, _⟩ => by cases hf)⟩
  · rw [loadD_snoc]
    unfold putF
    by_cases e : f.1 = s
    · rw [e, has_put_same (loadD_map l) (isKey s)]
      exact ⟨fun _ => ⟨f, by simp, e⟩, fun _ => rfl⟩
    · rw [has_put_other (fun h' => e (keyD_inj h').symm), h]
      constructor
      · rintro ⟨g, hg, rfl⟩
        exact ⟨g, by simp [hg], rfl⟩
      · rintro ⟨g, hg, rfl⟩
        rcases List.mem_append.1 hg with hg | hg
        · exact ⟨g, hg, rfl⟩
        · exact absurd (List.mem_singleton.1 hg ▸ rfl) e

theorem keys_load (fs : List Fl) (hok : ∀ f ∈ fs, okPath f.1 = true) : ∀ kl, Maps.has (loadD fs) kl = true → ∃ s, kl = keyD s ∧ okPath s = true := by
  revert hok
  refine snoc_ind (P := fun l => (∀ f ∈ l, okPath f.1 = true) → ∀ kl, Maps.has (loadD l) kl = true → ∃ s, kl = keyD s ∧ okPath s = true) ?_ (fun l f h => ?_) fs
  · intro _ kl h
    rw [has_nil] at h
    cases h
  · intro hok
    rw [loadD_snoc]
    exact keys_put (hok f (by simp)) (h fun g hg => hok g (by simp [hg]))

theorem at_load (fs : List Fl) (hd : fs.Pairwise fun x y => x.1 ≠ y.1) (f : Fl) (hf : f ∈ fs) : (loadD fs).atKey (keyD f.1) zeroD = itemD f.2.1 f.2.2 := by
  revert hd hf
  refine snoc_ind (P := fun l => (l.Pairwise fun x y => x.1 ≠ y.1) → f ∈ l → (loadD l).atKey (keyD f.1) zeroD = itemD f.2.1 f.2.2) ?_ (fun l g h => ?_) fs
  · intro _ hf
    cases hf
  · intro hd hf
    rw [List.pairwise_append] at hd
    rw [loadD_snoc]
    unfold putF
    rcases List.mem_append.1 hf with hf | hf
    · have hne : f.1 ≠ g.1 := hd.2.2 f hf g (by simp)
      rw [atKey_put_other (fun e => hne (keyD_inj e))]
      exact h hd.1 hf
    · obtain rfl := List.mem_singleton.1 hf
      exact atKey_put_same (loadD_map l) (isKey f.1) _ _

theorem not_root {s : ByteArray} (h : okPath s = true) : (s.toList == [47]) = false := by
  unfold okPath at h
  simp only [Bool.and_eq_true, Bool.not_eq_true'] at h
  exact h.2

theorem kind_none {D : DataW Unit} {s : ByteArray} (h1 : (s.toList == [47]) = false) (h2 : Maps.has D (keyD s) = false) : kindD D s = 0 := by
  unfold kindD
  rw [if_neg (by rw [h1]; decide), if_neg (by rw [h2]; decide)]
theorem kind_none_has {D : DataW Unit} {s : ByteArray} (h : kindD D s = 0) : Maps.has D (keyD s) = false := by
  rw [Bool.eq_false_iff]
  intro h2
  unfold kindD at h
  rw [if_pos h2] at h
  split at h
  · cases h
  · split at h <;> cases h

/-- Apart: the keys of what Load takes differ. -/
theorem loads_apart {fs : List Fl} (h : ∀ i (hi : i < fs.length), okF fs[i] = true ∧ kindD (loadD (fs.take i)) fs[i].1 = 0) : fs.Pairwise fun x y => x.1 ≠ y.1 := by
  rw [List.pairwise_iff_getElem]
  intro i j hi hj hij e
  have h1 := kind_none_has (h j hj).2
  rw [Bool.eq_false_iff] at h1
  refine h1 ((has_load _ _).2 ⟨fs[i], ?_, e⟩)
  exact List.mem_take_iff_getElem.2 ⟨i, by omega, by simp⟩

/-- The files that a loaded disk has are those of the list. -/
theorem mem_files_load {fs : List Fl} (hd : fs.Pairwise fun x y => x.1 ≠ y.1) (hL : Good (loadD fs)) (f : Fl) : f ∈ filesD (loadD fs) ↔ f ∈ fs := by
  rw [hL.mem, has_load]
  constructor
  · rintro ⟨⟨g, hg, e⟩, h2⟩
    have h3 := at_load _ hd g hg
    rw [e, h2] at h3
    unfold itemD at h3
    simp only [DataW.agg.injEq, List.cons.injEq, DataW.lit.injEq, Lit.bool.injEq, Lit.string.injEq, and_true] at h3
    obtain ⟨fs', fc, ft⟩ := f
    obtain ⟨gs, gc, gt⟩ := g
    simp only at e h3
    rw [← e, h3.1, bytes_eq h3.2]
    exact hg
  · intro hf
    exact ⟨⟨f, hf, rfl⟩, at_load _ hd f hf⟩

theorem load_sound {fs : List Fl} (h : Loads fs) : Sound (loadD fs) := by
  intro s hs
  obtain ⟨f, hf, rfl⟩ := (has_load _ _).1 hs
  obtain ⟨i, hi, rfl⟩ := List.getElem_of_mem hf
  exact parentD_zero (by rw [h.2 i hi]; rfl)

def fileObj (p : ByteArray) (c : Bool) (t : ByteArray) : Obj := .cells #[.string p, .bool c, .string t] 37
theorem file_new (w W : World) (p : ByteArray) (c : Bool) (t : ByteArray) (hb : Below (w.alloc (fileObj p c t)).heap.size (w.alloc (fileObj p c t)) W) :
    W.cell? ⟨w.heap.size, 0, none⟩ = some (.string p) ∧ W.cell? ⟨w.heap.size, 1, none⟩ = some (.bool c) ∧ W.cell? ⟨w.heap.size, 2, none⟩ = some (.string t) := by
  have q : ∀ i, W.cell? ⟨w.heap.size, i, none⟩ = (w.alloc (fileObj p c t)).cell? ⟨w.heap.size, i, none⟩ := fun i => hb.cell (p := ⟨w.heap.size, i, none⟩) (by simp)
  refine ⟨?_, ?_, ?_⟩ <;> rw [q] <;> unfold fileObj <;> rw [World.cell?_alloc_new] <;> rfl

set_option maxHeartbeats 1000000 in
theorem mayLoad_any (p : ByteArray) (c : Bool) (t : ByteArray) (m : Int) (w : World) (hm : w.cell? ⟨0, 0, none⟩ = some (.int .i64 m)) :
    Calls Tryz.prog 10 #[.agg #[.string p, .bool c, .string t]] w fun e w' => e = .returned (.bool (okF (p, c, t))) ∧ Below w.heap.size w w' := by
  have HP : Hid (Calls Tryz.prog 29 #[.string p] (w.alloc (.cells #[.string p, .bool c, .string t] 37)) fun e w' => e = .returned (.bool (pathB p)) ∧ Below (w.alloc (.cells #[.string p, .bool c, .string t] 37)).heap.size (w.alloc (.cells #[.string p, .bool c, .string t] 37)) w') := isPath_any p m _ (cell_below hm (alloc_below w _))
  have HB := hide3 (alloc_below w (.cells #[.string p, .bool c, .string t] 37))
  have HC := hide3 (fun W => file_new w W p c t)
  have HE : Hid (okF (p, c, t) = (!(p.toList == [47]) && pathB p && !(c && !(t.toList == [])))) := by
    unfold Hid okF okPath
    simp only
    rw [Bool.and_comm (pathB p)]
  generalize okF (p, c, t) = ok at *
  clear hm
  by_cases h1 : (p.toList == [47]) = true
  · rw [h1] at HE
    go_enter Tryz.func10, Tryz.ntmps10
    go_wp2
    go_ret
    exact ⟨ret_bool (by rw [HE.out]; rfl), HB.out⟩
  rw [Bool.not_eq_true] at h1
  rw [h1] at HE
  generalize pathB p = b at *
  cases b
  · go_enter Tryz.func10, Tryz.ntmps10
    go_wp2_with (go_at_call 29; refine HP.out.mono ?_; rintro e w1 ⟨rfl, hb⟩)
    go_ret
    exact ⟨ret_bool (by rw [HE.out]; rfl), HB.out.trans (hb.mono HB.out.size)⟩
  · cases c
    · go_enter Tryz.func10, Tryz.ntmps10
      go_wp2_with (go_at_call 29; refine HP.out.mono ?_; rintro e w1 ⟨rfl, hb⟩; obtain ⟨q0, q1, q2⟩ := HC.out _ hb)
      go_ret
      exact ⟨ret_bool (by rw [HE.out]; rfl), HB.out.trans (hb.mono HB.out.size)⟩
    · by_cases ht : (t.toList == []) = true
      · rw [ht] at HE
        go_enter Tryz.func10, Tryz.ntmps10
        go_wp2_with (go_at_call 29; refine HP.out.mono ?_; rintro e w1 ⟨rfl, hb⟩; obtain ⟨q0, q1, q2⟩ := HC.out _ hb)
        go_ret
        exact ⟨ret_bool (by rw [HE.out]; rfl), HB.out.trans (hb.mono HB.out.size)⟩
      · rw [Bool.not_eq_true] at ht
        rw [ht] at HE
        go_enter Tryz.func10, Tryz.ntmps10
        go_wp2_with (go_at_call 29; refine HP.out.mono ?_; rintro e w1 ⟨rfl, hb⟩; obtain ⟨q0, q1, q2⟩ := HC.out _ hb)
        go_ret
        exact ⟨ret_bool (by rw [HE.out]; rfl), HB.out.trans (hb.mono HB.out.size)⟩

/-- What Load answers. -/
def LoadQ (w : World) (fs : List Fl) (e : Ending) (w' : World) : Prop := Below w.heap.size w w' ∧
  ((Loads fs ∧ e = .returned (.tuple #[.pointer (some ⟨w.heap.size + 1, 0, none⟩), .int .i64 0]) ∧ ∃ n, n ≤ fs.length ∧ IsDisk w.heap.size w' (w.heap.size + 1) w.heap.size n (.slice none 0 0) ⟨loadD fs, [], -1⟩) ∨
   (¬ Loads fs ∧ e = .returned (.tuple #[.pointer none, .int .i64 1])))

/-- A list of files in memory. -/
def FilesAt (w : World) (g off : Nat) (fs : List Fl) : Prop := ∀ k (hk : k < fs.length), w.cell? ⟨g, off + k * 3, none⟩ = some (.string fs[k].1) ∧ w.cell? ⟨g, off + k * 3 + 1, none⟩ = some (.bool fs[k].2.1) ∧ w.cell? ⟨g, off + k * 3 + 1 + 1, none⟩ = some (.string fs[k].2.2)

theorem okF_path {p : ByteArray} {c : Bool} {t : ByteArray} (h : okF (p, c, t) = true) : okPath p = true := by
  unfold okF at h
  simp only [Bool.and_eq_true] at h
  exact h.1

set_option maxHeartbeats 4000000 in
theorem Load_some (fs : List Fl) (g off cap : Nat) (m : Int) (w : World) (hm : w.cell? ⟨0, 0, none⟩ = some (.int .i64 m)) (hg : g < w.heap.size) (hlen : fs.length ≤ 3518437208799)
    (hc : FilesAt w g off fs) (hz : ∀ f ∈ fs, f.1.size ≤ maxLen ∧ f.2.2.size ≤ maxLen) :
    Calls Tryz.prog 4 #[.slice (some ⟨g, off, none⟩) fs.length cap] w (LoadQ w fs) := by
  have HC := hide3 hc
  have HZ := hide3 hz
  have HM := hide3 hm
  have hb0 := new_below w
  have HN : Hid (IsDisk w.heap.size (wNew w) (w.heap.size + 1) w.heap.size 0 (.slice none 0 0) newAb) := new_is (Nat.le_refl _)
  have HB0 : Hid (Below w.heap.size w (wNew w)) := hb0
  have hsz := size_wNew w
  have HNO : Hid (∀ w', ¬ Loads fs → Below w.heap.size w w' → LoadQ w fs (.returned (.tuple #[.pointer none, .int .i64 1])) w') := fun w' h hb => ⟨hb, Or.inr ⟨h, rfl⟩⟩
  have HYES : Hid (∀ w' n, Loads fs → Below w.heap.size w w' → n ≤ fs.length → IsDisk w.heap.size w' (w.heap.size + 1) w.heap.size n (.slice none 0 0) ⟨loadD fs, [], -1⟩ → LoadQ w fs (.returned (.tuple #[.pointer (some ⟨w.heap.size + 1, 0, none⟩), .int .i64 0])) w') := fun w' n h hb hn hd => ⟨hb, Or.inl ⟨h, rfl, n, hn, hd⟩⟩
  have HLD : Hid (Loads fs → ∀ i (hi : i < fs.length), okF fs[i] = true ∧ kindD (loadD (fs.take i)) fs[i].1 = 0) := fun h => h.1
  have HLP : Hid (Loads fs → ∀ i (hi : i < fs.length), parentD (loadD fs) fs[i].1 = 0) := fun h => h.2
  have HLI : Hid ((∀ i (hi : i < fs.length), okF fs[i] = true ∧ kindD (loadD (fs.take i)) fs[i].1 = 0) → (∀ i (hi : i < fs.length), parentD (loadD fs) fs[i].1 = 0) → Loads fs) := fun h h' => ⟨h, h'⟩
  clear hc hz hm hb0
  generalize LoadQ w fs = HQ at *
  go_enter Tryz.func4, Tryz.ntmps4
  go_wp2_with (go_at_call 9; refine (New_any _).mono ?_; rintro e w1 ⟨rfl, rfl⟩)
  go_loopw [12] (fun i wr => ∃ k : Nat, k ≤ fs.length ∧ i = .int .i64 k ∧ (∃ n, n ≤ k ∧ IsDisk w.heap.size wr (w.heap.size + 1) w.heap.size n (.slice none 0 0) ⟨loadD (fs.take k), [], -1⟩) ∧ Below w.heap.size w wr ∧ ∀ j (hj : j < fs.length), j < k → okF fs[j] = true ∧ kindD (loadD (fs.take j)) fs[j].1 = 0) (fun i _ => fs.length - (intOf i).toNat)
  case atStart => exact ⟨0, Nat.zero_le _, rfl, ⟨0, Nat.le_refl _, HN.out⟩, HB0.out, fun j hj h => absurd h (Nat.not_lt_zero _)⟩
  case round =>
    obtain ⟨k, hk, rfl, ⟨n, hn, hd⟩, hb, hall⟩ := hrel
    have HD := hide3 hd
    have HB := hide3 hb
    have HA := hide3 hall
    clear hd hb hall
    by_cases hlt : k < fs.length
    · obtain ⟨f, hf⟩ : ∃ f, f = fs[k] := ⟨_, rfl⟩
      have HF := hide3 hf
      obtain ⟨p, c, t⟩ := f
      have hcs := HC.out k hlt
      rw [← hf] at hcs
      obtain ⟨a0, a1, a2⟩ := hcs
      have b0 := (HB.out.cell (p := ⟨g, off + k * 3, none⟩) hg).trans a0
      have b1 := (HB.out.cell (p := ⟨g, off + k * 3 + 1, none⟩) hg).trans a1
      have b2 := (HB.out.cell (p := ⟨g, off + k * 3 + 1 + 1, none⟩) hg).trans a2
      have hzz := HZ.out fs[k] (List.getElem_mem hlt)
      rw [← hf] at hzz
      obtain ⟨hz1, hz2⟩ := hzz
      have HZ1 := hide3 hz1
      have HZ2 := hide3 hz2
      clear hf a0 a1 a2 hz1 hz2
      have HX := hide3 (alloc_below wr (.cells #[.string p, .bool c, .string t] 37))
      have HFN := hide3 (fun W => file_new wr W p c t)
      have HML : Hid (Calls Tryz.prog 10 #[.agg #[.string p, .bool c, .string t]] (wr.alloc (.cells #[.string p, .bool c, .string t] 37)) fun e w' => e = .returned (.bool (okF (p, c, t))) ∧ Below (wr.alloc (.cells #[.string p, .bool c, .string t] 37)).heap.size (wr.alloc (.cells #[.string p, .bool c, .string t] 37)) w') :=
        mayLoad_any p c t m _ (cell_below (HB.out.cell (p := ⟨0, 0, none⟩) (cell_lt HM.out) |>.trans HM.out) (alloc_below wr _))
      have HKD : Hid (∀ w1, Below wr.heap.size wr w1 → Calls Tryz.prog 11 #[.pointer (some ⟨w.heap.size + 1, 0, none⟩), .string p] w1 fun e w' => e = .returned (.int .i64 (kindD (loadD (fs.take k)) p)) ∧ Below w1.heap.size w1 w') := fun w1 hb => Kind_any (HD.out.below hb) p HZ1.out
      have HKY : Hid (keyOf Tryz.prog 9 (.string p) = some (keyD p)) := keyOf_str HZ1.out
      by_cases hok : okF (p, c, t) = true
      · by_cases hkd : kindD (loadD (fs.take k)) p = 0
        · rw [hok] at HML
          rw [hkd] at HKD
          have HOK := hide3 hok
          have HK0 := hide3 hkd
          clear hok hkd
          go_wp2_with (first
            | (go_at_call 10; refine HML.out.mono ?_; rintro e w1 ⟨rfl, hb1⟩; obtain ⟨q0, q1, q2⟩ := HFN.out _ hb1; have HB1 := hide3 hb1; have HX1 := hide3 (HX.out.trans (hb1.mono HX.out.size)); clear hb1)
            | (go_at_call 11; refine (HKD.out _ HX1.out).mono ?_; rintro e w2 ⟨rfl, hb2⟩; clear q0 q1 q2; obtain ⟨q0, q1, q2⟩ := HFN.out _ (HB1.out.trans (hb2.mono HB1.out.size)); have HX2 := hide3 (HX1.out.trans (hb2.mono HX1.out.size)); have c0 := (HD.out.below HX2.out).c0; clear hb2))
          obtain ⟨w4, hrun, hown4, hg4⟩ := (HD.out.below HX2.out.drew).own.update keyed Tryz.underlying42 (by unfold maxLen; omega) HKY.out (itemR_mk (b := c) HZ2.out)
          have hxs : wr.heap.size < w2.drew.heap.size := by have := HX2.out.size; have := cell_lt q0; exact this
          have hds : w.heap.size + 1 < w2.drew.heap.size := cell_lt c0
          have HOWN4 := hide3 hown4
          have HG4 := hide3 hg4
          have e0 := (grown_far hg4 hds (fun e => by have := Option.some.inj e; omega) 0).1.trans c0
          have e1 := (grown_far hg4 hxs (fun e => by have := Option.some.inj e; have := HB.out.size; have := HD.out.own.lt; omega) 0).1.trans q0
          have e2 := (grown_far hg4 hxs (fun e => by have := Option.some.inj e; have := HB.out.size; have := HD.out.own.lt; omega) 1).1.trans q1
          have e3 := (grown_far hg4 hxs (fun e => by have := Option.some.inj e; have := HB.out.size; have := HD.out.own.lt; omega) 2).1.trans q2
          clear hown4 hg4 hxs hds
          go_region_held3 (fun w' => w'.cell? ⟨w.heap.size + 1, 0, none⟩ = some (.map (some w.heap.size)) ∧ w'.cell? ⟨wr.heap.size, 0, none⟩ = some (.string p) ∧ w'.cell? ⟨wr.heap.size, 1, none⟩ = some (.bool c) ∧ w'.cell? ⟨wr.heap.size, 2, none⟩ = some (.string t)) (go_keep) (fail)
          all_goals go_wp2_with fail
          have ht := turned (HD.out.below HX2.out.drew) HOWN4.out HG4.out (keys_put (okF_path HOK.out) HD.out.keys)
          refine ⟨⟨k + 1, by omega, by go_num, ⟨n + 1, by omega, ?_⟩, ?_, fun j hj hjk => ?_⟩, by simp [intOf]; omega⟩
          · rw [loadD_take fs k hlt, ← HF.out]
            exact ht.1
          · refine (HB.out.trans (HX2.out.drew.mono HB.out.size)).trans (ht.2.below (Nat.le_trans HB.out.size HX2.out.size) fun i hi => ?_)
            rcases hi with rfl | rfl | hi
            · omega
            · omega
            · cases hi
          · by_cases e : j = k
            · subst e
              rw [← HF.out]
              exact ⟨HOK.out, HK0.out⟩
            · exact HA.out j hj (by omega)
        · have HNL : Hid (¬ Loads fs) := fun h => hkd (by have := (HLD.out h k hlt).2; rw [← HF.out] at this; exact this)
          have hk0 : (kindD (loadD (fs.take k)) p == 0) = false := by simpa using hkd
          rw [hok] at HML
          generalize kindD (loadD (fs.take k)) p = kd at *
          clear hok hkd
          go_wp2_with (first
            | (go_at_call 10; refine HML.out.mono ?_; rintro e w1 ⟨rfl, hb1⟩; obtain ⟨q0, q1, q2⟩ := HFN.out _ hb1; have HX1 := hide3 (HX.out.trans (hb1.mono HX.out.size)); clear hb1)
            | (go_at_call 11; refine (HKD.out _ HX1.out).mono ?_; rintro e w2 ⟨rfl, hb2⟩; have HX2 := hide3 (HX1.out.trans (hb2.mono HX1.out.size)); clear hb2))
          exact HNO.out _ HNL.out (HB.out.trans (HX2.out.mono HB.out.size))
      · have HNL : Hid (¬ Loads fs) := fun h => hok (by have := (HLD.out h k hlt).1; rw [← HF.out] at this; exact this)
        rw [Bool.not_eq_true] at hok
        rw [hok] at HML
        clear hok
        go_wp2_with (go_at_call 10; refine HML.out.mono ?_; rintro e w1 ⟨rfl, hb1⟩; have HX1 := hide3 (HX.out.trans (hb1.mono HX.out.size)); clear hb1)
        exact HNO.out _ HNL.out (HB.out.trans (HX1.out.mono HB.out.size))
    · obtain rfl : k = fs.length := by omega
      rw [List.take_length] at HD
      have HA' : Hid (∀ i (hi : i < fs.length), okF fs[i] = true ∧ kindD (loadD (fs.take i)) fs[i].1 = 0) := fun i hi => HA.out i hi hi
      clear HA
      obtain ⟨wa, rfl⟩ : ∃ x, x = wr := ⟨wr, rfl⟩
      go_wp2
      go_loopw [40] (fun i wr => ∃ k : Nat, k ≤ fs.length ∧ i = .int .i64 k ∧ Below wa.heap.size wa wr ∧ ∀ j (hj : j < fs.length), j < k → parentD (loadD fs) fs[j].1 = 0) (fun i _ => fs.length - (intOf i).toNat)
      case atStart => exact ⟨0, Nat.zero_le _, rfl, Below.refl _ _, fun j hj h => absurd h (Nat.not_lt_zero _)⟩
      case round =>
        obtain ⟨j, hj, rfl, hbq, hpar⟩ := hrel
        have HBQ := hide3 hbq
        have HPR := hide3 hpar
        have HBW := hide3 (HB.out.trans (hbq.mono HB.out.size))
        clear hbq hpar
        by_cases hlt2 : j < fs.length
        · obtain ⟨f, hf⟩ : ∃ f, f = fs[j] := ⟨_, rfl⟩
          have HF := hide3 hf
          obtain ⟨p, c, t⟩ := f
          have hcs := HC.out j hlt2
          rw [← hf] at hcs
          obtain ⟨a0, a1, a2⟩ := hcs
          have b0 := (HBW.out.cell (p := ⟨g, off + j * 3, none⟩) hg).trans a0
          have b1 := (HBW.out.cell (p := ⟨g, off + j * 3 + 1, none⟩) hg).trans a1
          have b2 := (HBW.out.cell (p := ⟨g, off + j * 3 + 1 + 1, none⟩) hg).trans a2
          have hop : okPath p = true := by
            have := (HA'.out j hlt2).1
            rw [← hf] at this
            exact okF_path this
          clear hf a0 a1 a2
          have HX := hide3 (HBQ.out.trans ((alloc_below wr (.cells #[.string p, .bool c, .string t] 37)).mono HBQ.out.size))
          have HPF : Hid (∀ W, Below wa.heap.size wa W → Calls Tryz.prog 12 #[.pointer (some ⟨w.heap.size + 1, 0, none⟩), .string p] W fun e w' => e = .returned (.int .i64 (parentD (loadD fs) p)) ∧ Below W.heap.size W w') := fun W hb => parentFault_any (HD.out.below hb) p hop
          clear hop
          by_cases hp0 : parentD (loadD fs) p = 0
          · rw [hp0] at HPF
            have HP0 := hide3 hp0
            clear hp0
            go_wp2_with (go_at_call 12; refine (HPF.out _ HX.out).mono ?_; rintro e w2 ⟨rfl, hb2⟩; have HX2 := hide3 (HX.out.trans (hb2.mono HX.out.size)); clear hb2)
            refine ⟨⟨j + 1, by omega, by go_num, HX2.out, fun i hi hij => ?_⟩, by simp [intOf]; omega⟩
            by_cases e : i = j
            · subst e
              rw [← HF.out]
              exact HP0.out
            · exact HPR.out i hi (by omega)
          · have HNL : Hid (¬ Loads fs) := fun h => hp0 (by have := HLP.out h j hlt2; rw [← HF.out] at this; exact this)
            have hk0 : (parentD (loadD fs) p == 0) = false := by simpa using hp0
            generalize parentD (loadD fs) p = pd at *
            clear hp0
            go_wp2_with (go_at_call 12; refine (HPF.out _ HX.out).mono ?_; rintro e w2 ⟨rfl, hb2⟩; have HX2 := hide3 (HX.out.trans (hb2.mono HX.out.size)); clear hb2)
            exact HNO.out _ HNL.out (HB.out.trans (HX2.out.mono HB.out.size))
        · obtain rfl : j = fs.length := by omega
          go_wp2
          exact HYES.out _ n (HLI.out HA'.out fun i hi => HPR.out i hi hi) HBW.out hn (HD.out.below HBQ.out)

set_option maxHeartbeats 1000000 in
theorem Load_nil (ao : Option Addr) (cap : Nat) (w : World) : Calls Tryz.prog 4 #[.slice ao 0 cap] w (LoadQ w []) := by
  have HYES : Hid (LoadQ w [] (.returned (.tuple #[.pointer (some ⟨w.heap.size + 1, 0, none⟩), .int .i64 0])) (wNew w)) := ⟨new_below w, Or.inl ⟨⟨fun i hi => absurd hi (Nat.not_lt_zero _), fun i hi => absurd hi (Nat.not_lt_zero _)⟩, rfl, 0, Nat.le_refl _, new_is (Nat.le_refl _)⟩⟩
  generalize LoadQ w [] = HQ at *
  go_enter Tryz.func4, Tryz.ntmps4
  go_wp2_with (go_at_call 9; refine (New_any _).mono ?_; rintro e w1 ⟨rfl, rfl⟩)
  go_loop [12] (fun i => i = .int .i64 0) (fun _ => 0)
  case atStart => rfl
  case round =>
    obtain rfl := hrel
    go_wp2
    go_loop [40] (fun i => i = .int .i64 0) (fun _ => 0)
    case atStart => rfl
    case round =>
      obtain rfl := hrel
      go_wp2
      exact HYES.out

/-- A list of files that lies in memory, or is empty. -/
def IsFiles (w : World) (a : Option Addr) (fs : List Fl) : Prop := fs = [] ∨ ∃ g off, a = some ⟨g, off, none⟩ ∧ g < w.heap.size ∧ FilesAt w g off fs

theorem IsFiles.below {w w' : World} {a : Option Addr} {fs : List Fl} (h : IsFiles w a fs) (hb : Below w.heap.size w w') : IsFiles w' a fs := by
  rcases h with h | ⟨g, off, rfl, hg, hc⟩
  · exact Or.inl h
  · refine Or.inr ⟨g, off, rfl, Nat.lt_of_lt_of_le hg hb.size, fun k hk => ?_⟩
    obtain ⟨a0, a1, a2⟩ := hc k hk
    exact ⟨cell_below a0 hb, cell_below a1 hb, cell_below a2 hb⟩

theorem Load_any (fs : List Fl) (a : Option Addr) (cap : Nat) (m : Int) (w : World) (hm : w.cell? ⟨0, 0, none⟩ = some (.int .i64 m)) (hlen : fs.length ≤ 3518437208799)
    (hc : IsFiles w a fs) (hz : ∀ f ∈ fs, f.1.size ≤ maxLen ∧ f.2.2.size ≤ maxLen) : Calls Tryz.prog 4 #[.slice a fs.length cap] w (LoadQ w fs) := by
  rcases hc with rfl | ⟨g, off, rfl, hg, hc⟩
  · exact Load_nil a cap w
  · exact Load_some fs g off cap m w hm hg hlen hc hz

theorem row_form {w : World} {B t sz n : Nat} {v : Value} {xs : List Value} (h : w.ownsRow B t sz v n xs) : ∃ ao cap, v = .slice ao n cap := by
  rcases h.2 with ⟨rfl, h0⟩ | ⟨g, cap, cur, rfl, _⟩
  · exact ⟨none, 0, by rw [h0]⟩
  · exact ⟨some ⟨g, 0, none⟩, cap, rfl⟩

theorem Plain.put {D : DataW Unit} (h : Plain D) {s : ByteArray} (c : Bool) (t : ByteArray) (hok : okPath s = true) : Plain (D.put (keyD s) (itemD c t)) := by
  obtain ⟨es, rfl, hr, hf⟩ := h
  have hsub : ∀ p ∈ es.filter (fun p => !p.1.sameKey (keyD s)), ∃ s' c' t', p = (keyD s', itemD c' t') ∧ okPath s' = true ∧ s' ≠ s := by
    intro p hp
    obtain ⟨h1, h2⟩ := List.mem_filter.1 hp
    obtain ⟨s', c', t', rfl, ho⟩ := hf p h1
    refine ⟨s', c', t', rfl, ho, fun e => ?_⟩
    subst e
    rw [Bool.not_eq_true'] at h2
    exact absurd ((sameKey_keyD s' s').2 rfl) (by rw [h2]; decide)
  refine ⟨DataW.insert (keyD s, itemD c t) (es.filter (fun p => !p.1.sameKey (keyD s))), rfl, ?_, fun p hp => ?_⟩
  · refine Go.ChangeMaps.insert_sorted ⟨_, rfl⟩ _ (hr.filter _) (fun p hp => ?_) (fun p hp e => ?_)
    · obtain ⟨s', c', t', rfl, _, _⟩ := hsub p hp
      exact ⟨_, rfl⟩
    · obtain ⟨s', c', t', rfl, _, hne⟩ := hsub p hp
      exact hne (keyD_inj e)
  · rcases Go.ChangeMaps.mem_insert_iff.1 hp with rfl | hp
    · exact ⟨s, c, t, rfl, hok⟩
    · obtain ⟨s', c', t', rfl, ho, _⟩ := hsub p hp
      exact ⟨s', c', t', rfl, ho⟩
theorem plain_new : Plain (loadD []) := ⟨[], rfl, List.Pairwise.nil, fun p hp => by cases hp⟩
theorem plain_load (fs : List Fl) (h : ∀ f ∈ fs, okPath f.1 = true) : Plain (loadD fs) := by
  revert h
  refine snoc_ind (P := fun l => (∀ f ∈ l, okPath f.1 = true) → Plain (loadD l)) (fun _ => plain_new) (fun l f ih h => ?_) fs
  rw [loadD_snoc]
  exact (ih fun g hg => h g (by simp [hg])).put _ _ (h f (by simp))
theorem take_ok {fs : List Fl} {k : Nat} (h : ∀ j (hj : j < fs.length), j < k → okF fs[j] = true ∧ kindD (loadD (fs.take j)) fs[j].1 = 0) : ∀ f ∈ fs.take k, okPath f.1 = true := by
  intro f hf
  obtain ⟨j, hj, rfl⟩ := List.getElem_of_mem hf
  rw [List.length_take] at hj
  rw [List.getElem_take]
  exact okF_path (p := fs[j].1) (c := fs[j].2.1) (t := fs[j].2.2) (h j (by omega) (by omega)).1
theorem len_load (fs : List Fl) (hP : Plain (loadD fs)) (hd : fs.Pairwise fun x y => x.1 ≠ y.1) : (filesD (loadD fs)).length = fs.length := by
  refine List.Perm.length_eq ((List.perm_ext_iff_of_nodup (distinct hP.good.rise) ?_).2 fun f => mem_files_load hd hP.good f)
  exact hd.imp fun {x y} h e => h (by rw [e])
theorem take_apart {fs : List Fl} {k : Nat} (h : ∀ j (hj : j < fs.length), j < k → okF fs[j] = true ∧ kindD (loadD (fs.take j)) fs[j].1 = 0) : (fs.take k).Pairwise fun x y => x.1 ≠ y.1 := by
  refine loads_apart fun i hi => ?_
  have hi' := hi
  rw [List.length_take] at hi'
  rw [List.getElem_take, List.take_take, Nat.min_eq_left (by omega)]
  exact h i (by omega) (by omega)

/-- What the reference's Load answers. -/
def RLoadQ (w : World) (fs : List Fl) (e : Ending) (w' : World) : Prop := Below w.heap.size w w' ∧
  ((Loads fs ∧ e = .returned (.tuple #[.pointer (some ⟨w.heap.size, 0, none⟩), .bool true]) ∧ ∃ lv rv, IsRef w.heap.size w' w.heap.size lv rv (filesD (loadD fs)) [] (-1)) ∨
   (¬ Loads fs ∧ e = .returned (.tuple #[.pointer none, .bool false])))

set_option maxHeartbeats 8000000 in
theorem rLoad_any (fs : List Fl) (a : Option Addr) (cap : Nat) (w : World) (hlen : fs.length ≤ 3518437208790) (hc : IsFiles w a fs) (hz : ∀ f ∈ fs, f.1.size ≤ maxLen ∧ f.2.2.size ≤ maxLen) :
    Calls Tryz.prog 5 #[.slice a fs.length cap] w (RLoadQ w fs) := by
  have HC := hide3 hc
  have HZ := hide3 hz
  have HN : Hid (IsRef w.heap.size (w.alloc (.cells #[.slice none 0 0, .slice none 0 0, .int .i64 (-1)] 51)) w.heap.size (.slice none 0 0) (.slice none 0 0) [] [] (-1)) := rnew_is (Nat.le_refl _)
  have HB0 := hide3 (alloc_below w (.cells #[.slice none 0 0, .slice none 0 0, .int .i64 (-1)] 51))
  have HNO : Hid (∀ w', ¬ Loads fs → Below w.heap.size w w' → RLoadQ w fs (.returned (.tuple #[.pointer none, .bool false])) w') := fun w' h hb => ⟨hb, Or.inr ⟨h, rfl⟩⟩
  have HYES : Hid (∀ w' lv rv, Loads fs → Below w.heap.size w w' → IsRef w.heap.size w' w.heap.size lv rv (filesD (loadD fs)) [] (-1) → RLoadQ w fs (.returned (.tuple #[.pointer (some ⟨w.heap.size, 0, none⟩), .bool true])) w') := fun w' lv rv h hb hd => ⟨hb, Or.inl ⟨h, rfl, lv, rv, hd⟩⟩
  have HLD : Hid (Loads fs → ∀ i (hi : i < fs.length), okF fs[i] = true ∧ kindD (loadD (fs.take i)) fs[i].1 = 0) := fun h => h.1
  have HLP : Hid (Loads fs → ∀ i (hi : i < fs.length), parentD (loadD fs) fs[i].1 = 0) := fun h => h.2
  have HLI : Hid ((∀ i (hi : i < fs.length), okF fs[i] = true ∧ kindD (loadD (fs.take i)) fs[i].1 = 0) → (∀ i (hi : i < fs.length), parentD (loadD fs) fs[i].1 = 0) → Loads fs) := fun h h' => ⟨h, h'⟩
  clear hc hz
  generalize RLoadQ w fs = HQ at *
  go_enter Tryz.func5, Tryz.ntmps5
  go_wp2_with (go_at_call 13; refine (rNew_walk _).mono ?_; rintro e w1 ⟨rfl, rfl⟩)
  go_loopw [5] (fun i wr => ∃ k : Nat, k ≤ fs.length ∧ i = .int .i64 k ∧ (∃ lv rv, IsRef w.heap.size wr w.heap.size lv rv (filesD (loadD (fs.take k))) [] (-1)) ∧ Below w.heap.size w wr ∧ ∀ j (hj : j < fs.length), j < k → okF fs[j] = true ∧ kindD (loadD (fs.take j)) fs[j].1 = 0) (fun i _ => fs.length - (intOf i).toNat)
  case atStart => exact ⟨0, Nat.zero_le _, rfl, ⟨_, _, HN.out⟩, HB0.out, fun j hj h => absurd h (Nat.not_lt_zero _)⟩
  case round =>
    obtain ⟨k, hk, rfl, ⟨lv, rv, hd⟩, hb, hall⟩ := hrel
    have HD := hide3 hd
    have HB := hide3 hb
    have HA := hide3 hall
    have HPL := hide3 (plain_load _ (take_ok hall))
    have HLE := hide3 (len_load _ HPL.out (take_apart hall))
    clear hd hb hall
    by_cases hlt : k < fs.length
    · obtain ⟨g, off, rfl, hg, hc⟩ : ∃ g off, a = some ⟨g, off, none⟩ ∧ g < w.heap.size ∧ FilesAt w g off fs := by
        rcases HC.out with h | h
        · rw [h] at hlt; exact absurd hlt (Nat.not_lt_zero _)
        · exact h
      obtain ⟨f, hf⟩ : ∃ f, f = fs[k] := ⟨_, rfl⟩
      have HF := hide3 hf
      obtain ⟨p, c, t⟩ := f
      have hcs := hc k hlt
      rw [← hf] at hcs
      obtain ⟨a0, a1, a2⟩ := hcs
      have b0 := (HB.out.cell (p := ⟨g, off + k * 3, none⟩) hg).trans a0
      have b1 := (HB.out.cell (p := ⟨g, off + k * 3 + 1, none⟩) hg).trans a1
      have b2 := (HB.out.cell (p := ⟨g, off + k * 3 + 1 + 1, none⟩) hg).trans a2
      have b2' : wr.cell? ⟨g, off + k * 3 + 2, none⟩ = some (.string t) := b2
      have hzz := HZ.out fs[k] (List.getElem_mem hlt)
      rw [← hf] at hzz
      have HP : Hid (Calls Tryz.prog 14 #[.string p] wr fun e w' => e = .returned (.bool (okPath p)) ∧ w' = wr) := rPath_any p wr hzz.1
      have hl1 : (fs.take k).length ≤ k := by rw [List.length_take]; omega
      have HFI : Hid (Calls Tryz.prog 15 #[.pointer (some ⟨w.heap.size, 0, none⟩), .string p] wr fun e w' => e = .returned (.int .i64 (findD (filesD (loadD (fs.take k))) p)) ∧ w' = wr) := find_any HD.out p (by rw [HLE.out]; omega)
      have HPU : Hid (Calls Tryz.prog 16 #[.pointer (some ⟨w.heap.size, 0, none⟩), .agg #[.string p, .bool c, .string t], .bool false] wr fun e' w' => e' = .returned (.tuple #[]) ∧ AfterR w.heap.size wr w' w.heap.size lv rv (putD (filesD (loadD (fs.take k))) (p, c, t) false) [] (-1)) := put_any HD.out p c t false (by rw [HLE.out]; omega) HB.out.size
      have hki : (k : Int) < (fs.length : Int) := by omega
      clear hf a0 a1 a2 hc hzz
      by_cases hop : okPath p = true
      · have HPP : Hid (putD (filesD (loadD (fs.take k))) (p, c, t) false = filesD (loadD (fs.take (k + 1)))) := by
          unfold Hid
          rw [loadD_take fs k hlt, ← HF.out]
          exact put_files HPL.out.good HPL.out.isMap (HPL.out.put c t hop).good
        rw [HPP.out] at HPU
        rcases find_has HPL.out.good p with ⟨hfd, hha⟩ | ⟨k2, hk2, hfd, hz1, hha, hz2⟩
        · rw [hfd] at HFI
          rw [hop] at HP
          have HK0 : Hid (kindD (loadD (fs.take k)) p = 0) := kind_none (not_root hop) hha
          have HOP := hide3 hop
          clear hfd hha hop
          by_cases hok : okF (p, c, t) = true
          · have HOK := hide3 hok
            have HNX : Hid (∀ w' lv' rv', IsRef w.heap.size w' w.heap.size lv' rv' (filesD (loadD (fs.take (k + 1)))) [] (-1) → Below w.heap.size w w' → (∃ k' : Nat, k' ≤ fs.length ∧ (Value.int .i64 ((k : Int) + 1)) = .int .i64 k' ∧ (∃ lv rv, IsRef w.heap.size w' w.heap.size lv rv (filesD (loadD (fs.take k'))) [] (-1)) ∧ Below w.heap.size w w' ∧ ∀ j (hj : j < fs.length), j < k' → okF fs[j] = true ∧ kindD (loadD (fs.take j)) fs[j].1 = 0)) := fun w' lv' rv' h1 h2 => by
              refine ⟨k + 1, by omega, by simp, ⟨lv', rv', h1⟩, h2, fun j hj hjk => ?_⟩
              by_cases e : j = k
              · subst e
                rw [← HF.out]
                exact ⟨HOK.out, HK0.out⟩
              · exact HA.out j hj (by omega)
            have hdt : c = false ∨ (t.toList == []) = true := by
              unfold okF at hok
              cases c
              · exact Or.inl rfl
              · right
                simp only [Bool.true_and, Bool.not_not, Bool.and_eq_true] at hok
                exact hok.2
            clear hok
            rcases hdt with rfl | hdt
            · go_wp2_with (first
                | (go_at_call 14; refine HP.out.mono ?_; rintro e w2 ⟨rfl, hw2⟩; subst w2)
                | (go_at_call 15; refine HFI.out.mono ?_; rintro e w3 ⟨rfl, hw3⟩; subst w3)
                | (go_at_call 16; refine HPU.out.mono ?_; rintro e w4 ⟨rfl, lv4, rv4, hr4, hu4, _⟩; have HR4 := hide3 hr4; have HB4 := hide3 (HB.out.trans (hu4.below HB.out.size fun i hi => (HD.out.foot_lt hi).2)); clear hr4 hu4))
              exact ⟨HNX.out _ _ _ HR4.out HB4.out, by simp [intOf]; omega⟩
            · cases c
              · go_wp2_with (first
                  | (go_at_call 14; refine HP.out.mono ?_; rintro e w2 ⟨rfl, hw2⟩; subst w2)
                  | (go_at_call 15; refine HFI.out.mono ?_; rintro e w3 ⟨rfl, hw3⟩; subst w3)
                  | (go_at_call 16; refine HPU.out.mono ?_; rintro e w4 ⟨rfl, lv4, rv4, hr4, hu4, _⟩; have HR4 := hide3 hr4; have HB4 := hide3 (HB.out.trans (hu4.below HB.out.size fun i hi => (HD.out.foot_lt hi).2)); clear hr4 hu4))
                exact ⟨HNX.out _ _ _ HR4.out HB4.out, by simp [intOf]; omega⟩
              · go_wp2_with (first
                  | (go_at_call 14; refine HP.out.mono ?_; rintro e w2 ⟨rfl, hw2⟩; subst w2)
                  | (go_at_call 15; refine HFI.out.mono ?_; rintro e w3 ⟨rfl, hw3⟩; subst w3)
                  | (go_at_call 16; refine HPU.out.mono ?_; rintro e w4 ⟨rfl, lv4, rv4, hr4, hu4, _⟩; have HR4 := hide3 hr4; have HB4 := hide3 (HB.out.trans (hu4.below HB.out.size fun i hi => (HD.out.foot_lt hi).2)); clear hr4 hu4))
                exact ⟨HNX.out _ _ _ HR4.out HB4.out, by simp [intOf]; omega⟩
          · have HNL : Hid (¬ Loads fs) := fun h => hok (by have := (HLD.out h k hlt).1; rw [← HF.out] at this; exact this)
            obtain ⟨rfl, hdt⟩ : c = true ∧ (t.toList == []) = false := by
              unfold okF at hok
              have h1 := HOP.out
              cases c
              · exact absurd (by simp [h1]) hok
              · refine ⟨rfl, ?_⟩
                cases ht : (t.toList == [])
                · rfl
                · exact absurd (by simp [h1, ht]) hok
            clear hok
            go_wp2_with (first
              | (go_at_call 14; refine HP.out.mono ?_; rintro e w2 ⟨rfl, hw2⟩; subst w2)
              | (go_at_call 15; refine HFI.out.mono ?_; rintro e w3 ⟨rfl, hw3⟩; subst w3)
              | (go_at_call 16; refine HPU.out.mono ?_; rintro e w4 ⟨rfl, lv4, rv4, hr4, hu4, _⟩; have HR4 := hide3 hr4; have HB4 := hide3 (HB.out.trans (hu4.below HB.out.size fun i hi => (HD.out.foot_lt hi).2)); clear hr4 hu4))
            exact HNO.out _ HNL.out HB.out
        · have HNL : Hid (¬ Loads fs) := fun h => by
            have := (HLD.out h k hlt).2
            rw [← HF.out] at this
            have := kind_none_has this
            rw [hha] at this
            cases this
          rw [hfd] at HFI
          rw [hop] at HP
          clear hfd hha hop hz1 hz2 hk2
          have hk20 : (0 : Int) ≤ (k2 : Int) := by omega
          go_wp2_with (first
            | (go_at_call 14; refine HP.out.mono ?_; rintro e w2 ⟨rfl, hw2⟩; subst w2)
            | (go_at_call 15; refine HFI.out.mono ?_; rintro e w3 ⟨rfl, hw3⟩; subst w3)
            | (go_at_call 16; refine HPU.out.mono ?_; rintro e w4 ⟨rfl, lv4, rv4, hr4, hu4, _⟩; have HR4 := hide3 hr4; have HB4 := hide3 (HB.out.trans (hu4.below HB.out.size fun i hi => (HD.out.foot_lt hi).2)); clear hr4 hu4))
          exact HNO.out _ HNL.out HB.out
      · have HNL : Hid (¬ Loads fs) := fun h => hop (by have := (HLD.out h k hlt).1; rw [← HF.out] at this; exact okF_path this)
        rw [Bool.not_eq_true] at hop
        rw [hop] at HP
        clear hop
        go_wp2_with (first
          | (go_at_call 14; refine HP.out.mono ?_; rintro e w2 ⟨rfl, hw2⟩; subst w2)
          | (go_at_call 15; refine HFI.out.mono ?_; rintro e w3 ⟨rfl, hw3⟩; subst w3)
          | (go_at_call 16; refine HPU.out.mono ?_; rintro e w4 ⟨rfl, lv4, rv4, hr4, hu4, _⟩; have HR4 := hide3 hr4; have HB4 := hide3 (HB.out.trans (hu4.below HB.out.size fun i hi => (HD.out.foot_lt hi).2)); clear hr4 hu4))
        exact HNO.out _ HNL.out HB.out
    · obtain rfl : k = fs.length := by omega
      rw [List.take_length] at HD HPL HLE
      have HA' : Hid (∀ i (hi : i < fs.length), okF fs[i] = true ∧ kindD (loadD (fs.take i)) fs[i].1 = 0) := fun i hi => HA.out i hi hi
      have HME : Hid (∀ f : Fl, f ∈ filesD (loadD fs) ↔ f ∈ fs) := fun f => mem_files_load (loads_apart HA'.out) HPL.out.good f
      have HKD : Hid (∀ s : ByteArray, Calls Tryz.prog 17 #[.pointer (some ⟨w.heap.size, 0, none⟩), .string s] wr fun e w' => e = .returned (.int .i64 (kindD (loadD fs) s)) ∧ w' = wr) := fun s => rKind_any HD.out HPL.out.good s (by rw [HLE.out]; omega)
      clear HA
      obtain ⟨wa, rfl⟩ : ∃ x, x = wr := ⟨wr, rfl⟩
      have hlr := HD.out.lrow
      have hc0 := HD.out.c0
      have hLl : (filesD (loadD fs)).length ≤ 3518437208790 := by rw [HLE.out]; omega
      have HOK : Hid (∀ f ∈ filesD (loadD fs), okPath f.1 = true) := fun f hf => by
        obtain ⟨i, hi, rfl⟩ := List.getElem_of_mem ((HME.out f).1 hf)
        exact okF_path (HA'.out i hi).1
      obtain ⟨ad, cp, rfl⟩ := row_form hlr
      have HLR := hide3 hlr
      have HFIN : Hid ((∀ f ∈ filesD (loadD fs), kindD (loadD fs) (parentOf f.1) = 2) → Loads fs) := fun h => HLI.out HA'.out fun i hi => by
        have := h _ ((HME.out _).2 (List.getElem_mem hi))
        unfold parentD
        rw [this]
        rfl
      have HNOT : Hid (∀ f ∈ filesD (loadD fs), kindD (loadD fs) (parentOf f.1) ≠ 2 → ¬ Loads fs) := fun f hf hne h => by
        obtain ⟨i, hi, rfl⟩ := List.getElem_of_mem ((HME.out f).1 hf)
        exact hne (parentD_zero (by rw [HLP.out h i hi]; rfl))
      have HYE : Hid (Loads fs → HQ (.returned (.tuple #[.pointer (some ⟨w.heap.size, 0, none⟩), .bool true])) wa) := fun h => HYES.out _ _ _ h HB.out HD.out
      clear hlr HLE HYES HLI HLP HLD HN HB0 HME HD
      generalize filesD (loadD fs) = L at *
      go_wp2
      go_loopw [7] (fun i wr => ∃ j : Nat, j ≤ L.length ∧ i = .int .i64 j ∧ wr = wa ∧ ∀ i (hi : i < L.length), i < j → kindD (loadD fs) (parentOf L[i].1) = 2) (fun i _ => L.length - (intOf i).toNat)
      case atStart => exact ⟨0, Nat.zero_le _, rfl, rfl, fun i hi h => absurd h (Nat.not_lt_zero _)⟩
      case round =>
        obtain ⟨j, hj, rfl, hwr, hpar⟩ := hrel
        subst hwr
        have HPR := hide3 hpar
        clear hpar
        by_cases hlt2 : j < L.length
        · obtain ⟨g2, rfl⟩ := row_shape HLR.out (by omega)
          obtain ⟨c1, _, _⟩ := file_cells HLR.out j hlt2
          have hm2 := List.getElem_mem hlt2
          have hop := HOK.out _ hm2
          have HRP : Hid (Calls Tryz.prog 18 #[.string L[j].1] wr fun e w' => e = .returned (.string (parentOf L[j].1)) ∧ w' = wr) := rParent_any _ wr (okPath_size hop) (okPath_parts hop).2
          have HK2 := hide3 (HKD.out (parentOf L[j].1))
          have hji : (j : Int) < (L.length : Int) := by omega
          by_cases hk2 : kindD (loadD fs) (parentOf L[j].1) = 2
          · have HST : Hid (∀ i (hi : i < L.length), i < j + 1 → kindD (loadD fs) (parentOf L[i].1) = 2) := fun i hi hij => by
              by_cases e : i = j
              · subst e; exact hk2
              · exact HPR.out i hi (by omega)
            rw [hk2] at HK2
            clear hk2 hop hm2
            generalize parentOf L[j].1 = PA at *
            generalize L[j].1 = P0 at *
            go_wp2_with (first
              | (go_at_call 18; refine HRP.out.mono ?_; rintro e w2 ⟨rfl, hw2⟩; subst w2)
              | (go_at_call 17; refine HK2.out.mono ?_; rintro e w3 ⟨rfl, hw3⟩; subst w3))
            exact ⟨⟨j + 1, by omega, by go_num, by trivial, HST.out⟩, by simp [intOf]; omega⟩
          · have HNL := hide3 (HNOT.out _ hm2 hk2)
            have hk3 : (kindD (loadD fs) (parentOf L[j].1) == 2) = false := by simpa using hk2
            clear hk2 hop hm2
            generalize kindD (loadD fs) (parentOf L[j].1) = kk at *
            generalize parentOf L[j].1 = PA at *
            generalize L[j].1 = P0 at *
            go_wp2_with (first
              | (go_at_call 18; refine HRP.out.mono ?_; rintro e w2 ⟨rfl, hw2⟩; subst w2)
              | (go_at_call 17; refine HK2.out.mono ?_; rintro e w3 ⟨rfl, hw3⟩; subst w3))
            exact HNO.out _ HNL.out HB.out
        · obtain rfl : j = L.length := by omega
          go_wp2
          exact HYE.out (HFIN.out fun f hf => by obtain ⟨i, hi, rfl⟩ := List.getElem_of_mem hf; exact HPR.out i hi hi)

theorem max_cell {W : World} (h : W.ShapedOpen Tryz.prog) : ∃ m, W.cell? ⟨0, 0, none⟩ = some (.int .i64 m) :=
  cell_of_shapedOpen_int (t := 3) (zero := #[.int .i64 0]) h (by decide +kernel) (by kernel_rfl) rfl (by kernel_rfl) (by kernel_rfl) Tryz.underlying3

theorem cellsInt : Tryz.prog.cellsOf 3 = 1 := by kernel_rfl
theorem cellsString : Tryz.prog.cellsOf 9 = 1 := by kernel_rfl

theorem take_one {cs : List Value} {o : Nat} {v : Value} (h : (cs.drop o).take 1 = [v]) : cs[o]? = some v := by
  have h0 : ((cs.drop o).take 1)[0]? = some v := by rw [h]; rfl
  simpa using h0

theorem field_at {fs : Array Field} {i ty off : Nat} (h : (fs[i]?).map (fun f => (f.type, f.offset)) = some (ty, off)) : ∃ f, fs[i]? = some f ∧ f.type = ty ∧ f.offset = off := by
  cases hf : fs[i]? with
  | none => rw [hf] at h; cases h
  | some f =>
    rw [hf] at h
    simp only [Option.map_some, Option.some.injEq, Prod.mk.injEq] at h
    exact ⟨f, rfl, h.1, h.2⟩
end Go.Proofs.YtogpkhpephhbiaaGreatDoor.Dk
namespace Go.Proofs.YtogpkhpephhbiaaGreatDoor.Dk
open Go.ChangeShapes Go.WideShapes Go.ChangeAt Go.RowKit Go.ChangeMaps
set_option maxRecDepth 100000

theorem cellsFile : Tryz.prog.cellsOf 37 = 3 := by kernel_rfl
theorem cellsBool : Tryz.prog.cellsOf 4 = 1 := by kernel_rfl
theorem file_read {H : Type} {enc : TypeId × Value → H} {W : World} {base : Nat} {spare : Nat → Bool} {held : Bool} {n : Nat} {g o : Nat} {cs : List Value} {x : DataW H × List MemPlace} (hc : W.cells? base ⟨g, o, none⟩ 3 = some cs) (h : DataW.trod enc Tryz.prog W base spare held n 37 cs = some x) :
    ∃ f : Fl, W.cell? ⟨g, o, none⟩ = some (.string f.1) ∧ W.cell? ⟨g, o + 1, none⟩ = some (.bool f.2.1) ∧ W.cell? ⟨g, o + 1 + 1, none⟩ = some (.string f.2.2) ∧ f.1.size ≤ maxLen ∧ f.2.2.size ≤ maxLen := by
  have hs : Tryz.prog.underlying 37 = some (.struct (Tryz.prog.fieldsOf 37)) := by kernel_rfl
  obtain ⟨xs, n', _, _, _, hxl, hf⟩ := DataW.trod_struct hs h
  have hsz : (Tryz.prog.fieldsOf 37).size = 3 := by kernel_rfl
  obtain ⟨_, _, hq⟩ := World.cells?_some hc
  have bools : ∀ i off, ((Tryz.prog.fieldsOf 37)[i]?).map (fun f => (f.type, f.offset)) = some (4, off) → i < 3 → ∃ k, cs[off]? = some (.bool k) := by
    intro i off hfd hi
    obtain ⟨f, h1, h2, h3⟩ := field_at hfd
    have hr := hf i f h1
    rw [h2, h3, cellsBool, List.getElem?_eq_getElem (by omega : i < xs.length)] at hr
    obtain ⟨k, e1, _⟩ := DataW.trod_bool Tryz.underlying4 hr
    exact ⟨k, take_one e1⟩
  have strs : ∀ i off, ((Tryz.prog.fieldsOf 37)[i]?).map (fun f => (f.type, f.offset)) = some (9, off) → i < 3 → ∃ s, cs[off]? = some (.string s) ∧ s.size ≤ maxLen := by
    intro i off hfd hi
    obtain ⟨f, h1, h2, h3⟩ := field_at hfd
    have hr := hf i f h1
    rw [h2, h3, cellsString, List.getElem?_eq_getElem (by omega : i < xs.length)] at hr
    obtain ⟨s, e1, _, ws⟩ := DataW.trod_string Tryz.underlying9 hr
    exact ⟨s, take_one e1, ws⟩
  obtain ⟨p, a0, wp⟩ := strs 0 0 (by kernel_rfl) (by decide)
  obtain ⟨c, a1⟩ := bools 1 1 (by kernel_rfl) (by decide)
  obtain ⟨t, a2, wt⟩ := strs 2 2 (by kernel_rfl) (by decide)
  have ad : ∀ i, (⟨g, o, none⟩ : Addr).add i = ⟨g, o + i, none⟩ := fun i => by unfold Addr.add; split <;> simp_all
  have q0 := hq 0 (by decide)
  have q1 := hq 1 (by decide)
  have q2 := hq 2 (by decide)
  rw [ad] at q0 q1 q2
  exact ⟨(p, c, t), by rw [← a0, ← q0]; rfl, by rw [← a1, ← q1], by rw [← a2, ← q2], wp, wt⟩

/-- A list is made of what lies at each place. -/
theorem list_of {P : Nat → Fl → Prop} : ∀ n, (∀ i, i < n → ∃ f, P i f) → ∃ fs : List Fl, fs.length = n ∧ ∀ i (hi : i < fs.length), P i fs[i]
  | 0, _ => ⟨[], rfl, fun i hi => absurd hi (Nat.not_lt_zero _)⟩
  | n + 1, h => by
    obtain ⟨fs, hl, hp⟩ := list_of n (fun i hi => h i (by omega))
    obtain ⟨f, hf⟩ := h n (by omega)
    refine ⟨fs ++ [f], by simp [hl], fun i hi => ?_⟩
    by_cases e : i < fs.length
    · rw [List.getElem_append_left e]; exact hp i e
    · have : i = fs.length := by simp at hi; omega
      subst this
      rw [List.getElem_append_right (Nat.le_refl _)]
      simp only [Nat.sub_self, List.getElem_cons_zero]
      rw [hl]
      exact hf

theorem open_files {H : Type} {enc : TypeId × Value → H} {W : World} {base fuel : Nat} {held : Bool} {a : Option Addr} {len cap : Nat} {x : DataW H × List MemPlace} (h : DataW.trod enc Tryz.prog W base (fun _ => true) held fuel 22 [.slice a len cap] = some x) :
    ∃ fs : List Fl, fs.length = len ∧ IsFiles W a fs ∧ (∀ f ∈ fs, f.1.size ≤ maxLen ∧ f.2.2.size ≤ maxLen) ∧ (len = 0 ∨ ∃ el sp, x.1 = .slice el sp ∧ len ≤ el.length + sp.length) := by
  rcases Go.Deep.open_slice Tryz.underlying22 h with ⟨hcs, _⟩ | ⟨ad, l, c, m, n, D, Pl, hcs, _, hl, _, hm, hx, hel⟩
  · simp only [List.cons.injEq, Value.slice.injEq, and_true] at hcs
    exact ⟨[], hcs.2.1.symm, Or.inl rfl, fun f hf => (by cases hf), Or.inl hcs.2.1⟩
  · simp only [List.cons.injEq, Value.slice.injEq, and_true] at hcs
    obtain ⟨rfl, rfl, rfl⟩ := hcs
    rcases Nat.eq_zero_or_pos len with h0 | h0
    · exact ⟨[], h0.symm, Or.inl rfl, fun f hf => (by cases hf), Or.inl h0⟩
    · have hmm : len ≤ m := by rw [hm]; simp; exact hl
      rw [cellsFile] at hel
      obtain ⟨g, off, spot⟩ := ad
      obtain ⟨cs0, hc0, _⟩ := hel 0 (by omega)
      obtain ⟨_, hln, hq⟩ := World.cells?_some hc0
      have hcell := hq 0 (by decide)
      rw [List.getElem?_eq_getElem (by omega : 0 < cs0.length)] at hcell
      have hspot : spot = none := by simpa [Addr.add] using World.cell?_spot hcell
      subst hspot
      have ad2 : ∀ o i, (⟨g, o, none⟩ : Addr).add i = ⟨g, o + i, none⟩ := fun o i => by unfold Addr.add; split <;> simp_all
      obtain ⟨fs, hfl, hfs⟩ := list_of (P := fun i f => W.cell? ⟨g, off + i * 3, none⟩ = some (.string f.1) ∧ W.cell? ⟨g, off + i * 3 + 1, none⟩ = some (.bool f.2.1) ∧ W.cell? ⟨g, off + i * 3 + 1 + 1, none⟩ = some (.string f.2.2) ∧ f.1.size ≤ maxLen ∧ f.2.2.size ≤ maxLen) len (fun i hi => by
        obtain ⟨cs, hc, ht⟩ := hel i (by omega)
        rw [ad2] at hc
        exact file_read hc ht)
      refine ⟨fs, hfl, Or.inr ⟨g, off, rfl, ?_, fun k hk => ?_⟩, fun f hf => ?_, Or.inr ⟨_, _, by rw [hx], by simp⟩⟩
      · have := cell_lt hcell
        rw [ad2, ad2] at this; exact this
      · obtain ⟨q0, q1, q2, _, _⟩ := hfs k hk
        exact ⟨q0, q1, q2⟩
      · obtain ⟨i, hi, rfl⟩ := List.getElem_of_mem hf
        exact ⟨(hfs i hi).2.2.2.1, (hfs i hi).2.2.2.2⟩
end Go.Proofs.YtogpkhpephhbiaaGreatDoor.Dk
namespace Go.Proofs.YtogpkhpephhbiaaGreatDoor
open Go.RowKit
set_option maxRecDepth 100000

/-- What makes a directory a package's: this file, behind its text. -/
def pkgS : ByteArray := ⟨#[47, 112, 97, 99, 107, 97, 103, 101]⟩
theorem pkgS_size : pkgS.size = 8 := rfl
/-- The text at which a lookup asks. -/
def odT (p : List ByteArray) (s : ByteArray) (k : Nat) : ByteArray := textPa (p.take k ++ [s])
/-- What is at its file. -/
def odK (D : DataW Unit) (p : List ByteArray) (s : ByteArray) (k : Nat) : Int := Dk.kindD D (odT p s k ++ pkgS)
/-- What a lookup finds from the first k names upwards. -/
def odN (D : DataW Unit) (p : List ByteArray) (s : ByteArray) : Nat → Option ByteArray
  | 0 => if odK D p s 0 = 1 then some (odT p s 0) else none
  | k + 1 => if odK D p s (k + 1) = 1 then some (odT p s (k + 1)) else odN D p s k
theorem od_hit {D : DataW Unit} {p : List ByteArray} {s : ByteArray} {k : Nat} (h : odK D p s k = 1) : odN D p s k = some (odT p s k) := by
  cases k with
  | zero => unfold odN; rw [if_pos h]
  | succ k => unfold odN; rw [if_pos h]
theorem od_miss {D : DataW Unit} {p : List ByteArray} {s : ByteArray} {k : Nat} (h : odK D p s (k + 1) ≠ 1) : odN D p s (k + 1) = odN D p s k := by
  rw [odN, if_neg h]
theorem od_end {D : DataW Unit} {p : List ByteArray} {s : ByteArray} (h : odK D p s 0 ≠ 1) : odN D p s 0 = none := by
  rw [odN, if_neg h]

theorem names_with {p : List ByteArray} {s : ByteArray} (hp : namesB p = true) (hs : Sc.nameA s.data.toList = true) (k : Nat) : namesB (p.take k ++ [s]) = true := by
  unfold namesB at *
  rw [List.all_append, Bool.and_eq_true, List.all_eq_true]
  refine ⟨fun x hx => ?_, by simpa using hs⟩
  rw [List.all_eq_true] at hp
  exact hp x (List.mem_of_mem_take hx)
theorem odT_eq {p : List ByteArray} {s : ByteArray} (hp : namesB p = true) (hs : Sc.nameA s.data.toList = true) (k : Nat) : odT p s k = textBA (p.take k ++ [s]) := by
  unfold odT textPa
  rw [if_neg (by simp), if_pos (names_with hp hs k)]
  rfl
theorem odT_size {p : List ByteArray} {s : ByteArray} (hp : namesB p = true) (hs : Sc.nameA s.data.toList = true) {k : Nat} (hk : k ≤ p.length) : 10 * (k + 1) ≤ (odT p s k).size := by
  rw [odT_eq hp hs, textBA_size]
  have := textN_ge (names_with hp hs k)
  rw [List.length_append, List.length_take, Nat.min_eq_left hk] at this
  exact this
theorem pkg_root (t : ByteArray) : ((t ++ pkgS).toList == [47]) = false := by
  rw [beq_eq_false_iff_ne]
  intro e
  have h := congrArg List.length e
  rw [ByteArray.toList_eq, list_size, app_size, pkgS_size] at h
  simp only [List.length_cons, List.length_nil] at h
  omega

/-- Keys are paths. -/
def KeysOk (D : DataW Unit) : Prop := ∀ kl, Maps.has D kl = true → ∃ s, kl = Dk.keyD s ∧ Dk.okPath s = true
theorem ok_short {s : ByteArray} (h : Dk.okPath s = true) : s.size ≤ 4096 := by
  unfold Dk.okPath Dk.pathB at h
  simp only [Bool.and_eq_true, Bool.or_eq_true, Bool.not_eq_true', decide_eq_true_eq] at h
  rcases h with ⟨h1 | h1, h2⟩
  · rw [h1] at h2
    cases h2
  · exact h1.1.1
theorem far_kind {D : DataW Unit} (hk : KeysOk D) {t : ByteArray} (h : 4096 < t.size) (hr : (t.toList == [47]) = false) : Dk.kindD D t = 0 := by
  refine Dk.kind_none hr ?_
  rw [Bool.eq_false_iff]
  intro hh
  obtain ⟨s, e, ho⟩ := hk _ hh
  have := ok_short ho
  rw [Dk.keyD_inj e] at h
  omega
theorem od_far {D : DataW Unit} (hk : KeysOk D) {p : List ByteArray} {s : ByteArray} (hp : namesB p = true) (hs : Sc.nameA s.data.toList = true) {k : Nat} (h1 : 409 ≤ k) (h2 : k ≤ p.length) : odK D p s k ≠ 1 := by
  have := odT_size hp hs h2
  unfold odK
  rw [far_kind hk (by rw [app_size, pkgS_size]; omega) (pkg_root _)]
  decide
theorem od_min {D : DataW Unit} (hk : KeysOk D) {p : List ByteArray} {s : ByteArray} (hp : namesB p = true) (hs : Sc.nameA s.data.toList = true) : odN D p s p.length = odN D p s (min p.length 409) := by
  have : ∀ n, n ≤ p.length → odN D p s n = odN D p s (min n 409) := by
    intro n
    induction n with
    | zero => intro _; rfl
    | succ n ih =>
      intro hn
      by_cases h : n + 1 ≤ 409
      · rw [Nat.min_eq_left h]
      · rw [od_miss (od_far hk hp hs (by omega) hn), ih (by omega), Nat.min_eq_right (by omega), Nat.min_eq_right (by omega)]
  exact this _ (Nat.le_refl _)

theorem app_at (t : ByteArray) (i : Nat) (hi : i < 8) : (t ++ pkgS).data[t.size + i]! = pkgS.data[i]! := by
  have h1 : (t ++ pkgS).data = t.data ++ pkgS.data := by
    refine Array.toList_inj.1 ?_
    rw [app_list, Array.toList_append]
  rw [h1]
  have hz : t.data.size = t.size := rfl
  have h8 : pkgS.data.size = 8 := rfl
  rw [getElem!_pos _ _ (by rw [Array.size_append]; omega), getElem!_pos _ _ (by omega), Array.getElem_append_right (by omega)]
  congr 1
  omega
theorem last_pkg (t : ByteArray) : Lib.lastIndexByte (t ++ pkgS) 47 = t.size := by
  have hz : (t ++ pkgS).size = t.size + 8 := by rw [app_size, pkgS_size]
  unfold Lib.lastIndexByte
  rcases Lib.lastIdx_spec (t ++ pkgS) 47 (t ++ pkgS).size with ⟨_, h⟩ | ⟨i, hi, h, h1, h2⟩
  · exfalso
    refine h (t.size + 0) (by omega) ?_
    rw [app_at t 0 (by decide)]
    rfl
  · rw [h]
    by_cases hlt : i < t.size
    · exfalso
      refine h2 (t.size + 0) (by omega) (by omega) ?_
      rw [app_at t 0 (by decide)]
      rfl
    · obtain ⟨j, rfl⟩ : ∃ j, i = t.size + j := ⟨i - t.size, by omega⟩
      have hj : j < 8 := by omega
      rw [app_at t j hj] at h1
      have : j = 0 := by
        have hall : ∀ j, j < 8 → ((pkgS.data[j]!).toNat : Int) = 47 → j = 0 := by decide
        exact hall j hj h1
      subst this
      rfl
theorem parent_pkg {t : ByteArray} (h : 0 < t.size) : Dk.parentOf (t ++ pkgS) = t := by
  unfold Dk.parentOf
  rw [last_pkg, if_neg (by omega)]
  refine bytes_same ?_
  rw [ByteArray.toList_eq, ByteArray.toList_eq]
  have : ((t.size : Int)).toNat = t.size := by omega
  rw [this, Sc.ba_extract, Sc.ba_list, List.drop_zero, app_list, ← list_size, List.take_left]
/-- What has a file is a directory. -/
theorem od_dir {D : DataW Unit} (hS : Dk.Sound D) {t : ByteArray} (h0 : 0 < t.size) (h : Dk.kindD D (t ++ pkgS) = 1) : Dk.kindD D t = 2 := by
  have hh : Maps.has D (Dk.keyD (t ++ pkgS)) = true := by
    cases hx : Maps.has D (Dk.keyD (t ++ pkgS)) with
    | true => rfl
    | false =>
      rw [Dk.kind_none (pkg_root t) hx] at h
      cases h
  have := hS _ hh
  rwa [parent_pkg h0] at this

/-- What a lookup on a disk finds. -/
def odV (D : DataW Unit) (t s : ByteArray) : Option ByteArray := match parseV t.data.toList with
  | some p => if Sc.nameA s.data.toList = true then odN D p s p.length else none
  | none => none
theorem odV_yes {D : DataW Unit} {t s : ByteArray} {p : List ByteArray} (h : parseV t.data.toList = some p) (hs : Sc.nameA s.data.toList = true) : odV D t s = odN D p s p.length := by
  unfold odV
  rw [h]
  simp [hs]
theorem odV_no {D : DataW Unit} {t s : ByteArray} (h : parseV t.data.toList = none ∨ Sc.nameA s.data.toList = false) : odV D t s = none := by
  unfold odV
  rcases h with h | h
  · rw [h]
  · cases parseV t.data.toList with
    | none => rfl
    | some p => simp [h]
/-- The answer. -/
def odA (r : Option ByteArray) : Value := .tuple #[.string (r.getD ⟨#[]⟩), .bool r.isSome]
end Go.Proofs.YtogpkhpephhbiaaGreatDoor
