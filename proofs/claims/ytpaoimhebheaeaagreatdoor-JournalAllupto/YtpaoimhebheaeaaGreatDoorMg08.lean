/- DdZ, Dx1, Dx2, Im0, Dx3, laid in one text. -/
import Derived.Test.YtpaoimhebheaeaaGreatDoorTie
import Derived.Test.YtpaoimhebheaeaaGreatDoorCards
import Derived.ProofKit
import Derived.OpenShut
import Derived.ChangeOld
import Derived.LaidMore
import Derived.Lay
import Derived.SevenTiedAt
import Derived.Stop.Joined
import Derived.Shelf.Vars
import Derived.Deep.Slices
import Derived.Deep.DeepHandedRow
import Derived.Deep.DeepWitnessRowRef
import Derived.Test.YtpaoimhebheaeaaGreatDoorRows
import Derived.WalkKit
import Derived.WalkSpells
import Derived.WalkLawsBesides
import Derived.Maps.OwnSet
import Derived.Maps.RangeWalk
import Derived.Test.YtpaoimhebheaeaaGreatDoorScA
import Derived.Deep.RegionHeld3
import Derived.Test.YtpaoimhebheaeaaGreatDoorMg07
namespace Go.Proofs.YtpaoimhebheaeaaGreatDoor.Dk
open Go.RowKit Go.Maps Go.WideMaps Go.WideElems Go.Sort Go.Shelf
set_option maxRecDepth 100000
open Go.ChangeShapes Go.WideShapes Go.ChangeAt Go.RowKit
open Go.ChangeShapes Go.WideShapes Go.ChangeAt Go.RowKit Go.ChangeMaps

theorem Plain.put {D : DataW Unit} (h : Plain D) {s : ByteArray} (c : Bool) (t : ByteArray) (hok : okPath s = true) : Plain (D.put (keyD s) (itemD c t)) := by
  obtain ⟨es, rfl, hr, hf⟩ := h
  have hsub : ∀ p ∈ es.filter (fun p => !p.1.sameKey (keyD s)), ∃ s' c' t', p = (keyD s', itemD c' t') ∧ okPath s' = true ∧ s' ≠ s := by
    intro p hp
    obtain ⟨h1, h2⟩ := List.mem_filter.1 hp
    obtain ⟨s', c', t', rfl, ho⟩ := hf p h1
    refine ⟨s', c', t', rfl, ho, fun e => ?_⟩
    subst e
    rw [Bool.not_eq_true'] at h2
    exact absurd ((sameKey_keyD s' s').2 rfl) (by rw [h2]; decide)
  refine ⟨DataW.insert (keyD s, itemD c t) (es.filter (fun p => !p.1.sameKey (keyD s))), rfl, ?_, fun p hp => ?_⟩
  · refine Go.ChangeMaps.insert_sorted ⟨_, rfl⟩ _ (hr.filter _) (fun p hp => ?_) (fun p hp e => ?_)
    · obtain ⟨s', c', t', rfl, _, _⟩ := hsub p hp
      exact ⟨_, rfl⟩
    · obtain ⟨s', c', t', rfl, _, hne⟩ := hsub p hp
      exact hne (keyD_inj e)
  · rcases Go.ChangeMaps.mem_insert_iff.1 hp with rfl | hp
    · exact ⟨s, c, t, rfl, hok⟩
    · obtain ⟨s', c', t', rfl, ho, _⟩ := hsub p hp
      exact ⟨s', c', t', rfl, ho⟩
theorem plain_new : Plain (loadD []) := ⟨[], rfl, List.Pairwise.nil, fun p hp => by cases hp⟩
theorem plain_load (fs : List Fl) (h : ∀ f ∈ fs, okPath f.1 = true) : Plain (loadD fs) := by
  revert h
  refine snoc_ind (P := fun l => (∀ f ∈ l, okPath f.1 = true) → Plain (loadD l)) (fun _ => plain_new) (fun l f ih h => ?_) fs
  rw [loadD_snoc]
  exact (ih fun g hg => h g (by simp [hg])).put _ _ (h f (by simp))
theorem take_ok {fs : List Fl} {k : Nat} (h : ∀ j (hj : j < fs.length), j < k → okF fs[j] = true ∧ kindD (loadD (fs.take j)) fs[j].1 = 0) : ∀ f ∈ fs.take k, okPath f.1 = true := by
  intro f hf
  obtain ⟨j, hj, rfl⟩ := List.getElem_of_mem hf
  rw [List.length_take] at hj
  rw [List.getElem_take]
  exact okF_path (p := fs[j].1) (c := fs[j].2.1) (t := fs[j].2.2) (h j (by omega) (by omega)).1
theorem len_load (fs : List Fl) (hP : Plain (loadD fs)) (hd : fs.Pairwise fun x y => x.1 ≠ y.1) : (filesD (loadD fs)).length = fs.length := by
  refine List.Perm.length_eq ((List.perm_ext_iff_of_nodup (distinct hP.good.rise) ?_).2 fun f => mem_files_load hd hP.good f)
  exact hd.imp fun {x y} h e => h (by rw [e])
theorem take_apart {fs : List Fl} {k : Nat} (h : ∀ j (hj : j < fs.length), j < k → okF fs[j] = true ∧ kindD (loadD (fs.take j)) fs[j].1 = 0) : (fs.take k).Pairwise fun x y => x.1 ≠ y.1 := by
  refine loads_apart fun i hi => ?_
  have hi' := hi
  rw [List.length_take] at hi'
  rw [List.getElem_take, List.take_take, Nat.min_eq_left (by omega)]
  exact h i (by omega) (by omega)

/-- What the reference's Load answers. -/
def RLoadQ (w : World) (fs : List Fl) (e : Ending) (w' : World) : Prop := Below w.heap.size w w' ∧
  ((Loads fs ∧ e = .returned (.tuple #[.pointer (some ⟨w.heap.size, 0, none⟩), .bool true]) ∧ ∃ lv rv, IsRef w.heap.size w' w.heap.size lv rv (filesD (loadD fs)) [] (-1)) ∨
   (¬ Loads fs ∧ e = .returned (.tuple #[.pointer none, .bool false])))

set_option maxHeartbeats 8000000 in
theorem rLoad_any (fs : List Fl) (a : Option Addr) (cap : Nat) (w : World) (hlen : fs.length ≤ 1048576) (hc : IsFiles w a fs) (hz : ∀ f ∈ fs, f.1.size ≤ maxLen ∧ f.2.2.size ≤ maxLen) :
    Calls Tryz.prog 20 #[.slice a fs.length cap] w (RLoadQ w fs) := by
  have HC := hide3 hc
  have HZ := hide3 hz
  have HN : Hid (IsRef w.heap.size (w.alloc (.cells #[.slice none 0 0, .slice none 0 0, .int .i64 (-1)] 49)) w.heap.size (.slice none 0 0) (.slice none 0 0) [] [] (-1)) := rnew_is (Nat.le_refl _)
  have HB0 := hide3 (alloc_below w (.cells #[.slice none 0 0, .slice none 0 0, .int .i64 (-1)] 49))
  have HNO : Hid (∀ w', ¬ Loads fs → Below w.heap.size w w' → RLoadQ w fs (.returned (.tuple #[.pointer none, .bool false])) w') := fun w' h hb => ⟨hb, Or.inr ⟨h, rfl⟩⟩
  have HYES : Hid (∀ w' lv rv, Loads fs → Below w.heap.size w w' → IsRef w.heap.size w' w.heap.size lv rv (filesD (loadD fs)) [] (-1) → RLoadQ w fs (.returned (.tuple #[.pointer (some ⟨w.heap.size, 0, none⟩), .bool true])) w') := fun w' lv rv h hb hd => ⟨hb, Or.inl ⟨h, rfl, lv, rv, hd⟩⟩
  have HLD : Hid (Loads fs → ∀ i (hi : i < fs.length), okF fs[i] = true ∧ kindD (loadD (fs.take i)) fs[i].1 = 0) := fun h => h.1
  have HLP : Hid (Loads fs → ∀ i (hi : i < fs.length), parentD (loadD fs) fs[i].1 = 0) := fun h => h.2
  have HLI : Hid ((∀ i (hi : i < fs.length), okF fs[i] = true ∧ kindD (loadD (fs.take i)) fs[i].1 = 0) → (∀ i (hi : i < fs.length), parentD (loadD fs) fs[i].1 = 0) → Loads fs) := fun h h' => ⟨h, h'⟩
  clear hc hz
  generalize RLoadQ w fs = HQ at *
  go_enter Tryz.func20, Tryz.ntmps20
  go_wp2_with (go_at_call 51; refine (rNew_walk _).mono ?_; rintro e w1 ⟨rfl, rfl⟩)
  go_loopw [5] (fun i wr => ∃ k : Nat, k ≤ fs.length ∧ i = .int .i64 k ∧ (∃ lv rv, IsRef w.heap.size wr w.heap.size lv rv (filesD (loadD (fs.take k))) [] (-1)) ∧ Below w.heap.size w wr ∧ ∀ j (hj : j < fs.length), j < k → okF fs[j] = true ∧ kindD (loadD (fs.take j)) fs[j].1 = 0) (fun i _ => fs.length - (intOf i).toNat)
  case atStart => exact ⟨0, Nat.zero_le _, rfl, ⟨_, _, HN.out⟩, HB0.out, fun j hj h => absurd h (Nat.not_lt_zero _)⟩
  case round =>
    obtain ⟨k, hk, rfl, ⟨lv, rv, hd⟩, hb, hall⟩ := hrel
    have HD := hide3 hd
    have HB := hide3 hb
    have HA := hide3 hall
    have HPL := hide3 (plain_load _ (take_ok hall))
    have HLE := hide3 (len_load _ HPL.out (take_apart hall))
    clear hd hb hall
    by_cases hlt : k < fs.length
    · obtain ⟨g, off, rfl, hg, hc⟩ : ∃ g off, a = some ⟨g, off, none⟩ ∧ g < w.heap.size ∧ FilesAt w g off fs := by
        rcases HC.out with h | h
        · rw [h] at hlt; exact absurd hlt (Nat.not_lt_zero _)
        · exact h
      obtain ⟨f, hf⟩ : ∃ f, f = fs[k] := ⟨_, rfl⟩
      have HF := hide3 hf
      obtain ⟨p, c, t⟩ := f
      have hcs := hc k hlt
      rw [← hf] at hcs
      obtain ⟨a0, a1, a2⟩ := hcs
      have b0 := (HB.out.cell (p := ⟨g, off + k * 3, none⟩) hg).trans a0
      have b1 := (HB.out.cell (p := ⟨g, off + k * 3 + 1, none⟩) hg).trans a1
      have b2 := (HB.out.cell (p := ⟨g, off + k * 3 + 1 + 1, none⟩) hg).trans a2
      have b2' : wr.cell? ⟨g, off + k * 3 + 2, none⟩ = some (.string t) := b2
      have hzz := HZ.out fs[k] (List.getElem_mem hlt)
      rw [← hf] at hzz
      have HP : Hid (Calls Tryz.prog 52 #[.string p] wr fun e w' => e = .returned (.bool (okPath p)) ∧ w' = wr) := rPath_any p wr hzz.1
      have hl1 : (fs.take k).length ≤ k := by rw [List.length_take]; omega
      have HFI : Hid (Calls Tryz.prog 53 #[.pointer (some ⟨w.heap.size, 0, none⟩), .string p] wr fun e w' => e = .returned (.int .i64 (findD (filesD (loadD (fs.take k))) p)) ∧ w' = wr) := find_any HD.out p (by rw [HLE.out]; omega)
      have HPU : Hid (Calls Tryz.prog 54 #[.pointer (some ⟨w.heap.size, 0, none⟩), .agg #[.string p, .bool c, .string t], .bool false] wr fun e' w' => e' = .returned (.tuple #[]) ∧ AfterR w.heap.size wr w' w.heap.size lv rv (putD (filesD (loadD (fs.take k))) (p, c, t) false) [] (-1)) := put_any HD.out p c t false (by rw [HLE.out]; omega) HB.out.size
      have hki : (k : Int) < (fs.length : Int) := by omega
      clear hf a0 a1 a2 hc hzz
      by_cases hop : okPath p = true
      · have HPP : Hid (putD (filesD (loadD (fs.take k))) (p, c, t) false = filesD (loadD (fs.take (k + 1)))) := by
          unfold Hid
          rw [loadD_take fs k hlt, ← HF.out]
          exact put_files HPL.out.good HPL.out.isMap (HPL.out.put c t hop).good
        rw [HPP.out] at HPU
        rcases find_has HPL.out.good p with ⟨hfd, hha⟩ | ⟨k2, hk2, hfd, hz1, hha, hz2⟩
        · rw [hfd] at HFI
          rw [hop] at HP
          have HK0 : Hid (kindD (loadD (fs.take k)) p = 0) := kind_none (not_root hop) hha
          have HOP := hide3 hop
          clear hfd hha hop
          by_cases hok : okF (p, c, t) = true
          · have HOK := hide3 hok
            have HNX : Hid (∀ w' lv' rv', IsRef w.heap.size w' w.heap.size lv' rv' (filesD (loadD (fs.take (k + 1)))) [] (-1) → Below w.heap.size w w' → (∃ k' : Nat, k' ≤ fs.length ∧ (Value.int .i64 ((k : Int) + 1)) = .int .i64 k' ∧ (∃ lv rv, IsRef w.heap.size w' w.heap.size lv rv (filesD (loadD (fs.take k'))) [] (-1)) ∧ Below w.heap.size w w' ∧ ∀ j (hj : j < fs.length), j < k' → okF fs[j] = true ∧ kindD (loadD (fs.take j)) fs[j].1 = 0)) := fun w' lv' rv' h1 h2 => by
              refine ⟨k + 1, by omega, by simp, ⟨lv', rv', h1⟩, h2, fun j hj hjk => ?_⟩
              by_cases e : j = k
              · subst e
                rw [← HF.out]
                exact ⟨HOK.out, HK0.out⟩
              · exact HA.out j hj (by omega)
            have hdt : c = false ∨ (t.toList == []) = true := by
              unfold okF at hok
              cases c
              · exact Or.inl rfl
              · right
                simp only [Bool.true_and, Bool.not_not, Bool.and_eq_true] at hok
                exact hok.2
            clear hok
            rcases hdt with rfl | hdt
            · go_wp2_with (first
                | (go_at_call 52; refine HP.out.mono ?_; rintro e w2 ⟨rfl, hw2⟩; subst w2)
                | (go_at_call 53; refine HFI.out.mono ?_; rintro e w3 ⟨rfl, hw3⟩; subst w3)
                | (go_at_call 54; refine HPU.out.mono ?_; rintro e w4 ⟨rfl, lv4, rv4, hr4, hu4, _⟩; have HR4 := hide3 hr4; have HB4 := hide3 (HB.out.trans (hu4.below HB.out.size fun i hi => (HD.out.foot_lt hi).2)); clear hr4 hu4))
              exact ⟨HNX.out _ _ _ HR4.out HB4.out, by simp [intOf]; omega⟩
            · cases c
              · go_wp2_with (first
                  | (go_at_call 52; refine HP.out.mono ?_; rintro e w2 ⟨rfl, hw2⟩; subst w2)
                  | (go_at_call 53; refine HFI.out.mono ?_; rintro e w3 ⟨rfl, hw3⟩; subst w3)
                  | (go_at_call 54; refine HPU.out.mono ?_; rintro e w4 ⟨rfl, lv4, rv4, hr4, hu4, _⟩; have HR4 := hide3 hr4; have HB4 := hide3 (HB.out.trans (hu4.below HB.out.size fun i hi => (HD.out.foot_lt hi).2)); clear hr4 hu4))
                exact ⟨HNX.out _ _ _ HR4.out HB4.out, by simp [intOf]; omega⟩
              · go_wp2_with (first
                  | (go_at_call 52; refine HP.out.mono ?_; rintro e w2 ⟨rfl, hw2⟩; subst w2)
                  | (go_at_call 53; refine HFI.out.mono ?_; rintro e w3 ⟨rfl, hw3⟩; subst w3)
                  | (go_at_call 54; refine HPU.out.mono ?_; rintro e w4 ⟨rfl, lv4, rv4, hr4, hu4, _⟩; have HR4 := hide3 hr4; have HB4 := hide3 (HB.out.trans (hu4.below HB.out.size fun i hi => (HD.out.foot_lt hi).2)); clear hr4 hu4))
                exact ⟨HNX.out _ _ _ HR4.out HB4.out, by simp [intOf]; omega⟩
          · have HNL : Hid (¬ Loads fs) := fun h => hok (by have := (HLD.out h k hlt).1; rw [← HF.out] at this; exact this)
            obtain ⟨rfl, hdt⟩ : c = true ∧ (t.toList == []) = false := by
              unfold okF at hok
              have h1 := HOP.out
              cases c
              · exact absurd (by simp [h1]) hok
              · refine ⟨rfl, ?_⟩
                cases ht : (t.toList == [])
                · rfl
                · exact absurd (by simp [h1, ht]) hok
            clear hok
            go_wp2_with (first
              | (go_at_call 52; refine HP.out.mono ?_; rintro e w2 ⟨rfl, hw2⟩; subst w2)
              | (go_at_call 53; refine HFI.out.mono ?_; rintro e w3 ⟨rfl, hw3⟩; subst w3)
              | (go_at_call 54; refine HPU.out.mono ?_; rintro e w4 ⟨rfl, lv4, rv4, hr4, hu4, _⟩; have HR4 := hide3 hr4; have HB4 := hide3 (HB.out.trans (hu4.below HB.out.size fun i hi => (HD.out.foot_lt hi).2)); clear hr4 hu4))
            exact HNO.out _ HNL.out HB.out
        · have HNL : Hid (¬ Loads fs) := fun h => by
            have := (HLD.out h k hlt).2
            rw [← HF.out] at this
            have := kind_none_has this
            rw [hha] at this
            cases this
          rw [hfd] at HFI
          rw [hop] at HP
          clear hfd hha hop hz1 hz2 hk2
          have hk20 : (0 : Int) ≤ (k2 : Int) := by omega
          go_wp2_with (first
            | (go_at_call 52; refine HP.out.mono ?_; rintro e w2 ⟨rfl, hw2⟩; subst w2)
            | (go_at_call 53; refine HFI.out.mono ?_; rintro e w3 ⟨rfl, hw3⟩; subst w3)
            | (go_at_call 54; refine HPU.out.mono ?_; rintro e w4 ⟨rfl, lv4, rv4, hr4, hu4, _⟩; have HR4 := hide3 hr4; have HB4 := hide3 (HB.out.trans (hu4.below HB.out.size fun i hi => (HD.out.foot_lt hi).2)); clear hr4 hu4))
          exact HNO.out _ HNL.out HB.out
      · have HNL : Hid (¬ Loads fs) := fun h => hop (by have := (HLD.out h k hlt).1; rw [← HF.out] at this; exact okF_path this)
        rw [Bool.not_eq_true] at hop
        rw [hop] at HP
        clear hop
        go_wp2_with (first
          | (go_at_call 52; refine HP.out.mono ?_; rintro e w2 ⟨rfl, hw2⟩; subst w2)
          | (go_at_call 53; refine HFI.out.mono ?_; rintro e w3 ⟨rfl, hw3⟩; subst w3)
          | (go_at_call 54; refine HPU.out.mono ?_; rintro e w4 ⟨rfl, lv4, rv4, hr4, hu4, _⟩; have HR4 := hide3 hr4; have HB4 := hide3 (HB.out.trans (hu4.below HB.out.size fun i hi => (HD.out.foot_lt hi).2)); clear hr4 hu4))
        exact HNO.out _ HNL.out HB.out
    · obtain rfl : k = fs.length := by omega
      rw [List.take_length] at HD HPL HLE
      have HA' : Hid (∀ i (hi : i < fs.length), okF fs[i] = true ∧ kindD (loadD (fs.take i)) fs[i].1 = 0) := fun i hi => HA.out i hi hi
      have HME : Hid (∀ f : Fl, f ∈ filesD (loadD fs) ↔ f ∈ fs) := fun f => mem_files_load (loads_apart HA'.out) HPL.out.good f
      have HKD : Hid (∀ s : ByteArray, Calls Tryz.prog 32 #[.pointer (some ⟨w.heap.size, 0, none⟩), .string s] wr fun e w' => e = .returned (.int .i64 (kindD (loadD fs) s)) ∧ w' = wr) := fun s => rKind_any HD.out HPL.out.good s (by rw [HLE.out]; omega)
      clear HA
      obtain ⟨wa, rfl⟩ : ∃ x, x = wr := ⟨wr, rfl⟩
      have hlr := HD.out.lrow
      have hc0 := HD.out.c0
      have hLl : (filesD (loadD fs)).length ≤ 1048576 := by rw [HLE.out]; omega
      have HOK : Hid (∀ f ∈ filesD (loadD fs), okPath f.1 = true) := fun f hf => by
        obtain ⟨i, hi, rfl⟩ := List.getElem_of_mem ((HME.out f).1 hf)
        exact okF_path (HA'.out i hi).1
      obtain ⟨ad, cp, rfl⟩ := row_form hlr
      have HLR := hide3 hlr
      have HFIN : Hid ((∀ f ∈ filesD (loadD fs), kindD (loadD fs) (parentOf f.1) = 2) → Loads fs) := fun h => HLI.out HA'.out fun i hi => by
        have := h _ ((HME.out _).2 (List.getElem_mem hi))
        unfold parentD
        rw [this]
        rfl
      have HNOT : Hid (∀ f ∈ filesD (loadD fs), kindD (loadD fs) (parentOf f.1) ≠ 2 → ¬ Loads fs) := fun f hf hne h => by
        obtain ⟨i, hi, rfl⟩ := List.getElem_of_mem ((HME.out f).1 hf)
        exact hne (parentD_zero (by rw [HLP.out h i hi]; rfl))
      have HYE : Hid (Loads fs → HQ (.returned (.tuple #[.pointer (some ⟨w.heap.size, 0, none⟩), .bool true])) wa) := fun h => HYES.out _ _ _ h HB.out HD.out
      clear hlr HLE HYES HLI HLP HLD HN HB0 HME HD
      generalize filesD (loadD fs) = L at *
      go_wp2
      go_loopw [7] (fun i wr => ∃ j : Nat, j ≤ L.length ∧ i = .int .i64 j ∧ wr = wa ∧ ∀ i (hi : i < L.length), i < j → kindD (loadD fs) (parentOf L[i].1) = 2) (fun i _ => L.length - (intOf i).toNat)
      case atStart => exact ⟨0, Nat.zero_le _, rfl, rfl, fun i hi h => absurd h (Nat.not_lt_zero _)⟩
      case round =>
        obtain ⟨j, hj, rfl, hwr, hpar⟩ := hrel
        subst hwr
        have HPR := hide3 hpar
        clear hpar
        by_cases hlt2 : j < L.length
        · obtain ⟨g2, rfl⟩ := row_shape HLR.out (by omega)
          obtain ⟨c1, _, _⟩ := file_cells HLR.out j hlt2
          have hm2 := List.getElem_mem hlt2
          have hop := HOK.out _ hm2
          have HRP : Hid (Calls Tryz.prog 55 #[.string L[j].1] wr fun e w' => e = .returned (.string (parentOf L[j].1)) ∧ w' = wr) := rParent_any _ wr (okPath_size hop) (okPath_parts hop).2
          have HK2 := hide3 (HKD.out (parentOf L[j].1))
          have hji : (j : Int) < (L.length : Int) := by omega
          by_cases hk2 : kindD (loadD fs) (parentOf L[j].1) = 2
          · have HST : Hid (∀ i (hi : i < L.length), i < j + 1 → kindD (loadD fs) (parentOf L[i].1) = 2) := fun i hi hij => by
              by_cases e : i = j
              · subst e; exact hk2
              · exact HPR.out i hi (by omega)
            rw [hk2] at HK2
            clear hk2 hop hm2
            generalize parentOf L[j].1 = PA at *
            generalize L[j].1 = P0 at *
            go_wp2_with (first
              | (go_at_call 55; refine HRP.out.mono ?_; rintro e w2 ⟨rfl, hw2⟩; subst w2)
              | (go_at_call 32; refine HK2.out.mono ?_; rintro e w3 ⟨rfl, hw3⟩; subst w3))
            exact ⟨⟨j + 1, by omega, by go_num, by trivial, HST.out⟩, by simp [intOf]; omega⟩
          · have HNL := hide3 (HNOT.out _ hm2 hk2)
            have hk3 : (kindD (loadD fs) (parentOf L[j].1) == 2) = false := by simpa using hk2
            clear hk2 hop hm2
            generalize kindD (loadD fs) (parentOf L[j].1) = kk at *
            generalize parentOf L[j].1 = PA at *
            generalize L[j].1 = P0 at *
            go_wp2_with (first
              | (go_at_call 55; refine HRP.out.mono ?_; rintro e w2 ⟨rfl, hw2⟩; subst w2)
              | (go_at_call 32; refine HK2.out.mono ?_; rintro e w3 ⟨rfl, hw3⟩; subst w3))
            exact HNO.out _ HNL.out HB.out
        · obtain rfl : j = L.length := by omega
          go_wp2
          exact HYE.out (HFIN.out fun f hf => by obtain ⟨i, hi, rfl⟩ := List.getElem_of_mem hf; exact HPR.out i hi hi)

-- the first variable, 0
theorem max_cell {W : World} (h : W.ShapedOpen Tryz.prog) : ∃ m, W.cell? ⟨0, 0, none⟩ = some (.int .i64 m) :=
  cell_of_shapedOpen_int (t := 3) (zero := #[.int .i64 0]) h (by decide +kernel) (by kernel_rfl) rfl (by kernel_rfl) (by kernel_rfl) Tryz.underlying3

theorem cellsInt : Tryz.prog.cellsOf 3 = 1 := by kernel_rfl
theorem cellsString : Tryz.prog.cellsOf 9 = 1 := by kernel_rfl

theorem take_one {cs : List Value} {o : Nat} {v : Value} (h : (cs.drop o).take 1 = [v]) : cs[o]? = some v := by
  have h0 : ((cs.drop o).take 1)[0]? = some v := by rw [h]; rfl
  simpa using h0

theorem field_at {fs : Array Field} {i ty off : Nat} (h : (fs[i]?).map (fun f => (f.type, f.offset)) = some (ty, off)) : ∃ f, fs[i]? = some f ∧ f.type = ty ∧ f.offset = off := by
  cases hf : fs[i]? with
  | none => rw [hf] at h; cases h
  | some f =>
    rw [hf] at h
    simp only [Option.map_some, Option.some.injEq, Prod.mk.injEq] at h
    exact ⟨f, rfl, h.1, h.2⟩

theorem bulk_pos {H : Type} (d : DataW H) : 1 ≤ Rows.uptoBulk d := by
  cases d with
  | lit l => cases l <;> simp [Rows.uptoBulk]
  | _ => simp [Rows.uptoBulk]
theorem bulk_len {H : Type} : ∀ l : List (DataW H), l.length ≤ Rows.uptoBulkAll l
  | [] => by simp [Rows.uptoBulkAll]
  | d :: r => by
    have h1 := bulk_pos d
    have h2 := bulk_len r
    simp only [Rows.uptoBulkAll, List.length_cons]
    omega
theorem deeds_bulk {H : Type} {d : DataW H} {len : Nat} (h : len = 0 ∨ ∃ el sp, d = .slice el sp ∧ len ≤ el.length + sp.length) : len ≤ Rows.uptoBulk d := by
  rcases h with rfl | ⟨el, sp, rfl, h⟩
  · exact Nat.zero_le _
  · have h1 := bulk_len el
    have h2 := bulk_len sp
    simp only [Rows.uptoBulk]
    omega

theorem cellsFile : Tryz.prog.cellsOf 83 = 3 := by kernel_rfl
theorem cellsBool : Tryz.prog.cellsOf 4 = 1 := by kernel_rfl
theorem file_read {H : Type} {enc : TypeId × Value → H} {W : World} {base : Nat} {spare : Nat → Bool} {held : Bool} {n : Nat} {g o : Nat} {cs : List Value} {x : DataW H × List MemPlace} (hc : W.cells? base ⟨g, o, none⟩ 3 = some cs) (h : DataW.trod enc Tryz.prog W base spare held n 83 cs = some x) :
    ∃ f : Fl, W.cell? ⟨g, o, none⟩ = some (.string f.1) ∧ W.cell? ⟨g, o + 1, none⟩ = some (.bool f.2.1) ∧ W.cell? ⟨g, o + 1 + 1, none⟩ = some (.string f.2.2) ∧ f.1.size ≤ maxLen ∧ f.2.2.size ≤ maxLen := by
  have hs : Tryz.prog.underlying 83 = some (.struct (Tryz.prog.fieldsOf 83)) := by kernel_rfl
  obtain ⟨xs, n', _, _, _, hxl, hf⟩ := DataW.trod_struct hs h
  have hsz : (Tryz.prog.fieldsOf 83).size = 3 := by kernel_rfl
  obtain ⟨_, _, hq⟩ := World.cells?_some hc
  have bools : ∀ i off, ((Tryz.prog.fieldsOf 83)[i]?).map (fun f => (f.type, f.offset)) = some (4, off) → i < 3 → ∃ k, cs[off]? = some (.bool k) := by
    intro i off hfd hi
    obtain ⟨f, h1, h2, h3⟩ := field_at hfd
    have hr := hf i f h1
    rw [h2, h3, cellsBool, List.getElem?_eq_getElem (by omega : i < xs.length)] at hr
    obtain ⟨k, e1, _⟩ := DataW.trod_bool Tryz.underlying4 hr
    exact ⟨k, take_one e1⟩
  have strs : ∀ i off, ((Tryz.prog.fieldsOf 83)[i]?).map (fun f => (f.type, f.offset)) = some (9, off) → i < 3 → ∃ s, cs[off]? = some (.string s) ∧ s.size ≤ maxLen := by
    intro i off hfd hi
    obtain ⟨f, h1, h2, h3⟩ := field_at hfd
    have hr := hf i f h1
    rw [h2, h3, cellsString, List.getElem?_eq_getElem (by omega : i < xs.length)] at hr
    obtain ⟨s, e1, _, ws⟩ := DataW.trod_string Tryz.underlying9 hr
    exact ⟨s, take_one e1, ws⟩
  obtain ⟨p, a0, wp⟩ := strs 0 0 (by kernel_rfl) (by decide)
  obtain ⟨c, a1⟩ := bools 1 1 (by kernel_rfl) (by decide)
  obtain ⟨t, a2, wt⟩ := strs 2 2 (by kernel_rfl) (by decide)
  have ad : ∀ i, (⟨g, o, none⟩ : Addr).add i = ⟨g, o + i, none⟩ := fun i => by unfold Addr.add; split <;> simp_all
  have q0 := hq 0 (by decide)
  have q1 := hq 1 (by decide)
  have q2 := hq 2 (by decide)
  rw [ad] at q0 q1 q2
  exact ⟨(p, c, t), by rw [← a0, ← q0]; rfl, by rw [← a1, ← q1], by rw [← a2, ← q2], wp, wt⟩

/-- A list is made of what lies at each place. -/
theorem list_of {P : Nat → Fl → Prop} : ∀ n, (∀ i, i < n → ∃ f, P i f) → ∃ fs : List Fl, fs.length = n ∧ ∀ i (hi : i < fs.length), P i fs[i]
  | 0, _ => ⟨[], rfl, fun i hi => absurd hi (Nat.not_lt_zero _)⟩
  | n + 1, h => by
    obtain ⟨fs, hl, hp⟩ := list_of n (fun i hi => h i (by omega))
    obtain ⟨f, hf⟩ := h n (by omega)
    refine ⟨fs ++ [f], by simp [hl], fun i hi => ?_⟩
    by_cases e : i < fs.length
    · rw [List.getElem_append_left e]; exact hp i e
    · have : i = fs.length := by simp at hi; omega
      subst this
      rw [List.getElem_append_right (Nat.le_refl _)]
      simp only [Nat.sub_self, List.getElem_cons_zero]
      rw [hl]
      exact hf

end Go.Proofs.YtpaoimhebheaeaaGreatDoor.Dk
namespace Go.Proofs.YtpaoimhebheaeaaGreatDoor
open Go.RowKit Go.Maps Dk
set_option maxRecDepth 100000

/-- A deed: its kind, path and bytes. -/
structure De where
  kd : Int
  pa : ByteArray
  da : ByteArray

/-- What is at a path of a list: its kind and bytes. -/
def atL : List Fl → ByteArray → Int × ByteArray
  | [], _ => (0, ByteArray.empty)
  | x :: r, s => if (x.1.toList == s.toList) = true then (if x.2.1 = true then (2, ByteArray.empty) else (1, x.2.2)) else atL r s
/-- What a file is told as. -/
def toldF (x : Fl) : Int × ByteArray := if x.2.1 = true then (2, ByteArray.empty) else (1, x.2.2)
def kdF (x : Fl) : Int := if x.2.1 = true then 2 else 1
def Apart (L : List Fl) : Prop := L.Pairwise fun x y => x.1 ≠ y.1

theorem atL_none {L : List Fl} {s : ByteArray} (h : ∀ y ∈ L, y.1 ≠ s) : atL L s = (0, ByteArray.empty) := by
  induction L with
  | nil => rfl
  | cons x r ih =>
    unfold atL
    rw [if_neg (fun e => h x List.mem_cons_self (beq_bytes.1 e))]
    exact ih fun y hy => h y (List.mem_cons_of_mem _ hy)
theorem atL_mem {L : List Fl} (hd : Apart L) {y : Fl} (hy : y ∈ L) : atL L y.1 = toldF y := by
  induction L with
  | nil => cases hy
  | cons x r ih =>
    unfold Apart at hd
    rw [List.pairwise_cons] at hd
    unfold atL
    rcases List.mem_cons.1 hy with rfl | hy
    · rw [if_pos (beq_bytes.2 rfl)]; rfl
    · rw [if_neg (fun e => hd.1 y hy (beq_bytes.1 e))]
      exact ih hd.2 hy
theorem atL_cases {L : List Fl} (hd : Apart L) (s : ByteArray) : (∃ y ∈ L, y.1 = s ∧ atL L s = toldF y) ∨ ((∀ y ∈ L, y.1 ≠ s) ∧ atL L s = (0, ByteArray.empty)) := by
  by_cases h : ∃ y ∈ L, y.1 = s
  · obtain ⟨y, hy, rfl⟩ := h
    exact Or.inl ⟨y, hy, rfl, atL_mem hd hy⟩
  · have h' : ∀ y ∈ L, y.1 ≠ s := fun y hy e => h ⟨y, hy, e⟩
    exact Or.inr ⟨h', atL_none h'⟩
theorem atL_same {L M : List Fl} (hL : Apart L) (hM : Apart M) (h : ∀ f, f ∈ L ↔ f ∈ M) (s : ByteArray) : atL L s = atL M s := by
  rcases atL_cases hL s with ⟨y, hy, rfl, e⟩ | ⟨hn, e⟩
  · rw [e, atL_mem hM ((h y).1 hy)]
  · rw [e, atL_none fun y hy => hn y ((h y).2 hy)]
theorem told_kd (x : Fl) : (toldF x).1 = kdF x := by unfold toldF kdF; split <;> rfl

/-- What goes, and what comes, by the document. -/
def wU (M : List Fl) (x : Fl) : Bool := !x.2.1 && !((atL M x.1).1 == 1)
def wR (M : List Fl) (x : Fl) : Bool := x.2.1 && !((atL M x.1).1 == 2)
def wM (L : List Fl) (x : Fl) : Bool := x.2.1 && !((atL L x.1).1 == 2)
def wP (L : List Fl) (x : Fl) : Bool := !x.2.1 && (!((atL L x.1).1 == 1) || !((atL L x.1).2.toList == x.2.2.toList))
def dU (x : Fl) : De := ⟨1, x.1, ByteArray.empty⟩
def dR (x : Fl) : De := ⟨2, x.1, ByteArray.empty⟩
def dM (x : Fl) : De := ⟨3, x.1, ByteArray.empty⟩
def dP (x : Fl) : De := ⟨4, x.1, x.2.2⟩
def lU (M l : List Fl) : List De := (l.filter (wU M)).map dU
def lR (M l : List Fl) : List De := (l.filter (wR M)).map dR
def lM (L l : List Fl) : List De := (l.filter (wM L)).map dM
def lP (L l : List Fl) : List De := (l.filter (wP L)).map dP
/-- The deeds. -/
def deD (L M : List Fl) : List De := lU M L.reverse ++ lR M L.reverse ++ lM L M ++ lP L M

/-- What goes, and what comes, by the program. -/
def wG (M : List Fl) (x : Fl) : Bool := !((atL M x.1).1 == kdF x)
def wC (L : List Fl) (x : Fl) : Bool := !((atL L x.1).1 == kdF x && (atL L x.1).2.toList == x.2.2.toList)
def dG (x : Fl) : De := ⟨kdF x, x.1, ByteArray.empty⟩
def dC (x : Fl) : De := ⟨if x.2.1 = true then 3 else 4, x.1, x.2.2⟩
def lG (M l : List Fl) : List De := (l.filter (wG M)).map dG
def lC (L l : List Fl) : List De := (l.filter (wC L)).map dC

theorem split_perm {l : List Fl} {w a b : Fl → Bool} {f fa fb : Fl → De} (ha : ∀ x ∈ l, a x = (!x.2.1 && w x)) (hb : ∀ x ∈ l, b x = (x.2.1 && w x)) (hfa : ∀ x ∈ l, x.2.1 = false → fa x = f x) (hfb : ∀ x ∈ l, x.2.1 = true → fb x = f x) :
    ((l.filter w).map f).Perm ((l.filter a).map fa ++ (l.filter b).map fb) := by
  induction l with
  | nil => exact List.Perm.refl _
  | cons x r ih =>
    have ih' := ih (fun y hy => ha y (List.mem_cons_of_mem _ hy)) (fun y hy => hb y (List.mem_cons_of_mem _ hy)) (fun y hy => hfa y (List.mem_cons_of_mem _ hy)) (fun y hy => hfb y (List.mem_cons_of_mem _ hy))
    have h1 := ha x List.mem_cons_self
    have h2 := hb x List.mem_cons_self
    rw [List.filter_cons, List.filter_cons, List.filter_cons, h1, h2]
    cases hx : x.2.1 with
    | false =>
      cases hw : w x with
      | false => simpa using ih'
      | true =>
        simp only [Bool.not_false, Bool.and_true, Bool.false_eq_true, if_true, if_false, List.map_cons, List.cons_append]
        rw [hfa x List.mem_cons_self hx]
        exact List.Perm.cons _ ih'
    | true =>
      cases hw : w x with
      | false => simpa using ih'
      | true =>
        simp only [Bool.not_true, Bool.and_true, Bool.false_eq_true, if_true, if_false, List.map_cons]
        rw [hfb x List.mem_cons_self hx]
        exact (List.Perm.cons _ ih').trans List.perm_middle.symm

/-- The order of deeds: by kinds, then by paths, rising or falling. -/
def ltD (up : Bool) (a b : De) : Prop := a.kd < b.kd ∨ (a.kd = b.kd ∧ (if up = true then bytesBefore a.pa.data.toList b.pa.data.toList = true else bytesBefore b.pa.data.toList a.pa.data.toList = true))
theorem ltD_asym {up : Bool} {a b : De} (h : ltD up a b) : ¬ ltD up b a := by
  rintro (h2 | ⟨e2, h2⟩)
  · rcases h with h | ⟨e, _⟩ <;> omega
  · rcases h with h | ⟨e, h⟩
    · omega
    · cases up
      · simp only [Bool.false_eq_true, if_false] at h h2
        rw [before_asymm h] at h2; cases h2
      · simp only [if_true] at h h2
        rw [before_asymm h] at h2; cases h2
theorem ltD_total {up : Bool} {a b : De} (h1 : ¬ ltD up a b) (h2 : ¬ ltD up b a) : a.kd = b.kd ∧ a.pa = b.pa := by
  have hk : a.kd = b.kd := by
    rcases Int.lt_trichotomy a.kd b.kd with h | h | h
    · exact absurd (Or.inl h) h1
    · exact h
    · exact absurd (Or.inl h) h2
  refine ⟨hk, ?_⟩
  by_cases e : a.pa.data.toList = b.pa.data.toList
  · exact bytes_eq e
  · exfalso
    rcases WideAt.bytes_total _ _ e with q | q
    · cases up
      · exact h2 (Or.inr ⟨hk.symm, by simpa using q⟩)
      · exact h1 (Or.inr ⟨hk, by simpa using q⟩)
    · cases up
      · exact h1 (Or.inr ⟨hk, by simpa using q⟩)
      · exact h2 (Or.inr ⟨hk.symm, by simpa using q⟩)

theorem deeds_one {up : Bool} {ts us : List De} (hp : ts.Perm us) (hs : ts.Pairwise fun x y => ¬ ltD up y x) (hu : us.Pairwise (ltD up)) (hone : ∀ a ∈ us, ∀ b ∈ us, a.kd = b.kd → a.pa = b.pa → a = b) : ts = us := by
  refine List.Perm.eq_of_pairwise (le := fun x y => ¬ ltD up y x) (fun a b ha hb h1 h2 => ?_) hs (hu.imp fun h => ltD_asym h) hp
  obtain ⟨hk, hq⟩ := ltD_total h2 h1
  exact hone a (hp.mem_iff.1 ha) b hb hk hq

theorem pair_fall {L : List Fl} (hr : Rising L) {w : Fl → Bool} {f : Fl → De} {k : Int} (hk : ∀ x, (f x).kd = k) (hp : ∀ x, (f x).pa = x.1) : ((L.reverse.filter w).map f).Pairwise (ltD false) := by
  rw [List.pairwise_map]
  refine List.Pairwise.filter _ ?_
  rw [List.pairwise_reverse]
  refine hr.imp fun {x y} h => Or.inr ⟨by rw [hk, hk], ?_⟩
  simp only [Bool.false_eq_true, if_false]
  rw [hp, hp]
  exact h
theorem pair_rise {L : List Fl} (hr : Rising L) {w : Fl → Bool} {f : Fl → De} {k : Int} (hk : ∀ x, (f x).kd = k) (hp : ∀ x, (f x).pa = x.1) : ((L.filter w).map f).Pairwise (ltD true) := by
  rw [List.pairwise_map]
  refine List.Pairwise.filter _ ?_
  refine hr.imp fun {x y} h => Or.inr ⟨by rw [hk, hk], ?_⟩
  simp only [if_true]
  rw [hp, hp]
  exact h

/-- One set of files in two lists: as it was handed in, and in the order of paths. -/
structure Ord (fs L : List Fl) : Prop where
  rise : Rising L
  apart : Apart fs
  mem : ∀ f, f ∈ L ↔ f ∈ fs
  dirs : ∀ f ∈ fs, f.2.1 = true → f.2.2 = ByteArray.empty
theorem Ord.apartL {fs L : List Fl} (h : Ord fs L) : Apart L := rising_apart h.rise
theorem Ord.perm {fs L : List Fl} (h : Ord fs L) : fs.Perm L := (List.perm_ext_iff_of_nodup (h.apart.imp fun {x y} q e => q (by rw [e])) (Dk.distinct h.rise)).2 fun f => (h.mem f).symm
theorem Ord.at {fs L : List Fl} (h : Ord fs L) (s : ByteArray) : atL fs s = atL L s := atL_same h.apart h.apartL (fun f => (h.mem f).symm) s

theorem going_is {fs L gs M V : List Fl} (hL : Ord fs L) (hM : Ord gs M) (hV : V.Perm fs) {ts : List De} (hp : ts.Perm (lG gs V)) (hs : ts.Pairwise fun x y => ¬ ltD false y x) : ts = lU M L.reverse ++ lR M L.reverse := by
  refine deeds_one (up := false) ?_ hs ?_ ?_
  · refine hp.trans ?_
    have h1 : (lG gs V).Perm (lG gs L.reverse) := ((hV.trans (hL.perm.trans (List.reverse_perm L).symm)).filter _).map _
    refine h1.trans ?_
    refine split_perm (fun x hx => ?_) (fun x hx => ?_) (fun x hx h => ?_) (fun x hx h => ?_)
    · unfold wU wG kdF
      rw [hM.at]
      cases x.2.1 <;> rfl
    · unfold wR wG kdF
      rw [hM.at]
      cases x.2.1 <;> rfl
    · unfold dU dG kdF; rw [h]; rfl
    · unfold dR dG kdF; rw [h]; rfl
  · rw [List.pairwise_append]
    refine ⟨pair_fall hL.rise (fun _ => rfl) (fun _ => rfl), pair_fall hL.rise (fun _ => rfl) (fun _ => rfl), fun a ha b hb => Or.inl ?_⟩
    obtain ⟨x, _, rfl⟩ := List.mem_map.1 ha
    obtain ⟨y, _, rfl⟩ := List.mem_map.1 hb
    show (1 : Int) < 2
    omega
  · intro a ha b hb hk hq
    have hd : ∀ c ∈ lU M L.reverse ++ lR M L.reverse, c.da = ByteArray.empty := fun c hc => by
      rcases List.mem_append.1 hc with q | q <;> (obtain ⟨x, _, rfl⟩ := List.mem_map.1 q; rfl)
    obtain ⟨a1, a2, a3⟩ := a
    obtain ⟨b1, b2, b3⟩ := b
    have h1 := hd _ ha
    have h2 := hd _ hb
    simp only at hk hq h1 h2
    rw [hk, hq, h1, h2]

theorem coming_is {fs L gs M V : List Fl} (hL : Ord fs L) (hM : Ord gs M) (hV : V.Perm gs) {ts : List De} (hp : ts.Perm (lC fs V)) (hs : ts.Pairwise fun x y => ¬ ltD true y x) : ts = lM L M ++ lP L M := by
  refine deeds_one (up := true) ?_ hs ?_ ?_
  · refine hp.trans ?_
    have h1 : (lC fs V).Perm (lC fs M) := ((hV.trans hM.perm).filter _).map _
    refine h1.trans (List.Perm.trans ?_ List.perm_append_comm)
    refine split_perm (fun x hx => ?_) (fun x hx => ?_) (fun x hx h => ?_) (fun x hx h => ?_)
    · unfold wP wC kdF
      rw [hL.at]
      cases x.2.1
      · simp only [Bool.not_false, Bool.true_and, Bool.false_eq_true, if_false, Bool.not_and]
      · rfl
    · unfold wM wC kdF
      rw [hL.at]
      cases hx1 : x.2.1
      · rfl
      · have he := hM.dirs x ((hM.mem x).1 hx) hx1
        simp only [Bool.true_and, if_true]
        rcases atL_cases hL.apartL x.1 with ⟨y, hy, e1, e2⟩ | ⟨_, e2⟩
        · rw [e2, he]
          unfold toldF
          cases y.2.1
          · rfl
          · simp
        · rw [e2]; rfl
    · unfold dP dC; rw [h]; rfl
    · unfold dM dC
      rw [h, hM.dirs x ((hM.mem x).1 hx) h]
      rfl
  · rw [List.pairwise_append]
    refine ⟨pair_rise hM.rise (fun _ => rfl) (fun _ => rfl), pair_rise hM.rise (fun _ => rfl) (fun _ => rfl), fun a ha b hb => Or.inl ?_⟩
    obtain ⟨x, _, rfl⟩ := List.mem_map.1 ha
    obtain ⟨y, _, rfl⟩ := List.mem_map.1 hb
    show (3 : Int) < 4
    omega
  · intro a ha b hb hk hq
    rcases List.mem_append.1 ha with ha | ha <;> rcases List.mem_append.1 hb with hb | hb <;> obtain ⟨x, hx, rfl⟩ := List.mem_map.1 ha <;> obtain ⟨y, hy, rfl⟩ := List.mem_map.1 hb
    · have h1 : x.1 = y.1 := hq
      unfold dM; rw [h1]
    · exact absurd (show (3 : Int) = 4 from hk) (by decide)
    · exact absurd (show (4 : Int) = 3 from hk) (by decide)
    · have h1 : x.1 = y.1 := hq
      rw [uniq_key (rising_apart hM.rise) (List.mem_filter.1 hx).1 (List.mem_filter.1 hy).1 h1]
end Go.Proofs.YtpaoimhebheaeaaGreatDoor
namespace Go.Proofs.YtpaoimhebheaeaaGreatDoor
open Go.RowKit Go.Maps Dk
set_option maxRecDepth 100000

def jn : ByteArray := ⟨#[47, 106, 111, 117, 114, 110, 97, 108]⟩
def jS : ByteArray := ⟨#[47, 106, 111, 117, 114, 110, 97, 108, 47]⟩
/-- Is a path the journal's, or below it? -/
def jB (s : ByteArray) : Bool := s.toList == jn.toList || (decide (8 < s.size) && (s.extract 0 9).toList == jS.toList)

theorem ext_list (s : ByteArray) (b : Nat) : (s.extract 0 b).data.toList = s.data.toList.take b := by
  rw [ByteArray.data_extract, Array.toList_extract, List.extract_eq_take_drop]
  simp
theorem ext_ext (s : ByteArray) {a b : Nat} (h : a ≤ b) : (s.extract 0 b).extract 0 a = s.extract 0 a := by
  refine bytes_eq ?_
  rw [ext_list, ext_list, ext_list, List.take_take, Nat.min_eq_left h]

theorem kind_two_has {D : DataW Unit} {s : ByteArray} (h : kindD D s = 2) (hr : (s.toList == [47]) = false) : Maps.has D (keyD s) = true := by
  unfold kindD at h
  rw [if_neg (by rw [hr]; decide)] at h
  cases hh : Maps.has D (keyD s) with
  | true => rfl
  | false => rw [if_neg (by rw [hh]; decide)] at h; cases h

theorem jour_in {D : DataW Unit} (hS : Sound D) (hK : ∀ kl, Maps.has D kl = true → ∃ s, kl = keyD s ∧ okPath s = true) : ∀ (n : Nat) (s : ByteArray), s.size ≤ n → Maps.has D (keyD s) = true → 8 < s.size → s.extract 0 9 = jS → Maps.has D (keyD jn) = true := by
  intro n
  induction n with
  | zero => intro s h1 _ h2 _; omega
  | succ n ih =>
    intro s hs hh h8 he
    obtain ⟨s', e', hok⟩ := hK _ hh
    rw [← keyD_inj e'] at hok
    clear e'
    obtain ⟨i, hi, hl, hc, hn⟩ := last_at (okPath_parts hok).2
    have hlen : s.data.toList.length = s.size := Array.length_toList
    have h47 : s[8] = 47 := by
      have h1 : s.data.toList.take 9 = jS.data.toList := by rw [← ext_list, he]
      have h2 : s.data.toList[8]? = some 47 := by
        rw [← List.getElem?_take_of_lt (show 8 < 9 by omega), h1]; rfl
      rw [List.getElem?_eq_getElem (by omega)] at h2
      have h3 := Option.some.inj h2
      rw [Array.getElem_toList] at h3
      exact h3
    have i8 : 8 ≤ i := by
      by_cases q : 8 ≤ i
      · exact q
      · exact absurd h47 (hn 8 h8 (by omega))
    have hp : parentOf s = s.extract 0 i := by
      unfold parentOf
      rw [hl, if_neg (by omega), Int.toNat_natCast]
    have hk := hS s hh
    rw [hp] at hk
    have hsz : (s.extract 0 i).size = i := by rw [ByteArray.size_extract]; omega
    have hr : ((s.extract 0 i).toList == [47]) = false := by
      rw [Bool.eq_false_iff]
      intro e
      have e1 := congrArg List.length (beq_iff_eq.1 e)
      rw [toList_data, Array.length_toList] at e1
      have : (s.extract 0 i).data.size = i := hsz
      simp at e1
      omega
    have hhas := kind_two_has hk hr
    by_cases q : i = 8
    · subst q
      have : s.extract 0 8 = jn := by
        rw [← ext_ext s (show 8 ≤ 9 by omega), he]
        rfl
      rw [← this]
      exact hhas
    · exact ih _ (by omega) hhas (by omega) (by rw [ext_ext s (by omega)]; exact he)

theorem jn_root : (jn.toList == [47]) = false := by decide +kernel
theorem jour {fs : List Fl} (h : Loads fs) : kindD (loadD fs) jn = 0 ↔ ∀ f ∈ fs, jB f.1 = false := by
  constructor
  · intro hk f hf
    have h0 := kind_none_has hk
    rw [Bool.eq_false_iff]
    intro hj
    have hh : Maps.has (loadD fs) (keyD f.1) = true := (has_load _ _).2 ⟨f, hf, rfl⟩
    unfold jB at hj
    rw [Bool.or_eq_true, Bool.and_eq_true, decide_eq_true_eq] at hj
    rcases hj with hj | ⟨h8, hj⟩
    · rw [beq_bytes.1 hj, h0] at hh; cases hh
    · have := jour_in (load_sound h) (keys_load fs fun g hg => by
        obtain ⟨i, hi, rfl⟩ := List.getElem_of_mem hg
        exact okF_path (h.1 i hi).1) _ f.1 (Nat.le_refl _) hh h8 (beq_bytes.1 hj)
      rw [h0] at this; cases this
  · intro hj
    refine kind_none jn_root ?_
    rw [Bool.eq_false_iff]
    intro hh
    obtain ⟨f, hf, e⟩ := (has_load _ _).1 hh
    have := hj f hf
    unfold jB at this
    rw [e, beq_bytes.2 rfl] at this
    cases this

/-- What may be handed in. -/
def OkJ (fs : List Fl) : Prop := Loads fs ∧ ∀ f ∈ fs, jB f.1 = false
theorem loads_ok {fs : List Fl} (h : Loads fs) : ∀ f ∈ fs, okF f = true := fun f hf => by
  obtain ⟨i, hi, rfl⟩ := List.getElem_of_mem hf
  exact (h.1 i hi).1
theorem loads_plain {fs : List Fl} (h : Loads fs) : Plain (loadD fs) := plain_load fs fun f hf => okF_path (loads_ok h f hf)
theorem ordL {fs : List Fl} (h : Loads fs) : Ord fs (filesD (loadD fs)) :=
  ⟨(loads_plain h).good.rise, loads_apart h.1, fun f => mem_files_load (loads_apart h.1) (loads_plain h).good f, fun f hf hc => by
    have h1 := loads_ok h f hf
    unfold okF at h1
    rw [hc] at h1
    simp only [Bool.true_and, Bool.not_not, Bool.and_eq_true, beq_iff_eq] at h1
    have h2 := h1.2
    rw [toList_data] at h2
    exact bytes_eq h2⟩
end Go.Proofs.YtpaoimhebheaeaaGreatDoor
namespace Go.Proofs.YtpaoimhebheaeaaGreatDoor
open Go.RowKit Go.Maps Go.WideMaps Go.WideElems
set_option maxRecDepth 100000

/-- A file or directory. -/
structure Fi where
  pa : ByteArray
  dr : Bool
  da : ByteArray
def filC (x : Fi) : Value := .agg #[.string x.pa, .bool x.dr, .string x.da]
def encF (x : Fi) : List Value := [.string x.pa, .bool x.dr, .string x.da]
theorem filC_inj {x y : Fi} (h : filC x = filC y) : x = y := by
  unfold filC at h
  simp only [Value.agg.injEq, Array.mk.injEq, List.cons.injEq, Value.string.injEq, Value.bool.injEq, and_true] at h
  cases x
  cases y
  simp only at h
  rw [h.1, h.2.1, h.2.2]
def keyF (s : ByteArray) : Lit := .string s.data.toList
theorem keyF_inj {s t : ByteArray} (h : keyF s = keyF t) : s = t := by
  unfold keyF at h
  injection h with h
  cases s
  cases t
  simp only [ByteArray.mk.injEq]
  exact Array.toList_inj.1 h
theorem isKeyF (s : ByteArray) : WideAt.IsKeyLit (keyF s) := by unfold keyF WideAt.IsKeyLit; trivial
theorem keyedF : Keyed Tryz.prog 9 := string_keyed Tryz.underlying9
theorem keyOfF {s : ByteArray} (hs : s.size ≤ maxLen) : keyOf Tryz.prog 9 (.string s) = some (keyF s) := keyOf_string_mk Tryz.underlying9 hs
/-- What lies in a map is read as itself. -/
def hldR (v : Value) : Option (DataW Value × List MemPlace) := some (.held v, [])

/-- A map of files by their paths. -/
structure MapF (D : DataW Value) (L : List Fi) : Prop where
  map : Maps.IsMap D
  keys : ∀ kl, Maps.has D kl = true → ∃ x ∈ L, kl = keyF x.pa
  has : ∀ x ∈ L, Maps.has D (keyF x.pa) = true ∧ ∀ z, D.atKey (keyF x.pa) z = .held (filC x)
  dist : L.Pairwise fun x y => x.pa ≠ y.pa
theorem MapF.new : MapF (.map []) [] := ⟨⟨[], rfl⟩, (fun kl h => by cases h), (fun x hx => by cases hx), List.Pairwise.nil⟩
open Classical in
/-- A file more, in the place of what had its path. -/
noncomputable def putL (L : List Fi) (x : Fi) : List Fi := x :: L.filter fun y => decide (y.pa ≠ x.pa)
theorem mem_putL {L : List Fi} {x y : Fi} : y ∈ putL L x ↔ y = x ∨ (y ∈ L ∧ y.pa ≠ x.pa) := by
  unfold putL
  rw [List.mem_cons, List.mem_filter, decide_eq_true_eq]
theorem putL_len (L : List Fi) (x : Fi) : (putL L x).length ≤ L.length + 1 := by
  unfold putL
  rw [List.length_cons]
  exact Nat.succ_le_succ (List.length_filter_le _ _)
theorem MapF.put {D : DataW Value} {L : List Fi} (h : MapF D L) (x : Fi) : MapF (D.put (keyF x.pa) (.held (filC x))) (putL L x) := by
  have hm : Maps.IsMap (D.put (keyF x.pa) (.held (filC x))) := by
    obtain ⟨es, rfl⟩ := h.map
    exact ⟨_, rfl⟩
  refine ⟨hm, fun kl hk => ?_, fun y hy => ?_, ?_⟩
  · by_cases e : kl = keyF x.pa
    · exact ⟨x, mem_putL.2 (Or.inl rfl), e⟩
    · rw [Maps.has_put_other e] at hk
      obtain ⟨y, hy, rfl⟩ := h.keys kl hk
      exact ⟨y, mem_putL.2 (Or.inr ⟨hy, fun q => e (by rw [q])⟩), rfl⟩
  · rcases mem_putL.1 hy with rfl | ⟨hy, hne⟩
    · exact ⟨Maps.has_put_same h.map (isKeyF _) _, fun z => Maps.atKey_put_same h.map (isKeyF _) _ z⟩
    · have hk : keyF y.pa ≠ keyF x.pa := fun e => hne (keyF_inj e)
      rw [Maps.has_put_other hk]
      exact ⟨(h.has y hy).1, fun z => by rw [Maps.atKey_put_other hk]; exact (h.has y hy).2 z⟩
  · unfold putL
    rw [List.pairwise_cons]
    refine ⟨fun y hy => ?_, h.dist.filter _⟩
    have := (List.mem_filter.1 hy).2
    rw [decide_eq_true_eq] at this
    exact fun e => this e.symm

/-- While a map is gone through: V came, U is to come. -/
def GoneF (L V U : List Fi) (left : Lit → Bool) : Prop := (V ++ U).Perm L ∧ (∀ x ∈ U, left (keyF x.pa) = true) ∧ ∀ kl, left kl = true → ∃ x ∈ U, kl = keyF x.pa
theorem same_litF {x : Fi} {kl : Lit} (h : (keyF x.pa).sameKey kl = true) : kl = keyF x.pa := by
  unfold keyF at *
  cases kl <;> simp [Lit.sameKey] at h
  rw [h]
theorem same_selfF (x : Fi) : (keyF x.pa).sameKey (keyF x.pa) = true := by simp [keyF, Lit.sameKey]
theorem GoneF.start {D : DataW Value} {L : List Fi} (h : MapF D L) : GoneF L [] L (Maps.has D) := ⟨List.Perm.refl _, fun x hx => (h.has x hx).1, h.keys⟩
theorem GoneF.step {L V U : List Fi} {left : Lit → Bool} (h : GoneF L V U left) (hL : L.Pairwise fun x y => x.pa ≠ y.pa) {x : Fi} (hx : x ∈ U) : ∃ U', GoneF L (V ++ [x]) U' (fun z => left z && !z.sameKey (keyF x.pa)) := by
  obtain ⟨hp, h1, h2⟩ := h
  obtain ⟨U1, U2, rfl⟩ := List.append_of_mem hx
  refine ⟨U1 ++ U2, ?_, fun y hy => ?_, fun kl hk => ?_⟩
  · refine List.Perm.trans ?_ hp
    rw [List.append_assoc]
    refine List.Perm.append_left V ?_
    exact (List.perm_middle (a := x) (l₁ := U1) (l₂ := U2)).symm
  · have hpw : (V ++ (U1 ++ x :: U2)).Pairwise fun x y => x.pa ≠ y.pa := (hp.pairwise_iff (fun q e => q e.symm)).2 hL
    have hu := (List.pairwise_append.1 hpw).2.1
    have hu2 := (List.perm_middle.pairwise_iff (fun q e => q e.symm)).1 hu
    have hne : x.pa ≠ y.pa := (List.pairwise_cons.1 hu2).1 y hy
    have hy' : y ∈ U1 ++ x :: U2 := by
      rcases List.mem_append.1 hy with q | q
      · exact List.mem_append_left _ q
      · exact List.mem_append_right _ (List.mem_cons_of_mem _ q)
    show (left (keyF y.pa) && !(keyF y.pa).sameKey (keyF x.pa)) = true
    rw [h1 y hy', Bool.true_and, Bool.not_eq_true']
    cases hs : (keyF y.pa).sameKey (keyF x.pa) with
    | false => rfl
    | true => exact absurd (keyF_inj (same_litF hs)) hne
  · rw [Bool.and_eq_true, Bool.not_eq_true'] at hk
    obtain ⟨y, hy, rfl⟩ := h2 kl hk.1
    rcases List.mem_append.1 hy with q | q
    · exact ⟨y, List.mem_append_left _ q, rfl⟩
    · rcases List.mem_cons.1 q with rfl | q
      · rw [same_selfF] at hk; exact absurd hk.2 (by decide)
      · exact ⟨y, List.mem_append_right _ q, rfl⟩
theorem GoneF.done {L V U : List Fi} {left : Lit → Bool} (h : GoneF L V U left) (hl : ∀ kl, left kl = false) : V.Perm L := by
  have : U = [] := by
    cases U with
    | nil => rfl
    | cons x U =>
      have := h.2.1 x List.mem_cons_self
      rw [hl] at this
      cases this
  subst this
  have := h.1
  rwa [List.append_nil] at this
end Go.Proofs.YtpaoimhebheaeaaGreatDoor
namespace Go.Proofs.YtpaoimhebheaeaaGreatDoor
open Go.RowKit Go.Maps Go.WideMaps Go.WideElems Dk
set_option maxRecDepth 100000

def fi (x : Fl) : Fi := ⟨x.1, x.2.1, x.2.2⟩
/-- A map of files lies there. -/
def MapAt (w : World) (mb n : Nat) (D : DataW Value) (V : List Fl) : Prop := w.ownsMap Tryz.prog 9 hldR mb n D ∧ MapF D (V.map fi)
theorem MapAt.below {w w' : World} {mb n : Nat} {D : DataW Value} {V : List Fl} (h : MapAt w mb n D V) (hb : Below w.heap.size w w') : MapAt w' mb n D V := by
  refine ⟨?_, h.2⟩
  have hl := h.1.lt
  obtain ⟨es, clock, hbk, r⟩ := h.1
  exact ⟨es, clock, by rw [hb.block mb hl]; exact hbk, r⟩
theorem zeroFi (w : World) : (zeroValue 83).run Tryz.prog w = .ok (.agg #[.string ⟨#[]⟩, .bool false, .string ⟨#[]⟩]) w := by kernel_rfl
theorem hldR_inv {v u : Value} {ps : List MemPlace} (h : hldR v = some (.held u, ps)) : v = u := by
  unfold hldR at h
  injection h with h
  injection h with h _
  injection h
theorem look_yes {w : World} {mb n : Nat} {D : DataW Value} {V : List Fl} (h : MapAt w mb n D V) {y : Fl} (hy : y ∈ V) (hs : y.1.size ≤ maxLen) :
    (Instr.lookup 75 (.map (some mb)) (.string y.1) true).run Tryz.prog w = .ok (.tuple #[.agg #[.string y.1, .bool y.2.1, .string y.2.2], .bool true]) w ∧
    (Instr.lookup 75 (.map (some mb)) (.string y.1) false).run Tryz.prog w = .ok (.agg #[.string y.1, .bool y.2.1, .string y.2.2]) w := by
  have hm := h.2.has (fi y) (List.mem_map.2 ⟨y, hy, rfl⟩)
  constructor
  · obtain ⟨v, ps, h1, h2⟩ := h.1.look_ok keyedF Tryz.underlying75 (zeroFi w) (zd := .held (.agg #[.string ⟨#[]⟩, .bool false, .string ⟨#[]⟩])) (zp := []) rfl (keyOfF hs)
    rw [show keyF y.1 = keyF (fi y).pa from rfl, hm.2] at h2
    rw [show keyF y.1 = keyF (fi y).pa from rfl, hm.1] at h1
    rw [h1, hldR_inv h2]; rfl
  · obtain ⟨v, ps, h1, h2⟩ := h.1.lookup keyedF Tryz.underlying75 (zeroFi w) (zd := .held (.agg #[.string ⟨#[]⟩, .bool false, .string ⟨#[]⟩])) (zp := []) rfl (keyOfF hs)
    rw [show keyF y.1 = keyF (fi y).pa from rfl, hm.2] at h2
    rw [h1, hldR_inv h2]; rfl
theorem look_no {w : World} {mb n : Nat} {D : DataW Value} {V : List Fl} (h : MapAt w mb n D V) {s : ByteArray} (hn : ∀ y ∈ V, y.1 ≠ s) (hs : s.size ≤ maxLen) :
    (Instr.lookup 75 (.map (some mb)) (.string s) true).run Tryz.prog w = .ok (.tuple #[.agg #[.string ⟨#[]⟩, .bool false, .string ⟨#[]⟩], .bool false]) w ∧
    (Instr.lookup 75 (.map (some mb)) (.string s) false).run Tryz.prog w = .ok (.agg #[.string ⟨#[]⟩, .bool false, .string ⟨#[]⟩]) w := by
  have hm : Maps.has D (keyF s) = false := by
    rw [Bool.eq_false_iff]
    intro q
    obtain ⟨x, hx, e⟩ := h.2.keys _ q
    obtain ⟨y, hy, rfl⟩ := List.mem_map.1 hx
    exact hn y hy (keyF_inj e).symm
  constructor
  · obtain ⟨v, ps, h1, h2⟩ := h.1.look_ok keyedF Tryz.underlying75 (zeroFi w) (zd := .held (.agg #[.string ⟨#[]⟩, .bool false, .string ⟨#[]⟩])) (zp := []) rfl (keyOfF hs)
    rw [atKey_of_not_has hm] at h2
    rw [hm] at h1
    rw [h1, hldR_inv h2]
  · obtain ⟨v, ps, h1, h2⟩ := h.1.lookup keyedF Tryz.underlying75 (zeroFi w) (zd := .held (.agg #[.string ⟨#[]⟩, .bool false, .string ⟨#[]⟩])) (zp := []) rfl (keyOfF hs)
    rw [atKey_of_not_has hm] at h2
    rw [h1, hldR_inv h2]

theorem strClone_any (s : ByteArray) (hs : s.size ≤ 281474976710656) (w : World) : Calls Tryz.prog 90 #[.string s] w fun e w' => e = .returned (.string s) ∧ Below w.heap.size w w' := by
  have HC := hide3 (Tryz.stringslite_Clone s w hs)
  go_enter Tryz.func90, Tryz.ntmps90
  go_wp2_with (go_at_call 120; refine HC.out.mono ?_; rintro e w1 ⟨rfl, hb⟩; have HB := hide3 hb; clear hb)
  go_ret
  exact ⟨rfl, HB.out⟩

set_option maxHeartbeats 800000 in
theorem kindOf_any (p : ByteArray) (c : Bool) (t : ByteArray) (a b : Int) (w : World) :
    Calls Tryz.prog 89 #[.agg #[.string p, .bool c, .string t], .int .i64 a, .int .i64 b] w fun e w' => e = .returned (.int .i64 (if c = true then b else a)) ∧ Below w.heap.size w w' := by
  have HB : Hid (Below w.heap.size w (w.alloc (.cells #[.string p, .bool c, .string t] 83))) := (Below.refl _ _).alloc (Nat.le_refl _) _
  cases c
  · go_enter Tryz.func89, Tryz.ntmps89
    go_wp2
    go_ret
    exact ⟨rfl, HB.out⟩
  · go_enter Tryz.func89, Tryz.ntmps89
    go_wp2
    go_ret
    exact ⟨rfl, HB.out⟩

/-- The cells of a deed. -/
def encE (x : De) : List Value := [.int .i64 x.kd, .string x.pa, .string x.da]

def OwnDe (w : World) (B : Nat) (v : Value) (ds : List De) : Prop := w.ownsRow B 54 3 v ds.length (ds.flatMap encE)
theorem encE_len (ds : List De) : (ds.flatMap encE).length = ds.length * 3 := by
  induction ds with
  | nil => rfl
  | cons x ds ih => rw [List.flatMap_cons, List.length_append, ih, List.length_cons]; simp [encE]; omega
theorem infoDe : (Tryz.prog.info? 54).map (fun i => (i.zero, i.size, i.bytes)) = some (some (.agg #[.int .i64 0, .string ⟨#[]⟩, .string ⟨#[]⟩]), 3, 40) := by kernel_rfl
theorem OwnDe.nil (w : World) (B : Nat) : OwnDe w B (.slice none 0 0) [] := ⟨rfl, Or.inl ⟨rfl, rfl⟩⟩

theorem lG_snoc (M l : List Fl) (x : Fl) : lG M (l ++ [x]) = lG M l ++ (if wG M x = true then [dG x] else []) := by
  unfold lG
  rw [List.filter_append, List.map_append]
  congr 1
  cases h : wG M x <;> simp [h]
theorem lC_snoc (M l : List Fl) (x : Fl) : lC M (l ++ [x]) = lC M l ++ (if wC M x = true then [dC x] else []) := by
  unfold lC
  rw [List.filter_append, List.map_append]
  congr 1
  cases h : wC M x <;> simp [h]

theorem fi_inj {x y : Fl} (h : fi x = fi y) : x = y := by
  obtain ⟨a, b, c⟩ := x
  obtain ⟨d, e, f⟩ := y
  unfold fi at h
  simp only [Fi.mk.injEq] at h
  rw [h.1, h.2.1, h.2.2]
/-- A list of files in the map's form comes from a list of files. -/
theorem of_fi {V U : List Fi} {L : List Fl} (h : (V ++ U).Perm (L.map fi)) : ∃ X Y : List Fl, V = X.map fi ∧ U = Y.map fi := by
  have hex : ∀ (Z : List Fi), (∀ x ∈ Z, ∃ y, x = fi y) → ∃ X : List Fl, Z = X.map fi := by
    intro Z
    induction Z with
    | nil => intro _; exact ⟨[], rfl⟩
    | cons x Z ih =>
      intro hz
      obtain ⟨y, rfl⟩ := hz x List.mem_cons_self
      obtain ⟨X, rfl⟩ := ih fun q hq => hz q (List.mem_cons_of_mem _ hq)
      exact ⟨y :: X, rfl⟩
  have hm : ∀ x ∈ V ++ U, ∃ y, x = fi y := fun x hx => by
    obtain ⟨y, _, e⟩ := List.mem_map.1 (h.mem_iff.1 hx)
    exact ⟨y, e.symm⟩
  obtain ⟨X, hX⟩ := hex V fun x hx => hm x (List.mem_append_left _ hx)
  obtain ⟨Y, hY⟩ := hex U fun x hx => hm x (List.mem_append_right _ hx)
  exact ⟨X, Y, hX, hY⟩
theorem perm_fi {X L : List Fl} (h : (X.map fi).Perm (L.map fi)) : X.Perm L := by
  have hid : ∀ l : List Fl, (l.map fi).map (fun x : Fi => ((x.pa, x.dr, x.da) : Fl)) = l := fun l => by
    rw [List.map_map]
    exact List.map_id _
  have := h.map (fun x : Fi => ((x.pa, x.dr, x.da) : Fl))
  rwa [hid, hid] at this
end Go.Proofs.YtpaoimhebheaeaaGreatDoor
