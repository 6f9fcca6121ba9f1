/- DiskLoads, the second form: of any arguments of bulk at most 1048576 it answers true, and each argument reads as it read before (the tied card). Conditions: the row's own. -/
import Derived.Deep.QuietTactic
import Derived.BigQuiet
import Derived.Deep.RegionHeld3
import Derived.Test.YthijkdphlmogjaaGreatDoorTie
import Derived.Test.YthijkdphlmogjaaGreatDoorCards
import Derived.Test.YthijkdphlmogjaaGreatDoorMg08
namespace Go.Proofs.YthijkdphlmogjaaGreatDoor
open Go.RowKit Go.Maps Go.WideMaps Go.WideElems Go.Sort Go.Shelf
set_option maxRecDepth 100000

theorem Plain.put {D : DataW Unit} (h : Plain D) {s : ByteArray} (c : Bool) (t : ByteArray) (hok : okPath s = true) : Plain (D.put (keyD s) (itemD c t)) := by
  obtain ⟨es, rfl, hr, hf⟩ := h
  have hsub : ∀ p ∈ es.filter (fun p => !p.1.sameKey (keyD s)), ∃ s' c' t', p = (keyD s', itemD c' t') ∧ okPath s' = true ∧ s' ≠ s := by
    intro p hp
    obtain ⟨h1, h2⟩ := List.mem_filter.1 hp
    obtain ⟨s', c', t', rfl, ho⟩ := hf p h1
    refine ⟨s', c', t', rfl, ho, fun e => ?_⟩
    subst e
    rw [Bool.not_eq_true'] at h2
    exact absurd ((sameKey_keyD s' s').2 rfl) (by rw [h2]; decide)
  refine ⟨DataW.insert (keyD s, itemD c t) (es.filter (fun p => !p.1.sameKey (keyD s))), rfl, ?_, fun p hp => ?_⟩
  · refine Go.ChangeMaps.insert_sorted ⟨_, rfl⟩ _ (hr.filter _) (fun p hp => ?_) (fun p hp e => ?_)
    · obtain ⟨s', c', t', rfl, _, _⟩ := hsub p hp
      exact ⟨_, rfl⟩
    · obtain ⟨s', c', t', rfl, _, hne⟩ := hsub p hp
      exact hne (keyD_inj e)
  · rcases Go.ChangeMaps.mem_insert_iff.1 hp with rfl | hp
    · exact ⟨s, c, t, rfl, hok⟩
    · obtain ⟨s', c', t', rfl, ho, _⟩ := hsub p hp
      exact ⟨s', c', t', rfl, ho⟩
theorem plain_new : Plain (loadD []) := ⟨[], rfl, List.Pairwise.nil, fun p hp => by cases hp⟩
theorem plain_load (fs : List Fl) (h : ∀ f ∈ fs, okPath f.1 = true) : Plain (loadD fs) := by
  revert h
  refine snoc_ind (P := fun l => (∀ f ∈ l, okPath f.1 = true) → Plain (loadD l)) (fun _ => plain_new) (fun l f ih h => ?_) fs
  rw [loadD_snoc]
  exact (ih fun g hg => h g (by simp [hg])).put _ _ (h f (by simp))
theorem take_ok {fs : List Fl} {k : Nat} (h : ∀ j (hj : j < fs.length), j < k → okF fs[j] = true ∧ kindD (loadD (fs.take j)) fs[j].1 = 0) : ∀ f ∈ fs.take k, okPath f.1 = true := by
  intro f hf
  obtain ⟨j, hj, rfl⟩ := List.getElem_of_mem hf
  rw [List.length_take] at hj
  rw [List.getElem_take]
  exact okF_path (p := fs[j].1) (c := fs[j].2.1) (t := fs[j].2.2) (h j (by omega) (by omega)).1
theorem len_load (fs : List Fl) (hP : Plain (loadD fs)) (hd : fs.Pairwise fun x y => x.1 ≠ y.1) : (filesD (loadD fs)).length = fs.length := by
  refine List.Perm.length_eq ((List.perm_ext_iff_of_nodup (distinct hP.good.rise) ?_).2 fun f => mem_files_load hd hP.good f)
  exact hd.imp fun {x y} h e => h (by rw [e])
theorem take_apart {fs : List Fl} {k : Nat} (h : ∀ j (hj : j < fs.length), j < k → okF fs[j] = true ∧ kindD (loadD (fs.take j)) fs[j].1 = 0) : (fs.take k).Pairwise fun x y => x.1 ≠ y.1 := by
  refine loads_apart fun i hi => ?_
  have hi' := hi
  rw [List.length_take] at hi'
  rw [List.getElem_take, List.take_take, Nat.min_eq_left (by omega)]
  exact h i (by omega) (by omega)

/-- What the reference's Load answers. -/
def RLoadQ (w : World) (fs : List Fl) (e : Ending) (w' : World) : Prop := Below w.heap.size w w' ∧
  ((Loads fs ∧ e = .returned (.tuple #[.pointer (some ⟨w.heap.size, 0, none⟩), .bool true]) ∧ ∃ lv rv, IsRef w.heap.size w' w.heap.size lv rv (filesD (loadD fs)) [] (-1)) ∨
   (¬ Loads fs ∧ e = .returned (.tuple #[.pointer none, .bool false])))

set_option maxHeartbeats 8000000 in
theorem rLoad_any (fs : List Fl) (a : Option Addr) (cap : Nat) (w : World) (hlen : fs.length ≤ 1048576) (hc : IsFiles w a fs) (hz : ∀ f ∈ fs, f.1.size ≤ maxLen ∧ f.2.2.size ≤ maxLen) :
    Calls Tryz.prog 7 #[.slice a fs.length cap] w (RLoadQ w fs) := by
  have HC := hide3 hc
  have HZ := hide3 hz
  have HN : Hid (IsRef w.heap.size (w.alloc (.cells #[.slice none 0 0, .slice none 0 0, .int .i64 (-1)] 40)) w.heap.size (.slice none 0 0) (.slice none 0 0) [] [] (-1)) := rnew_is (Nat.le_refl _)
  have HB0 := hide3 (alloc_below w (.cells #[.slice none 0 0, .slice none 0 0, .int .i64 (-1)] 40))
  have HNO : Hid (∀ w', ¬ Loads fs → Below w.heap.size w w' → RLoadQ w fs (.returned (.tuple #[.pointer none, .bool false])) w') := fun w' h hb => ⟨hb, Or.inr ⟨h, rfl⟩⟩
  have HYES : Hid (∀ w' lv rv, Loads fs → Below w.heap.size w w' → IsRef w.heap.size w' w.heap.size lv rv (filesD (loadD fs)) [] (-1) → RLoadQ w fs (.returned (.tuple #[.pointer (some ⟨w.heap.size, 0, none⟩), .bool true])) w') := fun w' lv rv h hb hd => ⟨hb, Or.inl ⟨h, rfl, lv, rv, hd⟩⟩
  have HLD : Hid (Loads fs → ∀ i (hi : i < fs.length), okF fs[i] = true ∧ kindD (loadD (fs.take i)) fs[i].1 = 0) := fun h => h.1
  have HLP : Hid (Loads fs → ∀ i (hi : i < fs.length), parentD (loadD fs) fs[i].1 = 0) := fun h => h.2
  have HLI : Hid ((∀ i (hi : i < fs.length), okF fs[i] = true ∧ kindD (loadD (fs.take i)) fs[i].1 = 0) → (∀ i (hi : i < fs.length), parentD (loadD fs) fs[i].1 = 0) → Loads fs) := fun h h' => ⟨h, h'⟩
  clear hc hz
  generalize RLoadQ w fs = HQ at *
  go_enter Tryz.func7, Tryz.ntmps7
  go_wp2_with (go_at_call 15; refine (rNew_walk _).mono ?_; rintro e w1 ⟨rfl, rfl⟩)
  go_loopw [5] (fun i wr => ∃ k : Nat, k ≤ fs.length ∧ i = .int .i64 k ∧ (∃ lv rv, IsRef w.heap.size wr w.heap.size lv rv (filesD (loadD (fs.take k))) [] (-1)) ∧ Below w.heap.size w wr ∧ ∀ j (hj : j < fs.length), j < k → okF fs[j] = true ∧ kindD (loadD (fs.take j)) fs[j].1 = 0) (fun i _ => fs.length - (intOf i).toNat)
  case atStart => exact ⟨0, Nat.zero_le _, rfl, ⟨_, _, HN.out⟩, HB0.out, fun j hj h => absurd h (Nat.not_lt_zero _)⟩
  case round =>
    obtain ⟨k, hk, rfl, ⟨lv, rv, hd⟩, hb, hall⟩ := hrel
    have HD := hide3 hd
    have HB := hide3 hb
    have HA := hide3 hall
    have HPL := hide3 (plain_load _ (take_ok hall))
    have HLE := hide3 (len_load _ HPL.out (take_apart hall))
    clear hd hb hall
    by_cases hlt : k < fs.length
    · obtain ⟨g, off, rfl, hg, hc⟩ : ∃ g off, a = some ⟨g, off, none⟩ ∧ g < w.heap.size ∧ FilesAt w g off fs := by
        rcases HC.out with h | h
        · rw [h] at hlt; exact absurd hlt (Nat.not_lt_zero _)
        · exact h
      obtain ⟨f, hf⟩ : ∃ f, f = fs[k] := ⟨_, rfl⟩
      have HF := hide3 hf
      obtain ⟨p, c, t⟩ := f
      have hcs := hc k hlt
      rw [← hf] at hcs
      obtain ⟨a0, a1, a2⟩ := hcs
      have b0 := (HB.out.cell (p := ⟨g, off + k * 3, none⟩) hg).trans a0
      have b1 := (HB.out.cell (p := ⟨g, off + k * 3 + 1, none⟩) hg).trans a1
      have b2 := (HB.out.cell (p := ⟨g, off + k * 3 + 1 + 1, none⟩) hg).trans a2
      have b2' : wr.cell? ⟨g, off + k * 3 + 2, none⟩ = some (.string t) := b2
      have hzz := HZ.out fs[k] (List.getElem_mem hlt)
      rw [← hf] at hzz
      have HP : Hid (Calls Tryz.prog 25 #[.string p] wr fun e w' => e = .returned (.bool (okPath p)) ∧ w' = wr) := rPath_any p wr hzz.1
      have hl1 : (fs.take k).length ≤ k := by rw [List.length_take]; omega
      have HFI : Hid (Calls Tryz.prog 26 #[.pointer (some ⟨w.heap.size, 0, none⟩), .string p] wr fun e w' => e = .returned (.int .i64 (findD (filesD (loadD (fs.take k))) p)) ∧ w' = wr) := find_any HD.out p (by rw [HLE.out]; omega)
      have HPU : Hid (Calls Tryz.prog 27 #[.pointer (some ⟨w.heap.size, 0, none⟩), .agg #[.string p, .bool c, .string t], .bool false] wr fun e' w' => e' = .returned (.tuple #[]) ∧ AfterR w.heap.size wr w' w.heap.size lv rv (putD (filesD (loadD (fs.take k))) (p, c, t) false) [] (-1)) := put_any HD.out p c t false (by rw [HLE.out]; omega) HB.out.size
      have hki : (k : Int) < (fs.length : Int) := by omega
      clear hf a0 a1 a2 hc hzz
      by_cases hop : okPath p = true
      · have HPP : Hid (putD (filesD (loadD (fs.take k))) (p, c, t) false = filesD (loadD (fs.take (k + 1)))) := by
          unfold Hid
          rw [loadD_take fs k hlt, ← HF.out]
          exact put_files HPL.out.good HPL.out.isMap (HPL.out.put c t hop).good
        rw [HPP.out] at HPU
        rcases find_has HPL.out.good p with ⟨hfd, hha⟩ | ⟨k2, hk2, hfd, hz1, hha, hz2⟩
        · rw [hfd] at HFI
          rw [hop] at HP
          have HK0 : Hid (kindD (loadD (fs.take k)) p = 0) := kind_none (not_root hop) hha
          have HOP := hide3 hop
          clear hfd hha hop
          by_cases hok : okF (p, c, t) = true
          · have HOK := hide3 hok
            have HNX : Hid (∀ w' lv' rv', IsRef w.heap.size w' w.heap.size lv' rv' (filesD (loadD (fs.take (k + 1)))) [] (-1) → Below w.heap.size w w' → (∃ k' : Nat, k' ≤ fs.length ∧ (Value.int .i64 ((k : Int) + 1)) = .int .i64 k' ∧ (∃ lv rv, IsRef w.heap.size w' w.heap.size lv rv (filesD (loadD (fs.take k'))) [] (-1)) ∧ Below w.heap.size w w' ∧ ∀ j (hj : j < fs.length), j < k' → okF fs[j] = true ∧ kindD (loadD (fs.take j)) fs[j].1 = 0)) := fun w' lv' rv' h1 h2 => by
              refine ⟨k + 1, by omega, by simp, ⟨lv', rv', h1⟩, h2, fun j hj hjk => ?_⟩
              by_cases e : j = k
              · subst e
                rw [← HF.out]
                exact ⟨HOK.out, HK0.out⟩
              · exact HA.out j hj (by omega)
            have hdt : c = false ∨ (t.toList == []) = true := by
              unfold okF at hok
              cases c
              · exact Or.inl rfl
              · right
                simp only [Bool.true_and, Bool.not_not, Bool.and_eq_true] at hok
                exact hok.2
            clear hok
            rcases hdt with rfl | hdt
            · go_wp2_with (first
                | (go_at_call 25; refine HP.out.mono ?_; rintro e w2 ⟨rfl, hw2⟩; subst w2)
                | (go_at_call 26; refine HFI.out.mono ?_; rintro e w3 ⟨rfl, hw3⟩; subst w3)
                | (go_at_call 27; refine HPU.out.mono ?_; rintro e w4 ⟨rfl, lv4, rv4, hr4, hu4, _⟩; have HR4 := hide3 hr4; have HB4 := hide3 (HB.out.trans (hu4.below HB.out.size fun i hi => (HD.out.foot_lt hi).2)); clear hr4 hu4))
              exact ⟨HNX.out _ _ _ HR4.out HB4.out, by simp [intOf]; omega⟩
            · cases c
              · go_wp2_with (first
                  | (go_at_call 25; refine HP.out.mono ?_; rintro e w2 ⟨rfl, hw2⟩; subst w2)
                  | (go_at_call 26; refine HFI.out.mono ?_; rintro e w3 ⟨rfl, hw3⟩; subst w3)
                  | (go_at_call 27; refine HPU.out.mono ?_; rintro e w4 ⟨rfl, lv4, rv4, hr4, hu4, _⟩; have HR4 := hide3 hr4; have HB4 := hide3 (HB.out.trans (hu4.below HB.out.size fun i hi => (HD.out.foot_lt hi).2)); clear hr4 hu4))
                exact ⟨HNX.out _ _ _ HR4.out HB4.out, by simp [intOf]; omega⟩
              · go_wp2_with (first
                  | (go_at_call 25; refine HP.out.mono ?_; rintro e w2 ⟨rfl, hw2⟩; subst w2)
                  | (go_at_call 26; refine HFI.out.mono ?_; rintro e w3 ⟨rfl, hw3⟩; subst w3)
                  | (go_at_call 27; refine HPU.out.mono ?_; rintro e w4 ⟨rfl, lv4, rv4, hr4, hu4, _⟩; have HR4 := hide3 hr4; have HB4 := hide3 (HB.out.trans (hu4.below HB.out.size fun i hi => (HD.out.foot_lt hi).2)); clear hr4 hu4))
                exact ⟨HNX.out _ _ _ HR4.out HB4.out, by simp [intOf]; omega⟩
          · have HNL : Hid (¬ Loads fs) := fun h => hok (by have := (HLD.out h k hlt).1; rw [← HF.out] at this; exact this)
            obtain ⟨rfl, hdt⟩ : c = true ∧ (t.toList == []) = false := by
              unfold okF at hok
              have h1 := HOP.out
              cases c
              · exact absurd (by simp [h1]) hok
              · refine ⟨rfl, ?_⟩
                cases ht : (t.toList == [])
                · rfl
                · exact absurd (by simp [h1, ht]) hok
            clear hok
            go_wp2_with (first
              | (go_at_call 25; refine HP.out.mono ?_; rintro e w2 ⟨rfl, hw2⟩; subst w2)
              | (go_at_call 26; refine HFI.out.mono ?_; rintro e w3 ⟨rfl, hw3⟩; subst w3)
              | (go_at_call 27; refine HPU.out.mono ?_; rintro e w4 ⟨rfl, lv4, rv4, hr4, hu4, _⟩; have HR4 := hide3 hr4; have HB4 := hide3 (HB.out.trans (hu4.below HB.out.size fun i hi => (HD.out.foot_lt hi).2)); clear hr4 hu4))
            exact HNO.out _ HNL.out HB.out
        · have HNL : Hid (¬ Loads fs) := fun h => by
            have := (HLD.out h k hlt).2
            rw [← HF.out] at this
            have := kind_none_has this
            rw [hha] at this
            cases this
          rw [hfd] at HFI
          rw [hop] at HP
          clear hfd hha hop hz1 hz2 hk2
          have hk20 : (0 : Int) ≤ (k2 : Int) := by omega
          go_wp2_with (first
            | (go_at_call 25; refine HP.out.mono ?_; rintro e w2 ⟨rfl, hw2⟩; subst w2)
            | (go_at_call 26; refine HFI.out.mono ?_; rintro e w3 ⟨rfl, hw3⟩; subst w3)
            | (go_at_call 27; refine HPU.out.mono ?_; rintro e w4 ⟨rfl, lv4, rv4, hr4, hu4, _⟩; have HR4 := hide3 hr4; have HB4 := hide3 (HB.out.trans (hu4.below HB.out.size fun i hi => (HD.out.foot_lt hi).2)); clear hr4 hu4))
          exact HNO.out _ HNL.out HB.out
      · have HNL : Hid (¬ Loads fs) := fun h => hop (by have := (HLD.out h k hlt).1; rw [← HF.out] at this; exact okF_path this)
        rw [Bool.not_eq_true] at hop
        rw [hop] at HP
        clear hop
        go_wp2_with (first
          | (go_at_call 25; refine HP.out.mono ?_; rintro e w2 ⟨rfl, hw2⟩; subst w2)
          | (go_at_call 26; refine HFI.out.mono ?_; rintro e w3 ⟨rfl, hw3⟩; subst w3)
          | (go_at_call 27; refine HPU.out.mono ?_; rintro e w4 ⟨rfl, lv4, rv4, hr4, hu4, _⟩; have HR4 := hide3 hr4; have HB4 := hide3 (HB.out.trans (hu4.below HB.out.size fun i hi => (HD.out.foot_lt hi).2)); clear hr4 hu4))
        exact HNO.out _ HNL.out HB.out
    · obtain rfl : k = fs.length := by omega
      rw [List.take_length] at HD HPL HLE
      have HA' : Hid (∀ i (hi : i < fs.length), okF fs[i] = true ∧ kindD (loadD (fs.take i)) fs[i].1 = 0) := fun i hi => HA.out i hi hi
      have HME : Hid (∀ f : Fl, f ∈ filesD (loadD fs) ↔ f ∈ fs) := fun f => mem_files_load (loads_apart HA'.out) HPL.out.good f
      have HKD : Hid (∀ s : ByteArray, Calls Tryz.prog 28 #[.pointer (some ⟨w.heap.size, 0, none⟩), .string s] wr fun e w' => e = .returned (.int .i64 (kindD (loadD fs) s)) ∧ w' = wr) := fun s => rKind_any HD.out HPL.out.good s (by rw [HLE.out]; omega)
      clear HA
      obtain ⟨wa, rfl⟩ : ∃ x, x = wr := ⟨wr, rfl⟩
      have hlr := HD.out.lrow
      have hc0 := HD.out.c0
      have hLl : (filesD (loadD fs)).length ≤ 1048576 := by rw [HLE.out]; omega
      have HOK : Hid (∀ f ∈ filesD (loadD fs), okPath f.1 = true) := fun f hf => by
        obtain ⟨i, hi, rfl⟩ := List.getElem_of_mem ((HME.out f).1 hf)
        exact okF_path (HA'.out i hi).1
      obtain ⟨ad, cp, rfl⟩ := row_form hlr
      have HLR := hide3 hlr
      have HFIN : Hid ((∀ f ∈ filesD (loadD fs), kindD (loadD fs) (parentOf f.1) = 2) → Loads fs) := fun h => HLI.out HA'.out fun i hi => by
        have := h _ ((HME.out _).2 (List.getElem_mem hi))
        unfold parentD
        rw [this]
        rfl
      have HNOT : Hid (∀ f ∈ filesD (loadD fs), kindD (loadD fs) (parentOf f.1) ≠ 2 → ¬ Loads fs) := fun f hf hne h => by
        obtain ⟨i, hi, rfl⟩ := List.getElem_of_mem ((HME.out f).1 hf)
        exact hne (parentD_zero (by rw [HLP.out h i hi]; rfl))
      have HYE : Hid (Loads fs → HQ (.returned (.tuple #[.pointer (some ⟨w.heap.size, 0, none⟩), .bool true])) wa) := fun h => HYES.out _ _ _ h HB.out HD.out
      clear hlr HLE HYES HLI HLP HLD HN HB0 HME HD
      generalize filesD (loadD fs) = L at *
      go_wp2
      go_loopw [7] (fun i wr => ∃ j : Nat, j ≤ L.length ∧ i = .int .i64 j ∧ wr = wa ∧ ∀ i (hi : i < L.length), i < j → kindD (loadD fs) (parentOf L[i].1) = 2) (fun i _ => L.length - (intOf i).toNat)
      case atStart => exact ⟨0, Nat.zero_le _, rfl, rfl, fun i hi h => absurd h (Nat.not_lt_zero _)⟩
      case round =>
        obtain ⟨j, hj, rfl, hwr, hpar⟩ := hrel
        subst hwr
        have HPR := hide3 hpar
        clear hpar
        by_cases hlt2 : j < L.length
        · obtain ⟨g2, rfl⟩ := row_shape HLR.out (by omega)
          obtain ⟨c1, _, _⟩ := file_cells HLR.out j hlt2
          have hm2 := List.getElem_mem hlt2
          have hop := HOK.out _ hm2
          have HRP : Hid (Calls Tryz.prog 17 #[.string L[j].1] wr fun e w' => e = .returned (.string (parentOf L[j].1)) ∧ w' = wr) := rParent_any _ wr (okPath_size hop) (okPath_parts hop).2
          have HK2 := hide3 (HKD.out (parentOf L[j].1))
          have hji : (j : Int) < (L.length : Int) := by omega
          by_cases hk2 : kindD (loadD fs) (parentOf L[j].1) = 2
          · have HST : Hid (∀ i (hi : i < L.length), i < j + 1 → kindD (loadD fs) (parentOf L[i].1) = 2) := fun i hi hij => by
              by_cases e : i = j
              · subst e; exact hk2
              · exact HPR.out i hi (by omega)
            rw [hk2] at HK2
            clear hk2 hop hm2
            generalize parentOf L[j].1 = PA at *
            generalize L[j].1 = P0 at *
            go_wp2_with (first
              | (go_at_call 17; refine HRP.out.mono ?_; rintro e w2 ⟨rfl, hw2⟩; subst w2)
              | (go_at_call 28; refine HK2.out.mono ?_; rintro e w3 ⟨rfl, hw3⟩; subst w3))
            exact ⟨⟨j + 1, by omega, by go_num, by trivial, HST.out⟩, by simp [intOf]; omega⟩
          · have HNL := hide3 (HNOT.out _ hm2 hk2)
            have hk3 : (kindD (loadD fs) (parentOf L[j].1) == 2) = false := by simpa using hk2
            clear hk2 hop hm2
            generalize kindD (loadD fs) (parentOf L[j].1) = kk at *
            generalize parentOf L[j].1 = PA at *
            generalize L[j].1 = P0 at *
            go_wp2_with (first
              | (go_at_call 17; refine HRP.out.mono ?_; rintro e w2 ⟨rfl, hw2⟩; subst w2)
              | (go_at_call 28; refine HK2.out.mono ?_; rintro e w3 ⟨rfl, hw3⟩; subst w3))
            exact HNO.out _ HNL.out HB.out
        · obtain rfl : j = L.length := by omega
          go_wp2
          exact HYE.out (HFIN.out fun f hf => by obtain ⟨i, hi, rfl⟩ := List.getElem_of_mem hf; exact HPR.out i hi hi)
end Go.Proofs.YthijkdphlmogjaaGreatDoor
namespace Go.Proofs.YthijkdphlmogjaaGreatDoor
open Go.RowKit
set_option maxRecDepth 100000

theorem below_then {w w1 w' : World} (h : Below w.heap.size w w1) (hb : Below w1.heap.size w1 w') : Below w.heap.size w w' := h.trans (hb.mono h.size)
/-- What stays behind a call that writes new blocks alone. -/
def KeepP (K : World → Prop) : Prop := ∀ w w', K w → Below w.heap.size w w' → K w'
theorem KeepP.and {K M : World → Prop} (hk : KeepP K) (hm : KeepP M) : KeepP fun w => K w ∧ M w := fun _ _ h hb => ⟨hk _ _ h.1 hb, hm _ _ h.2 hb⟩
theorem KeepP.drew {K : World → Prop} (hk : KeepP K) {w : World} (h : K w) : K w.drew := hk _ _ h (Below.refl _ _).drew
theorem keepBelow (w : World) : KeepP fun w1 => Below w.heap.size w w1 := fun _ _ h hb => below_then h hb
def CellK (w : World) (g i : Nat) (v : Value) : Prop := w.cell? ⟨g, i, none⟩ = some v ∧ g < w.heap.size
theorem keepCell (g i : Nat) (v : Value) : KeepP fun w1 => CellK w1 g i v := fun _ _ h hb => ⟨(hb.cell (p := ⟨g, i, none⟩) h.2).trans h.1, Nat.lt_of_lt_of_le h.2 hb.size⟩
theorem liftK {K : World → Prop} (hk : KeepP K) {P : Program} {f : Nat} {args : Array Value} {R : Ending} (h : ∀ w1, Calls P f args w1 fun e w' => e = R ∧ Below w1.heap.size w1 w') (w1 : World) (ok : K w1) :
    Calls P f args w1 fun e w' => e = R ∧ K w' := by
  refine (h w1).mono ?_
  rintro e w' ⟨rfl, hb⟩
  exact ⟨rfl, hk _ _ ok hb⟩
theorem liftK' {K : World → Prop} (hk : KeepP K) {P : Program} {f : Nat} {args : Array Value} {R : Ending} (h : ∀ w1, K w1 → Calls P f args w1 fun e w' => e = R ∧ Below w1.heap.size w1 w') (w1 : World) (ok : K w1) :
    Calls P f args w1 fun e w' => e = R ∧ K w' := by
  refine (h w1 ok).mono ?_
  rintro e w' ⟨rfl, hb⟩
  exact ⟨rfl, hk _ _ ok hb⟩
/-- A region that draws its order, whose operations read, and whose calls keep K: one walk in the order of the text serves. -/
theorem wp_region_keep {K : World → Prop} (hk : KeepP K) {P : Program} {id : Nat} {Q : Exit → Act → World → Prop} {a : Act} {w : World} {l : List Oper} (hm : P.follows .mixedOrders = true) (hB : Region.lexB .any l.toArray = true) (hC : K w)
    (h : ∀ C : World → Prop, (∀ w, K w → C w) → (∀ w, C w → K w) → wpQuiet P l.toArray C (fun a' => ∀ w', C w' → Q .normal a' w') l a) : (Code.region id l.toArray true).wp P Q a w :=
  wp_region_quiet (C := K) hm hB (hk.drew hC) (by simpa using h K (fun _ h => h) (fun _ h => h))
theorem callC {C K : World → Prop} (hin : ∀ w, K w → C w) (hout : ∀ w, C w → K w) (hk : KeepP K) {P : Program} {f : Nat} {args : Array Value} {v : Value} (h : ∀ w1, Calls P f args w1 fun e w' => e = .returned v ∧ Below w1.heap.size w1 w') (w1 : World) (hC : C w1) :
    Calls P f args w1 fun e w' => e = .returned v ∧ C w' := by
  refine (h w1).mono ?_
  rintro e w' ⟨rfl, hb⟩
  exact ⟨rfl, hin _ (hk _ _ (hout _ hC) hb)⟩
theorem callC' {C K : World → Prop} (hin : ∀ w, K w → C w) (hout : ∀ w, C w → K w) (hk : KeepP K) {P : Program} {f : Nat} {args : Array Value} {v : Value} (h : ∀ w1, K w1 → Calls P f args w1 fun e w' => e = .returned v ∧ Below w1.heap.size w1 w') (w1 : World) (hC : C w1) :
    Calls P f args w1 fun e w' => e = .returned v ∧ C w' := by
  refine (h w1 (hout _ hC)).mono ?_
  rintro e w' ⟨rfl, hb⟩
  exact ⟨rfl, hin _ (hk _ _ (hout _ hC) hb)⟩
end Go.Proofs.YthijkdphlmogjaaGreatDoor
namespace Go.Proofs.YthijkdphlmogjaaGreatDoor
open Go.RowKit Go.Maps Go.WideMaps Go.WideElems Go.Sort Go.Shelf
set_option maxRecDepth 100000

theorem IsRef.low {B B' : Nat} {w : World} {e : Nat} {lv rv : Value} {fs : List Fl} {rs : List (Int × ByteArray × ByteArray)} {left : Int} (h : IsRef B' w e lv rv fs rs left) (hB : B ≤ B') : IsRef B w e lv rv fs rs left := by
  have low : ∀ {t : TypeId} {sz : Nat} {v : Value} {n : Nat} {xs : List Value}, w.ownsRow B' t sz v n xs → w.ownsRow B t sz v n xs := fun hr => by
    refine ⟨hr.1, hr.2.imp id ?_⟩
    rintro ⟨g, cap, cur, hv, hg, r⟩
    exact ⟨g, cap, cur, hv, Nat.le_trans hB hg, r⟩
  exact { h with lrow := low h.lrow, rrow := low h.rrow, be := Nat.le_trans hB h.be }

theorem two_start {w w1 w2 : World} {fs : List Fl} {m : Int} (hm : w.cell? ⟨0, 0, none⟩ = some (.int .i64 m)) (hL : Loads fs) (hb1 : Below w.heap.size w w1) (hb2 : Below w1.heap.size w1 w2)
    (hd : ∃ n, n ≤ fs.length ∧ IsDisk w.heap.size w1 (w.heap.size + 1) w.heap.size n (.slice none 0 0) ⟨loadD fs, [], -1⟩) (hr : ∃ lv rv, IsRef w1.heap.size w2 w1.heap.size lv rv (filesD (loadD fs)) [] (-1)) :
    Two w.heap.size w2 (w.heap.size + 1) w1.heap.size ⟨loadD fs, [], -1⟩ m fs.length := by
  obtain ⟨n, hn, hd⟩ := hd
  obtain ⟨lv, rv, hr⟩ := hr
  have hb := below_then hb1 hb2
  refine { ex := ⟨_, n, _, lv, rv, hd.below hb2, hr.low hb1.size, fun j hj hj' => ?_, hn⟩, sound := load_sound hL, len := Nat.zero_le _, lo := (by decide : (-1 : Int) ≤ -1), hi := (by decide : (-1 : Int) ≤ 9223372036854775807), max := cell_below hm hb, base := hb.size, zero := cell_lt hm }
  have h1 := (hd.foot_lt hj).1
  have h2 := (hr.foot_lt hj').2
  omega

set_option maxHeartbeats 12800000 in
theorem loads_walk (w : World) (m : Int) (hm : w.cell? ⟨0, 0, none⟩ = some (.int .i64 m)) (fs : List Fl) (a : Option Addr) (cap : Nat) (a2 : Option Addr) (len2 cap2 : Nat) (hlen : fs.length + len2 ≤ 1048576) (hc : IsFiles w a fs) (hz : ∀ f ∈ fs, f.1.size ≤ maxLen ∧ f.2.2.size ≤ maxLen) (hd2 : IsDeeds w a2 len2) :
    Calls Tryz.prog 3 #[.slice a fs.length cap, .slice a2 len2 cap2] w fun e w' => e = .returned (.bool true) ∧ Below w.heap.size w w' := by
  have HL2 := hide3 hd2
  have HD1 : Hid (Calls Tryz.prog 6 #[.slice a fs.length cap] w (LoadQ w fs)) := Load_any fs a cap m w hm (by omega) hc hz
  have HD2 : Hid (∀ W, Below w.heap.size w W → Calls Tryz.prog 7 #[.slice a fs.length cap] W (RLoadQ W fs)) := fun W hb => rLoad_any fs a cap W (by omega) (hc.below hb) hz
  have HLV : Hid (∀ W, Below w.heap.size w W → Calls Tryz.prog 8 #[] W fun e w' => e = .returned (.bool true) ∧ Below W.heap.size W w') := fun W hb => lives_any W m (cell_below hm hb)
  have HTS : Hid (∀ w1 w2, Loads fs → Below w.heap.size w w1 → Below w1.heap.size w1 w2 → (∃ n, n ≤ fs.length ∧ IsDisk w.heap.size w1 (w.heap.size + 1) w.heap.size n (.slice none 0 0) ⟨loadD fs, [], -1⟩) → (∃ lv rv, IsRef w1.heap.size w2 w1.heap.size lv rv (filesD (loadD fs)) [] (-1)) → Two w.heap.size w2 (w.heap.size + 1) w1.heap.size ⟨loadD fs, [], -1⟩ m fs.length) := fun w1 w2 h h1 h2 h3 h4 => two_start hm h h1 h2 h3 h4
  clear hd2 hc hz hm
  by_cases hL : Loads fs
  · have HLL := hide3 hL
    clear hL
    have hz0 : (((-1 : Int) == 0)) = false := by decide
    go_enter Tryz.func3, Tryz.ntmps3
    go_upto_region 3 with (first
      | (go_at_call 6; refine HD1.out.mono ?_; rintro e w1 ⟨hb1, hq1⟩; obtain ⟨_, rfl, hd1⟩ := hq1.resolve_right (fun h => h.1 HLL.out); have HB1 := hide3 hb1; have HD3 := hide3 (HD2.out w1 hb1); have HDD := hide3 hd1; clear hq1 hd1 hb1)
      | (go_at_call 7; refine HD3.out.mono ?_; rintro e w2 ⟨hb2, hq2⟩; obtain ⟨_, rfl, hr2⟩ := hq2.resolve_right (fun h => h.1 HLL.out); have HB2 := hide3 (below_then HB1.out hb2); have HT0 := hide3 (HTS.out w1 w2 HLL.out HB1.out hb2 HDD.out hr2); clear hq2 hr2 hb2))
    generalize w1.heap.size = ER at *
    obtain ⟨ro, rc, r1, r2, r3⟩ := two_raws HT0.out (by omega)
    obtain ⟨mb0, n0, rv0, lv0, rw0, hdk0, _⟩ := HT0.out.ex
    have HDN : Hid (Calls Tryz.prog 9 #[.pointer (some ⟨w.heap.size + 1, 0, none⟩)] w2 fun e w' => e = .returned (.bool false) ∧ w' = w2) := Down_any hdk0
    have HRW : Hid (Calls Tryz.prog 10 #[.pointer (some ⟨w.heap.size + 1, 0, none⟩)] w2 fun e w' => ∃ ao cp, e = .returned (.slice ao 0 cp) ∧ Below w2.heap.size w2 w') := (r2 w2 (Below.refl _ _)).mono (by rintro e w' ⟨ao, cp, rfl, _, hb⟩; exact ⟨ao, cp, rfl, hb⟩)
    clear r1 r2 r3 hdk0
    go_wp2_with (first
      | (go_at_call 9; refine HDN.out.mono ?_; rintro e w3 ⟨rfl, hw3⟩; subst w3)
      | (go_at_call 10; refine HRW.out.mono ?_; rintro e w4 ⟨ao4, cp4, rfl, hb4⟩; have HT4 := hide3 (HT0.out.below hb4); have HB4 := hide3 (below_then HB2.out hb4); clear hb4))
    clear HD1 HD2 HTS HDN HRW HT0
    go_loopw [9] (fun i wr => ∃ k : Nat, k ≤ len2 ∧ i = .int .i64 k ∧ ∃ x, Two w.heap.size wr (w.heap.size + 1) ER x m (fs.length + k) ∧ Below w.heap.size w wr) (fun i _ => len2 - (intOf i).toNat)
    case atStart => exact ⟨0, Nat.zero_le _, rfl, _, HT4.out, HB4.out⟩
    case round =>
      obtain ⟨k, hk, rfl, x, htw, hbe⟩ := hrel
      have HB := hide3 hbe
      by_cases hlt : k < len2
      · rcases HL2.out with rfl | ⟨g, off, rfl, hg, hl⟩
        · exact absurd hlt (Nat.not_lt_zero _)
        obtain ⟨kd, p, t, u, z, d0, d1, d2, d3, d4, e0, e1, e2, e3, e4, _, e6⟩ := (hl k hlt).below hbe hg
        have hc := asks_any htw (by omega) kd p t u z e2 e3 e4 e0 e1 e6
        clear htw hbe hl
        generalize asksD x (pickD kd 11) p t u z = x1 at *
        go_wp2_with (go_at_call 11; refine hc.mono ?_; rintro e w5 ⟨rfl, h1, hb1⟩)
        exact ⟨⟨k + 1, by omega, by go_num, x1, h1, HB.out.trans hb1⟩, by simp [intOf]; omega⟩
      · obtain ⟨lo, lc, r1, r2, r3⟩ := two_files htw (by omega)
        have q0 := r1 wr (Below.refl _ _)
        have HR1 := hide3 r1
        have HR2 := hide3 (r2 wr.drew (Below.refl _ _).drew)
        have HR3 := hide3 r3
        clear htw hbe r1 r2 r3
        go_wp2_with fail
        go_region_held3 (fun w' => w'.cell? ⟨ER, 0, none⟩ = some (.slice lo (filesD x.D).length lc)) (go_keep)
          (first
            | (go_at_call 13; refine HR2.out.mono ?_; rintro e w6 ⟨ao2, cap2, rfl, hr2, hb2⟩; have HB6 := hide3 ((Below.refl _ wr).drew.trans hb2); have q1 := HR1.out _ HB6.out; have HRW := hide3 hr2; clear hb2 hr2)
            | (go_at_call 12; refine (HR3.out _ _ _ _ HB6.out HRW.out).mono ?_; rintro e w7 ⟨rfl, q, rfl⟩))
        all_goals go_wp2_with (go_at_call 8; refine (HLV.out _ (HB.out.trans ((below_draws HB6.out q).mono HB.out.size))).mono ?_; rintro e w8 ⟨rfl, hb8⟩)
        all_goals
          go_ret
          have hbq := HB.out.trans ((below_draws HB6.out q).mono HB.out.size)
          exact ⟨rfl, below_then hbq hb8⟩
  · have HLL := hide3 hL
    clear hL
    go_enter Tryz.func3, Tryz.ntmps3
    go_wp2_with (first
      | (go_at_call 6; refine HD1.out.mono ?_; rintro e w1 ⟨hb1, hq1⟩; obtain ⟨_, rfl⟩ := hq1.resolve_left (fun h => HLL.out h.1); have HB1 := hide3 hb1; have HD3 := hide3 (HD2.out w1 hb1); clear hq1 hb1)
      | (go_at_call 7; refine HD3.out.mono ?_; rintro e w2 ⟨hb2, hq2⟩; obtain ⟨_, rfl⟩ := hq2.resolve_left (fun h => HLL.out h.1); have HB2 := hide3 (below_then HB1.out hb2); clear hq2 hb2)
      | (go_at_call 8; refine (HLV.out _ HB2.out).mono ?_; rintro e w3 ⟨rfl, hb3⟩))
    go_ret
    exact ⟨rfl, below_then HB2.out hb3⟩
end Go.Proofs.YthijkdphlmogjaaGreatDoor
namespace Go.Proofs.YthijkdphlmogjaaGreatDoor
open Go.ChangeShapes Go.WideShapes Go.ChangeAt Go.RowKit Go.ChangeMaps
set_option maxRecDepth 100000

theorem diskLoads_contract (H : Type) (enc : TypeId × Value → H) (W : World) (base : Nat) (args : Array Value) (ds gs : List (DataW H)) (before : List MemPlace)
    (hval0 : ∀ (j : Nat) t v, Tryz.f3.params[j]? = some t → args[j]? = some v → Value.okWide Tryz.prog W .any base t v)
    (hW : DataW.Whole enc Tryz.prog Tryz.f3.params.toList Rows.diskLoadsSpec.vars false W args.toList ds gs before) (hk : Rows.uptoSmall H (ds ++ gs) = true) (hsh : W.ShapedOpen Tryz.prog) :
    Calls Tryz.prog 3 args W fun e W' => ∃ v, e = .returned v ∧ Rows.diskLoadsSpec.post enc Tryz.prog Tryz.f3 false true false false W args v W' := by
  have hval : ∀ (j : Nat) t v, Tryz.f3.params[j]? = some t → args[j]? = some v → Value.okWide Tryz.prog W .any base t v := hval0
  have hW' := hW
  obtain ⟨p, q, hA0, hV, rfl, _, _⟩ := hW
  have hA : DataW.TrodAll enc Tryz.prog W 0 (fun _ => true) true Tryz.f3.params.toList args.toList ds p := hA0
  rw [Tryz.params3] at hA hval
  obtain ⟨v0, vs0, d0, ds0, p0, q0, hargs, rfl, rfl, h0, r0⟩ := trodAll_cons hA
  obtain ⟨v1, vs1, d1, ds1, p1, q1, rfl, rfl, rfl, h1, r1⟩ := trodAll_cons r0
  obtain ⟨rfl, rfl, rfl⟩ := trodAll_nil r1
  obtain rfl : args = #[v0, v1] := by cases args; simp_all
  obtain ⟨rfl, rfl⟩ := trodVars_none hV
  obtain ⟨a0, len0, cap0, rfl⟩ := okWide_slice Tryz.underlying22 (hval 0 22 v0 rfl rfl)
  have k0 := h0
  have lt0 : ∀ x ∈ p0, x.block < W.heap.size := by obtain ⟨m, hm⟩ := k0; exact DataW.trod_lt m _ _ _ hm
  obtain ⟨fs0, hfl0, hff0, hz0, hln0⟩ : ∃ fs, fs.length = len0 ∧ IsFiles W a0 fs ∧ (∀ f ∈ fs, f.1.size ≤ maxLen ∧ f.2.2.size ≤ maxLen) ∧ (len0 = 0 ∨ ∃ el sp, d0 = .slice el sp ∧ len0 ≤ el.length + sp.length) := by
    obtain ⟨fuel, hf⟩ := h0
    exact open_files (x := (d0, p0)) (by simpa [Value.cells] using hf)
  have hb0 := deeds_bulk hln0
  subst hfl0
  obtain ⟨a1, len1, cap1, rfl⟩ := okWide_slice Tryz.underlying23 (hval 1 23 v1 rfl rfl)
  have k1 := h1
  have lt1 : ∀ x ∈ p1, x.block < W.heap.size := by obtain ⟨m, hm⟩ := k1; exact DataW.trod_lt m _ _ _ hm
  obtain ⟨hdd1, hln1⟩ : IsDeeds W a1 len1 ∧ (len1 = 0 ∨ ∃ el sp, d1 = .slice el sp ∧ len1 ≤ el.length + sp.length) := by
    obtain ⟨fuel, hf⟩ := h1
    exact open_deeds (x := (d1, p1)) (by simpa [Value.cells] using hf)
  have hb1 := deeds_bulk hln1
  have hbulk := of_decide_eq_true hk
  simp only [List.append_nil, Rows.uptoBulkAll] at hbulk
  obtain ⟨m, hm⟩ := max_cell (W := W) hsh
  clear hA0 hval0
  refine (loads_walk W m hm fs0 a0 cap0 a1 len1 cap1 (by omega) hff0 hz0 hdd1).mono fun e W' ⟨he, bel⟩ => ?_
  subst he
  exact ⟨_, rfl, _, _, _, [], _, [], hW', trodAll_mk1 (shut_bool Tryz.underlying4 _), (trodAll_cons_mk (Below.trod laidOut (by kernel_rfl) (of_decide_eq_true (by kernel_rfl)) k0 bel lt0) (trodAll_cons_mk (Below.trod laidOut (by kernel_rfl) (of_decide_eq_true (by kernel_rfl)) k1 bel lt1) trodAll_mk0)), rfl, bel.frame _, fun h => by cases h⟩

theorem diskLoads_reads (os : Os) {H : Type} (enc : TypeId × Value → H) : ∃ places, DataW.whole enc Tryz.prog ((World.laidAll Tryz.prog os Rows.diskLoadsUptoRow.laid).forCall (fun _ _ => 0) ⟨#[], #[.slice none 0 0, .slice none 0 0], []⟩).memory Tryz.f3.params.toList Rows.diskLoadsSpec.vars false (#[.slice none 0 0, .slice none 0 0] : Array Value).toList 8 = some ([.nil, .nil], [], places) :=
  ⟨[], by kernel_rfl⟩

theorem diskLoads_lifted (os : Os) (started : os.Started) (H : Type) (enc : TypeId × Value → H) (F : Stop.Interp) :
    ReturnsInHanded {} Tryz.checked os 3 .any ((Rows.OpenSpec.upto Rows.diskLoadsSpec).preRow enc Tryz.prog Tryz.f3 Rows.diskLoadsUptoRow.domain false Rows.diskLoadsUptoRow.laid) (((Rows.OpenSpec.upto Rows.diskLoadsSpec).at F).post enc Tryz.prog Tryz.f3 false true false false) := by
  obtain ⟨places, hx⟩ := diskLoads_reads os enc
  refine returnsInHanded_of_row (C := Tryz.checked) (s := Rows.OpenSpec.upto Rows.diskLoadsSpec) own started (by kernel_rfl) Tryz.func3
    (witness_row_atRef (enc := enc) (C := Tryz.checked) false (World.laidAll Tryz.prog os Rows.diskLoadsUptoRow.laid) #[.slice none 0 0, .slice none 0 0] (World.laidAll_os _ _ _) (by kernel_rfl) (by kernel_rfl) (by kernel_rfl)
      (OpenSpec.preRow_of_cond 8 hx (by kernel_rfl) (fun k hk => by cases hk; kernel_rfl) (by kernel_rfl) (laidMet_laidAll _ (by kernel_rfl) (by kernel_rfl)))) ?_
  intro W base args ds gs before hval hW _ hcond _ _ hsh _
  exact diskLoads_contract H enc W base args ds gs before hval hW (hcond _ rfl) hsh

theorem diskLoads_said : Rows.DiskLoadsUptoSaid :=
  OpenClaim.holds_of_cond 3 Tryz.f3 rfl rfl rfl rfl rfl rfl rfl ⟨rfl, rfl, rfl, rfl, rfl⟩ rfl rfl rfl rfl rfl (by kernel_rfl) Tryz.func3 (by kernel_rfl)
    (of_decide_eq_true (by kernel_rfl)) (by unfold Func.isWrapper; first | (rw [if_pos (by decide +kernel)]; kernel_rfl) | (rw [if_neg (by decide +kernel)]; exact ⟨rfl, rfl⟩))
    (fun os started H enc _ F => by rw [OpenClaim.pre_eq_preRow]; exact diskLoads_lifted os started H enc F)

theorem diskLoadsUpto_holds : Rows.DiskLoadsUptoCardSaid :=
  Claim7.holds_tied_plain_at .later [] _ _ _ _ diskLoads_said (fun _ h => by cases h) (by kernel_rfl) (fun _ h => by cases h) diskLoadsUpto_row_tie rfl ⟨rfl, rfl⟩ (by kernel_rfl) rfl
    (fun f fn hf hfn => by
      obtain rfl : f = 3 := Option.some.inj ((show Tryz.prog.funcNamed Rows.diskLoadsUptoRow.func = some 3 by kernel_rfl).symm.trans hf) |>.symm
      obtain rfl : fn = Tryz.f3 := (Option.some.inj (Tryz.func3.symm.trans hfn)).symm
      exact ⟨by kernel_rfl, fun j t ht => by
        rw [Tryz.params3] at ht
        have hm : t ∈ [22, 23] := by simpa using Array.mem_of_getElem? ht
        have hall : ([22, 23].all fun u => !Tryz.prog.wantsStandIn u) = true := by kernel_rfl
        exact (show Tryz.prog.wantsStandIn t = false by simpa using List.all_eq_true.1 hall t hm)⟩)
    (by kernel_rfl)
#print axioms diskLoadsUpto_holds
end Go.Proofs.YthijkdphlmogjaaGreatDoor
