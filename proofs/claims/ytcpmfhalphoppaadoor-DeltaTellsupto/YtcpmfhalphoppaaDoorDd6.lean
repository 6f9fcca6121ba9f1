/- Dd: pieces of Ld3, Row1, DkU, DkF. -/
import Derived.Test.YtcpmfhalphoppaaDoorTie
import Derived.Test.YtcpmfhalphoppaaDoorCards
import Derived.ProofKit
import Derived.OpenShut
import Derived.ChangeOld
import Derived.LaidMore
import Derived.Lay
import Derived.SevenTiedAt
import Derived.Stop.Joined
import Derived.Shelf.Vars
import Derived.Deep.Slices
import Derived.Deep.DeepHandedRow
import Derived.Deep.DeepWitnessRowRef
import Derived.Test.YtcpmfhalphoppaaDoorDd5
namespace Go.Proofs.YtcpmfhalphoppaaDoor.Dk
open Go.RowKit Go.Maps Go.WideMaps Go.WideElems Go.Sort Go.Shelf
set_option maxRecDepth 100000
open Go.ChangeShapes Go.WideShapes Go.ChangeAt Go.RowKit
open Go.ChangeShapes Go.WideShapes Go.ChangeAt Go.RowKit Go.ChangeMaps

set_option maxHeartbeats 8000000 in
theorem rLoad_any (fs : List Fl) (a : Option Addr) (cap : Nat) (w : World) (hlen : fs.length ≤ 1048576) (hc : IsFiles w a fs) (hz : ∀ f ∈ fs, f.1.size ≤ maxLen ∧ f.2.2.size ≤ maxLen) :
    Calls Tryd.prog 14 #[.slice a fs.length cap] w (RLoadQ w fs) := by
  have HC := hide3 hc
  have HZ := hide3 hz
  have HN : Hid (IsRef w.heap.size (w.alloc (.cells #[.slice none 0 0, .slice none 0 0, .int .i64 (-1)] 46)) w.heap.size (.slice none 0 0) (.slice none 0 0) [] [] (-1)) := rnew_is (Nat.le_refl _)
  have HB0 := hide3 (alloc_below w (.cells #[.slice none 0 0, .slice none 0 0, .int .i64 (-1)] 46))
  have HNO : Hid (∀ w', ¬ Loads fs → Below w.heap.size w w' → RLoadQ w fs (.returned (.tuple #[.pointer none, .bool false])) w') := fun w' h hb => ⟨hb, Or.inr ⟨h, rfl⟩⟩
  have HYES : Hid (∀ w' lv rv, Loads fs → Below w.heap.size w w' → IsRef w.heap.size w' w.heap.size lv rv (filesD (loadD fs)) [] (-1) → RLoadQ w fs (.returned (.tuple #[.pointer (some ⟨w.heap.size, 0, none⟩), .bool true])) w') := fun w' lv rv h hb hd => ⟨hb, Or.inl ⟨h, rfl, lv, rv, hd⟩⟩
  have HLD : Hid (Loads fs → ∀ i (hi : i < fs.length), okF fs[i] = true ∧ kindD (loadD (fs.take i)) fs[i].1 = 0) := fun h => h.1
  have HLP : Hid (Loads fs → ∀ i (hi : i < fs.length), parentD (loadD fs) fs[i].1 = 0) := fun h => h.2
  have HLI : Hid ((∀ i (hi : i < fs.length), okF fs[i] = true ∧ kindD (loadD (fs.take i)) fs[i].1 = 0) → (∀ i (hi : i < fs.length), parentD (loadD fs) fs[i].1 = 0) → Loads fs) := fun h h' => ⟨h, h'⟩
  clear hc hz
  generalize RLoadQ w fs = HQ at *
  go_enter Tryd.func14, Tryd.ntmps14
  go_wp2_with (go_at_call 26; refine (rNew_walk _).mono ?_; rintro e w1 ⟨rfl, rfl⟩)
  go_loopw [5] (fun i wr => ∃ k : Nat, k ≤ fs.length ∧ i = .int .i64 k ∧ (∃ lv rv, IsRef w.heap.size wr w.heap.size lv rv (filesD (loadD (fs.take k))) [] (-1)) ∧ Below w.heap.size w wr ∧ ∀ j (hj : j < fs.length), j < k → okF fs[j] = true ∧ kindD (loadD (fs.take j)) fs[j].1 = 0) (fun i _ => fs.length - (intOf i).toNat)
  case atStart => exact ⟨0, Nat.zero_le _, rfl, ⟨_, _, HN.out⟩, HB0.out, fun j hj h => absurd h (Nat.not_lt_zero _)⟩
  case round =>
    obtain ⟨k, hk, rfl, ⟨lv, rv, hd⟩, hb, hall⟩ := hrel
    have HD := hide3 hd
    have HB := hide3 hb
    have HA := hide3 hall
    have HPL := hide3 (plain_load _ (take_ok hall))
    have HLE := hide3 (len_load _ HPL.out (take_apart hall))
    clear hd hb hall
    by_cases hlt : k < fs.length
    · obtain ⟨g, off, rfl, hg, hc⟩ : ∃ g off, a = some ⟨g, off, none⟩ ∧ g < w.heap.size ∧ FilesAt w g off fs := by
        rcases HC.out with h | h
        · rw [h] at hlt; exact absurd hlt (Nat.not_lt_zero _)
        · exact h
      obtain ⟨f, hf⟩ : ∃ f, f = fs[k] := ⟨_, rfl⟩
      have HF := hide3 hf
      obtain ⟨p, c, t⟩ := f
      have hcs := hc k hlt
      rw [← hf] at hcs
      obtain ⟨a0, a1, a2⟩ := hcs
      have b0 := (HB.out.cell (p := ⟨g, off + k * 3, none⟩) hg).trans a0
      have b1 := (HB.out.cell (p := ⟨g, off + k * 3 + 1, none⟩) hg).trans a1
      have b2 := (HB.out.cell (p := ⟨g, off + k * 3 + 1 + 1, none⟩) hg).trans a2
      have b2' : wr.cell? ⟨g, off + k * 3 + 2, none⟩ = some (.string t) := b2
      have hzz := HZ.out fs[k] (List.getElem_mem hlt)
      rw [← hf] at hzz
      have HP : Hid (Calls Tryd.prog 27 #[.string p] wr fun e w' => e = .returned (.bool (okPath p)) ∧ w' = wr) := rPath_any p wr hzz.1
      have hl1 : (fs.take k).length ≤ k := by rw [List.length_take]; omega
      have HFI : Hid (Calls Tryd.prog 28 #[.pointer (some ⟨w.heap.size, 0, none⟩), .string p] wr fun e w' => e = .returned (.int .i64 (findD (filesD (loadD (fs.take k))) p)) ∧ w' = wr) := find_any HD.out p (by rw [HLE.out]; omega)
      have HPU : Hid (Calls Tryd.prog 29 #[.pointer (some ⟨w.heap.size, 0, none⟩), .agg #[.string p, .bool c, .string t], .bool false] wr fun e' w' => e' = .returned (.tuple #[]) ∧ AfterR w.heap.size wr w' w.heap.size lv rv (putD (filesD (loadD (fs.take k))) (p, c, t) false) [] (-1)) := put_any HD.out p c t false (by rw [HLE.out]; omega) HB.out.size
      have hki : (k : Int) < (fs.length : Int) := by omega
      clear hf a0 a1 a2 hc hzz
      by_cases hop : okPath p = true
      · have HPP : Hid (putD (filesD (loadD (fs.take k))) (p, c, t) false = filesD (loadD (fs.take (k + 1)))) := by
          unfold Hid
          rw [loadD_take fs k hlt, ← HF.out]
          exact put_files HPL.out.good HPL.out.isMap (HPL.out.put c t hop).good
        rw [HPP.out] at HPU
        rcases find_has HPL.out.good p with ⟨hfd, hha⟩ | ⟨k2, hk2, hfd, hz1, hha, hz2⟩
        · rw [hfd] at HFI
          rw [hop] at HP
          have HK0 : Hid (kindD (loadD (fs.take k)) p = 0) := kind_none (not_root hop) hha
          have HOP := hide3 hop
          clear hfd hha hop
          by_cases hok : okF (p, c, t) = true
          · have HOK := hide3 hok
            have HNX : Hid (∀ w' lv' rv', IsRef w.heap.size w' w.heap.size lv' rv' (filesD (loadD (fs.take (k + 1)))) [] (-1) → Below w.heap.size w w' → (∃ k' : Nat, k' ≤ fs.length ∧ (Value.int .i64 ((k : Int) + 1)) = .int .i64 k' ∧ (∃ lv rv, IsRef w.heap.size w' w.heap.size lv rv (filesD (loadD (fs.take k'))) [] (-1)) ∧ Below w.heap.size w w' ∧ ∀ j (hj : j < fs.length), j < k' → okF fs[j] = true ∧ kindD (loadD (fs.take j)) fs[j].1 = 0)) := fun w' lv' rv' h1 h2 => by
              refine ⟨k + 1, by omega, by simp, ⟨lv', rv', h1⟩, h2, fun j hj hjk => ?_⟩
              by_cases e : j = k
              · subst e
                rw [← HF.out]
                exact ⟨HOK.out, HK0.out⟩
              · exact HA.out j hj (by omega)
            have hdt : c = false ∨ (t.toList == []) = true := by
              unfold okF at hok
              cases c
              · exact Or.inl rfl
              · right
                simp only [Bool.true_and, Bool.not_not, Bool.and_eq_true] at hok
                exact hok.2
            clear hok
            rcases hdt with rfl | hdt
            · go_wp2_with (first
                | (go_at_call 27; refine HP.out.mono ?_; rintro e w2 ⟨rfl, hw2⟩; subst w2)
                | (go_at_call 28; refine HFI.out.mono ?_; rintro e w3 ⟨rfl, hw3⟩; subst w3)
                | (go_at_call 29; refine HPU.out.mono ?_; rintro e w4 ⟨rfl, lv4, rv4, hr4, hu4, _⟩; have HR4 := hide3 hr4; have HB4 := hide3 (HB.out.trans (hu4.below HB.out.size fun i hi => (HD.out.foot_lt hi).2)); clear hr4 hu4))
              exact ⟨HNX.out _ _ _ HR4.out HB4.out, by simp [intOf]; omega⟩
            · cases c
              · go_wp2_with (first
                  | (go_at_call 27; refine HP.out.mono ?_; rintro e w2 ⟨rfl, hw2⟩; subst w2)
                  | (go_at_call 28; refine HFI.out.mono ?_; rintro e w3 ⟨rfl, hw3⟩; subst w3)
                  | (go_at_call 29; refine HPU.out.mono ?_; rintro e w4 ⟨rfl, lv4, rv4, hr4, hu4, _⟩; have HR4 := hide3 hr4; have HB4 := hide3 (HB.out.trans (hu4.below HB.out.size fun i hi => (HD.out.foot_lt hi).2)); clear hr4 hu4))
                exact ⟨HNX.out _ _ _ HR4.out HB4.out, by simp [intOf]; omega⟩
              · go_wp2_with (first
                  | (go_at_call 27; refine HP.out.mono ?_; rintro e w2 ⟨rfl, hw2⟩; subst w2)
                  | (go_at_call 28; refine HFI.out.mono ?_; rintro e w3 ⟨rfl, hw3⟩; subst w3)
                  | (go_at_call 29; refine HPU.out.mono ?_; rintro e w4 ⟨rfl, lv4, rv4, hr4, hu4, _⟩; have HR4 := hide3 hr4; have HB4 := hide3 (HB.out.trans (hu4.below HB.out.size fun i hi => (HD.out.foot_lt hi).2)); clear hr4 hu4))
                exact ⟨HNX.out _ _ _ HR4.out HB4.out, by simp [intOf]; omega⟩
          · have HNL : Hid (¬ Loads fs) := fun h => hok (by have := (HLD.out h k hlt).1; rw [← HF.out] at this; exact this)
            obtain ⟨rfl, hdt⟩ : c = true ∧ (t.toList == []) = false := by
              unfold okF at hok
              have h1 := HOP.out
              cases c
              · exact absurd (by simp [h1]) hok
              · refine ⟨rfl, ?_⟩
                cases ht : (t.toList == [])
                · rfl
                · exact absurd (by simp [h1, ht]) hok
            clear hok
            go_wp2_with (first
              | (go_at_call 27; refine HP.out.mono ?_; rintro e w2 ⟨rfl, hw2⟩; subst w2)
              | (go_at_call 28; refine HFI.out.mono ?_; rintro e w3 ⟨rfl, hw3⟩; subst w3)
              | (go_at_call 29; refine HPU.out.mono ?_; rintro e w4 ⟨rfl, lv4, rv4, hr4, hu4, _⟩; have HR4 := hide3 hr4; have HB4 := hide3 (HB.out.trans (hu4.below HB.out.size fun i hi => (HD.out.foot_lt hi).2)); clear hr4 hu4))
            exact HNO.out _ HNL.out HB.out
        · have HNL : Hid (¬ Loads fs) := fun h => by
            have := (HLD.out h k hlt).2
            rw [← HF.out] at this
            have := kind_none_has this
            rw [hha] at this
            cases this
          rw [hfd] at HFI
          rw [hop] at HP
          clear hfd hha hop hz1 hz2 hk2
          have hk20 : (0 : Int) ≤ (k2 : Int) := by omega
          go_wp2_with (first
            | (go_at_call 27; refine HP.out.mono ?_; rintro e w2 ⟨rfl, hw2⟩; subst w2)
            | (go_at_call 28; refine HFI.out.mono ?_; rintro e w3 ⟨rfl, hw3⟩; subst w3)
            | (go_at_call 29; refine HPU.out.mono ?_; rintro e w4 ⟨rfl, lv4, rv4, hr4, hu4, _⟩; have HR4 := hide3 hr4; have HB4 := hide3 (HB.out.trans (hu4.below HB.out.size fun i hi => (HD.out.foot_lt hi).2)); clear hr4 hu4))
          exact HNO.out _ HNL.out HB.out
      · have HNL : Hid (¬ Loads fs) := fun h => hop (by have := (HLD.out h k hlt).1; rw [← HF.out] at this; exact okF_path this)
        rw [Bool.not_eq_true] at hop
        rw [hop] at HP
        clear hop
        go_wp2_with (first
          | (go_at_call 27; refine HP.out.mono ?_; rintro e w2 ⟨rfl, hw2⟩; subst w2)
          | (go_at_call 28; refine HFI.out.mono ?_; rintro e w3 ⟨rfl, hw3⟩; subst w3)
          | (go_at_call 29; refine HPU.out.mono ?_; rintro e w4 ⟨rfl, lv4, rv4, hr4, hu4, _⟩; have HR4 := hide3 hr4; have HB4 := hide3 (HB.out.trans (hu4.below HB.out.size fun i hi => (HD.out.foot_lt hi).2)); clear hr4 hu4))
        exact HNO.out _ HNL.out HB.out
    · obtain rfl : k = fs.length := by omega
      rw [List.take_length] at HD HPL HLE
      have HA' : Hid (∀ i (hi : i < fs.length), okF fs[i] = true ∧ kindD (loadD (fs.take i)) fs[i].1 = 0) := fun i hi => HA.out i hi hi
      have HME : Hid (∀ f : Fl, f ∈ filesD (loadD fs) ↔ f ∈ fs) := fun f => mem_files_load (loads_apart HA'.out) HPL.out.good f
      have HKD : Hid (∀ s : ByteArray, Calls Tryd.prog 30 #[.pointer (some ⟨w.heap.size, 0, none⟩), .string s] wr fun e w' => e = .returned (.int .i64 (kindD (loadD fs) s)) ∧ w' = wr) := fun s => rKind_any HD.out HPL.out.good s (by rw [HLE.out]; omega)
      clear HA
      obtain ⟨wa, rfl⟩ : ∃ x, x = wr := ⟨wr, rfl⟩
      have hlr := HD.out.lrow
      have hc0 := HD.out.c0
      have hLl : (filesD (loadD fs)).length ≤ 1048576 := by rw [HLE.out]; omega
      have HOK : Hid (∀ f ∈ filesD (loadD fs), okPath f.1 = true) := fun f hf => by
        obtain ⟨i, hi, rfl⟩ := List.getElem_of_mem ((HME.out f).1 hf)
        exact okF_path (HA'.out i hi).1
      obtain ⟨ad, cp, rfl⟩ := row_form hlr
      have HLR := hide3 hlr
      have HFIN : Hid ((∀ f ∈ filesD (loadD fs), kindD (loadD fs) (parentOf f.1) = 2) → Loads fs) := fun h => HLI.out HA'.out fun i hi => by
        have := h _ ((HME.out _).2 (List.getElem_mem hi))
        unfold parentD
        rw [this]
        rfl
      have HNOT : Hid (∀ f ∈ filesD (loadD fs), kindD (loadD fs) (parentOf f.1) ≠ 2 → ¬ Loads fs) := fun f hf hne h => by
        obtain ⟨i, hi, rfl⟩ := List.getElem_of_mem ((HME.out f).1 hf)
        exact hne (parentD_zero (by rw [HLP.out h i hi]; rfl))
      have HYE : Hid (Loads fs → HQ (.returned (.tuple #[.pointer (some ⟨w.heap.size, 0, none⟩), .bool true])) wa) := fun h => HYES.out _ _ _ h HB.out HD.out
      clear hlr HLE HYES HLI HLP HLD HN HB0 HME HD
      generalize filesD (loadD fs) = L at *
      go_wp2
      go_loopw [7] (fun i wr => ∃ j : Nat, j ≤ L.length ∧ i = .int .i64 j ∧ wr = wa ∧ ∀ i (hi : i < L.length), i < j → kindD (loadD fs) (parentOf L[i].1) = 2) (fun i _ => L.length - (intOf i).toNat)
      case atStart => exact ⟨0, Nat.zero_le _, rfl, rfl, fun i hi h => absurd h (Nat.not_lt_zero _)⟩
      case round =>
        obtain ⟨j, hj, rfl, hwr, hpar⟩ := hrel
        subst hwr
        have HPR := hide3 hpar
        clear hpar
        by_cases hlt2 : j < L.length
        · obtain ⟨g2, rfl⟩ := row_shape HLR.out (by omega)
          obtain ⟨c1, _, _⟩ := file_cells HLR.out j hlt2
          have hm2 := List.getElem_mem hlt2
          have hop := HOK.out _ hm2
          have HRP : Hid (Calls Tryd.prog 31 #[.string L[j].1] wr fun e w' => e = .returned (.string (parentOf L[j].1)) ∧ w' = wr) := rParent_any _ wr (okPath_size hop) (okPath_parts hop).2
          have HK2 := hide3 (HKD.out (parentOf L[j].1))
          have hji : (j : Int) < (L.length : Int) := by omega
          by_cases hk2 : kindD (loadD fs) (parentOf L[j].1) = 2
          · have HST : Hid (∀ i (hi : i < L.length), i < j + 1 → kindD (loadD fs) (parentOf L[i].1) = 2) := fun i hi hij => by
              by_cases e : i = j
              · subst e; exact hk2
              · exact HPR.out i hi (by omega)
            rw [hk2] at HK2
            clear hk2 hop hm2
            generalize parentOf L[j].1 = PA at *
            generalize L[j].1 = P0 at *
            go_wp2_with (first
              | (go_at_call 31; refine HRP.out.mono ?_; rintro e w2 ⟨rfl, hw2⟩; subst w2)
              | (go_at_call 30; refine HK2.out.mono ?_; rintro e w3 ⟨rfl, hw3⟩; subst w3))
            exact ⟨⟨j + 1, by omega, by go_num, by trivial, HST.out⟩, by simp [intOf]; omega⟩
          · have HNL := hide3 (HNOT.out _ hm2 hk2)
            have hk3 : (kindD (loadD fs) (parentOf L[j].1) == 2) = false := by simpa using hk2
            clear hk2 hop hm2
            generalize kindD (loadD fs) (parentOf L[j].1) = kk at *
            generalize parentOf L[j].1 = PA at *
            generalize L[j].1 = P0 at *
            go_wp2_with (first
              | (go_at_call 31; refine HRP.out.mono ?_; rintro e w2 ⟨rfl, hw2⟩; subst w2)
              | (go_at_call 30; refine HK2.out.mono ?_; rintro e w3 ⟨rfl, hw3⟩; subst w3))
            exact HNO.out _ HNL.out HB.out
        · obtain rfl : j = L.length := by omega
          go_wp2
          exact HYE.out (HFIN.out fun f hf => by obtain ⟨i, hi, rfl⟩ := List.getElem_of_mem hf; exact HPR.out i hi hi)

/-- The wrap that hands on what is listed, the reach and the world's shape. -/
theorem wrap_shaped {H : Type} {enc : TypeId × Value → H} {a : Assume} {C : Checked} {os : Os} {f : FuncId} {fn : Func} {s : ChangeSpec} {conds : List PathCond} {apart fresh handsOn again : Bool} {X : World → Array Value → Prop}
    (own : ownKnob C.prog.godebug = none) (started : os.Started) (noInit : C.prog.inits.idxOf? f = none) (hfn : C.prog.funcs[f]? = some fn)
    (witness : ∃ (w : World) (tape : Tape) (i : Input), w.os = os ∧ (w.forCall tape i).Shaped C.prog ∧ i.vars = [] ∧ Input.okWide C.prog (w.forCall tape i) .any w.heap.size f i ∧
      ((s.pre enc C.prog fn conds apart (w.forCall tape i).memory i.args ∧ X (w.forCall tape i).memory i.args) ∧ sizedMet enc C.prog fn (OpenSpec.ofChange s) apart (w.forCall tape i).memory i.args) ∧ a.holds C.prog (lone (Frame.enter C.prog f i.args .normal) [] (w.forCall tape i)))
    (contract : ∀ (W : World) (base : Nat) (args : Array Value) (ds gs : List (DataW H)) (before : List MemPlace),
      (∀ (j : Nat) t v, fn.params[j]? = some t → args[j]? = some v → Value.okWide C.prog W .any base t v) →
      DataW.Whole enc C.prog fn.params.toList s.vars apart W args.toList ds gs before →
      (DataW.weightsEach C.prog (fn.params.toList ++ s.plain.varTypes C.prog) (ds ++ gs)).all (· ≤ reachBytes) = true → W.ShapedOpen C.prog →
      Calls C.prog f args W fun e W' => ∃ v, e = .returned v ∧ s.post enc C.prog fn apart fresh handsOn again W args v W') :
    ReturnsInHanded a C os f .any (fun w args => (s.pre enc C.prog fn conds apart w args ∧ X w args) ∧ sizedMet enc C.prog fn (OpenSpec.ofChange s) apart w args) (s.post enc C.prog fn apart fresh handsOn again) := by
  refine returnsInHanded_of_calls own started noInit witness ?_
  intro w tape i _ hsh _ hok hpre _
  obtain ⟨_, _, _, fn', hfn', _, _, _, _, hval⟩ := hok
  have e : fn' = fn := Option.some.inj (hfn'.symm.trans hfn)
  subst e
  obtain ⟨⟨⟨ds, gs, before, hw, _⟩, _⟩, hz⟩ := hpre
  have hw' := DataW.Whole.of_heap (w' := w.forCall tape i) (by rfl) hw
  refine (contract (w.forCall tape i) w.heap.size i.args ds gs before hval hw' (hz.weights hw) hsh).mono fun e W' ⟨v, he, hp⟩ => ?_
  subst he
  exact ChangeSpec.post_blind hp

theorem max_cell {W : World} (h : W.ShapedOpen Tryd.prog) : ∃ m, W.cell? ⟨0, 0, none⟩ = some (.int .i64 m) :=
  cell_of_shapedOpen_int (t := 3) (zero := #[.int .i64 0]) h (by decide +kernel) (by kernel_rfl) rfl (by kernel_rfl) (by kernel_rfl) Tryd.underlying3

theorem cellsInt : Tryd.prog.cellsOf 3 = 1 := by kernel_rfl
theorem cellsString : Tryd.prog.cellsOf 9 = 1 := by kernel_rfl

theorem take_one {cs : List Value} {o : Nat} {v : Value} (h : (cs.drop o).take 1 = [v]) : cs[o]? = some v := by
  have h0 : ((cs.drop o).take 1)[0]? = some v := by rw [h]; rfl
  simpa using h0

theorem field_at {fs : Array Field} {i ty off : Nat} (h : (fs[i]?).map (fun f => (f.type, f.offset)) = some (ty, off)) : ∃ f, fs[i]? = some f ∧ f.type = ty ∧ f.offset = off := by
  cases hf : fs[i]? with
  | none => rw [hf] at h; cases h
  | some f =>
    rw [hf] at h
    simp only [Option.map_some, Option.some.injEq, Prod.mk.injEq] at h
    exact ⟨f, rfl, h.1, h.2⟩

theorem bulk_pos {H : Type} (d : DataW H) : 1 ≤ Rows.uptoBulk d := by
  cases d with
  | lit l => cases l <;> simp [Rows.uptoBulk]
  | _ => simp [Rows.uptoBulk]
theorem bulk_len {H : Type} : ∀ l : List (DataW H), l.length ≤ Rows.uptoBulkAll l
  | [] => by simp [Rows.uptoBulkAll]
  | d :: r => by
    have h1 := bulk_pos d
    have h2 := bulk_len r
    simp only [Rows.uptoBulkAll, List.length_cons]
    omega
theorem deeds_bulk {H : Type} {d : DataW H} {len : Nat} (h : len = 0 ∨ ∃ el sp, d = .slice el sp ∧ len ≤ el.length + sp.length) : len ≤ Rows.uptoBulk d := by
  rcases h with rfl | ⟨el, sp, rfl, h⟩
  · exact Nat.zero_le _
  · have h1 := bulk_len el
    have h2 := bulk_len sp
    simp only [Rows.uptoBulk]
    omega

theorem cellsFile : Tryd.prog.cellsOf 31 = 3 := by kernel_rfl
theorem cellsBool : Tryd.prog.cellsOf 4 = 1 := by kernel_rfl
theorem file_read {H : Type} {enc : TypeId × Value → H} {W : World} {base : Nat} {spare : Nat → Bool} {held : Bool} {n : Nat} {g o : Nat} {cs : List Value} {x : DataW H × List MemPlace} (hc : W.cells? base ⟨g, o, none⟩ 3 = some cs) (h : DataW.trod enc Tryd.prog W base spare held n 31 cs = some x) :
    ∃ f : Fl, W.cell? ⟨g, o, none⟩ = some (.string f.1) ∧ W.cell? ⟨g, o + 1, none⟩ = some (.bool f.2.1) ∧ W.cell? ⟨g, o + 1 + 1, none⟩ = some (.string f.2.2) ∧ f.1.size ≤ maxLen ∧ f.2.2.size ≤ maxLen := by
  have hs : Tryd.prog.underlying 31 = some (.struct (Tryd.prog.fieldsOf 31)) := by kernel_rfl
  obtain ⟨xs, n', _, _, _, hxl, hf⟩ := DataW.trod_struct hs h
  have hsz : (Tryd.prog.fieldsOf 31).size = 3 := by kernel_rfl
  obtain ⟨_, _, hq⟩ := World.cells?_some hc
  have bools : ∀ i off, ((Tryd.prog.fieldsOf 31)[i]?).map (fun f => (f.type, f.offset)) = some (4, off) → i < 3 → ∃ k, cs[off]? = some (.bool k) := by
    intro i off hfd hi
    obtain ⟨f, h1, h2, h3⟩ := field_at hfd
    have hr := hf i f h1
    rw [h2, h3, cellsBool, List.getElem?_eq_getElem (by omega : i < xs.length)] at hr
    obtain ⟨k, e1, _⟩ := DataW.trod_bool Tryd.underlying4 hr
    exact ⟨k, take_one e1⟩
  have strs : ∀ i off, ((Tryd.prog.fieldsOf 31)[i]?).map (fun f => (f.type, f.offset)) = some (9, off) → i < 3 → ∃ s, cs[off]? = some (.string s) ∧ s.size ≤ maxLen := by
    intro i off hfd hi
    obtain ⟨f, h1, h2, h3⟩ := field_at hfd
    have hr := hf i f h1
    rw [h2, h3, cellsString, List.getElem?_eq_getElem (by omega : i < xs.length)] at hr
    obtain ⟨s, e1, _, ws⟩ := DataW.trod_string Tryd.underlying9 hr
    exact ⟨s, take_one e1, ws⟩
  obtain ⟨p, a0, wp⟩ := strs 0 0 (by kernel_rfl) (by decide)
  obtain ⟨c, a1⟩ := bools 1 1 (by kernel_rfl) (by decide)
  obtain ⟨t, a2, wt⟩ := strs 2 2 (by kernel_rfl) (by decide)
  have ad : ∀ i, (⟨g, o, none⟩ : Addr).add i = ⟨g, o + i, none⟩ := fun i => by unfold Addr.add; split <;> simp_all
  have q0 := hq 0 (by decide)
  have q1 := hq 1 (by decide)
  have q2 := hq 2 (by decide)
  rw [ad] at q0 q1 q2
  exact ⟨(p, c, t), by rw [← a0, ← q0]; rfl, by rw [← a1, ← q1], by rw [← a2, ← q2], wp, wt⟩

/-- A list is made of what lies at each place. -/
theorem list_of {P : Nat → Fl → Prop} : ∀ n, (∀ i, i < n → ∃ f, P i f) → ∃ fs : List Fl, fs.length = n ∧ ∀ i (hi : i < fs.length), P i fs[i]
  | 0, _ => ⟨[], rfl, fun i hi => absurd hi (Nat.not_lt_zero _)⟩
  | n + 1, h => by
    obtain ⟨fs, hl, hp⟩ := list_of n (fun i hi => h i (by omega))
    obtain ⟨f, hf⟩ := h n (by omega)
    refine ⟨fs ++ [f], by simp [hl], fun i hi => ?_⟩
    by_cases e : i < fs.length
    · rw [List.getElem_append_left e]; exact hp i e
    · have : i = fs.length := by simp at hi; omega
      subst this
      rw [List.getElem_append_right (Nat.le_refl _)]
      simp only [Nat.sub_self, List.getElem_cons_zero]
      rw [hl]
      exact hf

theorem open_files {H : Type} {enc : TypeId × Value → H} {W : World} {base fuel : Nat} {held : Bool} {a : Option Addr} {len cap : Nat} {x : DataW H × List MemPlace} (h : DataW.trod enc Tryd.prog W base (fun _ => true) held fuel 22 [.slice a len cap] = some x) :
    ∃ fs : List Fl, fs.length = len ∧ IsFiles W a fs ∧ (∀ f ∈ fs, f.1.size ≤ maxLen ∧ f.2.2.size ≤ maxLen) ∧ (len = 0 ∨ ∃ el sp, x.1 = .slice el sp ∧ len ≤ el.length + sp.length) := by
  rcases Go.Deep.open_slice Tryd.underlying22 h with ⟨hcs, _⟩ | ⟨ad, l, c, m, n, D, Pl, hcs, _, hl, _, hm, hx, hel⟩
  · simp only [List.cons.injEq, Value.slice.injEq, and_true] at hcs
    exact ⟨[], hcs.2.1.symm, Or.inl rfl, fun f hf => (by cases hf), Or.inl hcs.2.1⟩
  · simp only [List.cons.injEq, Value.slice.injEq, and_true] at hcs
    obtain ⟨rfl, rfl, rfl⟩ := hcs
    rcases Nat.eq_zero_or_pos len with h0 | h0
    · exact ⟨[], h0.symm, Or.inl rfl, fun f hf => (by cases hf), Or.inl h0⟩
    · have hmm : len ≤ m := by rw [hm]; simp; exact hl
      rw [cellsFile] at hel
      obtain ⟨g, off, spot⟩ := ad
      obtain ⟨cs0, hc0, _⟩ := hel 0 (by omega)
      obtain ⟨_, hln, hq⟩ := World.cells?_some hc0
      have hcell := hq 0 (by decide)
      rw [List.getElem?_eq_getElem (by omega : 0 < cs0.length)] at hcell
      have hspot : spot = none := by simpa [Addr.add] using World.cell?_spot hcell
      subst hspot
      have ad2 : ∀ o i, (⟨g, o, none⟩ : Addr).add i = ⟨g, o + i, none⟩ := fun o i => by unfold Addr.add; split <;> simp_all
      obtain ⟨fs, hfl, hfs⟩ := list_of (P := fun i f => W.cell? ⟨g, off + i * 3, none⟩ = some (.string f.1) ∧ W.cell? ⟨g, off + i * 3 + 1, none⟩ = some (.bool f.2.1) ∧ W.cell? ⟨g, off + i * 3 + 1 + 1, none⟩ = some (.string f.2.2) ∧ f.1.size ≤ maxLen ∧ f.2.2.size ≤ maxLen) len (fun i hi => by
        obtain ⟨cs, hc, ht⟩ := hel i (by omega)
        rw [ad2] at hc
        exact file_read hc ht)
      refine ⟨fs, hfl, Or.inr ⟨g, off, rfl, ?_, fun k hk => ?_⟩, fun f hf => ?_, Or.inr ⟨_, _, by rw [hx], by simp⟩⟩
      · have := cell_lt hcell
        rw [ad2, ad2] at this; exact this
      · obtain ⟨q0, q1, q2, _, _⟩ := hfs k hk
        exact ⟨q0, q1, q2⟩
      · obtain ⟨i, hi, rfl⟩ := List.getElem_of_mem hf
        exact ⟨(hfs i hi).2.2.2.1, (hfs i hi).2.2.2.2⟩
end Go.Proofs.YtcpmfhalphoppaaDoor.Dk
