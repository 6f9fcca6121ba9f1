/- SpanThree of any lists. -/
import Derived.Test.YtpdafkfclkedjabGreatDoorThree1
import Derived.Test.YtpdafkfclkedjabGreatDoorThree1b
namespace Go.Proofs.YtpdafkfclkedjabGreatDoor
open Go.RowKit
set_option maxRecDepth 100000

theorem meet_over {A B C : Rg} (hA : RangeR A) (hB : RangeR B) (hC : RangeR C) : joinR (meetR A B) (meetR A C) = meetR A (joinR B C) := range_one ((hA.meet hB).join (hA.meet hC)) (hA.meet (hB.join hC)) fun n => by
  rw [join_in (hA.meet hB) (hA.meet hC), meet_in hA hB, meet_in hA hC, meet_in hA (hB.join hC), join_in hB hC]
  constructor
  · rintro (⟨x, y⟩ | ⟨x, y⟩)
    · exact ⟨x, Or.inl y⟩
    · exact ⟨x, Or.inr y⟩
  · rintro ⟨x, y | y⟩
    · exact Or.inl ⟨x, y⟩
    · exact Or.inr ⟨x, y⟩
theorem cut_over {A B C : Rg} (hA : RangeR A) (hB : RangeR B) (hC : RangeR C) : cutR (cutR A B) C = cutR A (joinR B C) := range_one ((hA.cut hB).cut hC) (hA.cut (hB.join hC)) fun n => by
  rw [cut_in (hA.cut hB) hC, cut_in hA hB, cut_in hA (hB.join hC), join_in hB hC]
  constructor
  · rintro ⟨⟨x, y⟩, z⟩
    exact ⟨x, fun h => h.elim y z⟩
  · rintro ⟨x, y⟩
    exact ⟨⟨x, fun h => y (Or.inl h)⟩, fun h => y (Or.inr h)⟩
theorem meet_assoc {A B C : Rg} (hA : RangeR A) (hB : RangeR B) (hC : RangeR C) : meetR A (meetR B C) = meetR (meetR A B) C := range_one (hA.meet (hB.meet hC)) ((hA.meet hB).meet hC) fun n => by
  rw [meet_in hA (hB.meet hC), meet_in hB hC, meet_in (hA.meet hB) hC, meet_in hA hB]
  exact ⟨fun h => ⟨⟨h.1, h.2.1⟩, h.2.2⟩, fun h => ⟨h.1.1, h.1.2, h.2⟩⟩

theorem three_all {W : World} (hE : Env W ∧ FL W) {va vb vc : Value} {La Lb Lc : List Sp} (ha : SpansC W va La) (hb : SpansC W vb Lb) (hc : SpansC W vc Lc) :
    Calls Tryz.prog 4 #[va, vb, vc] W fun e w' => e = .returned (.bool true) ∧ Below W.heap.size W w' := by
  have HKn : Hid (∀ w1, Below W.heap.size W w1 → Says 6 #[] w1 true) := fun w1 h => known_any w1 (hE.1.below h) (hE.2.below h)
  rcases rg_or ha with hma | ⟨A, rfl, hA, la, hra⟩
  · exact three_noa va vb vc W HKn (fun w1 hbl => Says.of (sMay_any (ha.1.below hbl)) hma)
  have HMa : Hid (∀ w1, Below W.heap.size W w1 → Says 12 #[va] w1 true) := fun w1 hbl => sMay_rg hA la (hra.below hbl)
  rcases rg_or hb with hmb | ⟨B, rfl, hB, lb, hrb⟩
  · exact three_nob va vb vc W HKn HMa (fun w1 hbl => Says.of (sMay_any (hb.1.below hbl)) hmb)
  have HMb : Hid (∀ w1, Below W.heap.size W w1 → Says 12 #[vb] w1 true) := fun w1 hbl => sMay_rg hB lb (hrb.below hbl)
  rcases rg_or hc with hmc | ⟨C, rfl, hC, lc, hrc⟩
  · exact three_noc va vb vc W HKn HMa HMb (fun w1 hbl => Says.of (sMay_any (hc.1.below hbl)) hmc)
  have HMc : Hid (∀ w1, Below W.heap.size W w1 → Says 12 #[vc] w1 true) := fun w1 hbl => sMay_rg hC lc (hrc.below hbl)
  have HBC : Hid (∀ w1, Below W.heap.size W w1 → NewSp 13 vb vc w1 (fullE (joinR B C).length) (fitR (joinR B C))) := fun w1 hbl => Join_new hB hC lb lc (hE.2.below hbl) (hrb.below hbl) (hrc.below hbl)
  have HAB : Hid (∀ w1, Below W.heap.size W w1 → NewSp 14 va vb w1 (fullE (meetR A B).length) (fitR (meetR A B))) := fun w1 hbl => Meet_new hA hB la lb (hra.below hbl) (hrb.below hbl)
  have HAC : Hid (∀ w1, Below W.heap.size W w1 → NewSp 14 va vc w1 (fullE (meetR A C).length) (fitR (meetR A C))) := fun w1 hbl => Meet_new hA hC la lc (hra.below hbl) (hrc.below hbl)
  have HM : Hid (∀ w1, Below W.heap.size W w1 → NewSp 14 vb vc w1 (fullE (meetR B C).length) (fitR (meetR B C))) := fun w1 hbl => Meet_new hB hC lb lc (hrb.below hbl) (hrc.below hbl)
  have HY : Hid (∀ w1, Below W.heap.size W w1 → NewSp 16 va vb w1 (fullE (cutR A B).length) (fitR (cutR A B))) := fun w1 hbl => Cut_new hA hB la lb (hra.below hbl) (hrb.below hbl)
  have HSm : Hid (∀ w1 x y (R : Rg), R.length ≤ 64 → SpansR w1 x R → SpansR w1 y R → Says 15 #[x, y] w1 true) := fun w1 x y R hl h1 h2 => same_rg hl h1 h2
  have hBC := fit_ok (hB.join hC)
  have hAB := fit_ok (hA.meet hB)
  have hAC := fit_ok (hA.meet hC)
  have hBm := fit_ok (hB.meet hC)
  have hAc := fit_ok (hA.cut hB)
  have HL : Hid (∀ w1 x, Below W.heap.size W w1 → SpansR w1 x (fitR (joinR B C)) → NewSp 14 va x w1 (fullE (meetR A (fitR (joinR B C))).length) (fitR (meetR A (fitR (joinR B C))))) := fun w1 x hbl h => Meet_new hA hBC la (fit_len _) (hra.below hbl) h
  have HR : Hid (∀ w1 x y, Below W.heap.size W w1 → SpansR w1 x (fitR (meetR A B)) → SpansR w1 y (fitR (meetR A C)) → NewSp 13 x y w1 (fullE (joinR (fitR (meetR A B)) (fitR (meetR A C))).length) (fitR (joinR (fitR (meetR A B)) (fitR (meetR A C))))) := fun w1 x y hbl h1 h2 => Join_new hAB hAC (fit_len _) (fit_len _) (hE.2.below hbl) h1 h2
  have HX : Hid (∀ w1 x, Below W.heap.size W w1 → SpansR w1 x (fitR (joinR B C)) → NewSp 16 va x w1 (fullE (cutR A (fitR (joinR B C))).length) (fitR (cutR A (fitR (joinR B C))))) := fun w1 x hbl h => Cut_new hA hBC la (fit_len _) (hra.below hbl) h
  have HZ : Hid (∀ w1 x, Below W.heap.size W w1 → SpansR w1 x (fitR (cutR A B)) → NewSp 16 x vc w1 (fullE (cutR (fitR (cutR A B)) C).length) (fitR (cutR (fitR (cutR A B)) C))) := fun w1 x hbl h => Cut_new hAc hC (fit_len _) lc h (hrc.below hbl)
  have HP : Hid (∀ w1 x, Below W.heap.size W w1 → SpansR w1 x (fitR (meetR A B)) → NewSp 14 x vc w1 (fullE (meetR (fitR (meetR A B)) C).length) (fitR (meetR (fitR (meetR A B)) C))) := fun w1 x hbl h => Meet_new hAB hC (fit_len _) lc h (hrc.below hbl)
  have HQ : Hid (∀ w1 x, Below W.heap.size W w1 → SpansR w1 x (fitR (meetR B C)) → NewSp 14 va x w1 (fullE (meetR A (fitR (meetR B C))).length) (fitR (meetR A (fitR (meetR B C))))) := fun w1 x hbl h => Meet_new hA hBm la (fit_len _) (hra.below hbl) h
  have eqR : (joinR B C).length ≤ 64 → (meetR A B).length ≤ 64 → (meetR A C).length ≤ 64 → Hid (∀ w1 x y, Below W.heap.size W w1 → SpansR w1 x (fitR (meetR A B)) → SpansR w1 y (fitR (meetR A C)) → NewSp 13 x y w1 (fullE (meetR A (fitR (joinR B C))).length) (fitR (meetR A (fitR (joinR B C))))) := fun h1 h2 h3 w1 x y hbl k1 k2 => by
    have := HR.out w1 x y hbl k1 k2
    rw [fit_of h2, fit_of h3, meet_over hA hB hC] at this
    rw [fit_of h1]; exact this
  have eqZ : (joinR B C).length ≤ 64 → (cutR A B).length ≤ 64 → Hid (∀ w1 x, Below W.heap.size W w1 → SpansR w1 x (fitR (cutR A B)) → NewSp 16 x vc w1 (fullE (cutR A (fitR (joinR B C))).length) (fitR (cutR A (fitR (joinR B C))))) := fun h1 h2 w1 x hbl k1 => by
    have := HZ.out w1 x hbl k1
    rw [fit_of h2, cut_over hA hB hC] at this
    rw [fit_of h1]; exact this
  have eqQ : (meetR A B).length ≤ 64 → (meetR B C).length ≤ 64 → Hid (∀ w1 x, Below W.heap.size W w1 → SpansR w1 x (fitR (meetR B C)) → NewSp 14 va x w1 (fullE (meetR (fitR (meetR A B)) C).length) (fitR (meetR (fitR (meetR A B)) C))) := fun h1 h2 w1 x hbl k1 => by
    have := HQ.out w1 x hbl k1
    rw [fit_of h2, meet_assoc hA hB hC] at this
    rw [fit_of h1]; exact this
  by_cases e1 : (joinR B C).length ≤ 64
  · rw [full_0 e1] at HBC
    by_cases e2 : (meetR A B).length ≤ 64
    · rw [full_0 e2] at HAB
      by_cases e3 : (meetR A C).length ≤ 64
      · rw [full_0 e3] at HAC
        by_cases e4 : (cutR A B).length ≤ 64
        · rw [full_0 e4] at HY
          by_cases e5 : (meetR B C).length ≤ 64
          · rw [full_0 e5] at HM
            exact three_0_0_0_0_0 va vb vc _ _ _ _ _ _ _ _ _ _ _ W (fit_len _) (fit_len _) (fit_len _) HKn HMa HMb HMc HBC HAB HAC HSm HL (eqR e1 e2 e3) HX HY (eqZ e1 e4) HP HM (eqQ e2 e5)
          · rw [full_26 e5] at HM
            exact three_0_0_0_0_26 va vb vc _ _ _ _ _ _ _ _ _ _ _ _ _ W (fit_len _) (fit_len _) HKn HMa HMb HMc HBC HAB HAC HSm HL (eqR e1 e2 e3) HX HY (eqZ e1 e4) HP HM HQ
        · rw [full_26 e4] at HY
          by_cases e5 : (meetR B C).length ≤ 64
          · rw [full_0 e5] at HM
            exact three_0_0_0_26_0 va vb vc _ _ _ _ _ _ _ _ _ _ _ _ _ W (fit_len _) (fit_len _) HKn HMa HMb HMc HBC HAB HAC HSm HL (eqR e1 e2 e3) HX HY HZ HP HM (eqQ e2 e5)
          · rw [full_26 e5] at HM
            exact three_0_0_0_26_26 va vb vc _ _ _ _ _ _ _ _ _ _ _ _ _ _ _ W (fit_len _) HKn HMa HMb HMc HBC HAB HAC HSm HL (eqR e1 e2 e3) HX HY HZ HP HM HQ
      · rw [full_26 e3] at HAC
        by_cases e4 : (cutR A B).length ≤ 64
        · rw [full_0 e4] at HY
          by_cases e5 : (meetR B C).length ≤ 64
          · rw [full_0 e5] at HM
            exact three_0_0_26_0_0 va vb vc _ _ _ _ _ _ _ _ _ _ _ _ _ W (fit_len _) (fit_len _) HKn HMa HMb HMc HBC HAB HAC HSm HL HR HX HY (eqZ e1 e4) HP HM (eqQ e2 e5)
          · rw [full_26 e5] at HM
            exact three_0_0_26_0_26 va vb vc _ _ _ _ _ _ _ _ _ _ _ _ _ _ _ W (fit_len _) HKn HMa HMb HMc HBC HAB HAC HSm HL HR HX HY (eqZ e1 e4) HP HM HQ
        · rw [full_26 e4] at HY
          by_cases e5 : (meetR B C).length ≤ 64
          · rw [full_0 e5] at HM
            exact three_0_0_26_26_0 va vb vc _ _ _ _ _ _ _ _ _ _ _ _ _ _ _ W (fit_len _) HKn HMa HMb HMc HBC HAB HAC HSm HL HR HX HY HZ HP HM (eqQ e2 e5)
          · rw [full_26 e5] at HM
            exact three_0_0_26_26_26 va vb vc _ _ _ _ _ _ _ _ _ _ _ _ _ _ _ _ _ W  HKn HMa HMb HMc HBC HAB HAC HSm HL HR HX HY HZ HP HM HQ
    · rw [full_26 e2] at HAB
      by_cases e3 : (meetR A C).length ≤ 64
      · rw [full_0 e3] at HAC
        by_cases e4 : (cutR A B).length ≤ 64
        · rw [full_0 e4] at HY
          by_cases e5 : (meetR B C).length ≤ 64
          · rw [full_0 e5] at HM
            exact three_0_26_0_0_0 va vb vc _ _ _ _ _ _ _ _ _ _ _ _ _ _ _ W (fit_len _) HKn HMa HMb HMc HBC HAB HAC HSm HL HR HX HY (eqZ e1 e4) HP HM HQ
          · rw [full_26 e5] at HM
            exact three_0_26_0_0_26 va vb vc _ _ _ _ _ _ _ _ _ _ _ _ _ _ _ W (fit_len _) HKn HMa HMb HMc HBC HAB HAC HSm HL HR HX HY (eqZ e1 e4) HP HM HQ
        · rw [full_26 e4] at HY
          by_cases e5 : (meetR B C).length ≤ 64
          · rw [full_0 e5] at HM
            exact three_0_26_0_26_0 va vb vc _ _ _ _ _ _ _ _ _ _ _ _ _ _ _ _ _ W  HKn HMa HMb HMc HBC HAB HAC HSm HL HR HX HY HZ HP HM HQ
          · rw [full_26 e5] at HM
            exact three_0_26_0_26_26 va vb vc _ _ _ _ _ _ _ _ _ _ _ _ _ _ _ _ _ W  HKn HMa HMb HMc HBC HAB HAC HSm HL HR HX HY HZ HP HM HQ
      · rw [full_26 e3] at HAC
        by_cases e4 : (cutR A B).length ≤ 64
        · rw [full_0 e4] at HY
          by_cases e5 : (meetR B C).length ≤ 64
          · rw [full_0 e5] at HM
            exact three_0_26_26_0_0 va vb vc _ _ _ _ _ _ _ _ _ _ _ _ _ _ _ W (fit_len _) HKn HMa HMb HMc HBC HAB HAC HSm HL HR HX HY (eqZ e1 e4) HP HM HQ
          · rw [full_26 e5] at HM
            exact three_0_26_26_0_26 va vb vc _ _ _ _ _ _ _ _ _ _ _ _ _ _ _ W (fit_len _) HKn HMa HMb HMc HBC HAB HAC HSm HL HR HX HY (eqZ e1 e4) HP HM HQ
        · rw [full_26 e4] at HY
          by_cases e5 : (meetR B C).length ≤ 64
          · rw [full_0 e5] at HM
            exact three_0_26_26_26_0 va vb vc _ _ _ _ _ _ _ _ _ _ _ _ _ _ _ _ _ W  HKn HMa HMb HMc HBC HAB HAC HSm HL HR HX HY HZ HP HM HQ
          · rw [full_26 e5] at HM
            exact three_0_26_26_26_26 va vb vc _ _ _ _ _ _ _ _ _ _ _ _ _ _ _ _ _ W  HKn HMa HMb HMc HBC HAB HAC HSm HL HR HX HY HZ HP HM HQ
  · rw [full_26 e1] at HBC
    by_cases e2 : (meetR A B).length ≤ 64
    · rw [full_0 e2] at HAB
      by_cases e3 : (meetR A C).length ≤ 64
      · rw [full_0 e3] at HAC
        by_cases e4 : (cutR A B).length ≤ 64
        · rw [full_0 e4] at HY
          by_cases e5 : (meetR B C).length ≤ 64
          · rw [full_0 e5] at HM
            exact three_26_0_0_0_0 va vb vc _ _ _ _ _ _ _ _ _ _ _ _ _ _ _ W (fit_len _) HKn HMa HMb HMc HBC HAB HAC HSm HL HR HX HY HZ HP HM (eqQ e2 e5)
          · rw [full_26 e5] at HM
            exact three_26_0_0_0_26 va vb vc _ _ _ _ _ _ _ _ _ _ _ _ _ _ _ _ _ W  HKn HMa HMb HMc HBC HAB HAC HSm HL HR HX HY HZ HP HM HQ
        · rw [full_26 e4] at HY
          by_cases e5 : (meetR B C).length ≤ 64
          · rw [full_0 e5] at HM
            exact three_26_0_0_26_0 va vb vc _ _ _ _ _ _ _ _ _ _ _ _ _ _ _ W (fit_len _) HKn HMa HMb HMc HBC HAB HAC HSm HL HR HX HY HZ HP HM (eqQ e2 e5)
          · rw [full_26 e5] at HM
            exact three_26_0_0_26_26 va vb vc _ _ _ _ _ _ _ _ _ _ _ _ _ _ _ _ _ W  HKn HMa HMb HMc HBC HAB HAC HSm HL HR HX HY HZ HP HM HQ
      · rw [full_26 e3] at HAC
        by_cases e4 : (cutR A B).length ≤ 64
        · rw [full_0 e4] at HY
          by_cases e5 : (meetR B C).length ≤ 64
          · rw [full_0 e5] at HM
            exact three_26_0_26_0_0 va vb vc _ _ _ _ _ _ _ _ _ _ _ _ _ _ _ W (fit_len _) HKn HMa HMb HMc HBC HAB HAC HSm HL HR HX HY HZ HP HM (eqQ e2 e5)
          · rw [full_26 e5] at HM
            exact three_26_0_26_0_26 va vb vc _ _ _ _ _ _ _ _ _ _ _ _ _ _ _ _ _ W  HKn HMa HMb HMc HBC HAB HAC HSm HL HR HX HY HZ HP HM HQ
        · rw [full_26 e4] at HY
          by_cases e5 : (meetR B C).length ≤ 64
          · rw [full_0 e5] at HM
            exact three_26_0_26_26_0 va vb vc _ _ _ _ _ _ _ _ _ _ _ _ _ _ _ W (fit_len _) HKn HMa HMb HMc HBC HAB HAC HSm HL HR HX HY HZ HP HM (eqQ e2 e5)
          · rw [full_26 e5] at HM
            exact three_26_0_26_26_26 va vb vc _ _ _ _ _ _ _ _ _ _ _ _ _ _ _ _ _ W  HKn HMa HMb HMc HBC HAB HAC HSm HL HR HX HY HZ HP HM HQ
    · rw [full_26 e2] at HAB
      by_cases e3 : (meetR A C).length ≤ 64
      · rw [full_0 e3] at HAC
        by_cases e4 : (cutR A B).length ≤ 64
        · rw [full_0 e4] at HY
          by_cases e5 : (meetR B C).length ≤ 64
          · rw [full_0 e5] at HM
            exact three_26_26_0_0_0 va vb vc _ _ _ _ _ _ _ _ _ _ _ _ _ _ _ _ _ W  HKn HMa HMb HMc HBC HAB HAC HSm HL HR HX HY HZ HP HM HQ
          · rw [full_26 e5] at HM
            exact three_26_26_0_0_26 va vb vc _ _ _ _ _ _ _ _ _ _ _ _ _ _ _ _ _ W  HKn HMa HMb HMc HBC HAB HAC HSm HL HR HX HY HZ HP HM HQ
        · rw [full_26 e4] at HY
          by_cases e5 : (meetR B C).length ≤ 64
          · rw [full_0 e5] at HM
            exact three_26_26_0_26_0 va vb vc _ _ _ _ _ _ _ _ _ _ _ _ _ _ _ _ _ W  HKn HMa HMb HMc HBC HAB HAC HSm HL HR HX HY HZ HP HM HQ
          · rw [full_26 e5] at HM
            exact three_26_26_0_26_26 va vb vc _ _ _ _ _ _ _ _ _ _ _ _ _ _ _ _ _ W  HKn HMa HMb HMc HBC HAB HAC HSm HL HR HX HY HZ HP HM HQ
      · rw [full_26 e3] at HAC
        by_cases e4 : (cutR A B).length ≤ 64
        · rw [full_0 e4] at HY
          by_cases e5 : (meetR B C).length ≤ 64
          · rw [full_0 e5] at HM
            exact three_26_26_26_0_0 va vb vc _ _ _ _ _ _ _ _ _ _ _ _ _ _ _ _ _ W  HKn HMa HMb HMc HBC HAB HAC HSm HL HR HX HY HZ HP HM HQ
          · rw [full_26 e5] at HM
            exact three_26_26_26_0_26 va vb vc _ _ _ _ _ _ _ _ _ _ _ _ _ _ _ _ _ W  HKn HMa HMb HMc HBC HAB HAC HSm HL HR HX HY HZ HP HM HQ
        · rw [full_26 e4] at HY
          by_cases e5 : (meetR B C).length ≤ 64
          · rw [full_0 e5] at HM
            exact three_26_26_26_26_0 va vb vc _ _ _ _ _ _ _ _ _ _ _ _ _ _ _ _ _ W  HKn HMa HMb HMc HBC HAB HAC HSm HL HR HX HY HZ HP HM HQ
          · rw [full_26 e5] at HM
            exact three_26_26_26_26_26 va vb vc _ _ _ _ _ _ _ _ _ _ _ _ _ _ _ _ _ W  HKn HMa HMb HMc HBC HAB HAC HSm HL HR HX HY HZ HP HM HQ
end Go.Proofs.YtpdafkfclkedjabGreatDoor
