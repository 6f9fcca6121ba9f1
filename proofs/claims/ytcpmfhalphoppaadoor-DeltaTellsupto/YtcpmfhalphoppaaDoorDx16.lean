/- The document's Deeds: four goes over the two sets. Conditions: sizes. -/
import Derived.Test.YtcpmfhalphoppaaDoorDx16a
namespace Go.Proofs.YtcpmfhalphoppaaDoor
open Go.RowKit Go.Maps Go.WideMaps Go.WideElems Dk
set_option maxRecDepth 100000

set_option maxHeartbeats 32000000 in
theorem rDeeds_yes (fs gs : List Fl) (a b : Option Addr) (ca cb : Nat) (w : World) (hlf : fs.length ≤ 1048576) (hlg : gs.length ≤ 1048576) (hcf : IsFiles w a fs) (hcg : IsFiles w b gs)
    (hzf : ∀ f ∈ fs, f.1.size ≤ maxLen ∧ f.2.2.size ≤ maxLen) (hzg : ∀ f ∈ gs, f.1.size ≤ maxLen ∧ f.2.2.size ≤ maxLen) (hf : OkJ fs) (hg : OkJ gs) :
    Calls Tryd.prog 7 #[.slice a fs.length ca, .slice b gs.length cb] w fun e w' => ∃ v, e = .returned (.tuple #[v, .int .i64 0]) ∧ OwnDe w' w.heap.size v (deeds fs gs) ∧ Below w.heap.size w w' := by
  have HF : Hid (Calls Tryd.prog 14 #[.slice a fs.length ca] w fun e w' => e = .returned (.tuple #[.pointer (some ⟨w.heap.size, 0, none⟩), .bool true]) ∧ Below w.heap.size w w' ∧ ∃ lv rv, IsRef w.heap.size w' w.heap.size lv rv (filesD (loadD fs)) [] (-1)) := (rLoad_any fs a ca w hlf hcf hzf).mono fun e w' hq => by
    obtain ⟨hb, ⟨_, he, lv, rv, hd⟩ | ⟨hn, _⟩⟩ := hq
    · exact ⟨he, hb, lv, rv, hd⟩
    · exact absurd hf.1 hn
  have HG : Hid (∀ W, Below w.heap.size w W → Calls Tryd.prog 14 #[.slice b gs.length cb] W fun e w' => e = .returned (.tuple #[.pointer (some ⟨W.heap.size, 0, none⟩), .bool true]) ∧ Below W.heap.size W w' ∧ ∃ lv rv, IsRef W.heap.size w' W.heap.size lv rv (filesD (loadD gs)) [] (-1)) := fun W hW => (rLoad_any gs b cb W hlg (hcg.below hW) hzg).mono fun e w' hq => by
    obtain ⟨hb, ⟨_, he, lv, rv, hd⟩ | ⟨hn, _⟩⟩ := hq
    · exact ⟨he, hb, lv, rv, hd⟩
    · exact absurd hg.1 hn
  have HCF : Hid (∀ W, Below w.heap.size w W → Calls Tryd.prog 15 #[.slice a fs.length ca] W fun e w' => e = .returned (.bool true) ∧ w' = W) := fun W hW => by
    have := clear_any fs a ca W hlf (hcf.below hW) (fun f hf => (hzf f hf).1)
    rwa [(clr_iff fs).2 hf.2] at this
  have HCG : Hid (∀ W, Below w.heap.size w W → Calls Tryd.prog 15 #[.slice b gs.length cb] W fun e w' => e = .returned (.bool true) ∧ w' = W) := fun W hW => by
    have := clear_any gs b cb W hlg (hcg.below hW) (fun f hf => (hzg f hf).1)
    rwa [(clr_iff gs).2 hg.2] at this
  have hLl : (filesD (loadD fs)).length ≤ 1048576 := by rw [← (ordL hf.1).perm.length_eq]; exact hlf
  have hMl : (filesD (loadD gs)).length ≤ 1048576 := by rw [← (ordL hg.1).perm.length_eq]; exact hlg
  have HDE : Hid (deeds fs gs = lU (filesD (loadD gs)) (filesD (loadD fs)).reverse ++ lR (filesD (loadD gs)) (filesD (loadD fs)).reverse ++ lM (filesD (loadD fs)) (filesD (loadD gs)) ++ lP (filesD (loadD fs)) (filesD (loadD gs))) := rfl
  clear hcf hcg hzf hzg hf hg
  generalize deeds fs gs = ds at *
  generalize filesD (loadD fs) = L at *
  generalize filesD (loadD gs) = M at *
  have HPP : Hid (∀ (w' : World) (v : Value), OwnDe w' w.heap.size v ds → Below w.heap.size w w' → ∃ v', Ending.returned (.tuple #[v, .int .i64 0]) = .returned (.tuple #[v', .int .i64 0]) ∧ OwnDe w' w.heap.size v' ds ∧ Below w.heap.size w w') := fun w' v h1 h2 => ⟨v, rfl, h1, h2⟩
  go_enter Tryd.func7, Tryd.ntmps7
  go_upto_region 7 with (first
    | (have _t := HB3; go_at_call 15; refine (HCG.out _ HB02.out).mono ?_; rintro e w4 ⟨rfl, hw4⟩; subst w4)
    | (have _t := HB2; go_at_call 15; refine (HCF.out _ HB02.out).mono ?_; rintro e w3 ⟨rfl, hw3⟩; subst w3; have HB3 : True := trivial)
    | (have _t := HB1; go_at_call 14; refine (HG.out _ HB1.out).mono ?_; rintro e w2 ⟨rfl, hb2, lv2, rv2, hr2⟩; have HB2 := hide3 hb2; have HB02 := hide3 (HB1.out.trans (hb2.mono HB1.out.size)); have HR2 := hide3 hr2; have HR1' := hide3 (HR1.out.below hb2); clear hb2 hr2)
    | (go_at_call 14; refine HF.out.mono ?_; rintro e w1 ⟨rfl, hb1, lv1, rv1, hr1⟩; have HB1 := hide3 hb1; have HR1 := hide3 hr1; clear hb1 hr1))
  obtain ⟨a1, c1, rfl⟩ := row_form HR1'.out.lrow
  obtain ⟨a2, c2, rfl⟩ := row_form HR2.out.lrow
  have HCA : Hid (∀ W, Below w2.heap.size w2 W → W.cell? ⟨w.heap.size, 0, none⟩ = some (.slice a1 L.length c1) ∧ W.cell? ⟨w1.heap.size, 0, none⟩ = some (.slice a2 M.length c2)) := fun W hW => ⟨(HR1'.out.below hW).c0, (HR2.out.below hW).c0⟩
  have HAL : Hid (∀ W s, Below w2.heap.size w2 W → Calls Tryd.prog 16 #[.slice a1 L.length c1, .string s] W fun e w' => e = .returned (.tuple #[.int .i64 (atL L s).1, .string (atL L s).2]) ∧ Below W.heap.size W w') := fun W s hW => at_any (HR1'.out.below hW).lrow hLl s
  have HAM : Hid (∀ W s, Below w2.heap.size w2 W → Calls Tryd.prog 16 #[.slice a2 M.length c2, .string s] W fun e w' => e = .returned (.tuple #[.int .i64 (atL M s).1, .string (atL M s).2]) ∧ Below W.heap.size W w') := fun W s hW => at_any (HR2.out.below hW).lrow hMl s
  have HFL : Hid (∀ j (hj : j < L.length), ∃ g, a1 = some ⟨g, 0, none⟩ ∧ ∀ W, Below w2.heap.size w2 W → W.cell? ⟨g, j * 3, none⟩ = some (.string L[j].1) ∧ W.cell? ⟨g, j * 3 + 1, none⟩ = some (.bool L[j].2.1) ∧ W.cell? ⟨g, j * 3 + 1 + 1, none⟩ = some (.string L[j].2.2)) := fun j hj => by
    obtain ⟨g, rfl⟩ := row_shape HR1'.out.lrow (by omega)
    exact ⟨g, rfl, fun W hW => file_cells (HR1'.out.below hW).lrow j hj⟩
  have HFM : Hid (∀ j (hj : j < M.length), ∃ g, a2 = some ⟨g, 0, none⟩ ∧ ∀ W, Below w2.heap.size w2 W → W.cell? ⟨g, j * 3, none⟩ = some (.string M[j].1) ∧ W.cell? ⟨g, j * 3 + 1, none⟩ = some (.bool M[j].2.1) ∧ W.cell? ⟨g, j * 3 + 1 + 1, none⟩ = some (.string M[j].2.2)) := fun j hj => by
    obtain ⟨g, rfl⟩ := row_shape HR2.out.lrow (by omega)
    exact ⟨g, rfl, fun W hW => file_cells (HR2.out.below hW).lrow j hj⟩
  have HS2 : Hid (w.heap.size ≤ w2.heap.size) := HB02.out.size
  clear HR1 HR2 HR1' HF HG HCF HCG HB1 HB2
  have HBW : Hid (Below w2.heap.size w2 w2) := Below.refl _ _
  obtain ⟨k0, k1⟩ := HCA.out w2 HBW.out
  go_wp2_with fail
  go_loopw [12, 13] (fun v12 vi wr => ∃ k : Nat, k ≤ L.length ∧ vi = .int .i64 ((k : Int) - 1) ∧ OwnDe wr w2.heap.size v12 (lU M (L.drop k).reverse) ∧ Below w2.heap.size w2 wr) (fun _ v _ => (intOf v + 1).toNat)
  case atStart => exact ⟨L.length, Nat.le_refl _, by go_num, by rw [List.drop_length]; exact OwnDe.nil _ _, HBW.out⟩
  case round =>
    obtain ⟨k, hk, rfl, ho, hbr⟩ := hrel
    have HO := hide3 ho
    have HBR := hide3 hbr
    clear ho hbr
    clear k0 k1
    obtain ⟨k0, k1⟩ := HCA.out wr HBR.out
    have hLn : (lU M (L.drop k).reverse).length ≤ 8388608 := by
      have := len_down dU (wU M) L k
      unfold lU
      omega
    by_cases hlt : 0 < k
    · obtain ⟨j, rfl⟩ : ∃ j, k = j + 1 := ⟨k - 1, by omega⟩
      have hj : j < L.length := by omega
      have hcast : (((j + 1 : Nat) : Int) - 1) = (j : Int) := by omega
      rw [hcast]
      have HST : Hid (lU M (L.drop j).reverse = lU M (L.drop (j + 1)).reverse ++ (if wU M L[j] = true then [dU L[j]] else [])) := by unfold Hid lU; rw [down_one hj]
      have hji : (j : Int) < (L.length : Int) := by omega
      have hj0 : (0 : Int) ≤ (j : Int) := by omega
      obtain ⟨g, hga, HCX⟩ := HFL.out j hj
      subst hga
      obtain ⟨c0x, c1x, c2x⟩ := HCX wr HBR.out
      have HCX2 := hide3 HCX
      clear HCX
      have HAT := hide3 (fun W => HAM.out W L[j].1)
      have HWD : Hid (wU M L[j] = (!L[j].2.1 && !((atL M L[j].1).1 == 1))) := rfl
      have HDD : Hid (dU L[j] = ⟨1, L[j].1, ⟨#[]⟩⟩) := rfl
      rw [HDD.out] at HST
      have HB0 : Hid (Below wr.heap.size wr wr.drew) := (Below.refl _ _).drew
      have HB2r : Hid (w2.heap.size ≤ wr.heap.size) := HBR.out.size
      clear HDD
      generalize wU M L[j] = wb at *
      generalize hat : atL M L[j].1 = at0 at *
      clear hat
      obtain ⟨kk, tt⟩ := at0
      simp only at HAT HWD
      generalize L[j].1 = p at *
      generalize L[j].2.1 = c at *
      generalize L[j].2.2 = t at *
      generalize (lU M (L.drop (j + 1)).reverse) = old at *
      obtain ⟨nw, hnw⟩ : ∃ nw, nw = lU M (L.drop j).reverse := ⟨_, rfl⟩
      rw [← hnw] at HST
      have HNW := hide3 hnw
      clear hnw
      cases c
      · cases hk1 : (kk == 1)
        · have hk2 : (kk != 1) = true := by unfold bne; rw [hk1]; rfl
          have HR1 : Hid (nw = old ++ [⟨1, p, ⟨#[]⟩⟩]) := by
            have hwb : wb = true := by rw [HWD.out, hk1]; rfl
            have := HST.out
            rw [hwb] at this
            unfold Hid
            simpa using this
          clear HST HWD
          go_wp2_with fail
          go_region_held3 (fun w' => w'.cell? ⟨w.heap.size, 0, none⟩ = some (.slice (some ⟨g, 0, none⟩) L.length c1) ∧ w'.cell? ⟨w1.heap.size, 0, none⟩ = some (.slice a2 M.length c2) ∧ w'.cell? ⟨g, j * 3, none⟩ = some (.string p) ∧ w'.cell? ⟨g, j * 3 + 1, none⟩ = some (.bool false) ∧ w'.cell? ⟨g, j * 3 + 1 + 1, none⟩ = some (.string t)) (go_keep) (first
            | (go_at_call 16; refine (HAT.out _ (HBR.out.trans (HB0.out.mono HB2r.out))).mono ?_; rintro e w5 ⟨rfl, hb5⟩; have HB5 := hide3 (HB0.out.trans (hb5.mono HB0.out.size)); have HB25 := hide3 (HBR.out.trans (HB5.out.mono HB2r.out)); have HO5 := hide3 (HO.out.below HB5.out); have HS5 : Hid (w2.heap.size ≤ w5.heap.size) := HB25.out.size; obtain ⟨y0, y1⟩ := HCA.out _ HB25.out; obtain ⟨z0, z1, z2⟩ := HCX2.out _ HB25.out; clear hb5))
          all_goals go_wp2_with (at_builtin; refine wp_de (B := w2.heap.size) (wx := w5) (v := u12) (ds := old) rfl (.tmp 92) (.tmp 102) rfl rfl HO5.out HS5.out ⟨1, p, ⟨#[]⟩⟩ rfl rfl (by omega) ?_; intro v7 w7 ho7 hg7; have HO7 := hide3 ho7; have HB7 := hide3 (HB25.out.grown hg7 HB25.out.size (fun q hq => (HO5.out.lt hq).2)); clear ho7 hg7)
          all_goals exact ⟨⟨j, by omega, by go_num, by rw [← HNW.out, HR1.out]; exact HO7.out, HB7.out⟩, by first | (simp [intOf]; done) | (simp [intOf]; omega)⟩
        · have hk2 : (kk != 1) = false := by unfold bne; rw [hk1]; rfl
          have HR1 : Hid (nw = old) := by
            have hwb : wb = false := by rw [HWD.out, hk1]; rfl
            have := HST.out
            rw [hwb] at this
            unfold Hid
            simpa using this
          clear HST HWD
          go_wp2_with fail
          go_region_held3 (fun w' => w'.cell? ⟨w.heap.size, 0, none⟩ = some (.slice (some ⟨g, 0, none⟩) L.length c1) ∧ w'.cell? ⟨w1.heap.size, 0, none⟩ = some (.slice a2 M.length c2) ∧ w'.cell? ⟨g, j * 3, none⟩ = some (.string p) ∧ w'.cell? ⟨g, j * 3 + 1, none⟩ = some (.bool false) ∧ w'.cell? ⟨g, j * 3 + 1 + 1, none⟩ = some (.string t)) (go_keep) (first
            | (go_at_call 16; refine (HAT.out _ (HBR.out.trans (HB0.out.mono HB2r.out))).mono ?_; rintro e w5 ⟨rfl, hb5⟩; have HB5 := hide3 (HB0.out.trans (hb5.mono HB0.out.size)); have HB25 := hide3 (HBR.out.trans (HB5.out.mono HB2r.out)); have HO5 := hide3 (HO.out.below HB5.out); have HS5 : Hid (w2.heap.size ≤ w5.heap.size) := HB25.out.size; obtain ⟨y0, y1⟩ := HCA.out _ HB25.out; obtain ⟨z0, z1, z2⟩ := HCX2.out _ HB25.out; clear hb5))
          all_goals go_wp2_with fail
          all_goals exact ⟨⟨j, by omega, by go_num, by rw [← HNW.out, HR1.out]; exact HO5.out, HB25.out⟩, by first | (simp [intOf]; done) | (simp [intOf]; omega)⟩
      · have HR1 : Hid (nw = old) := by
          have hwb : wb = false := by rw [HWD.out]; rfl
          have := HST.out
          rw [hwb] at this
          unfold Hid
          simpa using this
        clear HST HWD
        go_wp2_with fail
        go_region_held3 (fun w' => w'.cell? ⟨w.heap.size, 0, none⟩ = some (.slice (some ⟨g, 0, none⟩) L.length c1) ∧ w'.cell? ⟨w1.heap.size, 0, none⟩ = some (.slice a2 M.length c2) ∧ w'.cell? ⟨g, j * 3, none⟩ = some (.string p) ∧ w'.cell? ⟨g, j * 3 + 1, none⟩ = some (.bool true) ∧ w'.cell? ⟨g, j * 3 + 1 + 1, none⟩ = some (.string t)) (go_keep) (first
          | (go_at_call 16; refine (HAT.out _ (HBR.out.trans (HB0.out.mono HB2r.out))).mono ?_; rintro e w5 ⟨rfl, hb5⟩; have HB5 := hide3 (HB0.out.trans (hb5.mono HB0.out.size)); have HB25 := hide3 (HBR.out.trans (HB5.out.mono HB2r.out)); have HO5 := hide3 (HO.out.below HB5.out); have HS5 : Hid (w2.heap.size ≤ w5.heap.size) := HB25.out.size; obtain ⟨y0, y1⟩ := HCA.out _ HB25.out; obtain ⟨z0, z1, z2⟩ := HCX2.out _ HB25.out; clear hb5))
        all_goals go_wp2_with fail
        all_goals exact ⟨⟨j, by omega, by go_num, by rw [← HNW.out, HR1.out]; exact HO5.out, HB25.out⟩, by first | (simp [intOf]; done) | (simp [intOf]; omega)⟩
    · obtain rfl : k = 0 := by omega
      rw [show (((0 : Nat) : Int) - 1) = -1 from rfl]
      rw [List.drop_zero] at HO
      obtain ⟨A1, hA1⟩ : ∃ A, A = lU M L.reverse := ⟨_, rfl⟩
      rw [← hA1] at HO
      have hlA1 : A1.length ≤ 1048576 := by
        have := len_down dU (wU M) L 0
        rw [List.drop_zero] at this
        rw [hA1]
        unfold lU
        omega
      have HE1 := hide3 hA1
      clear hA1 hLn
      obtain ⟨wv1, rfl⟩ : ∃ x, x = wr := ⟨wr, rfl⟩
      go_wp2_with fail
      go_loopw [12, 16] (fun v12 vi wr => ∃ k : Nat, k ≤ L.length ∧ vi = .int .i64 ((k : Int) - 1) ∧ OwnDe wr w2.heap.size v12 (A1 ++ lR M (L.drop k).reverse) ∧ Below w2.heap.size w2 wr) (fun _ v _ => (intOf v + 1).toNat)
      case atStart => exact ⟨L.length, Nat.le_refl _, by go_num, by rw [List.drop_length, show lR M (List.reverse []) = [] from rfl, List.append_nil]; exact HO.out, HBR.out⟩
      case round =>
        obtain ⟨k, hk, rfl, ho, hbr⟩ := hrel
        have HO := hide3 ho
        have HBR := hide3 hbr
        clear ho hbr
        clear k0 k1
        obtain ⟨k0, k1⟩ := HCA.out wr HBR.out
        have hLn : (A1 ++ lR M (L.drop k).reverse).length ≤ 8388608 := by
          have := len_down dR (wR M) L k
          rw [List.length_append]
          unfold lR
          omega
        by_cases hlt : 0 < k
        · obtain ⟨j, rfl⟩ : ∃ j, k = j + 1 := ⟨k - 1, by omega⟩
          have hj : j < L.length := by omega
          have hcast : (((j + 1 : Nat) : Int) - 1) = (j : Int) := by omega
          rw [hcast]
          have HST : Hid (A1 ++ lR M (L.drop j).reverse = A1 ++ lR M (L.drop (j + 1)).reverse ++ (if wR M L[j] = true then [dR L[j]] else [])) := by unfold Hid lR; rw [down_one hj, List.append_assoc]
          have hji : (j : Int) < (L.length : Int) := by omega
          have hj0 : (0 : Int) ≤ (j : Int) := by omega
          obtain ⟨g, hga, HCX⟩ := HFL.out j hj
          subst hga
          obtain ⟨c0x, c1x, c2x⟩ := HCX wr HBR.out
          have HCX2 := hide3 HCX
          clear HCX
          have HAT := hide3 (fun W => HAM.out W L[j].1)
          have HWD : Hid (wR M L[j] = (L[j].2.1 && !((atL M L[j].1).1 == 2))) := rfl
          have HDD : Hid (dR L[j] = ⟨2, L[j].1, ⟨#[]⟩⟩) := rfl
          rw [HDD.out] at HST
          have HB0 : Hid (Below wr.heap.size wr wr.drew) := (Below.refl _ _).drew
          have HB2r : Hid (w2.heap.size ≤ wr.heap.size) := HBR.out.size
          clear HDD
          generalize wR M L[j] = wb at *
          generalize hat : atL M L[j].1 = at0 at *
          clear hat
          obtain ⟨kk, tt⟩ := at0
          simp only at HAT HWD
          generalize L[j].1 = p at *
          generalize L[j].2.1 = c at *
          generalize L[j].2.2 = t at *
          generalize (A1 ++ lR M (L.drop (j + 1)).reverse) = old at *
          obtain ⟨nw, hnw⟩ : ∃ nw, nw = A1 ++ lR M (L.drop j).reverse := ⟨_, rfl⟩
          rw [← hnw] at HST
          have HNW := hide3 hnw
          clear hnw
          cases c
          · have HR1 : Hid (nw = old) := by
              have hwb : wb = false := by rw [HWD.out]; rfl
              have := HST.out
              rw [hwb] at this
              unfold Hid
              simpa using this
            clear HST HWD
            go_wp2_with fail
            go_region_held3 (fun w' => w'.cell? ⟨w.heap.size, 0, none⟩ = some (.slice (some ⟨g, 0, none⟩) L.length c1) ∧ w'.cell? ⟨w1.heap.size, 0, none⟩ = some (.slice a2 M.length c2) ∧ w'.cell? ⟨g, j * 3, none⟩ = some (.string p) ∧ w'.cell? ⟨g, j * 3 + 1, none⟩ = some (.bool false) ∧ w'.cell? ⟨g, j * 3 + 1 + 1, none⟩ = some (.string t)) (go_keep) (first
              | (go_at_call 16; refine (HAT.out _ (HBR.out.trans (HB0.out.mono HB2r.out))).mono ?_; rintro e w5 ⟨rfl, hb5⟩; have HB5 := hide3 (HB0.out.trans (hb5.mono HB0.out.size)); have HB25 := hide3 (HBR.out.trans (HB5.out.mono HB2r.out)); have HO5 := hide3 (HO.out.below HB5.out); have HS5 : Hid (w2.heap.size ≤ w5.heap.size) := HB25.out.size; obtain ⟨y0, y1⟩ := HCA.out _ HB25.out; obtain ⟨z0, z1, z2⟩ := HCX2.out _ HB25.out; clear hb5))
            all_goals go_wp2_with fail
            all_goals exact ⟨⟨j, by omega, by go_num, by rw [← HNW.out, HR1.out]; exact HO5.out, HB25.out⟩, by first | (simp [intOf]; done) | (simp [intOf]; omega)⟩
          · cases hk1 : (kk == 2)
            · have hk2 : (kk != 2) = true := by unfold bne; rw [hk1]; rfl
              have HR1 : Hid (nw = old ++ [⟨2, p, ⟨#[]⟩⟩]) := by
                have hwb : wb = true := by rw [HWD.out, hk1]; rfl
                have := HST.out
                rw [hwb] at this
                unfold Hid
                simpa using this
              clear HST HWD
              go_wp2_with fail
              go_region_held3 (fun w' => w'.cell? ⟨w.heap.size, 0, none⟩ = some (.slice (some ⟨g, 0, none⟩) L.length c1) ∧ w'.cell? ⟨w1.heap.size, 0, none⟩ = some (.slice a2 M.length c2) ∧ w'.cell? ⟨g, j * 3, none⟩ = some (.string p) ∧ w'.cell? ⟨g, j * 3 + 1, none⟩ = some (.bool true) ∧ w'.cell? ⟨g, j * 3 + 1 + 1, none⟩ = some (.string t)) (go_keep) (first
                | (go_at_call 16; refine (HAT.out _ (HBR.out.trans (HB0.out.mono HB2r.out))).mono ?_; rintro e w5 ⟨rfl, hb5⟩; have HB5 := hide3 (HB0.out.trans (hb5.mono HB0.out.size)); have HB25 := hide3 (HBR.out.trans (HB5.out.mono HB2r.out)); have HO5 := hide3 (HO.out.below HB5.out); have HS5 : Hid (w2.heap.size ≤ w5.heap.size) := HB25.out.size; obtain ⟨y0, y1⟩ := HCA.out _ HB25.out; obtain ⟨z0, z1, z2⟩ := HCX2.out _ HB25.out; clear hb5))
              all_goals go_wp2_with (at_builtin; refine wp_de (B := w2.heap.size) (wx := w5) (v := u12) (ds := old) rfl (.tmp 142) (.tmp 152) rfl rfl HO5.out HS5.out ⟨2, p, ⟨#[]⟩⟩ rfl rfl (by omega) ?_; intro v7 w7 ho7 hg7; have HO7 := hide3 ho7; have HB7 := hide3 (HB25.out.grown hg7 HB25.out.size (fun q hq => (HO5.out.lt hq).2)); clear ho7 hg7)
              all_goals exact ⟨⟨j, by omega, by go_num, by rw [← HNW.out, HR1.out]; exact HO7.out, HB7.out⟩, by first | (simp [intOf]; done) | (simp [intOf]; omega)⟩
            · have hk2 : (kk != 2) = false := by unfold bne; rw [hk1]; rfl
              have HR1 : Hid (nw = old) := by
                have hwb : wb = false := by rw [HWD.out, hk1]; rfl
                have := HST.out
                rw [hwb] at this
                unfold Hid
                simpa using this
              clear HST HWD
              go_wp2_with fail
              go_region_held3 (fun w' => w'.cell? ⟨w.heap.size, 0, none⟩ = some (.slice (some ⟨g, 0, none⟩) L.length c1) ∧ w'.cell? ⟨w1.heap.size, 0, none⟩ = some (.slice a2 M.length c2) ∧ w'.cell? ⟨g, j * 3, none⟩ = some (.string p) ∧ w'.cell? ⟨g, j * 3 + 1, none⟩ = some (.bool true) ∧ w'.cell? ⟨g, j * 3 + 1 + 1, none⟩ = some (.string t)) (go_keep) (first
                | (go_at_call 16; refine (HAT.out _ (HBR.out.trans (HB0.out.mono HB2r.out))).mono ?_; rintro e w5 ⟨rfl, hb5⟩; have HB5 := hide3 (HB0.out.trans (hb5.mono HB0.out.size)); have HB25 := hide3 (HBR.out.trans (HB5.out.mono HB2r.out)); have HO5 := hide3 (HO.out.below HB5.out); have HS5 : Hid (w2.heap.size ≤ w5.heap.size) := HB25.out.size; obtain ⟨y0, y1⟩ := HCA.out _ HB25.out; obtain ⟨z0, z1, z2⟩ := HCX2.out _ HB25.out; clear hb5))
              all_goals go_wp2_with fail
              all_goals exact ⟨⟨j, by omega, by go_num, by rw [← HNW.out, HR1.out]; exact HO5.out, HB25.out⟩, by first | (simp [intOf]; done) | (simp [intOf]; omega)⟩
        · obtain rfl : k = 0 := by omega
          rw [show (((0 : Nat) : Int) - 1) = -1 from rfl]
          rw [List.drop_zero] at HO
          obtain ⟨A2, hA2⟩ : ∃ A, A = A1 ++ lR M L.reverse := ⟨_, rfl⟩
          rw [← hA2] at HO
          have hlA2 : A2.length ≤ 2097152 := by
            have := len_down dR (wR M) L 0
            rw [List.drop_zero] at this
            rw [hA2]
            rw [List.length_append]
            unfold lR
            omega
          have HE2 := hide3 hA2
          clear hA2 hLn
          obtain ⟨wv2, rfl⟩ : ∃ x, x = wr := ⟨wr, rfl⟩
          go_wp2_with fail
          go_loopw [12, 19] (fun v12 vi wr => ∃ k : Nat, k ≤ M.length ∧ vi = .int .i64 (k : Int) ∧ OwnDe wr w2.heap.size v12 (A2 ++ lM L (M.take k)) ∧ Below w2.heap.size w2 wr) (fun _ v _ => M.length - (intOf v).toNat)
          case atStart => exact ⟨0, Nat.zero_le _, rfl, by rw [List.take_zero, show lM L [] = [] from rfl, List.append_nil]; exact HO.out, HBR.out⟩
          case round =>
            obtain ⟨k, hk, rfl, ho, hbr⟩ := hrel
            have HO := hide3 ho
            have HBR := hide3 hbr
            clear ho hbr
            clear k0 k1
            obtain ⟨k0, k1⟩ := HCA.out wr HBR.out
            have hLn : (A2 ++ lM L (M.take k)).length ≤ 8388608 := by
              have := len_up dM (wM L) M k
              rw [List.length_append]
              unfold lM
              omega
            by_cases hlt : k < M.length
            · obtain ⟨j, rfl⟩ : ∃ j, j = k := ⟨k, rfl⟩
              have hj : j < M.length := hlt
              have HST : Hid (A2 ++ lM L (M.take (j + 1)) = A2 ++ lM L (M.take j) ++ (if wM L M[j] = true then [dM M[j]] else [])) := by unfold Hid lM; rw [up_one hj, List.append_assoc]
              have hji : (j : Int) < (M.length : Int) := by omega
              have hj0 : (0 : Int) ≤ (j : Int) := by omega
              obtain ⟨g, hga, HCX⟩ := HFM.out j hj
              subst hga
              obtain ⟨c0x, c1x, c2x⟩ := HCX wr HBR.out
              have HCX2 := hide3 HCX
              clear HCX
              have HAT := hide3 (fun W => HAL.out W M[j].1)
              have HWD : Hid (wM L M[j] = (M[j].2.1 && !((atL L M[j].1).1 == 2))) := rfl
              have HDD : Hid (dM M[j] = ⟨3, M[j].1, ⟨#[]⟩⟩) := rfl
              rw [HDD.out] at HST
              have HB0 : Hid (Below wr.heap.size wr wr.drew) := (Below.refl _ _).drew
              have HB2r : Hid (w2.heap.size ≤ wr.heap.size) := HBR.out.size
              clear HDD
              generalize wM L M[j] = wb at *
              generalize hat : atL L M[j].1 = at0 at *
              clear hat
              obtain ⟨kk, tt⟩ := at0
              simp only at HAT HWD
              generalize M[j].1 = p at *
              generalize M[j].2.1 = c at *
              generalize M[j].2.2 = t at *
              generalize (A2 ++ lM L (M.take j)) = old at *
              obtain ⟨nw, hnw⟩ : ∃ nw, nw = A2 ++ lM L (M.take (j + 1)) := ⟨_, rfl⟩
              rw [← hnw] at HST
              have HNW := hide3 hnw
              clear hnw
              cases c
              · have HR1 : Hid (nw = old) := by
                  have hwb : wb = false := by rw [HWD.out]; rfl
                  have := HST.out
                  rw [hwb] at this
                  unfold Hid
                  simpa using this
                clear HST HWD
                go_wp2_with fail
                go_region_held3 (fun w' => w'.cell? ⟨w.heap.size, 0, none⟩ = some (.slice a1 L.length c1) ∧ w'.cell? ⟨w1.heap.size, 0, none⟩ = some (.slice (some ⟨g, 0, none⟩) M.length c2) ∧ w'.cell? ⟨g, j * 3, none⟩ = some (.string p) ∧ w'.cell? ⟨g, j * 3 + 1, none⟩ = some (.bool false) ∧ w'.cell? ⟨g, j * 3 + 1 + 1, none⟩ = some (.string t)) (go_keep) (first
                  | (go_at_call 16; refine (HAT.out _ (HBR.out.trans (HB0.out.mono HB2r.out))).mono ?_; rintro e w5 ⟨rfl, hb5⟩; have HB5 := hide3 (HB0.out.trans (hb5.mono HB0.out.size)); have HB25 := hide3 (HBR.out.trans (HB5.out.mono HB2r.out)); have HO5 := hide3 (HO.out.below HB5.out); have HS5 : Hid (w2.heap.size ≤ w5.heap.size) := HB25.out.size; obtain ⟨y0, y1⟩ := HCA.out _ HB25.out; obtain ⟨z0, z1, z2⟩ := HCX2.out _ HB25.out; clear hb5))
                all_goals go_wp2_with fail
                all_goals exact ⟨⟨j + 1, by omega, by go_num, by rw [← HNW.out, HR1.out]; exact HO5.out, HB25.out⟩, by first | (simp [intOf]; done) | (simp [intOf]; omega)⟩
              · cases hk1 : (kk == 2)
                · have hk2 : (kk != 2) = true := by unfold bne; rw [hk1]; rfl
                  have HR1 : Hid (nw = old ++ [⟨3, p, ⟨#[]⟩⟩]) := by
                    have hwb : wb = true := by rw [HWD.out, hk1]; rfl
                    have := HST.out
                    rw [hwb] at this
                    unfold Hid
                    simpa using this
                  clear HST HWD
                  go_wp2_with fail
                  go_region_held3 (fun w' => w'.cell? ⟨w.heap.size, 0, none⟩ = some (.slice a1 L.length c1) ∧ w'.cell? ⟨w1.heap.size, 0, none⟩ = some (.slice (some ⟨g, 0, none⟩) M.length c2) ∧ w'.cell? ⟨g, j * 3, none⟩ = some (.string p) ∧ w'.cell? ⟨g, j * 3 + 1, none⟩ = some (.bool true) ∧ w'.cell? ⟨g, j * 3 + 1 + 1, none⟩ = some (.string t)) (go_keep) (first
                    | (go_at_call 16; refine (HAT.out _ (HBR.out.trans (HB0.out.mono HB2r.out))).mono ?_; rintro e w5 ⟨rfl, hb5⟩; have HB5 := hide3 (HB0.out.trans (hb5.mono HB0.out.size)); have HB25 := hide3 (HBR.out.trans (HB5.out.mono HB2r.out)); have HO5 := hide3 (HO.out.below HB5.out); have HS5 : Hid (w2.heap.size ≤ w5.heap.size) := HB25.out.size; obtain ⟨y0, y1⟩ := HCA.out _ HB25.out; obtain ⟨z0, z1, z2⟩ := HCX2.out _ HB25.out; clear hb5))
                  all_goals go_wp2_with (at_builtin; refine wp_de (B := w2.heap.size) (wx := w5) (v := u12) (ds := old) rfl (.tmp 191) (.tmp 201) rfl rfl HO5.out HS5.out ⟨3, p, ⟨#[]⟩⟩ rfl rfl (by omega) ?_; intro v7 w7 ho7 hg7; have HO7 := hide3 ho7; have HB7 := hide3 (HB25.out.grown hg7 HB25.out.size (fun q hq => (HO5.out.lt hq).2)); clear ho7 hg7)
                  all_goals exact ⟨⟨j + 1, by omega, by go_num, by rw [← HNW.out, HR1.out]; exact HO7.out, HB7.out⟩, by first | (simp [intOf]; done) | (simp [intOf]; omega)⟩
                · have hk2 : (kk != 2) = false := by unfold bne; rw [hk1]; rfl
                  have HR1 : Hid (nw = old) := by
                    have hwb : wb = false := by rw [HWD.out, hk1]; rfl
                    have := HST.out
                    rw [hwb] at this
                    unfold Hid
                    simpa using this
                  clear HST HWD
                  go_wp2_with fail
                  go_region_held3 (fun w' => w'.cell? ⟨w.heap.size, 0, none⟩ = some (.slice a1 L.length c1) ∧ w'.cell? ⟨w1.heap.size, 0, none⟩ = some (.slice (some ⟨g, 0, none⟩) M.length c2) ∧ w'.cell? ⟨g, j * 3, none⟩ = some (.string p) ∧ w'.cell? ⟨g, j * 3 + 1, none⟩ = some (.bool true) ∧ w'.cell? ⟨g, j * 3 + 1 + 1, none⟩ = some (.string t)) (go_keep) (first
                    | (go_at_call 16; refine (HAT.out _ (HBR.out.trans (HB0.out.mono HB2r.out))).mono ?_; rintro e w5 ⟨rfl, hb5⟩; have HB5 := hide3 (HB0.out.trans (hb5.mono HB0.out.size)); have HB25 := hide3 (HBR.out.trans (HB5.out.mono HB2r.out)); have HO5 := hide3 (HO.out.below HB5.out); have HS5 : Hid (w2.heap.size ≤ w5.heap.size) := HB25.out.size; obtain ⟨y0, y1⟩ := HCA.out _ HB25.out; obtain ⟨z0, z1, z2⟩ := HCX2.out _ HB25.out; clear hb5))
                  all_goals go_wp2_with fail
                  all_goals exact ⟨⟨j + 1, by omega, by go_num, by rw [← HNW.out, HR1.out]; exact HO5.out, HB25.out⟩, by first | (simp [intOf]; done) | (simp [intOf]; omega)⟩
            · obtain rfl : k = M.length := by omega
              rw [List.take_length] at HO
              obtain ⟨A3, hA3⟩ : ∃ A, A = A2 ++ lM L M := ⟨_, rfl⟩
              rw [← hA3] at HO
              have hlA3 : A3.length ≤ 3145728 := by
                have := len_up dM (wM L) M M.length
                rw [List.take_length] at this
                rw [hA3]
                rw [List.length_append]
                unfold lM
                omega
              have HE3 := hide3 hA3
              clear hA3 hLn
              obtain ⟨wv3, rfl⟩ : ∃ x, x = wr := ⟨wr, rfl⟩
              go_wp2_with fail
              go_loopw [12, 22] (fun v12 vi wr => ∃ k : Nat, k ≤ M.length ∧ vi = .int .i64 (k : Int) ∧ OwnDe wr w2.heap.size v12 (A3 ++ lP L (M.take k)) ∧ Below w2.heap.size w2 wr) (fun _ v _ => M.length - (intOf v).toNat)
              case atStart => exact ⟨0, Nat.zero_le _, rfl, by rw [List.take_zero, show lP L [] = [] from rfl, List.append_nil]; exact HO.out, HBR.out⟩
              case round =>
                obtain ⟨k, hk, rfl, ho, hbr⟩ := hrel
                have HO := hide3 ho
                have HBR := hide3 hbr
                clear ho hbr
                clear k0 k1
                obtain ⟨k0, k1⟩ := HCA.out wr HBR.out
                have hLn : (A3 ++ lP L (M.take k)).length ≤ 8388608 := by
                  have := len_up dP (wP L) M k
                  rw [List.length_append]
                  unfold lP
                  omega
                by_cases hlt : k < M.length
                · obtain ⟨j, rfl⟩ : ∃ j, j = k := ⟨k, rfl⟩
                  have hj : j < M.length := hlt
                  have HST : Hid (A3 ++ lP L (M.take (j + 1)) = A3 ++ lP L (M.take j) ++ (if wP L M[j] = true then [dP M[j]] else [])) := by unfold Hid lP; rw [up_one hj, List.append_assoc]
                  have hji : (j : Int) < (M.length : Int) := by omega
                  have hj0 : (0 : Int) ≤ (j : Int) := by omega
                  obtain ⟨g, hga, HCX⟩ := HFM.out j hj
                  subst hga
                  obtain ⟨c0x, c1x, c2x⟩ := HCX wr HBR.out
                  have HCX2 := hide3 HCX
                  clear HCX
                  have HAT := hide3 (fun W => HAL.out W M[j].1)
                  have HWD : Hid (wP L M[j] = (!M[j].2.1 && (!((atL L M[j].1).1 == 1) || !((atL L M[j].1).2.toList == M[j].2.2.toList)))) := rfl
                  have HDD : Hid (dP M[j] = ⟨4, M[j].1, M[j].2.2⟩) := rfl
                  rw [HDD.out] at HST
                  have HB0 : Hid (Below wr.heap.size wr wr.drew) := (Below.refl _ _).drew
                  have HB2r : Hid (w2.heap.size ≤ wr.heap.size) := HBR.out.size
                  clear HDD
                  generalize wP L M[j] = wb at *
                  generalize hat : atL L M[j].1 = at0 at *
                  clear hat
                  obtain ⟨kk, tt⟩ := at0
                  simp only at HAT HWD
                  generalize M[j].1 = p at *
                  generalize M[j].2.1 = c at *
                  generalize M[j].2.2 = t at *
                  generalize (A3 ++ lP L (M.take j)) = old at *
                  obtain ⟨nw, hnw⟩ : ∃ nw, nw = A3 ++ lP L (M.take (j + 1)) := ⟨_, rfl⟩
                  rw [← hnw] at HST
                  have HNW := hide3 hnw
                  clear hnw
                  cases c
                  · cases hk1 : (kk == 1)
                    · have hk2 : (kk != 1) = true := by unfold bne; rw [hk1]; rfl
                      have HR1 : Hid (nw = old ++ [⟨4, p, t⟩]) := by
                        have hwb : wb = true := by rw [HWD.out, hk1]; rfl
                        have := HST.out
                        rw [hwb] at this
                        unfold Hid
                        simpa using this
                      clear HST HWD
                      go_wp2_with fail
                      go_region_held3 (fun w' => w'.cell? ⟨w.heap.size, 0, none⟩ = some (.slice a1 L.length c1) ∧ w'.cell? ⟨w1.heap.size, 0, none⟩ = some (.slice (some ⟨g, 0, none⟩) M.length c2) ∧ w'.cell? ⟨g, j * 3, none⟩ = some (.string p) ∧ w'.cell? ⟨g, j * 3 + 1, none⟩ = some (.bool false) ∧ w'.cell? ⟨g, j * 3 + 1 + 1, none⟩ = some (.string t)) (go_keep) (first
                        | (go_at_call 16; refine (HAT.out _ (HBR.out.trans (HB0.out.mono HB2r.out))).mono ?_; rintro e w5 ⟨rfl, hb5⟩; have HB5 := hide3 (HB0.out.trans (hb5.mono HB0.out.size)); have HB25 := hide3 (HBR.out.trans (HB5.out.mono HB2r.out)); have HO5 := hide3 (HO.out.below HB5.out); have HS5 : Hid (w2.heap.size ≤ w5.heap.size) := HB25.out.size; obtain ⟨y0, y1⟩ := HCA.out _ HB25.out; obtain ⟨z0, z1, z2⟩ := HCX2.out _ HB25.out; clear hb5))
                      all_goals go_wp2_with fail
                      all_goals have HB5D : Hid (Below w2.heap.size w2 w5.drew) := HB25.out.drew
                      all_goals have HO5D := hide3 (HO5.out.below (Below.refl _ w5).drew)
                      all_goals obtain ⟨r0, r1⟩ := HCA.out _ HB5D.out
                      all_goals obtain ⟨s0, s1, s2⟩ := HCX2.out _ HB5D.out
                      all_goals have HKP : Hid (∀ w7, w5.drew.grownBy w7 u12.ownBlock → Below w2.heap.size w2 w7) := fun w7 hg7 => HB5D.out.grown hg7 HB5D.out.size (fun q hq => (HO5D.out.lt hq).2)
                      all_goals go_region_held3 (fun w' => w'.cell? ⟨w1.heap.size, 0, none⟩ = some (.slice (some ⟨g, 0, none⟩) M.length c2) ∧ w'.cell? ⟨g, j * 3, none⟩ = some (.string p) ∧ w'.cell? ⟨g, j * 3 + 1 + 1, none⟩ = some (.string t)) (go_keep) (first
                        | (refine step_de (B := w2.heap.size) (M := w5.heap.size) (wx := w5.drew) (v := u12) (ds := old) rfl (.tmp 253) (.tmp 271) rfl rfl HO5D.out HS5.out ⟨4, p, t⟩ rfl rfl (by omega) ?_; intro v7 w7 ho7 hg7; have HO7 := hide3 ho7; have HB7 := hide3 (HKP.out _ hg7); obtain ⟨q0, q1⟩ := HCA.out _ HB7.out; obtain ⟨x0, x1, x2⟩ := HCX2.out _ HB7.out; clear ho7 hg7))
                      all_goals go_wp2_with fail
                      all_goals exact ⟨⟨j + 1, by omega, by go_num, by rw [← HNW.out, HR1.out]; exact HO7.out, HB7.out⟩, by first | (simp [intOf]; done) | (simp [intOf]; omega)⟩
                    · have hk2 : (kk != 1) = false := by unfold bne; rw [hk1]; rfl
                      cases ht1 : (tt.toList == t.toList)
                      · have ht2 : (tt.toList != t.toList) = true := by unfold bne; rw [ht1]; rfl
                        have HR1 : Hid (nw = old ++ [⟨4, p, t⟩]) := by
                          have hwb : wb = true := by rw [HWD.out, hk1, ht1]; rfl
                          have := HST.out
                          rw [hwb] at this
                          unfold Hid
                          simpa using this
                        clear HST HWD
                        go_wp2_with fail
                        go_region_held3 (fun w' => w'.cell? ⟨w.heap.size, 0, none⟩ = some (.slice a1 L.length c1) ∧ w'.cell? ⟨w1.heap.size, 0, none⟩ = some (.slice (some ⟨g, 0, none⟩) M.length c2) ∧ w'.cell? ⟨g, j * 3, none⟩ = some (.string p) ∧ w'.cell? ⟨g, j * 3 + 1, none⟩ = some (.bool false) ∧ w'.cell? ⟨g, j * 3 + 1 + 1, none⟩ = some (.string t)) (go_keep) (first
                          | (go_at_call 16; refine (HAT.out _ (HBR.out.trans (HB0.out.mono HB2r.out))).mono ?_; rintro e w5 ⟨rfl, hb5⟩; have HB5 := hide3 (HB0.out.trans (hb5.mono HB0.out.size)); have HB25 := hide3 (HBR.out.trans (HB5.out.mono HB2r.out)); have HO5 := hide3 (HO.out.below HB5.out); have HS5 : Hid (w2.heap.size ≤ w5.heap.size) := HB25.out.size; obtain ⟨y0, y1⟩ := HCA.out _ HB25.out; obtain ⟨z0, z1, z2⟩ := HCX2.out _ HB25.out; clear hb5))
                        all_goals go_wp2_with fail
                        all_goals have HB5D : Hid (Below w2.heap.size w2 w5.drew) := HB25.out.drew
                        all_goals have HO5D := hide3 (HO5.out.below (Below.refl _ w5).drew)
                        all_goals obtain ⟨r0, r1⟩ := HCA.out _ HB5D.out
                        all_goals obtain ⟨s0, s1, s2⟩ := HCX2.out _ HB5D.out
                        all_goals have HKP : Hid (∀ w7, w5.drew.grownBy w7 u12.ownBlock → Below w2.heap.size w2 w7) := fun w7 hg7 => HB5D.out.grown hg7 HB5D.out.size (fun q hq => (HO5D.out.lt hq).2)
                        all_goals go_region_held3 (fun w' => w'.cell? ⟨w1.heap.size, 0, none⟩ = some (.slice (some ⟨g, 0, none⟩) M.length c2) ∧ w'.cell? ⟨g, j * 3, none⟩ = some (.string p) ∧ w'.cell? ⟨g, j * 3 + 1 + 1, none⟩ = some (.string t)) (go_keep) (first
                          | (refine step_de (B := w2.heap.size) (M := w5.heap.size) (wx := w5.drew) (v := u12) (ds := old) rfl (.tmp 253) (.tmp 271) rfl rfl HO5D.out HS5.out ⟨4, p, t⟩ rfl rfl (by omega) ?_; intro v7 w7 ho7 hg7; have HO7 := hide3 ho7; have HB7 := hide3 (HKP.out _ hg7); obtain ⟨q0, q1⟩ := HCA.out _ HB7.out; obtain ⟨x0, x1, x2⟩ := HCX2.out _ HB7.out; clear ho7 hg7))
                        all_goals go_wp2_with fail
                        all_goals exact ⟨⟨j + 1, by omega, by go_num, by rw [← HNW.out, HR1.out]; exact HO7.out, HB7.out⟩, by first | (simp [intOf]; done) | (simp [intOf]; omega)⟩
                      · have ht2 : (tt.toList != t.toList) = false := by unfold bne; rw [ht1]; rfl
                        have HR1 : Hid (nw = old) := by
                          have hwb : wb = false := by rw [HWD.out, hk1, ht1]; rfl
                          have := HST.out
                          rw [hwb] at this
                          unfold Hid
                          simpa using this
                        clear HST HWD
                        go_wp2_with fail
                        go_region_held3 (fun w' => w'.cell? ⟨w.heap.size, 0, none⟩ = some (.slice a1 L.length c1) ∧ w'.cell? ⟨w1.heap.size, 0, none⟩ = some (.slice (some ⟨g, 0, none⟩) M.length c2) ∧ w'.cell? ⟨g, j * 3, none⟩ = some (.string p) ∧ w'.cell? ⟨g, j * 3 + 1, none⟩ = some (.bool false) ∧ w'.cell? ⟨g, j * 3 + 1 + 1, none⟩ = some (.string t)) (go_keep) (first
                          | (go_at_call 16; refine (HAT.out _ (HBR.out.trans (HB0.out.mono HB2r.out))).mono ?_; rintro e w5 ⟨rfl, hb5⟩; have HB5 := hide3 (HB0.out.trans (hb5.mono HB0.out.size)); have HB25 := hide3 (HBR.out.trans (HB5.out.mono HB2r.out)); have HO5 := hide3 (HO.out.below HB5.out); have HS5 : Hid (w2.heap.size ≤ w5.heap.size) := HB25.out.size; obtain ⟨y0, y1⟩ := HCA.out _ HB25.out; obtain ⟨z0, z1, z2⟩ := HCX2.out _ HB25.out; clear hb5))
                        all_goals go_wp2_with fail
                        all_goals exact ⟨⟨j + 1, by omega, by go_num, by rw [← HNW.out, HR1.out]; exact HO5.out, HB25.out⟩, by first | (simp [intOf]; done) | (simp [intOf]; omega)⟩
                  · have HR1 : Hid (nw = old) := by
                      have hwb : wb = false := by rw [HWD.out]; rfl
                      have := HST.out
                      rw [hwb] at this
                      unfold Hid
                      simpa using this
                    clear HST HWD
                    go_wp2_with fail
                    go_region_held3 (fun w' => w'.cell? ⟨w.heap.size, 0, none⟩ = some (.slice a1 L.length c1) ∧ w'.cell? ⟨w1.heap.size, 0, none⟩ = some (.slice (some ⟨g, 0, none⟩) M.length c2) ∧ w'.cell? ⟨g, j * 3, none⟩ = some (.string p) ∧ w'.cell? ⟨g, j * 3 + 1, none⟩ = some (.bool true) ∧ w'.cell? ⟨g, j * 3 + 1 + 1, none⟩ = some (.string t)) (go_keep) (first
                      | (go_at_call 16; refine (HAT.out _ (HBR.out.trans (HB0.out.mono HB2r.out))).mono ?_; rintro e w5 ⟨rfl, hb5⟩; have HB5 := hide3 (HB0.out.trans (hb5.mono HB0.out.size)); have HB25 := hide3 (HBR.out.trans (HB5.out.mono HB2r.out)); have HO5 := hide3 (HO.out.below HB5.out); have HS5 : Hid (w2.heap.size ≤ w5.heap.size) := HB25.out.size; obtain ⟨y0, y1⟩ := HCA.out _ HB25.out; obtain ⟨z0, z1, z2⟩ := HCX2.out _ HB25.out; clear hb5))
                    all_goals go_wp2_with fail
                    all_goals exact ⟨⟨j + 1, by omega, by go_num, by rw [← HNW.out, HR1.out]; exact HO5.out, HB25.out⟩, by first | (simp [intOf]; done) | (simp [intOf]; omega)⟩
                · obtain rfl : k = M.length := by omega
                  rw [List.take_length] at HO
                  have HFI : Hid (OwnDe wr w.heap.size u12 ds) := by
                    have h1 := HO.out.base HS2.out
                    rw [HE3.out, HE2.out, HE1.out, ← HDE.out] at h1
                    exact h1
                  have HBF := hide3 (HB02.out.trans (HBR.out.mono HB02.out.size))
                  go_wp2_with fail
                  go_ret2
                  exact HPP.out _ _ HFI.out HBF.out
end Go.Proofs.YtcpmfhalphoppaaDoor
