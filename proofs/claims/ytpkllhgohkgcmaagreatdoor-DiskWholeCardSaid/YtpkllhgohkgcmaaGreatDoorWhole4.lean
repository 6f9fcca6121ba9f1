/- The walk of DiskWhole. -/
import Derived.Test.YtpkllhgohkgcmaaGreatDoorWhole3
namespace Go.Proofs.YtpkllhgohkgcmaaGreatDoor
open Go.RowKit Go.Maps Go.WideMaps Go.WideElems Go.Sort Go.Shelf
set_option maxRecDepth 100000

set_option maxHeartbeats 8000000 in
theorem whole_walk (w : World) (m : Int) (hm : w.cell? ⟨0, 0, none⟩ = some (.int .i64 m)) (lo : Option Addr) (g off len cap : Nat) (hlen : len * 64 ≤ 140737488351232) (hlo : 0 < len → lo = some ⟨g, off, none⟩) (hg : 0 < len → g < w.heap.size) (hl : ∀ i, i < len → DeedAt w g (off + i * 5))
    (xk : Int) (xp xt xu : ByteArray) (xz : Int) (hk0 : -9223372036854775808 ≤ xk) (hk1 : xk ≤ 9223372036854775807) (hxp : xp.size ≤ maxLen) (hxt : xt.size ≤ maxLen) (hxu : xu.size ≤ maxLen) :
    Calls Tryz.prog 6 #[.slice lo len cap, .agg #[.int .i64 xk, .string xp, .string xt, .string xu, .int .i64 xz]] w fun e w' => e = .returned (.bool true) ∧ Below w.heap.size w w' := by
  have HL := hide3 hl
  have h0 : 0 < w.heap.size := cell_lt hm
  obtain ⟨wb, hwb⟩ : ∃ wb, wb = w.alloc (.cells #[.int .i64 xk, .string xp, .string xt, .string xu, .int .i64 xz] 29) := ⟨_, rfl⟩
  have HBW : Hid (Below w.heap.size w wb) := by rw [hwb]; exact alloc_below _ _
  have hws : wb.heap.size = w.heap.size + 1 := by rw [hwb]; simp
  have HX : Hid (wb.cell? ⟨w.heap.size, 0, none⟩ = some (.int .i64 xk) ∧ wb.cell? ⟨w.heap.size, 1, none⟩ = some (.string xp) ∧ wb.cell? ⟨w.heap.size, 2, none⟩ = some (.string xt) ∧ wb.cell? ⟨w.heap.size, 3, none⟩ = some (.string xu) ∧ wb.cell? ⟨w.heap.size, 4, none⟩ = some (.int .i64 xz) ∧ wb.frozen? ⟨w.heap.size, 0, none⟩ = false) := by
    rw [hwb]; refine ⟨?_, ?_, ?_, ?_, ?_, ?_⟩ <;> simp
  have hmb : wb.cell? ⟨0, 0, none⟩ = some (.int .i64 m) := cell_below hm HBW.out
  have HST := hide3 (start_two wb m hmb)
  rw [hws] at HST
  have HRN := hide3 (rNew_any wb)
  have hsz := size_wNew wb
  have HLB : Hid (∀ W, Below (w.heap.size + 1) wb W → ∀ i, i < len → DeedAt W g (off + i * 5)) := fun W hb i hi => (HL.out i hi).below (HBW.out.trans (hb.mono (Nat.le_succ _))) (hg (by omega))
  clear hl hm hmb HL
  go_enter Tryz.func6, Tryz.ntmps6
  go_wp2_with fail
  rw [← hwb]
  clear hwb
  go_at_call 8
  refine (New_any wb).mono ?_
  rintro e w1 ⟨rfl, rfl⟩
  go_wp2_with (go_at_call 9; refine HRN.out.mono ?_; rintro e w1 ⟨rfl, rfl⟩)
  go_loopw [7] (fun i wr => ∃ k : Nat, k ≤ len ∧ i = .int .i64 k ∧ ∃ x, Two (w.heap.size + 1) wr (w.heap.size + 1 + 1) (w.heap.size + 1 + 2) x m k ∧ Below (w.heap.size + 1) wb wr) (fun i _ => len - (intOf i).toNat)
  case atStart => exact ⟨0, Nat.zero_le _, rfl, newAb, HST.out.1, HST.out.2⟩
  case round =>
    obtain ⟨k, hk, rfl, x, htw, hbe⟩ := hrel
    have HB := hide3 hbe
    by_cases hlt : k < len
    · obtain rfl := hlo (by omega)
      obtain ⟨kd, p, t, u, z, d0, d1, d2, d3, d4, e0, e1, e2, e3, e4, _, e6⟩ := HLB.out wr hbe k hlt
      have hc := asks_any htw (by omega) kd p t u z e2 e3 e4 e0 e1 e6
      clear htw hbe
      generalize asksD x (pickD kd 11) p t u z = x1 at *
      go_wp2_with (go_at_call 10; refine hc.mono ?_; rintro e w1 ⟨rfl, h1, hb1⟩)
      exact ⟨⟨k + 1, by omega, by go_num, x1, h1, HB.out.trans hb1⟩, by simp [intOf]; omega⟩
    · have hbase := htw.base
      have hfl := htw.files
      have hrl := htw.len
      obtain ⟨_, _, _, ra2, _⟩ := two_files htw (by omega)
      obtain ⟨_, _, _, rb2, _⟩ := two_raws htw (by omega)
      have HA := hide3 ra2
      have HR := hide3 rb2
      have HPK := fun Wp => pick_any xk 4 Wp hk0 hk1 (by decide) (by decide)
      obtain ⟨pk1, pk2, pk3⟩ := pick_four xk
      have HWK0 := hide3 (fun W hW => writes_kept (htw.put (a := ⟨w.heap.size, 0, none⟩) (Nat.lt_succ_self _) (Nat.ne_of_gt h0) (.int .i64 (pickD xk 4))) (by omega) (pickD xk 4) xp xt xu xz hxp hxt hxu (by omega) (by omega) W hW)
      have HXW : Hid (∀ W, Below (w.heap.size + 1) wb W → W.cell? ⟨w.heap.size, 0, none⟩ = some (.int .i64 xk) ∧ W.cell? ⟨w.heap.size, 1, none⟩ = some (.string xp) ∧ W.cell? ⟨w.heap.size, 2, none⟩ = some (.string xt) ∧ W.cell? ⟨w.heap.size, 3, none⟩ = some (.string xu) ∧ W.cell? ⟨w.heap.size, 4, none⟩ = some (.int .i64 xz) ∧ W.frozen? ⟨w.heap.size, 0, none⟩ = false) := by
        intro W hb
        obtain ⟨a0, a1, a2, a3, a4, a5⟩ := HX.out
        have c := fun o => hb.cell (p := ⟨w.heap.size, o, none⟩) (Nat.lt_succ_self _)
        exact ⟨(c 0).trans a0, (c 1).trans a1, (c 2).trans a2, (c 3).trans a3, (c 4).trans a4, (hb.frozen (p := ⟨w.heap.size, 0, none⟩) (Nat.lt_succ_self _)).trans a5⟩
      rw [pk1] at HWK0
      have HWK : Hid (∀ W, Below wr.heap.size wr W → Calls Tryz.prog 23 #[.pointer (some ⟨w.heap.size + 1 + 1, 0, none⟩), .pointer (some ⟨w.heap.size + 1 + 2, 0, none⟩), .agg #[.int .i64 (pickD xk 4), .string xp, .string xt, .string xu, .int .i64 xz]] (W.setCell ⟨w.heap.size, 0, none⟩ (.int .i64 (pickD xk 4))) fun e' w' => e' = .returned (.bool true) ∧ Two (w.heap.size + 1) w' (w.heap.size + 1 + 1) (w.heap.size + 1 + 2) (putsD x (pickD xk 4) xp xt xu).2 m (k + 1) ∧ Below (w.heap.size + 1) (wr.setCell ⟨w.heap.size, 0, none⟩ (.int .i64 (pickD xk 4))) w' ∧
          ∀ b i, wr.heap.size ≤ b → b < W.heap.size → w'.cell? ⟨b, i, none⟩ = W.cell? ⟨b, i, none⟩) := by
        intro W hW
        have h1 := below_both hW ⟨w.heap.size, 0, none⟩ (.int .i64 (pickD xk 4))
        refine (HWK0.out _ (by rw [World.size_setCell]; exact h1)).mono ?_
        rintro e' w' ⟨rfl, t1, t2, t3⟩
        refine ⟨rfl, t1, t2, fun b i h2 h3 => ?_⟩
        rw [t3 b i (by rw [World.size_setCell]; exact h2) (by rw [World.size_setCell]; exact h3)]
        exact World.cell?_setCell_other _ _ _ _ (fun e => by injection e with e1; omega)
      clear HWK0
      have HTW := hide3 htw
      have tA : True := trivial
      have tR : True := trivial
      clear htw hbe ra2 rb2 pk1
      generalize hK : pickD xk 4 = K at *
      go_wp2_with (first
        | (go_at_call 16; clear tA; refine (HA.out _ (Below.refl _ _)).mono ?_; rintro e w2 ⟨ao, ca, rfl, hr2, hb2⟩; have HRA := hide3 hr2; have HB2 := hide3 hb2; clear hr2 hb2)
        | (go_at_call 12; clear tR; refine (HR.out _ HB2.out).mono ?_; rintro e w3 ⟨bo, cb, rfl, _, hb3⟩; have HB3 := hide3 (below_then' HB2.out hb3); have HBX := hide3 hb3; obtain ⟨q0, q1, q2, q3, q4, q5⟩ := HXW.out w3 (HB.out.trans (HB3.out.mono hbase)); clear hb3)
        | (go_at_call 22; refine (HPK _).mono ?_; rintro e w4 ⟨rfl, rfl⟩))
      have hwd := whole_puts x K xp xt xu
      go_at_call 23
      refine (HWK.out _ HB3.out).mono ?_
      rintro e w5 ⟨rfl, ht5, hb5, hkp5⟩
      generalize (putsD x K xp xt xu).2 = y at *
      have hfl5 := ht5.files
      have hrl5 := ht5.len
      have hba5 := ht5.base
      obtain ⟨_, _, _, ra5, _⟩ := two_files ht5 (by omega)
      obtain ⟨_, _, _, rb5, _⟩ := two_raws ht5 (by omega)
      have HA5 := hide3 ra5
      have HR5 := hide3 rb5
      have HGX : Hid (Good x.D) := HTW.out.plain.good
      have HGY : Hid (Good y.D) := ht5.plain.good
      have HLV : Hid (∀ W, Below w5.heap.size w5 W → Calls Tryz.prog 17 #[] W fun e w' => e = .returned (.bool true) ∧ Below W.heap.size W w') := fun W hb => lives_any W m (cell_below ht5.max hb)
      have HBS : Hid (Below w.heap.size w w5) := by
        have h1 : Below w.heap.size w (wr.setCell ⟨w.heap.size, 0, none⟩ (.int .i64 K)) := (HBW.out.trans (HB.out.mono (Nat.le_succ _))).setCell (Nat.le_refl _) _
        exact h1.trans (hb5.mono (Nat.le_succ _))
      obtain ⟨ga, hga, hca⟩ := row_at HRA.out
      have HWA : Hid (∀ V, Below w5.heap.size w5 V → ∀ j u, (fileCells (filesD x.D))[j]? = some u → V.cell? ⟨ga, j, none⟩ = some u) := by
        intro V hV j u hj
        have hpos : 0 < (filesD x.D).length := by
          rcases Nat.eq_zero_or_pos (filesD x.D).length with h | h
          · have : filesD x.D = [] := List.eq_nil_of_length_eq_zero h
            rw [this] at hj; simp [fileCells] at hj
          · exact h
        obtain ⟨_, g1, g2⟩ := hga hpos
        have c2 := hca j u hj
        have c3 := (HBX.out.cell (p := ⟨ga, j, none⟩) g2).trans c2
        have c5 := (hkp5 ga j g1 (Nat.lt_of_lt_of_le g2 HBX.out.size)).trans c3
        exact cell_below c5 hV
      have HAO : Hid (0 < (filesD x.D).length → ao = some ⟨ga, 0, none⟩) := fun h => (hga h).1
      have HXV : Hid (∀ V, Below w5.heap.size w5 V → V.cell? ⟨w.heap.size, 0, none⟩ = some (.int .i64 K) ∧ V.cell? ⟨w.heap.size, 1, none⟩ = some (.string xp) ∧ V.cell? ⟨w.heap.size, 2, none⟩ = some (.string xt)) := by
        intro V hV
        obtain ⟨a0, a1, a2, _, _, _⟩ := HXW.out wr HB.out
        have c := fun o => hb5.cell (p := ⟨w.heap.size, o, none⟩) (Nat.lt_succ_self _)
        refine ⟨cell_below ((c 0).trans (World.cell?_setCell_same _ _ _ a0)) hV, cell_below ((c 1).trans ?_) hV, cell_below ((c 2).trans ?_) hV⟩
        · rw [World.cell?_setCell_other _ _ _ _ (by simp)]; exact a1
        · rw [World.cell?_setCell_other _ _ _ _ (by simp)]; exact a2
      clear hca hga hkp5 hb5 ht5 ra5 rb5 q0 q1 q2 q3 q4 q5
      clear HRA HB2 HB3 HBX HXW HWK HPK HR HA HTW HX HLB HST HRN HB HBW hsz hws
      rcases hwd with rfl | ⟨hlen1, hoff⟩
      · go_wp2_with (first
          | (go_at_call 16; refine (HA5.out _ (Below.refl _ _)).mono ?_; rintro e w6 ⟨no, cn, rfl, hr6, hb6⟩; have HR6 := hide3 hr6; have HB6 := hide3 hb6; clear hr6 hb6)
          | (go_at_call 12; refine (HR5.out _ HB6.out).mono ?_; rintro e w7 ⟨ro, cr, rfl, _, hb7⟩; have HB7 := hide3 hb7; have HB57 := hide3 (below_then' HB6.out hb7); clear hb7))
        obtain ⟨gb, hgb, hcb⟩ := row_at HR6.out
        have hcf := files_at (filesD y.D) (by omega) ao no ca cn ga gb w7 HAO.out (fun h => (hgb h).1) (HWA.out w7 HB57.out) (fun j u hj => cell_below (hcb j u hj) HB7.out)
        go_at_call 15
        refine hcf.mono ?_
        rintro e w8 ⟨rfl, q, rfl⟩
        clear hcf hcb hgb
        go_wp2_with (go_at_call 17; refine (HLV.out _ (below_draws HB57.out q)).mono ?_; rintro e w9 ⟨rfl, hb9⟩)
        go_ret
        exact ⟨rfl, below_then' (below_then' HBS.out (below_draws HB57.out q)) hb9⟩
      · have HFG : Hid (∀ f ∈ filesD x.D, atPath K xp xt f.1 ∨ f ∈ filesD y.D) := fun f hf => by
          by_cases hp : atPath K xp xt f.1
          · exact Or.inl hp
          · exact Or.inr ((off_mem hoff HGX.out HGY.out hp).1 hf)
        have HGF : Hid (∀ f ∈ filesD y.D, atPath K xp xt f.1 ∨ f ∈ filesD x.D) := fun f hf => by
          by_cases hp : atPath K xp xt f.1
          · exact Or.inl hp
          · exact Or.inr ((off_mem hoff HGX.out HGY.out hp).2 hf)
        have hne : ((y.rs.length : Int) == (x.rs.length : Int)) = false := by rw [beq_eq_false_iff_ne]; omega
        have hn1 : ((y.rs.length : Int) == (x.rs.length : Int) + 1) = true := by rw [beq_iff_eq]; omega
        clear hoff HGX HGY hlen1
        go_wp2_with (first
          | (go_at_call 16; refine (HA5.out _ (Below.refl _ _)).mono ?_; rintro e w6 ⟨no, cn, rfl, hr6, hb6⟩; have HR6 := hide3 hr6; have HB6 := hide3 hb6; clear hr6 hb6)
          | (go_at_call 12; refine (HR5.out _ HB6.out).mono ?_; rintro e w7 ⟨ro, cr, rfl, _, hb7⟩; have HB7 := hide3 hb7; have HB57 := hide3 (below_then' HB6.out hb7); clear hb7))
        obtain ⟨gb, hgb, hcb⟩ := row_at HR6.out
        have HCF : Hid (∀ j u, (fileCells (filesD x.D))[j]? = some u → w7.cell? ⟨ga, j, none⟩ = some u) := HWA.out w7 HB57.out
        have HCG : Hid (∀ j u, (fileCells (filesD y.D))[j]? = some u → w7.cell? ⟨gb, j, none⟩ = some u) := fun j u hj => cell_below (hcb j u hj) HB7.out
        have HNO : Hid (0 < (filesD y.D).length → no = some ⟨gb, 0, none⟩) := fun h => (hgb h).1
        have HAO2 := HAO
        obtain ⟨x0, x1, x2⟩ := HXV.out w7 HB57.out
        clear hcb hgb HWA HXV HR6 HB6 HAO
        generalize filesD x.D = F at *
        generalize filesD y.D = G at *
        -- LOOPS
        go_loopw [12] (fun i wo => ∃ j : Nat, j ≤ F.length ∧ i = .int .i64 j ∧ ∃ q, wo = w7.drewN q) (fun i _ => F.length - (intOf i).toNat)
        case atStart => exact ⟨0, Nat.zero_le _, rfl, 0, rfl⟩
        case round =>
          obtain ⟨j, hj, rfl, q, rfl⟩ := hrel
          by_cases hjl : j < F.length
          · obtain rfl := HAO2.out (by omega)
            obtain ⟨g0, g1, g2⟩ := fileCells_get F j hjl
            have a0 := HCF.out _ _ g0
            have a1 := HCF.out _ _ g1
            have a2 := HCF.out _ _ g2
            have HMF : Hid (atPath K xp xt F[j].1 ∨ F[j] ∈ G) := HFG.out _ (List.getElem_mem hjl)
            clear g0 g1 g2
            obtain ⟨f0, f1, f2, hf⟩ : ∃ f0 f1 f2, F[j] = (f0, f1, f2) := ⟨_, _, _, rfl⟩
            rw [hf] at a0 a1 a2 HMF
            simp only at a0 a1 a2
            have HF0 := hide3 hf
            clear hf
            obtain ⟨b0, HB0, hway⟩ : ∃ b0 : Bool, Hid (Fnd b0 (atPath K xp xt f0)) ∧ (((f0.toList == xp.toList) = true ∧ b0 = true) ∨ ((f0.toList == xp.toList) = false ∧ (K == 2) = false ∧ b0 = false) ∨ ((f0.toList == xp.toList) = false ∧ (K == 2) = true ∧ (f0.toList == xt.toList) = true ∧ b0 = true) ∨ ((f0.toList == xp.toList) = false ∧ (K == 2) = true ∧ (f0.toList == xt.toList) = false ∧ b0 = false)) := at_ways K xp xt f0
            rcases hway with ⟨e1, rfl⟩ | ⟨e1, e2, rfl⟩ | ⟨e1, e2, e3, rfl⟩ | ⟨e1, e2, e3, rfl⟩
            all_goals
              go_wp2_with fail
              go_quiet (fail)
              go_wp2_with fail
              go_loopw [13, 14] (fun fd i wi => ∃ (l : Nat) (b : Bool), l ≤ G.length ∧ i = .int .i64 l ∧ fd = .bool b ∧ Hid (Fnd b (atPath K xp xt f0 ∨ (f0, f1, f2) ∈ G.take l)) ∧ ∃ q, wi = w7.drewN q) (fun _ i _ => G.length - (intOf i).toNat)
              case atStart => exact ⟨0, _, Nat.zero_le _, rfl, rfl, take_none HB0.out, q + nq, draws_two _ _ _⟩
              case round =>
                obtain ⟨l, b, hl, rfl, rfl, HBI, qi, rfl⟩ := hrel
                by_cases hll : l < G.length
                · cases b
                  · obtain rfl := HNO.out (by omega)
                    obtain ⟨g0, g1, g2⟩ := fileCells_get G l hll
                    have c0 := HCG.out _ _ g0
                    have c1 := HCG.out _ _ g1
                    have c2 := HCG.out _ _ g2
                    clear g0 g1 g2
                    have hgd := guardFile
                    have HBH : Hid (G[l] = (f0, f1, f2) → Fnd true (atPath K xp xt f0 ∨ (f0, f1, f2) ∈ G.take (l + 1))) := fun e => take_hit hll e
                    have HBM : Hid (G[l] ≠ (f0, f1, f2) → Fnd false (atPath K xp xt f0 ∨ (f0, f1, f2) ∈ G.take (l + 1))) := fun e => take_miss hll HBI.out e
                    obtain ⟨h0, h1, h2, hh⟩ : ∃ h0 h1 h2, G[l] = (h0, h1, h2) := ⟨_, _, _, rfl⟩
                    rw [hh] at c0 c1 c2 HBH HBM
                    simp only at c0 c1 c2
                    clear hh
                    by_cases he : (h0, h1, h2) = (f0, f1, f2)
                    · simp only [Prod.mk.injEq] at he
                      obtain ⟨rfl, rfl, rfl⟩ := he
                      have hnq := eqlFile_same h0 h1 h2
                      go_wp2_with fail
                      go_quiet (fail)
                      go_wp2_with fail
                      exact ⟨⟨l + 1, true, by omega, by go_num, rfl, HBH.out (by first | rfl | trivial), _, rfl⟩, by simp [intOf]; omega⟩
                    · have hnq := eqlFile_diff h0 h1 h2 f0 f1 f2 he
                      go_wp2_with fail
                      go_quiet (fail)
                      go_wp2_with fail
                      exact ⟨⟨l + 1, false, by omega, by go_num, rfl, HBM.out he, _, rfl⟩, by simp [intOf]; omega⟩
                  · go_wp2_with fail
                    go_quiet (fail)
                    go_wp2_with fail
                    exact ⟨⟨l + 1, true, by omega, by go_num, rfl, take_yes HBI.out, _, rfl⟩, by simp [intOf]; omega⟩
                · have hb : b = true := HBI.out.of (by rw [List.take_of_length_le (by omega)]; exact HMF.out)
                  subst hb
                  go_wp2_with fail
                  go_roundw
                  case rel => exact ⟨j + 1, by omega, by go_num, _, rfl⟩
                  case measure => simp [intOf]; omega
          · go_wp2_with fail
            go_loopw [15] (fun i wo => ∃ j : Nat, j ≤ G.length ∧ i = .int .i64 j ∧ ∃ q, wo = w7.drewN q) (fun i _ => G.length - (intOf i).toNat)
            case atStart => exact ⟨0, Nat.zero_le _, rfl, q, rfl⟩
            case round =>
              obtain ⟨j, hj, rfl, q2, rfl⟩ := hrel
              by_cases hjl : j < G.length
              · obtain rfl := HNO.out (by omega)
                obtain ⟨g0, g1, g2⟩ := fileCells_get G j hjl
                have a0 := HCG.out _ _ g0
                have a1 := HCG.out _ _ g1
                have a2 := HCG.out _ _ g2
                have HMF : Hid (atPath K xp xt G[j].1 ∨ G[j] ∈ F) := HGF.out _ (List.getElem_mem hjl)
                clear g0 g1 g2
                obtain ⟨f0, f1, f2, hf⟩ : ∃ f0 f1 f2, G[j] = (f0, f1, f2) := ⟨_, _, _, rfl⟩
                rw [hf] at a0 a1 a2 HMF
                simp only at a0 a1 a2
                have HF0 := hide3 hf
                clear hf
                obtain ⟨b0, HB0, hway⟩ : ∃ b0 : Bool, Hid (Fnd b0 (atPath K xp xt f0)) ∧ (((f0.toList == xp.toList) = true ∧ b0 = true) ∨ ((f0.toList == xp.toList) = false ∧ (K == 2) = false ∧ b0 = false) ∨ ((f0.toList == xp.toList) = false ∧ (K == 2) = true ∧ (f0.toList == xt.toList) = true ∧ b0 = true) ∨ ((f0.toList == xp.toList) = false ∧ (K == 2) = true ∧ (f0.toList == xt.toList) = false ∧ b0 = false)) := at_ways K xp xt f0
                rcases hway with ⟨e1, rfl⟩ | ⟨e1, e2, rfl⟩ | ⟨e1, e2, e3, rfl⟩ | ⟨e1, e2, e3, rfl⟩
                all_goals
                  go_wp2_with fail
                  go_quiet (fail)
                  go_wp2_with fail
                  go_loopw [16, 17] (fun fd i wi => ∃ (l : Nat) (b : Bool), l ≤ F.length ∧ i = .int .i64 l ∧ fd = .bool b ∧ Hid (Fnd b (atPath K xp xt f0 ∨ (f0, f1, f2) ∈ F.take l)) ∧ ∃ q, wi = w7.drewN q) (fun _ i _ => F.length - (intOf i).toNat)
                  case atStart => exact ⟨0, _, Nat.zero_le _, rfl, rfl, take_none HB0.out, q2 + nq, draws_two _ _ _⟩
                  case round =>
                    obtain ⟨l, b, hl, rfl, rfl, HBI, qi, rfl⟩ := hrel
                    by_cases hll : l < F.length
                    · cases b
                      · obtain rfl := HAO2.out (by omega)
                        obtain ⟨g0, g1, g2⟩ := fileCells_get F l hll
                        have c0 := HCF.out _ _ g0
                        have c1 := HCF.out _ _ g1
                        have c2 := HCF.out _ _ g2
                        clear g0 g1 g2
                        have hgd := guardFile
                        have HBH : Hid (F[l] = (f0, f1, f2) → Fnd true (atPath K xp xt f0 ∨ (f0, f1, f2) ∈ F.take (l + 1))) := fun e => take_hit hll e
                        have HBM : Hid (F[l] ≠ (f0, f1, f2) → Fnd false (atPath K xp xt f0 ∨ (f0, f1, f2) ∈ F.take (l + 1))) := fun e => take_miss hll HBI.out e
                        obtain ⟨h0, h1, h2, hh⟩ : ∃ h0 h1 h2, F[l] = (h0, h1, h2) := ⟨_, _, _, rfl⟩
                        rw [hh] at c0 c1 c2 HBH HBM
                        simp only at c0 c1 c2
                        clear hh
                        by_cases he : (h0, h1, h2) = (f0, f1, f2)
                        · simp only [Prod.mk.injEq] at he
                          obtain ⟨rfl, rfl, rfl⟩ := he
                          have hnq := eqlFile_same h0 h1 h2
                          go_wp2_with fail
                          go_quiet (fail)
                          go_wp2_with fail
                          exact ⟨⟨l + 1, true, by omega, by go_num, rfl, HBH.out (by first | rfl | trivial), _, rfl⟩, by simp [intOf]; omega⟩
                        · have hnq := eqlFile_diff f0 f1 f2 h0 h1 h2 (fun e => he e.symm)
                          go_wp2_with fail
                          go_quiet (fail)
                          go_wp2_with fail
                          exact ⟨⟨l + 1, false, by omega, by go_num, rfl, HBM.out he, _, rfl⟩, by simp [intOf]; omega⟩
                      · go_wp2_with fail
                        go_quiet (fail)
                        go_wp2_with fail
                        exact ⟨⟨l + 1, true, by omega, by go_num, rfl, take_yes HBI.out, _, rfl⟩, by simp [intOf]; omega⟩
                    · have hb : b = true := HBI.out.of (by rw [List.take_of_length_le (by omega)]; exact HMF.out)
                      subst hb
                      go_wp2_with fail
                      go_roundw
                      case rel => exact ⟨j + 1, by omega, by go_num, _, rfl⟩
                      case measure => simp [intOf]; omega
              · go_wp2_with (first
                  | (go_at_call 12; refine (HR5.out _ (below_draws HB57.out q2)).mono ?_; rintro e w8 ⟨so, cs, rfl, _, hb8⟩; have HB8 := hide3 hb8; clear hb8)
                  | (go_at_call 17; refine (HLV.out _ (below_then' (below_draws HB57.out q2) HB8.out)).mono ?_; rintro e w9 ⟨rfl, hb9⟩))
                go_ret
                exact ⟨rfl, below_then' (below_then' (below_then' HBS.out (below_draws HB57.out q2)) HB8.out) hb9⟩
end Go.Proofs.YtpkllhgohkgcmaaGreatDoor
