/- DeltaLeast: no deed is at a path at which both have the same; of the same sets there are none. Conditions: sizes. -/
import Derived.Test.YtcpmfhalphoppaaDoorDx9
import Derived.BigQuiet
namespace Go.Proofs.YtcpmfhalphoppaaDoor
open Go.RowKit Go.Maps Go.WideMaps Go.WideElems Dk
set_option maxRecDepth 100000

theorem mem_deeds {L M : List Fl} {d : De} (h : d ∈ deD L M) : (∃ y ∈ L, d.pa = y.1 ∧ (wU M y = true ∨ wR M y = true)) ∨ (∃ y ∈ M, d.pa = y.1 ∧ (wM L y = true ∨ wP L y = true)) := by
  unfold deD at h
  rcases List.mem_append.1 h with h | h
  · rcases List.mem_append.1 h with h | h
    · rcases List.mem_append.1 h with h | h
      · obtain ⟨y, hy, rfl⟩ := List.mem_map.1 h
        obtain ⟨h1, h2⟩ := List.mem_filter.1 hy
        exact Or.inl ⟨y, List.mem_reverse.1 h1, rfl, Or.inl h2⟩
      · obtain ⟨y, hy, rfl⟩ := List.mem_map.1 h
        obtain ⟨h1, h2⟩ := List.mem_filter.1 hy
        exact Or.inl ⟨y, List.mem_reverse.1 h1, rfl, Or.inr h2⟩
    · obtain ⟨y, hy, rfl⟩ := List.mem_map.1 h
      obtain ⟨h1, h2⟩ := List.mem_filter.1 hy
      exact Or.inr ⟨y, h1, rfl, Or.inl h2⟩
  · obtain ⟨y, hy, rfl⟩ := List.mem_map.1 h
    obtain ⟨h1, h2⟩ := List.mem_filter.1 hy
    exact Or.inr ⟨y, h1, rfl, Or.inr h2⟩
theorem in_both {L : List Fl} (hL : Apart L) {x : Fl} (hx : x ∈ L) : wU L x = false ∧ wR L x = false ∧ wM L x = false ∧ wP L x = false := by
  unfold wU wR wM wP
  rw [atL_mem hL hx]
  obtain ⟨p, c, t⟩ := x
  unfold toldF
  cases c <;> simp
theorem least_no {fs gs : List Fl} (hf : OkJ fs) (hg : OkJ gs) {d : De} (hd : d ∈ deeds fs gs) {x : Fl} (hx : x ∈ fs) (hx' : x ∈ gs) : x.1 ≠ d.pa := by
  intro e
  have oL := ordL hf.1
  have oM := ordL hg.1
  rcases mem_deeds hd with ⟨y, hy, he, hw⟩ | ⟨y, hy, he, hw⟩
  · have : y = x := uniq_key oL.apartL hy ((oL.mem x).2 hx) (by rw [← he, e])
    subst this
    obtain ⟨h1, h2, _⟩ := in_both oM.apartL ((oM.mem y).2 hx')
    rcases hw with h | h
    · rw [h1] at h; cases h
    · rw [h2] at h; cases h
  · have : y = x := uniq_key oM.apartL hy ((oM.mem x).2 hx') (by rw [← he, e])
    subst this
    obtain ⟨_, _, h1, h2⟩ := in_both oL.apartL ((oL.mem y).2 hx)
    rcases hw with h | h
    · rw [h1] at h; cases h
    · rw [h2] at h; cases h
theorem least_same {gs : List Fl} (hg : OkJ gs) : deeds gs gs = [] := by
  rw [List.eq_nil_iff_forall_not_mem]
  intro d hd
  have oM := ordL hg.1
  rcases mem_deeds hd with ⟨y, hy, he, hw⟩ | ⟨y, hy, he, hw⟩
  · exact least_no hg hg hd ((oM.mem y).1 hy) ((oM.mem y).1 hy) he.symm
  · exact least_no hg hg hd ((oM.mem y).1 hy) ((oM.mem y).1 hy) he.symm
theorem eqlFi (p : ByteArray) (c : Bool) (t : ByteArray) (p' : ByteArray) (c' : Bool) (t' : ByteArray) (w : World) : (binOp .eql 31 (.agg #[.string p, .bool c, .string t]) (.agg #[.string p', .bool c', .string t'])).run Tryd.prog w = .ok (.bool (decide (p.toList = p'.toList) && (decide (c = c') && decide (t.toList = t'.toList)))) w := by
  rw [run_eql_struct, eqInFi]; rfl
theorem eqFi_iff {x y : Fl} : (decide (x.1.toList = y.1.toList) && (decide (x.2.1 = y.2.1) && decide (x.2.2.toList = y.2.2.toList))) = true ↔ x = y := by
  obtain ⟨a, b, c⟩ := x
  obtain ⟨d, e, f⟩ := y
  simp only [Bool.and_eq_true, decide_eq_true_eq, Prod.mk.injEq]
  refine ⟨fun ⟨h1, h2, h3⟩ => ⟨?_, h2, ?_⟩, fun ⟨h1, h2, h3⟩ => ⟨by rw [h1], h2, by rw [h3]⟩⟩
  · exact beq_bytes.1 (beq_iff_eq.2 h1)
  · exact beq_bytes.1 (beq_iff_eq.2 h3)
theorem below_drewN {w w1 : World} (h : Below w.heap.size w w1) (q : Nat) : Below w.heap.size w (w1.drewN q) := ⟨h.os, h.tape, h.output, h.size, h.block⟩

set_option maxHeartbeats 8000000 in
theorem least_walk (fs gs : List Fl) (a b : Option Addr) (ca cb : Nat) (m : Int) (w : World) (hm : w.cell? ⟨0, 0, none⟩ = some (.int .i64 m)) (hlf : fs.length ≤ 1048576) (hlg : gs.length ≤ 1048576) (hcf : IsFiles w a fs) (hcg : IsFiles w b gs)
    (hzf : ∀ f ∈ fs, f.1.size ≤ maxLen ∧ f.2.2.size ≤ 281474976710656) (hzg : ∀ f ∈ gs, f.1.size ≤ maxLen ∧ f.2.2.size ≤ 281474976710656) :
    Calls Tryd.prog 4 #[.slice a fs.length ca, .slice b gs.length cb] w fun e w' => e = .returned (.bool true) ∧ Below w.heap.size w w' := by
  have HD : Hid (Calls Tryd.prog 6 #[.slice a fs.length ca, .slice b gs.length cb] w (DdQ w fs gs)) := deeds_any fs gs a b ca cb m w hm hlf hlg hcf hcg hzf hzg
  have HLV : Hid (∀ W, Below w.heap.size w W → Calls Tryd.prog 9 #[] W fun e w' => e = .returned (.bool true) ∧ Below w.heap.size w w') := fun W hb => (lives_any m W ((hb.cell (p := ⟨0, 0, none⟩) (cell_lt hm)).trans hm)).mono fun e w' hq => ⟨hq.1, hb.trans (hq.2.mono hb.size)⟩
  by_cases hok : OkJ fs ∧ OkJ gs
  · have HD1 : Hid (Calls Tryd.prog 6 #[.slice a fs.length ca, .slice b gs.length cb] w fun e w' => ∃ ad n cp, e = .returned (.tuple #[.slice ad n cp, .int .i64 0]) ∧ n = (deeds fs gs).length ∧ Below w.heap.size w w' ∧ OwnDe w' w.heap.size (.slice ad n cp) (deeds fs gs)) := HD.out.mono fun e w' hq => by
      obtain ⟨hb, ⟨_, v, he, hd⟩ | ⟨hn, _⟩⟩ := hq
      · obtain ⟨ad, cp, rfl, _⟩ := hd.sl
        exact ⟨ad, _, cp, he, rfl, hb, hd⟩
      · exact absurd hok hn
    have HD2 : Hid (∀ W, Below w.heap.size w W → Calls Tryd.prog 6 #[.slice b gs.length cb, .slice b gs.length cb] W fun e w' => ∃ ad cp, e = .returned (.tuple #[.slice ad 0 cp, .int .i64 0]) ∧ Below w.heap.size w w') := fun W hW => (deeds_any gs gs b b cb cb m W ((hW.cell (p := ⟨0, 0, none⟩) (cell_lt hm)).trans hm) hlg hlg (hcg.below hW) (hcg.below hW) hzg hzg).mono fun e w' hq => by
      obtain ⟨hb, ⟨_, v, he, hd⟩ | ⟨hn, _⟩⟩ := hq
      · rw [least_same hok.2] at hd
        obtain ⟨ad, cp, rfl, _⟩ := hd.sl
        exact ⟨ad, cp, he, hW.trans (hb.mono hW.size)⟩
      · exact absurd ⟨hok.2, hok.2⟩ hn
    have HLE : Hid (∀ i (hi : i < (deeds fs gs).length) j (hj : j < fs.length) l (hl : l < gs.length), fs[j].1 = (deeds fs gs)[i].pa → (decide (fs[j].1.toList = gs[l].1.toList) && (decide (fs[j].2.1 = gs[l].2.1) && decide (fs[j].2.2.toList = gs[l].2.2.toList))) = false) := fun i hi j hj l hl e => Bool.eq_false_iff.2 fun h => least_no hok.1 hok.2 (List.getElem_mem hi) (List.getElem_mem hj) (eqFi_iff.1 h ▸ List.getElem_mem hl) e
    have HND : Hid ((deeds fs gs).length ≤ 4194304) := by
      have h1 := lG_len (filesD (loadD gs)) (filesD (loadD fs))
      have hU := List.length_filter_le (wU (filesD (loadD gs))) (filesD (loadD fs)).reverse
      have hR := List.length_filter_le (wR (filesD (loadD gs))) (filesD (loadD fs)).reverse
      have hM := List.length_filter_le (wM (filesD (loadD fs))) (filesD (loadD gs))
      have hP := List.length_filter_le (wP (filesD (loadD fs))) (filesD (loadD gs))
      have e1 := (ordL hok.1.1).perm.length_eq
      have e2 := (ordL hok.2.1).perm.length_eq
      rw [List.length_reverse] at hU hR
      unfold Hid deeds deD lU lR lM lP
      simp only [List.length_append, List.length_map]
      omega
    have HCF := hide3 hcf
    have HCG := hide3 hcg
    have HGD := fun op x y xs ys w => guardFile op x y xs ys w
    clear HD hok hcf hcg hm hzf hzg
    generalize deeds fs gs = ds at *
    go_enter Tryd.func4, Tryd.ntmps4
    go_wp2_with (go_at_call 6; refine HD1.out.mono ?_; rintro e w1 ⟨ad, n, cp, rfl, hn, hb1, ho1⟩; have HN := hide3 hn; have HB1 := hide3 hb1; have HO1 := hide3 ho1; have hnn : n ≤ 4194304 := (by rw [hn]; exact HND.out); clear hb1 ho1 hn)
    go_loopw [7] (fun i wr => ∃ k : Nat, k ≤ n ∧ i = .int .i64 k ∧ ∃ q, wr = w1.drewN q) (fun i _ => n - (intOf i).toNat)
    case atStart => exact ⟨0, Nat.zero_le _, rfl, 0, rfl⟩
    case round =>
      obtain ⟨k, hk, rfl, q0, rfl⟩ := hrel
      by_cases hlt : k < n
      · have hkd : k < ds.length := by rw [← HN.out]; exact hlt
        obtain ⟨gd, cpd, hv, _, _⟩ := HO1.out.some (by omega)
        obtain rfl : ad = some ⟨gd, 0, none⟩ := by cases hv; rfl
        clear hv
        obtain ⟨_, d1, _⟩ := HO1.out.cells k hkd
        have hki : (k : Int) < (n : Int) := by omega
        go_wp2
        go_loopw [8] (fun i wr => ∃ j : Nat, j ≤ fs.length ∧ i = .int .i64 j ∧ ∃ q, wr = w1.drewN q) (fun i _ => fs.length - (intOf i).toNat)
        case atStart => exact ⟨0, Nat.zero_le _, rfl, q0, rfl⟩
        case round =>
          obtain ⟨j, hj, rfl, q1, rfl⟩ := hrel
          by_cases hlj : j < fs.length
          · obtain ⟨ga, oa, rfl, hga, hfa⟩ : ∃ g off, a = some ⟨g, off, none⟩ ∧ g < w.heap.size ∧ FilesAt w g off fs := by
              rcases HCF.out with h | h
              · rw [h] at hlj; exact absurd hlj (Nat.not_lt_zero _)
              · exact h
            obtain ⟨a0, a1, a2⟩ := hfa j hlj
            have x0 := (HB1.out.cell (p := ⟨ga, oa + j * 3, none⟩) hga).trans a0
            have x1 := (HB1.out.cell (p := ⟨ga, oa + j * 3 + 1, none⟩) hga).trans a1
            have x2 := (HB1.out.cell (p := ⟨ga, oa + j * 3 + 1 + 1, none⟩) hga).trans a2
            have hji : (j : Int) < (fs.length : Int) := by omega
            have HLJ := hide3 (HLE.out k hkd j hlj)
            clear a0 a1 a2 hfa
            go_wp2
            go_loopw [9] (fun i wr => ∃ l : Nat, l ≤ gs.length ∧ i = .int .i64 l ∧ ∃ q, wr = w1.drewN q) (fun i _ => gs.length - (intOf i).toNat)
            case atStart => exact ⟨0, Nat.zero_le _, rfl, q1, rfl⟩
            case round =>
              obtain ⟨l, hl, rfl, q2, rfl⟩ := hrel
              by_cases hll : l < gs.length
              · obtain ⟨gb, ob, rfl, hgb, hfb⟩ : ∃ g off, b = some ⟨g, off, none⟩ ∧ g < w.heap.size ∧ FilesAt w g off gs := by
                  rcases HCG.out with h | h
                  · rw [h] at hll; exact absurd hll (Nat.not_lt_zero _)
                  · exact h
                obtain ⟨b0, b1, b2⟩ := hfb l hll
                have y0 := (HB1.out.cell (p := ⟨gb, ob + l * 3, none⟩) hgb).trans b0
                have y1 := (HB1.out.cell (p := ⟨gb, ob + l * 3 + 1, none⟩) hgb).trans b1
                have y2 := (HB1.out.cell (p := ⟨gb, ob + l * 3 + 1 + 1, none⟩) hgb).trans b2
                have hli : (l : Int) < (gs.length : Int) := by omega
                have HLL := hide3 (HLJ.out l hll)
                have hq := fun w => eqlFi fs[j].1 fs[j].2.1 fs[j].2.2 gs[l].1 gs[l].2.1 gs[l].2.2 w
                clear b0 b1 b2 hfb
                by_cases hpe : fs[j].1 = ds[k].pa
                · have hbe : (fs[j].1.toList == ds[k].pa.toList) = true := beq_bytes.2 hpe
                  rw [HLL.out hpe] at hq
                  clear hpe HLL HLJ
                  generalize fs[j].1 = p1 at *
                  generalize fs[j].2.1 = c1 at *
                  generalize fs[j].2.2 = t1 at *
                  generalize gs[l].1 = p2 at *
                  generalize gs[l].2.1 = c2 at *
                  generalize gs[l].2.2 = t2 at *
                  generalize ds[k].pa = p3 at *
                  go_wp2_with fail
                  go_quiet (fail)
                  go_wp2
                  exact ⟨⟨l + 1, by omega, by go_num, q2 + nq, rfl⟩, by simp [intOf]; omega⟩
                · have hbe : (fs[j].1.toList == ds[k].pa.toList) = false := by
                    rw [Bool.eq_false_iff]
                    exact fun h => hpe (beq_bytes.1 h)
                  clear hpe HLL HLJ hq
                  generalize fs[j].1 = p1 at *
                  generalize fs[j].2.1 = c1 at *
                  generalize fs[j].2.2 = t1 at *
                  generalize gs[l].1 = p2 at *
                  generalize gs[l].2.1 = c2 at *
                  generalize gs[l].2.2 = t2 at *
                  generalize ds[k].pa = p3 at *
                  go_wp2_with fail
                  go_quiet (fail)
                  go_wp2
                  exact ⟨⟨l + 1, by omega, by go_num, q2 + nq, rfl⟩, by simp [intOf]; omega⟩
              · go_wp2
                exact ⟨⟨j + 1, by omega, by go_num, q2, rfl⟩, by simp [intOf]; omega⟩
          · go_wp2
            exact ⟨⟨k + 1, by omega, by go_num, q1, rfl⟩, by simp [intOf]; omega⟩
      · obtain rfl : k = n := by omega
        have HBQ := hide3 (below_drewN HB1.out q0)
        go_wp2_with (first
          | (go_at_call 6; refine (HD2.out _ HBQ.out).mono ?_; rintro e w3 ⟨ad3, cp3, rfl, hb3⟩; have HB3 := hide3 hb3; clear hb3)
          | (go_at_call 9; refine (HLV.out _ HB3.out).mono ?_; rintro e w4 ⟨rfl, hb4⟩; have HB4 := hide3 hb4; clear hb4))
        go_ret
        exact ⟨rfl, HB4.out⟩
  · have HD1 : Hid (Calls Tryd.prog 6 #[.slice a fs.length ca, .slice b gs.length cb] w fun e w' => e = .returned (.tuple #[.slice none 0 0, .int .i64 1]) ∧ Below w.heap.size w w') := HD.out.mono fun e w' hq => by
      obtain ⟨hb, ⟨h, _⟩ | ⟨_, he⟩⟩ := hq
      · exact absurd h hok
      · exact ⟨he, hb⟩
    clear HD hok hcf hcg hm hzf hzg
    go_enter Tryd.func4, Tryd.ntmps4
    go_wp2_with (first
      | (go_at_call 6; refine HD1.out.mono ?_; rintro e w1 ⟨rfl, hb1⟩; have HB1 := hide3 hb1; clear hb1)
      | (go_at_call 9; refine (HLV.out _ HB1.out).mono ?_; rintro e w4 ⟨rfl, hb4⟩; have HB4 := hide3 hb4; clear hb4))
    go_ret
    exact ⟨rfl, HB4.out⟩
end Go.Proofs.YtcpmfhalphoppaaDoor
