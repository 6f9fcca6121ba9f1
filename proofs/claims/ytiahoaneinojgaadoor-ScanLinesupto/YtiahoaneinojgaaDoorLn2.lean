/- ScanLines: the walk. -/
import Derived.Test.YtiahoaneinojgaaDoorLn1
namespace Go.Proofs.YtiahoaneinojgaaDoor.Sc
open Go.RowKit
set_option maxRecDepth 100000

theorem ans_fits (t : ByteArray) (most : Int) : (ansL t most).length ≤ t.size ∧ ∀ l ∈ ansL t most, l.length ≤ t.size := by
  unfold ansL
  split
  · exact ⟨Nat.zero_le _, fun l hl => by cases hl⟩
  · exact lin_fits t

set_option maxHeartbeats 12800000 in
theorem scanLines_walk (t : ByteArray) (hs : t.size ≤ 1048576) (most : Int) (w : World) (he : EnvS w) : Calls Tryd.prog 3 #[.string t, .int .i64 most] w fun e w' => e = .returned (.bool true) ∧ Below w.heap.size w w' := by
  have HRL : Hid (Calls Tryd.prog 8 #[.string t, .int .i64 most] w (LinesQ w (ansE t most) (ansN t most) (ansL t most))) := rLines_all t (by omega) most w
  have HLN : Hid (∀ w1, Calls Tryd.prog 9 #[.string t, .int .i64 most] w1 (LinesQ w1 (ansE t most) (ansN t most) (ansL t most))) := Lines_any t (by omega) most
  have HKN : Hid (Kno w) := fun w1 hb => known_any w1 (he.below hb)
  have hfit := ans_fits t most
  clear he
  generalize ansE t most = E at *
  generalize ansN t most = N at *
  generalize ansL t most = L at *
  have HF : Hid (Fits L) := ⟨Nat.le_trans hfit.1 (by omega), fun l hl => Nat.le_trans (hfit.2 l hl) (by omega)⟩
  have HFL : Hid (∀ l ∈ L, l.length ≤ 1048576) := fun l hl => Nat.le_trans (hfit.2 l hl) (by omega)
  have hll : L.length ≤ 1048576 := by omega
  obtain ⟨i0, hi, hz0, hz1, hz2⟩ := info_parts infoStr
  clear hfit
  unfold LinesQ at HRL HLN
  go_enter Tryd.func3, Tryd.ntmps3
  go_wp2_with (go_at_call 8; refine HRL.out.mono ?_; rintro e w1 ⟨vb, rfl, hob, hb1⟩; have HVB := hide3 hob.at; have HB1 := hide3 hb1; clear hob hb1 HRL)
  go_loopw [8] (fun r wr => ∃ q : Nat, q ≤ 2 ∧ r = .int .i64 q ∧ Below w1.heap.size w1 wr) (fun r _ => 2 - (intOf r).toNat)
  case atStart => exact ⟨0, Nat.zero_le _, rfl, Below.refl _ _⟩
  case round =>
    obtain ⟨q, hq, rfl, hbr⟩ := hrel
    have HBR := hide3 hbr
    clear hbr
    by_cases hlt : q < 2
    · go_wp2_with (first
        | (go_at_call 9; refine (HLN.out _).mono ?_; rintro e w2 ⟨va, rfl, ⟨ps, hps, hL2⟩, hb2⟩; have HPS := hide3 hps; have HL2 := hide3 hL2; have HB2 := hide3 hb2; clear hps hL2 hb2)
        | (go_at_call 10; refine (same_yes (L := L) (HPS.out ▸ HL2.out.at) ((HVB.out.below HBR.out).below HB2.out) HF.out).mono ?_; rintro e w3 ⟨rfl, hb3⟩; have HB3 : Hid (Below wr.heap.size wr w3) := below_then HB2.out hb3; have HT3 : Hid (TailA w3 wr.heap.size va ps 0 ∧ ApartA va ps) := ⟨HL2.out.tail.1.below hb3, HL2.out.tail.2⟩; have hpl : ps.length ≤ 1048576 := (by rw [← HPS.out, List.length_map] at hll; exact hll); have HPL : Hid (∀ p ∈ ps, p.2.length ≤ 1048576) := (fun p hp => HFL.out p.2 (by rw [← HPS.out]; exact List.mem_map_of_mem hp)); clear hb3))
      obtain ⟨adA, capA, rfl⟩ := HL2.out.len
      obtain ⟨B0, hB0, hB1, HT0⟩ : ∃ B0, w1.heap.size ≤ B0 ∧ B0 ≤ w3.heap.size ∧ Hid (TailA w3 B0 (.slice adA ps.length capA) ps 0 ∧ ApartA (.slice adA ps.length capA) ps) := ⟨wr.heap.size, HBR.out.size, HB3.out.size, HT3⟩
      have HB4 : Hid (Below w1.heap.size w1 w3) := below_then HBR.out HB3.out
      clear HT3 HL2 HB2 HB3
      go_loopw [12] (fun i wi => ∃ k : Nat, k ≤ ps.length ∧ i = .int .i64 k ∧ TailA wi B0 (.slice adA ps.length capA) ps k ∧ Below w1.heap.size w1 wi ∧ B0 ≤ wi.heap.size) (fun i _ => ps.length - (intOf i).toNat)
      case atStart => exact ⟨0, Nat.zero_le _, rfl, HT0.out.1, HB4.out, hB1⟩
      case round =>
        obtain ⟨k, hk, rfl, htl, hbi, hsi⟩ := hrel
        have HTL := hide3 htl
        have HBI := hide3 hbi
        clear htl hbi
        by_cases hkl : k < ps.length
        · obtain ⟨gA, rfl, hgA⟩ : ∃ gA, adA = some ⟨gA, 0, none⟩ ∧ B0 ≤ gA := by
            obtain ⟨vs, h1, _⟩ := HTL.out
            obtain ⟨g, cap, e, hB, _⟩ := row_some h1 (by omega)
            cases e
            exact ⟨g, rfl, hB⟩
          have HMD := hide3 (HTL.out.mid hkl)
          have hn := HPL.out _ (List.getElem_mem hkl)
          have hpos : 0 < ps[k].2.length := List.length_pos_iff.2 (HT0.out.2.2.2 _ (List.getElem_mem hkl))
          obtain ⟨g, cap, hu, hgB⟩ : ∃ g cap, ps[k].1 = .slice (some ⟨g, 0, none⟩) ps[k].2.length cap ∧ B0 ≤ g := by
            obtain ⟨vs, xs, _, _, h3, _⟩ := HMD.out
            obtain ⟨g, cap, e, hB, _⟩ := row_some h3 hpos
            exact ⟨g, cap, e, hB⟩
          have HOB : Hid (ps[k].1.ownBlock = some g) := by unfold Hid; rw [hu]; rfl
          rw [hu] at HMD
          clear hu
          generalize ps[k].2.length = n at *
          have hcA0 : wr.cell? ⟨gA, k, none⟩ = some (.slice (some ⟨g, 0, none⟩) n cap) := by
            obtain ⟨vs, xs, h1, h2, _⟩ := HMD.out
            rw [World.ownsRow.cellAt h1 k (by omega)]; exact h2
          go_wp2_with fail
          go_loopw [13] (fun j wj => ∃ m : Nat, m ≤ n ∧ j = .int .i64 m ∧ MidA wj B0 (.slice (some ⟨gA, 0, none⟩) ps.length capA) ps k (.slice (some ⟨g, 0, none⟩) n cap) n ∧ Below w1.heap.size w1 wj ∧ B0 ≤ wj.heap.size) (fun j _ => n - (intOf j).toNat)
          case atStart => exact ⟨0, Nat.zero_le _, rfl, HMD.out, HBI.out, hsi⟩
          case round =>
            obtain ⟨m, hm, rfl, hmd, hbj, hsj⟩ := hrel
            have HM := hide3 hmd
            have HBJ := hide3 hbj
            clear hmd hbj hcA0
            have hcA : wr.cell? ⟨gA, k, none⟩ = some (.slice (some ⟨g, 0, none⟩) n cap) := by
              obtain ⟨vs, xs, h1, h2, _⟩ := HM.out
              rw [World.ownsRow.cellAt h1 k (by omega)]; exact h2
            by_cases hml : m < n
            · obtain ⟨x0, hcx⟩ : ∃ x, wr.cell? ⟨g, m, none⟩ = some x := by
                obtain ⟨vs, xs, _, _, h3, _⟩ := HM.out
                have hx : m < xs.length := by have := h3.1; omega
                exact ⟨xs[m], by rw [World.ownsRow.cellAt h3 m (by omega), List.getElem?_eq_getElem hx]⟩
              have hfx : wr.frozen? ⟨g, m, none⟩ = false := by
                obtain ⟨vs, xs, _, _, h3, _⟩ := HM.out
                exact World.ownsRow.frozenAt h3 m
              go_wp2_with fail
              obtain ⟨r1, r2⟩ := HM.out.put HT0.out.2 hkl HOB.out m (.string ⟨#[63]⟩)
              exact ⟨⟨m + 1, by omega, by go_num, r1, setCell_below HBJ.out (by omega), by simpa using hsj⟩, by simp [intOf]; omega⟩
            · obtain ⟨xs0, HM3⟩ : ∃ xs, Hid (wr.ownsRow B0 9 1 (.slice (some ⟨g, 0, none⟩) n cap) n xs) := by
                obtain ⟨vs, xs, _, _, h3, _⟩ := HM.out
                exact ⟨xs, h3⟩
              go_wp2_with (have _h := HM3; at_builtin; refine wpList_append_own_at _ rfl _ _ 27 rfl B0 9 i0 _ 1 16 Tryd.underlying27 hi hz0 hz1 hz2 rfl (by decide) (.slice (some ⟨g, 0, none⟩) n cap) n xs0 rfl (HM3.out.alloc _) ⟨wr.heap.size, 0, none⟩ 1 1 [.string ⟨#[33]⟩] rfl rfl (cell_one_new _ _ _) (by simp [Value.oneCell']) (by unfold maxLen; omega) (by omega) (by simp; omega) ?_; intro v5 w5 hown5 hg5 hnil5 hat5; have HM5 := hide3 (HM.out.below (boxB wr (.cells #[.string ⟨#[33]⟩] 9))); obtain ⟨hc5, hf5⟩ := HM5.out.cells HT0.out.2 hkl HOB.out hg5; have HG5 := hide3 hg5; obtain ⟨g5, cap5, rfl, _⟩ := row_some hown5 (by omega); clear hown5 hg5 hnil5 hat5; go_frame)
              obtain ⟨r1, r2⟩ := HM5.out.done HT0.out.2 hkl HOB.out HG5.out rfl (.slice (some ⟨g5, 0, none⟩) (n + 1) cap5)
              have hb5 : Below w1.heap.size w1 w5 := (below_then HBJ.out (boxB _ _)).grown HG5.out (below_then HBJ.out (boxB _ _)).size (fun q hq => by cases hq; show w1.heap.size ≤ g; omega)
              have hs5 := HG5.out.size
              exact ⟨⟨k + 1, by omega, by go_num, r1, setCell_below hb5 (by omega), by simp at hs5 ⊢; omega⟩, by simp [intOf]; omega⟩
        · go_wp2
          exact ⟨⟨q + 1, by omega, by go_num, HBI.out⟩, by simp [intOf]; omega⟩
    · go_wp2_with (go_at_call 11; refine (HKN.out _ (below_then HB1.out HBR.out)).mono ?_; rintro e w2 ⟨rfl, hb2⟩; have HB2 := hide3 hb2; clear hb2)
      go_ret
      exact ⟨rfl, below_then (below_then HB1.out HBR.out) HB2.out⟩
end Go.Proofs.YtiahoaneinojgaaDoor.Sc
