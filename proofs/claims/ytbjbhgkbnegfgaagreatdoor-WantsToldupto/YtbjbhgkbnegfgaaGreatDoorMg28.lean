/- Wh5, laid in one text. -/
import Derived.Test.YtbjbhgkbnegfgaaGreatDoorMg27
namespace Go.Proofs.YtbjbhgkbnegfgaaGreatDoor
open Go.RowKit Go.Maps Go.WideMaps
set_option maxRecDepth 100000

set_option maxHeartbeats 12800000 in
theorem rpeers_big {wb w : World} (hbb : Below wb.heap.size wb w) {O : List Dp} {x1 x2 x3 : Option Addr} {y1 y2 y3 z1 z2 z3 : Nat} {v4 : Value} (h : DepsAt wb v4 O) (hlen : O.length ≤ 9223372036854775807) {ds : List Dp} (nm : ByteArray) (a b c : Int) {p1 p2 p3 : Option Addr} {q1 r1 r2 q3 r3 : Nat} (hp : DepsAt wb (.slice p2 ds.length r2) ds) (hl : ds.length ≤ 100000000) : Calls Tryz.prog 34 #[.agg #[.string nm, .int .i64 a, .int .i64 b, .int .i64 c, .slice p1 q1 r1, .slice p2 ds.length r2, .slice p3 q3 r3], .agg #[.slice x1 y1 z1, .slice x2 y2 z2, .slice x3 y3 z3, v4]] w fun e w' => ∃ v, e = .returned v ∧ PeersAt wb w w' v O ds ∧ Below w.heap.size w w' := by
  obtain ⟨ad, cap, rfl, hcap, _⟩ := h.el
  have HO := hide3 h
  have HEL : Hid (∀ k (_ : k < ds.length), ∃ g o, p2 = some ⟨g, o, none⟩ ∧ ∃ au nu cu, DpIn wb g (o + k * 2) ds[k] (.slice au nu cu)) := by
    obtain ⟨ad', cap', e, _, hel⟩ := hp.el
    injection e with e1 _ _
    subst e1
    exact hel
  have HB0 : Hid (Below w.heap.size w ((w.alloc (.cells #[.string nm, .int .i64 a, .int .i64 b, .int .i64 c, .slice p1 q1 r1, .slice p2 ds.length r2, .slice p3 q3 r3] 34)).alloc (.cells #[.slice x1 y1 z1, .slice x2 y2 z2, .slice x3 y3 z3, .slice ad O.length cap] 54))) := boxB2 _ _ _
  have b0 : ((w.alloc (.cells #[.string nm, .int .i64 a, .int .i64 b, .int .i64 c, .slice p1 q1 r1, .slice p2 ds.length r2, .slice p3 q3 r3] 34)).alloc (.cells #[.slice x1 y1 z1, .slice x2 y2 z2, .slice x3 y3 z3, .slice ad O.length cap] 54)).cell? ⟨w.heap.size, 5, none⟩ = some (.slice p2 ds.length r2) := by simp
  have b1 : ((w.alloc (.cells #[.string nm, .int .i64 a, .int .i64 b, .int .i64 c, .slice p1 q1 r1, .slice p2 ds.length r2, .slice p3 q3 r3] 34)).alloc (.cells #[.slice x1 y1 z1, .slice x2 y2 z2, .slice x3 y3 z3, .slice ad O.length cap] 54)).cell? ⟨w.heap.size + 1, 0, none⟩ = some (.slice x1 y1 z1) := (new_cell (by simp) rfl).1
  have b2 : ((w.alloc (.cells #[.string nm, .int .i64 a, .int .i64 b, .int .i64 c, .slice p1 q1 r1, .slice p2 ds.length r2, .slice p3 q3 r3] 34)).alloc (.cells #[.slice x1 y1 z1, .slice x2 y2 z2, .slice x3 y3 z3, .slice ad O.length cap] 54)).cell? ⟨w.heap.size + 1, 1, none⟩ = some (.slice x2 y2 z2) := (new_cell (by simp) rfl).1
  have b3 : ((w.alloc (.cells #[.string nm, .int .i64 a, .int .i64 b, .int .i64 c, .slice p1 q1 r1, .slice p2 ds.length r2, .slice p3 q3 r3] 34)).alloc (.cells #[.slice x1 y1 z1, .slice x2 y2 z2, .slice x3 y3 z3, .slice ad O.length cap] 54)).cell? ⟨w.heap.size + 1, 2, none⟩ = some (.slice x3 y3 z3) := (new_cell (by simp) rfl).1
  have b4 : ((w.alloc (.cells #[.string nm, .int .i64 a, .int .i64 b, .int .i64 c, .slice p1 q1 r1, .slice p2 ds.length r2, .slice p3 q3 r3] 34)).alloc (.cells #[.slice x1 y1 z1, .slice x2 y2 z2, .slice x3 y3 z3, .slice ad O.length cap] 54)).cell? ⟨w.heap.size + 1, 3, none⟩ = some (.slice ad O.length cap) := (new_cell (by simp) rfl).1
  have hz0 : w.heap.size < ((w.alloc (.cells #[.string nm, .int .i64 a, .int .i64 b, .int .i64 c, .slice p1 q1 r1, .slice p2 ds.length r2, .slice p3 q3 r3] 34)).alloc (.cells #[.slice x1 y1 z1, .slice x2 y2 z2, .slice x3 y3 z3, .slice ad O.length cap] 54)).heap.size := by simp; omega
  have hz1 : w.heap.size + 1 < ((w.alloc (.cells #[.string nm, .int .i64 a, .int .i64 b, .int .i64 c, .slice p1 q1 r1, .slice p2 ds.length r2, .slice p3 q3 r3] 34)).alloc (.cells #[.slice x1 y1 z1, .slice x2 y2 z2, .slice x3 y3 z3, .slice ad O.length cap] 54)).heap.size := by simp
  clear h hp
  go_enter Tryz.func34, Tryz.ntmps34
  go_wp2_with fail
  generalize ((w.alloc (.cells #[.string nm, .int .i64 a, .int .i64 b, .int .i64 c, .slice p1 q1 r1, .slice p2 ds.length r2, .slice p3 q3 r3] 34)).alloc (.cells #[.slice x1 y1 z1, .slice x2 y2 z2, .slice x3 y3 z3, .slice ad O.length cap] 54)) = W at *
  have hz2 := hz1
  have hz3 := hz1
  have hz4 := hz1
  go_loopw [5, 6] (fun vo vi wr => ∃ (k : Nat) (ps : List (Dp × Value)), k ≤ ds.length ∧ vi = .int .i64 k ∧ wr.ownsRow W.heap.size 62 2 vo ps.length (dpCells ps) ∧ (∀ q ∈ ps, SpansC wb q.2 q.1.rg ∧ q.1.rg.length ≤ 9223372036854775807) ∧ ps.map (·.1) = peersD O (ds.take k) ∧ Below W.heap.size W wr) (fun _ vi _ => ds.length - (intOf vi).toNat)
  case atStart => exact ⟨0, [], Nat.zero_le _, rfl, ⟨rfl, Or.inl ⟨rfl, rfl⟩⟩, fun q hq => (by cases hq), rfl, Below.refl _ _⟩
  case round =>
    obtain ⟨k, ps, hk, rfl, how, hsp, hps, hb⟩ := hrel
    have HOW := hide3 how
    have HSP := hide3 hsp
    have HPS := hide3 hps
    have HB := hide3 hb
    have HBW : Hid (Below w.heap.size w wr) := below_then HB0.out hb
    have HBB : Hid (Below wb.heap.size wb wr) := hbb.trans (HBW.out.mono hbb.size)
    obtain ⟨ao, co, hvo⟩ := own_len how
    have hpl : ps.length = k := by have := congrArg List.length hps; rw [List.length_map] at this; unfold peersD at this; rw [List.length_map, List.length_take] at this; omega
    rw [hpl] at hvo
    subst hvo
    have HPL := hide3 hpl
    have a0 := (hb.cell (p := ⟨w.heap.size, 5, none⟩) hz0).trans b0
    have a1 := (hb.cell (p := ⟨w.heap.size + 1, 0, none⟩) hz1).trans b1
    have a2 := (hb.cell (p := ⟨w.heap.size + 1, 1, none⟩) hz1).trans b2
    have a3 := (hb.cell (p := ⟨w.heap.size + 1, 2, none⟩) hz1).trans b3
    have a4 := (hb.cell (p := ⟨w.heap.size + 1, 3, none⟩) hz1).trans b4
    clear how hsp hps hb hpl b0 b1 b2 b3 b4
    by_cases hlt : k < ds.length
    · have hki : (k : Int) < (ds.length : Int) := by omega
      obtain ⟨g, o, rfl, au, nu, cu, e0, e1, hsd, hg⟩ := HEL.out k hlt
      have a5 := (HBB.out.cell (p := ⟨g, o + k * 2, none⟩) hg).trans e0
      have a6 := (HBB.out.cell (p := ⟨g, o + k * 2 + 1, none⟩) hg).trans e1
      have HTK : Hid (peersD O (ds.take (k + 1)) = peersD O (ds.take k) ++ [⟨ds[k].nm, rangeD O ds[k]⟩]) := by
        unfold Hid peersD
        rw [List.take_succ_eq_append_getElem hlt, List.map_append]
        rfl
      have hgW : g < W.heap.size := Nat.lt_of_lt_of_le hg (Nat.le_trans hbb.size HB0.out.size)
      have hz5 := hgW
      have hz6 := hgW
      have HSD := hide3 hsd
      generalize ds[k] = d at *
      clear e0 e1 hsd
      have HRG : Hid (∀ w1, Below wb.heap.size wb w1 → Calls Tryz.prog 37 #[.agg #[.slice x1 y1 z1, .slice x2 y2 z2, .slice x3 y3 z3, .slice ad O.length cap], .agg #[.string d.nm, .slice au nu cu]] w1 fun e w' => ∃ a1 b1 c1, e = .returned (.slice a1 b1 c1) ∧ (SpansC wb (.slice a1 b1 c1) (rangeD O d) ∧ (rangeD O d).length ≤ 9223372036854775807) ∧ Below w1.heap.size w1 w') := fun w1 hb => by
        refine (rrange_any hb HO.out hlen d HSD.out.1 HSD.out.2).mono ?_
        rintro e w' ⟨a1, b1, c1, rfl, h1, h2, h3⟩
        exact ⟨a1, b1, c1, rfl, ⟨h1, h2⟩, h3⟩
      have HNE : Hid (∀ q, q < W.heap.size → some q ≠ (Value.slice ao k co).ownBlock) := fun q hq e => by have := (World.ownsRow.lt HOW.out q e.symm).1; omega
      go_wp2_with fail
      go_region_held3 (fun w' => w'.cell? ⟨w.heap.size, 5, none⟩ = some (.slice (some ⟨g, o, none⟩) ds.length r2) ∧ w'.cell? ⟨w.heap.size + 1, 0, none⟩ = some (.slice x1 y1 z1) ∧ w'.cell? ⟨w.heap.size + 1, 1, none⟩ = some (.slice x2 y2 z2) ∧ w'.cell? ⟨w.heap.size + 1, 2, none⟩ = some (.slice x3 y3 z3) ∧ w'.cell? ⟨w.heap.size + 1, 3, none⟩ = some (.slice ad O.length cap) ∧ w'.cell? ⟨g, o + k * 2, none⟩ = some (.string d.nm) ∧ w'.cell? ⟨g, o + k * 2 + 1, none⟩ = some (.slice au nu cu)) (go_keep) (first
        | (go_at_call 37; refine (HRG.out _ HBB.out.drew).mono ?_; rintro e w5 ⟨a9, b9, c9, rfl, hv5, hb5⟩; have HV5 := hide3 hv5; have HB5 : Hid (Below W.heap.size W w5) := below_then HB.out.drew hb5; have HW5 : Hid (Below wr.heap.size wr w5) := below_then (Below.refl _ _).drew hb5; have t0 := (HW5.out.cell (p := ⟨w.heap.size, 5, none⟩) (Nat.lt_of_lt_of_le hz0 HB.out.size)).trans a0; have t1 := (HW5.out.cell (p := ⟨w.heap.size + 1, 0, none⟩) (Nat.lt_of_lt_of_le hz1 HB.out.size)).trans a1; have t2 := (HW5.out.cell (p := ⟨w.heap.size + 1, 1, none⟩) (Nat.lt_of_lt_of_le hz2 HB.out.size)).trans a2; have t3 := (HW5.out.cell (p := ⟨w.heap.size + 1, 2, none⟩) (Nat.lt_of_lt_of_le hz3 HB.out.size)).trans a3; have t4 := (HW5.out.cell (p := ⟨w.heap.size + 1, 3, none⟩) (Nat.lt_of_lt_of_le hz4 HB.out.size)).trans a4; have t5 := (HW5.out.cell (p := ⟨g, o + k * 2, none⟩) (Nat.lt_of_lt_of_le hz5 HB.out.size)).trans a5; have t6 := (HW5.out.cell (p := ⟨g, o + k * 2 + 1, none⟩) (Nat.lt_of_lt_of_le hz6 HB.out.size)).trans a6; have hB5 : W.heap.size ≤ w5.heap.size := HB5.out.size; have HO5 := hide3 (own_below HOW.out HW5.out); clear hb5 hv5)
        | (refine step_own (B := W.heap.size) (M := w5.heap.size) (wx := w5) (v := .slice ao k co) (n := ps.length) infoDp Tryz.underlying32 rfl (by decide) (by decide) rfl (.tmp 14) (.tmp 29) rfl rfl HO5.out hB5 #[.string d.nm, .slice a9 b9 c9] rfl (by simp [Value.oneCell']) rfl rfl (by have := HPL.out; omega) ?_; intro v1 w7 ho hgr hat; obtain ⟨g7, cap7, rfl⟩ := own_len ho; have HO7 := hide3 ho; have HB7 : Hid (Below W.heap.size W w7) := HB5.out.grown (grown_pre (boxB _ _) hgr) HB5.out.size (fun q hq => (World.ownsRow.lt HO5.out q hq).1); have s0 := (grown_pre (boxB _ _) hgr).cell t0 (HNE.out _ hz0); have s1 := (grown_pre (boxB _ _) hgr).cell t1 (HNE.out _ hz1); have s2 := (grown_pre (boxB _ _) hgr).cell t2 (HNE.out _ hz2); have s3 := (grown_pre (boxB _ _) hgr).cell t3 (HNE.out _ hz3); have s4 := (grown_pre (boxB _ _) hgr).cell t4 (HNE.out _ hz4); have s5 := (grown_pre (boxB _ _) hgr).cell t5 (HNE.out _ hz5); have s6 := (grown_pre (boxB _ _) hgr).cell t6 (HNE.out _ hz6); clear ho hgr hat))
      all_goals go_wp2_with fail
      all_goals refine ⟨⟨k + 1, ps ++ [(⟨d.nm, rangeD O d⟩, .slice a9 b9 c9)], by omega, by go_num, ?_, ?_, ?_, HB7.out⟩, by simp [intOf]; omega⟩
      · rw [dpCells_snoc, List.length_append]
        exact HO7.out
      · intro q hq
        rcases List.mem_append.1 hq with hq | hq
        · exact HSP.out q hq
        · obtain rfl := List.mem_singleton.1 hq
          exact HV5.out
      · rw [List.map_append, HPS.out, HTK.out]
        rfl
    · obtain rfl : k = ds.length := by omega
      have hki : ¬ ((ds.length : Int) < (ds.length : Int)) := by omega
      have HPD : Hid (ps.map (·.1) = peersD O ds) := by
        unfold Hid
        rw [HPS.out, List.take_length]
      have HOE : Hid (wr.ownsRow w.heap.size 62 2 (.slice ao ds.length co) ps.length (dpCells ps)) := own_base HOW.out HB0.out.size
      go_wp2_with fail
      go_ret
      exact ⟨_, rfl, ⟨ps, HOE.out, HSP.out, HPD.out⟩, HBW.out⟩

set_option maxHeartbeats 12800000 in
theorem prange_any {w : World} {O : List Dp} {x1 x2 x3 : Option Addr} {y1 y2 y3 z1 z2 z3 : Nat} {v4 : Value} (h : DepsAt w v4 O) (hlen : O.length ≤ 9223372036854775807) (hn : ∀ d ∈ O, d.nm.size ≤ 9223372036854775807) (d : Dp) {au : Option Addr} {nu cu : Nat} (hd : SpansC w (.slice au nu cu) d.rg) (hdl : d.rg.length ≤ 9223372036854775807) (hdn : d.nm.size ≤ 9223372036854775807) (hr : (rangeD O d).length * 48 ≤ 140737488355328) : Calls Tryz.prog 35 #[.agg #[.slice x1 y1 z1, .slice x2 y2 z2, .slice x3 y3 z3, v4], .agg #[.string d.nm, .slice au nu cu]] w fun e w' => ∃ v, e = .returned v ∧ OwnS w' w.heap.size v (rangeD O d) ∧ Below w.heap.size w w' := by
  obtain ⟨ad, cap, rfl, hcap, _⟩ := h.el
  have HB0 : Hid (Below w.heap.size w ((w.alloc (.cells #[.slice x1 y1 z1, .slice x2 y2 z2, .slice x3 y3 z3, .slice ad O.length cap] 54)).alloc (.cells #[.string d.nm, .slice au nu cu] 62))) := boxB2 _ _ _
  have HIN : Hid (DepsAt w (.slice ad O.length cap) O ∧ SpansC w (.slice au nu cu) d.rg ∧ O.length ≤ 9223372036854775807 ∧ ∀ d ∈ O, d.nm.size ≤ 9223372036854775807) := ⟨h, hd, hlen, hn⟩
  have HCS : Hid (((w.alloc (.cells #[.slice x1 y1 z1, .slice x2 y2 z2, .slice x3 y3 z3, .slice ad O.length cap] 54)).alloc (.cells #[.string d.nm, .slice au nu cu] 62)).cell? ⟨w.heap.size, 0, none⟩ = some (.slice x1 y1 z1) ∧ ((w.alloc (.cells #[.slice x1 y1 z1, .slice x2 y2 z2, .slice x3 y3 z3, .slice ad O.length cap] 54)).alloc (.cells #[.string d.nm, .slice au nu cu] 62)).cell? ⟨w.heap.size, 1, none⟩ = some (.slice x2 y2 z2) ∧ ((w.alloc (.cells #[.slice x1 y1 z1, .slice x2 y2 z2, .slice x3 y3 z3, .slice ad O.length cap] 54)).alloc (.cells #[.string d.nm, .slice au nu cu] 62)).cell? ⟨w.heap.size, 2, none⟩ = some (.slice x3 y3 z3) ∧ ((w.alloc (.cells #[.slice x1 y1 z1, .slice x2 y2 z2, .slice x3 y3 z3, .slice ad O.length cap] 54)).alloc (.cells #[.string d.nm, .slice au nu cu] 62)).cell? ⟨w.heap.size, 3, none⟩ = some (.slice ad O.length cap) ∧ ((w.alloc (.cells #[.slice x1 y1 z1, .slice x2 y2 z2, .slice x3 y3 z3, .slice ad O.length cap] 54)).alloc (.cells #[.string d.nm, .slice au nu cu] 62)).cell? ⟨w.heap.size + 1, 0, none⟩ = some (.string d.nm) ∧ ((w.alloc (.cells #[.slice x1 y1 z1, .slice x2 y2 z2, .slice x3 y3 z3, .slice ad O.length cap] 54)).alloc (.cells #[.string d.nm, .slice au nu cu] 62)).cell? ⟨w.heap.size + 1, 1, none⟩ = some (.slice au nu cu)) := ⟨((boxB _ _).cell (p := ⟨w.heap.size, 0, none⟩) (by simp)).trans (new_cell rfl rfl).1, ((boxB _ _).cell (p := ⟨w.heap.size, 1, none⟩) (by simp)).trans (new_cell rfl rfl).1, ((boxB _ _).cell (p := ⟨w.heap.size, 2, none⟩) (by simp)).trans (new_cell rfl rfl).1, ((boxB _ _).cell (p := ⟨w.heap.size, 3, none⟩) (by simp)).trans (new_cell rfl rfl).1, (new_cell (by simp) rfl).1, (new_cell (by simp) rfl).1⟩
  have hNl : w.heap.size + 1 < ((w.alloc (.cells #[.slice x1 y1 z1, .slice x2 y2 z2, .slice x3 y3 z3, .slice ad O.length cap] 54)).alloc (.cells #[.string d.nm, .slice au nu cu] 62)).heap.size := by simp
  clear h hd hlen hn hcap
  go_enter Tryz.func35, Tryz.ntmps35
  go_upto_region 1 with fail
  obtain ⟨N0, hN0⟩ : ∃ k, k = w.heap.size := ⟨_, rfl⟩
  rw [← hN0] at HCS hNl
  rw [← hN0]
  generalize ((w.alloc (.cells #[.slice x1 y1 z1, .slice x2 y2 z2, .slice x3 y3 z3, .slice ad O.length cap] 54)).alloc (.cells #[.string d.nm, .slice au nu cu] 62)) = W at *
  clear hN0
  have HBX : Hid (∀ X, Below W.heap.size W X → X.cell? ⟨N0, 0, none⟩ = some (.slice x1 y1 z1) ∧ X.cell? ⟨N0, 1, none⟩ = some (.slice x2 y2 z2) ∧ X.cell? ⟨N0, 2, none⟩ = some (.slice x3 y3 z3) ∧ X.cell? ⟨N0, 3, none⟩ = some (.slice ad O.length cap) ∧ X.cell? ⟨N0 + 1, 0, none⟩ = some (.string d.nm) ∧ X.cell? ⟨N0 + 1, 1, none⟩ = some (.slice au nu cu)) := fun X hx => by
    obtain ⟨q0, q1, q2, q3, q4, q5⟩ := HCS.out
    exact ⟨(hx.cell (p := ⟨N0, 0, none⟩) (by simp only; omega)).trans q0, (hx.cell (p := ⟨N0, 1, none⟩) (by simp only; omega)).trans q1, (hx.cell (p := ⟨N0, 2, none⟩) (by simp only; omega)).trans q2, (hx.cell (p := ⟨N0, 3, none⟩) (by simp only; omega)).trans q3, (hx.cell (p := ⟨N0 + 1, 0, none⟩) hNl).trans q4, (hx.cell (p := ⟨N0 + 1, 1, none⟩) hNl).trans q5⟩
  have HOV : Hid (∀ X, Below W.heap.size W X → Calls Tryz.prog 71 #[.agg #[.slice x1 y1 z1, .slice x2 y2 z2, .slice x3 y3 z3, .slice ad O.length cap]] X fun e w' => ∃ M, e = .returned (.agg #[.slice ad O.length cap, .map (some M)]) ∧ (∃ n, SmAt w' M n (.int .i64 0) (firstI O)) ∧ Below X.heap.size X w') := fun X hx => (ovs_any (HIN.out.1.below (below_then HB0.out hx)) HIN.out.2.2.1 HIN.out.2.2.2).mono fun e w' ⟨h1, h2, h3⟩ => ⟨_, h1, h2, h3⟩
  have HRO : Hid (∀ X M, Below W.heap.size W X → (∃ n, SmAt X M n (.int .i64 0) (firstI O)) → Calls Tryz.prog 77 #[.agg #[.slice ad O.length cap, .map (some M)], .agg #[.string d.nm, .slice au nu cu]] X fun e w' => ∃ a9 b9 c9, e = .returned (.slice a9 b9 c9) ∧ SpansC w' (.slice a9 b9 c9) (rangeD O d) ∧ Below X.heap.size X w') := fun X M hx hm => by
    obtain ⟨n, hm⟩ := hm
    refine (range_any (HIN.out.1.below (below_then HB0.out hx)) hm d (HIN.out.2.1.below (below_then HB0.out hx)) hdl hdn).mono fun e w' hq => ?_
    obtain ⟨v, h1, h2, h3, h4⟩ := hq
    have h2' := h2
    obtain ⟨⟨a9, c9, rfl, _⟩, _⟩ := h2
    exact ⟨a9, _, c9, h1, h2', h4⟩
  have HCL : Hid (∀ (X : World) (u : Value), SpansC X u (rangeD O d) → Calls Tryz.prog 76 #[u] X fun e w' => ∃ v', e = .returned v' ∧ OwnS w' X.heap.size v' (rangeD O d) ∧ Below X.heap.size X w') := fun X u hu => cloneS_big hu hr
  have HO : Hid (Below W.heap.size W W.drew) := (Below.refl _ _).drew
  obtain ⟨t0, t1, t2, t3, t4, t5⟩ := HBX.out _ HO.out
  clear HCS
  go_region_held3 (fun w' => w'.cell? ⟨N0, 0, none⟩ = some (.slice x1 y1 z1) ∧ w'.cell? ⟨N0, 1, none⟩ = some (.slice x2 y2 z2) ∧ w'.cell? ⟨N0, 2, none⟩ = some (.slice x3 y3 z3) ∧ w'.cell? ⟨N0, 3, none⟩ = some (.slice ad O.length cap) ∧ w'.cell? ⟨N0 + 1, 0, none⟩ = some (.string d.nm) ∧ w'.cell? ⟨N0 + 1, 1, none⟩ = some (.slice au nu cu)) (go_keep) (first
    | (go_at_call 76; have _t := HV7; refine (HCL.out _ _ HV7.out).mono ?_; rintro e w8 ⟨v8, rfl, hos, hb8⟩; have HOS := hide3 hos; have HB78 := hide3 hb8; have HB8 := hide3 (below_then HB7.out hb8); obtain ⟨p0, p1, p2, p3, p4, p5⟩ := HBX.out _ HB8.out; clear hos hb8)
    | (go_at_call 77; have _t := HM6; refine (HRO.out _ _ HB6.out HM6.out).mono ?_; rintro e w7 ⟨a9, b9, c9, rfl, hv7, hb7⟩; have HV7 := hide3 hv7; have HB7 := hide3 (below_then HB6.out hb7); obtain ⟨s0, s1, s2, s3, s4, s5⟩ := HBX.out _ HB7.out; clear hv7 hb7)
    | (go_at_call 71; refine (HOV.out _ HO.out).mono ?_; rintro e w6 ⟨M, rfl, hm6, hb6⟩; have HM6 := hide3 hm6; have HB6 := hide3 (below_then HO.out hb6); obtain ⟨r0, r1, r2, r3, r4, r5⟩ := HBX.out _ HB6.out; clear hm6 hb6))
  all_goals go_wp2
  all_goals go_ret
  all_goals exact ⟨_, rfl, HOS.out.base (Nat.le_trans HB0.out.size HB7.out.size), below_then HB0.out HB8.out⟩

theorem zero_over {w : World} {B n gr cr k : Nat} {cs : List Value} (h : w.ownsRow B 64 6 (.slice (some ⟨gr, 0, none⟩) n cr) n cs) : (∃ cs', ((((((w.setCell ⟨gr, k * 6, none⟩ (.int .i64 0)).setCell ⟨gr, k * 6 + 1, none⟩ (.int .i64 0)).setCell ⟨gr, k * 6 + 2, none⟩ (.int .i64 0)).setCell ⟨gr, k * 6 + 3, none⟩ (.int .i64 0)).setCell ⟨gr, k * 6 + 4, none⟩ (.int .i64 0)).setCell ⟨gr, k * 6 + 5, none⟩ (.int .i64 0)).ownsRow B 64 6 (.slice (some ⟨gr, 0, none⟩) n cr) n cs') ∧ w.grownBy ((((((w.setCell ⟨gr, k * 6, none⟩ (.int .i64 0)).setCell ⟨gr, k * 6 + 1, none⟩ (.int .i64 0)).setCell ⟨gr, k * 6 + 2, none⟩ (.int .i64 0)).setCell ⟨gr, k * 6 + 3, none⟩ (.int .i64 0)).setCell ⟨gr, k * 6 + 4, none⟩ (.int .i64 0)).setCell ⟨gr, k * 6 + 5, none⟩ (.int .i64 0)) (some gr) := by
  obtain ⟨a1, b1⟩ := h.stored (k * 6) (.int .i64 0)
  obtain ⟨a2, b2⟩ := a1.stored (k * 6 + 1) (.int .i64 0)
  obtain ⟨a3, b3⟩ := a2.stored (k * 6 + 2) (.int .i64 0)
  obtain ⟨a4, b4⟩ := a3.stored (k * 6 + 3) (.int .i64 0)
  obtain ⟨a5, b5⟩ := a4.stored (k * 6 + 4) (.int .i64 0)
  obtain ⟨a6, b6⟩ := a5.stored (k * 6 + 5) (.int .i64 0)
  exact ⟨⟨_, a6⟩, ((((b1.trans b2).trans b3).trans b4).trans b5).trans b6⟩

/-- Peers of one's own that may be written over: the row is as it was, each range is one's own. -/
def PwQ (w0 : World) (B : Nat) (v : Value) (ps : List (Dp × Value)) (wr : World) : Prop := wr.ownsRow B 62 2 v ps.length (dpCells ps) ∧ (∀ p ∈ ps, ∃ cs, wr.ownsRow B 64 6 p.2 p.1.rg.length cs) ∧ Below w0.heap.size w0 wr
theorem PwQ.over {w0 : World} {B : Nat} {v : Value} {ps : List (Dp × Value)} {wr : World} (h : PwQ w0 B v ps wr) (hB : w0.heap.size ≤ B) {gr n cr k : Nat} {cs : List Value} (hr : wr.ownsRow B 64 6 (.slice (some ⟨gr, 0, none⟩) n cr) n cs) : PwQ w0 B v ps ((((((wr.setCell ⟨gr, k * 6, none⟩ (.int .i64 (-1))).setCell ⟨gr, k * 6 + 1, none⟩ (.int .i64 0)).setCell ⟨gr, k * 6 + 2, none⟩ (.int .i64 0)).setCell ⟨gr, k * 6 + 3, none⟩ (.int .i64 0)).setCell ⟨gr, k * 6 + 4, none⟩ (.int .i64 0)).setCell ⟨gr, k * 6 + 5, none⟩ (.int .i64 0)) := by
  obtain ⟨⟨cs', q1⟩, q2⟩ := span_over (k := k) hr
  obtain ⟨h1, h2, h3⟩ := h
  refine ⟨own_of h1 fun g hgv => q2.block g (World.ownsRow.lt h1 g hgv).2 fun q => own_ne h1 hr (by decide) hgv q.symm, fun p hp => ?_, h3.trans (below_grown q2 (fun g e => by cases e; exact Nat.le_trans hB (World.ownsRow.lt hr gr rfl).1) h3.size)⟩
  obtain ⟨c1, hc⟩ := h2 p hp
  rcases hc.2 with ⟨e, hn⟩ | ⟨g1, cap1, cur, e, _⟩
  · exact ⟨c1, own_of hc fun g hgv => by rw [e] at hgv; cases hgv⟩
  · by_cases hg : g1 = gr
    · subst hg
      rw [e] at hc ⊢
      exact (span_over (k := k) hc).1
    · exact ⟨c1, own_of hc fun g hgv => q2.block g (World.ownsRow.lt hc g hgv).2 fun q => by rw [e] at hgv; cases hgv; cases q; exact hg rfl⟩
end Go.Proofs.YtbjbhgkbnegfgaaGreatDoor
