/- Wb2, laid in one text. -/
import Derived.Test.YtjmkgojddhfhiaaGreatDoorMg21
namespace Go.Proofs.YtjmkgojddhfhiaaGreatDoor
open Go.RowKit Go.Maps Go.WideMaps
set_option maxRecDepth 100000

theorem rowD_at {w : World} {B : Nat} {v : Value} {ps : List (Dp × Value)} (h : w.ownsRow B 68 2 v ps.length (dpCells ps)) (hs : ∀ p ∈ ps, SpansC w p.2 p.1.rg ∧ p.1.rg.length ≤ 9223372036854775807) : DepsAt w v (ps.map (·.1)) := by
  have h0 := h
  rcases h.2 with ⟨rfl, hn⟩ | ⟨g, cap, cur, rfl, hB, hg, hc, hm, _⟩
  · have : ps = [] := List.eq_nil_of_length_eq_zero hn
    subst this
    exact ⟨none, 0, rfl, Nat.le_refl _, Or.inl rfl⟩
  · have hlt := (Array.getElem?_eq_some_iff.1 hg).1
    refine ⟨_, cap, by rw [List.length_map], by rw [List.length_map]; exact hc, Or.inr ⟨g, 0, rfl, hlt, fun i hi => ?_⟩⟩
    have hi' : i < ps.length := by simpa using hi
    have c0 := World.ownsRow.cellAt h0 (i * 2) (by omega)
    have c1 := World.ownsRow.cellAt h0 (i * 2 + 1) (by omega)
    rw [(dpCells_at ps i hi').1] at c0
    rw [(dpCells_at ps i hi').2] at c1
    refine ⟨ps[i].2, ?_⟩
    rw [List.getElem_map, Nat.zero_add]
    exact ⟨c0, c1, hs _ (List.getElem_mem hi'), hlt⟩
/-- A package's peers in their ranges. -/
def peersD (O : List Dp) (ds : List Dp) : List Dp := ds.map fun d => ⟨d.nm, rangeD O d⟩
/-- They lie there, in a row of one's own, their ranges where they lay. -/
def PeersAt (wb w w' : World) (v : Value) (O ds : List Dp) : Prop := ∃ us, w'.ownsRow w.heap.size 68 2 v us.length (dpCells us) ∧ (∀ q ∈ us, SpansC wb q.2 q.1.rg ∧ q.1.rg.length ≤ 9223372036854775807) ∧ us.map (·.1) = peersD O ds

set_option maxHeartbeats 12800000 in
theorem rpeers_any {wb w : World} (hbb : Below wb.heap.size wb w) {O : List Dp} {x1 x2 x3 : Option Addr} {y1 y2 y3 z1 z2 z3 : Nat} {v4 : Value} (h : DepsAt wb v4 O) (hlen : O.length ≤ 9223372036854775807) {ds : List Dp} (nm : ByteArray) (a b c : Int) {p1 p2 p3 : Option Addr} {q1 r1 r2 q3 r3 : Nat} (hp : DepsAt wb (.slice p2 ds.length r2) ds) (hl : ds.length ≤ 1000) : Calls Tryz.prog 40 #[.agg #[.string nm, .int .i64 a, .int .i64 b, .int .i64 c, .slice p1 q1 r1, .slice p2 ds.length r2, .slice p3 q3 r3], .agg #[.slice x1 y1 z1, .slice x2 y2 z2, .slice x3 y3 z3, v4]] w fun e w' => ∃ v, e = .returned v ∧ PeersAt wb w w' v O ds ∧ Below w.heap.size w w' := by
  obtain ⟨ad, cap, rfl, hcap, _⟩ := h.el
  have HO := hide3 h
  have HEL : Hid (∀ k (_ : k < ds.length), ∃ g o, p2 = some ⟨g, o, none⟩ ∧ ∃ au nu cu, DpIn wb g (o + k * 2) ds[k] (.slice au nu cu)) := by
    obtain ⟨ad', cap', e, _, hel⟩ := hp.el
    injection e with e1 _ _
    subst e1
    exact hel
  have HB0 : Hid (Below w.heap.size w ((w.alloc (.cells #[.string nm, .int .i64 a, .int .i64 b, .int .i64 c, .slice p1 q1 r1, .slice p2 ds.length r2, .slice p3 q3 r3] 34)).alloc (.cells #[.slice x1 y1 z1, .slice x2 y2 z2, .slice x3 y3 z3, .slice ad O.length cap] 60))) := boxB2 _ _ _
  have b0 : ((w.alloc (.cells #[.string nm, .int .i64 a, .int .i64 b, .int .i64 c, .slice p1 q1 r1, .slice p2 ds.length r2, .slice p3 q3 r3] 34)).alloc (.cells #[.slice x1 y1 z1, .slice x2 y2 z2, .slice x3 y3 z3, .slice ad O.length cap] 60)).cell? ⟨w.heap.size, 5, none⟩ = some (.slice p2 ds.length r2) := by simp
  have b1 : ((w.alloc (.cells #[.string nm, .int .i64 a, .int .i64 b, .int .i64 c, .slice p1 q1 r1, .slice p2 ds.length r2, .slice p3 q3 r3] 34)).alloc (.cells #[.slice x1 y1 z1, .slice x2 y2 z2, .slice x3 y3 z3, .slice ad O.length cap] 60)).cell? ⟨w.heap.size + 1, 0, none⟩ = some (.slice x1 y1 z1) := (new_cell (by simp) rfl).1
  have b2 : ((w.alloc (.cells #[.string nm, .int .i64 a, .int .i64 b, .int .i64 c, .slice p1 q1 r1, .slice p2 ds.length r2, .slice p3 q3 r3] 34)).alloc (.cells #[.slice x1 y1 z1, .slice x2 y2 z2, .slice x3 y3 z3, .slice ad O.length cap] 60)).cell? ⟨w.heap.size + 1, 1, none⟩ = some (.slice x2 y2 z2) := (new_cell (by simp) rfl).1
  have b3 : ((w.alloc (.cells #[.string nm, .int .i64 a, .int .i64 b, .int .i64 c, .slice p1 q1 r1, .slice p2 ds.length r2, .slice p3 q3 r3] 34)).alloc (.cells #[.slice x1 y1 z1, .slice x2 y2 z2, .slice x3 y3 z3, .slice ad O.length cap] 60)).cell? ⟨w.heap.size + 1, 2, none⟩ = some (.slice x3 y3 z3) := (new_cell (by simp) rfl).1
  have b4 : ((w.alloc (.cells #[.string nm, .int .i64 a, .int .i64 b, .int .i64 c, .slice p1 q1 r1, .slice p2 ds.length r2, .slice p3 q3 r3] 34)).alloc (.cells #[.slice x1 y1 z1, .slice x2 y2 z2, .slice x3 y3 z3, .slice ad O.length cap] 60)).cell? ⟨w.heap.size + 1, 3, none⟩ = some (.slice ad O.length cap) := (new_cell (by simp) rfl).1
  have hz0 : w.heap.size < ((w.alloc (.cells #[.string nm, .int .i64 a, .int .i64 b, .int .i64 c, .slice p1 q1 r1, .slice p2 ds.length r2, .slice p3 q3 r3] 34)).alloc (.cells #[.slice x1 y1 z1, .slice x2 y2 z2, .slice x3 y3 z3, .slice ad O.length cap] 60)).heap.size := by simp; omega
  have hz1 : w.heap.size + 1 < ((w.alloc (.cells #[.string nm, .int .i64 a, .int .i64 b, .int .i64 c, .slice p1 q1 r1, .slice p2 ds.length r2, .slice p3 q3 r3] 34)).alloc (.cells #[.slice x1 y1 z1, .slice x2 y2 z2, .slice x3 y3 z3, .slice ad O.length cap] 60)).heap.size := by simp
  clear h hp
  go_enter Tryz.func40, Tryz.ntmps40
  go_wp2_with fail
  generalize ((w.alloc (.cells #[.string nm, .int .i64 a, .int .i64 b, .int .i64 c, .slice p1 q1 r1, .slice p2 ds.length r2, .slice p3 q3 r3] 34)).alloc (.cells #[.slice x1 y1 z1, .slice x2 y2 z2, .slice x3 y3 z3, .slice ad O.length cap] 60)) = W at *
  have hz2 := hz1
  have hz3 := hz1
  have hz4 := hz1
  go_loopw [5, 6] (fun vo vi wr => ∃ (k : Nat) (ps : List (Dp × Value)), k ≤ ds.length ∧ vi = .int .i64 k ∧ wr.ownsRow W.heap.size 68 2 vo ps.length (dpCells ps) ∧ (∀ q ∈ ps, SpansC wb q.2 q.1.rg ∧ q.1.rg.length ≤ 9223372036854775807) ∧ ps.map (·.1) = peersD O (ds.take k) ∧ Below W.heap.size W wr) (fun _ vi _ => ds.length - (intOf vi).toNat)
  case atStart => exact ⟨0, [], Nat.zero_le _, rfl, ⟨rfl, Or.inl ⟨rfl, rfl⟩⟩, fun q hq => (by cases hq), rfl, Below.refl _ _⟩
  case round =>
    obtain ⟨k, ps, hk, rfl, how, hsp, hps, hb⟩ := hrel
    have HOW := hide3 how
    have HSP := hide3 hsp
    have HPS := hide3 hps
    have HB := hide3 hb
    have HBW : Hid (Below w.heap.size w wr) := below_then HB0.out hb
    have HBB : Hid (Below wb.heap.size wb wr) := hbb.trans (HBW.out.mono hbb.size)
    obtain ⟨ao, co, hvo⟩ := own_len how
    have hpl : ps.length = k := by have := congrArg List.length hps; rw [List.length_map] at this; unfold peersD at this; rw [List.length_map, List.length_take] at this; omega
    rw [hpl] at hvo
    subst hvo
    have HPL := hide3 hpl
    have a0 := (hb.cell (p := ⟨w.heap.size, 5, none⟩) hz0).trans b0
    have a1 := (hb.cell (p := ⟨w.heap.size + 1, 0, none⟩) hz1).trans b1
    have a2 := (hb.cell (p := ⟨w.heap.size + 1, 1, none⟩) hz1).trans b2
    have a3 := (hb.cell (p := ⟨w.heap.size + 1, 2, none⟩) hz1).trans b3
    have a4 := (hb.cell (p := ⟨w.heap.size + 1, 3, none⟩) hz1).trans b4
    clear how hsp hps hb hpl b0 b1 b2 b3 b4
    by_cases hlt : k < ds.length
    · have hki : (k : Int) < (ds.length : Int) := by omega
      obtain ⟨g, o, rfl, au, nu, cu, e0, e1, hsd, hg⟩ := HEL.out k hlt
      have a5 := (HBB.out.cell (p := ⟨g, o + k * 2, none⟩) hg).trans e0
      have a6 := (HBB.out.cell (p := ⟨g, o + k * 2 + 1, none⟩) hg).trans e1
      have HTK : Hid (peersD O (ds.take (k + 1)) = peersD O (ds.take k) ++ [⟨ds[k].nm, rangeD O ds[k]⟩]) := by
        unfold Hid peersD
        rw [List.take_succ_eq_append_getElem hlt, List.map_append]
        rfl
      have hgW : g < W.heap.size := Nat.lt_of_lt_of_le hg (Nat.le_trans hbb.size HB0.out.size)
      have hz5 := hgW
      have hz6 := hgW
      have HSD := hide3 hsd
      generalize ds[k] = d at *
      clear e0 e1 hsd
      have HRG : Hid (∀ w1, Below wb.heap.size wb w1 → Calls Tryz.prog 43 #[.agg #[.slice x1 y1 z1, .slice x2 y2 z2, .slice x3 y3 z3, .slice ad O.length cap], .agg #[.string d.nm, .slice au nu cu]] w1 fun e w' => ∃ a1 b1 c1, e = .returned (.slice a1 b1 c1) ∧ (SpansC wb (.slice a1 b1 c1) (rangeD O d) ∧ (rangeD O d).length ≤ 9223372036854775807) ∧ Below w1.heap.size w1 w') := fun w1 hb => by
        refine (rrange_any hb HO.out hlen d HSD.out.1 HSD.out.2).mono ?_
        rintro e w' ⟨a1, b1, c1, rfl, h1, h2, h3⟩
        exact ⟨a1, b1, c1, rfl, ⟨h1, h2⟩, h3⟩
      have HNE : Hid (∀ q, q < W.heap.size → some q ≠ (Value.slice ao k co).ownBlock) := fun q hq e => by have := (World.ownsRow.lt HOW.out q e.symm).1; omega
      go_wp2_with fail
      go_region_held3 (fun w' => w'.cell? ⟨w.heap.size, 5, none⟩ = some (.slice (some ⟨g, o, none⟩) ds.length r2) ∧ w'.cell? ⟨w.heap.size + 1, 0, none⟩ = some (.slice x1 y1 z1) ∧ w'.cell? ⟨w.heap.size + 1, 1, none⟩ = some (.slice x2 y2 z2) ∧ w'.cell? ⟨w.heap.size + 1, 2, none⟩ = some (.slice x3 y3 z3) ∧ w'.cell? ⟨w.heap.size + 1, 3, none⟩ = some (.slice ad O.length cap) ∧ w'.cell? ⟨g, o + k * 2, none⟩ = some (.string d.nm) ∧ w'.cell? ⟨g, o + k * 2 + 1, none⟩ = some (.slice au nu cu)) (go_keep) (first
        | (go_at_call 43; refine (HRG.out _ HBB.out.drew).mono ?_; rintro e w5 ⟨a9, b9, c9, rfl, hv5, hb5⟩; have HV5 := hide3 hv5; have HB5 : Hid (Below W.heap.size W w5) := below_then HB.out.drew hb5; have HW5 : Hid (Below wr.heap.size wr w5) := below_then (Below.refl _ _).drew hb5; have t0 := (HW5.out.cell (p := ⟨w.heap.size, 5, none⟩) (Nat.lt_of_lt_of_le hz0 HB.out.size)).trans a0; have t1 := (HW5.out.cell (p := ⟨w.heap.size + 1, 0, none⟩) (Nat.lt_of_lt_of_le hz1 HB.out.size)).trans a1; have t2 := (HW5.out.cell (p := ⟨w.heap.size + 1, 1, none⟩) (Nat.lt_of_lt_of_le hz2 HB.out.size)).trans a2; have t3 := (HW5.out.cell (p := ⟨w.heap.size + 1, 2, none⟩) (Nat.lt_of_lt_of_le hz3 HB.out.size)).trans a3; have t4 := (HW5.out.cell (p := ⟨w.heap.size + 1, 3, none⟩) (Nat.lt_of_lt_of_le hz4 HB.out.size)).trans a4; have t5 := (HW5.out.cell (p := ⟨g, o + k * 2, none⟩) (Nat.lt_of_lt_of_le hz5 HB.out.size)).trans a5; have t6 := (HW5.out.cell (p := ⟨g, o + k * 2 + 1, none⟩) (Nat.lt_of_lt_of_le hz6 HB.out.size)).trans a6; have hB5 : W.heap.size ≤ w5.heap.size := HB5.out.size; have HO5 := hide3 (own_below HOW.out HW5.out); clear hb5 hv5)
        | (refine step_own (B := W.heap.size) (M := w5.heap.size) (wx := w5) (v := .slice ao k co) (n := ps.length) infoDp Tryz.underlying32 rfl (by decide) (by decide) rfl (.tmp 14) (.tmp 29) rfl rfl HO5.out hB5 #[.string d.nm, .slice a9 b9 c9] rfl (by simp [Value.oneCell']) rfl rfl (by have := HPL.out; omega) ?_; intro v1 w7 ho hgr hat; obtain ⟨g7, cap7, rfl⟩ := own_len ho; have HO7 := hide3 ho; have HB7 : Hid (Below W.heap.size W w7) := HB5.out.grown (grown_pre (boxB _ _) hgr) HB5.out.size (fun q hq => (World.ownsRow.lt HO5.out q hq).1); have s0 := (grown_pre (boxB _ _) hgr).cell t0 (HNE.out _ hz0); have s1 := (grown_pre (boxB _ _) hgr).cell t1 (HNE.out _ hz1); have s2 := (grown_pre (boxB _ _) hgr).cell t2 (HNE.out _ hz2); have s3 := (grown_pre (boxB _ _) hgr).cell t3 (HNE.out _ hz3); have s4 := (grown_pre (boxB _ _) hgr).cell t4 (HNE.out _ hz4); have s5 := (grown_pre (boxB _ _) hgr).cell t5 (HNE.out _ hz5); have s6 := (grown_pre (boxB _ _) hgr).cell t6 (HNE.out _ hz6); clear ho hgr hat))
      all_goals go_wp2_with fail
      all_goals refine ⟨⟨k + 1, ps ++ [(⟨d.nm, rangeD O d⟩, .slice a9 b9 c9)], by omega, by go_num, ?_, ?_, ?_, HB7.out⟩, by simp [intOf]; omega⟩
      · rw [dpCells_snoc, List.length_append]
        exact HO7.out
      · intro q hq
        rcases List.mem_append.1 hq with hq | hq
        · exact HSP.out q hq
        · obtain rfl := List.mem_singleton.1 hq
          exact HV5.out
      · rw [List.map_append, HPS.out, HTK.out]
        rfl
    · obtain rfl : k = ds.length := by omega
      have hki : ¬ ((ds.length : Int) < (ds.length : Int)) := by omega
      have HPD : Hid (ps.map (·.1) = peersD O ds) := by
        unfold Hid
        rw [HPS.out, List.take_length]
      have HOE : Hid (wr.ownsRow w.heap.size 68 2 (.slice ao ds.length co) ps.length (dpCells ps)) := own_base HOW.out HB0.out.size
      go_wp2_with fail
      go_ret
      exact ⟨_, rfl, ⟨ps, HOE.out, HSP.out, HPD.out⟩, HBW.out⟩
end Go.Proofs.YtjmkgojddhfhiaaGreatDoor
