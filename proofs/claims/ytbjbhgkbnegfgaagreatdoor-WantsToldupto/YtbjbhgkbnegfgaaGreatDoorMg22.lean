/- Wg4, Wg5, laid in one text. -/
import Derived.Test.YtbjbhgkbnegfgaaGreatDoorMg21
namespace Go.Proofs.YtbjbhgkbnegfgaaGreatDoor
open Go.RowKit Go.Maps Go.WideMaps
set_option maxRecDepth 100000

/-- Lists that are told together. -/
theorem srt_all {w7 : World} {B k : Nat} {O : List Dp} {E : List (Dp × Int)} {Ls : List (Value × List (Wt × List Sp))} (hs : ∀ L ∈ Ls, OwnWt w7 B L.1 L.2) (ha : (Ls.flatMap (·.2)).Pairwise fun p q => ApartR p.1 q.1) (ht : TagD O E (Ls.flatMap (·.2))) (hl : E.length ≤ 100000000) (hk : Ls.length = k) (hk8 : k ≤ 8) (hB : B ≤ w7.heap.size) : Calls Tryz.prog 72 #[.slice (some ⟨w7.heap.size, 0, none⟩) k k] (w7.alloc (.cells (Ls.map (·.1)).toArray 56)) fun e w' => ∃ v, e = .returned v ∧ ∃ Y, ToldW O E w' B v Y ∧ Below w7.heap.size w7 w' := by
  have hb : Below w7.heap.size w7 (w7.alloc (.cells (Ls.map (·.1)).toArray 56)) := boxB _ _
  have hj : joinW (Ls.map fun L => (L.1, L.2.map (·.1))) = (Ls.flatMap (·.2)).map (·.1) := by
    unfold joinW
    rw [List.flatMap_map, List.map_flatMap]
  have hlo : ListsO (w7.alloc (.cells (Ls.map (·.1)).toArray 56)) B w7.heap.size (Ls.map fun L => (L.1, L.2.map (·.1))) := by
    refine ⟨by simp, fun i hi => ⟨?_, ?_⟩⟩
    · rw [List.length_map] at hi
      rw [List.getElem_map]
      exact (new_cell rfl (by simp [List.getElem?_eq_getElem hi])).1
    · rw [List.length_map] at hi
      rw [List.getElem_map]
      have q := own_below (hs _ (List.getElem_mem hi)).1 hb
      have e : Ls[i].2.length = (Ls[i].2.map (·.1)).length := (List.length_map _).symm
      rw [e] at q
      exact q
  refine (sorted_any hlo (by rw [List.length_map]; exact hk) hk8 (by rw [hj, List.length_map, ht.1]; exact hl) (by rw [hj]; exact ht.tags)).mono ?_
  rintro e w' ⟨v, rfl, Y, h1, h2, h3, h4⟩
  rw [hj] at h1
  refine ⟨v, rfl, Y, ?_, below_then hb h4⟩
  refine told_of (w := w7.alloc (.cells (Ls.map (·.1)).toArray 56)) ht (own_base h3 (Nat.le_trans hB hb.size)) h1 h2 (fun p hp => ?_) ha h4
  obtain ⟨L, hL, hp⟩ := List.mem_flatMap.1 hp
  exact ((hs L hL).2.1 p hp).below hb

/-- Ranges made later share no memory with what was there. -/
theorem apart_two {w6 w7 : World} {B : Nat} {ps qs : List (Wt × List Sp)} {v v' : Value} (h : OwnWt w6 B v ps) (h' : OwnWt w7 w6.heap.size v' qs) : ∀ p ∈ ps, ∀ q ∈ qs, ApartR p.1 q.1 := fun p hp q hq => apart_new h (h'.2.1 q hq) p hp

/-- What a package wants. -/
def ofE (ds1 ds3 : List Dp) : List (Dp × Int) := ds1.map (fun d => (d, 1)) ++ ds3.map (fun d => (d, 2))
theorem srt_two {w6 w7 : World} {B : Nat} {O ds1 ds3 : List Dp} {v1 v2 : Value} {ps qs : List (Wt × List Sp)} (hB : B ≤ w6.heap.size) (h1 : OwnWt w6 B v1 ps) (t1 : wtsD O 1 0 ds1 ps) (h2 : OwnWt w7 w6.heap.size v2 qs) (t2 : wtsD O 2 ds1.length ds3 qs) (hb : Below w6.heap.size w6 w7) (hl : ds1.length + ds3.length ≤ 100000000) : Calls Tryz.prog 72 #[.slice (some ⟨w7.heap.size, 0, none⟩) 2 2] (w7.alloc (.cells #[v1, v2] 56)) fun e w' => ∃ v, e = .returned v ∧ ∃ Y, ToldW O (ofE ds1 ds3) w' B v Y ∧ Below w7.heap.size w7 w' := by
  have e0 : [(v1, ps), (v2, qs)].flatMap (·.2) = ps ++ qs := by simp
  have t0 := (TagD.nil O).more (k := 1) (ds := ds1) (qs := ps) t1
  rw [List.nil_append, List.nil_append] at t0
  have t3 := t0.more (k := 2) (ds := ds3) (qs := qs) (by rw [List.length_map]; exact t2)
  refine srt_all (Ls := [(v1, ps), (v2, qs)]) (E := ofE ds1 ds3) (fun L hL => ?_) ?_ ?_ (by unfold ofE; rw [List.length_append, List.length_map, List.length_map]; exact hl) rfl (by omega) (Nat.le_trans hB hb.size)
  · simp at hL
    rcases hL with rfl | rfl
    · exact h1.below hb
    · exact h2.base hB
  · rw [e0, List.pairwise_append]
    exact ⟨h1.2.2, h2.2.2, apart_two h1 h2⟩
  · rw [e0]
    exact t3

set_option maxHeartbeats 12800000 in
theorem of_any {w : World} {O : List Dp} {x1 x2 x3 : Option Addr} {y1 y2 y3 z1 z2 z3 : Nat} {v4 : Value} (h : DepsAt w v4 O) (hlen : O.length ≤ 9223372036854775807) (hn : ∀ d ∈ O, d.nm.size ≤ 9223372036854775807) {ds1 ds3 : List Dp} (nm : ByteArray) (a b c : Int) {p1 p2 p3 : Option Addr} {r1 q2 r2 r3 : Nat} (hp1 : DepsAt w (.slice p1 ds1.length r1) ds1) (hp3 : DepsAt w (.slice p3 ds3.length r3) ds3) (hf1 : FitP O ds1) (hf3 : FitP O ds3) (hl : ds1.length + ds3.length ≤ 100000000) : Calls Tryz.prog 28 #[.agg #[.string nm, .int .i64 a, .int .i64 b, .int .i64 c, .slice p1 ds1.length r1, .slice p2 q2 r2, .slice p3 ds3.length r3], .agg #[.slice x1 y1 z1, .slice x2 y2 z2, .slice x3 y3 z3, v4]] w fun e w' => ∃ v, e = .returned v ∧ ∃ Y, ToldW O (ofE ds1 ds3) w' w.heap.size v Y ∧ Below w.heap.size w w' := by
  obtain ⟨ad, cap, rfl, hcap, _⟩ := h.el
  have HB0 : Hid (Below w.heap.size w ((w.alloc (.cells #[.string nm, .int .i64 a, .int .i64 b, .int .i64 c, .slice p1 ds1.length r1, .slice p2 q2 r2, .slice p3 ds3.length r3] 34)).alloc (.cells #[.slice x1 y1 z1, .slice x2 y2 z2, .slice x3 y3 z3, .slice ad O.length cap] 54))) := boxB2 _ _ _
  have HOV : Hid (Calls Tryz.prog 71 #[.agg #[.slice x1 y1 z1, .slice x2 y2 z2, .slice x3 y3 z3, .slice ad O.length cap]] ((w.alloc (.cells #[.string nm, .int .i64 a, .int .i64 b, .int .i64 c, .slice p1 ds1.length r1, .slice p2 q2 r2, .slice p3 ds3.length r3] 34)).alloc (.cells #[.slice x1 y1 z1, .slice x2 y2 z2, .slice x3 y3 z3, .slice ad O.length cap] 54)) fun e w' => ∃ M, e = .returned (.agg #[.slice ad O.length cap, .map (some M)]) ∧ (∃ n, SmAt w' M n (.int .i64 0) (firstI O)) ∧ Below ((w.alloc (.cells #[.string nm, .int .i64 a, .int .i64 b, .int .i64 c, .slice p1 ds1.length r1, .slice p2 q2 r2, .slice p3 ds3.length r3] 34)).alloc (.cells #[.slice x1 y1 z1, .slice x2 y2 z2, .slice x3 y3 z3, .slice ad O.length cap] 54)).heap.size ((w.alloc (.cells #[.string nm, .int .i64 a, .int .i64 b, .int .i64 c, .slice p1 ds1.length r1, .slice p2 q2 r2, .slice p3 ds3.length r3] 34)).alloc (.cells #[.slice x1 y1 z1, .slice x2 y2 z2, .slice x3 y3 z3, .slice ad O.length cap] 54)) w') := (ovs_any (h.below HB0.out) hlen hn).mono fun e w' ⟨h1, h2, h3⟩ => ⟨_, h1, h2, h3⟩
  have HOW := hide3 h
  have HD1 := hide3 hp1
  have HD3 := hide3 hp3
  have b0 : ((w.alloc (.cells #[.string nm, .int .i64 a, .int .i64 b, .int .i64 c, .slice p1 ds1.length r1, .slice p2 q2 r2, .slice p3 ds3.length r3] 34)).alloc (.cells #[.slice x1 y1 z1, .slice x2 y2 z2, .slice x3 y3 z3, .slice ad O.length cap] 54)).cell? ⟨w.heap.size, 4, none⟩ = some (.slice p1 ds1.length r1) := by simp
  have b6 : ((w.alloc (.cells #[.string nm, .int .i64 a, .int .i64 b, .int .i64 c, .slice p1 ds1.length r1, .slice p2 q2 r2, .slice p3 ds3.length r3] 34)).alloc (.cells #[.slice x1 y1 z1, .slice x2 y2 z2, .slice x3 y3 z3, .slice ad O.length cap] 54)).cell? ⟨w.heap.size, 6, none⟩ = some (.slice p3 ds3.length r3) := by simp
  have hbl0 : w.heap.size < ((w.alloc (.cells #[.string nm, .int .i64 a, .int .i64 b, .int .i64 c, .slice p1 ds1.length r1, .slice p2 q2 r2, .slice p3 ds3.length r3] 34)).alloc (.cells #[.slice x1 y1 z1, .slice x2 y2 z2, .slice x3 y3 z3, .slice ad O.length cap] 54)).heap.size := by simp; omega
  have HFF : Hid (FitP O ds1 ∧ FitP O ds3 ∧ ds1.length + ds3.length ≤ 100000000) := ⟨hf1, hf3, hl⟩
  clear h hp1 hp3 hf1 hf3 hl hn
  go_enter Tryz.func28, Tryz.ntmps28
  go_upto_region 1 with fail
  have e0 : ((w.alloc (.cells #[.string nm, .int .i64 a, .int .i64 b, .int .i64 c, .slice p1 ds1.length r1, .slice p2 q2 r2, .slice p3 ds3.length r3] 34)).alloc (.cells #[.slice x1 y1 z1, .slice x2 y2 z2, .slice x3 y3 z3, .slice ad O.length cap] 54)).cell? ⟨w.heap.size + 1, 0, none⟩ = some (.slice x1 y1 z1) := (new_cell (by simp) rfl).1
  have e1 : ((w.alloc (.cells #[.string nm, .int .i64 a, .int .i64 b, .int .i64 c, .slice p1 ds1.length r1, .slice p2 q2 r2, .slice p3 ds3.length r3] 34)).alloc (.cells #[.slice x1 y1 z1, .slice x2 y2 z2, .slice x3 y3 z3, .slice ad O.length cap] 54)).cell? ⟨w.heap.size + 1, 1, none⟩ = some (.slice x2 y2 z2) := (new_cell (by simp) rfl).1
  have e2 : ((w.alloc (.cells #[.string nm, .int .i64 a, .int .i64 b, .int .i64 c, .slice p1 ds1.length r1, .slice p2 q2 r2, .slice p3 ds3.length r3] 34)).alloc (.cells #[.slice x1 y1 z1, .slice x2 y2 z2, .slice x3 y3 z3, .slice ad O.length cap] 54)).cell? ⟨w.heap.size + 1, 2, none⟩ = some (.slice x3 y3 z3) := (new_cell (by simp) rfl).1
  have e3 : ((w.alloc (.cells #[.string nm, .int .i64 a, .int .i64 b, .int .i64 c, .slice p1 ds1.length r1, .slice p2 q2 r2, .slice p3 ds3.length r3] 34)).alloc (.cells #[.slice x1 y1 z1, .slice x2 y2 z2, .slice x3 y3 z3, .slice ad O.length cap] 54)).cell? ⟨w.heap.size + 1, 3, none⟩ = some (.slice ad O.length cap) := (new_cell (by simp) rfl).1
  generalize ((w.alloc (.cells #[.string nm, .int .i64 a, .int .i64 b, .int .i64 c, .slice p1 ds1.length r1, .slice p2 q2 r2, .slice p3 ds3.length r3] 34)).alloc (.cells #[.slice x1 y1 z1, .slice x2 y2 z2, .slice x3 y3 z3, .slice ad O.length cap] 54)) = WA at *
  go_upto_region 2 with (go_at_call 71; refine HOV.out.mono ?_; rintro e w1 ⟨M, rfl, ⟨n, hsm⟩, hb1⟩; have HSM := hide3 hsm; have HB1 := hide3 hb1; clear hsm hb1)
  have HWW : Hid (Below WA.heap.size WA (w1.alloc (.cells #[.slice ad O.length cap, .map (some M)] 117))) := below_then HB1.out (boxB _ _)
  obtain ⟨N0, hN0⟩ : ∃ k, k = w.heap.size := ⟨_, rfl⟩
  have b1 := (HWW.out.cell (p := ⟨w.heap.size, 4, none⟩) hbl0).trans b0
  have b7 := (HWW.out.cell (p := ⟨w.heap.size, 6, none⟩) hbl0).trans b6
  have hNl : N0 < (w1.alloc (.cells #[.slice ad O.length cap, .map (some M)] 117)).heap.size := by rw [hN0]; exact Nat.lt_of_lt_of_le hbl0 HWW.out.size
  rw [← hN0] at b1 b7
  have HSW : Hid (SmAt (w1.alloc (.cells #[.slice ad O.length cap, .map (some M)] 117)) M n (.int .i64 0) (firstI O)) := HSM.out.below (boxB _ _)
  have k0 : (w1.alloc (.cells #[.slice ad O.length cap, .map (some M)] 117)).cell? ⟨w1.heap.size, 0, none⟩ = some (.slice ad O.length cap) := by simp
  have k1 : (w1.alloc (.cells #[.slice ad O.length cap, .map (some M)] 117)).cell? ⟨w1.heap.size, 1, none⟩ = some (.map (some M)) := by simp
  have hkl : w1.heap.size < (w1.alloc (.cells #[.slice ad O.length cap, .map (some M)] 117)).heap.size := by simp
  have HOV2 : Hid (Below w.heap.size w (w1.alloc (.cells #[.slice ad O.length cap, .map (some M)] 117))) := below_then HB0.out HWW.out
  obtain ⟨KB, hKB⟩ : ∃ k, k = w1.heap.size := ⟨_, rfl⟩
  rw [← hKB] at k0 k1 hkl
  rw [← hKB, ← hN0]
  generalize (w1.alloc (.cells #[.slice ad O.length cap, .map (some M)] 117)) = W at *
  have HKD : Hid (KeepP fun X => (Below W.heap.size W X ∧ SmAt X M n (.int .i64 0) (firstI O)) ∧ DepsAt X (.slice ad O.length cap) O ∧ DepsAt X (.slice p1 ds1.length r1) ds1 ∧ DepsAt X (.slice p3 ds3.length r3) ds3) := fun p q hx hpq => ⟨⟨below_then hx.1.1 hpq, hx.1.2.below hpq⟩, hx.2.1.below hpq, hx.2.2.1.below hpq, hx.2.2.2.below hpq⟩
  have HO0 : Hid ((Below W.heap.size W W ∧ SmAt W M n (.int .i64 0) (firstI O)) ∧ DepsAt W (.slice ad O.length cap) O ∧ DepsAt W (.slice p1 ds1.length r1) ds1 ∧ DepsAt W (.slice p3 ds3.length r3) ds3) := ⟨⟨Below.refl _ _, HSW.out⟩, HOW.out.below HOV2.out, HD1.out.below HOV2.out, HD3.out.below HOV2.out⟩
  have HO : Hid ((Below W.heap.size W W.drew ∧ SmAt W.drew M n (.int .i64 0) (firstI O)) ∧ DepsAt W.drew (.slice ad O.length cap) O ∧ DepsAt W.drew (.slice p1 ds1.length r1) ds1 ∧ DepsAt W.drew (.slice p3 ds3.length r3) ds3) := HKD.out _ _ HO0.out (Below.refl _ _).drew
  have HBX : Hid (∀ X, ((Below W.heap.size W X ∧ SmAt X M n (.int .i64 0) (firstI O)) ∧ DepsAt X (.slice ad O.length cap) O ∧ DepsAt X (.slice p1 ds1.length r1) ds1 ∧ DepsAt X (.slice p3 ds3.length r3) ds3) → X.cell? ⟨N0, 4, none⟩ = some (.slice p1 ds1.length r1) ∧ X.cell? ⟨N0, 6, none⟩ = some (.slice p3 ds3.length r3) ∧ X.cell? ⟨KB, 0, none⟩ = some (.slice ad O.length cap) ∧ X.cell? ⟨KB, 1, none⟩ = some (.map (some M))) := fun X hx => ⟨(hx.1.1.cell (p := ⟨N0, 4, none⟩) hNl).trans b1, (hx.1.1.cell (p := ⟨N0, 6, none⟩) hNl).trans b7, (hx.1.1.cell (p := ⟨KB, 0, none⟩) hkl).trans k0, (hx.1.1.cell (p := ⟨KB, 1, none⟩) hkl).trans k1⟩
  have HW1 : Hid (∀ X, ((Below W.heap.size W X ∧ SmAt X M n (.int .i64 0) (firstI O)) ∧ DepsAt X (.slice ad O.length cap) O ∧ DepsAt X (.slice p1 ds1.length r1) ds1 ∧ DepsAt X (.slice p3 ds3.length r3) ds3) → Calls Tryz.prog 73 #[.agg #[.slice ad O.length cap, .map (some M)], .slice p1 ds1.length r1, .int .i64 1] X fun e w' => ∃ a7 n7 c7, e = .returned (.slice a7 n7 c7) ∧ (∃ ps, OwnWt w' X.heap.size (.slice a7 n7 c7) ps ∧ wtsD O 1 0 ds1 ps) ∧ Below X.heap.size X w') := fun X hx => (owants_any hx.2.1 hx.1.2 hx.2.2.1 HFF.out.1 1 0).mono fun e w' hq => by
    obtain ⟨v, h1, ps, h2, h3, h4⟩ := hq
    obtain ⟨a7, c7, rfl⟩ := h2.len
    exact ⟨a7, _, c7, h1, ⟨ps, h2, h3⟩, h4⟩
  have HW2 : Hid (∀ X, ((Below W.heap.size W X ∧ SmAt X M n (.int .i64 0) (firstI O)) ∧ DepsAt X (.slice ad O.length cap) O ∧ DepsAt X (.slice p1 ds1.length r1) ds1 ∧ DepsAt X (.slice p3 ds3.length r3) ds3) → Calls Tryz.prog 73 #[.agg #[.slice ad O.length cap, .map (some M)], .slice p3 ds3.length r3, .int .i64 2] X fun e w' => ∃ a7 n7 c7, e = .returned (.slice a7 n7 c7) ∧ (∃ ps, OwnWt w' X.heap.size (.slice a7 n7 c7) ps ∧ wtsD O 2 ds1.length ds3 ps) ∧ Below X.heap.size X w') := fun X hx => (owants_any hx.2.1 hx.1.2 hx.2.2.2 HFF.out.2.1 2 ds1.length).mono fun e w' hq => by
    obtain ⟨v, h1, ps, h2, h3, h4⟩ := hq
    obtain ⟨a7, c7, rfl⟩ := h2.len
    exact ⟨a7, _, c7, h1, ⟨ps, h2, h3⟩, h4⟩
  have HSR : Hid (∀ (X w6 w7 : World) (v1 v2 : Value), ((Below W.heap.size W X ∧ SmAt X M n (.int .i64 0) (firstI O)) ∧ DepsAt X (.slice ad O.length cap) O ∧ DepsAt X (.slice p1 ds1.length r1) ds1 ∧ DepsAt X (.slice p3 ds3.length r3) ds3) → (∃ ps, OwnWt w6 X.heap.size v1 ps ∧ wtsD O 1 0 ds1 ps) → Below X.heap.size X w6 → (∃ qs, OwnWt w7 w6.heap.size v2 qs ∧ wtsD O 2 ds1.length ds3 qs) → Below w6.heap.size w6 w7 → Calls Tryz.prog 72 #[.slice (some ⟨w7.heap.size, 0, none⟩) 2 2] (w7.alloc (.cells #[v1, v2] 56)) fun e w' => ∃ v, e = .returned v ∧ (∃ Y, ToldW O (ofE ds1 ds3) w' w.heap.size v Y ∧ Below w.heap.size w w') ∧ Below w7.heap.size w7 w') := fun X w6 w7 v1 v2 hx h1 h2 h3 h4 => by
    obtain ⟨ps, g1, g2⟩ := h1
    obtain ⟨qs, g3, g4⟩ := h3
    have hBX : w.heap.size ≤ X.heap.size := Nat.le_trans HOV2.out.size hx.1.1.size
    refine (srt_two (B := w.heap.size) (Nat.le_trans hBX h2.size) (g1.base hBX) g2 g3 g4 h4 HFF.out.2.2).mono fun e w' hq => ?_
    obtain ⟨v, q1, Y, q3, q4⟩ := hq
    exact ⟨v, q1, ⟨Y, q3, below_then (below_then (below_then (below_then HOV2.out hx.1.1) h2) h4) q4⟩, q4⟩
  clear HB0 HOV HSM HB1 HWW hcap b0 b6 hbl0 e0 e1 e2 e3 HOW HD1 HD3 HSW HO0 hN0 hKB HOV2
  obtain ⟨t0, t1, t2, t3⟩ := HBX.out _ HO.out
  go_region_held3 (fun w' => w'.cell? ⟨N0, 4, none⟩ = some (.slice p1 ds1.length r1) ∧ w'.cell? ⟨N0, 6, none⟩ = some (.slice p3 ds3.length r3) ∧ w'.cell? ⟨KB, 0, none⟩ = some (.slice ad O.length cap) ∧ w'.cell? ⟨KB, 1, none⟩ = some (.map (some M))) (go_keep) (first
    | (go_at_call 72; have _t := HT2; refine (HSR.out _ _ _ _ _ HO.out HT1.out HB6.out HT2.out HB7.out).mono ?_; rintro e w8 ⟨v8, rfl, hfin, hb8⟩; have HFN := hide3 hfin; have HO8 := hide3 (HKD.out _ _ HO7.out hb8); obtain ⟨g0, g1, g2, g3⟩ := HBX.out _ HO8.out; clear hfin hb8)
    | (go_at_call 73; have _t := HT1; refine (HW2.out _ HO6.out).mono ?_; rintro e w7 ⟨a7, n7, c7, rfl, ht2, hb7⟩; have HT2 := hide3 ht2; have HB7 := hide3 hb7; have HO7 := hide3 (HKD.out _ _ HO6.out hb7); obtain ⟨u0, u1, u2, u3⟩ := HBX.out _ HO7.out; clear ht2 hb7)
    | (go_at_call 73; refine (HW1.out _ HO.out).mono ?_; rintro e w6 ⟨a6, n6, c6, rfl, ht1, hb6⟩; have HT1 := hide3 ht1; have HB6 := hide3 hb6; have HO6 := hide3 (HKD.out _ _ HO.out hb6); obtain ⟨s0, s1, s2, s3⟩ := HBX.out _ HO6.out; clear ht1 hb6))
  all_goals go_wp2
  all_goals go_ret
  all_goals (obtain ⟨Y, q1, q2⟩ := HFN.out; exact ⟨_, rfl, Y, q1, q2⟩)
end Go.Proofs.YtbjbhgkbnegfgaaGreatDoor
namespace Go.Proofs.YtbjbhgkbnegfgaaGreatDoor
open Go.RowKit Go.Maps Go.WideMaps
set_option maxRecDepth 100000

/-- What a project wants. -/
def rootE (ds1 ds2 ds3 : List Dp) : List (Dp × Int) := ds1.map (fun d => (d, 1)) ++ ds2.map (fun d => (d, 1)) ++ ds3.map (fun d => (d, 2))
theorem srt_three {w5 w5' w6 w7 : World} {B : Nat} {O ds1 ds2 ds3 : List Dp} {v1 vd v2 : Value} {ps pd qs : List (Wt × List Sp)} (hB : B ≤ w5.heap.size) (hd : OwnWt w5 B vd pd) (td : wtsD O 1 ds1.length ds2 pd) (hb5 : Below w5.heap.size w5 w5') (h1 : OwnWt w6 w5'.heap.size v1 ps) (t1 : wtsD O 1 0 ds1 ps) (hb6 : Below w5'.heap.size w5' w6) (h2 : OwnWt w7 w6.heap.size v2 qs) (t2 : wtsD O 2 (ds1.length + ds2.length) ds3 qs) (hb : Below w6.heap.size w6 w7) (hl : ds1.length + ds2.length + ds3.length ≤ 100000000) : Calls Tryz.prog 72 #[.slice (some ⟨w7.heap.size, 0, none⟩) 3 3] (w7.alloc (.cells #[v1, vd, v2] 56)) fun e w' => ∃ v, e = .returned v ∧ ∃ Y, ToldW O (rootE ds1 ds2 ds3) w' B v Y ∧ Below w7.heap.size w7 w' := by
  have e0 : [(v1, ps), (vd, pd), (v2, qs)].flatMap (·.2) = ps ++ (pd ++ qs) := by simp
  have t0 := (TagD.nil O).more (k := 1) (ds := ds1) (qs := ps) t1
  rw [List.nil_append, List.nil_append] at t0
  have t3 := t0.more (k := 1) (ds := ds2) (qs := pd) (by rw [List.length_map]; exact td)
  have t4 := t3.more (k := 2) (ds := ds3) (qs := qs) (by rw [List.length_append, List.length_map, List.length_map]; exact t2)
  have hd5 := hd.below hb5
  have hd6 := hd5.below hb6
  have hB6 : B ≤ w6.heap.size := Nat.le_trans hB (Nat.le_trans hb5.size hb6.size)
  refine srt_all (Ls := [(v1, ps), (vd, pd), (v2, qs)]) (E := rootE ds1 ds2 ds3) (fun L hL => ?_) ?_ ?_ (by unfold rootE; simp only [List.length_append, List.length_map]; exact hl) rfl (by omega) (Nat.le_trans hB6 hb.size)
  · simp at hL
    rcases hL with rfl | rfl | rfl
    · exact (h1.base (Nat.le_trans hB hb5.size)).below hb
    · exact hd6.below hb
    · exact h2.base hB6
  · rw [e0, List.pairwise_append, List.pairwise_append]
    refine ⟨h1.2.2, ⟨hd.2.2, h2.2.2, apart_two hd6 h2⟩, fun p hp q hq => ?_⟩
    rcases List.mem_append.1 hq with hq | hq
    · exact (apart_two hd5 h1 q hq p hp).symm
    · exact apart_two h1 h2 p hp q hq
  · rw [e0, ← List.append_assoc]
    exact t4

set_option maxHeartbeats 12800000 in
theorem ofRoot_any {w : World} {O : List Dp} {v4 : Value} (h : DepsAt w v4 O) (hlen : O.length ≤ 9223372036854775807) (hn : ∀ d ∈ O, d.nm.size ≤ 9223372036854775807) {ds1 ds2 ds3 : List Dp} {p1 p2 p3 : Option Addr} {r1 r2 r3 : Nat} (hp1 : DepsAt w (.slice p1 ds1.length r1) ds1) (hp2 : DepsAt w (.slice p2 ds2.length r2) ds2) (hp3 : DepsAt w (.slice p3 ds3.length r3) ds3) (hf1 : FitP O ds1) (hf2 : FitP O ds2) (hf3 : FitP O ds3) (hl : ds1.length + ds2.length + ds3.length ≤ 100000000) (dev : Bool) {dd : List Dp} (hdd : dd = if dev = true then ds2 else []) : Calls Tryz.prog 30 #[.agg #[.slice p1 ds1.length r1, .slice p2 ds2.length r2, .slice p3 ds3.length r3, v4], .bool dev] w fun e w' => ∃ v, e = .returned v ∧ ∃ Y, ToldW O (rootE ds1 dd ds3) w' w.heap.size v Y ∧ Below w.heap.size w w' := by
  obtain ⟨ad, cap, rfl, hcap, _⟩ := h.el
  have HB0 : Hid (Below w.heap.size w (w.alloc (.cells #[.slice p1 ds1.length r1, .slice p2 ds2.length r2, .slice p3 ds3.length r3, .slice ad O.length cap] 54))) := boxB _ _
  have HOV : Hid (Calls Tryz.prog 71 #[.agg #[.slice p1 ds1.length r1, .slice p2 ds2.length r2, .slice p3 ds3.length r3, .slice ad O.length cap]] (w.alloc (.cells #[.slice p1 ds1.length r1, .slice p2 ds2.length r2, .slice p3 ds3.length r3, .slice ad O.length cap] 54)) fun e w' => ∃ M, e = .returned (.agg #[.slice ad O.length cap, .map (some M)]) ∧ (∃ n, SmAt w' M n (.int .i64 0) (firstI O)) ∧ Below (w.alloc (.cells #[.slice p1 ds1.length r1, .slice p2 ds2.length r2, .slice p3 ds3.length r3, .slice ad O.length cap] 54)).heap.size (w.alloc (.cells #[.slice p1 ds1.length r1, .slice p2 ds2.length r2, .slice p3 ds3.length r3, .slice ad O.length cap] 54)) w') := (ovs_any (h.below HB0.out) hlen hn).mono fun e w' ⟨h1, h2, h3⟩ => ⟨_, h1, h2, h3⟩
  have HOW := hide3 h
  have HDD := hide3 hdd
  clear hdd
  have HD1 := hide3 hp1
  have HD2 := hide3 hp2
  have HD3 := hide3 hp3
  have hbl0 : w.heap.size < (w.alloc (.cells #[.slice p1 ds1.length r1, .slice p2 ds2.length r2, .slice p3 ds3.length r3, .slice ad O.length cap] 54)).heap.size := by simp
  have HFF : Hid (FitP O ds1 ∧ FitP O ds2 ∧ FitP O ds3 ∧ ds1.length + ds2.length + ds3.length ≤ 100000000) := ⟨hf1, hf2, hf3, hl⟩
  clear h hp1 hp2 hp3 hf1 hf2 hf3 hl hn
  go_enter Tryz.func30, Tryz.ntmps30
  go_upto_region 1 with fail
  have e0 : (w.alloc (.cells #[.slice p1 ds1.length r1, .slice p2 ds2.length r2, .slice p3 ds3.length r3, .slice ad O.length cap] 54)).cell? ⟨w.heap.size, 0, none⟩ = some (.slice p1 ds1.length r1) := (new_cell (by simp) rfl).1
  have e1 : (w.alloc (.cells #[.slice p1 ds1.length r1, .slice p2 ds2.length r2, .slice p3 ds3.length r3, .slice ad O.length cap] 54)).cell? ⟨w.heap.size, 1, none⟩ = some (.slice p2 ds2.length r2) := (new_cell (by simp) rfl).1
  have e2 : (w.alloc (.cells #[.slice p1 ds1.length r1, .slice p2 ds2.length r2, .slice p3 ds3.length r3, .slice ad O.length cap] 54)).cell? ⟨w.heap.size, 2, none⟩ = some (.slice p3 ds3.length r3) := (new_cell (by simp) rfl).1
  have e3 : (w.alloc (.cells #[.slice p1 ds1.length r1, .slice p2 ds2.length r2, .slice p3 ds3.length r3, .slice ad O.length cap] 54)).cell? ⟨w.heap.size, 3, none⟩ = some (.slice ad O.length cap) := (new_cell (by simp) rfl).1
  generalize (w.alloc (.cells #[.slice p1 ds1.length r1, .slice p2 ds2.length r2, .slice p3 ds3.length r3, .slice ad O.length cap] 54)) = WA at *
  go_upto_region 2 with (go_at_call 71; refine HOV.out.mono ?_; rintro e w1 ⟨M, rfl, ⟨n, hsm⟩, hb1⟩; have HSM := hide3 hsm; have HB1 := hide3 hb1; clear hsm hb1)
  have HWW : Hid (Below WA.heap.size WA (w1.alloc (.cells #[.slice ad O.length cap, .map (some M)] 117))) := below_then HB1.out (boxB _ _)
  obtain ⟨N0, hN0⟩ : ∃ k, k = w.heap.size := ⟨_, rfl⟩
  have b0 := (HWW.out.cell (p := ⟨w.heap.size, 0, none⟩) hbl0).trans e0
  have b1 := (HWW.out.cell (p := ⟨w.heap.size, 1, none⟩) hbl0).trans e1
  have b2 := (HWW.out.cell (p := ⟨w.heap.size, 2, none⟩) hbl0).trans e2
  have hNl : N0 < (w1.alloc (.cells #[.slice ad O.length cap, .map (some M)] 117)).heap.size := by rw [hN0]; exact Nat.lt_of_lt_of_le hbl0 HWW.out.size
  rw [← hN0] at b0 b1 b2
  have HSW : Hid (SmAt (w1.alloc (.cells #[.slice ad O.length cap, .map (some M)] 117)) M n (.int .i64 0) (firstI O)) := HSM.out.below (boxB _ _)
  have k0 : (w1.alloc (.cells #[.slice ad O.length cap, .map (some M)] 117)).cell? ⟨w1.heap.size, 0, none⟩ = some (.slice ad O.length cap) := by simp
  have k1 : (w1.alloc (.cells #[.slice ad O.length cap, .map (some M)] 117)).cell? ⟨w1.heap.size, 1, none⟩ = some (.map (some M)) := by simp
  have hkl : w1.heap.size < (w1.alloc (.cells #[.slice ad O.length cap, .map (some M)] 117)).heap.size := by simp
  have HOV2 : Hid (Below w.heap.size w (w1.alloc (.cells #[.slice ad O.length cap, .map (some M)] 117))) := below_then HB0.out HWW.out
  obtain ⟨KB, hKB⟩ : ∃ k, k = w1.heap.size := ⟨_, rfl⟩
  rw [← hKB] at k0 k1 hkl
  rw [← hKB, ← hN0]
  generalize (w1.alloc (.cells #[.slice ad O.length cap, .map (some M)] 117)) = W at *
  have HKD : Hid (KeepP fun X => (Below W.heap.size W X ∧ SmAt X M n (.int .i64 0) (firstI O)) ∧ DepsAt X (.slice ad O.length cap) O ∧ DepsAt X (.slice p1 ds1.length r1) ds1 ∧ DepsAt X (.slice p2 ds2.length r2) ds2 ∧ DepsAt X (.slice p3 ds3.length r3) ds3) := fun p q hx hpq => ⟨⟨below_then hx.1.1 hpq, hx.1.2.below hpq⟩, hx.2.1.below hpq, hx.2.2.1.below hpq, hx.2.2.2.1.below hpq, hx.2.2.2.2.below hpq⟩
  have HO0 : Hid ((Below W.heap.size W W ∧ SmAt W M n (.int .i64 0) (firstI O)) ∧ DepsAt W (.slice ad O.length cap) O ∧ DepsAt W (.slice p1 ds1.length r1) ds1 ∧ DepsAt W (.slice p2 ds2.length r2) ds2 ∧ DepsAt W (.slice p3 ds3.length r3) ds3) := ⟨⟨Below.refl _ _, HSW.out⟩, HOW.out.below HOV2.out, HD1.out.below HOV2.out, HD2.out.below HOV2.out, HD3.out.below HOV2.out⟩
  have HBX : Hid (∀ X, ((Below W.heap.size W X ∧ SmAt X M n (.int .i64 0) (firstI O)) ∧ DepsAt X (.slice ad O.length cap) O ∧ DepsAt X (.slice p1 ds1.length r1) ds1 ∧ DepsAt X (.slice p2 ds2.length r2) ds2 ∧ DepsAt X (.slice p3 ds3.length r3) ds3) → X.cell? ⟨N0, 0, none⟩ = some (.slice p1 ds1.length r1) ∧ X.cell? ⟨N0, 1, none⟩ = some (.slice p2 ds2.length r2) ∧ X.cell? ⟨N0, 2, none⟩ = some (.slice p3 ds3.length r3) ∧ X.cell? ⟨KB, 0, none⟩ = some (.slice ad O.length cap) ∧ X.cell? ⟨KB, 1, none⟩ = some (.map (some M))) := fun X hx => ⟨(hx.1.1.cell (p := ⟨N0, 0, none⟩) hNl).trans b0, (hx.1.1.cell (p := ⟨N0, 1, none⟩) hNl).trans b1, (hx.1.1.cell (p := ⟨N0, 2, none⟩) hNl).trans b2, (hx.1.1.cell (p := ⟨KB, 0, none⟩) hkl).trans k0, (hx.1.1.cell (p := ⟨KB, 1, none⟩) hkl).trans k1⟩
  have HW1 : Hid (∀ X, ((Below W.heap.size W X ∧ SmAt X M n (.int .i64 0) (firstI O)) ∧ DepsAt X (.slice ad O.length cap) O ∧ DepsAt X (.slice p1 ds1.length r1) ds1 ∧ DepsAt X (.slice p2 ds2.length r2) ds2 ∧ DepsAt X (.slice p3 ds3.length r3) ds3) → Calls Tryz.prog 73 #[.agg #[.slice ad O.length cap, .map (some M)], .slice p1 ds1.length r1, .int .i64 1] X fun e w' => ∃ a7 n7 c7, e = .returned (.slice a7 n7 c7) ∧ (∃ ps, OwnWt w' X.heap.size (.slice a7 n7 c7) ps ∧ wtsD O 1 0 ds1 ps) ∧ Below X.heap.size X w') := fun X hx => (owants_any hx.2.1 hx.1.2 hx.2.2.1 HFF.out.1 1 0).mono fun e w' hq => by
    obtain ⟨v, h1, ps, h2, h3, h4⟩ := hq
    obtain ⟨a7, c7, rfl⟩ := h2.len
    exact ⟨a7, _, c7, h1, ⟨ps, h2, h3⟩, h4⟩
  have HSR : Hid (∀ (dd : List Dp) (w5 X w6 w7 : World) (v1 vd v2 : Value), dd.length ≤ ds2.length → ((Below W.heap.size W X ∧ SmAt X M n (.int .i64 0) (firstI O)) ∧ DepsAt X (.slice ad O.length cap) O ∧ DepsAt X (.slice p1 ds1.length r1) ds1 ∧ DepsAt X (.slice p2 ds2.length r2) ds2 ∧ DepsAt X (.slice p3 ds3.length r3) ds3) → ((∃ pd, OwnWt w5 W.heap.size vd pd ∧ wtsD O 1 ds1.length dd pd) ∧ W.heap.size ≤ w5.heap.size) → Below w5.heap.size w5 X → (∃ ps, OwnWt w6 X.heap.size v1 ps ∧ wtsD O 1 0 ds1 ps) → Below X.heap.size X w6 → (∃ qs, OwnWt w7 w6.heap.size v2 qs ∧ wtsD O 2 (ds1.length + dd.length) ds3 qs) → Below w6.heap.size w6 w7 → Calls Tryz.prog 72 #[.slice (some ⟨w7.heap.size, 0, none⟩) 3 3] (w7.alloc (.cells #[v1, vd, v2] 56)) fun e w' => ∃ v, e = .returned v ∧ (∃ Y, ToldW O (rootE ds1 dd ds3) w' w.heap.size v Y ∧ Below w.heap.size w w') ∧ Below w7.heap.size w7 w') := fun dd w5 X w6 w7 v1 vd v2 hdl hx h0 hb5 h1 h2 h3 h4 => by
    obtain ⟨⟨pd, g5, g6⟩, hW5⟩ := h0
    obtain ⟨ps, g1, g2⟩ := h1
    obtain ⟨qs, g3, g4⟩ := h3
    have hl := HFF.out.2.2.2
    refine (srt_three (B := w.heap.size) (Nat.le_trans HOV2.out.size hW5) (g5.base HOV2.out.size) g6 hb5 g1 g2 h2 g3 g4 h4 (by omega)).mono fun e w' hq => ?_
    obtain ⟨v, q1, Y, q3, q4⟩ := hq
    exact ⟨v, q1, ⟨Y, q3, below_then (below_then (below_then (below_then HOV2.out hx.1.1) h2) h4) q4⟩, q4⟩
  clear HB0 HOV HSM HB1 HWW hcap b0 b1 b2 hbl0 e0 e1 e2 e3 HOW HD1 HD2 HD3 HSW hN0 hKB
  cases dev with
  | true =>
    obtain ⟨hds⟩ : Nonempty (dd = ds2) := ⟨HDD.out⟩
    subst dd
    try clear HDD
    have HW2 : Hid (∀ X, ((Below W.heap.size W X ∧ SmAt X M n (.int .i64 0) (firstI O)) ∧ DepsAt X (.slice ad O.length cap) O ∧ DepsAt X (.slice p1 ds1.length r1) ds1 ∧ DepsAt X (.slice p2 ds2.length r2) ds2 ∧ DepsAt X (.slice p3 ds3.length r3) ds3) → Calls Tryz.prog 73 #[.agg #[.slice ad O.length cap, .map (some M)], .slice p2 ds2.length r2, .int .i64 1] X fun e w' => ∃ a7 n7 c7, e = .returned (.slice a7 n7 c7) ∧ (∃ ps, OwnWt w' X.heap.size (.slice a7 n7 c7) ps ∧ wtsD O 1 ds1.length ds2 ps) ∧ Below X.heap.size X w') := fun X hx => (owants_any hx.2.1 hx.1.2 hx.2.2.2.1 HFF.out.2.1 1 ds1.length).mono fun e w' hq => by
      obtain ⟨v, h1, ps, h2, h3, h4⟩ := hq
      obtain ⟨a7, c7, rfl⟩ := h2.len
      exact ⟨a7, _, c7, h1, ⟨ps, h2, h3⟩, h4⟩
    have HW3 : Hid (∀ X, ((Below W.heap.size W X ∧ SmAt X M n (.int .i64 0) (firstI O)) ∧ DepsAt X (.slice ad O.length cap) O ∧ DepsAt X (.slice p1 ds1.length r1) ds1 ∧ DepsAt X (.slice p2 ds2.length r2) ds2 ∧ DepsAt X (.slice p3 ds3.length r3) ds3) → Calls Tryz.prog 73 #[.agg #[.slice ad O.length cap, .map (some M)], .slice p3 ds3.length r3, .int .i64 2] X fun e w' => ∃ a7 n7 c7, e = .returned (.slice a7 n7 c7) ∧ (∃ ps, OwnWt w' X.heap.size (.slice a7 n7 c7) ps ∧ wtsD O 2 (ds1.length + ds2.length) ds3 ps) ∧ Below X.heap.size X w') := fun X hx => (owants_any hx.2.1 hx.1.2 hx.2.2.2.2 HFF.out.2.2.1 2 (ds1.length + ds2.length)).mono fun e w' hq => by
      obtain ⟨v, h1, ps, h2, h3, h4⟩ := hq
      obtain ⟨a7, c7, rfl⟩ := h2.len
      exact ⟨a7, _, c7, h1, ⟨ps, h2, h3⟩, h4⟩
    replace HSR := hide3 (fun w5 X w6 w7 v1 vd v2 => HSR.out ds2 w5 X w6 w7 v1 vd v2 (Nat.le_refl _))
    obtain ⟨t0, t1, t2, t3, t4⟩ := HBX.out _ HO0.out
    go_upto_region 5 with (go_at_call 73; refine (HW2.out _ HO0.out).mono ?_; rintro e w5 ⟨a5, n5, c5, rfl, ht5, hb5⟩; have HT5 : Hid ((∃ pd, OwnWt w5 W.heap.size (.slice a5 n5 c5) pd ∧ wtsD O 1 ds1.length ds2 pd) ∧ W.heap.size ≤ w5.heap.size) := ⟨ht5, hb5.size⟩; have HO5 := hide3 (HKD.out _ _ HO0.out hb5); clear ht5 hb5)
    clear t0 t1 t2 t3 t4
    have HO := hide3 (HKD.out _ _ HO5.out (Below.refl _ _).drew)
    have HB5 : Hid (Below w5.heap.size w5 w5.drew) := (Below.refl _ _).drew
    obtain ⟨t0, t1, t2, t3, t4⟩ := HBX.out _ HO.out
    go_region_held3 (fun w' => w'.cell? ⟨N0, 0, none⟩ = some (.slice p1 ds1.length r1) ∧ w'.cell? ⟨N0, 1, none⟩ = some (.slice p2 ds2.length r2) ∧ w'.cell? ⟨N0, 2, none⟩ = some (.slice p3 ds3.length r3) ∧ w'.cell? ⟨KB, 0, none⟩ = some (.slice ad O.length cap) ∧ w'.cell? ⟨KB, 1, none⟩ = some (.map (some M))) (go_keep) (first
      | (go_at_call 72; have _t := HT2; refine (HSR.out _ _ _ _ _ _ _ HO.out HT5.out HB5.out HT1.out HB6.out HT2.out HB7.out).mono ?_; rintro e w8 ⟨v8, rfl, hfin, hb8⟩; have HFN := hide3 hfin; have HO8 := hide3 (HKD.out _ _ HO7.out hb8); obtain ⟨g0, g1, g2, g3, g4⟩ := HBX.out _ HO8.out; clear hfin hb8)
      | (go_at_call 73; have _t := HT1; refine (HW3.out _ HO6.out).mono ?_; rintro e w7 ⟨a7, n7, c7, rfl, ht2, hb7⟩; have HT2 := hide3 ht2; have HB7 := hide3 hb7; have HO7 := hide3 (HKD.out _ _ HO6.out hb7); obtain ⟨u0, u1, u2, u3, u4⟩ := HBX.out _ HO7.out; clear ht2 hb7)
      | (go_at_call 73; refine (HW1.out _ HO.out).mono ?_; rintro e w6 ⟨a6, n6, c6, rfl, ht1, hb6⟩; have HT1 := hide3 ht1; have HB6 := hide3 hb6; have HO6 := hide3 (HKD.out _ _ HO.out hb6); obtain ⟨s0, s1, s2, s3, s4⟩ := HBX.out _ HO6.out; clear ht1 hb6))
    all_goals go_wp2
    all_goals go_ret
    all_goals (obtain ⟨Y, q1, q2⟩ := HFN.out; first | exact ⟨_, rfl, ⟨Y, q1⟩, q2⟩ | exact ⟨_, rfl, Y, q1, q2⟩)
  | false =>
    obtain rfl : dd = [] := HDD.out
    clear HDD
    have HW3 : Hid (∀ X, ((Below W.heap.size W X ∧ SmAt X M n (.int .i64 0) (firstI O)) ∧ DepsAt X (.slice ad O.length cap) O ∧ DepsAt X (.slice p1 ds1.length r1) ds1 ∧ DepsAt X (.slice p2 ds2.length r2) ds2 ∧ DepsAt X (.slice p3 ds3.length r3) ds3) → Calls Tryz.prog 73 #[.agg #[.slice ad O.length cap, .map (some M)], .slice p3 ds3.length r3, .int .i64 2] X fun e w' => ∃ a7 n7 c7, e = .returned (.slice a7 n7 c7) ∧ (∃ ps, OwnWt w' X.heap.size (.slice a7 n7 c7) ps ∧ wtsD O 2 (ds1.length + ([] : List Dp).length) ds3 ps) ∧ Below X.heap.size X w') := fun X hx => (owants_any hx.2.1 hx.1.2 hx.2.2.2.2 HFF.out.2.2.1 2 (ds1.length + ([] : List Dp).length)).mono fun e w' hq => by
      obtain ⟨v, h1, ps, h2, h3, h4⟩ := hq
      obtain ⟨a7, c7, rfl⟩ := h2.len
      exact ⟨a7, _, c7, h1, ⟨ps, h2, h3⟩, h4⟩
    replace HSR := hide3 (fun w5 X w6 w7 v1 vd v2 => HSR.out [] w5 X w6 w7 v1 vd v2 (Nat.zero_le _))
    have HT5 : Hid ((∃ pd, OwnWt W W.heap.size (.slice none 0 0) pd ∧ wtsD O 1 ds1.length [] pd) ∧ W.heap.size ≤ W.heap.size) := ⟨⟨[], OwnWt.nil _ _, rfl, fun i p hi => by simp at hi⟩, Nat.le_refl _⟩
    have HO5 := HO0
    go_upto_region 5 with fail
    have HO := hide3 (HKD.out _ _ HO5.out (Below.refl _ _).drew)
    have HB5 : Hid (Below W.heap.size W W.drew) := (Below.refl _ _).drew
    obtain ⟨t0, t1, t2, t3, t4⟩ := HBX.out _ HO.out
    go_region_held3 (fun w' => w'.cell? ⟨N0, 0, none⟩ = some (.slice p1 ds1.length r1) ∧ w'.cell? ⟨N0, 1, none⟩ = some (.slice p2 ds2.length r2) ∧ w'.cell? ⟨N0, 2, none⟩ = some (.slice p3 ds3.length r3) ∧ w'.cell? ⟨KB, 0, none⟩ = some (.slice ad O.length cap) ∧ w'.cell? ⟨KB, 1, none⟩ = some (.map (some M))) (go_keep) (first
      | (go_at_call 72; have _t := HT2; refine (HSR.out _ _ _ _ _ _ _ HO.out HT5.out HB5.out HT1.out HB6.out HT2.out HB7.out).mono ?_; rintro e w8 ⟨v8, rfl, hfin, hb8⟩; have HFN := hide3 hfin; have HO8 := hide3 (HKD.out _ _ HO7.out hb8); obtain ⟨g0, g1, g2, g3, g4⟩ := HBX.out _ HO8.out; clear hfin hb8)
      | (go_at_call 73; have _t := HT1; refine (HW3.out _ HO6.out).mono ?_; rintro e w7 ⟨a7, n7, c7, rfl, ht2, hb7⟩; have HT2 := hide3 ht2; have HB7 := hide3 hb7; have HO7 := hide3 (HKD.out _ _ HO6.out hb7); obtain ⟨u0, u1, u2, u3, u4⟩ := HBX.out _ HO7.out; clear ht2 hb7)
      | (go_at_call 73; refine (HW1.out _ HO.out).mono ?_; rintro e w6 ⟨a6, n6, c6, rfl, ht1, hb6⟩; have HT1 := hide3 ht1; have HB6 := hide3 hb6; have HO6 := hide3 (HKD.out _ _ HO.out hb6); obtain ⟨s0, s1, s2, s3, s4⟩ := HBX.out _ HO6.out; clear ht1 hb6))
    all_goals go_wp2
    all_goals go_ret
    all_goals (obtain ⟨Y, q1, q2⟩ := HFN.out; first | exact ⟨_, rfl, ⟨Y, q1⟩, q2⟩ | exact ⟨_, rfl, Y, q1, q2⟩)
end Go.Proofs.YtbjbhgkbnegfgaaGreatDoor
