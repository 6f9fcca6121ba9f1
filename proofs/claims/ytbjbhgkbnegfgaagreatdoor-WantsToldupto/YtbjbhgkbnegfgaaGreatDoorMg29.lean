/- Wh6, RwT, laid in one text. -/
import Derived.Test.YtbjbhgkbnegfgaaGreatDoorMg28
namespace Go.Proofs.YtbjbhgkbnegfgaaGreatDoor
open Go.RowKit Go.Maps Go.WideMaps
set_option maxRecDepth 100000

theorem keepPw (w0 : World) (B : Nat) (v : Value) (ps : List (Dp × Value)) : KeepP (PwQ w0 B v ps) := fun p q h hb => ⟨own_below h.1 hb, fun x hx => by obtain ⟨cs, hc⟩ := h.2.1 x hx; exact ⟨cs, own_below hc hb⟩, below_then h.2.2 hb⟩

set_option maxHeartbeats 25600000 in
theorem wantsTold_walk {w : World} (he : Env w) (hf : FL w) {O ds1 ds2 ds3 ms1 ms2 ms3 : List Dp} (nm : ByteArray) (a b c : Int) {p1 p2 p3 u1 u2 u3 : Option Addr} {r1 r2 r3 y1 y2 y3 : Nat} {v4 : Value} (hd1 : DepsAt w (.slice p1 ds1.length r1) ds1) (hd2 : DepsAt w (.slice p2 ds2.length r2) ds2) (hd3 : DepsAt w (.slice p3 ds3.length r3) ds3) (hm1 : DepsAt w (.slice u1 ms1.length y1) ms1) (hm2 : DepsAt w (.slice u2 ms2.length y2) ms2) (hm3 : DepsAt w (.slice u3 ms3.length y3) ms3) (ho : DepsAt w v4 O) (hO : O.length ≤ 100000000 ∧ ∀ d ∈ O, d.nm.size ≤ 9223372036854775807) (f1 : FitA O ds1) (f2 : FitA O ds2) (f3 : FitA O ds3) (g1 : FitA O ms1) (g2 : FitA O ms2) (g3 : FitA O ms3) (hl1 : ds1.length + ds3.length ≤ 10000000) (hl0 : ds2.length ≤ 10000000) (hl2 : ms1.length + ms2.length + ms3.length ≤ 10000000) (dev : Bool) :
    Calls Tryz.prog 4 #[.agg #[.string nm, .int .i64 a, .int .i64 b, .int .i64 c, .slice p1 ds1.length r1, .slice p2 ds2.length r2, .slice p3 ds3.length r3], .agg #[.slice u1 ms1.length y1, .slice u2 ms2.length y2, .slice u3 ms3.length y3, v4], .bool dev] w fun e w' => e = .returned (.bool true) ∧ Below w.heap.size w w' := by
  obtain ⟨ad, cap, rfl, hcap, _⟩ := ho.el
  obtain ⟨dd, hdd⟩ : ∃ dd, dd = if dev = true then ms2 else [] := ⟨_, rfl⟩
  have HEV : Hid (Env w ∧ FL w) := ⟨he, hf⟩
  have HDD := hide3 hdd
  have HIN : Hid (DepsAt w (.slice p1 ds1.length r1) ds1 ∧ DepsAt w (.slice p2 ds2.length r2) ds2 ∧ DepsAt w (.slice p3 ds3.length r3) ds3 ∧ DepsAt w (.slice u1 ms1.length y1) ms1 ∧ DepsAt w (.slice u2 ms2.length y2) ms2 ∧ DepsAt w (.slice u3 ms3.length y3) ms3 ∧ DepsAt w (.slice ad O.length cap) O) := ⟨hd1, hd2, hd3, hm1, hm2, hm3, ho⟩
  have HFO : Hid (O.length ≤ 9223372036854775807 ∧ ∀ d ∈ O, d.nm.size ≤ 9223372036854775807) := ⟨by omega, hO.2⟩
  have HFA : Hid (FitA O ds1 ∧ FitA O ds2 ∧ FitA O ds3 ∧ FitA O ms1 ∧ FitA O ms2 ∧ FitA O ms3) := ⟨f1, f2, f3, g1, g2, g3⟩
  have HNZ : Hid (∀ ds, FitA O ds → ∀ d ∈ ds, d.nm.size ≤ 9223372036854775807) := fun ds hq d hd => by have := (hq.1.2 d hd).1; omega
  have HL : Hid (ds1.length + ds3.length ≤ 10000000 ∧ ms1.length + ms2.length + ms3.length ≤ 10000000 ∧ ds2.length ≤ 10000000) := ⟨hl1, hl2, hl0⟩
  have hml : ms1.length ≤ 10000000 := by omega
  have HLE : Hid (((ofE ds1 ds3)).length ≤ 10000000 ∧ ((rootE ms1 dd ms3)).length ≤ 10000000) := by
    have hddl : dd.length ≤ ms2.length := by rw [hdd]; split <;> simp
    unfold Hid ofE rootE
    simp only [List.length_append, List.length_map]
    omega
  clear he hf hdd hd1 hd2 hd3 hm1 hm2 hm3 ho hO f1 f2 f3 g1 g2 g3 hl1 hl2 hl0 hcap
  go_enter Tryz.func4, Tryz.ntmps4
  go_upto_region 1 with fail
  have HBW : Hid (Below w.heap.size w ((w.alloc (.cells #[.string nm, .int .i64 a, .int .i64 b, .int .i64 c, .slice p1 ds1.length r1, .slice p2 ds2.length r2, .slice p3 ds3.length r3] 34)).alloc (.cells #[.slice u1 ms1.length y1, .slice u2 ms2.length y2, .slice u3 ms3.length y3, .slice ad O.length cap] 54))) := boxB2 _ _ _
  have HCS : Hid (((w.alloc (.cells #[.string nm, .int .i64 a, .int .i64 b, .int .i64 c, .slice p1 ds1.length r1, .slice p2 ds2.length r2, .slice p3 ds3.length r3] 34)).alloc (.cells #[.slice u1 ms1.length y1, .slice u2 ms2.length y2, .slice u3 ms3.length y3, .slice ad O.length cap] 54)).cell? ⟨w.heap.size, 0, none⟩ = some (.string nm) ∧ ((w.alloc (.cells #[.string nm, .int .i64 a, .int .i64 b, .int .i64 c, .slice p1 ds1.length r1, .slice p2 ds2.length r2, .slice p3 ds3.length r3] 34)).alloc (.cells #[.slice u1 ms1.length y1, .slice u2 ms2.length y2, .slice u3 ms3.length y3, .slice ad O.length cap] 54)).cell? ⟨w.heap.size, 1, none⟩ = some (.int .i64 a) ∧ ((w.alloc (.cells #[.string nm, .int .i64 a, .int .i64 b, .int .i64 c, .slice p1 ds1.length r1, .slice p2 ds2.length r2, .slice p3 ds3.length r3] 34)).alloc (.cells #[.slice u1 ms1.length y1, .slice u2 ms2.length y2, .slice u3 ms3.length y3, .slice ad O.length cap] 54)).cell? ⟨w.heap.size, 2, none⟩ = some (.int .i64 b) ∧ ((w.alloc (.cells #[.string nm, .int .i64 a, .int .i64 b, .int .i64 c, .slice p1 ds1.length r1, .slice p2 ds2.length r2, .slice p3 ds3.length r3] 34)).alloc (.cells #[.slice u1 ms1.length y1, .slice u2 ms2.length y2, .slice u3 ms3.length y3, .slice ad O.length cap] 54)).cell? ⟨w.heap.size, 3, none⟩ = some (.int .i64 c) ∧ ((w.alloc (.cells #[.string nm, .int .i64 a, .int .i64 b, .int .i64 c, .slice p1 ds1.length r1, .slice p2 ds2.length r2, .slice p3 ds3.length r3] 34)).alloc (.cells #[.slice u1 ms1.length y1, .slice u2 ms2.length y2, .slice u3 ms3.length y3, .slice ad O.length cap] 54)).cell? ⟨w.heap.size, 4, none⟩ = some (.slice p1 ds1.length r1) ∧ ((w.alloc (.cells #[.string nm, .int .i64 a, .int .i64 b, .int .i64 c, .slice p1 ds1.length r1, .slice p2 ds2.length r2, .slice p3 ds3.length r3] 34)).alloc (.cells #[.slice u1 ms1.length y1, .slice u2 ms2.length y2, .slice u3 ms3.length y3, .slice ad O.length cap] 54)).cell? ⟨w.heap.size, 5, none⟩ = some (.slice p2 ds2.length r2) ∧ ((w.alloc (.cells #[.string nm, .int .i64 a, .int .i64 b, .int .i64 c, .slice p1 ds1.length r1, .slice p2 ds2.length r2, .slice p3 ds3.length r3] 34)).alloc (.cells #[.slice u1 ms1.length y1, .slice u2 ms2.length y2, .slice u3 ms3.length y3, .slice ad O.length cap] 54)).cell? ⟨w.heap.size, 6, none⟩ = some (.slice p3 ds3.length r3) ∧ ((w.alloc (.cells #[.string nm, .int .i64 a, .int .i64 b, .int .i64 c, .slice p1 ds1.length r1, .slice p2 ds2.length r2, .slice p3 ds3.length r3] 34)).alloc (.cells #[.slice u1 ms1.length y1, .slice u2 ms2.length y2, .slice u3 ms3.length y3, .slice ad O.length cap] 54)).cell? ⟨w.heap.size + 1, 0, none⟩ = some (.slice u1 ms1.length y1) ∧ ((w.alloc (.cells #[.string nm, .int .i64 a, .int .i64 b, .int .i64 c, .slice p1 ds1.length r1, .slice p2 ds2.length r2, .slice p3 ds3.length r3] 34)).alloc (.cells #[.slice u1 ms1.length y1, .slice u2 ms2.length y2, .slice u3 ms3.length y3, .slice ad O.length cap] 54)).cell? ⟨w.heap.size + 1, 1, none⟩ = some (.slice u2 ms2.length y2) ∧ ((w.alloc (.cells #[.string nm, .int .i64 a, .int .i64 b, .int .i64 c, .slice p1 ds1.length r1, .slice p2 ds2.length r2, .slice p3 ds3.length r3] 34)).alloc (.cells #[.slice u1 ms1.length y1, .slice u2 ms2.length y2, .slice u3 ms3.length y3, .slice ad O.length cap] 54)).cell? ⟨w.heap.size + 1, 2, none⟩ = some (.slice u3 ms3.length y3) ∧ ((w.alloc (.cells #[.string nm, .int .i64 a, .int .i64 b, .int .i64 c, .slice p1 ds1.length r1, .slice p2 ds2.length r2, .slice p3 ds3.length r3] 34)).alloc (.cells #[.slice u1 ms1.length y1, .slice u2 ms2.length y2, .slice u3 ms3.length y3, .slice ad O.length cap] 54)).cell? ⟨w.heap.size + 1, 3, none⟩ = some (.slice ad O.length cap)) := by
    exact ⟨((boxB _ _).cell (p := ⟨w.heap.size, 0, none⟩) (by simp)).trans (new_cell rfl rfl).1, ((boxB _ _).cell (p := ⟨w.heap.size, 1, none⟩) (by simp)).trans (new_cell rfl rfl).1, ((boxB _ _).cell (p := ⟨w.heap.size, 2, none⟩) (by simp)).trans (new_cell rfl rfl).1, ((boxB _ _).cell (p := ⟨w.heap.size, 3, none⟩) (by simp)).trans (new_cell rfl rfl).1, ((boxB _ _).cell (p := ⟨w.heap.size, 4, none⟩) (by simp)).trans (new_cell rfl rfl).1, ((boxB _ _).cell (p := ⟨w.heap.size, 5, none⟩) (by simp)).trans (new_cell rfl rfl).1, ((boxB _ _).cell (p := ⟨w.heap.size, 6, none⟩) (by simp)).trans (new_cell rfl rfl).1, (new_cell (by simp) rfl).1, (new_cell (by simp) rfl).1, (new_cell (by simp) rfl).1, (new_cell (by simp) rfl).1⟩
  have hN2 : w.heap.size + 1 < ((w.alloc (.cells #[.string nm, .int .i64 a, .int .i64 b, .int .i64 c, .slice p1 ds1.length r1, .slice p2 ds2.length r2, .slice p3 ds3.length r3] 34)).alloc (.cells #[.slice u1 ms1.length y1, .slice u2 ms2.length y2, .slice u3 ms3.length y3, .slice ad O.length cap] 54)).heap.size := by simp
  obtain ⟨N0, hN0⟩ : ∃ k, k = w.heap.size := ⟨_, rfl⟩
  rw [← hN0] at HCS hN2
  rw [← hN0]
  generalize ((w.alloc (.cells #[.string nm, .int .i64 a, .int .i64 b, .int .i64 c, .slice p1 ds1.length r1, .slice p2 ds2.length r2, .slice p3 ds3.length r3] 34)).alloc (.cells #[.slice u1 ms1.length y1, .slice u2 ms2.length y2, .slice u3 ms3.length y3, .slice ad O.length cap] 54)) = W at *
  have HC : Hid (∀ X, Below W.heap.size W X → X.cell? ⟨N0, 0, none⟩ = some (.string nm) ∧ X.cell? ⟨N0, 1, none⟩ = some (.int .i64 a) ∧ X.cell? ⟨N0, 2, none⟩ = some (.int .i64 b) ∧ X.cell? ⟨N0, 3, none⟩ = some (.int .i64 c) ∧ X.cell? ⟨N0, 4, none⟩ = some (.slice p1 ds1.length r1) ∧ X.cell? ⟨N0, 5, none⟩ = some (.slice p2 ds2.length r2) ∧ X.cell? ⟨N0, 6, none⟩ = some (.slice p3 ds3.length r3) ∧ X.cell? ⟨N0 + 1, 0, none⟩ = some (.slice u1 ms1.length y1) ∧ X.cell? ⟨N0 + 1, 1, none⟩ = some (.slice u2 ms2.length y2) ∧ X.cell? ⟨N0 + 1, 2, none⟩ = some (.slice u3 ms3.length y3) ∧ X.cell? ⟨N0 + 1, 3, none⟩ = some (.slice ad O.length cap)) := fun X hx => by
    obtain ⟨qa0, qa1, qa2, qa3, qa4, qa5, qa6, qa7, qa8, qa9, qa10⟩ := HCS.out
    exact ⟨(hx.cell (p := ⟨N0, 0, none⟩) (by simp only; omega)).trans qa0, (hx.cell (p := ⟨N0, 1, none⟩) (by simp only; omega)).trans qa1, (hx.cell (p := ⟨N0, 2, none⟩) (by simp only; omega)).trans qa2, (hx.cell (p := ⟨N0, 3, none⟩) (by simp only; omega)).trans qa3, (hx.cell (p := ⟨N0, 4, none⟩) (by simp only; omega)).trans qa4, (hx.cell (p := ⟨N0, 5, none⟩) (by simp only; omega)).trans qa5, (hx.cell (p := ⟨N0, 6, none⟩) (by simp only; omega)).trans qa6, (hx.cell (p := ⟨N0 + 1, 0, none⟩) (by simp only; omega)).trans qa7, (hx.cell (p := ⟨N0 + 1, 1, none⟩) (by simp only; omega)).trans qa8, (hx.cell (p := ⟨N0 + 1, 2, none⟩) (by simp only; omega)).trans qa9, (hx.cell (p := ⟨N0 + 1, 3, none⟩) (by simp only; omega)).trans qa10⟩
  have HDO : Hid (DepsAt W (.slice ad O.length cap) O) := HIN.out.2.2.2.2.2.2.below HBW.out
  have HD1 : Hid (DepsAt W (.slice p1 ds1.length r1) ds1) := HIN.out.1.below HBW.out
  have HD2 : Hid (DepsAt W (.slice p2 ds2.length r2) ds2) := HIN.out.2.1.below HBW.out
  have HD3 : Hid (DepsAt W (.slice p3 ds3.length r3) ds3) := HIN.out.2.2.1.below HBW.out
  have HM1 : Hid (DepsAt W (.slice u1 ms1.length y1) ms1) := HIN.out.2.2.2.1.below HBW.out
  have HM2 : Hid (DepsAt W (.slice u2 ms2.length y2) ms2) := HIN.out.2.2.2.2.1.below HBW.out
  have HM3 : Hid (DepsAt W (.slice u3 ms3.length y3) ms3) := HIN.out.2.2.2.2.2.1.below HBW.out
  have HKN : Hid (∀ X, Below W.heap.size W X → Calls Tryz.prog 38 #[] X fun e w' => e = .returned (.bool true) ∧ Below X.heap.size X w') := fun X hb => known_wa ((HEV.out.1.below HBW.out).below hb) ((HEV.out.2.below HBW.out).below hb)
  have HOF : Hid (∀ X, Below W.heap.size W X → Calls Tryz.prog 28 #[.agg #[.string nm, .int .i64 a, .int .i64 b, .int .i64 c, .slice p1 ds1.length r1, .slice p2 ds2.length r2, .slice p3 ds3.length r3], .agg #[.slice u1 ms1.length y1, .slice u2 ms2.length y2, .slice u3 ms3.length y3, .slice ad O.length cap]] X fun e w' => ∃ a7 n7 c7, e = .returned (.slice a7 n7 c7) ∧ (∃ Y, ToldW O (ofE ds1 ds3) w' X.heap.size (.slice a7 n7 c7) Y) ∧ Below X.heap.size X w') := fun X hx => (of_any (HDO.out.below hx) HFO.out.1 HFO.out.2 nm a b c (HD1.out.below hx) (HD3.out.below hx) HFA.out.1.1 HFA.out.2.2.1.1 (by have := HL.out.1; omega)).mono fun e w' hq => by
    obtain ⟨v, h1, Y, h2, h3⟩ := hq
    obtain ⟨a7, c7, rfl⟩ := h2.row.len
    exact ⟨a7, _, c7, h1, ⟨Y, h2⟩, h3⟩
  have HRT : Hid (∀ X, Below W.heap.size W X → Calls Tryz.prog 30 #[.agg #[.slice u1 ms1.length y1, .slice u2 ms2.length y2, .slice u3 ms3.length y3, .slice ad O.length cap], .bool dev] X fun e w' => ∃ a7 n7 c7, e = .returned (.slice a7 n7 c7) ∧ (∃ Y, ToldW O (rootE ms1 dd ms3) w' X.heap.size (.slice a7 n7 c7) Y) ∧ Below X.heap.size X w') := fun X hx => (ofRoot_any (HDO.out.below hx) HFO.out.1 HFO.out.2 (HM1.out.below hx) (HM2.out.below hx) (HM3.out.below hx) HFA.out.2.2.2.1.1 HFA.out.2.2.2.2.1.1 HFA.out.2.2.2.2.2.1 (by have := HL.out.2.1; omega) dev HDD.out).mono fun e w' hq => by
    obtain ⟨v, h1, Y, h2, h3⟩ := hq
    obtain ⟨a7, c7, rfl⟩ := h2.row.len
    exact ⟨a7, _, c7, h1, ⟨Y, h2⟩, h3⟩
  have HRO : Hid (∀ X, Below W.heap.size W X → Calls Tryz.prog 29 #[.agg #[.string nm, .int .i64 a, .int .i64 b, .int .i64 c, .slice p1 ds1.length r1, .slice p2 ds2.length r2, .slice p3 ds3.length r3], .agg #[.slice u1 ms1.length y1, .slice u2 ms2.length y2, .slice u3 ms3.length y3, .slice ad O.length cap]] X fun e w' => ∃ a7 n7 c7, e = .returned (.slice a7 n7 c7) ∧ (∃ Y, DocT O (ofE ds1 ds3) W w' X.heap.size (.slice a7 n7 c7) Y) ∧ Below X.heap.size X w') := fun X hx => (rOf_any hx nm a b c HDO.out HFO.out.1 HD1.out HD3.out (HNZ.out _ HFA.out.1) (HNZ.out _ HFA.out.2.2.1) HL.out.1).mono fun e w' hq => by
    obtain ⟨v, h1, ⟨Y, h2⟩, h3⟩ := hq
    obtain ⟨a7, c7, rfl⟩ := own_len h2.1.1
    exact ⟨a7, _, c7, h1, ⟨Y, h2⟩, h3⟩
  have HRR : Hid (∀ X, Below W.heap.size W X → Calls Tryz.prog 31 #[.agg #[.slice u1 ms1.length y1, .slice u2 ms2.length y2, .slice u3 ms3.length y3, .slice ad O.length cap], .bool dev] X fun e w' => ∃ a7 n7 c7, e = .returned (.slice a7 n7 c7) ∧ (∃ Y, DocT O (rootE ms1 dd ms3) W w' X.heap.size (.slice a7 n7 c7) Y) ∧ Below X.heap.size X w') := fun X hx => (rOfRoot_any hx HDO.out HFO.out.1 HM1.out HM2.out HM3.out (HNZ.out _ HFA.out.2.2.2.1) (HNZ.out _ HFA.out.2.2.2.2.1) (HNZ.out _ HFA.out.2.2.2.2.2) HL.out.2.1 dev HDD.out).mono fun e w' hq => by
    obtain ⟨v, h1, ⟨Y, h2⟩, h3⟩ := hq
    obtain ⟨a7, c7, rfl⟩ := own_len h2.1.1
    exact ⟨a7, _, c7, h1, ⟨Y, h2⟩, h3⟩
  have HLA : Hid (∀ (X w5 w6 : World) (va vb : Value), Below W.heap.size W X → (∃ Y, ToldW O (ofE ds1 ds3) w5 X.heap.size va Y) → Below X.heap.size X w5 → (∃ Z, DocT O (ofE ds1 ds3) W w6 w5.heap.size vb Z) → Below w5.heap.size w5 w6 → Calls Tryz.prog 27 #[va, vb] w6 fun e w' => e = .returned (.bool true) ∧ Below W.heap.size W w') := fun X w5 w6 va vb hx h1 h2 h3 h4 => by
    obtain ⟨Y, h1⟩ := h1
    obtain ⟨Z, h3⟩ := h3
    have hl : Y.length ≤ 100000000 := by
      have e := h1.2.2.1.length_eq
      rw [List.length_map, List.length_range] at e
      have := HLE.out.1
      omega
    exact wlists_any (below_then (below_then hx h2) h4) hx.size ⟨h1.1.below h4, h1.2⟩ (fun g hg => (World.ownsRow.lt h1.row g hg).2) h3 hl
  have HLB : Hid (∀ (X w5 w6 : World) (va vb : Value), Below W.heap.size W X → (∃ Y, ToldW O (rootE ms1 dd ms3) w5 X.heap.size va Y) → Below X.heap.size X w5 → (∃ Z, DocT O (rootE ms1 dd ms3) W w6 w5.heap.size vb Z) → Below w5.heap.size w5 w6 → Calls Tryz.prog 27 #[va, vb] w6 fun e w' => e = .returned (.bool true) ∧ Below W.heap.size W w') := fun X w5 w6 va vb hx h1 h2 h3 h4 => by
    obtain ⟨Y, h1⟩ := h1
    obtain ⟨Z, h3⟩ := h3
    have hl : Y.length ≤ 100000000 := by
      have e := h1.2.2.1.length_eq
      rw [List.length_map, List.length_range] at e
      have := HLE.out.2
      omega
    exact wlists_any (below_then (below_then hx h2) h4) hx.size ⟨h1.1.below h4, h1.2⟩ (fun g hg => (World.ownsRow.lt h1.row g hg).2) h3 hl
  have HPE : Hid (∀ X, Below W.heap.size W X → Calls Tryz.prog 32 #[.agg #[.string nm, .int .i64 a, .int .i64 b, .int .i64 c, .slice p1 ds1.length r1, .slice p2 ds2.length r2, .slice p3 ds3.length r3], .agg #[.slice u1 ms1.length y1, .slice u2 ms2.length y2, .slice u3 ms3.length y3, .slice ad O.length cap]] X fun e w' => ∃ a7 n7 c7, e = .returned (.slice a7 n7 c7) ∧ (∃ ps, OwnD w' X.heap.size (.slice a7 n7 c7) ps ∧ ps.map (·.1) = peersD O ds2 ∧ ps.length = n7) ∧ Below X.heap.size X w') := fun X hx => (peers_any (HDO.out.below hx) HFO.out.1 HFO.out.2 nm a b c (HD2.out.below hx) HFA.out.2.1.1).mono fun e w' hq => by
    obtain ⟨v, h1, ps, h2, h3, h4⟩ := hq
    obtain ⟨a7, c7, rfl⟩ := h2.len
    exact ⟨a7, _, c7, h1, ⟨ps, h2, h3, rfl⟩, h4⟩
  have HRP : Hid (∀ X, Below W.heap.size W X → Calls Tryz.prog 34 #[.agg #[.string nm, .int .i64 a, .int .i64 b, .int .i64 c, .slice p1 ds1.length r1, .slice p2 ds2.length r2, .slice p3 ds3.length r3], .agg #[.slice u1 ms1.length y1, .slice u2 ms2.length y2, .slice u3 ms3.length y3, .slice ad O.length cap]] X fun e w' => ∃ a7 n7 c7, e = .returned (.slice a7 n7 c7) ∧ PeersAt W X w' (.slice a7 n7 c7) O ds2 ∧ Below X.heap.size X w') := fun X hx => (rpeers_big hx HDO.out HFO.out.1 nm a b c HD2.out (by have := HL.out.2.2; omega)).mono fun e w' hq => by
    obtain ⟨v, h1, h2, h3⟩ := hq
    have h2' := h2
    obtain ⟨us, h4, _⟩ := h2
    obtain ⟨a7, c7, rfl⟩ := own_len h4
    exact ⟨a7, _, c7, h1, h2', h3⟩
  have HDS : Hid (∀ (X w5 w6 : World) (ps : List (Dp × Value)) (va vb : Value), Below W.heap.size W w5 → OwnD w5 X.heap.size va ps → ps.map (·.1) = peersD O ds2 → PeersAt W w5 w6 vb O ds2 → Below w5.heap.size w5 w6 → Calls Tryz.prog 33 #[va, vb] w6 fun e w' => e = .returned (.bool true) ∧ Below w6.heap.size w6 w') := fun X w5 w6 ps va vb hx h1 h2 h3 h4 => by
    obtain ⟨us, k1, k2, k3⟩ := h3
    have hA := (h1.below h4).at
    have hZ := rowD_at k1 (fun p hp => ⟨(k2 p hp).1.below (below_then hx h4), (k2 p hp).2⟩)
    have hlen : (ps.map (·.1)).length ≤ 9223372036854775807 := by
      rw [h2]
      unfold peersD
      rw [List.length_map]
      have := HL.out.2.2
      omega
    have e := rDeps_any hA hZ hlen
    rw [h2, k3, eqB_yes rfl] at e
    exact e
  have HPB : Hid (∀ d ∈ peersD O ds2, d.rg.length * 48 ≤ 140737488355328) := fun d hd => by
    obtain ⟨e, he, rfl⟩ := List.mem_map.1 hd
    exact (HFA.out.2.1.1.2 e he).2
  have HPR : Hid (∀ (X : World) (d : Dp) (au : Option Addr) (nu cu : Nat), Below W.heap.size W X → d ∈ ms1 → SpansC W (.slice au nu cu) d.rg → d.rg.length ≤ 9223372036854775807 → Calls Tryz.prog 35 #[.agg #[.slice u1 ms1.length y1, .slice u2 ms2.length y2, .slice u3 ms3.length y3, .slice ad O.length cap], .agg #[.string d.nm, .slice au nu cu]] X fun e w' => ∃ a7 n7 c7, e = .returned (.slice a7 n7 c7) ∧ (OwnS w' X.heap.size (.slice a7 n7 c7) (rangeD O d) ∧ n7 = (rangeD O d).length) ∧ Below X.heap.size X w') := fun X d au nu cu hx hd hs hz => (prange_any (HDO.out.below hx) HFO.out.1 HFO.out.2 d (hs.below hx) hz (HNZ.out _ HFA.out.2.2.2.1 d hd) (HFA.out.2.2.2.1.1.2 d hd).2).mono fun e w' hq => by
    obtain ⟨v, h1, h2, h3⟩ := hq
    obtain ⟨a7, c7, rfl⟩ := own_len h2
    exact ⟨a7, _, c7, h1, ⟨h2, rfl⟩, h3⟩
  have HP0 : Hid (ds2.length ≤ 10000000) := HL.out.2.2
  have HRB : Hid (∀ d ∈ ms1, (rangeD O d).length * 48 ≤ 140737488355328) := fun d hd => (HFA.out.2.2.2.1.1.2 d hd).2
  have HDR : Hid (∀ (X : World) (d : Dp) (au : Option Addr) (nu cu : Nat), Below W.heap.size W X → SpansC W (.slice au nu cu) d.rg → d.rg.length ≤ 9223372036854775807 → Calls Tryz.prog 37 #[.agg #[.slice u1 ms1.length y1, .slice u2 ms2.length y2, .slice u3 ms3.length y3, .slice ad O.length cap], .agg #[.string d.nm, .slice au nu cu]] X fun e w' => ∃ a1 b1 c1, e = .returned (.slice a1 b1 c1) ∧ SpansC W (.slice a1 b1 c1) (rangeD O d) ∧ Below X.heap.size X w') := fun X d au nu cu hx hs hz => (rrange_any hx HDO.out HFO.out.1 d hs hz).mono fun e w' hq => by
    obtain ⟨a1, b1, c1, h1, h2, h3, h4⟩ := hq
    exact ⟨a1, b1, c1, h1, h2, h4⟩
  clear HIN HFA HCS hN0 HEV HDD HL HLE HD1 HD2 HD3 HM2 HM3 HFO HNZ
  go_wp2_with fail
  go_loopw [7] (fun vi wr => ∃ i : Nat, i ≤ 2 ∧ vi = .int .i64 i ∧ Below W.heap.size W wr) (fun vi _ => 2 - (intOf vi).toNat)
  case atStart => exact ⟨0, by omega, rfl, Below.refl _ _⟩
  case round =>
    obtain ⟨i, hi, rfl, hbr⟩ := hrel
    have HBR := hide3 hbr
    clear hbr
    by_cases hlt : i < 2
    · have hli : (i : Int) < 2 := by omega
      have HO : Hid (Below W.heap.size W wr.drew) := below_then HBR.out (Below.refl _ _).drew
      obtain ⟨qa0, qa1, qa2, qa3, qa4, qa5, qa6, qa7, qa8, qa9, qa10⟩ := HC.out _ HO.out
      obtain ⟨qz0, qz1, qz2, qz3, qz4, qz5, qz6, qz7, qz8, qz9, qz10⟩ := HC.out _ HBR.out
      go_wp2_with fail
      go_region_held3 (fun w' => w'.cell? ⟨N0, 0, none⟩ = some (.string nm) ∧ w'.cell? ⟨N0, 1, none⟩ = some (.int .i64 a) ∧ w'.cell? ⟨N0, 2, none⟩ = some (.int .i64 b) ∧ w'.cell? ⟨N0, 3, none⟩ = some (.int .i64 c) ∧ w'.cell? ⟨N0, 4, none⟩ = some (.slice p1 ds1.length r1) ∧ w'.cell? ⟨N0, 5, none⟩ = some (.slice p2 ds2.length r2) ∧ w'.cell? ⟨N0, 6, none⟩ = some (.slice p3 ds3.length r3) ∧ w'.cell? ⟨N0 + 1, 0, none⟩ = some (.slice u1 ms1.length y1) ∧ w'.cell? ⟨N0 + 1, 1, none⟩ = some (.slice u2 ms2.length y2) ∧ w'.cell? ⟨N0 + 1, 2, none⟩ = some (.slice u3 ms3.length y3) ∧ w'.cell? ⟨N0 + 1, 3, none⟩ = some (.slice ad O.length cap)) (go_keep) (first
        | (go_at_call 27; have _t := HZ9; refine (HLB.out _ _ _ _ _ HB7.out HT8.out HB78.out HZ9.out HB89.out).mono ?_; rintro e w10 ⟨rfl, hb10⟩; have HB10 := hide3 hb10; clear hb10; obtain ⟨qg0, qg1, qg2, qg3, qg4, qg5, qg6, qg7, qg8, qg9, qg10⟩ := HC.out _ HB10.out)
        | (go_at_call 31; have _t := HT8; refine (HRR.out _ HB8.out).mono ?_; rintro e w9 ⟨a9, n9, c9, rfl, hz9, hb9⟩; have HZ9 := hide3 hz9; have HB89 := hide3 hb9; have HB9 := hide3 (below_then HB8.out hb9); clear hz9 hb9; obtain ⟨qf0, qf1, qf2, qf3, qf4, qf5, qf6, qf7, qf8, qf9, qf10⟩ := HC.out _ HB9.out)
        | (go_at_call 30; have _t := HB7; refine (HRT.out _ HB7.out).mono ?_; rintro e w8 ⟨a8, n8, c8, rfl, ht8, hb8⟩; have HT8 := hide3 ht8; have HB78 := hide3 hb8; have HB8 := hide3 (below_then HB7.out hb8); clear ht8 hb8; obtain ⟨qe0, qe1, qe2, qe3, qe4, qe5, qe6, qe7, qe8, qe9, qe10⟩ := HC.out _ HB8.out)
        | (go_at_call 27; have _t := HZ6; refine (HLA.out _ _ _ _ _ HO.out HT5.out HB45.out HZ6.out HB56.out).mono ?_; rintro e w7 ⟨rfl, hb7⟩; have HB7 := hide3 hb7; clear hb7; obtain ⟨qd0, qd1, qd2, qd3, qd4, qd5, qd6, qd7, qd8, qd9, qd10⟩ := HC.out _ HB7.out)
        | (go_at_call 29; have _t := HT5; refine (HRO.out _ HB5.out).mono ?_; rintro e w6 ⟨a6, n6, c6, rfl, hz6, hb6⟩; have HZ6 := hide3 hz6; have HB56 := hide3 hb6; have HB6 := hide3 (below_then HB5.out hb6); clear hz6 hb6; obtain ⟨qc0, qc1, qc2, qc3, qc4, qc5, qc6, qc7, qc8, qc9, qc10⟩ := HC.out _ HB6.out)
        | (go_at_call 28; refine (HOF.out _ HO.out).mono ?_; rintro e w5 ⟨a5, n5, c5, rfl, ht5, hb5⟩; have HT5 := hide3 ht5; have HB45 := hide3 hb5; have HB5 := hide3 (below_then HO.out hb5); clear ht5 hb5; obtain ⟨qb0, qb1, qb2, qb3, qb4, qb5, qb6, qb7, qb8, qb9, qb10⟩ := HC.out _ HB5.out))
      try clear qa0 qa1 qa2 qa3 qa4 qa5 qa6 qa7 qa8 qa9 qa10
      try clear qz0 qz1 qz2 qz3 qz4 qz5 qz6 qz7 qz8 qz9 qz10
      try clear qb0 qb1 qb2 qb3 qb4 qb5 qb6 qb7 qb8 qb9 qb10
      try clear qc0 qc1 qc2 qc3 qc4 qc5 qc6 qc7 qc8 qc9 qc10
      try clear qd0 qd1 qd2 qd3 qd4 qd5 qd6 qd7 qd8 qd9 qd10
      try clear qe0 qe1 qe2 qe3 qe4 qe5 qe6 qe7 qe8 qe9 qe10
      try clear qf0 qf1 qf2 qf3 qf4 qf5 qf6 qf7 qf8 qf9 qf10
      clear HT5 HB45 HB5 HZ6 HB56 HB6 HB7 HT8 HB78 HB8 HZ9 HB89 HB9 HO HBR
      go_upto_region 7 with (go_at_call 32; refine (HPE.out _ HB10.out).mono ?_; rintro e w11 ⟨a11, n11, c11, rfl, ⟨ps, hp1, hp2, hp3⟩, hb11⟩; have HOD := hide3 hp1; have HPD := hide3 hp2; have HPL := hide3 hp3; have HB1011 := hide3 hb11; have HB11 := hide3 (below_then HB10.out hb11); clear hp1 hp2 hp3 hb11; obtain ⟨qh0, qh1, qh2, qh3, qh4, qh5, qh6, qh7, qh8, qh9, qh10⟩ := HC.out _ HB11.out)
      clear qg0 qg1 qg2 qg3 qg4 qg5 qg6 qg7 qg8 qg9 qg10
      go_upto_region 9 with (first
        | (go_at_call 33; have _t := HP12; refine (HDS.out _ _ _ _ _ _ HB11.out HOD.out HPD.out HP12.out HB1112.out).mono ?_; rintro e w13 ⟨rfl, hb13⟩; have HB13 := hide3 (below_then HB12.out hb13); have HB1113 := hide3 (below_then HB1112.out hb13); clear hb13)
        | (go_at_call 34; refine (HRP.out _ HB11.out).mono ?_; rintro e w12 ⟨a12, n12, c12, rfl, hp12, hb12⟩; have HP12 := hide3 hp12; have HB1112 := hide3 hb12; have HB12 := hide3 (below_then HB11.out hb12); clear hp12 hb12))
      clear qh0 qh1 qh2 qh3 qh4 qh5 qh6 qh7 qh8 qh9 qh10
      have HPW : Hid (PwQ W w10.heap.size (.slice a11 n11 c11) ps w13) := by
        have e := HOD.out.below HB1113.out
        exact ⟨e.1, fun p hp => ⟨_, e.2 p hp⟩, HB13.out⟩
      have HPZ : Hid (∀ p ∈ ps, p.1.rg.length * 48 ≤ 140737488355328) := fun p hp => HPB.out p.1 (by rw [← HPD.out]; exact List.mem_map.2 ⟨p, hp, rfl⟩)
      have hn11 : n11 ≤ 10000000000 := by
        have e := HOD.out.1.2
        rcases e with ⟨_, h0⟩ | ⟨g, cap, cur, hv, _, _, h1, h2, _⟩
        · have := HPL.out; omega
        · have := HPL.out
          have h3 := congrArg List.length HPD.out
          unfold peersD at h3
          rw [List.length_map, List.length_map] at h3
          have := HP0.out
          omega
      have hWB : W.heap.size ≤ w10.heap.size := HB10.out.size
      clear HOD HPD HB1011 HB11 HP12 HB1112 HB12 HB13 HB1113 HB10
      go_wp2_with fail
      go_loopw [9] (fun vj wr => ∃ j : Nat, j ≤ n11 ∧ vj = .int .i64 j ∧ PwQ W w10.heap.size (.slice a11 n11 c11) ps wr) (fun vj _ => n11 - (intOf vj).toNat)
      case atStart => exact ⟨0, Nat.zero_le _, rfl, HPW.out⟩
      case round =>
        obtain ⟨j, hj, rfl, hpw⟩ := hrel
        have HPX := hide3 hpw
        clear hpw HPW
        by_cases hjl : j < n11
        · have hji : (j : Int) < (n11 : Int) := by omega
          have hjp : j < ps.length := by rw [HPL.out]; exact hjl
          obtain ⟨gd, hgd⟩ : ∃ gd, a11 = some ⟨gd, 0, none⟩ := by
            obtain ⟨h1, _⟩ := HPX.out
            obtain ⟨ga, ka, hv, _⟩ := World.ownsRow.form h1 (by omega)
            injection hv with hv1 _ _
            exact ⟨ga, hv1⟩
          subst hgd
          obtain ⟨p, hp⟩ : ∃ p, p = ps[j] := ⟨_, rfl⟩
          have HPM : Hid (p ∈ ps) := by rw [hp]; exact List.getElem_mem hjp
          obtain ⟨m, hm⟩ : ∃ m, m = p.1.rg.length := ⟨_, rfl⟩
          have hmb : m ≤ 140737488355328 := by have := HPZ.out p HPM.out; omega
          obtain ⟨xa, xc, hpv⟩ : ∃ xa xc, p.2 = .slice xa m xc := by
            obtain ⟨cs, hc⟩ := HPX.out.2.1 p HPM.out
            obtain ⟨xa, xc, e⟩ := own_len hc
            exact ⟨xa, xc, by rw [hm]; exact e⟩
          have HCC : Hid (∀ X, PwQ W w10.heap.size (.slice (some ⟨gd, 0, none⟩) n11 c11) ps X → X.cell? ⟨gd, j * 2 + 1, none⟩ = some (.slice xa m xc) ∧ ∃ cs, X.ownsRow w10.heap.size 64 6 (.slice xa m xc) m cs) := fun X hX => by
            have hr : X.ownsRow w10.heap.size 62 2 (.slice (some ⟨gd, 0, none⟩) n11 c11) n11 (dpCells ps) := by
              have q := hX.1
              rw [HPL.out] at q
              exact q
            have e := World.ownsRow.cellAt hr (j * 2 + 1) (by omega)
            rw [(dpCells_at ps j hjp).2, ← hp, hpv] at e
            refine ⟨e, ?_⟩
            obtain ⟨cs, hc⟩ := hX.2.1 p HPM.out
            rw [hpv, ← hm] at hc
            exact ⟨cs, hc⟩
          clear hp hm hpv hjp
          obtain ⟨c2, _⟩ := HCC.out _ HPX.out
          go_wp2_with fail
          clear c2
          go_loopw [10] (fun vk wq => ∃ k : Nat, k ≤ m ∧ vk = .int .i64 k ∧ PwQ W w10.heap.size (.slice (some ⟨gd, 0, none⟩) n11 c11) ps wq) (fun vk _ => m - (intOf vk).toNat)
          case atStart => exact ⟨0, Nat.zero_le _, rfl, HPX.out⟩
          case round =>
            obtain ⟨k, hk, rfl, hpw⟩ := hrel
            clear HPX
            have HPX := hide3 hpw
            clear hpw
            obtain ⟨c2, hcr0⟩ := HCC.out _ HPX.out
            by_cases hkl : k < m
            · have hki : (k : Int) < (m : Int) := by omega
              obtain ⟨cr, hcr⟩ := hcr0
              obtain ⟨gr, kr, hv, _⟩ := World.ownsRow.form hcr (by omega)
              injection hv with hv1 _ hv2
              have HFN : Hid (PwQ W w10.heap.size (.slice (some ⟨gd, 0, none⟩) n11 c11) ps ((((((wr.setCell ⟨gr, k * 6, none⟩ (.int .i64 (-1))).setCell ⟨gr, k * 6 + 1, none⟩ (.int .i64 0)).setCell ⟨gr, k * 6 + 2, none⟩ (.int .i64 0)).setCell ⟨gr, k * 6 + 3, none⟩ (.int .i64 0)).setCell ⟨gr, k * 6 + 4, none⟩ (.int .i64 0)).setCell ⟨gr, k * 6 + 5, none⟩ (.int .i64 0))) := HPX.out.over hWB (hv1 ▸ hcr)
              have hfr := fun i => World.ownsRow.frozenAt (hv1 ▸ hcr) i
              have HCX : Hid (∀ r, r < m * 6 → ∃ u, wr.cell? ⟨gr, r, none⟩ = some u) := fun r hr => by
                have e := World.ownsRow.cellAt (hv1 ▸ hcr) r hr
                have hlen := hcr.1
                exact ⟨_, e.trans (List.getElem?_eq_getElem (by omega))⟩
              obtain ⟨z0, f0⟩ := HCX.out (k * 6) (by omega)
              obtain ⟨z1, f1⟩ := HCX.out (k * 6 + 1) (by omega)
              obtain ⟨z2, f2⟩ := HCX.out (k * 6 + 2) (by omega)
              obtain ⟨z3, f3⟩ := HCX.out (k * 6 + 3) (by omega)
              obtain ⟨z4, f4⟩ := HCX.out (k * 6 + 4) (by omega)
              obtain ⟨z5, f5⟩ := HCX.out (k * 6 + 5) (by omega)
              rw [hv1] at c2
              clear hcr HCX HPX
              go_wp2_with fail
              clear c2 hfr f0 f1 f2 f3 f4 f5
              exact ⟨⟨k + 1, by omega, by go_num, HFN.out⟩, by simp [intOf]; omega⟩
            · obtain rfl : k = m := by omega
              have hki : ¬ (k : Int) < (k : Int) := by omega
              clear hcr0
              go_wp2_with fail
              exact ⟨⟨j + 1, by omega, by go_num, HPX.out⟩, by simp [intOf]; omega⟩
        · obtain rfl : j = n11 := by omega
          have hji : ¬ (j : Int) < (j : Int) := by omega
          have HBD : Hid (Below W.heap.size W wr) := HPX.out.2.2
          clear HPX HPZ HPL
          go_wp2_with fail
          go_loopw [11] (fun vt wr => ∃ t : Nat, t ≤ ms1.length ∧ vt = .int .i64 t ∧ Below W.heap.size W wr) (fun vt _ => ms1.length - (intOf vt).toNat)
          case atStart => exact ⟨0, Nat.zero_le _, rfl, HBD.out⟩
          case round =>
            obtain ⟨t, ht, rfl, hbt⟩ := hrel
            have HBT := hide3 hbt
            clear hbt HBD
            obtain ⟨qa0, qa1, qa2, qa3, qa4, qa5, qa6, qa7, qa8, qa9, qa10⟩ := HC.out _ HBT.out
            by_cases htl : t < ms1.length
            · have hti : (t : Int) < (ms1.length : Int) := by omega
              obtain ⟨g, o, hadd, au, nu, cu, f0, f1, hsp, hgo⟩ : ∃ g o, u1 = some ⟨g, o, none⟩ ∧ ∃ au nu cu, DpIn W g (o + t * 2) ms1[t] (.slice au nu cu) := by
                obtain ⟨ad', cap', hv, _, hel⟩ := HM1.out.el
                injection hv with hv1 _ _
                subst hv1
                exact hel t htl
              subst hadd
              have HDM : Hid (ms1[t] ∈ ms1) := List.getElem_mem htl
              obtain ⟨d, hd⟩ : ∃ d, d = ms1[t] := ⟨_, rfl⟩
              rw [← hd] at f0 hsp HDM
              clear hd
              have HCD : Hid (∀ X, Below W.heap.size W X → X.cell? ⟨g, o + t * 2, none⟩ = some (.string d.nm) ∧ X.cell? ⟨g, o + t * 2 + 1, none⟩ = some (.slice au nu cu)) := fun X hx => ⟨(hx.cell (p := ⟨g, o + t * 2, none⟩) hgo).trans f0, (hx.cell (p := ⟨g, o + t * 2 + 1, none⟩) hgo).trans f1⟩
              have HSD := hide3 hsp
              have hrb := HRB.out d HDM.out
              clear f0 f1 hsp hgo
              have HO : Hid (Below W.heap.size W wr.drew) := below_then HBT.out (Below.refl _ _).drew
              obtain ⟨qb0, qb1, qb2, qb3, qb4, qb5, qb6, qb7, qb8, qb9, qb10⟩ := HC.out _ HO.out
              obtain ⟨k0, k1⟩ := HCD.out _ HO.out
              obtain ⟨k2, k3⟩ := HCD.out _ HBT.out
              go_wp2_with fail
              go_region_held3 (fun w' => w'.cell? ⟨N0 + 1, 0, none⟩ = some (.slice (some ⟨g, o, none⟩) ms1.length y1) ∧ w'.cell? ⟨N0 + 1, 1, none⟩ = some (.slice u2 ms2.length y2) ∧ w'.cell? ⟨N0 + 1, 2, none⟩ = some (.slice u3 ms3.length y3) ∧ w'.cell? ⟨N0 + 1, 3, none⟩ = some (.slice ad O.length cap) ∧ w'.cell? ⟨g, o + t * 2, none⟩ = some (.string d.nm) ∧ w'.cell? ⟨g, o + t * 2 + 1, none⟩ = some (.slice au nu cu)) (go_keep) (first
                | (go_at_call 35; refine (HPR.out _ _ _ _ _ HO.out HDM.out HSD.out.1 HSD.out.2).mono ?_; rintro e w14 ⟨a14, n14, c14, rfl, ⟨hos, hn14⟩, hb14⟩; have HOS := hide3 hos; have HN14 := hide3 hn14; have HB14 := hide3 (below_then HO.out hb14); clear hos hn14 hb14; obtain ⟨qc0, qc1, qc2, qc3, qc4, qc5, qc6, qc7, qc8, qc9, qc10⟩ := HC.out _ HB14.out; obtain ⟨k4, k5⟩ := HCD.out _ HB14.out))
              clear k0 k1 k2 k3
              clear qa0 qa1 qa2 qa3 qa4 qa5 qa6 qa7 qa8 qa9 qa10
              clear qb0 qb1 qb2 qb3 qb4 qb5 qb6 qb7 qb8 qb9 qb10
              have hWw : W.heap.size ≤ wr.drew.heap.size := HO.out.size
              obtain ⟨B14, hB14⟩ : ∃ q, q = wr.drew.heap.size := ⟨_, rfl⟩
              rw [← hB14] at HOS hWw
              clear hB14 HO HBT
              have HO : Hid (Below W.heap.size W w14.drew) := below_then HB14.out (Below.refl _ _).drew
              have HO2 : Hid (OwnS w14.drew B14 (.slice a14 n14 c14) (rangeD O d)) := HOS.out.below (Below.refl _ _).drew
              have hn14 : n14 ≤ 140737488355328 := by have := HN14.out; omega
              obtain ⟨qb0, qb1, qb2, qb3, qb4, qb5, qb6, qb7, qb8, qb9, qb10⟩ := HC.out _ HO.out
              obtain ⟨k0, k1⟩ := HCD.out _ HO.out
              have HSP : Hid (∀ (w15 : World) (a1 : Option Addr) (b1 c1 : Nat), SpansC W (.slice a1 b1 c1) (rangeD O d) → Below w14.drew.heap.size w14.drew w15 → Calls Tryz.prog 36 #[.slice a14 n14 c14, .slice a1 b1 c1] w15 fun e w' => e = .returned (.bool true) ∧ Below w15.heap.size w15 w') := fun w15 a1 b1 c1 hs hb => by
                have ho := HO2.out.below hb
                have e := rSpans_any (w := w15) ho.at.1.1 (hs.below (below_then HO.out hb)).1 ho.at.2
                rw [eqB_yes rfl] at e
                exact e
              go_wp2_with fail
              go_region_held3 (fun w' => w'.cell? ⟨N0 + 1, 0, none⟩ = some (.slice (some ⟨g, o, none⟩) ms1.length y1) ∧ w'.cell? ⟨N0 + 1, 1, none⟩ = some (.slice u2 ms2.length y2) ∧ w'.cell? ⟨N0 + 1, 2, none⟩ = some (.slice u3 ms3.length y3) ∧ w'.cell? ⟨N0 + 1, 3, none⟩ = some (.slice ad O.length cap) ∧ w'.cell? ⟨g, o + t * 2, none⟩ = some (.string d.nm) ∧ w'.cell? ⟨g, o + t * 2 + 1, none⟩ = some (.slice au nu cu)) (go_keep) (first
                | (go_at_call 36; have _t := HV15; refine (HSP.out _ _ _ _ HV15.out HB1415.out).mono ?_; rintro e w16 ⟨rfl, hb16⟩; have HB1416 := hide3 (below_then HB1415.out hb16); have HB16 := hide3 (below_then HB15.out hb16); clear hb16; obtain ⟨qe0, qe1, qe2, qe3, qe4, qe5, qe6, qe7, qe8, qe9, qe10⟩ := HC.out _ HB16.out; obtain ⟨k8, k9⟩ := HCD.out _ HB16.out)
                | (go_at_call 37; refine (HDR.out _ _ _ _ _ HO.out HSD.out.1 HSD.out.2).mono ?_; rintro e w15 ⟨a1, b1, c1, rfl, hv15, hb15⟩; have HV15 := hide3 hv15; have HB1415 := hide3 hb15; have HB15 := hide3 (below_then HO.out hb15); clear hv15 hb15; obtain ⟨qd0, qd1, qd2, qd3, qd4, qd5, qd6, qd7, qd8, qd9, qd10⟩ := HC.out _ HB15.out; obtain ⟨k6, k7⟩ := HCD.out _ HB15.out))
              have HOW : Hid (∃ cs, w16.ownsRow B14 64 6 (.slice a14 n14 c14) n14 cs) := by
                have e := HO2.out.below HB1416.out
                unfold OwnS at e
                rw [← HN14.out] at e
                exact ⟨_, e⟩
              try clear qb0 qb1 qb2 qb3 qb4 qb5 qb6 qb7 qb8 qb9 qb10
              try clear qc0 qc1 qc2 qc3 qc4 qc5 qc6 qc7 qc8 qc9 qc10
              try clear qd0 qd1 qd2 qd3 qd4 qd5 qd6 qd7 qd8 qd9 qd10
              try clear qe0 qe1 qe2 qe3 qe4 qe5 qe6 qe7 qe8 qe9 qe10
              try clear k0 k1
              try clear k4 k5
              try clear k6 k7
              try clear k8 k9
              clear HO HO2 HOS HN14 HB14 HSP HB1415 HB15 HV15 HB1416 HSD HCD HDM
              go_wp2_with fail
              go_loopw [13] (fun vk wq => ∃ k : Nat, k ≤ n14 ∧ vk = .int .i64 k ∧ Below W.heap.size W wq ∧ ∃ cs, wq.ownsRow B14 64 6 (.slice a14 n14 c14) n14 cs) (fun vk _ => n14 - (intOf vk).toNat)
              case atStart => exact ⟨0, Nat.zero_le _, rfl, HB16.out, HOW.out⟩
              case round =>
                obtain ⟨k, hk, rfl, hbk, hor⟩ := hrel
                have HBK := hide3 hbk
                have HOR := hide3 hor
                clear hbk hor HB16 HOW
                by_cases hkl : k < n14
                · have hki : (k : Int) < (n14 : Int) := by omega
                  obtain ⟨cr, hcr⟩ := HOR.out
                  obtain ⟨gr, kr, hv, _⟩ := World.ownsRow.form hcr (by omega)
                  injection hv with hv1 _ hv2
                  subst hv1
                  have HFN : Hid (Below W.heap.size W ((((((wr.setCell ⟨gr, k * 6, none⟩ (.int .i64 0)).setCell ⟨gr, k * 6 + 1, none⟩ (.int .i64 0)).setCell ⟨gr, k * 6 + 2, none⟩ (.int .i64 0)).setCell ⟨gr, k * 6 + 3, none⟩ (.int .i64 0)).setCell ⟨gr, k * 6 + 4, none⟩ (.int .i64 0)).setCell ⟨gr, k * 6 + 5, none⟩ (.int .i64 0)) ∧ ∃ cs, ((((((wr.setCell ⟨gr, k * 6, none⟩ (.int .i64 0)).setCell ⟨gr, k * 6 + 1, none⟩ (.int .i64 0)).setCell ⟨gr, k * 6 + 2, none⟩ (.int .i64 0)).setCell ⟨gr, k * 6 + 3, none⟩ (.int .i64 0)).setCell ⟨gr, k * 6 + 4, none⟩ (.int .i64 0)).setCell ⟨gr, k * 6 + 5, none⟩ (.int .i64 0)).ownsRow B14 64 6 (.slice (some ⟨gr, 0, none⟩) n14 c14) n14 cs) := by
                    obtain ⟨q1, q2⟩ := zero_over (k := k) hcr
                    exact ⟨HBK.out.trans (below_grown q2 (fun g e => by cases e; exact Nat.le_trans hWw (World.ownsRow.lt hcr gr rfl).1) HBK.out.size), q1⟩
                  have hfr := fun i => World.ownsRow.frozenAt hcr i
                  have HCX : Hid (∀ r, r < n14 * 6 → ∃ u, wr.cell? ⟨gr, r, none⟩ = some u) := fun r hr => by
                    have e := World.ownsRow.cellAt hcr r hr
                    have hlen := hcr.1
                    exact ⟨_, e.trans (List.getElem?_eq_getElem (by omega))⟩
                  obtain ⟨z0, f0⟩ := HCX.out (k * 6) (by omega)
                  obtain ⟨z1, f1⟩ := HCX.out (k * 6 + 1) (by omega)
                  obtain ⟨z2, f2⟩ := HCX.out (k * 6 + 2) (by omega)
                  obtain ⟨z3, f3⟩ := HCX.out (k * 6 + 3) (by omega)
                  obtain ⟨z4, f4⟩ := HCX.out (k * 6 + 4) (by omega)
                  obtain ⟨z5, f5⟩ := HCX.out (k * 6 + 5) (by omega)
                  clear hcr HCX HOR HBK
                  go_wp2_with fail
                  clear hfr f0 f1 f2 f3 f4 f5
                  exact ⟨⟨k + 1, by omega, by go_num, HFN.out.1, HFN.out.2⟩, by simp [intOf]; omega⟩
                · obtain rfl : k = n14 := by omega
                  have hki : ¬ (k : Int) < (k : Int) := by omega
                  go_wp2_with fail
                  exact ⟨⟨t + 1, by omega, by go_num, HBK.out⟩, by simp [intOf]; omega⟩
            · obtain rfl : t = ms1.length := by omega
              have hti : ¬ (ms1.length : Int) < (ms1.length : Int) := by omega
              go_wp2_with fail
              exact ⟨⟨i + 1, by omega, by go_num, HBT.out⟩, by simp [intOf]; omega⟩
    · obtain rfl : i = 2 := by omega
      have hli : ¬ (2 : Int) < 2 := by omega
      go_wp2_with (go_at_call 38; refine (HKN.out _ HBR.out).mono ?_; rintro e w9 ⟨rfl, hb9⟩; have HB9 := hide3 hb9; clear hb9)
      go_ret
      exact ⟨rfl, below_then HBW.out (below_then HBR.out HB9.out)⟩
end Go.Proofs.YtbjbhgkbnegfgaaGreatDoor
namespace Go.Proofs.YtbjbhgkbnegfgaaGreatDoor
open Go.ChangeShapes Go.WideShapes Go.ChangeAt Go.RowKit Go.ChangeMaps
set_option maxRecDepth 100000

theorem wtl_row {W : World} (he : Env W) (hf : FL W) {P : Pg} {v1 v2 v3 u1 u2 u3 u4 : Value} {L1 L2 L3 L4 : List Dp} {n m : Nat} (hp : PgAt W P v1 v2 v3) (z1 : FitB n P.d) (z2 : FitB n P.p) (z3 : FitB n P.o) (h1 : DepsAt W u1 L1 ∧ FitB m L1) (h2 : DepsAt W u2 L2 ∧ FitB m L2) (h3 : DepsAt W u3 L3 ∧ FitB m L3) (h4 : DepsAt W u4 L4 ∧ FitB m L4) (hn : n ≤ 1048576) (hm : m ≤ 1048576) (dev : Bool) :
    Calls Tryz.prog 4 #[.agg #[.string P.nm, .int .i64 P.a, .int .i64 P.b, .int .i64 P.c, v1, v2, v3], .agg #[u1, u2, u3, u4], .bool dev] W fun e w' => e = .returned (.bool true) ∧ Below W.heap.size W w' := by
  obtain ⟨_, _, rfl, _, _⟩ := hp.1.el
  obtain ⟨_, _, rfl, _, _⟩ := hp.2.1.el
  obtain ⟨_, _, rfl, _, _⟩ := hp.2.2.el
  obtain ⟨_, _, rfl, _, _⟩ := h1.1.el
  obtain ⟨_, _, rfl, _, _⟩ := h2.1.el
  obtain ⟨_, _, rfl, _, _⟩ := h3.1.el
  have q1 := z1.1
  have q2 := z2.1
  have q3 := z3.1
  have r1 := h1.2.1
  have r2 := h2.2.1
  have r3 := h3.2.1
  have r4 := h4.2.1
  exact wantsTold_walk he hf P.nm P.a P.b P.c hp.1 hp.2.1 hp.2.2 h1.1 h2.1 h3.1 h4.1 ⟨by omega, fun d hd => by have := (h4.2.2 d hd).1; omega⟩ (fitA_of h4.2 z1 hm hn) (fitA_of h4.2 z2 hm hn) (fitA_of h4.2 z3 hm hn) (fitA_of h4.2 h1.2 hm hm) (fitA_of h4.2 h2.2 hm hm) (fitA_of h4.2 h3.2 hm hm) (by omega) (by omega) (by omega) dev
end Go.Proofs.YtbjbhgkbnegfgaaGreatDoor
