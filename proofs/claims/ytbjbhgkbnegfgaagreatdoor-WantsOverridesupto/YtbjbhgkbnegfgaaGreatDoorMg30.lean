/- Wg7, RwB, laid in one text. -/
import Derived.Test.YtbjbhgkbnegfgaaGreatDoorMg29
namespace Go.Proofs.YtbjbhgkbnegfgaaGreatDoor
open Go.RowKit Go.Maps Go.WideMaps
set_option maxRecDepth 100000

theorem nilD (w : World) : DepsAt w (.slice none 0 0) [] := ⟨none, 0, rfl, Nat.le_refl _, Or.inl rfl⟩
/-- Lists that fit, whatever overrides there are. -/
def FitA (O ds : List Dp) : Prop := FitP O ds ∧ ∀ d ∈ ds, d.rg.length * 48 ≤ 140737488355328
theorem fit_nil {O ds : List Dp} (h : FitA O ds) : FitP [] ds := ⟨h.1.1, fun d hd => ⟨(h.1.2 d hd).1, h.2 d hd⟩⟩

theorem told_base {O : List Dp} {E : List (Dp × Int)} {w : World} {B C : Nat} {v : Value} {Y : List Wt} (h : ToldW O E w B v Y) (hc : C ≤ B) : ToldW O E w C v Y := ⟨h.1.base hc, h.2⟩

set_option maxHeartbeats 25600000 in
theorem wantsOverrides_walk {w : World} (he : Env w) (hf : FL w) {O ds1 ds3 ms1 ms2 ms3 : List Dp} (nm : ByteArray) (a b c : Int) {p1 p2 p3 u1 u2 u3 : Option Addr} {r1 q2 r2 r3 y1 y2 y3 : Nat} {v4 : Value} (hd1 : DepsAt w (.slice p1 ds1.length r1) ds1) (hd3 : DepsAt w (.slice p3 ds3.length r3) ds3) (hm1 : DepsAt w (.slice u1 ms1.length y1) ms1) (hm2 : DepsAt w (.slice u2 ms2.length y2) ms2) (hm3 : DepsAt w (.slice u3 ms3.length y3) ms3) (ho : DepsAt w v4 O) (hO : O.length ≤ 100000000 ∧ ∀ d ∈ O, d.nm.size ≤ 9223372036854775807) (f1 : FitA O ds1) (f3 : FitA O ds3) (g1 : FitA O ms1) (g2 : FitA O ms2) (g3 : FitA O ms3) (hl1 : ds1.length + ds3.length ≤ 10000000) (hl2 : ms1.length + ms2.length + ms3.length ≤ 10000000) (dev : Bool) :
    Calls Tryz.prog 5 #[.agg #[.string nm, .int .i64 a, .int .i64 b, .int .i64 c, .slice p1 ds1.length r1, .slice p2 q2 r2, .slice p3 ds3.length r3], .agg #[.slice u1 ms1.length y1, .slice u2 ms2.length y2, .slice u3 ms3.length y3, v4], .bool dev] w fun e w' => e = .returned (.bool true) ∧ Below w.heap.size w w' := by
  obtain ⟨ad, cap, rfl, hcap, _⟩ := ho.el
  obtain ⟨dd, hdd⟩ : ∃ dd, dd = if dev = true then ms2 else [] := ⟨_, rfl⟩
  have hddl : dd.length ≤ ms2.length := by rw [hdd]; split <;> simp
  have HEV : Hid (Env w ∧ FL w) := ⟨he, hf⟩
  have HDD := hide3 hdd
  have HIN : Hid (DepsAt w (.slice p1 ds1.length r1) ds1 ∧ DepsAt w (.slice p3 ds3.length r3) ds3 ∧ DepsAt w (.slice u1 ms1.length y1) ms1 ∧ DepsAt w (.slice u2 ms2.length y2) ms2 ∧ DepsAt w (.slice u3 ms3.length y3) ms3 ∧ DepsAt w (.slice ad O.length cap) O) := ⟨hd1, hd3, hm1, hm2, hm3, ho⟩
  have HFO : Hid (O.length ≤ 9223372036854775807 ∧ ∀ d ∈ O, d.nm.size ≤ 9223372036854775807) := ⟨by omega, hO.2⟩
  have hOl := hO.1
  have HFA : Hid (FitA O ds1 ∧ FitA O ds3 ∧ FitA O ms1 ∧ FitA O ms2 ∧ FitA O ms3) := ⟨f1, f3, g1, g2, g3⟩
  have HL : Hid (ds1.length + ds3.length ≤ 100000000 ∧ ms1.length + ms2.length + ms3.length ≤ 100000000) := ⟨by omega, by omega⟩
  have HLE : Hid (((ofE ds1 ds3)).length ≤ 10000000 ∧ ((rootE ms1 dd ms3)).length ≤ 10000000) := by
    unfold Hid ofE rootE
    simp only [List.length_append, List.length_map]
    omega
  clear he hf hdd hd1 hd3 hm1 hm2 hm3 ho hO f1 f3 g1 g2 g3 hl1 hl2 hddl hcap
  go_enter Tryz.func5, Tryz.ntmps5
  go_upto_region 3 with fail
  have HBW : Hid (Below w.heap.size w (((w.alloc (.cells #[.string nm, .int .i64 a, .int .i64 b, .int .i64 c, .slice p1 ds1.length r1, .slice p2 q2 r2, .slice p3 ds3.length r3] 34)).alloc (.cells #[.slice u1 ms1.length y1, .slice u2 ms2.length y2, .slice u3 ms3.length y3, .slice ad O.length cap] 54)).alloc (.cells #[.slice u1 ms1.length y1, .slice u2 ms2.length y2, .slice u3 ms3.length y3, .slice none 0 0] 54))) := below_then (boxB2 _ _ _) (boxB _ _)
  have HCS : Hid ((((w.alloc (.cells #[.string nm, .int .i64 a, .int .i64 b, .int .i64 c, .slice p1 ds1.length r1, .slice p2 q2 r2, .slice p3 ds3.length r3] 34)).alloc (.cells #[.slice u1 ms1.length y1, .slice u2 ms2.length y2, .slice u3 ms3.length y3, .slice ad O.length cap] 54)).alloc (.cells #[.slice u1 ms1.length y1, .slice u2 ms2.length y2, .slice u3 ms3.length y3, .slice none 0 0] 54)).cell? ⟨w.heap.size, 0, none⟩ = some (.string nm) ∧ (((w.alloc (.cells #[.string nm, .int .i64 a, .int .i64 b, .int .i64 c, .slice p1 ds1.length r1, .slice p2 q2 r2, .slice p3 ds3.length r3] 34)).alloc (.cells #[.slice u1 ms1.length y1, .slice u2 ms2.length y2, .slice u3 ms3.length y3, .slice ad O.length cap] 54)).alloc (.cells #[.slice u1 ms1.length y1, .slice u2 ms2.length y2, .slice u3 ms3.length y3, .slice none 0 0] 54)).cell? ⟨w.heap.size, 1, none⟩ = some (.int .i64 a) ∧ (((w.alloc (.cells #[.string nm, .int .i64 a, .int .i64 b, .int .i64 c, .slice p1 ds1.length r1, .slice p2 q2 r2, .slice p3 ds3.length r3] 34)).alloc (.cells #[.slice u1 ms1.length y1, .slice u2 ms2.length y2, .slice u3 ms3.length y3, .slice ad O.length cap] 54)).alloc (.cells #[.slice u1 ms1.length y1, .slice u2 ms2.length y2, .slice u3 ms3.length y3, .slice none 0 0] 54)).cell? ⟨w.heap.size, 2, none⟩ = some (.int .i64 b) ∧ (((w.alloc (.cells #[.string nm, .int .i64 a, .int .i64 b, .int .i64 c, .slice p1 ds1.length r1, .slice p2 q2 r2, .slice p3 ds3.length r3] 34)).alloc (.cells #[.slice u1 ms1.length y1, .slice u2 ms2.length y2, .slice u3 ms3.length y3, .slice ad O.length cap] 54)).alloc (.cells #[.slice u1 ms1.length y1, .slice u2 ms2.length y2, .slice u3 ms3.length y3, .slice none 0 0] 54)).cell? ⟨w.heap.size, 3, none⟩ = some (.int .i64 c) ∧ (((w.alloc (.cells #[.string nm, .int .i64 a, .int .i64 b, .int .i64 c, .slice p1 ds1.length r1, .slice p2 q2 r2, .slice p3 ds3.length r3] 34)).alloc (.cells #[.slice u1 ms1.length y1, .slice u2 ms2.length y2, .slice u3 ms3.length y3, .slice ad O.length cap] 54)).alloc (.cells #[.slice u1 ms1.length y1, .slice u2 ms2.length y2, .slice u3 ms3.length y3, .slice none 0 0] 54)).cell? ⟨w.heap.size, 4, none⟩ = some (.slice p1 ds1.length r1) ∧ (((w.alloc (.cells #[.string nm, .int .i64 a, .int .i64 b, .int .i64 c, .slice p1 ds1.length r1, .slice p2 q2 r2, .slice p3 ds3.length r3] 34)).alloc (.cells #[.slice u1 ms1.length y1, .slice u2 ms2.length y2, .slice u3 ms3.length y3, .slice ad O.length cap] 54)).alloc (.cells #[.slice u1 ms1.length y1, .slice u2 ms2.length y2, .slice u3 ms3.length y3, .slice none 0 0] 54)).cell? ⟨w.heap.size, 5, none⟩ = some (.slice p2 q2 r2) ∧ (((w.alloc (.cells #[.string nm, .int .i64 a, .int .i64 b, .int .i64 c, .slice p1 ds1.length r1, .slice p2 q2 r2, .slice p3 ds3.length r3] 34)).alloc (.cells #[.slice u1 ms1.length y1, .slice u2 ms2.length y2, .slice u3 ms3.length y3, .slice ad O.length cap] 54)).alloc (.cells #[.slice u1 ms1.length y1, .slice u2 ms2.length y2, .slice u3 ms3.length y3, .slice none 0 0] 54)).cell? ⟨w.heap.size, 6, none⟩ = some (.slice p3 ds3.length r3) ∧ (((w.alloc (.cells #[.string nm, .int .i64 a, .int .i64 b, .int .i64 c, .slice p1 ds1.length r1, .slice p2 q2 r2, .slice p3 ds3.length r3] 34)).alloc (.cells #[.slice u1 ms1.length y1, .slice u2 ms2.length y2, .slice u3 ms3.length y3, .slice ad O.length cap] 54)).alloc (.cells #[.slice u1 ms1.length y1, .slice u2 ms2.length y2, .slice u3 ms3.length y3, .slice none 0 0] 54)).cell? ⟨w.heap.size + 1, 0, none⟩ = some (.slice u1 ms1.length y1) ∧ (((w.alloc (.cells #[.string nm, .int .i64 a, .int .i64 b, .int .i64 c, .slice p1 ds1.length r1, .slice p2 q2 r2, .slice p3 ds3.length r3] 34)).alloc (.cells #[.slice u1 ms1.length y1, .slice u2 ms2.length y2, .slice u3 ms3.length y3, .slice ad O.length cap] 54)).alloc (.cells #[.slice u1 ms1.length y1, .slice u2 ms2.length y2, .slice u3 ms3.length y3, .slice none 0 0] 54)).cell? ⟨w.heap.size + 1, 1, none⟩ = some (.slice u2 ms2.length y2) ∧ (((w.alloc (.cells #[.string nm, .int .i64 a, .int .i64 b, .int .i64 c, .slice p1 ds1.length r1, .slice p2 q2 r2, .slice p3 ds3.length r3] 34)).alloc (.cells #[.slice u1 ms1.length y1, .slice u2 ms2.length y2, .slice u3 ms3.length y3, .slice ad O.length cap] 54)).alloc (.cells #[.slice u1 ms1.length y1, .slice u2 ms2.length y2, .slice u3 ms3.length y3, .slice none 0 0] 54)).cell? ⟨w.heap.size + 1, 2, none⟩ = some (.slice u3 ms3.length y3) ∧ (((w.alloc (.cells #[.string nm, .int .i64 a, .int .i64 b, .int .i64 c, .slice p1 ds1.length r1, .slice p2 q2 r2, .slice p3 ds3.length r3] 34)).alloc (.cells #[.slice u1 ms1.length y1, .slice u2 ms2.length y2, .slice u3 ms3.length y3, .slice ad O.length cap] 54)).alloc (.cells #[.slice u1 ms1.length y1, .slice u2 ms2.length y2, .slice u3 ms3.length y3, .slice none 0 0] 54)).cell? ⟨w.heap.size + 1, 3, none⟩ = some (.slice ad O.length cap) ∧ (((w.alloc (.cells #[.string nm, .int .i64 a, .int .i64 b, .int .i64 c, .slice p1 ds1.length r1, .slice p2 q2 r2, .slice p3 ds3.length r3] 34)).alloc (.cells #[.slice u1 ms1.length y1, .slice u2 ms2.length y2, .slice u3 ms3.length y3, .slice ad O.length cap] 54)).alloc (.cells #[.slice u1 ms1.length y1, .slice u2 ms2.length y2, .slice u3 ms3.length y3, .slice none 0 0] 54)).cell? ⟨w.heap.size + 1 + 1, 0, none⟩ = some (.slice u1 ms1.length y1) ∧ (((w.alloc (.cells #[.string nm, .int .i64 a, .int .i64 b, .int .i64 c, .slice p1 ds1.length r1, .slice p2 q2 r2, .slice p3 ds3.length r3] 34)).alloc (.cells #[.slice u1 ms1.length y1, .slice u2 ms2.length y2, .slice u3 ms3.length y3, .slice ad O.length cap] 54)).alloc (.cells #[.slice u1 ms1.length y1, .slice u2 ms2.length y2, .slice u3 ms3.length y3, .slice none 0 0] 54)).cell? ⟨w.heap.size + 1 + 1, 1, none⟩ = some (.slice u2 ms2.length y2) ∧ (((w.alloc (.cells #[.string nm, .int .i64 a, .int .i64 b, .int .i64 c, .slice p1 ds1.length r1, .slice p2 q2 r2, .slice p3 ds3.length r3] 34)).alloc (.cells #[.slice u1 ms1.length y1, .slice u2 ms2.length y2, .slice u3 ms3.length y3, .slice ad O.length cap] 54)).alloc (.cells #[.slice u1 ms1.length y1, .slice u2 ms2.length y2, .slice u3 ms3.length y3, .slice none 0 0] 54)).cell? ⟨w.heap.size + 1 + 1, 2, none⟩ = some (.slice u3 ms3.length y3) ∧ (((w.alloc (.cells #[.string nm, .int .i64 a, .int .i64 b, .int .i64 c, .slice p1 ds1.length r1, .slice p2 q2 r2, .slice p3 ds3.length r3] 34)).alloc (.cells #[.slice u1 ms1.length y1, .slice u2 ms2.length y2, .slice u3 ms3.length y3, .slice ad O.length cap] 54)).alloc (.cells #[.slice u1 ms1.length y1, .slice u2 ms2.length y2, .slice u3 ms3.length y3, .slice none 0 0] 54)).cell? ⟨w.heap.size + 1 + 1, 3, none⟩ = some (.slice none 0 0)) := by
    exact ⟨((boxB2 (w.alloc (.cells #[.string nm, .int .i64 a, .int .i64 b, .int .i64 c, .slice p1 ds1.length r1, .slice p2 q2 r2, .slice p3 ds3.length r3] 34)) _ _).cell (p := ⟨w.heap.size, 0, none⟩) (by simp)).trans (new_cell rfl rfl).1, ((boxB2 (w.alloc (.cells #[.string nm, .int .i64 a, .int .i64 b, .int .i64 c, .slice p1 ds1.length r1, .slice p2 q2 r2, .slice p3 ds3.length r3] 34)) _ _).cell (p := ⟨w.heap.size, 1, none⟩) (by simp)).trans (new_cell rfl rfl).1, ((boxB2 (w.alloc (.cells #[.string nm, .int .i64 a, .int .i64 b, .int .i64 c, .slice p1 ds1.length r1, .slice p2 q2 r2, .slice p3 ds3.length r3] 34)) _ _).cell (p := ⟨w.heap.size, 2, none⟩) (by simp)).trans (new_cell rfl rfl).1, ((boxB2 (w.alloc (.cells #[.string nm, .int .i64 a, .int .i64 b, .int .i64 c, .slice p1 ds1.length r1, .slice p2 q2 r2, .slice p3 ds3.length r3] 34)) _ _).cell (p := ⟨w.heap.size, 3, none⟩) (by simp)).trans (new_cell rfl rfl).1, ((boxB2 (w.alloc (.cells #[.string nm, .int .i64 a, .int .i64 b, .int .i64 c, .slice p1 ds1.length r1, .slice p2 q2 r2, .slice p3 ds3.length r3] 34)) _ _).cell (p := ⟨w.heap.size, 4, none⟩) (by simp)).trans (new_cell rfl rfl).1, ((boxB2 (w.alloc (.cells #[.string nm, .int .i64 a, .int .i64 b, .int .i64 c, .slice p1 ds1.length r1, .slice p2 q2 r2, .slice p3 ds3.length r3] 34)) _ _).cell (p := ⟨w.heap.size, 5, none⟩) (by simp)).trans (new_cell rfl rfl).1, ((boxB2 (w.alloc (.cells #[.string nm, .int .i64 a, .int .i64 b, .int .i64 c, .slice p1 ds1.length r1, .slice p2 q2 r2, .slice p3 ds3.length r3] 34)) _ _).cell (p := ⟨w.heap.size, 6, none⟩) (by simp)).trans (new_cell rfl rfl).1, ((boxB ((w.alloc (.cells #[.string nm, .int .i64 a, .int .i64 b, .int .i64 c, .slice p1 ds1.length r1, .slice p2 q2 r2, .slice p3 ds3.length r3] 34)).alloc (.cells #[.slice u1 ms1.length y1, .slice u2 ms2.length y2, .slice u3 ms3.length y3, .slice ad O.length cap] 54)) _).cell (p := ⟨w.heap.size + 1, 0, none⟩) (by simp)).trans (new_cell (W := w.alloc (.cells #[.string nm, .int .i64 a, .int .i64 b, .int .i64 c, .slice p1 ds1.length r1, .slice p2 q2 r2, .slice p3 ds3.length r3] 34)) (by simp) rfl).1, ((boxB ((w.alloc (.cells #[.string nm, .int .i64 a, .int .i64 b, .int .i64 c, .slice p1 ds1.length r1, .slice p2 q2 r2, .slice p3 ds3.length r3] 34)).alloc (.cells #[.slice u1 ms1.length y1, .slice u2 ms2.length y2, .slice u3 ms3.length y3, .slice ad O.length cap] 54)) _).cell (p := ⟨w.heap.size + 1, 1, none⟩) (by simp)).trans (new_cell (W := w.alloc (.cells #[.string nm, .int .i64 a, .int .i64 b, .int .i64 c, .slice p1 ds1.length r1, .slice p2 q2 r2, .slice p3 ds3.length r3] 34)) (by simp) rfl).1, ((boxB ((w.alloc (.cells #[.string nm, .int .i64 a, .int .i64 b, .int .i64 c, .slice p1 ds1.length r1, .slice p2 q2 r2, .slice p3 ds3.length r3] 34)).alloc (.cells #[.slice u1 ms1.length y1, .slice u2 ms2.length y2, .slice u3 ms3.length y3, .slice ad O.length cap] 54)) _).cell (p := ⟨w.heap.size + 1, 2, none⟩) (by simp)).trans (new_cell (W := w.alloc (.cells #[.string nm, .int .i64 a, .int .i64 b, .int .i64 c, .slice p1 ds1.length r1, .slice p2 q2 r2, .slice p3 ds3.length r3] 34)) (by simp) rfl).1, ((boxB ((w.alloc (.cells #[.string nm, .int .i64 a, .int .i64 b, .int .i64 c, .slice p1 ds1.length r1, .slice p2 q2 r2, .slice p3 ds3.length r3] 34)).alloc (.cells #[.slice u1 ms1.length y1, .slice u2 ms2.length y2, .slice u3 ms3.length y3, .slice ad O.length cap] 54)) _).cell (p := ⟨w.heap.size + 1, 3, none⟩) (by simp)).trans (new_cell (W := w.alloc (.cells #[.string nm, .int .i64 a, .int .i64 b, .int .i64 c, .slice p1 ds1.length r1, .slice p2 q2 r2, .slice p3 ds3.length r3] 34)) (by simp) rfl).1, (new_cell (W := ((w.alloc (.cells #[.string nm, .int .i64 a, .int .i64 b, .int .i64 c, .slice p1 ds1.length r1, .slice p2 q2 r2, .slice p3 ds3.length r3] 34)).alloc (.cells #[.slice u1 ms1.length y1, .slice u2 ms2.length y2, .slice u3 ms3.length y3, .slice ad O.length cap] 54))) (by simp) rfl).1, (new_cell (W := ((w.alloc (.cells #[.string nm, .int .i64 a, .int .i64 b, .int .i64 c, .slice p1 ds1.length r1, .slice p2 q2 r2, .slice p3 ds3.length r3] 34)).alloc (.cells #[.slice u1 ms1.length y1, .slice u2 ms2.length y2, .slice u3 ms3.length y3, .slice ad O.length cap] 54))) (by simp) rfl).1, (new_cell (W := ((w.alloc (.cells #[.string nm, .int .i64 a, .int .i64 b, .int .i64 c, .slice p1 ds1.length r1, .slice p2 q2 r2, .slice p3 ds3.length r3] 34)).alloc (.cells #[.slice u1 ms1.length y1, .slice u2 ms2.length y2, .slice u3 ms3.length y3, .slice ad O.length cap] 54))) (by simp) rfl).1, (new_cell (W := ((w.alloc (.cells #[.string nm, .int .i64 a, .int .i64 b, .int .i64 c, .slice p1 ds1.length r1, .slice p2 q2 r2, .slice p3 ds3.length r3] 34)).alloc (.cells #[.slice u1 ms1.length y1, .slice u2 ms2.length y2, .slice u3 ms3.length y3, .slice ad O.length cap] 54))) (by simp) rfl).1⟩
  have hN2 : w.heap.size + 1 + 1 < (((w.alloc (.cells #[.string nm, .int .i64 a, .int .i64 b, .int .i64 c, .slice p1 ds1.length r1, .slice p2 q2 r2, .slice p3 ds3.length r3] 34)).alloc (.cells #[.slice u1 ms1.length y1, .slice u2 ms2.length y2, .slice u3 ms3.length y3, .slice ad O.length cap] 54)).alloc (.cells #[.slice u1 ms1.length y1, .slice u2 ms2.length y2, .slice u3 ms3.length y3, .slice none 0 0] 54)).heap.size := by simp
  obtain ⟨N0, hN0⟩ : ∃ k, k = w.heap.size := ⟨_, rfl⟩
  rw [← hN0] at HCS hN2
  rw [← hN0]
  generalize (((w.alloc (.cells #[.string nm, .int .i64 a, .int .i64 b, .int .i64 c, .slice p1 ds1.length r1, .slice p2 q2 r2, .slice p3 ds3.length r3] 34)).alloc (.cells #[.slice u1 ms1.length y1, .slice u2 ms2.length y2, .slice u3 ms3.length y3, .slice ad O.length cap] 54)).alloc (.cells #[.slice u1 ms1.length y1, .slice u2 ms2.length y2, .slice u3 ms3.length y3, .slice none 0 0] 54)) = W at *
  have HC : Hid (∀ X, Below W.heap.size W X → X.cell? ⟨N0, 0, none⟩ = some (.string nm) ∧ X.cell? ⟨N0, 1, none⟩ = some (.int .i64 a) ∧ X.cell? ⟨N0, 2, none⟩ = some (.int .i64 b) ∧ X.cell? ⟨N0, 3, none⟩ = some (.int .i64 c) ∧ X.cell? ⟨N0, 4, none⟩ = some (.slice p1 ds1.length r1) ∧ X.cell? ⟨N0, 5, none⟩ = some (.slice p2 q2 r2) ∧ X.cell? ⟨N0, 6, none⟩ = some (.slice p3 ds3.length r3) ∧ X.cell? ⟨N0 + 1, 0, none⟩ = some (.slice u1 ms1.length y1) ∧ X.cell? ⟨N0 + 1, 1, none⟩ = some (.slice u2 ms2.length y2) ∧ X.cell? ⟨N0 + 1, 2, none⟩ = some (.slice u3 ms3.length y3) ∧ X.cell? ⟨N0 + 1, 3, none⟩ = some (.slice ad O.length cap) ∧ X.cell? ⟨N0 + 1 + 1, 0, none⟩ = some (.slice u1 ms1.length y1) ∧ X.cell? ⟨N0 + 1 + 1, 1, none⟩ = some (.slice u2 ms2.length y2) ∧ X.cell? ⟨N0 + 1 + 1, 2, none⟩ = some (.slice u3 ms3.length y3) ∧ X.cell? ⟨N0 + 1 + 1, 3, none⟩ = some (.slice none 0 0)) := fun X hx => by
    obtain ⟨qa0, qa1, qa2, qa3, qa4, qa5, qa6, qa7, qa8, qa9, qa10, qa11, qa12, qa13, qa14⟩ := HCS.out
    exact ⟨(hx.cell (p := ⟨N0, 0, none⟩) (by simp only; omega)).trans qa0, (hx.cell (p := ⟨N0, 1, none⟩) (by simp only; omega)).trans qa1, (hx.cell (p := ⟨N0, 2, none⟩) (by simp only; omega)).trans qa2, (hx.cell (p := ⟨N0, 3, none⟩) (by simp only; omega)).trans qa3, (hx.cell (p := ⟨N0, 4, none⟩) (by simp only; omega)).trans qa4, (hx.cell (p := ⟨N0, 5, none⟩) (by simp only; omega)).trans qa5, (hx.cell (p := ⟨N0, 6, none⟩) (by simp only; omega)).trans qa6, (hx.cell (p := ⟨N0 + 1, 0, none⟩) (by simp only; omega)).trans qa7, (hx.cell (p := ⟨N0 + 1, 1, none⟩) (by simp only; omega)).trans qa8, (hx.cell (p := ⟨N0 + 1, 2, none⟩) (by simp only; omega)).trans qa9, (hx.cell (p := ⟨N0 + 1, 3, none⟩) (by simp only; omega)).trans qa10, (hx.cell (p := ⟨N0 + 1 + 1, 0, none⟩) (by simp only; omega)).trans qa11, (hx.cell (p := ⟨N0 + 1 + 1, 1, none⟩) (by simp only; omega)).trans qa12, (hx.cell (p := ⟨N0 + 1 + 1, 2, none⟩) (by simp only; omega)).trans qa13, (hx.cell (p := ⟨N0 + 1 + 1, 3, none⟩) (by simp only; omega)).trans qa14⟩
  obtain ⟨qa0, qa1, qa2, qa3, qa4, qa5, qa6, qa7, qa8, qa9, qa10, qa11, qa12, qa13, qa14⟩ := HCS.out
  have HDO : Hid (DepsAt W (.slice ad O.length cap) O) := HIN.out.2.2.2.2.2.below HBW.out
  have HD1 : Hid (DepsAt W (.slice p1 ds1.length r1) ds1) := HIN.out.1.below HBW.out
  have HD3 : Hid (DepsAt W (.slice p3 ds3.length r3) ds3) := HIN.out.2.1.below HBW.out
  have HM1 : Hid (DepsAt W (.slice u1 ms1.length y1) ms1) := HIN.out.2.2.1.below HBW.out
  have HM2 : Hid (DepsAt W (.slice u2 ms2.length y2) ms2) := HIN.out.2.2.2.1.below HBW.out
  have HM3 : Hid (DepsAt W (.slice u3 ms3.length y3) ms3) := HIN.out.2.2.2.2.1.below HBW.out
  have HKN : Hid (∀ X, Below W.heap.size W X → Calls Tryz.prog 38 #[] X fun e w' => e = .returned (.bool true) ∧ Below X.heap.size X w') := fun X hb => known_wa ((HEV.out.1.below HBW.out).below hb) ((HEV.out.2.below HBW.out).below hb)
  have HOF : Hid (∀ X, Below W.heap.size W X → Calls Tryz.prog 28 #[.agg #[.string nm, .int .i64 a, .int .i64 b, .int .i64 c, .slice p1 ds1.length r1, .slice p2 q2 r2, .slice p3 ds3.length r3], .agg #[.slice u1 ms1.length y1, .slice u2 ms2.length y2, .slice u3 ms3.length y3, .slice ad O.length cap]] X fun e w' => ∃ a7 n7 c7, e = .returned (.slice a7 n7 c7) ∧ (∃ Y, ToldW O (ofE ds1 ds3) w' X.heap.size (.slice a7 n7 c7) Y ∧ Y.length = n7 ∧ n7 ≤ 10000000) ∧ Below X.heap.size X w') := fun X hx => (of_any (HDO.out.below hx) HFO.out.1 HFO.out.2 nm a b c (HD1.out.below hx) (HD3.out.below hx) HFA.out.1.1 HFA.out.2.1.1 HL.out.1).mono fun e w' hq => by
    obtain ⟨v, h1, Y, h2, h3⟩ := hq
    obtain ⟨a7, c7, rfl⟩ := h2.row.len
    exact ⟨a7, _, c7, h1, ⟨Y, h2, rfl, by have e := h2.2.2.1.length_eq; rw [List.length_map, List.length_range] at e; rw [e]; exact HLE.out.1⟩, h3⟩
  have HOB : Hid (∀ X, Below W.heap.size W X → Calls Tryz.prog 28 #[.agg #[.string nm, .int .i64 a, .int .i64 b, .int .i64 c, .slice p1 ds1.length r1, .slice p2 q2 r2, .slice p3 ds3.length r3], .agg #[.slice u1 ms1.length y1, .slice u2 ms2.length y2, .slice u3 ms3.length y3, .slice none 0 0]] X fun e w' => ∃ a7 n7 c7, e = .returned (.slice a7 n7 c7) ∧ (∃ Y, ToldW [] (ofE ds1 ds3) w' X.heap.size (.slice a7 n7 c7) Y ∧ Y.length = n7 ∧ n7 ≤ 10000000) ∧ Below X.heap.size X w') := fun X hx => (of_any (nilD X) (Nat.zero_le _) (fun d hd => by cases hd) nm a b c (HD1.out.below hx) (HD3.out.below hx) (fit_nil HFA.out.1) (fit_nil HFA.out.2.1) HL.out.1).mono fun e w' hq => by
    obtain ⟨v, h1, Y, h2, h3⟩ := hq
    obtain ⟨a7, c7, rfl⟩ := h2.row.len
    exact ⟨a7, _, c7, h1, ⟨Y, h2, rfl, by have e := h2.2.2.1.length_eq; rw [List.length_map, List.length_range] at e; rw [e]; exact HLE.out.1⟩, h3⟩
  have HRM : Hid (∀ X, Below W.heap.size W X → Calls Tryz.prog 30 #[.agg #[.slice u1 ms1.length y1, .slice u2 ms2.length y2, .slice u3 ms3.length y3, .slice ad O.length cap], .bool dev] X fun e w' => ∃ a7 n7 c7, e = .returned (.slice a7 n7 c7) ∧ (∃ Y, ToldW O (rootE ms1 dd ms3) w' X.heap.size (.slice a7 n7 c7) Y ∧ Y.length = n7 ∧ n7 ≤ 10000000) ∧ Below X.heap.size X w') := fun X hx => (ofRoot_any (HDO.out.below hx) HFO.out.1 HFO.out.2 (HM1.out.below hx) (HM2.out.below hx) (HM3.out.below hx) HFA.out.2.2.1.1 HFA.out.2.2.2.1.1 HFA.out.2.2.2.2.1 HL.out.2 dev HDD.out).mono fun e w' hq => by
    obtain ⟨v, h1, Y, h2, h3⟩ := hq
    obtain ⟨a7, c7, rfl⟩ := h2.row.len
    exact ⟨a7, _, c7, h1, ⟨Y, h2, rfl, by have e := h2.2.2.1.length_eq; rw [List.length_map, List.length_range] at e; rw [e]; exact HLE.out.2⟩, h3⟩
  have HRB : Hid (∀ X, Below W.heap.size W X → Calls Tryz.prog 30 #[.agg #[.slice u1 ms1.length y1, .slice u2 ms2.length y2, .slice u3 ms3.length y3, .slice none 0 0], .bool dev] X fun e w' => ∃ a7 n7 c7, e = .returned (.slice a7 n7 c7) ∧ (∃ Y, ToldW [] (rootE ms1 dd ms3) w' X.heap.size (.slice a7 n7 c7) Y ∧ Y.length = n7 ∧ n7 ≤ 10000000) ∧ Below X.heap.size X w') := fun X hx => (ofRoot_any (nilD X) (Nat.zero_le _) (fun d hd => by cases hd) (HM1.out.below hx) (HM2.out.below hx) (HM3.out.below hx) (fit_nil HFA.out.2.2.1) (fit_nil HFA.out.2.2.2.1) (fit_nil HFA.out.2.2.2.2) HL.out.2 dev HDD.out).mono fun e w' hq => by
    obtain ⟨v, h1, Y, h2, h3⟩ := hq
    obtain ⟨a7, c7, rfl⟩ := h2.row.len
    exact ⟨a7, _, c7, h1, ⟨Y, h2, rfl, by have e := h2.2.2.1.length_eq; rw [List.length_map, List.length_range] at e; rw [e]; exact HLE.out.2⟩, h3⟩
  clear HIN HFA HCS hN0 HEV HDD HL HLE HD1 HD3 HM1 HM2 HM3 HFO
  go_upto_region 5 with (go_at_call 38; refine (HKN.out _ (Below.refl _ _)).mono ?_; rintro e w4 ⟨rfl, hb4⟩; have HB4 := hide3 hb4; clear hb4; obtain ⟨qb0, qb1, qb2, qb3, qb4, qb5, qb6, qb7, qb8, qb9, qb10, qb11, qb12, qb13, qb14⟩ := HC.out _ HB4.out)
  clear qa0 qa1 qa2 qa3 qa4 qa5 qa6 qa7 qa8 qa9 qa10 qa11 qa12 qa13 qa14
  go_upto_region 6 with (go_at_call 28; have _t := HB4; refine (HOF.out _ HB4.out).mono ?_; rintro e w5 ⟨a5, n5, c5, rfl, ⟨Y1, ht5, hl5, hm5⟩, hb5⟩; have HT5 := hide3 ht5; have HB5 := hide3 (below_then HB4.out hb5); have HN5 := hide3 hl5; clear ht5 hb5 hl5; obtain ⟨qc0, qc1, qc2, qc3, qc4, qc5, qc6, qc7, qc8, qc9, qc10, qc11, qc12, qc13, qc14⟩ := HC.out _ HB5.out)
  clear qb0 qb1 qb2 qb3 qb4 qb5 qb6 qb7 qb8 qb9 qb10 qb11 qb12 qb13 qb14
  go_upto_region 7 with (go_at_call 28; have _t := HT5; refine (HOB.out _ HB5.out).mono ?_; rintro e w6 ⟨a6, n6, c6, rfl, ⟨Z1, ht6, hl6, hm6⟩, hb6⟩; have HT6 := hide3 ht6; have HB56 := hide3 hb6; have HB6 := hide3 (below_then HB5.out hb6); have HN6 := hide3 hl6; clear ht6 hb6 hl6; obtain ⟨qd0, qd1, qd2, qd3, qd4, qd5, qd6, qd7, qd8, qd9, qd10, qd11, qd12, qd13, qd14⟩ := HC.out _ HB6.out)
  clear qc0 qc1 qc2 qc3 qc4 qc5 qc6 qc7 qc8 qc9 qc10 qc11 qc12 qc13 qc14
  go_upto_region 8 with (first
    | (at_builtin; have _t := HT7; refine wp_ownR (B := W.heap.size) (wx := w7) (v := .slice a5 n5 c5) (x := .slice a7 n7 c7) infoW Tryz.underlying56 rfl (by decide) (by decide) rfl (.tmp 23) (.tmp 26) rfl rfl HR5.out HB7.out.size rfl HR7.out (encW_one _) (by omega) ?_; intro v8 w8 ho hgr hat; have HMID := hide3 (HMI.out _ _ ho hgr hat); have HB8 := hide3 (HGA.out _ hgr); clear ho hgr hat; obtain ⟨a8, c8, hv8⟩ := HMID.out.1.1.len; obtain ⟨m8, hm8⟩ : ∃ q, q = (Y1 ++ Y2).length := ⟨_, rfl⟩; rw [← hm8] at hv8; subst hv8; have HM8 := hide3 hm8; clear hm8; obtain ⟨qf0, qf1, qf2, qf3, qf4, qf5, qf6, qf7, qf8, qf9, qf10, qf11, qf12, qf13, qf14⟩ := HC.out _ HB8.out)
    | (go_at_call 30; have _t := HT6; refine (HRM.out _ HB6.out).mono ?_; rintro e w7 ⟨a7, n7, c7, rfl, ⟨Y2, ht7, hl7, hm7⟩, hb7⟩; have HT7 := hide3 ht7; have HB7 := hide3 (below_then HB6.out hb7); have HR7 : Hid (w7.ownsRow w6.heap.size 69 3 (.slice a7 n7 c7) n7 (Y2.flatMap encW)) := hl7 ▸ ht7.row; have HR5 : Hid (w7.ownsRow W.heap.size 69 3 (.slice a5 n5 c5) n5 (Y1.flatMap encW)) := (by have e := ((HT5.out.row.below HB56.out).below hb7).base HB4.out.size; unfold RowO at e; rw [HN5.out] at e; exact e); have HMI : Hid (∀ v8 w8, w8.ownsRow W.heap.size 69 3 v8 (n5 + n7) (Y1.flatMap encW ++ Y2.flatMap encW) → w7.grownBy w8 (Value.slice a5 n5 c5).ownBlock → (v8.ownBlock = (Value.slice a5 n5 c5).ownBlock ∨ v8.ownBlock = some w7.heap.size) → MidW O (ofE ds1 ds3) (rootE ms1 dd ms3) w8 W.heap.size v8 (.slice a6 n6 c6) Y1 Y2 Z1) := (fun v8 w8 ho hgr hat => mid_of HB5.out.size (told_base HT5.out HB4.out.size) HB56.out HT6.out hb7 ht7 (by rw [HN5.out, hl7]; exact ho) hgr hat); have HGA : Hid (∀ w8, w7.grownBy w8 (Value.slice a5 n5 c5).ownBlock → Below W.heap.size W w8) := (fun w8 hgr => HB7.out.trans (below_grown hgr (fun g e => (World.ownsRow.lt HR5.out g e).1) HB7.out.size)); have HN7 := hide3 hl7; clear ht7 hb7 hl7; obtain ⟨qe0, qe1, qe2, qe3, qe4, qe5, qe6, qe7, qe8, qe9, qe10, qe11, qe12, qe13, qe14⟩ := HC.out _ HB7.out))
  clear qd0 qd1 qd2 qd3 qd4 qd5 qd6 qd7 qd8 qd9 qd10 qd11 qd12 qd13 qd14
  go_upto_region 9 with (first
    | (at_builtin; have _t := HT9; refine wp_ownR (B := W.heap.size) (wx := w9) (v := .slice a6 n6 c6) (x := .slice a9 n9 c9) infoW Tryz.underlying56 rfl (by decide) (by decide) rfl (.tmp 28) (.tmp 31) rfl rfl HR6.out HB9.out.size rfl HR9.out (encW_one _) (by omega) ?_; intro v10 w10 ho hgr hat; have HFN := hide3 (HFI.out _ _ ho hgr); have HB10 := hide3 (HGB.out _ hgr); clear ho hgr hat; obtain ⟨a10, c10, hv10⟩ := HFN.out.1.2.len; obtain ⟨m10, hm10⟩ : ∃ q, q = (Z1 ++ Z2).length := ⟨_, rfl⟩; rw [← hm10] at hv10; subst hv10; have HM10 := hide3 hm10; clear hm10)
    | (go_at_call 30; have _t := HMID; refine (HRB.out _ HB8.out).mono ?_; rintro e w9 ⟨a9, n9, c9, rfl, ⟨Z2, ht9, hl9, hm9⟩, hb9⟩; have HT9 := hide3 ht9; have HB9 := hide3 (below_then HB8.out hb9); have HR9 : Hid (w9.ownsRow w8.heap.size 69 3 (.slice a9 n9 c9) n9 (Z2.flatMap encW)) := hl9 ▸ ht9.row; have HR6 : Hid (w9.ownsRow W.heap.size 69 3 (.slice a6 n6 c6) n6 (Z1.flatMap encW)) := (by have e := (HMID.out.1.2.1).below hb9; unfold RowO at e; rw [HN6.out] at e; exact e); have HFI : Hid (∀ v10 w10, w10.ownsRow W.heap.size 69 3 v10 (n6 + n9) (Z1.flatMap encW ++ Z2.flatMap encW) → w9.grownBy w10 (Value.slice a6 n6 c6).ownBlock → FinW O w10 W.heap.size _ v10 (Y1 ++ Y2) (Z1 ++ Z2)) := (fun v10 w10 ho hgr => fin_of HMID.out HB8.out.size hb9 ht9 (by rw [HN6.out, hl9]; exact ho) hgr); have HGB : Hid (∀ w10, w9.grownBy w10 (Value.slice a6 n6 c6).ownBlock → Below W.heap.size W w10) := (fun w10 hgr => HB9.out.trans (below_grown hgr (fun g e => (World.ownsRow.lt HR6.out g e).1) HB9.out.size)); have HN9 := hide3 hl9; clear ht9 hb9 hl9))
  clear qe0 qe1 qe2 qe3 qe4 qe5 qe6 qe7 qe8 qe9 qe10 qe11 qe12 qe13 qe14
  clear qf0 qf1 qf2 qf3 qf4 qf5 qf6 qf7 qf8 qf9 qf10 qf11 qf12 qf13 qf14
  have HNB : Hid ((Y1 ++ Y2).length ≤ 20000000) := by
    unfold Hid
    rw [List.length_append, HN5.out, HN7.out]
    omega
  clear HT5 HB5 HN5 HT6 HB56 HB6 HN6 HT7 HB7 HR7 HR5 HMI HGA HN7 HMID HB8 HT9 HB9 HR9 HR6 HFI HGB HN9 HKN HOF HOB HRM HRB HB4 hm5 hm6 hm7 hm9
  obtain ⟨A, hA⟩ : ∃ A, A = Y1 ++ Y2 := ⟨_, rfl⟩
  obtain ⟨Z, hZ⟩ : ∃ Z, Z = Z1 ++ Z2 := ⟨_, rfl⟩
  rw [← hA, ← hZ] at HFN
  rw [← hA] at HNB HM8
  rw [← hZ] at HM10
  clear hA hZ
  obtain ⟨m, hm⟩ : ∃ m, m = m8 := ⟨_, rfl⟩
  have hzm : m10 = m := by rw [HM10.out, hm, HM8.out]; exact HFN.out.2.1.symm
  rw [hzm, ← hm] at HFN
  rw [← HM8.out, ← hm] at HNB
  rw [hzm, ← hm]
  have hmb : m ≤ 20000000 := HNB.out
  have HML : Hid (A.length = m ∧ Z.length = m) := ⟨(hm.trans HM8.out).symm, (hzm.symm.trans HM10.out).symm⟩
  clear hm hzm HNB HM8 HM10
  go_wp2_with fail
  go_loopw [10] (fun vi wr => ∃ i : Nat, i ≤ m ∧ vi = .int .i64 i ∧ Below W.heap.size W wr ∧ FinW O wr W.heap.size (.slice a8 m c8) (.slice a10 m c10) A Z) (fun vi _ => m - (intOf vi).toNat)
  case atStart => exact ⟨0, Nat.zero_le _, rfl, HB10.out, HFN.out⟩
  case round =>
    obtain ⟨i, hi, rfl, hbr, hfr⟩ := hrel
    have HBR := hide3 hbr
    have HFR := hide3 hfr
    clear hbr hfr HFN HB10
    by_cases hlt : i < m
    · have hli : (i : Int) < (m : Int) := by omega
      obtain ⟨x, hx⟩ : ∃ x, A[i]? = some x := ⟨_, List.getElem?_eq_getElem (by rw [HML.out.1]; exact hlt)⟩
      obtain ⟨y, hy⟩ : ∃ y, Z[i]? = some y := ⟨_, List.getElem?_eq_getElem (by rw [HML.out.2]; exact hlt)⟩
      obtain ⟨d, hd1, hd2, hd3, hd4, hd5⟩ := HFR.out.2.2 i x y hx hy
      obtain ⟨ga, ka, hga, HRA⟩ : ∃ ga ka, Value.slice a8 m c8 = .slice (some ⟨ga, 0, none⟩) m ka ∧ Hid (RowW wr W.heap.size ga m ka A) := by
        have e := HFR.out.1.1
        unfold RowO at e
        rw [HML.out.1] at e
        obtain ⟨ga, ka, hv, _⟩ := World.ownsRow.form e (by omega)
        exact ⟨ga, ka, hv, HML.out.1, hv ▸ e⟩
      obtain ⟨gb, kb, hgb, HRB⟩ : ∃ gb kb, Value.slice a10 m c10 = .slice (some ⟨gb, 0, none⟩) m kb ∧ Hid (RowW wr W.heap.size gb m kb Z) := by
        have e := HFR.out.1.2
        unfold RowO at e
        rw [HML.out.2] at e
        obtain ⟨gb, kb, hv, _⟩ := World.ownsRow.form e (by omega)
        exact ⟨gb, kb, hv, HML.out.2, hv ▸ e⟩
      injection hga with hga1 _ hga2
      injection hgb with hgb1 _ hgb2
      subst hga1 hga2 hgb1 hgb2
      obtain ⟨c0, c1, c2⟩ := HRA.out.cells hx
      obtain ⟨e0, e1, e2⟩ := HRB.out.cells hy
      rw [hd1] at c0
      rw [hd2] at e0
      rw [← hd3] at e1
      have hgla := HRA.out.lt.2
      have hglb := HRB.out.lt.2
      have HSA := hide3 hd4
      have HSB := hide3 hd5
      obtain ⟨qa0, qa1, qa2, qa3, qa4, qa5, qa6, qa7, qa8, qa9, qa10, qa11, qa12, qa13, qa14⟩ := HC.out _ HBR.out
      have hN1 : N0 + 1 < wr.heap.size := by have := HBR.out.size; omega
      have HK : Hid (KeepP fun w1 => (Below W.heap.size W w1 ∧ FinW O w1 W.heap.size (.slice (some ⟨ga, 0, none⟩) m c8) (.slice (some ⟨gb, 0, none⟩) m c10) A Z) ∧ (OwnS w1 W.heap.size x.rs (rangeD O d) ∧ OwnS w1 W.heap.size y.rs d.rg) ∧ Sc.CellK w1 ga (i * 3) (.string d.nm) ∧ Sc.CellK w1 ga (i * 3 + 1) (.int .i64 x.kd) ∧ Sc.CellK w1 ga (i * 3 + 2) (.slice x.ad x.ln x.cp) ∧ Sc.CellK w1 gb (i * 3) (.string d.nm) ∧ Sc.CellK w1 gb (i * 3 + 1) (.int .i64 x.kd) ∧ Sc.CellK w1 gb (i * 3 + 2) (.slice y.ad y.ln y.cp) ∧ Sc.CellK w1 (N0 + 1) 3 (.slice ad O.length cap)) := KeepP.and (fun p q h hpq => ⟨below_then h.1 hpq, h.2.below hpq⟩) (KeepP.and (fun p q h hpq => ⟨h.1.below hpq, h.2.below hpq⟩) (KeepP.and (keepCk _ _ _) (KeepP.and (keepCk _ _ _) (KeepP.and (keepCk _ _ _) (KeepP.and (keepCk _ _ _) (KeepP.and (keepCk _ _ _) (KeepP.and (keepCk _ _ _) (keepCk _ _ _))))))))
      have HO : Hid ((Below W.heap.size W wr ∧ FinW O wr W.heap.size (.slice (some ⟨ga, 0, none⟩) m c8) (.slice (some ⟨gb, 0, none⟩) m c10) A Z) ∧ (OwnS wr W.heap.size x.rs (rangeD O d) ∧ OwnS wr W.heap.size y.rs d.rg) ∧ Sc.CellK wr ga (i * 3) (.string d.nm) ∧ Sc.CellK wr ga (i * 3 + 1) (.int .i64 x.kd) ∧ Sc.CellK wr ga (i * 3 + 2) (.slice x.ad x.ln x.cp) ∧ Sc.CellK wr gb (i * 3) (.string d.nm) ∧ Sc.CellK wr gb (i * 3 + 1) (.int .i64 x.kd) ∧ Sc.CellK wr gb (i * 3 + 2) (.slice y.ad y.ln y.cp) ∧ Sc.CellK wr (N0 + 1) 3 (.slice ad O.length cap)) := ⟨⟨HBR.out, HFR.out⟩, ⟨HSA.out, HSB.out⟩, ⟨c0, hgla⟩, ⟨c1, hgla⟩, ⟨c2, hgla⟩, ⟨e0, hglb⟩, ⟨e1, hglb⟩, ⟨e2, hglb⟩, ⟨qa10, hN1⟩⟩
      clear hd1 hd2 hd3 hd4 hd5 hx hy HRA HRB hgla hglb HSA HSB HBR HFR hN1
      clear qa0 qa1 qa2 qa3 qa4 qa5 qa6 qa7 qa8 qa9 qa10 qa11 qa12 qa13 qa14
      go_wp2_with fail
      refine wp_region_keep HK.out (by kernel_rfl) (by kernel_rfl) (by first | exact HO.out | exact HK.out.drew HO.out) ?_
      intro C hin hout
      have HIN := hide3 hin
      have HOUT := hide3 hout
      clear hin hout HO
      repeat
        (with_reducible refine wpQuiet_step (fun K hK => ?_)
         go_simp
         first
           | (refine hK _ ?_; clear hK K)
           | (apply Exists.intro; refine ⟨fun w1 hC => ?_, hK _ ?_⟩; (focus ((first | (exact rfl) | (obtain ⟨⟨hbk, hfk⟩, ⟨hsa, hsb⟩, ⟨c0, hg1⟩, ⟨c1, _⟩, ⟨c2, _⟩, ⟨e0, hg2⟩, ⟨e1, _⟩, ⟨e2, _⟩, ⟨n0, hg3⟩⟩ := HOUT.out w1 hC; clear hC; go_simp; first | done | exact rfl)); done)); clear hK K))
      refine wpQuiet_nil ?_
      intro w11 hC
      have HO := hide3 (HOUT.out _ hC)
      clear hC HIN HOUT C
      obtain ⟨⟨hbk, hfk⟩, ⟨hsa, hsb⟩, ⟨c0, hg1⟩, ⟨c1, _⟩, ⟨c2, _⟩, ⟨e0, hg2⟩, ⟨e1, _⟩, ⟨e2, _⟩, ⟨n0, hg3⟩⟩ := HO.out
      have HBK := hide3 hbk
      have HSK : Hid (SpansC w11 (.slice y.ad y.ln y.cp) (rangeD (O.drop O.length) d)) := by
        unfold Hid
        rw [rangeD_end]
        exact hsb.at.1
      clear hbk hfk hsa hsb
      obtain ⟨hz1, hz2⟩ : IntKind.i64.wrap ((O.length : Int) - 1) = (O.length : Int) - 1 ∧ wrap64 ((O.length : Int) - 1) = (O.length : Int) - 1 := by
        refine ⟨?_, ?_⟩
        · simp [IntKind.wrap, IntKind.bits, IntKind.signed]; omega
        · unfold wrap64; omega
      go_wp2_with fail
      clear hz1 hz2
      clear c0 c1 c2 e0 e1 e2 n0 hg1 hg2 hg3 HBK
      go_loopw [11, 12] (fun vw vk wq => ∃ (k : Nat) (aw : Option Addr) (nw cw : Nat), k ≤ O.length ∧ vk = .int .i64 ((k : Int) - 1) ∧ vw = .slice aw nw cw ∧ SpansC wq (.slice aw nw cw) (rangeD (O.drop k) d) ∧ ((Below W.heap.size W wq ∧ FinW O wq W.heap.size (.slice (some ⟨ga, 0, none⟩) m c8) (.slice (some ⟨gb, 0, none⟩) m c10) A Z) ∧ (OwnS wq W.heap.size x.rs (rangeD O d) ∧ OwnS wq W.heap.size y.rs d.rg) ∧ Sc.CellK wq ga (i * 3) (.string d.nm) ∧ Sc.CellK wq ga (i * 3 + 1) (.int .i64 x.kd) ∧ Sc.CellK wq ga (i * 3 + 2) (.slice x.ad x.ln x.cp) ∧ Sc.CellK wq gb (i * 3) (.string d.nm) ∧ Sc.CellK wq gb (i * 3 + 1) (.int .i64 x.kd) ∧ Sc.CellK wq gb (i * 3 + 2) (.slice y.ad y.ln y.cp) ∧ Sc.CellK wq (N0 + 1) 3 (.slice ad O.length cap))) (fun _ vk _ => (intOf vk + 1).toNat)
      case atStart => exact ⟨O.length, y.ad, y.ln, y.cp, Nat.le_refl _, rfl, rfl, HSK.out, HO.out⟩
      case round =>
        obtain ⟨k, aw, nw, cw, hk, rfl, rfl, hsw, ho⟩ := hrel
        have HSW := hide3 hsw
        clear HO
        have HO := hide3 ho
        clear hsw ho HSK
        obtain ⟨z, hz⟩ : ∃ z : Int, z = (k : Int) - 1 := ⟨_, rfl⟩
        rw [← hz]
        rcases Nat.eq_zero_or_pos k with h0 | hpos
        · subst h0
          have hz1 : ¬ 0 ≤ z := by omega
          have hz2 : z < 0 := by omega
          clear hz
          obtain ⟨⟨hbk, hfk⟩, ⟨hsa, hsb⟩, ⟨c0, hg1⟩, ⟨c1, _⟩, ⟨c2, _⟩, ⟨e0, hg2⟩, ⟨e1, _⟩, ⟨e2, _⟩, ⟨n0, hg3⟩⟩ := HO.out
          have HSP : Hid (Calls Tryz.prog 36 #[.slice x.ad x.ln x.cp, .slice aw nw cw] wr fun e w' => e = .returned (.bool true) ∧ Below wr.heap.size wr w') := by
            have e := rSpans_any hsa.at.1.1 HSW.out.1 hsa.at.2
            rw [List.drop_zero, eqB_yes rfl] at e
            exact e
          have HFI : Hid (∀ w12, Below wr.heap.size wr w12 → Below W.heap.size W w12 ∧ FinW O w12 W.heap.size (.slice (some ⟨ga, 0, none⟩) m c8) (.slice (some ⟨gb, 0, none⟩) m c10) A Z) := fun w12 hb => ⟨below_then hbk hb, hfk.below hb⟩
          clear hbk hfk hsa hsb HSW
          go_wp2_with (go_at_call 36; refine HSP.out.mono ?_; rintro e w12 ⟨rfl, hb12⟩; have HB12 := hide3 hb12; clear hb12)
          exact ⟨⟨i + 1, by omega, by go_num, (HFI.out _ HB12.out).1, (HFI.out _ HB12.out).2⟩, by simp [intOf]; omega⟩
        · obtain ⟨j, rfl⟩ : ∃ j, k = j + 1 := ⟨k - 1, by omega⟩
          have hzj : z = (j : Int) := by omega
          clear hz
          subst hzj
          have hjO : j < O.length := by omega
          obtain ⟨go, oo, hadd, au, nu, cu, f0, f1, hsp, hgo⟩ : ∃ go oo, ad = some ⟨go, oo, none⟩ ∧ ∃ au nu cu, DpIn wr go (oo + j * 2) O[j] (.slice au nu cu) := by
            obtain ⟨ad', cap', hv, _, hel⟩ := (HDO.out.below HO.out.1.1).el
            injection hv with hv1 _ _
            subst hv1
            exact hel j hjO
          subst hadd
          have HRD := hide3 (rangeD_drop (d := d) hjO)
          obtain ⟨dj, hdj⟩ : ∃ dj, dj = O[j] := ⟨_, rfl⟩
          rw [← hdj] at f0 hsp HRD
          clear hdj
          have HK2 : Hid (KeepP fun w1 => ((Below W.heap.size W w1 ∧ FinW O w1 W.heap.size (.slice (some ⟨ga, 0, none⟩) m c8) (.slice (some ⟨gb, 0, none⟩) m c10) A Z) ∧ (OwnS w1 W.heap.size x.rs (rangeD O d) ∧ OwnS w1 W.heap.size y.rs d.rg) ∧ Sc.CellK w1 ga (i * 3) (.string d.nm) ∧ Sc.CellK w1 ga (i * 3 + 1) (.int .i64 x.kd) ∧ Sc.CellK w1 ga (i * 3 + 2) (.slice x.ad x.ln x.cp) ∧ Sc.CellK w1 gb (i * 3) (.string d.nm) ∧ Sc.CellK w1 gb (i * 3 + 1) (.int .i64 x.kd) ∧ Sc.CellK w1 gb (i * 3 + 2) (.slice y.ad y.ln y.cp) ∧ Sc.CellK w1 (N0 + 1) 3 (.slice (some ⟨go, oo, none⟩) O.length cap)) ∧ (SpansC w1 (.slice au nu cu) dj.rg ∧ SpansC w1 (.slice aw nw cw) (rangeD (O.drop (j + 1)) d)) ∧ Sc.CellK w1 go (oo + j * 2) (.string dj.nm) ∧ Sc.CellK w1 go (oo + j * 2 + 1) (.slice au nu cu)) := KeepP.and HK.out (KeepP.and (fun p q h hpq => ⟨h.1.below hpq, h.2.below hpq⟩) (KeepP.and (keepCk _ _ _) (keepCk _ _ _)))
          have HO2 : Hid (((Below W.heap.size W wr ∧ FinW O wr W.heap.size (.slice (some ⟨ga, 0, none⟩) m c8) (.slice (some ⟨gb, 0, none⟩) m c10) A Z) ∧ (OwnS wr W.heap.size x.rs (rangeD O d) ∧ OwnS wr W.heap.size y.rs d.rg) ∧ Sc.CellK wr ga (i * 3) (.string d.nm) ∧ Sc.CellK wr ga (i * 3 + 1) (.int .i64 x.kd) ∧ Sc.CellK wr ga (i * 3 + 2) (.slice x.ad x.ln x.cp) ∧ Sc.CellK wr gb (i * 3) (.string d.nm) ∧ Sc.CellK wr gb (i * 3 + 1) (.int .i64 x.kd) ∧ Sc.CellK wr gb (i * 3 + 2) (.slice y.ad y.ln y.cp) ∧ Sc.CellK wr (N0 + 1) 3 (.slice (some ⟨go, oo, none⟩) O.length cap)) ∧ (SpansC wr (.slice au nu cu) dj.rg ∧ SpansC wr (.slice aw nw cw) (rangeD (O.drop (j + 1)) d)) ∧ Sc.CellK wr go (oo + j * 2) (.string dj.nm) ∧ Sc.CellK wr go (oo + j * 2 + 1) (.slice au nu cu)) := ⟨HO.out, ⟨hsp.1, HSW.out⟩, ⟨f0, hgo⟩, ⟨f1, hgo⟩⟩
          clear HK HO HSW f0 f1 hsp hgo
          have HK := HK2
          have HO := HO2
          clear HK2 HO2
          have hj0 : (0 : Int) ≤ (j : Int) := by omega
          have hj1 : (j : Int) < (O.length : Int) := by omega
          obtain ⟨⟨⟨hbk, hfk⟩, ⟨hsa, hsb⟩, ⟨c0, hg1⟩, ⟨c1, _⟩, ⟨c2, _⟩, ⟨e0, hg2⟩, ⟨e1, _⟩, ⟨e2, _⟩, ⟨n0, hg3⟩⟩, ⟨hs1, hs2⟩, ⟨o0, hg4⟩, ⟨o1, _⟩⟩ := HO.out
          clear hbk hfk hsa hsb hs1 hs2
          have HWR : Hid (IntKind.i64.wrap ((j : Int) - 1) = (j : Int) - 1 ∧ wrap64 ((j : Int) - 1) = (j : Int) - 1) := by
            refine ⟨?_, ?_⟩
            · simp [IntKind.wrap, IntKind.bits, IntKind.signed]; omega
            · unfold wrap64; omega
          by_cases hnm : dj.nm = d.nm
          · rw [hnm] at o0 HO HK HRD
            rw [if_pos rfl] at HRD
            go_wp2_with fail
            clear c0 c1 c2 e0 e1 e2 n0 hg1 hg2 hg3 o0 o1 hg4
            refine wp_region_keep HK.out (by kernel_rfl) (by kernel_rfl) (by first | exact HO.out | exact HK.out.drew HO.out) ?_
            intro C hin hout
            have HIN := hide3 hin
            have HOUT := hide3 hout
            clear hin hout HO
            repeat
              (with_reducible refine wpQuiet_step (fun K hK => ?_)
               go_simp
               first
                 | (refine hK _ ?_; clear hK K)
                 | (apply Exists.intro; refine ⟨fun w1 hC => ?_, hK _ ?_⟩; (focus ((first | (exact rfl) | (obtain ⟨⟨⟨hbk, hfk⟩, ⟨hsa, hsb⟩, ⟨c0, hg1⟩, ⟨c1, _⟩, ⟨c2, _⟩, ⟨e0, hg2⟩, ⟨e1, _⟩, ⟨e2, _⟩, ⟨n0, hg3⟩⟩, ⟨hs1, hs2⟩, ⟨o0, hg4⟩, ⟨o1, _⟩⟩ := HOUT.out w1 hC; clear hC; go_simp; first | done | exact rfl)); done)); clear hK K))
            refine wpQuiet_nil ?_
            intro w12 hC
            have HO := hide3 (HOUT.out _ hC)
            clear hC HIN HOUT C
            obtain ⟨⟨⟨hbk, hfk⟩, ⟨hsa, hsb⟩, ⟨c0, hg1⟩, ⟨c1, _⟩, ⟨c2, _⟩, ⟨e0, hg2⟩, ⟨e1, _⟩, ⟨e2, _⟩, ⟨n0, hg3⟩⟩, ⟨hs1, hs2⟩, ⟨o0, hg4⟩, ⟨o1, _⟩⟩ := HO.out
            have HSN : Hid (SpansC w12 (.slice au nu cu) (rangeD (O.drop j) d)) := by
              unfold Hid
              rw [HRD.out]
              exact hs1
            clear hbk hfk hsa hsb hs1 hs2
            obtain ⟨hw1, hw2⟩ := HWR.out
            go_wp2_with fail
            clear hw1 hw2
            exact ⟨⟨j, au, nu, cu, by omega, rfl, rfl, HSN.out, HO.out.1⟩, by simp [intOf]⟩
          · have hne : (dj.nm.toList == d.nm.toList) = false := by
              rw [beq_eq_false_iff_ne]
              intro e
              exact hnm (bytes_same e)
            rw [if_neg hnm] at HRD
            go_wp2_with fail
            clear c0 c1 c2 e0 e1 e2 n0 hg1 hg2 hg3 o0 o1 hg4
            refine wp_region_keep HK.out (by kernel_rfl) (by kernel_rfl) (by first | exact HO.out | exact HK.out.drew HO.out) ?_
            intro C hin hout
            have HIN := hide3 hin
            have HOUT := hide3 hout
            clear hin hout HO
            repeat
              (with_reducible refine wpQuiet_step (fun K hK => ?_)
               go_simp
               first
                 | (refine hK _ ?_; clear hK K)
                 | (apply Exists.intro; refine ⟨fun w1 hC => ?_, hK _ ?_⟩; (focus ((first | (exact rfl) | (obtain ⟨⟨⟨hbk, hfk⟩, ⟨hsa, hsb⟩, ⟨c0, hg1⟩, ⟨c1, _⟩, ⟨c2, _⟩, ⟨e0, hg2⟩, ⟨e1, _⟩, ⟨e2, _⟩, ⟨n0, hg3⟩⟩, ⟨hs1, hs2⟩, ⟨o0, hg4⟩, ⟨o1, _⟩⟩ := HOUT.out w1 hC; clear hC; go_simp; first | done | exact rfl)); done)); clear hK K))
            refine wpQuiet_nil ?_
            intro w12 hC
            have HO := hide3 (HOUT.out _ hC)
            clear hC HIN HOUT C
            obtain ⟨⟨⟨hbk, hfk⟩, ⟨hsa, hsb⟩, ⟨c0, hg1⟩, ⟨c1, _⟩, ⟨c2, _⟩, ⟨e0, hg2⟩, ⟨e1, _⟩, ⟨e2, _⟩, ⟨n0, hg3⟩⟩, ⟨hs1, hs2⟩, ⟨o0, hg4⟩, ⟨o1, _⟩⟩ := HO.out
            have HSN : Hid (SpansC w12 (.slice aw nw cw) (rangeD (O.drop j) d)) := by
              unfold Hid
              rw [HRD.out]
              exact hs2
            clear hbk hfk hsa hsb hs1 hs2
            obtain ⟨hw1, hw2⟩ := HWR.out
            go_wp2_with fail
            clear hw1 hw2
            exact ⟨⟨j, aw, nw, cw, by omega, rfl, rfl, HSN.out, HO.out.1⟩, by simp [intOf]⟩
    · obtain rfl : i = m := by omega
      have hli : ¬ (i : Int) < (i : Int) := by omega
      go_wp2_with fail
      go_ret
      exact ⟨rfl, below_then HBW.out HBR.out⟩
end Go.Proofs.YtbjbhgkbnegfgaaGreatDoor
namespace Go.Proofs.YtbjbhgkbnegfgaaGreatDoor
open Go.ChangeShapes Go.WideShapes Go.ChangeAt Go.RowKit Go.ChangeMaps
set_option maxRecDepth 100000

theorem bulk_mem {H : Type} : ∀ {l : List (DataW H)} {d : DataW H}, d ∈ l → Rows.uptoBulk d ≤ Rows.uptoBulkAll l
  | [], d, h => by cases h
  | e :: l, d, h => by
    simp only [Rows.uptoBulkAll]
    rcases List.mem_cons.1 h with rfl | h
    · omega
    · have := bulk_mem h
      omega
theorem bulk_part {H : Type} {parts : List (DataW H)} {i : Nat} {d : DataW H} (h : parts[i]? = some d) : Rows.uptoBulk d ≤ Rows.uptoBulk (.agg parts) := by
  have := bulk_mem (List.mem_of_getElem? h)
  simp only [Rows.uptoBulk]
  omega
theorem bulk_elem {H : Type} {el sp : List (DataW H)} {d : DataW H} (h : d ∈ el) : Rows.uptoBulk d ≤ Rows.uptoBulk (.slice el sp) := by
  have := bulk_mem h
  simp only [Rows.uptoBulk]
  omega

/-- Lists no longer than that, with names and ranges no longer than that. -/
def FitB (n : Nat) (L : List Dp) : Prop := L.length ≤ n ∧ ∀ d ∈ L, d.nm.size ≤ n ∧ d.rg.length ≤ n
theorem FitB.mono {n m : Nat} {L : List Dp} (h : FitB n L) (hm : n ≤ m) : FitB m L := ⟨Nat.le_trans h.1 hm, fun d hd => ⟨Nat.le_trans (h.2 d hd).1 hm, Nat.le_trans (h.2 d hd).2 hm⟩⟩

theorem spans_b {H : Type} {enc : TypeId × Value → H} {W : World} {base fuel : Nat} {held : Bool} {cs : List Value} {x : DataW H × List MemPlace} (h : DataW.trod enc Tryz.prog W base (fun _ => true) held fuel 39 cs = some x) :
    ∃ v L, cs = [v] ∧ SpansC W v L ∧ L.length ≤ 9223372036854775807 ∧ L.length ≤ Rows.uptoBulk x.1 := by
  obtain ⟨v, L, rfl, h1, h2⟩ := spans_cs h
  refine ⟨v, L, rfl, h1, h2, ?_⟩
  obtain ⟨ad, cap, rfl, _⟩ := h1.1
  exact slice_bulk (d := x.1) (p := x.2) Tryz.underlying39 ⟨fuel, by simpa [Value.cells] using h⟩

theorem dep_readB {H : Type} {enc : TypeId × Value → H} {W : World} {base : Nat} {held : Bool} {n : Nat} {g o : Nat} {cs : List Value} {x : DataW H × List MemPlace} (hc : W.cells? base ⟨g, o, none⟩ 2 = some cs) (h : DataW.trod enc Tryz.prog W base (fun _ => true) held n 62 cs = some x) : ∃ d : Dp, (∃ u, DpIn W g o d u) ∧ d.nm.size ≤ Rows.uptoBulk x.1 ∧ d.rg.length ≤ Rows.uptoBulk x.1 := by
  have hs : Tryz.prog.underlying 62 = some (.struct (Tryz.prog.fieldsOf 62)) := by kernel_rfl
  obtain ⟨xs, n', _, hxx, _, hxl, hf⟩ := DataW.trod_struct hs h
  have hsz : (Tryz.prog.fieldsOf 62).size = 2 := by kernel_rfl
  obtain ⟨_, hcl, hq⟩ := World.cells?_some hc
  obtain ⟨f0, i0, t0, o0⟩ := field_at (fs := Tryz.prog.fieldsOf 62) (i := 0) (ty := 9) (off := 0) (by kernel_rfl)
  obtain ⟨f1, i1, t1, o1⟩ := field_at (fs := Tryz.prog.fieldsOf 62) (i := 1) (ty := 39) (off := 1) (by kernel_rfl)
  have r0 := hf 0 f0 i0
  have r1 := hf 1 f1 i1
  rw [t0, o0, cellsStrD, List.getElem?_eq_getElem (by omega : 0 < xs.length)] at r0
  rw [t1, o1, cellsSps, List.getElem?_eq_getElem (by omega : 1 < xs.length)] at r1
  obtain ⟨s, e0, hx0, hs0⟩ := DataW.trod_string Tryz.underlying9 r0
  obtain ⟨v, L, e1, hL, hz, hb⟩ := spans_b r1
  have q0 := hq 0 (by decide)
  have q1 := hq 1 (by decide)
  have ad : ∀ i, (⟨g, o, none⟩ : Addr).add i = ⟨g, o + i, none⟩ := fun i => by unfold Addr.add; split <;> simp_all
  rw [ad, take1 e0] at q0
  rw [ad, take1 e1] at q1
  have b0 : Rows.uptoBulk xs[0].1 ≤ Rows.uptoBulk x.1 := by
    rw [hxx]
    exact bulk_part (i := 0) (by rw [List.getElem?_map, List.getElem?_eq_getElem (by omega : 0 < xs.length)]; rfl)
  have b1 : Rows.uptoBulk xs[1].1 ≤ Rows.uptoBulk x.1 := by
    rw [hxx]
    exact bulk_part (i := 1) (by rw [List.getElem?_map, List.getElem?_eq_getElem (by omega : 1 < xs.length)]; rfl)
  have b2 : s.size ≤ Rows.uptoBulk xs[0].1 := by
    rw [hx0]
    simp only [Rows.uptoBulk]
    show s.data.size ≤ _
    rw [Array.length_toList]
    omega
  exact ⟨⟨s, L⟩, ⟨v, q0, q1, ⟨hL, hz⟩, cell_in q1⟩, Nat.le_trans b2 b0, Nat.le_trans hb b1⟩

theorem deps_csB {H : Type} {enc : TypeId × Value → H} {W : World} {base fuel : Nat} {held : Bool} {cs : List Value} {x : DataW H × List MemPlace} (h : DataW.trod enc Tryz.prog W base (fun _ => true) held fuel 32 cs = some x) :
    ∃ v L, cs = [v] ∧ DepsAt W v L ∧ FitB (Rows.uptoBulk x.1) L := by
  rcases Go.Deep.open_slice Tryz.underlying32 h with ⟨rfl, _⟩ | ⟨ad, len, cap, m, n, D, Pl, rfl, _, hl, hcm, hm, hx, hel⟩
  · exact ⟨_, [], rfl, ⟨none, 0, rfl, Nat.le_refl _, Or.inl rfl⟩, Nat.zero_le _, (fun d hd => by cases hd)⟩
  · rcases Nat.eq_zero_or_pos len with h0 | h0
    · subst h0
      exact ⟨_, [], rfl, ⟨_, _, rfl, Nat.zero_le _, Or.inl rfl⟩, Nat.zero_le _, (fun d hd => by cases hd)⟩
    · have hmm : len ≤ m := by rw [hm]; simp; exact hl
      rw [cellsDep] at hel
      obtain ⟨g, off, spot⟩ := ad
      obtain ⟨cs0, hc0, _⟩ := hel 0 (by omega)
      obtain ⟨_, hln, hq⟩ := World.cells?_some hc0
      have hcell := hq 0 (by decide)
      rw [List.getElem?_eq_getElem (by omega : 0 < cs0.length)] at hcell
      have hspot : spot = none := by simpa [Addr.add] using World.cell?_spot hcell
      subst hspot
      have ad2 : ∀ o i, (⟨g, o, none⟩ : Addr).add i = ⟨g, o + i, none⟩ := fun o i => by unfold Addr.add; split <;> simp_all
      have hxi : x.1 = .slice ((List.range len).map D) ((List.range (m - len)).map fun j => D (len + j)) := by rw [hx]
      obtain ⟨L, hL, hP⟩ := list_any (P := fun i (d : Dp) => (∃ u, DpIn W g (off + i * 2) d u) ∧ d.nm.size ≤ Rows.uptoBulk x.1 ∧ d.rg.length ≤ Rows.uptoBulk x.1) (n := len) fun i hi => by
        obtain ⟨cs, hc, ht⟩ := hel i (by omega)
        rw [ad2] at hc
        obtain ⟨d, h1, h2, h3⟩ := dep_readB hc ht
        have hb : Rows.uptoBulk (D i) ≤ Rows.uptoBulk x.1 := by
          rw [hxi]
          exact bulk_elem (List.mem_map.2 ⟨i, List.mem_range.2 hi, rfl⟩)
        exact ⟨d, h1, Nat.le_trans h2 hb, Nat.le_trans h3 hb⟩
      subst hL
      refine ⟨_, L, rfl, ⟨_, _, rfl, hl, Or.inr ⟨g, off, rfl, ?_, fun i hi => (hP i hi).1⟩⟩, ?_, ?_⟩
      · have := cell_in hcell
        rw [ad2, ad2] at this; exact this
      · rw [hxi]
        have h1 := bulk_len ((List.range L.length).map D)
        rw [List.length_map, List.length_range] at h1
        simp only [Rows.uptoBulk]
        omega
      · intro d hd
        obtain ⟨i, hi, rfl⟩ := List.getElem_of_mem hd
        exact (hP i hi).2

theorem open_pkgB {H : Type} {enc : TypeId × Value → H} {W : World} {base b0 : Nat} {held : Bool} {v : Value} {d : DataW H} {p : List MemPlace} (hv : Value.okWide Tryz.prog W .any b0 34 v) (h : DataW.Trod enc Tryz.prog W base (fun _ => true) held 34 v d p) :
    ∃ (P : Pg) (v1 v2 v3 : Value), v = .agg #[.string P.nm, .int .i64 P.a, .int .i64 P.b, .int .i64 P.c, v1, v2, v3] ∧ PgAt W P v1 v2 v3 ∧ FitB (Rows.uptoBulk d) P.d ∧ FitB (Rows.uptoBulk d) P.p ∧ FitB (Rows.uptoBulk d) P.o := by
  have hs : Tryz.prog.underlying 34 = some (.struct (Tryz.prog.fieldsOf 34)) := by kernel_rfl
  obtain ⟨cs, rfl, hsz⟩ := okWide_struct hs hv
  obtain ⟨n, h⟩ := h
  obtain ⟨xs, n', _, hxx, _, hxl, hf⟩ := DataW.trod_struct hs h
  have hfz : (Tryz.prog.fieldsOf 34).size = 5 := by kernel_rfl
  rw [cellsPkg] at hsz
  obtain ⟨f0, i0, t0, o0⟩ := field_at (fs := Tryz.prog.fieldsOf 34) (i := 0) (ty := 9) (off := 0) (by kernel_rfl)
  obtain ⟨f1, i1, t1, o1⟩ := field_at (fs := Tryz.prog.fieldsOf 34) (i := 1) (ty := 31) (off := 1) (by kernel_rfl)
  obtain ⟨f2, i2, t2, o2⟩ := field_at (fs := Tryz.prog.fieldsOf 34) (i := 2) (ty := 32) (off := 4) (by kernel_rfl)
  obtain ⟨f3, i3, t3, o3⟩ := field_at (fs := Tryz.prog.fieldsOf 34) (i := 3) (ty := 32) (off := 5) (by kernel_rfl)
  obtain ⟨f4, i4, t4, o4⟩ := field_at (fs := Tryz.prog.fieldsOf 34) (i := 4) (ty := 32) (off := 6) (by kernel_rfl)
  have r0 := hf 0 f0 i0
  have r1 := hf 1 f1 i1
  have r2 := hf 2 f2 i2
  have r3 := hf 3 f3 i3
  have r4 := hf 4 f4 i4
  rw [t0, o0, cellsStrD, List.getElem?_eq_getElem (by omega : 0 < xs.length)] at r0
  rw [t1, o1, cellsVer, List.getElem?_eq_getElem (by omega : 1 < xs.length)] at r1
  rw [t2, o2, cellsDeps, List.getElem?_eq_getElem (by omega : 2 < xs.length)] at r2
  rw [t3, o3, cellsDeps, List.getElem?_eq_getElem (by omega : 3 < xs.length)] at r3
  rw [t4, o4, cellsDeps, List.getElem?_eq_getElem (by omega : 4 < xs.length)] at r4
  obtain ⟨s, e0, _, hs0⟩ := DataW.trod_string Tryz.underlying9 r0
  obtain ⟨a, b, c, ea, eb, ec, _⟩ := ints_of r1
  obtain ⟨v1, L1, e2, h1, z1⟩ := deps_csB r2
  obtain ⟨v2, L2, e3, h2, z2⟩ := deps_csB r3
  obtain ⟨v3, L3, e4, h3, z3⟩ := deps_csB r4
  have hd : d = .agg (xs.map (·.1)) := congrArg Prod.fst hxx
  have hb : ∀ i (hi : i < xs.length), Rows.uptoBulk xs[i].1 ≤ Rows.uptoBulk d := fun i hi => by
    rw [hd]
    exact bulk_part (i := i) (by rw [List.getElem?_map, List.getElem?_eq_getElem hi]; rfl)
  have k0 : cs.toList[0]? = some (.string s) := take1 e0
  have k2 : cs.toList[4]? = some v1 := take1 e2
  have k3 : cs.toList[5]? = some v2 := take1 e3
  have k4 : cs.toList[6]? = some v3 := take1 e4
  have ka : ((cs.toList.drop 1).take 3)[0]? = some (.int .i64 a) := ea
  have kb : ((cs.toList.drop 1).take 3)[1]? = some (.int .i64 b) := eb
  have kc : ((cs.toList.drop 1).take 3)[2]? = some (.int .i64 c) := ec
  obtain ⟨l⟩ := cs
  obtain ⟨x0, x1, x2, x3, x4, x5, x6, rfl⟩ := list7 (l := l) (by simpa using hsz)
  simp at k0 k2 k3 k4 ka kb kc
  subst k0 k2 k3 k4 ka kb kc
  exact ⟨⟨s, a, b, c, L1, L2, L3⟩, _, _, _, rfl, ⟨h1, h2, h3⟩, z1.mono (hb 2 (by omega)), z2.mono (hb 3 (by omega)), z3.mono (hb 4 (by omega))⟩

theorem open_manB {H : Type} {enc : TypeId × Value → H} {W : World} {base b0 : Nat} {held : Bool} {v : Value} {d : DataW H} {p : List MemPlace} (hv : Value.okWide Tryz.prog W .any b0 54 v) (h : DataW.Trod enc Tryz.prog W base (fun _ => true) held 54 v d p) :
    ∃ (v1 v2 v3 v4 : Value) (L1 L2 L3 L4 : List Dp), v = .agg #[v1, v2, v3, v4] ∧ (DepsAt W v1 L1 ∧ FitB (Rows.uptoBulk d) L1) ∧ (DepsAt W v2 L2 ∧ FitB (Rows.uptoBulk d) L2) ∧ (DepsAt W v3 L3 ∧ FitB (Rows.uptoBulk d) L3) ∧ (DepsAt W v4 L4 ∧ FitB (Rows.uptoBulk d) L4) := by
  have hs : Tryz.prog.underlying 54 = some (.struct (Tryz.prog.fieldsOf 54)) := by kernel_rfl
  obtain ⟨cs, rfl, hsz⟩ := okWide_struct hs hv
  obtain ⟨n, h⟩ := h
  obtain ⟨xs, n', _, hxx, _, hxl, hf⟩ := DataW.trod_struct hs h
  have hfz : (Tryz.prog.fieldsOf 54).size = 4 := by kernel_rfl
  rw [cellsManW] at hsz
  have hd : d = .agg (xs.map (·.1)) := congrArg Prod.fst hxx
  have get : ∀ i, ((Tryz.prog.fieldsOf 54)[i]?).map (fun f => (f.type, f.offset)) = some (32, i) → i < 4 → ∃ v L, cs.toList[i]? = some v ∧ DepsAt W v L ∧ FitB (Rows.uptoBulk d) L := by
    intro i hfd hi
    obtain ⟨f, h1, h2, h3⟩ := field_at hfd
    have hr := hf i f h1
    rw [h2, h3, cellsDeps, List.getElem?_eq_getElem (by omega : i < xs.length)] at hr
    obtain ⟨v, L, e, hL, hz⟩ := deps_csB hr
    refine ⟨v, L, take1 e, hL, hz.mono ?_⟩
    rw [hd]
    exact bulk_part (i := i) (by rw [List.getElem?_map, List.getElem?_eq_getElem (by omega : i < xs.length)]; rfl)
  obtain ⟨v1, L1, k1, h1⟩ := get 0 (by kernel_rfl) (by decide)
  obtain ⟨v2, L2, k2, h2⟩ := get 1 (by kernel_rfl) (by decide)
  obtain ⟨v3, L3, k3, h3⟩ := get 2 (by kernel_rfl) (by decide)
  obtain ⟨v4, L4, k4, h4⟩ := get 3 (by kernel_rfl) (by decide)
  obtain ⟨l⟩ := cs
  obtain ⟨x0, x1, x2, x3, rfl⟩ := list4W (l := l) (by simpa using hsz)
  simp at k1 k2 k3 k4
  subst k1 k2 k3 k4
  exact ⟨_, _, _, _, L1, L2, L3, L4, rfl, h1, h2, h3, h4⟩

theorem fitA_of {n m : Nat} {O ds : List Dp} (hO : FitB n O) (hd : FitB m ds) (hn : n ≤ 1048576) (hm : m ≤ 1048576) : FitA O ds := by
  refine ⟨⟨by have := hd.1; omega, fun d h => ⟨by have := (hd.2 d h).1; omega, ?_⟩⟩, fun d h => by have := (hd.2 d h).2; omega⟩
  have h1 : (rangeD O d).length ≤ 1048576 := by
    unfold rangeD
    cases hf : O.find? (isD d.nm) with
    | none => exact Nat.le_trans (hd.2 d h).2 hm
    | some x => exact Nat.le_trans (hO.2 x (List.mem_of_find?_eq_some hf)).2 hn
  omega

theorem wov_row {W : World} (he : Env W) (hf : FL W) {P : Pg} {v1 v2 v3 u1 u2 u3 u4 : Value} {L1 L2 L3 L4 : List Dp} {n m : Nat} (hp : PgAt W P v1 v2 v3) (z1 : FitB n P.d) (z3 : FitB n P.o) (h1 : DepsAt W u1 L1 ∧ FitB m L1) (h2 : DepsAt W u2 L2 ∧ FitB m L2) (h3 : DepsAt W u3 L3 ∧ FitB m L3) (h4 : DepsAt W u4 L4 ∧ FitB m L4) (hn : n ≤ 1048576) (hm : m ≤ 1048576) (dev : Bool) :
    Calls Tryz.prog 5 #[.agg #[.string P.nm, .int .i64 P.a, .int .i64 P.b, .int .i64 P.c, v1, v2, v3], .agg #[u1, u2, u3, u4], .bool dev] W fun e w' => e = .returned (.bool true) ∧ Below W.heap.size W w' := by
  obtain ⟨_, _, rfl, _, _⟩ := hp.1.el
  obtain ⟨_, _, rfl, _, _⟩ := hp.2.1.el
  obtain ⟨_, _, rfl, _, _⟩ := hp.2.2.el
  obtain ⟨_, _, rfl, _, _⟩ := h1.1.el
  obtain ⟨_, _, rfl, _, _⟩ := h2.1.el
  obtain ⟨_, _, rfl, _, _⟩ := h3.1.el
  have q1 := z1.1
  have q3 := z3.1
  have r1 := h1.2.1
  have r2 := h2.2.1
  have r3 := h3.2.1
  have r4 := h4.2.1
  exact wantsOverrides_walk he hf P.nm P.a P.b P.c hp.1 hp.2.2 h1.1 h2.1 h3.1 h4.1 ⟨by omega, fun d hd => by have := (h4.2.2 d hd).1; omega⟩ (fitA_of h4.2 z1 hm hn) (fitA_of h4.2 z3 hm hn) (fitA_of h4.2 h1.2 hm hm) (fitA_of h4.2 h2.2 hm hm) (fitA_of h4.2 h3.2 hm hm) (by omega) (by omega) dev
end Go.Proofs.YtbjbhgkbnegfgaaGreatDoor
