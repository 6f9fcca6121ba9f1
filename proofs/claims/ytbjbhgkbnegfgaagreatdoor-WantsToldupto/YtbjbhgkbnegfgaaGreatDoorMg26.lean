/- Wh3, laid in one text. -/
import Derived.Test.YtbjbhgkbnegfgaaGreatDoorMg25
namespace Go.Proofs.YtbjbhgkbnegfgaaGreatDoor
open Go.RowKit Go.Maps Go.WideMaps
set_option maxRecDepth 100000

set_option maxHeartbeats 12800000 in
theorem rOf_any {w0 w : World} (hb0 : Below w0.heap.size w0 w) {O ds1 ds3 : List Dp} {ms1 ms2 ms3 : List Dp} (nm : ByteArray) (a b c : Int) {p1 p2 p3 u1 u2 u3 : Option Addr} {r1 q2 r2 r3 y1 y2 y3 : Nat} {v4 : Value} (ho : DepsAt w0 v4 O) (hO : O.length ≤ 9223372036854775807) (hp1 : DepsAt w0 (.slice p1 ds1.length r1) ds1) (hp3 : DepsAt w0 (.slice p3 ds3.length r3) ds3) (hn1 : ∀ d ∈ ds1, d.nm.size ≤ 9223372036854775807) (hn3 : ∀ d ∈ ds3, d.nm.size ≤ 9223372036854775807) (hl : ds1.length + ds3.length ≤ 10000000) : Calls Tryz.prog 29 #[.agg #[.string nm, .int .i64 a, .int .i64 b, .int .i64 c, .slice p1 ds1.length r1, .slice p2 q2 r2, .slice p3 ds3.length r3], .agg #[.slice u1 ms1.length y1, .slice u2 ms2.length y2, .slice u3 ms3.length y3, v4]] w fun e w' => ∃ v, e = .returned v ∧ (∃ Y, DocT O (ofE ds1 ds3) w0 w' w.heap.size v Y) ∧ Below w.heap.size w w' := by
  obtain ⟨ad, cap, rfl, hcap, _⟩ := ho.el
  have HB0 : Hid (Below w.heap.size w ((w.alloc (.cells #[.string nm, .int .i64 a, .int .i64 b, .int .i64 c, .slice p1 ds1.length r1, .slice p2 q2 r2, .slice p3 ds3.length r3] 34)).alloc (.cells #[.slice u1 ms1.length y1, .slice u2 ms2.length y2, .slice u3 ms3.length y3, .slice ad O.length cap] 54))) := boxB2 _ _ _
  have HFO := hide3 hO
  have HBZ := hide3 hb0
  clear hb0
  have HDO := hide3 ho
  have HD1 := hide3 hp1
  have HD3 := hide3 hp3
  have HNN : Hid ((∀ d ∈ ds1, d.nm.size ≤ 9223372036854775807) ∧ ∀ d ∈ ds3, d.nm.size ≤ 9223372036854775807) := ⟨hn1, hn3⟩
  have HLL := hide3 hl
  have HCS : Hid (((w.alloc (.cells #[.string nm, .int .i64 a, .int .i64 b, .int .i64 c, .slice p1 ds1.length r1, .slice p2 q2 r2, .slice p3 ds3.length r3] 34)).alloc (.cells #[.slice u1 ms1.length y1, .slice u2 ms2.length y2, .slice u3 ms3.length y3, .slice ad O.length cap] 54)).cell? ⟨w.heap.size, 4, none⟩ = some (.slice p1 ds1.length r1) ∧ ((w.alloc (.cells #[.string nm, .int .i64 a, .int .i64 b, .int .i64 c, .slice p1 ds1.length r1, .slice p2 q2 r2, .slice p3 ds3.length r3] 34)).alloc (.cells #[.slice u1 ms1.length y1, .slice u2 ms2.length y2, .slice u3 ms3.length y3, .slice ad O.length cap] 54)).cell? ⟨w.heap.size, 6, none⟩ = some (.slice p3 ds3.length r3) ∧ ((w.alloc (.cells #[.string nm, .int .i64 a, .int .i64 b, .int .i64 c, .slice p1 ds1.length r1, .slice p2 q2 r2, .slice p3 ds3.length r3] 34)).alloc (.cells #[.slice u1 ms1.length y1, .slice u2 ms2.length y2, .slice u3 ms3.length y3, .slice ad O.length cap] 54)).cell? ⟨w.heap.size + 1, 0, none⟩ = some (.slice u1 ms1.length y1) ∧ ((w.alloc (.cells #[.string nm, .int .i64 a, .int .i64 b, .int .i64 c, .slice p1 ds1.length r1, .slice p2 q2 r2, .slice p3 ds3.length r3] 34)).alloc (.cells #[.slice u1 ms1.length y1, .slice u2 ms2.length y2, .slice u3 ms3.length y3, .slice ad O.length cap] 54)).cell? ⟨w.heap.size + 1, 1, none⟩ = some (.slice u2 ms2.length y2) ∧ ((w.alloc (.cells #[.string nm, .int .i64 a, .int .i64 b, .int .i64 c, .slice p1 ds1.length r1, .slice p2 q2 r2, .slice p3 ds3.length r3] 34)).alloc (.cells #[.slice u1 ms1.length y1, .slice u2 ms2.length y2, .slice u3 ms3.length y3, .slice ad O.length cap] 54)).cell? ⟨w.heap.size + 1, 2, none⟩ = some (.slice u3 ms3.length y3) ∧ ((w.alloc (.cells #[.string nm, .int .i64 a, .int .i64 b, .int .i64 c, .slice p1 ds1.length r1, .slice p2 q2 r2, .slice p3 ds3.length r3] 34)).alloc (.cells #[.slice u1 ms1.length y1, .slice u2 ms2.length y2, .slice u3 ms3.length y3, .slice ad O.length cap] 54)).cell? ⟨w.heap.size + 1, 3, none⟩ = some (.slice ad O.length cap)) := ⟨((boxB _ _).cell (p := ⟨w.heap.size, 4, none⟩) (by simp)).trans (new_cell rfl rfl).1, ((boxB _ _).cell (p := ⟨w.heap.size, 6, none⟩) (by simp)).trans (new_cell rfl rfl).1, (new_cell (by simp) rfl).1, (new_cell (by simp) rfl).1, (new_cell (by simp) rfl).1, (new_cell (by simp) rfl).1⟩
  have hNl : w.heap.size + 1 < ((w.alloc (.cells #[.string nm, .int .i64 a, .int .i64 b, .int .i64 c, .slice p1 ds1.length r1, .slice p2 q2 r2, .slice p3 ds3.length r3] 34)).alloc (.cells #[.slice u1 ms1.length y1, .slice u2 ms2.length y2, .slice u3 ms3.length y3, .slice ad O.length cap] 54)).heap.size := by simp
  clear ho hp1 hp3 hn1 hn3 hl hO hcap
  go_enter Tryz.func29, Tryz.ntmps29
  go_upto_region 1 with fail
  obtain ⟨N0, hN0⟩ : ∃ k, k = w.heap.size := ⟨_, rfl⟩
  rw [← hN0] at HCS hNl
  rw [← hN0]
  generalize ((w.alloc (.cells #[.string nm, .int .i64 a, .int .i64 b, .int .i64 c, .slice p1 ds1.length r1, .slice p2 q2 r2, .slice p3 ds3.length r3] 34)).alloc (.cells #[.slice u1 ms1.length y1, .slice u2 ms2.length y2, .slice u3 ms3.length y3, .slice ad O.length cap] 54)) = W at *
  clear hN0
  have HBX : Hid (∀ X, Below W.heap.size W X → X.cell? ⟨N0, 4, none⟩ = some (.slice p1 ds1.length r1) ∧ X.cell? ⟨N0, 6, none⟩ = some (.slice p3 ds3.length r3) ∧ X.cell? ⟨N0 + 1, 0, none⟩ = some (.slice u1 ms1.length y1) ∧ X.cell? ⟨N0 + 1, 1, none⟩ = some (.slice u2 ms2.length y2) ∧ X.cell? ⟨N0 + 1, 2, none⟩ = some (.slice u3 ms3.length y3) ∧ X.cell? ⟨N0 + 1, 3, none⟩ = some (.slice ad O.length cap)) := fun X hx => by
    obtain ⟨q0, q1, q2, q3, q4, q5⟩ := HCS.out
    exact ⟨(hx.cell (p := ⟨N0, 4, none⟩) (by simp only; omega)).trans q0, (hx.cell (p := ⟨N0, 6, none⟩) (by simp only; omega)).trans q1, (hx.cell (p := ⟨N0 + 1, 0, none⟩) hNl).trans q2, (hx.cell (p := ⟨N0 + 1, 1, none⟩) hNl).trans q3, (hx.cell (p := ⟨N0 + 1, 2, none⟩) hNl).trans q4, (hx.cell (p := ⟨N0 + 1, 3, none⟩) hNl).trans q5⟩
  have HA1 : Hid (∀ (X : World) (a6 : Option Addr) (n6 c6 : Nat), Below W.heap.size W X → (∃ Y, DocT O ([]) w0 X w.heap.size (.slice a6 n6 c6) Y) → Calls Tryz.prog 74 #[.slice a6 n6 c6, .slice p1 ds1.length r1, .int .i64 1, .agg #[.slice u1 ms1.length y1, .slice u2 ms2.length y2, .slice u3 ms3.length y3, .slice ad O.length cap]] X fun e w' => ∃ a7 n7 c7, e = .returned (.slice a7 n7 c7) ∧ (∃ Y, DocT O (([]) ++ ds1.map fun d => (d, 1)) w0 w' w.heap.size (.slice a7 n7 c7) Y) ∧ Below X.heap.size X w') := fun X a6 n6 c6 hx hd => by
    obtain ⟨Y, hd⟩ := hd
    refine (added_any (below_then HBZ.out (below_then HB0.out hx)) HDO.out HFO.out HD1.out HNN.out.1 (Nat.le_trans HB0.out.size hx.size) hd (by have := HLL.out; simp; omega) 1).mono fun e w' hq => ?_
    obtain ⟨v', h1, ⟨Y', h2⟩, h3⟩ := hq
    obtain ⟨a7, c7, rfl⟩ := own_len h2.1.1
    exact ⟨a7, _, c7, h1, ⟨Y', h2⟩, h3⟩
  have HA2 : Hid (∀ (X : World) (a6 : Option Addr) (n6 c6 : Nat), Below W.heap.size W X → (∃ Y, DocT O ([] ++ ds1.map fun d => (d, (1 : Int))) w0 X w.heap.size (.slice a6 n6 c6) Y) → Calls Tryz.prog 74 #[.slice a6 n6 c6, .slice p3 ds3.length r3, .int .i64 2, .agg #[.slice u1 ms1.length y1, .slice u2 ms2.length y2, .slice u3 ms3.length y3, .slice ad O.length cap]] X fun e w' => ∃ a7 n7 c7, e = .returned (.slice a7 n7 c7) ∧ (∃ Y, DocT O (([] ++ ds1.map fun d => (d, (1 : Int))) ++ ds3.map fun d => (d, 2)) w0 w' w.heap.size (.slice a7 n7 c7) Y) ∧ Below X.heap.size X w') := fun X a6 n6 c6 hx hd => by
    obtain ⟨Y, hd⟩ := hd
    refine (added_any (below_then HBZ.out (below_then HB0.out hx)) HDO.out HFO.out HD3.out HNN.out.2 (Nat.le_trans HB0.out.size hx.size) hd (by have := HLL.out; simp; omega) 2).mono fun e w' hq => ?_
    obtain ⟨v', h1, ⟨Y', h2⟩, h3⟩ := hq
    obtain ⟨a7, c7, rfl⟩ := own_len h2.1.1
    exact ⟨a7, _, c7, h1, ⟨Y', h2⟩, h3⟩
  have HO : Hid (Below W.heap.size W W.drew) := (Below.refl _ _).drew
  have HNI : Hid (∃ Y, DocT O [] w0 W.drew w.heap.size (.slice none 0 0) Y) := ⟨[], DocT.nil _ _ _ _⟩
  clear HCS HDO HD1 HD3
  obtain ⟨t0, t1, t2, t3, t4, t5⟩ := HBX.out _ HO.out
  go_region_held3 (fun w' => w'.cell? ⟨N0, 4, none⟩ = some (.slice p1 ds1.length r1) ∧ w'.cell? ⟨N0, 6, none⟩ = some (.slice p3 ds3.length r3) ∧ w'.cell? ⟨N0 + 1, 0, none⟩ = some (.slice u1 ms1.length y1) ∧ w'.cell? ⟨N0 + 1, 1, none⟩ = some (.slice u2 ms2.length y2) ∧ w'.cell? ⟨N0 + 1, 2, none⟩ = some (.slice u3 ms3.length y3) ∧ w'.cell? ⟨N0 + 1, 3, none⟩ = some (.slice ad O.length cap)) (go_keep) (first
    | (go_at_call 74; have _t := HT6; refine (HA2.out _ _ _ _ HB6.out HT6.out).mono ?_; rintro e w7 ⟨a7, n7, c7, rfl, ht7, hb7⟩; have HT7 := hide3 ht7; have HB7 := hide3 (below_then HB6.out hb7); obtain ⟨s0, s1, s2, s3, s4, s5⟩ := HBX.out _ HB7.out; clear ht7 hb7)
    | (go_at_call 74; refine (HA1.out _ _ _ _ HO.out HNI.out).mono ?_; rintro e w6 ⟨a6, n6, c6, rfl, ht6, hb6⟩; have HT6 := hide3 ht6; have HB6 := hide3 (below_then HO.out hb6); obtain ⟨r0, r1, r2, r3, r4, r5⟩ := HBX.out _ HB6.out; clear ht6 hb6))
  all_goals go_wp2
  all_goals go_ret
  all_goals exact ⟨_, rfl, HT7.out, below_then HB0.out HB7.out⟩

set_option maxHeartbeats 12800000 in
theorem rOfRoot_any {w0 w : World} (hb0 : Below w0.heap.size w0 w) {O : List Dp} {ms1 ms2 ms3 : List Dp} {u1 u2 u3 : Option Addr} {y1 y2 y3 : Nat} {v4 : Value} (ho : DepsAt w0 v4 O) (hO : O.length ≤ 9223372036854775807) (hp1 : DepsAt w0 (.slice u1 ms1.length y1) ms1) (hp2 : DepsAt w0 (.slice u2 ms2.length y2) ms2) (hp3 : DepsAt w0 (.slice u3 ms3.length y3) ms3) (hn1 : ∀ d ∈ ms1, d.nm.size ≤ 9223372036854775807) (hn2 : ∀ d ∈ ms2, d.nm.size ≤ 9223372036854775807) (hn3 : ∀ d ∈ ms3, d.nm.size ≤ 9223372036854775807) (hl : ms1.length + ms2.length + ms3.length ≤ 10000000) (dev : Bool) {dd : List Dp} (hdd : dd = if dev = true then ms2 else []) : Calls Tryz.prog 31 #[.agg #[.slice u1 ms1.length y1, .slice u2 ms2.length y2, .slice u3 ms3.length y3, v4], .bool dev] w fun e w' => ∃ v, e = .returned v ∧ (∃ Y, DocT O (rootE ms1 dd ms3) w0 w' w.heap.size v Y) ∧ Below w.heap.size w w' := by
  obtain ⟨ad, cap, rfl, hcap, _⟩ := ho.el
  have HB0 : Hid (Below w.heap.size w (w.alloc (.cells #[.slice u1 ms1.length y1, .slice u2 ms2.length y2, .slice u3 ms3.length y3, .slice ad O.length cap] 54))) := boxB _ _
  have HFO := hide3 hO
  have HBZ := hide3 hb0
  clear hb0
  have HDD := hide3 hdd
  have HDO := hide3 ho
  have HD1 := hide3 hp1
  have HD2 := hide3 hp2
  have HD3 := hide3 hp3
  have HNN : Hid ((∀ d ∈ ms1, d.nm.size ≤ 9223372036854775807) ∧ (∀ d ∈ ms2, d.nm.size ≤ 9223372036854775807) ∧ ∀ d ∈ ms3, d.nm.size ≤ 9223372036854775807) := ⟨hn1, hn2, hn3⟩
  have HLL := hide3 hl
  have HCS : Hid ((w.alloc (.cells #[.slice u1 ms1.length y1, .slice u2 ms2.length y2, .slice u3 ms3.length y3, .slice ad O.length cap] 54)).cell? ⟨w.heap.size, 0, none⟩ = some (.slice u1 ms1.length y1) ∧ (w.alloc (.cells #[.slice u1 ms1.length y1, .slice u2 ms2.length y2, .slice u3 ms3.length y3, .slice ad O.length cap] 54)).cell? ⟨w.heap.size, 1, none⟩ = some (.slice u2 ms2.length y2) ∧ (w.alloc (.cells #[.slice u1 ms1.length y1, .slice u2 ms2.length y2, .slice u3 ms3.length y3, .slice ad O.length cap] 54)).cell? ⟨w.heap.size, 2, none⟩ = some (.slice u3 ms3.length y3) ∧ (w.alloc (.cells #[.slice u1 ms1.length y1, .slice u2 ms2.length y2, .slice u3 ms3.length y3, .slice ad O.length cap] 54)).cell? ⟨w.heap.size, 3, none⟩ = some (.slice ad O.length cap)) := ⟨(new_cell rfl rfl).1, (new_cell rfl rfl).1, (new_cell rfl rfl).1, (new_cell rfl rfl).1⟩
  have hNl : w.heap.size < (w.alloc (.cells #[.slice u1 ms1.length y1, .slice u2 ms2.length y2, .slice u3 ms3.length y3, .slice ad O.length cap] 54)).heap.size := by simp
  clear ho hp1 hp2 hp3 hn1 hn2 hn3 hl hO hdd hcap
  go_enter Tryz.func31, Tryz.ntmps31
  go_upto_region 1 with fail
  obtain ⟨N0, hN0⟩ : ∃ k, k = w.heap.size := ⟨_, rfl⟩
  rw [← hN0] at HCS hNl
  rw [← hN0]
  generalize (w.alloc (.cells #[.slice u1 ms1.length y1, .slice u2 ms2.length y2, .slice u3 ms3.length y3, .slice ad O.length cap] 54)) = W at *
  clear hN0
  have HBX : Hid (∀ X, Below W.heap.size W X → X.cell? ⟨N0, 0, none⟩ = some (.slice u1 ms1.length y1) ∧ X.cell? ⟨N0, 1, none⟩ = some (.slice u2 ms2.length y2) ∧ X.cell? ⟨N0, 2, none⟩ = some (.slice u3 ms3.length y3) ∧ X.cell? ⟨N0, 3, none⟩ = some (.slice ad O.length cap)) := fun X hx => by
    obtain ⟨q0, q1, q2, q3⟩ := HCS.out
    exact ⟨(hx.cell (p := ⟨N0, 0, none⟩) hNl).trans q0, (hx.cell (p := ⟨N0, 1, none⟩) hNl).trans q1, (hx.cell (p := ⟨N0, 2, none⟩) hNl).trans q2, (hx.cell (p := ⟨N0, 3, none⟩) hNl).trans q3⟩
  have HA1 : Hid (∀ (X : World) (a6 : Option Addr) (n6 c6 : Nat), Below W.heap.size W X → (∃ Y, DocT O ([]) w0 X w.heap.size (.slice a6 n6 c6) Y) → Calls Tryz.prog 74 #[.slice a6 n6 c6, .slice u1 ms1.length y1, .int .i64 1, .agg #[.slice u1 ms1.length y1, .slice u2 ms2.length y2, .slice u3 ms3.length y3, .slice ad O.length cap]] X fun e w' => ∃ a7 n7 c7, e = .returned (.slice a7 n7 c7) ∧ (∃ Y, DocT O (([]) ++ ms1.map fun d => (d, 1)) w0 w' w.heap.size (.slice a7 n7 c7) Y) ∧ Below X.heap.size X w') := fun X a6 n6 c6 hx hd => by
    obtain ⟨Y, hd⟩ := hd
    refine (added_any (below_then HBZ.out (below_then HB0.out hx)) HDO.out HFO.out HD1.out HNN.out.1 (Nat.le_trans HB0.out.size hx.size) hd (by have := HLL.out; simp; omega) 1).mono fun e w' hq => ?_
    obtain ⟨v', h1, ⟨Y', h2⟩, h3⟩ := hq
    obtain ⟨a7, c7, rfl⟩ := own_len h2.1.1
    exact ⟨a7, _, c7, h1, ⟨Y', h2⟩, h3⟩
  have HA2 : Hid (∀ (X : World) (a6 : Option Addr) (n6 c6 : Nat), Below W.heap.size W X → (∃ Y, DocT O ([] ++ ms1.map fun d => (d, (1 : Int))) w0 X w.heap.size (.slice a6 n6 c6) Y) → Calls Tryz.prog 74 #[.slice a6 n6 c6, .slice u2 ms2.length y2, .int .i64 1, .agg #[.slice u1 ms1.length y1, .slice u2 ms2.length y2, .slice u3 ms3.length y3, .slice ad O.length cap]] X fun e w' => ∃ a7 n7 c7, e = .returned (.slice a7 n7 c7) ∧ (∃ Y, DocT O (([] ++ ms1.map fun d => (d, (1 : Int))) ++ ms2.map fun d => (d, 1)) w0 w' w.heap.size (.slice a7 n7 c7) Y) ∧ Below X.heap.size X w') := fun X a6 n6 c6 hx hd => by
    obtain ⟨Y, hd⟩ := hd
    refine (added_any (below_then HBZ.out (below_then HB0.out hx)) HDO.out HFO.out HD2.out HNN.out.2.1 (Nat.le_trans HB0.out.size hx.size) hd (by have := HLL.out; simp; omega) 1).mono fun e w' hq => ?_
    obtain ⟨v', h1, ⟨Y', h2⟩, h3⟩ := hq
    obtain ⟨a7, c7, rfl⟩ := own_len h2.1.1
    exact ⟨a7, _, c7, h1, ⟨Y', h2⟩, h3⟩
  have HA3 : Hid (∀ (X : World) (a6 : Option Addr) (n6 c6 : Nat), Below W.heap.size W X → (∃ Y, DocT O ([] ++ ms1.map (fun d => (d, (1 : Int))) ++ dd.map fun d => (d, (1 : Int))) w0 X w.heap.size (.slice a6 n6 c6) Y) → Calls Tryz.prog 74 #[.slice a6 n6 c6, .slice u3 ms3.length y3, .int .i64 2, .agg #[.slice u1 ms1.length y1, .slice u2 ms2.length y2, .slice u3 ms3.length y3, .slice ad O.length cap]] X fun e w' => ∃ a7 n7 c7, e = .returned (.slice a7 n7 c7) ∧ (∃ Y, DocT O (([] ++ ms1.map (fun d => (d, (1 : Int))) ++ dd.map fun d => (d, (1 : Int))) ++ ms3.map fun d => (d, 2)) w0 w' w.heap.size (.slice a7 n7 c7) Y) ∧ Below X.heap.size X w') := fun X a6 n6 c6 hx hd => by
    obtain ⟨Y, hd⟩ := hd
    refine (added_any (below_then HBZ.out (below_then HB0.out hx)) HDO.out HFO.out HD3.out HNN.out.2.2 (Nat.le_trans HB0.out.size hx.size) hd (by have := HLL.out; have h0 : dd.length ≤ ms2.length := (by rw [HDD.out]; split <;> simp); simp; omega) 2).mono fun e w' hq => ?_
    obtain ⟨v', h1, ⟨Y', h2⟩, h3⟩ := hq
    obtain ⟨a7, c7, rfl⟩ := own_len h2.1.1
    exact ⟨a7, _, c7, h1, ⟨Y', h2⟩, h3⟩
  have HNI : Hid (∃ Y, DocT O [] w0 W w.heap.size (.slice none 0 0) Y) := ⟨[], DocT.nil _ _ _ _⟩
  clear HDO HD1 HD2 HD3
  obtain ⟨t0, t1, t2, t3⟩ := HCS.out
  go_upto_region 2 with (go_at_call 74; refine (HA1.out _ _ _ _ (Below.refl _ _) HNI.out).mono ?_; rintro e w6 ⟨a6, n6, c6, rfl, ht6, hb6⟩; have HT6 := hide3 ht6; have HB6 := hide3 hb6; obtain ⟨r0, r1, r2, r3⟩ := HBX.out _ HB6.out; clear ht6 hb6)
  clear t0 t1 t2 t3
  cases dev with
  | true =>
    have hds : dd = ms2 := HDD.out
    subst dd
    go_upto_region 4 with (go_at_call 74; refine (HA2.out _ _ _ _ HB6.out HT6.out).mono ?_; rintro e w7 ⟨a7, n7, c7, rfl, ht7, hb7⟩; have HT7 := hide3 ht7; have HB7 := hide3 (below_then HB6.out hb7); obtain ⟨s0, s1, s2, s3⟩ := HBX.out _ HB7.out; clear ht7 hb7)
    clear r0 r1 r2 r3
    go_wp2_with (go_at_call 74; refine (HA3.out _ _ _ _ HB7.out HT7.out).mono ?_; rintro e w8 ⟨a8, n8, c8, rfl, ht8, hb8⟩; have HT8 := hide3 ht8; have HB8 := hide3 (below_then HB7.out hb8); clear ht8 hb8)
    go_ret
    exact ⟨_, rfl, HT8.out, below_then HB0.out HB8.out⟩
  | false =>
    have hds : dd = [] := HDD.out
    subst dd
    have HT7 : Hid (∃ Y, DocT O ([] ++ ms1.map (fun d => (d, (1 : Int))) ++ ([] : List Dp).map fun d => (d, (1 : Int))) w0 w6 w.heap.size (.slice a6 n6 c6) Y) := by
      have e := HT6.out
      unfold Hid
      rw [List.map_nil, List.append_nil]
      exact e
    go_wp2_with (go_at_call 74; refine (HA3.out _ _ _ _ HB6.out HT7.out).mono ?_; rintro e w8 ⟨a8, n8, c8, rfl, ht8, hb8⟩; have HT8 := hide3 ht8; have HB8 := hide3 (below_then HB6.out hb8); clear ht8 hb8)
    go_ret
    exact ⟨_, rfl, HT8.out, below_then HB0.out HB8.out⟩
end Go.Proofs.YtbjbhgkbnegfgaaGreatDoor
