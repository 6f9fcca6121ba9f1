/- Ct6, laid in one text. -/
import Derived.Test.YtbjbhgkbnegfgaaGreatDoorMg08
namespace Go.Proofs.YtbjbhgkbnegfgaaGreatDoor
open Go.RowKit Go.Maps Go.WideMaps
set_option maxRecDepth 100000

set_option maxHeartbeats 3200000 in
theorem get_none {w : World} {B C M : Nat} {L : List CV} (h : CatAt w B C M L) {s : ByteArray} {a b c : Int} (hk : KeyOk s a b c) (hx : catC L s a b c = none) : Calls Tryz.prog 17 #[.pointer (some ⟨C, 0, none⟩), .string s, .agg #[.int .i64 a, .int .i64 b, .int .i64 c]] w fun e w' => e = .returned (.tuple #[zPg, .bool false]) ∧ Below w.heap.size w w' := by
  have HW : Hid (Below w.heap.size w ((w.alloc (.cells #[.int .i64 a, .int .i64 b, .int .i64 c] 31)).alloc (.cells #[.string ⟨#[]⟩, .int .i64 0, .int .i64 0, .int .i64 0, .slice none 0 0, .slice none 0 0, .slice none 0 0] 34))) := boxB2 _ _ _
  have HC := hide3 (h.below HW.out)
  have c0 : ((w.alloc (.cells #[.int .i64 a, .int .i64 b, .int .i64 c] 31)).alloc (.cells #[.string ⟨#[]⟩, .int .i64 0, .int .i64 0, .int .i64 0, .slice none 0 0, .slice none 0 0, .slice none 0 0] 34)).cell? ⟨w.heap.size, 0, none⟩ = some (.int .i64 a) := by simp
  have c1 : ((w.alloc (.cells #[.int .i64 a, .int .i64 b, .int .i64 c] 31)).alloc (.cells #[.string ⟨#[]⟩, .int .i64 0, .int .i64 0, .int .i64 0, .slice none 0 0, .slice none 0 0, .slice none 0 0] 34)).cell? ⟨w.heap.size, 1, none⟩ = some (.int .i64 b) := by simp
  have c2 : ((w.alloc (.cells #[.int .i64 a, .int .i64 b, .int .i64 c] 31)).alloc (.cells #[.string ⟨#[]⟩, .int .i64 0, .int .i64 0, .int .i64 0, .slice none 0 0, .slice none 0 0, .slice none 0 0] 34)).cell? ⟨w.heap.size, 2, none⟩ = some (.int .i64 c) := by simp
  have BR := hide3 (BxPF.new (w := w.alloc (.cells #[.int .i64 a, .int .i64 b, .int .i64 c] 31)) (N := w.heap.size + 1) (by simp) ⟨#[]⟩ 0 0 0 (.slice none 0 0) (.slice none 0 0) (.slice none 0 0))
  have hlt : w.heap.size < ((w.alloc (.cells #[.int .i64 a, .int .i64 b, .int .i64 c] 31)).alloc (.cells #[.string ⟨#[]⟩, .int .i64 0, .int .i64 0, .int .i64 0, .slice none 0 0, .slice none 0 0, .slice none 0 0] 34)).heap.size := by simp; omega
  have HFIN : Hid (∀ W2, Below ((w.alloc (.cells #[.int .i64 a, .int .i64 b, .int .i64 c] 31)).alloc (.cells #[.string ⟨#[]⟩, .int .i64 0, .int .i64 0, .int .i64 0, .slice none 0 0, .slice none 0 0, .slice none 0 0] 34)).heap.size ((w.alloc (.cells #[.int .i64 a, .int .i64 b, .int .i64 c] 31)).alloc (.cells #[.string ⟨#[]⟩, .int .i64 0, .int .i64 0, .int .i64 0, .slice none 0 0, .slice none 0 0, .slice none 0 0] 34)) W2 → ∀ u0 u1 u2 u3 u4 u5 u6, Ending.returned (.tuple #[.agg #[.string ByteArray.empty, .int .i64 0, .int .i64 0, .int .i64 0, .slice none 0 0, .slice none 0 0, .slice none 0 0], .bool false]) = .returned (.tuple #[zPg, .bool false]) ∧ Below w.heap.size w (((((((W2.setCell ⟨w.heap.size + 1, 0, none⟩ u0).setCell ⟨w.heap.size + 1, 1, none⟩ u1).setCell ⟨w.heap.size + 1, 2, none⟩ u2).setCell ⟨w.heap.size + 1, 3, none⟩ u3).setCell ⟨w.heap.size + 1, 4, none⟩ u4).setCell ⟨w.heap.size + 1, 5, none⟩ u5).setCell ⟨w.heap.size + 1, 6, none⟩ u6)) := fun W2 hb u0 u1 u2 u3 u4 u5 u6 => ⟨rfl, below_set7 (by omega) (below_then HW.out hb)⟩
  go_enter Tryz.func17, Tryz.ntmps17
  go_wp2_with fail
  generalize ((w.alloc (.cells #[.int .i64 a, .int .i64 b, .int .i64 c] 31)).alloc (.cells #[.string ⟨#[]⟩, .int .i64 0, .int .i64 0, .int .i64 0, .slice none 0 0, .slice none 0 0, .slice none 0 0] 34)) = W at *
  obtain ⟨⟨k0, k1, k2⟩, _⟩ := HC.out
  have l1 := look_cat (HC.out.below (Below.refl _ _).drew) hk
  have l2 := look_cat ((HC.out.below (boxB W (.cells #[.string ⟨#[]⟩, .int .i64 0, .int .i64 0, .int .i64 0, .slice none 0 0, .slice none 0 0, .slice none 0 0] 34))).below (Below.refl _ _).drew) hk
  rw [gotV, hx, pinV] at l1 l2
  simp only [Option.isSome, zPg] at l1 l2
  have e0 := ((boxB W (.cells #[.string ⟨#[]⟩, .int .i64 0, .int .i64 0, .int .i64 0, .slice none 0 0, .slice none 0 0, .slice none 0 0] 34)).cell (p := ⟨w.heap.size, 0, none⟩) hlt).trans c0
  have e1 := ((boxB W (.cells #[.string ⟨#[]⟩, .int .i64 0, .int .i64 0, .int .i64 0, .slice none 0 0, .slice none 0 0, .slice none 0 0] 34)).cell (p := ⟨w.heap.size, 1, none⟩) hlt).trans c1
  have e2 := ((boxB W (.cells #[.string ⟨#[]⟩, .int .i64 0, .int .i64 0, .int .i64 0, .slice none 0 0, .slice none 0 0, .slice none 0 0] 34)).cell (p := ⟨w.heap.size, 2, none⟩) hlt).trans c2
  have e3 := ((boxB W (.cells #[.string ⟨#[]⟩, .int .i64 0, .int .i64 0, .int .i64 0, .slice none 0 0, .slice none 0 0, .slice none 0 0] 34)).cell (p := ⟨C, 0, none⟩) k1).trans k0
  go_region
  all_goals have HB2 : Hid (Below W.heap.size W (W.alloc (.cells #[.string ByteArray.empty, .int .i64 0, .int .i64 0, .int .i64 0, .slice none 0 0, .slice none 0 0, .slice none 0 0] 34)).drew) := (boxB _ _).drew
  all_goals generalize (W.alloc (.cells #[.string ByteArray.empty, .int .i64 0, .int .i64 0, .int .i64 0, .slice none 0 0, .slice none 0 0, .slice none 0 0] 34)).drew = W2 at *
  all_goals clear l1 l2 e0 e1 e2 e3 c0 c1 c2
  all_goals obtain ⟨⟨r0, r1, r2, r3, r4, r5, r6, r7⟩, hfz⟩ := keepBxPF _ _ _ _ _ _ _ _ _ _ BR.out HB2.out
  all_goals have f0 := hfz 0 (by decide)
  all_goals have f1 := hfz 1 (by decide)
  all_goals have f2 := hfz 2 (by decide)
  all_goals have f3 := hfz 3 (by decide)
  all_goals have f4 := hfz 4 (by decide)
  all_goals have f5 := hfz 5 (by decide)
  all_goals have f6 := hfz 6 (by decide)
  all_goals clear hfz
  all_goals have s7 := fun u0 u1 u2 u3 u4 u5 u6 => set7 r0 r1 r2 r3 r4 r5 r6 u0 u1 u2 u3 u4 u5 u6
  all_goals go_wp2
  all_goals try simp only [Exit.inBlock, Exit.then]
  all_goals refine bodyPost_ret (by simp [results, Tryz.results17, s7, go_sem]; try rfl) rfl ?_
  all_goals exact HFIN.out _ HB2.out _ _ _ _ _ _ _
theorem own_sl1 {w : World} {B : Nat} {P : Pg} {v1 v2 v3 : Value} (h : OwnG w B P v1 v2 v3) : ∃ a n c, v1 = .slice a n c := by
  obtain ⟨q1, q2, q3, ⟨d1, _⟩, _⟩ := h
  obtain ⟨a, c, e⟩ := d1.len
  exact ⟨a, _, c, e⟩
theorem own_sl2 {w : World} {B : Nat} {P : Pg} {v1 v2 v3 : Value} (h : OwnG w B P v1 v2 v3) : ∃ a n c, v2 = .slice a n c := by
  obtain ⟨q1, q2, q3, _, ⟨d1, _⟩, _⟩ := h
  obtain ⟨a, c, e⟩ := d1.len
  exact ⟨a, _, c, e⟩
theorem own_sl3 {w : World} {B : Nat} {P : Pg} {v1 v2 v3 : Value} (h : OwnG w B P v1 v2 v3) : ∃ a n c, v3 = .slice a n c := by
  obtain ⟨q1, q2, q3, _, _, d1, _⟩ := h
  obtain ⟨a, c, e⟩ := d1.len
  exact ⟨a, _, c, e⟩
theorem OwnG.base {w : World} {B B' : Nat} {P : Pg} {v1 v2 v3 : Value} (h : OwnG w B P v1 v2 v3) (hB : B' ≤ B) : OwnG w B' P v1 v2 v3 := by
  obtain ⟨q1, q2, q3, ⟨d1, m1⟩, ⟨d2, m2⟩, d3, m3⟩ := h
  exact ⟨q1, q2, q3, ⟨d1.base hB, m1⟩, ⟨d2.base hB, m2⟩, d3.base hB, m3⟩

set_option maxHeartbeats 3200000 in
theorem get_some {w : World} {B C M : Nat} {L : List CV} (h : CatAt w B C M L) {P : Pg} {v1 v2 v3 : Value} (hx : catC L P.nm P.a P.b P.c = some ⟨P, v1, v2, v3⟩) : Calls Tryz.prog 17 #[.pointer (some ⟨C, 0, none⟩), .string P.nm, .agg #[.int .i64 P.a, .int .i64 P.b, .int .i64 P.c]] w fun e w' => ∃ u1 u2 u3, e = .returned (.tuple #[.agg #[.string P.nm, .int .i64 P.a, .int .i64 P.b, .int .i64 P.c, u1, u2, u3], .bool true]) ∧ OwnG w' w.heap.size P u1 u2 u3 ∧ Below w.heap.size w w' := by
  have hk : KeyOk P.nm P.a P.b P.c := h.keys _ (h.find hx).1
  have HF := hide3 (h.find hx)
  have HOG := hide3 HF.out.2.2.2.2.2.1
  have HSM := hide3 HF.out.2.2.2.2.2.2.2
  obtain ⟨a1, n1, c1, rfl⟩ := own_sl1 HOG.out
  obtain ⟨a2, n2, c2, rfl⟩ := own_sl2 HOG.out
  obtain ⟨a3, n3, c3, rfl⟩ := own_sl3 HOG.out
  have HW : Hid (Below w.heap.size w ((w.alloc (.cells #[.int .i64 P.a, .int .i64 P.b, .int .i64 P.c] 31)).alloc (.cells #[.string ⟨#[]⟩, .int .i64 0, .int .i64 0, .int .i64 0, .slice none 0 0, .slice none 0 0, .slice none 0 0] 34))) := boxB2 _ _ _
  have HC := hide3 (h.below HW.out)
  have c0 : ((w.alloc (.cells #[.int .i64 P.a, .int .i64 P.b, .int .i64 P.c] 31)).alloc (.cells #[.string ⟨#[]⟩, .int .i64 0, .int .i64 0, .int .i64 0, .slice none 0 0, .slice none 0 0, .slice none 0 0] 34)).cell? ⟨w.heap.size, 0, none⟩ = some (.int .i64 P.a) := by simp
  have c1' : ((w.alloc (.cells #[.int .i64 P.a, .int .i64 P.b, .int .i64 P.c] 31)).alloc (.cells #[.string ⟨#[]⟩, .int .i64 0, .int .i64 0, .int .i64 0, .slice none 0 0, .slice none 0 0, .slice none 0 0] 34)).cell? ⟨w.heap.size, 1, none⟩ = some (.int .i64 P.b) := by simp
  have c2' : ((w.alloc (.cells #[.int .i64 P.a, .int .i64 P.b, .int .i64 P.c] 31)).alloc (.cells #[.string ⟨#[]⟩, .int .i64 0, .int .i64 0, .int .i64 0, .slice none 0 0, .slice none 0 0, .slice none 0 0] 34)).cell? ⟨w.heap.size, 2, none⟩ = some (.int .i64 P.c) := by simp
  have BR := hide3 (BxPF.new (w := w.alloc (.cells #[.int .i64 P.a, .int .i64 P.b, .int .i64 P.c] 31)) (N := w.heap.size + 1) (by simp) ⟨#[]⟩ 0 0 0 (.slice none 0 0) (.slice none 0 0) (.slice none 0 0))
  have hlt : w.heap.size < ((w.alloc (.cells #[.int .i64 P.a, .int .i64 P.b, .int .i64 P.c] 31)).alloc (.cells #[.string ⟨#[]⟩, .int .i64 0, .int .i64 0, .int .i64 0, .slice none 0 0, .slice none 0 0, .slice none 0 0] 34)).heap.size := by simp; omega
  have hsz : Hid (((w.alloc (.cells #[.int .i64 P.a, .int .i64 P.b, .int .i64 P.c] 31)).alloc (.cells #[.string ⟨#[]⟩, .int .i64 0, .int .i64 0, .int .i64 0, .slice none 0 0, .slice none 0 0, .slice none 0 0] 34)).heap.size = w.heap.size + 2) := by unfold Hid; simp
  have HCP : Hid (∀ W2, Below w.heap.size w W2 → Calls Tryz.prog 58 #[.agg #[.string P.nm, .int .i64 P.a, .int .i64 P.b, .int .i64 P.c, .slice a1 n1 c1, .slice a2 n2 c2, .slice a3 n3 c3]] W2 fun e w' => ∃ u1 u2 u3, e = .returned (.agg #[.string P.nm, .int .i64 P.a, .int .i64 P.b, .int .i64 P.c, u1, u2, u3]) ∧ OwnG w' W2.heap.size P u1 u2 u3 ∧ Below W2.heap.size W2 w') := fun W2 hb => copied_any (HOG.out.below hb).at HSM.out
  have HFIN : Hid (∀ W3 x1 y1 z1 x2 y2 z2 x3 y3 z3, OwnG W3 (w.heap.size + 2) P (.slice x1 y1 z1) (.slice x2 y2 z2) (.slice x3 y3 z3) → Below w.heap.size w W3 → ∀ t0 t1 t2 t3 t4 t5 t6, ∃ u1 u2 u3, Ending.returned (.tuple #[.agg #[.string P.nm, .int .i64 P.a, .int .i64 P.b, .int .i64 P.c, .slice x1 y1 z1, .slice x2 y2 z2, .slice x3 y3 z3], .bool true]) = .returned (.tuple #[.agg #[.string P.nm, .int .i64 P.a, .int .i64 P.b, .int .i64 P.c, u1, u2, u3], .bool true]) ∧ OwnG (((((((W3.setCell ⟨w.heap.size + 1, 0, none⟩ t0).setCell ⟨w.heap.size + 1, 1, none⟩ t1).setCell ⟨w.heap.size + 1, 2, none⟩ t2).setCell ⟨w.heap.size + 1, 3, none⟩ t3).setCell ⟨w.heap.size + 1, 4, none⟩ t4).setCell ⟨w.heap.size + 1, 5, none⟩ t5).setCell ⟨w.heap.size + 1, 6, none⟩ t6) w.heap.size P u1 u2 u3 ∧ Below w.heap.size w (((((((W3.setCell ⟨w.heap.size + 1, 0, none⟩ t0).setCell ⟨w.heap.size + 1, 1, none⟩ t1).setCell ⟨w.heap.size + 1, 2, none⟩ t2).setCell ⟨w.heap.size + 1, 3, none⟩ t3).setCell ⟨w.heap.size + 1, 4, none⟩ t4).setCell ⟨w.heap.size + 1, 5, none⟩ t5).setCell ⟨w.heap.size + 1, 6, none⟩ t6)) := fun W3 x1 y1 z1 x2 y2 z2 x3 y3 z3 ho hb t0 t1 t2 t3 t4 t5 t6 => ⟨_, _, _, rfl, by
    obtain ⟨q1, q2, q3, ⟨d1, m1⟩, ⟨d2, m2⟩, d3, m3⟩ := ho
    exact ⟨q1, q2, q3, ⟨(d1.of fun g hg _ => heap7 (by omega)).base (by omega), m1⟩, ⟨(d2.of fun g hg _ => heap7 (by omega)).base (by omega), m2⟩, (d3.of fun g hg _ => heap7 (by omega)).base (by omega), m3⟩, below_set7 (by omega) hb⟩
  clear h
  go_enter Tryz.func17, Tryz.ntmps17
  go_wp2_with fail
  generalize ((w.alloc (.cells #[.int .i64 P.a, .int .i64 P.b, .int .i64 P.c] 31)).alloc (.cells #[.string ⟨#[]⟩, .int .i64 0, .int .i64 0, .int .i64 0, .slice none 0 0, .slice none 0 0, .slice none 0 0] 34)) = W at *
  obtain ⟨⟨k0, k1, k2⟩, _⟩ := HC.out
  have l1 := look_cat (HC.out.below (Below.refl _ _).drew) hk
  have l2 := look_cat ((HC.out.below (boxB W (.cells #[.string ⟨#[]⟩, .int .i64 0, .int .i64 0, .int .i64 0, .slice none 0 0, .slice none 0 0, .slice none 0 0] 34))).below (Below.refl _ _).drew) hk
  rw [gotV, hx, pinV] at l1 l2
  simp only [Option.isSome, cvV] at l1 l2
  have e0 := ((boxB W (.cells #[.string ⟨#[]⟩, .int .i64 0, .int .i64 0, .int .i64 0, .slice none 0 0, .slice none 0 0, .slice none 0 0] 34)).cell (p := ⟨w.heap.size, 0, none⟩) hlt).trans c0
  have e1 := ((boxB W (.cells #[.string ⟨#[]⟩, .int .i64 0, .int .i64 0, .int .i64 0, .slice none 0 0, .slice none 0 0, .slice none 0 0] 34)).cell (p := ⟨w.heap.size, 1, none⟩) hlt).trans c1'
  have e2 := ((boxB W (.cells #[.string ⟨#[]⟩, .int .i64 0, .int .i64 0, .int .i64 0, .slice none 0 0, .slice none 0 0, .slice none 0 0] 34)).cell (p := ⟨w.heap.size, 2, none⟩) hlt).trans c2'
  have e3 := ((boxB W (.cells #[.string ⟨#[]⟩, .int .i64 0, .int .i64 0, .int .i64 0, .slice none 0 0, .slice none 0 0, .slice none 0 0] 34)).cell (p := ⟨C, 0, none⟩) k1).trans k0
  clear hx
  go_region
  all_goals have HB2 : Hid (Below W.heap.size W (W.alloc (.cells #[.string P.nm, .int .i64 P.a, .int .i64 P.b, .int .i64 P.c, .slice a1 n1 c1, .slice a2 n2 c2, .slice a3 n3 c3] 34)).drew) := (boxB _ _).drew
  all_goals have HBX : Hid (BxP (W.alloc (.cells #[.string P.nm, .int .i64 P.a, .int .i64 P.b, .int .i64 P.c, .slice a1 n1 c1, .slice a2 n2 c2, .slice a3 n3 c3] 34)).drew W.heap.size P.nm P.a P.b P.c (.slice a1 n1 c1) (.slice a2 n2 c2) (.slice a3 n3 c3)) := keepBxP _ _ _ _ _ _ _ _ _ _ (BxP.new rfl _ _ _ _ _ _ _) (Below.refl _ _).drew
  all_goals generalize (W.alloc (.cells #[.string P.nm, .int .i64 P.a, .int .i64 P.b, .int .i64 P.c, .slice a1 n1 c1, .slice a2 n2 c2, .slice a3 n3 c3] 34)).drew = W2 at *
  all_goals clear l1 l2 e0 e1 e2 e3 c0 c1' c2'
  all_goals obtain ⟨b0, b1, b2, b3, b4, b5, b6, b7⟩ := HBX.out
  all_goals go_wp2_with (go_at_call 58; refine (HCP.out W2 (below_then HW.out HB2.out)).mono ?_; rintro e W3 ⟨u1, u2, u3, rfl, ho, hb3⟩; obtain ⟨x1, y1, z1, rfl⟩ : ∃ a n c, u1 = .slice a n c := own_sl1 ho; obtain ⟨x2, y2, z2, rfl⟩ : ∃ a n c, u2 = .slice a n c := own_sl2 ho; obtain ⟨x3, y3, z3, rfl⟩ : ∃ a n c, u3 = .slice a n c := own_sl3 ho; have HO3 : Hid (OwnG W3 (w.heap.size + 2) P (.slice x1 y1 z1) (.slice x2 y2 z2) (.slice x3 y3 z3)) := ho.base (hsz.out ▸ HB2.out.size); have HB3 : Hid (Below w.heap.size w W3) := below_then (below_then HW.out HB2.out) hb3; obtain ⟨⟨r0, r1, r2, r3, r4, r5, r6, r7⟩, hfz⟩ := keepBxPF _ _ _ _ _ _ _ _ _ _ (keepBxPF _ _ _ _ _ _ _ _ _ _ BR.out HB2.out) hb3; have f0 := hfz 0 (by decide); have f1 := hfz 1 (by decide); have f2 := hfz 2 (by decide); have f3 := hfz 3 (by decide); have f4 := hfz 4 (by decide); have f5 := hfz 5 (by decide); have f6 := hfz 6 (by decide); clear hfz ho hb3; have s7 := fun u0 u1 u2 u3 u4 u5 u6 => set7 r0 r1 r2 r3 r4 r5 r6 u0 u1 u2 u3 u4 u5 u6)
  all_goals try simp only [Exit.inBlock, Exit.then]
  all_goals refine bodyPost_ret (by simp [results, Tryz.results17, s7, go_sem]; try rfl) rfl ?_
  all_goals exact HFIN.out _ _ _ _ _ _ _ _ _ _ HO3.out HB3.out _ _ _ _ _ _ _
end Go.Proofs.YtbjbhgkbnegfgaaGreatDoor
