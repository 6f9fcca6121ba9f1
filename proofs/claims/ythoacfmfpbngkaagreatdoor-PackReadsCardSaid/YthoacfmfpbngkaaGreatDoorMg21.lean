/- Ps4, Ps5, Ps6, Ps7, laid in one text. -/
import Derived.RegionTactic
import Derived.ChangeAlike
import Derived.Deep.CutRange
import Derived.BigRegion
import Derived.Test.YthoacfmfpbngkaaGreatDoorMg20
namespace Go.Proofs.YthoacfmfpbngkaaGreatDoor
open Go.RowKit
set_option maxRecDepth 100000

/-- A package's variable that may be written. -/
def BxPF (w : World) (N : Nat) (s : ByteArray) (a b c : Int) (v1 v2 v3 : Value) : Prop := BxP w N s a b c v1 v2 v3 ∧ ∀ i, i < 7 → w.frozen? ⟨N, i, none⟩ = false
theorem keepBxPF (N : Nat) (s : ByteArray) (a b c : Int) (v1 v2 v3 : Value) : KeepP fun w1 => BxPF w1 N s a b c v1 v2 v3 := fun _ _ h hb =>
  ⟨keepBxP _ _ _ _ _ _ _ _ _ _ h.1 hb, fun i hi => (hb.frozen (p := ⟨N, i, none⟩) h.1.2.2.2.2.2.2.2).trans (h.2 i hi)⟩
theorem BxPF.new {w : World} {N : Nat} (hN : w.heap.size = N) (s : ByteArray) (a b c : Int) (v1 v2 v3 : Value) : BxPF (w.alloc (.cells #[.string s, .int .i64 a, .int .i64 b, .int .i64 c, v1, v2, v3] 26)) N s a b c v1 v2 v3 := by
  refine ⟨BxP.new hN _ _ _ _ _ _ _, fun i hi => ?_⟩
  subst hN
  simp
theorem set_far {w : World} {N i j : Nat} {u x : Value} (h : i ≠ j) (hx : w.cell? ⟨N, j, none⟩ = some x) : (w.setCell ⟨N, i, none⟩ u).cell? ⟨N, j, none⟩ = some x := (World.cell?_setCell_other _ _ _ _ (fun e => by cases e; exact h rfl)).trans hx
theorem set7 {w : World} {N : Nat} {x0 x1 x2 x3 x4 x5 x6 : Value} (j0 : w.cell? ⟨N, 0, none⟩ = some x0) (j1 : w.cell? ⟨N, 1, none⟩ = some x1) (j2 : w.cell? ⟨N, 2, none⟩ = some x2) (j3 : w.cell? ⟨N, 3, none⟩ = some x3) (j4 : w.cell? ⟨N, 4, none⟩ = some x4) (j5 : w.cell? ⟨N, 5, none⟩ = some x5) (j6 : w.cell? ⟨N, 6, none⟩ = some x6) (u0 u1 u2 u3 u4 u5 u6 : Value) :
    (((((((w.setCell ⟨N, 0, none⟩ u0).setCell ⟨N, 1, none⟩ u1).setCell ⟨N, 2, none⟩ u2).setCell ⟨N, 3, none⟩ u3).setCell ⟨N, 4, none⟩ u4).setCell ⟨N, 5, none⟩ u5).setCell ⟨N, 6, none⟩ u6).cell? ⟨N, 0, none⟩ = some u0 ∧ (((((((w.setCell ⟨N, 0, none⟩ u0).setCell ⟨N, 1, none⟩ u1).setCell ⟨N, 2, none⟩ u2).setCell ⟨N, 3, none⟩ u3).setCell ⟨N, 4, none⟩ u4).setCell ⟨N, 5, none⟩ u5).setCell ⟨N, 6, none⟩ u6).cell? ⟨N, 1, none⟩ = some u1 ∧ (((((((w.setCell ⟨N, 0, none⟩ u0).setCell ⟨N, 1, none⟩ u1).setCell ⟨N, 2, none⟩ u2).setCell ⟨N, 3, none⟩ u3).setCell ⟨N, 4, none⟩ u4).setCell ⟨N, 5, none⟩ u5).setCell ⟨N, 6, none⟩ u6).cell? ⟨N, 2, none⟩ = some u2 ∧ (((((((w.setCell ⟨N, 0, none⟩ u0).setCell ⟨N, 1, none⟩ u1).setCell ⟨N, 2, none⟩ u2).setCell ⟨N, 3, none⟩ u3).setCell ⟨N, 4, none⟩ u4).setCell ⟨N, 5, none⟩ u5).setCell ⟨N, 6, none⟩ u6).cell? ⟨N, 3, none⟩ = some u3 ∧ (((((((w.setCell ⟨N, 0, none⟩ u0).setCell ⟨N, 1, none⟩ u1).setCell ⟨N, 2, none⟩ u2).setCell ⟨N, 3, none⟩ u3).setCell ⟨N, 4, none⟩ u4).setCell ⟨N, 5, none⟩ u5).setCell ⟨N, 6, none⟩ u6).cell? ⟨N, 4, none⟩ = some u4 ∧ (((((((w.setCell ⟨N, 0, none⟩ u0).setCell ⟨N, 1, none⟩ u1).setCell ⟨N, 2, none⟩ u2).setCell ⟨N, 3, none⟩ u3).setCell ⟨N, 4, none⟩ u4).setCell ⟨N, 5, none⟩ u5).setCell ⟨N, 6, none⟩ u6).cell? ⟨N, 5, none⟩ = some u5 ∧ (((((((w.setCell ⟨N, 0, none⟩ u0).setCell ⟨N, 1, none⟩ u1).setCell ⟨N, 2, none⟩ u2).setCell ⟨N, 3, none⟩ u3).setCell ⟨N, 4, none⟩ u4).setCell ⟨N, 5, none⟩ u5).setCell ⟨N, 6, none⟩ u6).cell? ⟨N, 6, none⟩ = some u6 := by
  exact ⟨set_far (by decide) (set_far (by decide) (set_far (by decide) (set_far (by decide) (set_far (by decide) (set_far (by decide) (World.cell?_setCell_same _ _ _ (j0))))))), set_far (by decide) (set_far (by decide) (set_far (by decide) (set_far (by decide) (set_far (by decide) (World.cell?_setCell_same _ _ _ (set_far (by decide) (j1))))))), set_far (by decide) (set_far (by decide) (set_far (by decide) (set_far (by decide) (World.cell?_setCell_same _ _ _ (set_far (by decide) (set_far (by decide) (j2))))))), set_far (by decide) (set_far (by decide) (set_far (by decide) (World.cell?_setCell_same _ _ _ (set_far (by decide) (set_far (by decide) (set_far (by decide) (j3))))))), set_far (by decide) (set_far (by decide) (World.cell?_setCell_same _ _ _ (set_far (by decide) (set_far (by decide) (set_far (by decide) (set_far (by decide) (j4))))))), set_far (by decide) (World.cell?_setCell_same _ _ _ (set_far (by decide) (set_far (by decide) (set_far (by decide) (set_far (by decide) (set_far (by decide) (j5))))))), World.cell?_setCell_same _ _ _ (set_far (by decide) (set_far (by decide) (set_far (by decide) (set_far (by decide) (set_far (by decide) (set_far (by decide) (j6)))))))⟩
theorem below_set7 {w w' : World} {N B : Nat} {u0 u1 u2 u3 u4 u5 u6 : Value} (hN : B ≤ N) (h : Below B w w') : Below B w (((((((w'.setCell ⟨N, 0, none⟩ u0).setCell ⟨N, 1, none⟩ u1).setCell ⟨N, 2, none⟩ u2).setCell ⟨N, 3, none⟩ u3).setCell ⟨N, 4, none⟩ u4).setCell ⟨N, 5, none⟩ u5).setCell ⟨N, 6, none⟩ u6) :=
  (((((((h.setCell (p := ⟨N, 0, none⟩) hN _).setCell (p := ⟨N, 1, none⟩) hN _).setCell (p := ⟨N, 2, none⟩) hN _).setCell (p := ⟨N, 3, none⟩) hN _).setCell (p := ⟨N, 4, none⟩) hN _).setCell (p := ⟨N, 5, none⟩) hN _).setCell (p := ⟨N, 6, none⟩) hN _)

/-- What readHead answers. -/
def headE (ws : List Sc.Bs) : Int := if ws.head? = some [112, 97, 99, 107, 97, 103, 101] ∧ ws.length = 3 then (if Sc.nameA (ws.getD 1 []) = true then (if okP (Sc.ba (ws.getD 2 [])) = true then 0 else 20) else 23) else 22
/-- The package that is read so far, beside an error's number. -/
def HeadQ (w : World) (ws : List Sc.Bs) (er : Int) (e : Ending) (w' : World) : Prop := ∃ s a b c, e = .returned (.tuple #[.agg #[.string s, .int .i64 a, .int .i64 b, .int .i64 c, .slice none 0 0, .slice none 0 0, .slice none 0 0], .int .i64 er]) ∧ Below w.heap.size w w' ∧ (er = 0 → s = Sc.ba (ws.getD 1 []) ∧ a = resA (Sc.ba (ws.getD 2 [])) ∧ b = resB (Sc.ba (ws.getD 2 [])) ∧ c = resC (Sc.ba (ws.getD 2 []))) ∧ (er ≠ 0 → s = ⟨#[]⟩ ∧ a = 0 ∧ b = 0 ∧ c = 0)
theorem HeadQ.err {w w' : World} {ws : List Sc.Bs} {er : Int} (h : er ≠ 0) (hb : Below w.heap.size w w') : HeadQ w ws er (.returned (.tuple #[.agg #[.string ⟨#[]⟩, .int .i64 0, .int .i64 0, .int .i64 0, .slice none 0 0, .slice none 0 0, .slice none 0 0], .int .i64 er])) w' := ⟨_, _, _, _, rfl, hb, fun e => absurd e h, fun _ => ⟨rfl, rfl, rfl, rfl⟩⟩
end Go.Proofs.YthoacfmfpbngkaaGreatDoor
namespace Go.Proofs.YthoacfmfpbngkaaGreatDoor
open Go.RowKit
set_option maxRecDepth 100000

theorem ba_list (l : Sc.Bs) : (Sc.ba l).data.toList = l := by simp [Sc.ba]

set_option maxHeartbeats 1000000 in
theorem readHead_short {ws : List Sc.Bs} {p0 : Sc.Bs} {g o cap : Nat} {n : Nat} {w : World} (c0 : w.cell? ⟨g, o, none⟩ = some (.string (Sc.ba p0))) (hn : 0 < n) (hg : g < w.heap.size) (h : p0 ≠ [112, 97, 99, 107, 97, 103, 101] ∨ n ≠ 3) :
    Calls Tryz.prog 21 #[.slice (some ⟨g, o, none⟩) n cap] w (HeadQ w ws 22) := by
  have HER : Hid (∀ w', Below w.heap.size w w' → HeadQ w ws 22 (.returned (.tuple #[.agg #[.string ⟨#[]⟩, .int .i64 0, .int .i64 0, .int .i64 0, .slice none 0 0, .slice none 0 0, .slice none 0 0], .int .i64 22])) w') := fun w' hb => HeadQ.err (by decide) hb
  have c0' : (w.alloc (.cells #[.string ⟨#[]⟩, .int .i64 0, .int .i64 0, .int .i64 0, .slice none 0 0, .slice none 0 0, .slice none 0 0] 26)).cell? ⟨g, o, none⟩ = some (.string (Sc.ba p0)) := ((boxB w _).cell (p := ⟨g, o, none⟩) hg).trans c0
  have hn' : (0 : Int) < (n : Int) := by omega
  have ht := ba_toList p0
  generalize HeadQ w ws 22 = HQ at *
  generalize Sc.ba p0 = s0 at *
  by_cases hp : p0 = [112, 97, 99, 107, 97, 103, 101]
  · have hn3 : ((n : Int) == 3) = false := by
      rcases h with h | h
      · exact (h hp).elim
      · rw [beq_eq_false_iff_ne]; omega
    have hq : (s0.toList == [112, 97, 99, 107, 97, 103, 101]) = true := by rw [ht, hp]; rfl
    clear h ht
    go_enter Tryz.func21, Tryz.ntmps21
    go_wp2
    try simp only [Exit.inBlock, Exit.then]
    refine bodyPost_ret (by simp [results, Tryz.results21, go_sem]; try rfl) rfl ?_
    exact HER.out _ (boxB _ _)
  · have hq : (s0.toList == [112, 97, 99, 107, 97, 103, 101]) = false := by rw [ht, beq_eq_false_iff_ne]; exact hp
    clear h ht
    go_enter Tryz.func21, Tryz.ntmps21
    go_wp2
    try simp only [Exit.inBlock, Exit.then]
    refine bodyPost_ret (by simp [results, Tryz.results21, go_sem]; try rfl) rfl ?_
    exact HER.out _ (boxB _ _)

set_option maxHeartbeats 1000000 in
theorem readHead_noName {ws : List Sc.Bs} {s1 : ByteArray} {g o cap : Nat} {w : World} (c0 : w.cell? ⟨g, o, none⟩ = some (.string ⟨#[112, 97, 99, 107, 97, 103, 101]⟩)) (c1 : w.cell? ⟨g, o + 1, none⟩ = some (.string s1)) (hg : g < w.heap.size) (h : Sc.nameA s1.data.toList = false) :
    Calls Tryz.prog 21 #[.slice (some ⟨g, o, none⟩) 3 cap] w (HeadQ w ws 23) := by
  have HER : Hid (∀ w', Below w.heap.size w w' → HeadQ w ws 23 (.returned (.tuple #[.agg #[.string ⟨#[]⟩, .int .i64 0, .int .i64 0, .int .i64 0, .slice none 0 0, .slice none 0 0, .slice none 0 0], .int .i64 23])) w') := fun w' hb => HeadQ.err (by decide) hb
  have HN : Hid (∀ w1, Calls Tryz.prog 36 #[.string s1] w1 fun e w' => e = .returned (.bool false) ∧ w' = w1) := fun w1 => by have := Sc.Name_any s1 w1; rw [h] at this; exact this
  have c0' : (w.alloc (.cells #[.string ⟨#[]⟩, .int .i64 0, .int .i64 0, .int .i64 0, .slice none 0 0, .slice none 0 0, .slice none 0 0] 26)).cell? ⟨g, o, none⟩ = some (.string ⟨#[112, 97, 99, 107, 97, 103, 101]⟩) := ((boxB w _).cell (p := ⟨g, o, none⟩) hg).trans c0
  have c1' : (w.alloc (.cells #[.string ⟨#[]⟩, .int .i64 0, .int .i64 0, .int .i64 0, .slice none 0 0, .slice none 0 0, .slice none 0 0] 26)).cell? ⟨g, o + 1, none⟩ = some (.string s1) := ((boxB w _).cell (p := ⟨g, o + 1, none⟩) hg).trans c1
  generalize HeadQ w ws 23 = HQ at *
  clear h
  go_enter Tryz.func21, Tryz.ntmps21
  go_wp2_with (go_at_call 36; refine (HN.out _).mono ?_; rintro e w1 ⟨rfl, rfl⟩)
  try simp only [Exit.inBlock, Exit.then]
  refine bodyPost_ret (by simp [results, Tryz.results21, go_sem]; try rfl) rfl ?_
  exact HER.out _ (boxB _ _)

set_option maxHeartbeats 1000000 in
theorem readHead_noVer {ws : List Sc.Bs} {s1 s2 : ByteArray} {g o cap : Nat} {w : World} (c0 : w.cell? ⟨g, o, none⟩ = some (.string ⟨#[112, 97, 99, 107, 97, 103, 101]⟩)) (c1 : w.cell? ⟨g, o + 1, none⟩ = some (.string s1)) (c2 : w.cell? ⟨g, o + 2, none⟩ = some (.string s2)) (hg : g < w.heap.size) (h : Sc.nameA s1.data.toList = true) (hz : s2.size < 4294967281) (he : Env w) (hv : okP s2 = false) :
    Calls Tryz.prog 21 #[.slice (some ⟨g, o, none⟩) 3 cap] w (HeadQ w ws 20) := by
  have HER : Hid (∀ w', Below w.heap.size w w' → HeadQ w ws 20 (.returned (.tuple #[.agg #[.string ⟨#[]⟩, .int .i64 0, .int .i64 0, .int .i64 0, .slice none 0 0, .slice none 0 0, .slice none 0 0], .int .i64 20])) w') := fun w' hb => HeadQ.err (by decide) hb
  have HN : Hid (∀ w1, Calls Tryz.prog 36 #[.string s1] w1 fun e w' => e = .returned (.bool true) ∧ w' = w1) := fun w1 => by have := Sc.Name_any s1 w1; rw [h] at this; exact this
  have HP : Hid (∀ w1, Below w.heap.size w w1 → Calls Tryz.prog 37 #[.string s2] w1 fun e w' => e = .returned (.tuple #[.agg #[.int .i64 (resA s2), .int .i64 (resB s2), .int .i64 (resC s2)], .bool false]) ∧ Below w1.heap.size w1 w') := fun w1 hb => by have := Parse_any s2 hz w1 (he.below hb); rw [hv] at this; exact this
  have HB0 : Hid (BxPF (w.alloc (.cells #[.string ⟨#[]⟩, .int .i64 0, .int .i64 0, .int .i64 0, .slice none 0 0, .slice none 0 0, .slice none 0 0] 26)) w.heap.size ⟨#[]⟩ 0 0 0 (.slice none 0 0) (.slice none 0 0) (.slice none 0 0)) := BxPF.new rfl _ _ _ _ _ _ _
  have HKB : Hid (KeepP fun w1 => BxPF w1 w.heap.size ⟨#[]⟩ 0 0 0 (.slice none 0 0) (.slice none 0 0) (.slice none 0 0)) := keepBxPF _ _ _ _ _ _ _ _
  have c0' : (w.alloc (.cells #[.string ⟨#[]⟩, .int .i64 0, .int .i64 0, .int .i64 0, .slice none 0 0, .slice none 0 0, .slice none 0 0] 26)).cell? ⟨g, o, none⟩ = some (.string ⟨#[112, 97, 99, 107, 97, 103, 101]⟩) := ((boxB w _).cell (p := ⟨g, o, none⟩) hg).trans c0
  have c1' : (w.alloc (.cells #[.string ⟨#[]⟩, .int .i64 0, .int .i64 0, .int .i64 0, .slice none 0 0, .slice none 0 0, .slice none 0 0] 26)).cell? ⟨g, o + 1, none⟩ = some (.string s1) := ((boxB w _).cell (p := ⟨g, o + 1, none⟩) hg).trans c1
  have c2' : (w.alloc (.cells #[.string ⟨#[]⟩, .int .i64 0, .int .i64 0, .int .i64 0, .slice none 0 0, .slice none 0 0, .slice none 0 0] 26)).cell? ⟨g, o + 2, none⟩ = some (.string s2) := ((boxB w _).cell (p := ⟨g, o + 2, none⟩) hg).trans c2
  generalize HeadQ w ws 20 = HQ at *
  generalize resA s2 = ra at *
  generalize resB s2 = rb at *
  generalize resC s2 = rc at *
  clear h he hv hz
  go_enter Tryz.func21, Tryz.ntmps21
  go_wp2_with (first
    | (go_at_call 36; refine (HN.out _).mono ?_; rintro e w1 ⟨rfl, rfl⟩)
    | (go_at_call 37; refine (HP.out _ (boxB _ _)).mono ?_; rintro e w2 ⟨rfl, ok⟩; have HO2 : Hid (Below w.heap.size w (w2.alloc (.cells #[.int .i64 ra, .int .i64 rb, .int .i64 rc] 23)) ∧ BxPF (w2.alloc (.cells #[.int .i64 ra, .int .i64 rb, .int .i64 rc] 23)) w.heap.size ⟨#[]⟩ 0 0 0 (.slice none 0 0) (.slice none 0 0) (.slice none 0 0)) := ⟨below_then (below_then (boxB _ _) ok) (boxB _ _), HKB.out _ _ (HKB.out _ _ HB0.out ok) (boxB _ _)⟩; obtain ⟨⟨b0, b1, b2, b3, b4, b5, b6, b7⟩, hfz⟩ := HO2.out.2; have f0 := hfz 0 (by decide); have f1 := hfz 1 (by decide); have f2 := hfz 2 (by decide); have f3 := hfz 3 (by decide); have f4 := hfz 4 (by decide); have f5 := hfz 5 (by decide); have f6 := hfz 6 (by decide); clear ok hfz))
  have s7 := fun u0 u1 u2 u3 u4 u5 u6 => set7 b0 b1 b2 b3 b4 b5 b6 u0 u1 u2 u3 u4 u5 u6
  try simp only [Exit.inBlock, Exit.then]
  refine bodyPost_ret (by simp [results, Tryz.results21, s7, go_sem]; try rfl) rfl ?_
  exact HER.out _ (below_set7 (Nat.le_refl _) HO2.out.1)
end Go.Proofs.YthoacfmfpbngkaaGreatDoor
namespace Go.Proofs.YthoacfmfpbngkaaGreatDoor
open Go.RowKit
set_option maxRecDepth 100000

set_option maxHeartbeats 1600000 in
theorem readHead_ok {ws : List Sc.Bs} {s1 s2 : ByteArray} {g o cap : Nat} {w : World} (c0 : w.cell? ⟨g, o, none⟩ = some (.string ⟨#[112, 97, 99, 107, 97, 103, 101]⟩)) (c1 : w.cell? ⟨g, o + 1, none⟩ = some (.string s1)) (c2 : w.cell? ⟨g, o + 2, none⟩ = some (.string s2)) (hg : g < w.heap.size) (h : Sc.nameA s1.data.toList = true) (hz : s2.size < 4294967281) (he : Env w) (hv : okP s2 = true) (h1 : s1 = Sc.ba (ws.getD 1 [])) (h2 : s2 = Sc.ba (ws.getD 2 [])) :
    Calls Tryz.prog 21 #[.slice (some ⟨g, o, none⟩) 3 cap] w (HeadQ w ws 0) := by
  have HOK : Hid (∀ w', Below w.heap.size w w' → HeadQ w ws 0 (.returned (.tuple #[.agg #[.string s1, .int .i64 (resA s2), .int .i64 (resB s2), .int .i64 (resC s2), .slice none 0 0, .slice none 0 0, .slice none 0 0], .int .i64 0])) w') := fun w' hb => ⟨_, _, _, _, rfl, hb, fun _ => ⟨h1, by rw [← h2], by rw [← h2], by rw [← h2]⟩, fun e => absurd rfl e⟩
  have HN : Hid (∀ w1, Calls Tryz.prog 36 #[.string s1] w1 fun e w' => e = .returned (.bool true) ∧ w' = w1) := fun w1 => by have := Sc.Name_any s1 w1; rw [h] at this; exact this
  have HP : Hid (∀ w1, Below w.heap.size w w1 → Calls Tryz.prog 37 #[.string s2] w1 fun e w' => e = .returned (.tuple #[.agg #[.int .i64 (resA s2), .int .i64 (resB s2), .int .i64 (resC s2)], .bool true]) ∧ Below w1.heap.size w1 w') := fun w1 hb => by have := Parse_any s2 hz w1 (he.below hb); rw [hv] at this; exact this
  have HB0 : Hid (BxPF (w.alloc (.cells #[.string ⟨#[]⟩, .int .i64 0, .int .i64 0, .int .i64 0, .slice none 0 0, .slice none 0 0, .slice none 0 0] 26)) w.heap.size ⟨#[]⟩ 0 0 0 (.slice none 0 0) (.slice none 0 0) (.slice none 0 0)) := BxPF.new rfl _ _ _ _ _ _ _
  have HKB : Hid (KeepP fun w1 => BxPF w1 w.heap.size ⟨#[]⟩ 0 0 0 (.slice none 0 0) (.slice none 0 0) (.slice none 0 0)) := keepBxPF _ _ _ _ _ _ _ _
  have c0' : (w.alloc (.cells #[.string ⟨#[]⟩, .int .i64 0, .int .i64 0, .int .i64 0, .slice none 0 0, .slice none 0 0, .slice none 0 0] 26)).cell? ⟨g, o, none⟩ = some (.string ⟨#[112, 97, 99, 107, 97, 103, 101]⟩) := ((boxB w _).cell (p := ⟨g, o, none⟩) hg).trans c0
  have c1' : (w.alloc (.cells #[.string ⟨#[]⟩, .int .i64 0, .int .i64 0, .int .i64 0, .slice none 0 0, .slice none 0 0, .slice none 0 0] 26)).cell? ⟨g, o + 1, none⟩ = some (.string s1) := ((boxB w _).cell (p := ⟨g, o + 1, none⟩) hg).trans c1
  have c2' : (w.alloc (.cells #[.string ⟨#[]⟩, .int .i64 0, .int .i64 0, .int .i64 0, .slice none 0 0, .slice none 0 0, .slice none 0 0] 26)).cell? ⟨g, o + 2, none⟩ = some (.string s2) := ((boxB w _).cell (p := ⟨g, o + 2, none⟩) hg).trans c2
  generalize HeadQ w ws 0 = HQ at *
  generalize resA s2 = ra at *
  generalize resB s2 = rb at *
  generalize resC s2 = rc at *
  clear h he hv hz h1 h2
  go_enter Tryz.func21, Tryz.ntmps21
  go_wp2_with (first
    | (go_at_call 36; refine (HN.out _).mono ?_; rintro e w1 ⟨rfl, rfl⟩)
    | (go_at_call 37; refine (HP.out _ (boxB _ _)).mono ?_; rintro e w2 ⟨rfl, ok⟩; have HO2 : Hid (Below w.heap.size w (w2.alloc (.cells #[.int .i64 ra, .int .i64 rb, .int .i64 rc] 23)) ∧ BxPF (w2.alloc (.cells #[.int .i64 ra, .int .i64 rb, .int .i64 rc] 23)) w.heap.size ⟨#[]⟩ 0 0 0 (.slice none 0 0) (.slice none 0 0) (.slice none 0 0)) := ⟨below_then (below_then (boxB _ _) ok) (boxB _ _), HKB.out _ _ (HKB.out _ _ HB0.out ok) (boxB _ _)⟩; obtain ⟨⟨b0, b1, b2, b3, b4, b5, b6, b7⟩, hfz⟩ := HO2.out.2; have f0 := hfz 0 (by decide); have f1 := hfz 1 (by decide); have f2 := hfz 2 (by decide); have f3 := hfz 3 (by decide); have f4 := hfz 4 (by decide); have f5 := hfz 5 (by decide); have f6 := hfz 6 (by decide); have d1 : (w2.alloc (.cells #[.int .i64 ra, .int .i64 rb, .int .i64 rc] 23)).cell? ⟨g, o + 1, none⟩ = some (.string s1) := (HO2.out.1.cell (p := ⟨g, o + 1, none⟩) hg).trans c1; clear ok hfz))
  have v0 : (w2.alloc (.cells #[.int .i64 ra, .int .i64 rb, .int .i64 rc] 23)).cell? ⟨w2.heap.size, 0, none⟩ = some (.int .i64 ra) := by simp
  have v1 : (w2.alloc (.cells #[.int .i64 ra, .int .i64 rb, .int .i64 rc] 23)).cell? ⟨w2.heap.size, 1, none⟩ = some (.int .i64 rb) := by simp
  have v2 : (w2.alloc (.cells #[.int .i64 ra, .int .i64 rb, .int .i64 rc] 23)).cell? ⟨w2.heap.size, 2, none⟩ = some (.int .i64 rc) := by simp
  generalize w2.alloc (.cells #[.int .i64 ra, .int .i64 rb, .int .i64 rc] 23) = w3 at *
  generalize w2.heap.size = M at *
  clear HB0 HKB c0 c1 c2 c0' c1' c2'
  have s7 := fun u0 u1 u2 u3 u4 u5 u6 => set7 b0 b1 b2 b3 b4 b5 b6 u0 u1 u2 u3 u4 u5 u6
  go_region
  go_wp2
  refine bodyPost_ret (by simp [results, Tryz.results21, s7, go_sem]; try rfl) rfl ?_
  refine HOK.out _ ?_
  exact (below_set7 (Nat.le_refl _) HO2.out.1).drew

/-- readHead, of any line that has a word. -/
theorem readHead_any {ws : List Sc.Bs} {v : Value} {w : World} (h : Sc.WordsAt w v ws) (hne : ws ≠ []) (hz : ∀ x ∈ ws, x.length ≤ 5000) (he : Env w) : Calls Tryz.prog 21 #[v] w (HeadQ w ws (headE ws)) := by
  obtain ⟨ad, cap, rfl, hc, hs⟩ := h
  rcases hs with hs | ⟨g, o, rfl, hg, hs⟩
  · exact absurd hs hne
  · have hl : 0 < ws.length := List.length_pos_iff.2 hne
    have c0 := hs 0 hl
    have hh : ws.head? = some ws[0] := by
      cases ws with
      | nil => exact absurd rfl hne
      | cons x r => rfl
    by_cases hp : ws.head? = some [112, 97, 99, 107, 97, 103, 101] ∧ ws.length = 3
    · obtain ⟨hp1, hp2⟩ := hp
      have e0 : ws[0] = [112, 97, 99, 107, 97, 103, 101] := by rw [hh] at hp1; exact Option.some.inj hp1
      have c1 := hs 1 (by omega)
      have c2 := hs 2 (by omega)
      have g1 : ws.getD 1 [] = ws[1] := by rw [List.getD_eq_getElem?_getD, List.getElem?_eq_getElem (by omega)]; rfl
      have g2 : ws.getD 2 [] = ws[2] := by rw [List.getD_eq_getElem?_getD, List.getElem?_eq_getElem (by omega)]; rfl
      have z2 : (Sc.ba ws[2]).size < 4294967281 := by rw [Sc.ba_size]; have := hz _ (List.getElem_mem (show 2 < ws.length by omega)); omega
      rw [e0] at c0
      unfold headE
      rw [if_pos ⟨hp1, hp2⟩, g1, g2]
      clear hs hc
      revert c1 c2 g1 g2 z2
      generalize h1 : ws[1] = t1
      generalize h2 : ws[2] = t2
      intro c1 c2 g1 g2 z2
      rw [hp2]
      cases hn : Sc.nameA t1
      · rw [if_neg (by simp)]
        exact readHead_noName c0 c1 hg (by rw [Sc.ba_list]; exact hn)
      · rw [if_pos rfl]
        cases hv : okP (Sc.ba t2)
        · rw [if_neg (by simp)]
          exact readHead_noVer c0 c1 c2 hg (by rw [Sc.ba_list]; exact hn) z2 he hv
        · rw [if_pos rfl]
          exact readHead_ok c0 c1 c2 hg (by rw [Sc.ba_list]; exact hn) z2 he hv (by rw [g1]) (by rw [g2])
    · unfold headE
      rw [if_neg hp]
      exact readHead_short c0 hl hg (by
        by_cases h3 : ws.length = 3
        · exact Or.inl fun e => hp ⟨by rw [hh, e], h3⟩
        · exact Or.inr h3)
end Go.Proofs.YthoacfmfpbngkaaGreatDoor
namespace Go.Proofs.YthoacfmfpbngkaaGreatDoor
open Go.RowKit
set_option maxRecDepth 100000

/-- The words of a package's lists. -/
def pkW : List Sc.Bs := [[110, 101, 101, 100, 115], [98, 101, 115, 105, 100, 101], [108, 105, 107, 101, 115]]
/-- What readLines answers. -/
def linesE : List (List Sc.Bs) → Int
  | [] => 22
  | h :: r => if headE h = 0 then (readF pkW 0 [[], [], []] r).1 else headE h
def linesP : List (List Sc.Bs) → Pg
  | [] => ⟨⟨#[]⟩, 0, 0, 0, [], [], []⟩
  | h :: r => ⟨Sc.ba (h.getD 1 []), resA (Sc.ba (h.getD 2 [])), resB (Sc.ba (h.getD 2 [])), resC (Sc.ba (h.getD 2 [])), (readF pkW 0 [[], [], []] r).2.getD 0 [], (readF pkW 0 [[], [], []] r).2.getD 1 [], (readF pkW 0 [[], [], []] r).2.getD 2 []⟩

theorem OwnD.of {w w' : World} {B : Nat} {v : Value} {ps : List (Dp × Value)} (h : OwnD w B v ps) (hk : ∀ g, B ≤ g → w'.heap[g]? = w.heap[g]?) : OwnD w' B v ps :=
  ⟨own_of h.1 fun g hg => hk g (h.1.lt g hg).1, fun p hp => (h.2 p hp).of_block fun g hg => hk g ((h.2 p hp).lt hg).2⟩
/-- A package's lists, of one's own. -/
def OwnP (w : World) (B : Nat) (P : Pg) (v1 v2 v3 : Value) : Prop := ∃ q1 q2 q3, (OwnD w B v1 q1 ∧ q1.map (·.1) = P.d) ∧ (OwnD w B v2 q2 ∧ q2.map (·.1) = P.p) ∧ (OwnD w B v3 q3 ∧ q3.map (·.1) = P.o)
theorem OwnP.below {w w' : World} {B : Nat} {P : Pg} {v1 v2 v3 : Value} (h : OwnP w B P v1 v2 v3) (hb : Below w.heap.size w w') : OwnP w' B P v1 v2 v3 := by
  obtain ⟨q1, q2, q3, h1, h2, h3⟩ := h
  exact ⟨q1, q2, q3, ⟨h1.1.below hb, h1.2⟩, ⟨h2.1.below hb, h2.2⟩, h3.1.below hb, h3.2⟩
theorem OwnP.base {w : World} {B C : Nat} {P : Pg} {v1 v2 v3 : Value} (h : OwnP w B P v1 v2 v3) (hc : C ≤ B) : OwnP w C P v1 v2 v3 := by
  obtain ⟨q1, q2, q3, h1, h2, h3⟩ := h
  exact ⟨q1, q2, q3, ⟨h1.1.base hc, h1.2⟩, ⟨h2.1.base hc, h2.2⟩, h3.1.base hc, h3.2⟩
theorem OwnP.of {w w' : World} {B : Nat} {P : Pg} {v1 v2 v3 : Value} (h : OwnP w B P v1 v2 v3) (hk : ∀ g, B ≤ g → w'.heap[g]? = w.heap[g]?) : OwnP w' B P v1 v2 v3 := by
  obtain ⟨q1, q2, q3, h1, h2, h3⟩ := h
  exact ⟨q1, q2, q3, ⟨h1.1.of hk, h1.2⟩, ⟨h2.1.of hk, h2.2⟩, h3.1.of hk, h3.2⟩
theorem OwnP.at {w : World} {B : Nat} {P : Pg} {v1 v2 v3 : Value} (h : OwnP w B P v1 v2 v3) : PgAt w P v1 v2 v3 := by
  obtain ⟨q1, q2, q3, h1, h2, h3⟩ := h
  exact ⟨h1.2 ▸ h1.1.at, h2.2 ▸ h2.1.at, h3.2 ▸ h3.1.at⟩
theorem keepOwnP (B : Nat) (P : Pg) (v1 v2 v3 : Value) : KeepP fun w1 => OwnP w1 B P v1 v2 v3 := fun _ _ h hb => h.below hb

/-- A package that is told, beside an error's number. -/
def PkQ (w : World) (er : Int) (P : Pg) (e : Ending) (w' : World) : Prop := ∃ s a b c v1 v2 v3, e = .returned (.tuple #[.agg #[.string s, .int .i64 a, .int .i64 b, .int .i64 c, v1, v2, v3], .int .i64 er]) ∧ Below w.heap.size w w' ∧ (er = 0 → s = P.nm ∧ a = P.a ∧ b = P.b ∧ c = P.c ∧ OwnP w' w.heap.size P v1 v2 v3) ∧ (er ≠ 0 → s = ⟨#[]⟩ ∧ a = 0 ∧ b = 0 ∧ c = 0 ∧ v1 = .slice none 0 0 ∧ v2 = .slice none 0 0 ∧ v3 = .slice none 0 0)
theorem PkQ.err {w w' : World} {er er' : Int} {P : Pg} (h0 : er = er') (h : er' ≠ 0) (hb : Below w.heap.size w w') : PkQ w er P (.returned (.tuple #[.agg #[.string ⟨#[]⟩, .int .i64 0, .int .i64 0, .int .i64 0, .slice none 0 0, .slice none 0 0, .slice none 0 0], .int .i64 er'])) w' := by
  subst h0
  exact ⟨_, _, _, _, _, _, _, rfl, hb, fun e => absurd e h, fun _ => ⟨rfl, rfl, rfl, rfl, rfl, rfl, rfl⟩⟩

theorem rows3 {rows : List (Value × List (Dp × Value))} {R : List (List Dp)} (h : plainR rows = R) (hl : rows.length = 3) {w : World} {B N : Nat} (hr : RD w B N rows) (s : ByteArray) (a b c : Int) : ∃ a1 k1 c1 a2 k2 c2 a3 k3 c3, (w.cell? ⟨N, 0, none⟩ = some (.slice a1 k1 c1) ∧ w.cell? ⟨N, 1, none⟩ = some (.slice a2 k2 c2) ∧ w.cell? ⟨N, 2, none⟩ = some (.slice a3 k3 c3)) ∧ OwnP w B ⟨s, a, b, c, R.getD 0 [], R.getD 1 [], R.getD 2 []⟩ (.slice a1 k1 c1) (.slice a2 k2 c2) (.slice a3 k3 c3) := by
  subst h
  have z0 := hr.cell 0 (by omega)
  have z1 := hr.cell 1 (by omega)
  have z2 := hr.cell 2 (by omega)
  have o0 := hr.2.1 _ (List.getElem_mem (show 0 < rows.length by omega))
  have o1 := hr.2.1 _ (List.getElem_mem (show 1 < rows.length by omega))
  have o2 := hr.2.1 _ (List.getElem_mem (show 2 < rows.length by omega))
  obtain ⟨a1, c1, e1⟩ := o0.len
  obtain ⟨a2, c2, e2⟩ := o1.len
  obtain ⟨a3, c3, e3⟩ := o2.len
  rw [e1] at z0 o0
  rw [e2] at z1 o1
  rw [e3] at z2 o2
  exact ⟨a1, _, c1, a2, _, c2, a3, _, c3, ⟨z0, z1, z2⟩, _, _, _, ⟨o0, (plainR_get (show 0 < rows.length by omega)).symm⟩, ⟨o1, (plainR_get (show 1 < rows.length by omega)).symm⟩, o2, (plainR_get (show 2 < rows.length by omega)).symm⟩
theorem words_new (w : World) : Sc.WordsAt (w.alloc (.cells #[.string (lwK 0), .string (lwK 1), .string (lwK 2)] 9)) (.slice (some ⟨w.heap.size, 0, none⟩) 3 3) pkW := by
  refine ⟨_, 3, rfl, by decide, Or.inr ⟨w.heap.size, 0, rfl, by simp, fun i hi => ?_⟩⟩
  match i, hi with
  | 0, _ => simp; rfl
  | 1, _ => simp; rfl
  | 2, _ => simp; rfl
theorem readF_len {X : List Sc.Bs} : ∀ (Lns : List (List Sc.Bs)) (a : Nat) (acc : List (List Dp)), (readF X a acc Lns).1 = 0 → (readF X a acc Lns).2.length = acc.length
  | [], _, _, _ => rfl
  | ln :: r, a, acc, h => by
    unfold readF at h ⊢
    split at h
    · cases h
    · split at h
      · cases h
      · split at h
        · rename_i h1 h2 h3
          rw [if_neg h1, if_neg h2, if_pos h3]
          rw [readF_len r _ _ h, List.length_set]
        · rename_i h1 h2 h3
          exact absurd h h3

theorem set456 {w : World} {N : Nat} {s : ByteArray} {a b c : Int} {u1 u2 u3 v1 v2 v3 : Value} (h : BxP w N s a b c u1 u2 u3) : BxP (((w.setCell ⟨N, 4, none⟩ v1).setCell ⟨N, 5, none⟩ v2).setCell ⟨N, 6, none⟩ v3) N s a b c v1 v2 v3 := by
  obtain ⟨j0, j1, j2, j3, j4, j5, j6, j7⟩ := h
  have f : ∀ i x, i < 4 → w.cell? ⟨N, i, none⟩ = some x → (((w.setCell ⟨N, 4, none⟩ v1).setCell ⟨N, 5, none⟩ v2).setCell ⟨N, 6, none⟩ v3).cell? ⟨N, i, none⟩ = some x := fun i x hi hx => set_far (by omega) (set_far (by omega) (set_far (by omega) hx))
  exact ⟨f 0 _ (by decide) j0, f 1 _ (by decide) j1, f 2 _ (by decide) j2, f 3 _ (by decide) j3, set_far (by decide) (set_far (by decide) (World.cell?_setCell_same _ _ _ j4)), set_far (by decide) (World.cell?_setCell_same _ _ _ (set_far (by decide) j5)), World.cell?_setCell_same _ _ _ (set_far (by decide) (set_far (by decide) j6)), by simpa using j7⟩
theorem heap456 {w : World} {N g : Nat} {v1 v2 v3 : Value} (h : g ≠ N) : (((w.setCell ⟨N, 4, none⟩ v1).setCell ⟨N, 5, none⟩ v2).setCell ⟨N, 6, none⟩ v3).heap[g]? = w.heap[g]? :=
  (Below.heap_setCell _ _ _ _ h).trans ((Below.heap_setCell _ _ _ _ h).trans (Below.heap_setCell _ _ _ _ h))
theorem BxPF.of {w w' : World} {N : Nat} {s : ByteArray} {a b c : Int} {v1 v2 v3 : Value} (h : BxPF w N s a b c v1 v2 v3) (hk : w'.heap[N]? = w.heap[N]?) (hs : w.heap.size ≤ w'.heap.size) : BxPF w' N s a b c v1 v2 v3 := by
  have q : ∀ i, w'.cell? ⟨N, i, none⟩ = w.cell? ⟨N, i, none⟩ := fun i => World.cell?_of_block (a := ⟨N, i, none⟩) hk
  obtain ⟨⟨h0, h1, h2, h3, h4, h5, h6, h7⟩, hf⟩ := h
  exact ⟨⟨by rw [q]; exact h0, by rw [q]; exact h1, by rw [q]; exact h2, by rw [q]; exact h3, by rw [q]; exact h4, by rw [q]; exact h5, by rw [q]; exact h6, Nat.lt_of_lt_of_le h7 hs⟩, fun i hi => (World.frozen?_of_block (a := ⟨N, i, none⟩) hk).trans (hf i hi)⟩

theorem heap7 {w : World} {N g : Nat} {u0 u1 u2 u3 u4 u5 u6 : Value} (h : g ≠ N) : (((((((w.setCell ⟨N, 0, none⟩ u0).setCell ⟨N, 1, none⟩ u1).setCell ⟨N, 2, none⟩ u2).setCell ⟨N, 3, none⟩ u3).setCell ⟨N, 4, none⟩ u4).setCell ⟨N, 5, none⟩ u5).setCell ⟨N, 6, none⟩ u6).heap[g]? = w.heap[g]? :=
  (Below.heap_setCell _ _ _ _ h).trans ((Below.heap_setCell _ _ _ _ h).trans ((Below.heap_setCell _ _ _ _ h).trans ((Below.heap_setCell _ _ _ _ h).trans ((Below.heap_setCell _ _ _ _ h).trans ((Below.heap_setCell _ _ _ _ h).trans ((Below.heap_setCell _ _ _ _ h)))))))

set_option maxHeartbeats 1600000 in
theorem readLines_nil (w : World) (ad : Option Addr) (cap : Nat) : Calls Tryz.prog 9 #[.slice ad 0 cap] w (PkQ w (linesE []) (linesP [])) := by
  have HER : Hid (∀ w', Below w.heap.size w w' → PkQ w (linesE []) (linesP []) (.returned (.tuple #[.agg #[.string ⟨#[]⟩, .int .i64 0, .int .i64 0, .int .i64 0, .slice none 0 0, .slice none 0 0, .slice none 0 0], .int .i64 22])) w') := fun w' hb => PkQ.err rfl (by decide) hb
  generalize PkQ w (linesE []) (linesP []) = HQ at *
  go_enter Tryz.func9, Tryz.ntmps9
  go_wp2
  try simp only [Exit.inBlock, Exit.then]
  refine bodyPost_ret (by simp [results, Tryz.results9, go_sem]; try rfl) rfl ?_
  exact HER.out _ (boxB _ _)

set_option maxHeartbeats 6400000 in
theorem readLines_one {h : List Sc.Bs} {u : Value} {w : World} {g o : Nat} (c0 : w.cell? ⟨g, o, none⟩ = some u) (hu : Sc.WordsAt w u h) (hg : g < w.heap.size) (hne : h ≠ []) (hz : ∀ x ∈ h, x.length ≤ 5000) (he : Env w) (hf : FL w) :
    Calls Tryz.prog 9 #[.slice (some ⟨g, o, none⟩) 1 1] w (PkQ w (linesE (h :: [])) (linesP (h :: []))) := by
  have HRH : Hid (∀ w1, Below w.heap.size w w1 → Calls Tryz.prog 21 #[u] w1 (HeadQ w1 h (headE h))) := fun w1 hb => readHead_any (hu.below hb) hne hz (he.below hb)
  have HLI : Hid (∀ w1 vx, Below w.heap.size w w1 → Sc.WordsAt w1 vx pkW → Calls Tryz.prog 22 #[.slice (some ⟨g, o, none⟩) 0 0, vx] w1 (ReadQ w1 (readF pkW 0 [[], [], []] ([])))) := fun w1 vx hb hx => Read_any (X := pkW) (Lns := []) ⟨_, 0, rfl, Nat.le_refl _, Or.inl rfl⟩ hx (by decide) (by simp) (fun ln hl => by cases hl) (he.below hb) (hf.below hb)
  have HER : Hid (∀ er w', linesE (h :: []) = er → er ≠ 0 → Below w.heap.size w w' → PkQ w (linesE (h :: [])) (linesP (h :: [])) (.returned (.tuple #[.agg #[.string ⟨#[]⟩, .int .i64 0, .int .i64 0, .int .i64 0, .slice none 0 0, .slice none 0 0, .slice none 0 0], .int .i64 er])) w') := fun er w' h1 h2 hb => PkQ.err h1 h2 hb
  have HOK : Hid (∀ s a b c v1 v2 v3 w', linesE (h :: []) = 0 → Below w.heap.size w w' → s = (linesP (h :: [])).nm → a = (linesP (h :: [])).a → b = (linesP (h :: [])).b → c = (linesP (h :: [])).c → OwnP w' w.heap.size (linesP (h :: [])) v1 v2 v3 → PkQ w (linesE (h :: [])) (linesP (h :: [])) (.returned (.tuple #[.agg #[.string s, .int .i64 a, .int .i64 b, .int .i64 c, v1, v2, v3], .int .i64 0])) w') := fun s a b c v1 v2 v3 w' h0 hb e1 e2 e3 e4 ho => by
    rw [h0]
    exact ⟨s, a, b, c, v1, v2, v3, rfl, hb, fun _ => ⟨e1, e2, e3, e4, ho⟩, fun hx => absurd rfl hx⟩
  have HE : Hid (linesE (h :: []) = if headE h = 0 then (readF pkW 0 [[], [], []] ([])).1 else headE h) := rfl
  have HP : Hid (linesP (h :: []) = ⟨Sc.ba (h.getD 1 []), resA (Sc.ba (h.getD 2 [])), resB (Sc.ba (h.getD 2 [])), resC (Sc.ba (h.getD 2 [])), (readF pkW 0 [[], [], []] ([])).2.getD 0 [], (readF pkW 0 [[], [], []] ([])).2.getD 1 [], (readF pkW 0 [[], [], []] ([])).2.getD 2 []⟩) := rfl
  have HRL := hide3 (readF_len (X := pkW) ([]) 0 [[], [], []])
  obtain ⟨au, cu, rfl⟩ : ∃ ad cap, u = .slice ad h.length cap := by
    obtain ⟨ad, cap, e, _⟩ := hu
    exact ⟨ad, cap, e⟩
  clear hu hne hz he hf
  generalize linesE (h :: []) = LE at *
  generalize linesP (h :: []) = LP at *
  generalize readF pkW 0 [[], [], []] ([]) = RF at *
  generalize hHQ : PkQ w LE LP = HQ at *
  clear hHQ
  have HHQ : Hid (∀ w1 e w', HeadQ w1 h (headE h) e w' → ∃ s a b c, e = .returned (.tuple #[.agg #[.string s, .int .i64 a, .int .i64 b, .int .i64 c, .slice none 0 0, .slice none 0 0, .slice none 0 0], .int .i64 (headE h)]) ∧ Below w1.heap.size w1 w' ∧ (headE h = 0 → s = Sc.ba (h.getD 1 []) ∧ a = resA (Sc.ba (h.getD 2 [])) ∧ b = resB (Sc.ba (h.getD 2 [])) ∧ c = resC (Sc.ba (h.getD 2 [])))) := fun w1 e w' hq => by
    obtain ⟨s, a, b, c, h1, h2, h3, _⟩ := hq
    exact ⟨s, a, b, c, h1, h2, h3⟩
  generalize headE h = eh at *
  have c0' : (w.alloc (.cells #[.string ⟨#[]⟩, .int .i64 0, .int .i64 0, .int .i64 0, .slice none 0 0, .slice none 0 0, .slice none 0 0] 26)).cell? ⟨g, o, none⟩ = some (.slice au h.length cu) := ((boxB w _).cell (p := ⟨g, o, none⟩) hg).trans c0
  have HB0 : Hid (BxPF (w.alloc (.cells #[.string ⟨#[]⟩, .int .i64 0, .int .i64 0, .int .i64 0, .slice none 0 0, .slice none 0 0, .slice none 0 0] 26)) w.heap.size ⟨#[]⟩ 0 0 0 (.slice none 0 0) (.slice none 0 0) (.slice none 0 0)) := BxPF.new rfl _ _ _ _ _ _ _
  have HKB : Hid (KeepP fun w1 => BxPF w1 w.heap.size ⟨#[]⟩ 0 0 0 (.slice none 0 0) (.slice none 0 0) (.slice none 0 0)) := keepBxPF _ _ _ _ _ _ _ _
  by_cases h0 : eh = 0
  · subst h0
    go_enter Tryz.func9, Tryz.ntmps9
    go_wp2_with (go_at_call 21; refine (HRH.out _ (boxB _ _)).mono ?_; rintro e w2 hq; obtain ⟨s, a, b, c, rfl, hb2, hok2⟩ := HHQ.out _ _ _ hq; obtain ⟨e1, e2, e3, e4⟩ := hok2 rfl; have HS : Hid (s = Sc.ba (h.getD 1 []) ∧ a = resA (Sc.ba (h.getD 2 [])) ∧ b = resB (Sc.ba (h.getD 2 [])) ∧ c = resC (Sc.ba (h.getD 2 []))) := ⟨e1, e2, e3, e4⟩; have HB2 : Hid (Below w.heap.size w w2) := below_then (boxB _ _) hb2; have HX2 := hide3 (HKB.out _ _ HB0.out hb2); clear hb2 hq hok2 e1 e2 e3 e4)
    have HB3 : Hid (Below w.heap.size w (w2.alloc (.cells #[.string s, .int .i64 a, .int .i64 b, .int .i64 c, .slice none 0 0, .slice none 0 0, .slice none 0 0] 26))) := below_then HB2.out (boxB _ _)
    have HX3 : Hid (BxPF (w2.alloc (.cells #[.string s, .int .i64 a, .int .i64 b, .int .i64 c, .slice none 0 0, .slice none 0 0, .slice none 0 0] 26)) w.heap.size ⟨#[]⟩ 0 0 0 (.slice none 0 0) (.slice none 0 0) (.slice none 0 0)) := HKB.out _ _ HX2.out (boxB _ _)
    have HY3 : Hid (BxPF (w2.alloc (.cells #[.string s, .int .i64 a, .int .i64 b, .int .i64 c, .slice none 0 0, .slice none 0 0, .slice none 0 0] 26)) w2.heap.size s a b c (.slice none 0 0) (.slice none 0 0) (.slice none 0 0)) := BxPF.new rfl _ _ _ _ _ _ _
    have hMN : w.heap.size < w2.heap.size := HX2.out.1.2.2.2.2.2.2.2
    generalize w2.alloc (.cells #[.string s, .int .i64 a, .int .i64 b, .int .i64 c, .slice none 0 0, .slice none 0 0, .slice none 0 0] 26) = w3 at *
    generalize w2.heap.size = M at *
    clear HX2 HB2 HB0
    have hM3 : M < w3.heap.size := HY3.out.1.2.2.2.2.2.2.2
    have HWA : Hid (Sc.WordsAt (w3.drew.alloc (.cells #[.string (lwK 0), .string (lwK 1), .string (lwK 2)] 9)) (.slice (some ⟨w3.heap.size, 0, none⟩) 3 3) pkW) := words_new w3.drew
    go_upto_region 6 with fail
    go_cut [5, 6] from 7 (fun s5 s6 wx => ∃ vr, s5 = .int .i64 RF.1 ∧ s6 = vr ∧ Below w3.heap.size w3 wx ∧ (RF.1 = 0 → ∃ B N rows, M < B ∧ w.heap.size ≤ B ∧ vr = .slice (some ⟨N, 0, none⟩) rows.length rows.length ∧ RD wx B N rows ∧ plainR rows = RF.2))
    case first =>
      go_region_held3 (fun _ => True) (go_keep)
        (first
          | (go_at_call 23; refine (listWords_any _).mono ?_; rintro e w4 ⟨rfl, hw4⟩; subst hw4)
          | (go_at_call 22; refine (HLI.out _ _ (below_then HB3.out (below_then (Below.refl _ _).drew (boxB _ _))) HWA.out).mono ?_; rintro e w5 ⟨vr, rfl, hb5, hok5, _⟩; have HB5 : Hid (Below w3.heap.size w3 w5) := below_then (below_then (Below.refl _ _).drew (boxB _ _)) hb5; have HR5 : Hid (RF.1 = 0 → ∃ B N rows, M < B ∧ w.heap.size ≤ B ∧ vr = .slice (some ⟨N, 0, none⟩) rows.length rows.length ∧ RD w5 B N rows ∧ plainR rows = RF.2) := (fun e0 => by obtain ⟨N, rows, x1, x2, x3⟩ := hok5 e0; exact ⟨_, N, rows, by simp; omega, by simp; omega, x1, x2, x3⟩); clear hb5 hok5))
      go_wp2_with fail
      go_meet
      exact ⟨vr, rfl, rfl, HB5.out, HR5.out⟩
    case rest =>
      obtain ⟨vr, rfl, rfl, hbc, hrc⟩ := hcut
      have HBC : Hid (Below w.heap.size w wc) := below_then HB3.out hbc
      have HXC := hide3 (HKB.out _ _ HX3.out hbc)
      have HYC := hide3 (keepBxPF _ _ _ _ _ _ _ _ _ _ HY3.out hbc)
      clear hbc
      by_cases hr0 : RF.1 = 0
      · obtain ⟨B, N, rows, hMB, hwB, rfl, hRD, hpl⟩ := hrc hr0
        have hL0 : LE = 0 := by rw [HE.out]; simpa using hr0
        have hrl : rows.length = 3 := by have := HRL.out hr0; rw [← hpl] at this; unfold plainR at this; simpa using this
        obtain ⟨a1, k1, c1, a2, k2, c2, a3, k3, c3, ⟨n0, n1, n2⟩, hop⟩ := rows3 hpl hrl hRD LP.nm LP.a LP.b LP.c
        have HOP : Hid (OwnP wc B LP (.slice a1 k1 c1) (.slice a2 k2 c2) (.slice a3 k3 c3)) := by
          have e : LP = ⟨LP.nm, LP.a, LP.b, LP.c, RF.2.getD 0 [], RF.2.getD 1 [], RF.2.getD 2 []⟩ := by rw [HP.out]
          rw [e]
          exact hop
        have HNB : Hid (B ≤ N) := hRD.size.1
        have hNM : N ≠ M := by have := hRD.size.1; omega
        clear hop hrc hRD hpl
        rw [hrl]
        rw [hr0]
        obtain ⟨⟨y0, y1, y2, y3, y4, y5, y6, y7⟩, hfy⟩ := HYC.out
        have fy4 := hfy 4 (by decide)
        have fy5 := hfy 5 (by decide)
        have fy6 := hfy 6 (by decide)
        clear hfy
        go_upto_region 9 with fail
        go_cut [] from 7 (fun wx => Below w.heap.size w wx ∧ BxPF wx w.heap.size ⟨#[]⟩ 0 0 0 (.slice none 0 0) (.slice none 0 0) (.slice none 0 0) ∧ BxP wx M s a b c (.slice a1 k1 c1) (.slice a2 k2 c2) (.slice a3 k3 c3) ∧ OwnP wx B LP (.slice a1 k1 c1) (.slice a2 k2 c2) (.slice a3 k3 c3))
        case first =>
          go_region
          all_goals go_wp2_with fail
          all_goals go_meet
          all_goals exact ⟨(((HBC.out.setCell (p := ⟨M, 4, none⟩) (Nat.le_of_lt hMN) _).setCell (p := ⟨M, 5, none⟩) (Nat.le_of_lt hMN) _).setCell (p := ⟨M, 6, none⟩) (Nat.le_of_lt hMN) _).drew, (keepBxPF _ _ _ _ _ _ _ _).drew (HXC.out.of (heap456 (by omega)) (by simp)), (keepBxP _ _ _ _ _ _ _ _).drew (set456 HYC.out.1), (keepOwnP _ _ _ _ _).drew (HOP.out.of fun g hg => heap456 (by omega))⟩
        case rest =>
          obtain ⟨hbd, hxd, hyd, hod⟩ := hcut
          have HBD := hide3 hbd
          have HOD := hide3 hod
          clear hbd hod y0 y1 y2 y3 y4 y5 y6 y7 fy4 fy5 fy6 n0 n1 n2
          obtain ⟨⟨b0, b1, b2, b3, b4, b5, b6, b7⟩, hfz⟩ := hxd
          obtain ⟨y0, y1, y2, y3, y4, y5, y6, y7⟩ := hyd
          have f0 := hfz 0 (by decide)
          have f1 := hfz 1 (by decide)
          have f2 := hfz 2 (by decide)
          have f3 := hfz 3 (by decide)
          have f4 := hfz 4 (by decide)
          have f5 := hfz 5 (by decide)
          have f6 := hfz 6 (by decide)
          clear hfz
          have s7 := fun u0 u1 u2 u3 u4 u5 u6 => set7 b0 b1 b2 b3 b4 b5 b6 u0 u1 u2 u3 u4 u5 u6
          go_wp2
          try simp only [Exit.inBlock, Exit.then]
          refine bodyPost_ret (by simp [results, Tryz.results9, s7, go_sem]; try rfl) rfl ?_
          refine HOK.out s a b c _ _ _ _ hL0 (below_set7 (Nat.le_refl _) HBD.out) (by rw [HP.out]; exact HS.out.1) (by rw [HP.out]; exact HS.out.2.1) (by rw [HP.out]; exact HS.out.2.2.1) (by rw [HP.out]; exact HS.out.2.2.2) ?_
          exact (HOD.out.of fun g hg => heap7 (by omega)).base hwB
      · have hL : LE = RF.1 := by rw [HE.out]; simp
        obtain ⟨⟨b0, b1, b2, b3, b4, b5, b6, b7⟩, hfz⟩ := HXC.out
        have f0 := hfz 0 (by decide)
        have f1 := hfz 1 (by decide)
        have f2 := hfz 2 (by decide)
        have f3 := hfz 3 (by decide)
        have f4 := hfz 4 (by decide)
        have f5 := hfz 5 (by decide)
        have f6 := hfz 6 (by decide)
        clear hfz
        have s7 := fun u0 u1 u2 u3 u4 u5 u6 => set7 b0 b1 b2 b3 b4 b5 b6 u0 u1 u2 u3 u4 u5 u6
        have hre : (RF.1 == 0) = false := by simpa using hr0
        go_wp2
        try simp only [Exit.inBlock, Exit.then]
        refine bodyPost_ret (by simp [results, Tryz.results9, s7, go_sem]; try rfl) rfl ?_
        exact HER.out _ _ hL hr0 (below_set7 (Nat.le_refl _) HBC.out)
  · have hL : LE = eh := by rw [HE.out, if_neg h0]
    have hre : (eh == 0) = false := by simpa using h0
    go_enter Tryz.func9, Tryz.ntmps9
    go_wp2_with (go_at_call 21; refine (HRH.out _ (boxB _ _)).mono ?_; rintro e w2 hq; obtain ⟨s, a, b, c, rfl, hb2, _⟩ := HHQ.out _ _ _ hq; have HO2 : Hid (Below w.heap.size w (w2.alloc (.cells #[.string s, .int .i64 a, .int .i64 b, .int .i64 c, .slice none 0 0, .slice none 0 0, .slice none 0 0] 26)) ∧ BxPF (w2.alloc (.cells #[.string s, .int .i64 a, .int .i64 b, .int .i64 c, .slice none 0 0, .slice none 0 0, .slice none 0 0] 26)) w.heap.size ⟨#[]⟩ 0 0 0 (.slice none 0 0) (.slice none 0 0) (.slice none 0 0)) := ⟨below_then (below_then (boxB _ _) hb2) (boxB _ _), HKB.out _ _ (HKB.out _ _ HB0.out hb2) (boxB _ _)⟩; obtain ⟨⟨b0, b1, b2, b3, b4, b5, b6, b7⟩, hfz⟩ := HO2.out.2; have f0 := hfz 0 (by decide); have f1 := hfz 1 (by decide); have f2 := hfz 2 (by decide); have f3 := hfz 3 (by decide); have f4 := hfz 4 (by decide); have f5 := hfz 5 (by decide); have f6 := hfz 6 (by decide); clear hb2 hq hfz)
    have s7 := fun u0 u1 u2 u3 u4 u5 u6 => set7 b0 b1 b2 b3 b4 b5 b6 u0 u1 u2 u3 u4 u5 u6
    try simp only [Exit.inBlock, Exit.then]
    refine bodyPost_ret (by simp [results, Tryz.results9, s7, go_sem]; try rfl) rfl ?_
    exact HER.out _ _ hL h0 (below_set7 (Nat.le_refl _) HO2.out.1)

set_option maxHeartbeats 6400000 in
theorem readLines_more {h : List Sc.Bs} {r : List (List Sc.Bs)} {u : Value} {w : World} {g o cap : Nat} (c0 : w.cell? ⟨g, o, none⟩ = some u) (hu : Sc.WordsAt w u h) (hg : g < w.heap.size) (hne : h ≠ []) (hz : ∀ x ∈ h, x.length ≤ 5000) (he : Env w) (hf : FL w) (hr : ∀ i (hi : i < r.length), ∃ u, w.cell? ⟨g, o + 1 + i, none⟩ = some u ∧ Sc.WordsAt w u r[i]) (hc : r.length + 1 ≤ cap) (hc1 : ¬ cap = 1) (hn : r.length ≤ 5000) (hs : ∀ ln ∈ r, ShortLn ln) :
    Calls Tryz.prog 9 #[.slice (some ⟨g, o, none⟩) (r.length + 1) cap] w (PkQ w (linesE (h :: r)) (linesP (h :: r))) := by
  have HRH : Hid (∀ w1, Below w.heap.size w w1 → Calls Tryz.prog 21 #[u] w1 (HeadQ w1 h (headE h))) := fun w1 hb => readHead_any (hu.below hb) hne hz (he.below hb)
  have HLI : Hid (∀ w1 vx, Below w.heap.size w w1 → Sc.WordsAt w1 vx pkW → Calls Tryz.prog 22 #[.slice (some ⟨g, o + 1, none⟩) r.length (cap - 1), vx] w1 (ReadQ w1 (readF pkW 0 [[], [], []] (r)))) := fun w1 vx hb hx => Read_any (X := pkW) (Lns := r) (Sc.LinesAt.below (w := w) ⟨_, _, rfl, by omega, Or.inr ⟨g, o + 1, rfl, hg, hr⟩⟩ hb) hx (by decide) hn hs (he.below hb) (hf.below hb)
  have HER : Hid (∀ er w', linesE (h :: r) = er → er ≠ 0 → Below w.heap.size w w' → PkQ w (linesE (h :: r)) (linesP (h :: r)) (.returned (.tuple #[.agg #[.string ⟨#[]⟩, .int .i64 0, .int .i64 0, .int .i64 0, .slice none 0 0, .slice none 0 0, .slice none 0 0], .int .i64 er])) w') := fun er w' h1 h2 hb => PkQ.err h1 h2 hb
  have HOK : Hid (∀ s a b c v1 v2 v3 w', linesE (h :: r) = 0 → Below w.heap.size w w' → s = (linesP (h :: r)).nm → a = (linesP (h :: r)).a → b = (linesP (h :: r)).b → c = (linesP (h :: r)).c → OwnP w' w.heap.size (linesP (h :: r)) v1 v2 v3 → PkQ w (linesE (h :: r)) (linesP (h :: r)) (.returned (.tuple #[.agg #[.string s, .int .i64 a, .int .i64 b, .int .i64 c, v1, v2, v3], .int .i64 0])) w') := fun s a b c v1 v2 v3 w' h0 hb e1 e2 e3 e4 ho => by
    rw [h0]
    exact ⟨s, a, b, c, v1, v2, v3, rfl, hb, fun _ => ⟨e1, e2, e3, e4, ho⟩, fun hx => absurd rfl hx⟩
  have HE : Hid (linesE (h :: r) = if headE h = 0 then (readF pkW 0 [[], [], []] (r)).1 else headE h) := rfl
  have HP : Hid (linesP (h :: r) = ⟨Sc.ba (h.getD 1 []), resA (Sc.ba (h.getD 2 [])), resB (Sc.ba (h.getD 2 [])), resC (Sc.ba (h.getD 2 [])), (readF pkW 0 [[], [], []] (r)).2.getD 0 [], (readF pkW 0 [[], [], []] (r)).2.getD 1 [], (readF pkW 0 [[], [], []] (r)).2.getD 2 []⟩) := rfl
  have HRL := hide3 (readF_len (X := pkW) (r) 0 [[], [], []])
  obtain ⟨au, cu, rfl⟩ : ∃ ad cap, u = .slice ad h.length cap := by
    obtain ⟨ad, cap, e, _⟩ := hu
    exact ⟨ad, cap, e⟩
  clear hu hne hz he hf hr hn hs
  generalize linesE (h :: r) = LE at *
  generalize linesP (h :: r) = LP at *
  generalize readF pkW 0 [[], [], []] (r) = RF at *
  generalize hHQ : PkQ w LE LP = HQ at *
  clear hHQ
  have HHQ : Hid (∀ w1 e w', HeadQ w1 h (headE h) e w' → ∃ s a b c, e = .returned (.tuple #[.agg #[.string s, .int .i64 a, .int .i64 b, .int .i64 c, .slice none 0 0, .slice none 0 0, .slice none 0 0], .int .i64 (headE h)]) ∧ Below w1.heap.size w1 w' ∧ (headE h = 0 → s = Sc.ba (h.getD 1 []) ∧ a = resA (Sc.ba (h.getD 2 [])) ∧ b = resB (Sc.ba (h.getD 2 [])) ∧ c = resC (Sc.ba (h.getD 2 [])))) := fun w1 e w' hq => by
    obtain ⟨s, a, b, c, h1, h2, h3, _⟩ := hq
    exact ⟨s, a, b, c, h1, h2, h3⟩
  generalize headE h = eh at *
  have c0' : (w.alloc (.cells #[.string ⟨#[]⟩, .int .i64 0, .int .i64 0, .int .i64 0, .slice none 0 0, .slice none 0 0, .slice none 0 0] 26)).cell? ⟨g, o, none⟩ = some (.slice au h.length cu) := ((boxB w _).cell (p := ⟨g, o, none⟩) hg).trans c0
  have HB0 : Hid (BxPF (w.alloc (.cells #[.string ⟨#[]⟩, .int .i64 0, .int .i64 0, .int .i64 0, .slice none 0 0, .slice none 0 0, .slice none 0 0] 26)) w.heap.size ⟨#[]⟩ 0 0 0 (.slice none 0 0) (.slice none 0 0) (.slice none 0 0)) := BxPF.new rfl _ _ _ _ _ _ _
  have HKB : Hid (KeepP fun w1 => BxPF w1 w.heap.size ⟨#[]⟩ 0 0 0 (.slice none 0 0) (.slice none 0 0) (.slice none 0 0)) := keepBxPF _ _ _ _ _ _ _ _
  have hb0 : (0 : Int) < (r.length : Int) + 1 := by omega
  have hb1 : (1 : Int) ≤ (r.length : Int) + 1 := by omega
  have hb2 : (r.length : Int) + 1 ≤ (cap : Int) := by omega
  have hb3 : ((r.length : Int) + 1 == 0) = false := by rw [beq_eq_false_iff_ne]; omega
  by_cases h0 : eh = 0
  · subst h0
    go_enter Tryz.func9, Tryz.ntmps9
    go_wp2_with (go_at_call 21; refine (HRH.out _ (boxB _ _)).mono ?_; rintro e w2 hq; obtain ⟨s, a, b, c, rfl, hb2, hok2⟩ := HHQ.out _ _ _ hq; obtain ⟨e1, e2, e3, e4⟩ := hok2 rfl; have HS : Hid (s = Sc.ba (h.getD 1 []) ∧ a = resA (Sc.ba (h.getD 2 [])) ∧ b = resB (Sc.ba (h.getD 2 [])) ∧ c = resC (Sc.ba (h.getD 2 []))) := ⟨e1, e2, e3, e4⟩; have HB2 : Hid (Below w.heap.size w w2) := below_then (boxB _ _) hb2; have HX2 := hide3 (HKB.out _ _ HB0.out hb2); clear hb2 hq hok2 e1 e2 e3 e4)
    have HB3 : Hid (Below w.heap.size w (w2.alloc (.cells #[.string s, .int .i64 a, .int .i64 b, .int .i64 c, .slice none 0 0, .slice none 0 0, .slice none 0 0] 26))) := below_then HB2.out (boxB _ _)
    have HX3 : Hid (BxPF (w2.alloc (.cells #[.string s, .int .i64 a, .int .i64 b, .int .i64 c, .slice none 0 0, .slice none 0 0, .slice none 0 0] 26)) w.heap.size ⟨#[]⟩ 0 0 0 (.slice none 0 0) (.slice none 0 0) (.slice none 0 0)) := HKB.out _ _ HX2.out (boxB _ _)
    have HY3 : Hid (BxPF (w2.alloc (.cells #[.string s, .int .i64 a, .int .i64 b, .int .i64 c, .slice none 0 0, .slice none 0 0, .slice none 0 0] 26)) w2.heap.size s a b c (.slice none 0 0) (.slice none 0 0) (.slice none 0 0)) := BxPF.new rfl _ _ _ _ _ _ _
    have hMN : w.heap.size < w2.heap.size := HX2.out.1.2.2.2.2.2.2.2
    generalize w2.alloc (.cells #[.string s, .int .i64 a, .int .i64 b, .int .i64 c, .slice none 0 0, .slice none 0 0, .slice none 0 0] 26) = w3 at *
    generalize w2.heap.size = M at *
    clear HX2 HB2 HB0
    have hM3 : M < w3.heap.size := HY3.out.1.2.2.2.2.2.2.2
    have HWA : Hid (Sc.WordsAt (w3.drew.alloc (.cells #[.string (lwK 0), .string (lwK 1), .string (lwK 2)] 9)) (.slice (some ⟨w3.heap.size, 0, none⟩) 3 3) pkW) := words_new w3.drew
    go_upto_region 6 with fail
    go_cut [5, 6] from 7 (fun s5 s6 wx => ∃ vr, s5 = .int .i64 RF.1 ∧ s6 = vr ∧ Below w3.heap.size w3 wx ∧ (RF.1 = 0 → ∃ B N rows, M < B ∧ w.heap.size ≤ B ∧ vr = .slice (some ⟨N, 0, none⟩) rows.length rows.length ∧ RD wx B N rows ∧ plainR rows = RF.2))
    case first =>
      go_region_held3 (fun _ => True) (go_keep)
        (first
          | (go_at_call 23; refine (listWords_any _).mono ?_; rintro e w4 ⟨rfl, hw4⟩; subst hw4)
          | (go_at_call 22; refine (HLI.out _ _ (below_then HB3.out (below_then (Below.refl _ _).drew (boxB _ _))) HWA.out).mono ?_; rintro e w5 ⟨vr, rfl, hb5, hok5, _⟩; have HB5 : Hid (Below w3.heap.size w3 w5) := below_then (below_then (Below.refl _ _).drew (boxB _ _)) hb5; have HR5 : Hid (RF.1 = 0 → ∃ B N rows, M < B ∧ w.heap.size ≤ B ∧ vr = .slice (some ⟨N, 0, none⟩) rows.length rows.length ∧ RD w5 B N rows ∧ plainR rows = RF.2) := (fun e0 => by obtain ⟨N, rows, x1, x2, x3⟩ := hok5 e0; exact ⟨_, N, rows, by simp; omega, by simp; omega, x1, x2, x3⟩); clear hb5 hok5))
      go_wp2_with fail
      go_meet
      exact ⟨vr, rfl, rfl, HB5.out, HR5.out⟩
    case rest =>
      obtain ⟨vr, rfl, rfl, hbc, hrc⟩ := hcut
      have HBC : Hid (Below w.heap.size w wc) := below_then HB3.out hbc
      have HXC := hide3 (HKB.out _ _ HX3.out hbc)
      have HYC := hide3 (keepBxPF _ _ _ _ _ _ _ _ _ _ HY3.out hbc)
      clear hbc
      by_cases hr0 : RF.1 = 0
      · obtain ⟨B, N, rows, hMB, hwB, rfl, hRD, hpl⟩ := hrc hr0
        have hL0 : LE = 0 := by rw [HE.out]; simpa using hr0
        have hrl : rows.length = 3 := by have := HRL.out hr0; rw [← hpl] at this; unfold plainR at this; simpa using this
        obtain ⟨a1, k1, c1, a2, k2, c2, a3, k3, c3, ⟨n0, n1, n2⟩, hop⟩ := rows3 hpl hrl hRD LP.nm LP.a LP.b LP.c
        have HOP : Hid (OwnP wc B LP (.slice a1 k1 c1) (.slice a2 k2 c2) (.slice a3 k3 c3)) := by
          have e : LP = ⟨LP.nm, LP.a, LP.b, LP.c, RF.2.getD 0 [], RF.2.getD 1 [], RF.2.getD 2 []⟩ := by rw [HP.out]
          rw [e]
          exact hop
        have HNB : Hid (B ≤ N) := hRD.size.1
        have hNM : N ≠ M := by have := hRD.size.1; omega
        clear hop hrc hRD hpl
        rw [hrl]
        rw [hr0]
        obtain ⟨⟨y0, y1, y2, y3, y4, y5, y6, y7⟩, hfy⟩ := HYC.out
        have fy4 := hfy 4 (by decide)
        have fy5 := hfy 5 (by decide)
        have fy6 := hfy 6 (by decide)
        clear hfy
        go_upto_region 9 with fail
        go_cut [] from 7 (fun wx => Below w.heap.size w wx ∧ BxPF wx w.heap.size ⟨#[]⟩ 0 0 0 (.slice none 0 0) (.slice none 0 0) (.slice none 0 0) ∧ BxP wx M s a b c (.slice a1 k1 c1) (.slice a2 k2 c2) (.slice a3 k3 c3) ∧ OwnP wx B LP (.slice a1 k1 c1) (.slice a2 k2 c2) (.slice a3 k3 c3))
        case first =>
          go_region
          all_goals go_wp2_with fail
          all_goals go_meet
          all_goals exact ⟨(((HBC.out.setCell (p := ⟨M, 4, none⟩) (Nat.le_of_lt hMN) _).setCell (p := ⟨M, 5, none⟩) (Nat.le_of_lt hMN) _).setCell (p := ⟨M, 6, none⟩) (Nat.le_of_lt hMN) _).drew, (keepBxPF _ _ _ _ _ _ _ _).drew (HXC.out.of (heap456 (by omega)) (by simp)), (keepBxP _ _ _ _ _ _ _ _).drew (set456 HYC.out.1), (keepOwnP _ _ _ _ _).drew (HOP.out.of fun g hg => heap456 (by omega))⟩
        case rest =>
          obtain ⟨hbd, hxd, hyd, hod⟩ := hcut
          have HBD := hide3 hbd
          have HOD := hide3 hod
          clear hbd hod y0 y1 y2 y3 y4 y5 y6 y7 fy4 fy5 fy6 n0 n1 n2
          obtain ⟨⟨b0, b1, b2, b3, b4, b5, b6, b7⟩, hfz⟩ := hxd
          obtain ⟨y0, y1, y2, y3, y4, y5, y6, y7⟩ := hyd
          have f0 := hfz 0 (by decide)
          have f1 := hfz 1 (by decide)
          have f2 := hfz 2 (by decide)
          have f3 := hfz 3 (by decide)
          have f4 := hfz 4 (by decide)
          have f5 := hfz 5 (by decide)
          have f6 := hfz 6 (by decide)
          clear hfz
          have s7 := fun u0 u1 u2 u3 u4 u5 u6 => set7 b0 b1 b2 b3 b4 b5 b6 u0 u1 u2 u3 u4 u5 u6
          go_wp2
          try simp only [Exit.inBlock, Exit.then]
          refine bodyPost_ret (by simp [results, Tryz.results9, s7, go_sem]; try rfl) rfl ?_
          refine HOK.out s a b c _ _ _ _ hL0 (below_set7 (Nat.le_refl _) HBD.out) (by rw [HP.out]; exact HS.out.1) (by rw [HP.out]; exact HS.out.2.1) (by rw [HP.out]; exact HS.out.2.2.1) (by rw [HP.out]; exact HS.out.2.2.2) ?_
          exact (HOD.out.of fun g hg => heap7 (by omega)).base hwB
      · have hL : LE = RF.1 := by rw [HE.out]; simp
        obtain ⟨⟨b0, b1, b2, b3, b4, b5, b6, b7⟩, hfz⟩ := HXC.out
        have f0 := hfz 0 (by decide)
        have f1 := hfz 1 (by decide)
        have f2 := hfz 2 (by decide)
        have f3 := hfz 3 (by decide)
        have f4 := hfz 4 (by decide)
        have f5 := hfz 5 (by decide)
        have f6 := hfz 6 (by decide)
        clear hfz
        have s7 := fun u0 u1 u2 u3 u4 u5 u6 => set7 b0 b1 b2 b3 b4 b5 b6 u0 u1 u2 u3 u4 u5 u6
        have hre : (RF.1 == 0) = false := by simpa using hr0
        go_wp2
        try simp only [Exit.inBlock, Exit.then]
        refine bodyPost_ret (by simp [results, Tryz.results9, s7, go_sem]; try rfl) rfl ?_
        exact HER.out _ _ hL hr0 (below_set7 (Nat.le_refl _) HBC.out)
  · have hL : LE = eh := by rw [HE.out, if_neg h0]
    have hre : (eh == 0) = false := by simpa using h0
    go_enter Tryz.func9, Tryz.ntmps9
    go_wp2_with (go_at_call 21; refine (HRH.out _ (boxB _ _)).mono ?_; rintro e w2 hq; obtain ⟨s, a, b, c, rfl, hb2, _⟩ := HHQ.out _ _ _ hq; have HO2 : Hid (Below w.heap.size w (w2.alloc (.cells #[.string s, .int .i64 a, .int .i64 b, .int .i64 c, .slice none 0 0, .slice none 0 0, .slice none 0 0] 26)) ∧ BxPF (w2.alloc (.cells #[.string s, .int .i64 a, .int .i64 b, .int .i64 c, .slice none 0 0, .slice none 0 0, .slice none 0 0] 26)) w.heap.size ⟨#[]⟩ 0 0 0 (.slice none 0 0) (.slice none 0 0) (.slice none 0 0)) := ⟨below_then (below_then (boxB _ _) hb2) (boxB _ _), HKB.out _ _ (HKB.out _ _ HB0.out hb2) (boxB _ _)⟩; obtain ⟨⟨b0, b1, b2, b3, b4, b5, b6, b7⟩, hfz⟩ := HO2.out.2; have f0 := hfz 0 (by decide); have f1 := hfz 1 (by decide); have f2 := hfz 2 (by decide); have f3 := hfz 3 (by decide); have f4 := hfz 4 (by decide); have f5 := hfz 5 (by decide); have f6 := hfz 6 (by decide); clear hb2 hq hfz)
    have s7 := fun u0 u1 u2 u3 u4 u5 u6 => set7 b0 b1 b2 b3 b4 b5 b6 u0 u1 u2 u3 u4 u5 u6
    try simp only [Exit.inBlock, Exit.then]
    refine bodyPost_ret (by simp [results, Tryz.results9, s7, go_sem]; try rfl) rfl ?_
    exact HER.out _ _ hL h0 (below_set7 (Nat.le_refl _) HO2.out.1)

theorem readLines_any {Lns : List (List Sc.Bs)} {vl : Value} {w : World} (hl : Sc.LinesAt w vl Lns) (hne : ∀ ln ∈ Lns, ln ≠ []) (hn : Lns.length ≤ 5000) (hs : ∀ ln ∈ Lns, ShortLn ln) (hz : ∀ ln ∈ Lns, ∀ x ∈ ln, x.length ≤ 5000) (he : Env w) (hf : FL w) :
    Calls Tryz.prog 9 #[vl] w (PkQ w (linesE Lns) (linesP Lns)) := by
  obtain ⟨ad, cap, rfl, hc, hcs⟩ := hl
  cases Lns with
  | nil => exact readLines_nil w ad cap
  | cons h r =>
    rcases hcs with hcs | ⟨g, o, rfl, hg, hcs⟩
    · cases hcs
    · obtain ⟨u, c0, hu⟩ := hcs 0 (by simp)
      have hr : ∀ i (hi : i < r.length), ∃ u, w.cell? ⟨g, o + 1 + i, none⟩ = some u ∧ Sc.WordsAt w u r[i] := fun i hi => by
        have := hcs (i + 1) (by simpa using hi)
        simpa [Nat.add_assoc, Nat.add_comm 1 i] using this
      have hc' : r.length + 1 ≤ cap := hc
      by_cases h1 : cap = 1
      · subst h1
        obtain rfl : r = [] := List.eq_nil_of_length_eq_zero (by omega)
        exact readLines_one c0 hu hg (hne h List.mem_cons_self) (hz h List.mem_cons_self) he hf
      · exact readLines_more c0 hu hg (hne h List.mem_cons_self) (hz h List.mem_cons_self) he hf hr hc' h1 (by simp at hn; omega) (fun ln hl => hs ln (List.mem_cons_of_mem _ hl))
end Go.Proofs.YthoacfmfpbngkaaGreatDoor
