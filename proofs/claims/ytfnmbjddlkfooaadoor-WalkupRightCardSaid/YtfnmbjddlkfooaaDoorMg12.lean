/- Tw12, Tw13, laid in one text. -/
import Derived.Test.YtfnmbjddlkfooaaDoorMg11
namespace Go.Proofs.YtfnmbjddlkfooaaDoor
open Go.RowKit
set_option maxRecDepth 100000

def sA : ByteArray := ⟨#[97]⟩
def sB : ByteArray := ⟨#[98]⟩
def pkA : Pg := ⟨sA, 1, 0, 0, [], [], []⟩
def smallL : List Dr := [⟨[], zeroPg, 0⟩, ⟨[sA], pkA, 1⟩]
def smallG : List Nd := [⟨⟨#[]⟩, 0, 0, 0, [], [⟨sA, 1⟩]⟩, ⟨sA, 1, 0, 0, [], []⟩]
theorem sA_ne_sB : sA ≠ sB := by
  intro h
  have : sA.data = sB.data := by rw [h]
  exact absurd this (by decide)
theorem nameSA : Sc.nameA sA.data.toList = true := by decide +kernel
theorem nameSB : Sc.nameA sB.data.toList = true := by decide +kernel
theorem once_none : onceL [[], [], []] = true := by
  unfold onceL
  refine @decide_eq_true _ (Classical.propDecidable _) ?_
  have h : namesL [[], [], []] = [] := rfl
  rw [h]
  exact List.nodup_nil
theorem pkA_written : writtenB pkA = true := by
  unfold writtenB soundB onceB
  have h1 : Sc.nameA pkA.nm.data.toList = true := nameSA
  have h2 : mayV pkA.a pkA.b pkA.c = true := by decide +kernel
  have h3 : mayD pkA.d = true ∧ mayD pkA.p = true ∧ mayD pkA.o = true := ⟨by decide +kernel, by decide +kernel, by decide +kernel⟩
  have h4 : onceL [pkA.d, pkA.p, pkA.o] = true := once_none
  have h5 : (textP pkA).length ≤ 4096 := by decide +kernel
  rw [h1, h2, h3.1, h3.2.1, h3.2.2, h4, decide_eq_true h5]
  rfl
theorem find_a : findV smallL [sA] = 1 := findV_at (k := 1) (by decide) rfl (fun j hj h1 h => by
  obtain rfl : j = 0 := by omega
  cases h)
theorem find_aa : findV smallL [sA, sA] = -1 := findV_no fun j h1 h => by
  rcases (show j = 0 ∨ j = 1 by have : smallL.length = 2 := rfl; omega) with rfl | rfl
  · cases h
  · cases h
theorem find_b : findV smallL [sB] = -1 := findV_no fun j h1 h => by
  rcases (show j = 0 ∨ j = 1 by have : smallL.length = 2 := rfl; omega) with rfl | rfl
  · cases h
  · exact sA_ne_sB (List.cons.inj h).1
theorem look_1a : lookV smallL 1 sA = 1 := by
  rw [show (1 : Int) = ((1 : Nat) : Int) from rfl, lookV_in (by decide) nameSA]
  show lookN smallL [sA] sA 1 = 1
  rw [look_miss (by exact find_aa), look_end]
  exact find_a
theorem look_0a : lookV smallL 0 sA = 1 := by
  rw [show (0 : Int) = ((0 : Nat) : Int) from rfl, lookV_in (by decide) nameSA]
  exact find_a
theorem look_0b : lookV smallL 0 sB = -1 := by
  rw [show (0 : Int) = ((0 : Nat) : Int) from rfl, lookV_in (by decide) nameSB]
  exact find_b
theorem small_check : checkB smallL = true := by
  refine checkB_iff.2 ⟨by decide, ?_, fun i hi h0 => ?_⟩
  · show rootB ⟨[], zeroPg, 0⟩ = true
    unfold rootB
    rw [eqB_yes rfl]
    rfl
  · obtain rfl : i = 1 := by have : smallL.length = 2 := rfl; omega
    rw [follI_at hi]
    show follD [⟨[], zeroPg, 0⟩] ⟨[sA], pkA, 1⟩ = true
    unfold follD
    have h1 : mayPaB [sA] = true := by decide +kernel
    have h2 : eqB pkA.nm (lastP [sA]) = true := eqB_yes rfl
    have h3 : findV [⟨[], zeroPg, 0⟩] [sA] = -1 := findV_no fun j h1 h => by
      obtain rfl : j = 0 := by simpa using h1
      cases h
    have h4 : findV [⟨[], zeroPg, 0⟩] ([sA].take ([sA].length - 1)) = 0 := findV_at (k := 0) (by decide) rfl (fun j hj => by omega)
    simp only [h1, h2, pkA_written, h3, h4]
    rfl
theorem small_lead : leadB smallG = true := by decide +kernel
theorem small_isOf : isOfB ⟨[sA], pkA, 1⟩ ⟨sA, 1, 0, 0, [], []⟩ = true := by
  unfold isOfB
  show (eqB sA sA && _) = true
  rw [eqB_yes rfl]
  rfl
theorem small_map : mapV smallL smallG = some [0, 1] := by
  have h1 : stepM smallL smallG 0 ⟨[0, -1], [0]⟩ ⟨sA, 1⟩ = some ⟨[0, 1], [0, 1]⟩ :=
    step_new (k := 1) (y := 1) look_0a (by decide) rfl (by decide) small_isOf (by decide) (by decide)
  show runM smallL smallG 3 0 ⟨[0, -1], [0]⟩ = _
  rw [run_on (r := 0) rfl]
  show ((stepM smallL smallG 0 ⟨[0, -1], [0]⟩ ⟨sA, 1⟩).bind (edgesM smallL smallG 0 [])).bind _ = _
  rw [h1]
  show runM smallL smallG 2 1 ⟨[0, 1], [0, 1]⟩ = _
  rw [run_on (r := 1) rfl]
  show runM smallL smallG 1 2 ⟨[0, 1], [0, 1]⟩ = _
  rw [run_end rfl]
theorem small_mapO : mapO smallL smallG = [0, 1] := by
  unfold mapO
  rw [if_pos ⟨small_check, small_lead⟩, small_map]
  rfl
theorem small_mapE : mapE smallL smallG = 0 := by
  unfold mapE
  rw [if_pos small_check, if_pos small_lead, small_map]
  rfl

/-- The small tree and graph in memory. -/
def w1S (w : World) : World := (w.alloc (.cells #[.int .i64 1, .int .i64 0, .int .i64 0] 36)).alloc (.cells #[.string ⟨#[97]⟩] 9)
def w2S (w : World) : World := (w1S w).alloc (.cells #[.slice none 0 0, .string ⟨#[]⟩, .int .i64 0, .int .i64 0, .int .i64 0, .slice none 0 0, .slice none 0 0, .slice none 0 0, .int .i64 0, .slice (some ⟨w.heap.size + 1, 0, none⟩) 1 1, .string ⟨#[97]⟩, .int .i64 1, .int .i64 0, .int .i64 0, .slice none 0 0, .slice none 0 0, .slice none 0 0, .int .i64 1] 48)
def w3S (w : World) : World := (w2S w).alloc (.cells #[.slice (some ⟨w.heap.size + 1 + 1, 0, none⟩) 2 2] 24)
def w4S (w : World) : World := (w3S w).alloc (.cells #[.string ⟨#[97]⟩, .int .i64 1] 42)
def w5S (w : World) : World := (w4S w).alloc (.cells #[.string ⟨#[]⟩, .int .i64 0, .int .i64 0, .int .i64 0, .slice none 0 0, .slice (some ⟨w.heap.size + 1 + 1 + 1 + 1, 0, none⟩) 1 1, .string ⟨#[97]⟩, .int .i64 1, .int .i64 0, .int .i64 0, .slice none 0 0, .slice none 0 0] 40)
def w6S (w : World) : World := (w5S w).alloc (.cells #[.slice (some ⟨w.heap.size + 1 + 1 + 1 + 1 + 1, 0, none⟩) 2 2] 30)
theorem s1S (w : World) : (w1S w).heap.size = w.heap.size + 2 := by simp [w1S]
theorem s2S (w : World) : (w2S w).heap.size = w.heap.size + 3 := by simp [w2S, s1S]
theorem s3S (w : World) : (w3S w).heap.size = w.heap.size + 4 := by simp [w3S, s2S]
theorem s4S (w : World) : (w4S w).heap.size = w.heap.size + 5 := by simp [w4S, s3S]
theorem s5S (w : World) : (w5S w).heap.size = w.heap.size + 6 := by simp [w5S, s4S]
theorem b6S (w : World) : Below w.heap.size w (w6S w) := below_then (boxB2 w _ _) (below_then (boxB (w1S w) _) (below_then (boxB (w2S w) _) (below_then (boxB (w3S w) _) (below_then (boxB (w4S w) _) (boxB (w5S w) _)))))
theorem path_none (w : World) : PathAt w (.slice none 0 0) [] := ⟨none, 0, rfl, Nat.le_refl _, Or.inl rfl⟩
theorem deps_none (w : World) : DepsAt w (.slice none 0 0) [] := ⟨none, 0, rfl, Nat.le_refl _, Or.inl rfl⟩
theorem dirs2S (w : World) : DirsAt (w2S w) (.slice (some ⟨w.heap.size + 1 + 1, 0, none⟩) 2 2) smallL := by
  have hsz := s1S w
  have hp : PathAt (w1S w) (.slice (some ⟨w.heap.size + 1, 0, none⟩) 1 1) [sA] := ⟨_, 1, rfl, Nat.le_refl _, Or.inr ⟨w.heap.size + 1, 0, rfl, fun i hi => by
    obtain rfl : i = 0 := by simpa using hi
    exact ⟨by simp [w1S, sA], by rw [hsz]; omega⟩⟩⟩
  have hbb : Below (w1S w).heap.size (w1S w) (w2S w) := boxB _ _
  have cell : ∀ j v, (#[.slice none 0 0, .string ⟨#[]⟩, .int .i64 0, .int .i64 0, .int .i64 0, .slice none 0 0, .slice none 0 0, .slice none 0 0, .int .i64 0, .slice (some ⟨w.heap.size + 1, 0, none⟩) 1 1, .string ⟨#[97]⟩, .int .i64 1, .int .i64 0, .int .i64 0, .slice none 0 0, .slice none 0 0, .slice none 0 0, .int .i64 1] : Array Value)[j]? = some v → (w2S w).cell? ⟨w.heap.size + 1 + 1, j, none⟩ = some v := fun j v hj => by
    have hb : (w2S w).heap[w.heap.size + 1 + 1]? = some (.cells #[.slice none 0 0, .string ⟨#[]⟩, .int .i64 0, .int .i64 0, .int .i64 0, .slice none 0 0, .slice none 0 0, .slice none 0 0, .int .i64 0, .slice (some ⟨w.heap.size + 1, 0, none⟩) 1 1, .string ⟨#[97]⟩, .int .i64 1, .int .i64 0, .int .i64 0, .slice none 0 0, .slice none 0 0, .slice none 0 0, .int .i64 1] 48 (0, 0)) := by
      have h := heap_alloc_new (w1S w) (.cells #[.slice none 0 0, .string ⟨#[]⟩, .int .i64 0, .int .i64 0, .int .i64 0, .slice none 0 0, .slice none 0 0, .slice none 0 0, .int .i64 0, .slice (some ⟨w.heap.size + 1, 0, none⟩) 1 1, .string ⟨#[97]⟩, .int .i64 1, .int .i64 0, .int .i64 0, .slice none 0 0, .slice none 0 0, .slice none 0 0, .int .i64 1] 48)
      rw [hsz] at h
      exact h
    rw [Lib.cell_of_heap hb]
    exact hj
  refine ⟨_, 2, rfl, Nat.le_refl _, Or.inr ⟨w.heap.size + 1 + 1, 0, rfl, fun i hi => ?_⟩⟩
  rcases (show i = 0 ∨ i = 1 by have : smallL.length = 2 := rfl; omega) with rfl | rfl
  · exact ⟨.slice none 0 0, .slice none 0 0, .slice none 0 0, .slice none 0 0, ⟨cell 0 _ rfl, cell 1 _ rfl, cell 2 _ rfl, cell 3 _ rfl, cell 4 _ rfl, cell 5 _ rfl, cell 6 _ rfl, cell 7 _ rfl, cell 8 _ rfl⟩, ⟨path_none _, deps_none _, deps_none _, deps_none _⟩, by rw [s2S]; omega⟩
  · exact ⟨.slice (some ⟨w.heap.size + 1, 0, none⟩) 1 1, .slice none 0 0, .slice none 0 0, .slice none 0 0, ⟨cell 9 _ rfl, cell 10 _ rfl, cell 11 _ rfl, cell 12 _ rfl, cell 13 _ rfl, cell 14 _ rfl, cell 15 _ rfl, cell 16 _ rfl, cell 17 _ rfl⟩, ⟨hp.below hbb, deps_none _, deps_none _, deps_none _⟩, by rw [s2S]; omega⟩
theorem nodes5S (w : World) : NodesAt (w5S w) (.slice (some ⟨w.heap.size + 1 + 1 + 1 + 1 + 1, 0, none⟩) 2 2) smallG := by
  have hsz := s4S w
  have he : EdgesAt (w4S w) (.slice (some ⟨w.heap.size + 1 + 1 + 1 + 1, 0, none⟩) 1 1) [⟨sA, 1⟩] := ⟨_, 1, rfl, Nat.le_refl _, Or.inr ⟨w.heap.size + 1 + 1 + 1 + 1, 0, rfl, by rw [hsz]; omega, fun i hi => by
    obtain rfl : i = 0 := by simpa using hi
    have hb : (w4S w).heap[w.heap.size + 1 + 1 + 1 + 1]? = some (.cells #[.string ⟨#[97]⟩, .int .i64 1] 42 (0, 0)) := by
      have h := heap_alloc_new (w3S w) (.cells #[.string ⟨#[97]⟩, .int .i64 1] 42)
      rw [s3S] at h
      exact h
    exact ⟨⟨by rw [Lib.cell_of_heap hb]; rfl, by rw [Lib.cell_of_heap hb]; rfl⟩, by rw [hsz]; omega⟩⟩⟩
  have hbb : Below (w4S w).heap.size (w4S w) (w5S w) := boxB _ _
  have hb : (w5S w).heap[w.heap.size + 1 + 1 + 1 + 1 + 1]? = some (.cells #[.string ⟨#[]⟩, .int .i64 0, .int .i64 0, .int .i64 0, .slice none 0 0, .slice (some ⟨w.heap.size + 1 + 1 + 1 + 1, 0, none⟩) 1 1, .string ⟨#[97]⟩, .int .i64 1, .int .i64 0, .int .i64 0, .slice none 0 0, .slice none 0 0] 40 (0, 0)) := by
    have h := heap_alloc_new (w4S w) (.cells #[.string ⟨#[]⟩, .int .i64 0, .int .i64 0, .int .i64 0, .slice none 0 0, .slice (some ⟨w.heap.size + 1 + 1 + 1 + 1, 0, none⟩) 1 1, .string ⟨#[97]⟩, .int .i64 1, .int .i64 0, .int .i64 0, .slice none 0 0, .slice none 0 0] 40)
    rw [hsz] at h
    exact h
  have hpn : PinsAt (w5S w) (.slice none 0 0) [] := ⟨none, 0, rfl, Nat.le_refl _, Or.inl rfl⟩
  have hen : EdgesAt (w5S w) (.slice none 0 0) [] := ⟨none, 0, rfl, Nat.le_refl _, Or.inl rfl⟩
  have hlt : w.heap.size + 1 + 1 + 1 + 1 + 1 < (w5S w).heap.size := by rw [s5S]; omega
  refine ⟨_, 2, rfl, Nat.le_refl _, Or.inr ⟨w.heap.size + 1 + 1 + 1 + 1 + 1, 0, rfl, hlt, fun i hi => ?_⟩⟩
  rcases (show i = 0 ∨ i = 1 by have : smallG.length = 2 := rfl; omega) with rfl | rfl
  · exact ⟨.slice none 0 0, .slice (some ⟨w.heap.size + 1 + 1 + 1 + 1, 0, none⟩) 1 1, ⟨by rw [Lib.cell_of_heap hb]; rfl, by rw [Lib.cell_of_heap hb]; rfl, by rw [Lib.cell_of_heap hb]; rfl, by rw [Lib.cell_of_heap hb]; rfl, by rw [Lib.cell_of_heap hb]; rfl, by rw [Lib.cell_of_heap hb]; rfl⟩, ⟨hpn, he.below hbb⟩, hlt⟩
  · exact ⟨.slice none 0 0, .slice none 0 0, ⟨by rw [Lib.cell_of_heap hb]; rfl, by rw [Lib.cell_of_heap hb]; rfl, by rw [Lib.cell_of_heap hb]; rfl, by rw [Lib.cell_of_heap hb]; rfl, by rw [Lib.cell_of_heap hb]; rfl, by rw [Lib.cell_of_heap hb]; rfl⟩, ⟨hpn, hen⟩, hlt⟩
theorem small_ok : DrsOk smallL := ⟨fun d hd => by
  simp only [smallL, List.mem_cons, List.not_mem_nil, or_false] at hd
  rcases hd with rfl | rfl <;> simp, fun d hd => by
  simp only [smallL, List.mem_cons, List.not_mem_nil, or_false] at hd
  rcases hd with rfl | rfl <;> exact ⟨by decide, by decide, by decide⟩⟩
theorem small_gok : GrOk smallG := ⟨by decide, fun n hn => by
  simp only [smallG, List.mem_cons, List.not_mem_nil, or_false] at hn
  rcases hn with rfl | rfl <;> simp⟩
end Go.Proofs.YtfnmbjddlkfooaaDoor
namespace Go.Proofs.YtfnmbjddlkfooaaDoor
open Go.RowKit
set_option maxRecDepth 100000

set_option maxHeartbeats 3200000 in
theorem lives_any {w : World} (he : Env w) (hf : FL w) :
    Calls Tryd.prog 7 #[] w fun e w' => e = .returned (.bool true) ∧ Below w.heap.size w w' := by
  have HW : Hid ((w5S w).alloc (.cells #[.slice (some ⟨w.heap.size + 1 + 1 + 1 + 1 + 1, 0, none⟩) 2 2] 30) = w6S w) := rfl
  have hb6 := b6S w
  have hbd : Below (w2S w).heap.size (w2S w) (w6S w) := below_then (boxB (w2S w) _) (below_then (boxB (w3S w) _) (below_then (boxB (w4S w) _) (boxB (w5S w) _)))
  have HD : Hid (∀ w1, Below (w6S w).heap.size (w6S w) w1 → DirsAt w1 (.slice (some ⟨w.heap.size + 1 + 1, 0, none⟩) 2 2) smallL) := fun w1 hb => (dirs2S w).below (below_then hbd hb)
  have HM : Hid (Calls Tryd.prog 8 #[.agg #[.slice (some ⟨w.heap.size + 1 + 1, 0, none⟩) 2 2], .agg #[.slice (some ⟨w.heap.size + 1 + 1 + 1 + 1 + 1, 0, none⟩) 2 2]] (w6S w) fun e w' => ∃ gm cm, e = .returned (.tuple #[.slice (some ⟨gm, 0, none⟩) 2 cm, .int .i64 0]) ∧ (w'.cell? ⟨gm, 1, none⟩ = some (.int .i64 1) ∧ gm < w'.heap.size) ∧ Below (w6S w).heap.size (w6S w) w') := by
    refine (map_any ((dirs2S w).below hbd) (by decide) small_ok ((nodes5S w).below (boxB (w5S w) _)) small_gok (he.below hb6) (hf.below hb6)).mono ?_
    rintro e w' ⟨v', rfl, ho, hb⟩
    rw [small_mapE]
    rw [small_mapO] at ho
    obtain ⟨gm, cm, rfl, _⟩ := ho.form (by decide)
    refine ⟨gm, cm, rfl, ⟨?_, (World.ownsRow.lt ho gm rfl).2⟩, hb⟩
    exact World.ownsRow.cellAt ho 1 (by decide)
  have HL1 : Hid (∀ w1, Below (w6S w).heap.size (w6S w) w1 → Calls Tryd.prog 5 #[.agg #[.slice (some ⟨w.heap.size + 1 + 1, 0, none⟩) 2 2], .int .i64 1, .string ⟨#[97]⟩] w1 fun e w' => e = .returned (.int .i64 1) ∧ Below w1.heap.size w1 w') := fun w1 hb => by
    have h := look_any (HD.out w1 hb) (by decide) small_ok.1 1 sA
    rw [look_1a] at h
    exact h
  have HL2 : Hid (∀ w1, Below (w6S w).heap.size (w6S w) w1 → Calls Tryd.prog 5 #[.agg #[.slice (some ⟨w.heap.size + 1 + 1, 0, none⟩) 2 2], .int .i64 0, .string ⟨#[98]⟩] w1 fun e w' => e = .returned (.int .i64 (-1)) ∧ Below w1.heap.size w1 w') := fun w1 hb => by
    have h := look_any (HD.out w1 hb) (by decide) small_ok.1 0 sB
    rw [look_0b] at h
    exact h
  have HBT : Hid (∀ w1, Below (w6S w).heap.size (w6S w) w1 → w1.cell? ⟨w.heap.size + 1 + 1 + 1, 0, none⟩ = some (.slice (some ⟨w.heap.size + 1 + 1, 0, none⟩) 2 2)) := fun w1 hb => by
    have h3 : (w3S w).heap[w.heap.size + 1 + 1 + 1]? = some (.cells #[.slice (some ⟨w.heap.size + 1 + 1, 0, none⟩) 2 2] 24 (0, 0)) := by
      have h := heap_alloc_new (w2S w) (.cells #[.slice (some ⟨w.heap.size + 1 + 1, 0, none⟩) 2 2] 24)
      rw [s2S] at h
      exact h
    have hb36 : Below (w3S w).heap.size (w3S w) w1 := below_then (below_then (boxB (w3S w) _) (below_then (boxB (w4S w) _) (boxB (w5S w) _))) hb
    refine (hb36.cell (p := ⟨w.heap.size + 1 + 1 + 1, 0, none⟩) (by show w.heap.size + 1 + 1 + 1 < _; rw [s3S]; omega)).trans ?_
    rw [Lib.cell_of_heap h3]
    rfl
  have HB6 := hide3 hb6
  clear hbd hb6 he hf
  go_enter Tryd.func7, Tryd.ntmps7
  have t1 : True := trivial
  go_wp2_with (first
    | (go_at_call 8; refine HM.out.mono ?_; rintro e w7 ⟨gm, cm, rfl, ⟨hc7, hg7⟩, ok⟩; have HO7 := hide3 ok; have b7 := HBT.out _ ok; clear ok)
    | (have _t := t1; go_at_call 5; refine (HL1.out _ HO7.out).mono ?_; rintro e w8 ⟨rfl, ok⟩; have HO8 := hide3 (below_then HO7.out ok); have b8 := HBT.out _ HO8.out; have hc8 := (ok.cell (p := ⟨gm, 1, none⟩) hg7).trans hc7; have hg8 := Nat.lt_of_lt_of_le hg7 ok.size; clear ok t1)
    | (have _t := HO8; go_at_call 5; refine (HL2.out _ HO8.out).mono ?_; rintro e w9 ⟨rfl, ok⟩; have HO9 := hide3 (below_then HO8.out ok); have hc9 := (ok.cell (p := ⟨gm, 1, none⟩) hg8).trans hc8; clear ok))
  go_ret
  exact ⟨rfl, below_then HB6.out HO9.out⟩
end Go.Proofs.YtfnmbjddlkfooaaDoor
