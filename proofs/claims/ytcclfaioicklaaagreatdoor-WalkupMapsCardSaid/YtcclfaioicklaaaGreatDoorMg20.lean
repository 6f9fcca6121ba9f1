/- Tw12, Tw13, Tr4, Ts8, RwGr, laid in one text. -/
import Derived.Test.YtcclfaioicklaaaGreatDoorMg19
namespace Go.Proofs.YtcclfaioicklaaaGreatDoor
open Go.RowKit
set_option maxRecDepth 100000

def sA : ByteArray := ⟨#[97]⟩
def sB : ByteArray := ⟨#[98]⟩
def pkA : Pg := ⟨sA, 1, 0, 0, [], [], []⟩
def smallL : List Dr := [⟨[], zeroPg, 0⟩, ⟨[sA], pkA, 1⟩]
def smallG : List Nd := [⟨⟨#[]⟩, 0, 0, 0, [], [⟨sA, 1⟩]⟩, ⟨sA, 1, 0, 0, [], []⟩]
theorem sA_ne_sB : sA ≠ sB := by
  intro h
  have : sA.data = sB.data := by rw [h]
  exact absurd this (by decide)
theorem nameSA : Sc.nameA sA.data.toList = true := by decide +kernel
theorem nameSB : Sc.nameA sB.data.toList = true := by decide +kernel
theorem once_none : onceL [[], [], []] = true := by
  unfold onceL
  refine @decide_eq_true _ (Classical.propDecidable _) ?_
  have h : namesL [[], [], []] = [] := rfl
  rw [h]
  exact List.nodup_nil
theorem pkA_written : writtenB pkA = true := by
  unfold writtenB soundB onceB
  have h1 : Sc.nameA pkA.nm.data.toList = true := nameSA
  have h2 : mayV pkA.a pkA.b pkA.c = true := by decide +kernel
  have h3 : mayD pkA.d = true ∧ mayD pkA.p = true ∧ mayD pkA.o = true := ⟨by decide +kernel, by decide +kernel, by decide +kernel⟩
  have h4 : onceL [pkA.d, pkA.p, pkA.o] = true := once_none
  have h5 : (textP pkA).length ≤ 4096 := by decide +kernel
  rw [h1, h2, h3.1, h3.2.1, h3.2.2, h4, decide_eq_true h5]
  rfl
theorem find_a : findV smallL [sA] = 1 := findV_at (k := 1) (by decide) rfl (fun j hj h1 h => by
  obtain rfl : j = 0 := by omega
  cases h)
theorem find_aa : findV smallL [sA, sA] = -1 := findV_no fun j h1 h => by
  rcases (show j = 0 ∨ j = 1 by have : smallL.length = 2 := rfl; omega) with rfl | rfl
  · cases h
  · cases h
theorem find_b : findV smallL [sB] = -1 := findV_no fun j h1 h => by
  rcases (show j = 0 ∨ j = 1 by have : smallL.length = 2 := rfl; omega) with rfl | rfl
  · cases h
  · exact sA_ne_sB (List.cons.inj h).1
theorem look_1a : lookV smallL 1 sA = 1 := by
  rw [show (1 : Int) = ((1 : Nat) : Int) from rfl, lookV_in (by decide) nameSA]
  show lookN smallL [sA] sA 1 = 1
  rw [look_miss (by exact find_aa), look_end]
  exact find_a
theorem look_0a : lookV smallL 0 sA = 1 := by
  rw [show (0 : Int) = ((0 : Nat) : Int) from rfl, lookV_in (by decide) nameSA]
  exact find_a
theorem look_0b : lookV smallL 0 sB = -1 := by
  rw [show (0 : Int) = ((0 : Nat) : Int) from rfl, lookV_in (by decide) nameSB]
  exact find_b
theorem small_check : checkB smallL = true := by
  refine checkB_iff.2 ⟨by decide, ?_, fun i hi h0 => ?_⟩
  · show rootB ⟨[], zeroPg, 0⟩ = true
    unfold rootB
    rw [eqB_yes rfl]
    rfl
  · obtain rfl : i = 1 := by have : smallL.length = 2 := rfl; omega
    rw [follI_at hi]
    show follD [⟨[], zeroPg, 0⟩] ⟨[sA], pkA, 1⟩ = true
    unfold follD
    have h1 : mayPaB [sA] = true := by decide +kernel
    have h2 : eqB pkA.nm (lastP [sA]) = true := eqB_yes rfl
    have h3 : findV [⟨[], zeroPg, 0⟩] [sA] = -1 := findV_no fun j h1 h => by
      obtain rfl : j = 0 := by simpa using h1
      cases h
    have h4 : findV [⟨[], zeroPg, 0⟩] ([sA].take ([sA].length - 1)) = 0 := findV_at (k := 0) (by decide) rfl (fun j hj => by omega)
    simp only [h1, h2, pkA_written, h3, h4]
    rfl
theorem small_lead : leadB smallG = true := by decide +kernel
theorem small_isOf : isOfB ⟨[sA], pkA, 1⟩ ⟨sA, 1, 0, 0, [], []⟩ = true := by
  unfold isOfB
  show (eqB sA sA && _) = true
  rw [eqB_yes rfl]
  rfl
theorem small_map : mapV smallL smallG = some [0, 1] := by
  have h1 : stepM smallL smallG 0 ⟨[0, -1], [0]⟩ ⟨sA, 1⟩ = some ⟨[0, 1], [0, 1]⟩ :=
    step_new (k := 1) (y := 1) look_0a (by decide) rfl (by decide) small_isOf (by decide) (by decide)
  show runM smallL smallG 3 0 ⟨[0, -1], [0]⟩ = _
  rw [run_on (r := 0) rfl]
  show ((stepM smallL smallG 0 ⟨[0, -1], [0]⟩ ⟨sA, 1⟩).bind (edgesM smallL smallG 0 [])).bind _ = _
  rw [h1]
  show runM smallL smallG 2 1 ⟨[0, 1], [0, 1]⟩ = _
  rw [run_on (r := 1) rfl]
  show runM smallL smallG 1 2 ⟨[0, 1], [0, 1]⟩ = _
  rw [run_end rfl]
theorem small_mapO : mapO smallL smallG = [0, 1] := by
  unfold mapO
  rw [if_pos ⟨small_check, small_lead⟩, small_map]
  rfl
theorem small_mapE : mapE smallL smallG = 0 := by
  unfold mapE
  rw [if_pos small_check, if_pos small_lead, small_map]
  rfl

/-- The small tree and graph in memory. -/
def w1S (w : World) : World := (w.alloc (.cells #[.int .i64 1, .int .i64 0, .int .i64 0] 41)).alloc (.cells #[.string ⟨#[97]⟩] 9)
def w2S (w : World) : World := (w1S w).alloc (.cells #[.slice none 0 0, .string ⟨#[]⟩, .int .i64 0, .int .i64 0, .int .i64 0, .slice none 0 0, .slice none 0 0, .slice none 0 0, .int .i64 0, .slice (some ⟨w.heap.size + 1, 0, none⟩) 1 1, .string ⟨#[97]⟩, .int .i64 1, .int .i64 0, .int .i64 0, .slice none 0 0, .slice none 0 0, .slice none 0 0, .int .i64 1] 46)
def w3S (w : World) : World := (w2S w).alloc (.cells #[.slice (some ⟨w.heap.size + 1 + 1, 0, none⟩) 2 2] 24)
def w4S (w : World) : World := (w3S w).alloc (.cells #[.string ⟨#[97]⟩, .int .i64 1] 88)
def w5S (w : World) : World := (w4S w).alloc (.cells #[.string ⟨#[]⟩, .int .i64 0, .int .i64 0, .int .i64 0, .slice none 0 0, .slice (some ⟨w.heap.size + 1 + 1 + 1 + 1, 0, none⟩) 1 1, .string ⟨#[97]⟩, .int .i64 1, .int .i64 0, .int .i64 0, .slice none 0 0, .slice none 0 0] 86)
def w6S (w : World) : World := (w5S w).alloc (.cells #[.slice (some ⟨w.heap.size + 1 + 1 + 1 + 1 + 1, 0, none⟩) 2 2] 51)
theorem s1S (w : World) : (w1S w).heap.size = w.heap.size + 2 := by simp [w1S]
theorem s2S (w : World) : (w2S w).heap.size = w.heap.size + 3 := by simp [w2S, s1S]
theorem s3S (w : World) : (w3S w).heap.size = w.heap.size + 4 := by simp [w3S, s2S]
theorem s4S (w : World) : (w4S w).heap.size = w.heap.size + 5 := by simp [w4S, s3S]
theorem s5S (w : World) : (w5S w).heap.size = w.heap.size + 6 := by simp [w5S, s4S]
theorem b6S (w : World) : Below w.heap.size w (w6S w) := below_then (boxB2 w _ _) (below_then (boxB (w1S w) _) (below_then (boxB (w2S w) _) (below_then (boxB (w3S w) _) (below_then (boxB (w4S w) _) (boxB (w5S w) _)))))
theorem path_none (w : World) : PathAt w (.slice none 0 0) [] := ⟨none, 0, rfl, Nat.le_refl _, Or.inl rfl⟩
theorem deps_none (w : World) : DepsAt w (.slice none 0 0) [] := ⟨none, 0, rfl, Nat.le_refl _, Or.inl rfl⟩
theorem dirs2S (w : World) : DirsAt (w2S w) (.slice (some ⟨w.heap.size + 1 + 1, 0, none⟩) 2 2) smallL := by
  have hsz := s1S w
  have hp : PathAt (w1S w) (.slice (some ⟨w.heap.size + 1, 0, none⟩) 1 1) [sA] := ⟨_, 1, rfl, Nat.le_refl _, Or.inr ⟨w.heap.size + 1, 0, rfl, fun i hi => by
    obtain rfl : i = 0 := by simpa using hi
    exact ⟨by simp [w1S, sA], by rw [hsz]; omega⟩⟩⟩
  have hbb : Below (w1S w).heap.size (w1S w) (w2S w) := boxB _ _
  have cell : ∀ j v, (#[.slice none 0 0, .string ⟨#[]⟩, .int .i64 0, .int .i64 0, .int .i64 0, .slice none 0 0, .slice none 0 0, .slice none 0 0, .int .i64 0, .slice (some ⟨w.heap.size + 1, 0, none⟩) 1 1, .string ⟨#[97]⟩, .int .i64 1, .int .i64 0, .int .i64 0, .slice none 0 0, .slice none 0 0, .slice none 0 0, .int .i64 1] : Array Value)[j]? = some v → (w2S w).cell? ⟨w.heap.size + 1 + 1, j, none⟩ = some v := fun j v hj => by
    have hb : (w2S w).heap[w.heap.size + 1 + 1]? = some (.cells #[.slice none 0 0, .string ⟨#[]⟩, .int .i64 0, .int .i64 0, .int .i64 0, .slice none 0 0, .slice none 0 0, .slice none 0 0, .int .i64 0, .slice (some ⟨w.heap.size + 1, 0, none⟩) 1 1, .string ⟨#[97]⟩, .int .i64 1, .int .i64 0, .int .i64 0, .slice none 0 0, .slice none 0 0, .slice none 0 0, .int .i64 1] 46 (0, 0)) := by
      have h := heap_alloc_new (w1S w) (.cells #[.slice none 0 0, .string ⟨#[]⟩, .int .i64 0, .int .i64 0, .int .i64 0, .slice none 0 0, .slice none 0 0, .slice none 0 0, .int .i64 0, .slice (some ⟨w.heap.size + 1, 0, none⟩) 1 1, .string ⟨#[97]⟩, .int .i64 1, .int .i64 0, .int .i64 0, .slice none 0 0, .slice none 0 0, .slice none 0 0, .int .i64 1] 46)
      rw [hsz] at h
      exact h
    rw [Lib.cell_of_heap hb]
    exact hj
  refine ⟨_, 2, rfl, Nat.le_refl _, Or.inr ⟨w.heap.size + 1 + 1, 0, rfl, fun i hi => ?_⟩⟩
  rcases (show i = 0 ∨ i = 1 by have : smallL.length = 2 := rfl; omega) with rfl | rfl
  · exact ⟨.slice none 0 0, .slice none 0 0, .slice none 0 0, .slice none 0 0, ⟨cell 0 _ rfl, cell 1 _ rfl, cell 2 _ rfl, cell 3 _ rfl, cell 4 _ rfl, cell 5 _ rfl, cell 6 _ rfl, cell 7 _ rfl, cell 8 _ rfl⟩, ⟨path_none _, deps_none _, deps_none _, deps_none _⟩, by rw [s2S]; omega⟩
  · exact ⟨.slice (some ⟨w.heap.size + 1, 0, none⟩) 1 1, .slice none 0 0, .slice none 0 0, .slice none 0 0, ⟨cell 9 _ rfl, cell 10 _ rfl, cell 11 _ rfl, cell 12 _ rfl, cell 13 _ rfl, cell 14 _ rfl, cell 15 _ rfl, cell 16 _ rfl, cell 17 _ rfl⟩, ⟨hp.below hbb, deps_none _, deps_none _, deps_none _⟩, by rw [s2S]; omega⟩
theorem nodes5S (w : World) : NodesAt (w5S w) (.slice (some ⟨w.heap.size + 1 + 1 + 1 + 1 + 1, 0, none⟩) 2 2) smallG := by
  have hsz := s4S w
  have he : EdgesAt (w4S w) (.slice (some ⟨w.heap.size + 1 + 1 + 1 + 1, 0, none⟩) 1 1) [⟨sA, 1⟩] := ⟨_, 1, rfl, Nat.le_refl _, Or.inr ⟨w.heap.size + 1 + 1 + 1 + 1, 0, rfl, by rw [hsz]; omega, fun i hi => by
    obtain rfl : i = 0 := by simpa using hi
    have hb : (w4S w).heap[w.heap.size + 1 + 1 + 1 + 1]? = some (.cells #[.string ⟨#[97]⟩, .int .i64 1] 88 (0, 0)) := by
      have h := heap_alloc_new (w3S w) (.cells #[.string ⟨#[97]⟩, .int .i64 1] 88)
      rw [s3S] at h
      exact h
    exact ⟨⟨by rw [Lib.cell_of_heap hb]; rfl, by rw [Lib.cell_of_heap hb]; rfl⟩, by rw [hsz]; omega⟩⟩⟩
  have hbb : Below (w4S w).heap.size (w4S w) (w5S w) := boxB _ _
  have hb : (w5S w).heap[w.heap.size + 1 + 1 + 1 + 1 + 1]? = some (.cells #[.string ⟨#[]⟩, .int .i64 0, .int .i64 0, .int .i64 0, .slice none 0 0, .slice (some ⟨w.heap.size + 1 + 1 + 1 + 1, 0, none⟩) 1 1, .string ⟨#[97]⟩, .int .i64 1, .int .i64 0, .int .i64 0, .slice none 0 0, .slice none 0 0] 86 (0, 0)) := by
    have h := heap_alloc_new (w4S w) (.cells #[.string ⟨#[]⟩, .int .i64 0, .int .i64 0, .int .i64 0, .slice none 0 0, .slice (some ⟨w.heap.size + 1 + 1 + 1 + 1, 0, none⟩) 1 1, .string ⟨#[97]⟩, .int .i64 1, .int .i64 0, .int .i64 0, .slice none 0 0, .slice none 0 0] 86)
    rw [hsz] at h
    exact h
  have hpn : PinsAt (w5S w) (.slice none 0 0) [] := ⟨none, 0, rfl, Nat.le_refl _, Or.inl rfl⟩
  have hen : EdgesAt (w5S w) (.slice none 0 0) [] := ⟨none, 0, rfl, Nat.le_refl _, Or.inl rfl⟩
  have hlt : w.heap.size + 1 + 1 + 1 + 1 + 1 < (w5S w).heap.size := by rw [s5S]; omega
  refine ⟨_, 2, rfl, Nat.le_refl _, Or.inr ⟨w.heap.size + 1 + 1 + 1 + 1 + 1, 0, rfl, hlt, fun i hi => ?_⟩⟩
  rcases (show i = 0 ∨ i = 1 by have : smallG.length = 2 := rfl; omega) with rfl | rfl
  · exact ⟨.slice none 0 0, .slice (some ⟨w.heap.size + 1 + 1 + 1 + 1, 0, none⟩) 1 1, ⟨by rw [Lib.cell_of_heap hb]; rfl, by rw [Lib.cell_of_heap hb]; rfl, by rw [Lib.cell_of_heap hb]; rfl, by rw [Lib.cell_of_heap hb]; rfl, by rw [Lib.cell_of_heap hb]; rfl, by rw [Lib.cell_of_heap hb]; rfl⟩, ⟨hpn, he.below hbb⟩, hlt⟩
  · exact ⟨.slice none 0 0, .slice none 0 0, ⟨by rw [Lib.cell_of_heap hb]; rfl, by rw [Lib.cell_of_heap hb]; rfl, by rw [Lib.cell_of_heap hb]; rfl, by rw [Lib.cell_of_heap hb]; rfl, by rw [Lib.cell_of_heap hb]; rfl, by rw [Lib.cell_of_heap hb]; rfl⟩, ⟨hpn, hen⟩, hlt⟩
theorem small_ok : DrsOk smallL := ⟨fun d hd => by
  simp only [smallL, List.mem_cons, List.not_mem_nil, or_false] at hd
  rcases hd with rfl | rfl <;> simp, fun d hd => by
  simp only [smallL, List.mem_cons, List.not_mem_nil, or_false] at hd
  rcases hd with rfl | rfl <;> exact ⟨by decide, by decide, by decide⟩⟩
theorem small_gok : GrOk smallG := ⟨by decide, fun n hn => by
  simp only [smallG, List.mem_cons, List.not_mem_nil, or_false] at hn
  rcases hn with rfl | rfl <;> simp⟩
end Go.Proofs.YtcclfaioicklaaaGreatDoor
namespace Go.Proofs.YtcclfaioicklaaaGreatDoor
open Go.RowKit
set_option maxRecDepth 100000

set_option maxHeartbeats 3200000 in
theorem lives_any {w : World} (he : Env w) (hf : FL w) :
    Calls Tryz.prog 28 #[] w fun e w' => e = .returned (.bool true) ∧ Below w.heap.size w w' := by
  have HW : Hid ((w5S w).alloc (.cells #[.slice (some ⟨w.heap.size + 1 + 1 + 1 + 1 + 1, 0, none⟩) 2 2] 51) = w6S w) := rfl
  have hb6 := b6S w
  have hbd : Below (w2S w).heap.size (w2S w) (w6S w) := below_then (boxB (w2S w) _) (below_then (boxB (w3S w) _) (below_then (boxB (w4S w) _) (boxB (w5S w) _)))
  have HD : Hid (∀ w1, Below (w6S w).heap.size (w6S w) w1 → DirsAt w1 (.slice (some ⟨w.heap.size + 1 + 1, 0, none⟩) 2 2) smallL) := fun w1 hb => (dirs2S w).below (below_then hbd hb)
  have HM : Hid (Calls Tryz.prog 26 #[.agg #[.slice (some ⟨w.heap.size + 1 + 1, 0, none⟩) 2 2], .agg #[.slice (some ⟨w.heap.size + 1 + 1 + 1 + 1 + 1, 0, none⟩) 2 2]] (w6S w) fun e w' => ∃ gm cm, e = .returned (.tuple #[.slice (some ⟨gm, 0, none⟩) 2 cm, .int .i64 0]) ∧ (w'.cell? ⟨gm, 1, none⟩ = some (.int .i64 1) ∧ gm < w'.heap.size) ∧ Below (w6S w).heap.size (w6S w) w') := by
    refine (map_any ((dirs2S w).below hbd) (by decide) small_ok ((nodes5S w).below (boxB (w5S w) _)) small_gok (he.below hb6) (hf.below hb6)).mono ?_
    rintro e w' ⟨v', rfl, ho, hb⟩
    rw [small_mapE]
    rw [small_mapO] at ho
    obtain ⟨gm, cm, rfl, _⟩ := ho.form (by decide)
    refine ⟨gm, cm, rfl, ⟨?_, (World.ownsRow.lt ho gm rfl).2⟩, hb⟩
    exact World.ownsRow.cellAt ho 1 (by decide)
  have HL1 : Hid (∀ w1, Below (w6S w).heap.size (w6S w) w1 → Calls Tryz.prog 56 #[.agg #[.slice (some ⟨w.heap.size + 1 + 1, 0, none⟩) 2 2], .int .i64 1, .string ⟨#[97]⟩] w1 fun e w' => e = .returned (.int .i64 1) ∧ Below w1.heap.size w1 w') := fun w1 hb => by
    have h := look_any (HD.out w1 hb) (by decide) small_ok.1 1 sA
    rw [look_1a] at h
    exact h
  have HL2 : Hid (∀ w1, Below (w6S w).heap.size (w6S w) w1 → Calls Tryz.prog 56 #[.agg #[.slice (some ⟨w.heap.size + 1 + 1, 0, none⟩) 2 2], .int .i64 0, .string ⟨#[98]⟩] w1 fun e w' => e = .returned (.int .i64 (-1)) ∧ Below w1.heap.size w1 w') := fun w1 hb => by
    have h := look_any (HD.out w1 hb) (by decide) small_ok.1 0 sB
    rw [look_0b] at h
    exact h
  have HBT : Hid (∀ w1, Below (w6S w).heap.size (w6S w) w1 → w1.cell? ⟨w.heap.size + 1 + 1 + 1, 0, none⟩ = some (.slice (some ⟨w.heap.size + 1 + 1, 0, none⟩) 2 2)) := fun w1 hb => by
    have h3 : (w3S w).heap[w.heap.size + 1 + 1 + 1]? = some (.cells #[.slice (some ⟨w.heap.size + 1 + 1, 0, none⟩) 2 2] 24 (0, 0)) := by
      have h := heap_alloc_new (w2S w) (.cells #[.slice (some ⟨w.heap.size + 1 + 1, 0, none⟩) 2 2] 24)
      rw [s2S] at h
      exact h
    have hb36 : Below (w3S w).heap.size (w3S w) w1 := below_then (below_then (boxB (w3S w) _) (below_then (boxB (w4S w) _) (boxB (w5S w) _))) hb
    refine (hb36.cell (p := ⟨w.heap.size + 1 + 1 + 1, 0, none⟩) (by show w.heap.size + 1 + 1 + 1 < _; rw [s3S]; omega)).trans ?_
    rw [Lib.cell_of_heap h3]
    rfl
  have HB6 := hide3 hb6
  clear hbd hb6 he hf
  go_enter Tryz.func28, Tryz.ntmps28
  have t1 : True := trivial
  go_wp2_with (first
    | (go_at_call 26; refine HM.out.mono ?_; rintro e w7 ⟨gm, cm, rfl, ⟨hc7, hg7⟩, ok⟩; have HO7 := hide3 ok; have b7 := HBT.out _ ok; clear ok)
    | (have _t := t1; go_at_call 56; refine (HL1.out _ HO7.out).mono ?_; rintro e w8 ⟨rfl, ok⟩; have HO8 := hide3 (below_then HO7.out ok); have b8 := HBT.out _ HO8.out; have hc8 := (ok.cell (p := ⟨gm, 1, none⟩) hg7).trans hc7; have hg8 := Nat.lt_of_lt_of_le hg7 ok.size; clear ok t1)
    | (have _t := HO8; go_at_call 56; refine (HL2.out _ HO8.out).mono ?_; rintro e w9 ⟨rfl, ok⟩; have HO9 := hide3 (below_then HO8.out ok); have hc9 := (ok.cell (p := ⟨gm, 1, none⟩) hg8).trans hc8; clear ok))
  go_ret
  exact ⟨rfl, below_then HB6.out HO9.out⟩
end Go.Proofs.YtcclfaioicklaaaGreatDoor
namespace Go.Proofs.YtcclfaioicklaaaGreatDoor
open Go.RowKit
set_option maxRecDepth 100000

/-- One state comes of another one: what is set stays. -/
def Ext (st st' : MS) : Prop := st'.m.length = st.m.length ∧ (∀ j, 0 ≤ st.m.getD j (-1) → st'.m.getD j (-1) = st.m.getD j (-1)) ∧ ∃ t, st'.q = st.q ++ t
theorem Ext.refl (st : MS) : Ext st st := ⟨rfl, fun _ _ => rfl, [], by simp⟩
theorem Ext.trans {a b c : MS} (h : Ext a b) (h2 : Ext b c) : Ext a c := by
  obtain ⟨t, ht⟩ := h.2.2
  obtain ⟨u, hu⟩ := h2.2.2
  refine ⟨h2.1.trans h.1, fun j hj => ?_, t ++ u, by rw [hu, ht, List.append_assoc]⟩
  rw [h2.2.1 j (by rw [h.2.1 j hj]; exact hj), h.2.1 j hj]
/-- An edge of directory r's node leads right. -/
def OkE (L : List Dr) (G : List Nd) (st : MS) (r : Nat) (e : Eg) : Prop := ∃ k : Nat, lookV L (r : Int) e.lb = k ∧ st.m.getD k (-1) = e.to ∧ isOfB (L.getD k drZ) (G.getD e.to.toNat ndZ) = true
theorem OkE.ext {L : List Dr} {G : List Nd} {st st' : MS} {r : Nat} {e : Eg} (h : OkE L G st r e) (hx : Ext st st') (h0 : 0 < e.to) : OkE L G st' r e := by
  obtain ⟨k, h1, h2, h3⟩ := h
  exact ⟨k, h1, by rw [hx.2.1 k (by rw [h2]; omega), h2], h3⟩
/-- All that have a node are reached. -/
def QAll (st : MS) : Prop := ∀ j, 0 ≤ st.m.getD j (-1) → j ∈ st.q

theorem getD_two {l : List Int} {k : Nat} {a b : Int} (h : k < l.length) : l.getD k a = l.getD k b := by rw [getD_at h, getD_at h]
theorem getD_set {l : List Int} {k : Nat} {x : Int} (hk : k < l.length) (j : Nat) : (l.set k x).getD j (-1) = if k = j then x else l.getD j (-1) := by
  rw [List.getD_eq_getElem?_getD, List.getElem?_set]
  by_cases h : k = j
  · subst h
    rw [if_pos rfl, if_pos rfl, if_pos hk]
    rfl
  · rw [if_neg h, if_neg h, List.getD_eq_getElem?_getD]

theorem step_ok {L : List Dr} {G : List Nd} {r : Nat} {st st' : MS} {e : Eg} (hi : MInv L G st) (hq : QAll st) (ht : 0 < e.to ∧ e.to < (G.length : Int)) (h : stepM L G r st e = some st') : MInv L G st' ∧ QAll st' ∧ Ext st st' ∧ OkE L G st' r e := by
  unfold stepM at h
  have hlt := lookV_lt L (r : Int) e.lb
  split at h
  · cases h
  · rename_i hn
    obtain ⟨k, hk⟩ : ∃ k : Nat, lookV L (r : Int) e.lb = k := ⟨(lookV L (r : Int) e.lb).toNat, by omega⟩
    rw [hk] at h hlt
    rw [Int.toNat_natCast] at h
    have hkm : k < st.m.length := by rw [hi.len]; omega
    split at h
    · cases h
    · rename_i hio
      have hiso : isOfB (L.getD k drZ) (G.getD e.to.toNat ndZ) = true := by
        cases hb : isOfB (L.getD k drZ) (G.getD e.to.toNat ndZ) with
        | true => rfl
        | false => exact absurd hb hio
      split at h
      · rename_i hx
        obtain rfl := Option.some.inj h
        rw [getD_at hkm] at hx
        refine ⟨hi.set hkm hx ht.1 ht.2, fun j hj => ?_, ⟨by simp, fun j hj => ?_, [k], rfl⟩, k, hk, ?_, hiso⟩
        · rw [getD_set hkm] at hj
          by_cases hkj : k = j
          · subst hkj; simp
          · rw [if_neg hkj] at hj
            exact List.mem_append_left _ (hq j hj)
        · show (st.m.set k e.to).getD j (-1) = _
          rw [getD_set hkm]
          by_cases hkj : k = j
          · subst hkj
            rw [getD_at hkm] at hj
            omega
          · rw [if_neg hkj]
        · show (st.m.set k e.to).getD k (-1) = _
          rw [getD_set hkm, if_pos rfl]
      · split at h
        · rename_i hxe
          obtain rfl := Option.some.inj h
          exact ⟨hi, hq, Ext.refl _, k, hk, by rw [getD_two (b := 0) hkm]; exact hxe, hiso⟩
        · cases h

theorem edges_ok {L : List Dr} {G : List Nd} {r : Nat} : ∀ {es : List Eg} {st st' : MS}, MInv L G st → QAll st → (∀ e ∈ es, 0 < e.to ∧ e.to < (G.length : Int)) → edgesM L G r es st = some st' → MInv L G st' ∧ QAll st' ∧ Ext st st' ∧ ∀ e ∈ es, OkE L G st' r e
  | [], st, st', hi, hq, _, h => by
    obtain rfl := Option.some.inj h
    exact ⟨hi, hq, Ext.refl _, fun e he => by cases he⟩
  | e :: es, st, st', hi, hq, ht, h => by
    unfold edgesM at h
    cases hs : stepM L G r st e with
    | none => rw [hs] at h; cases h
    | some s1 =>
      rw [hs] at h
      obtain ⟨h1, h2, h3, h4⟩ := step_ok hi hq (ht e List.mem_cons_self) hs
      obtain ⟨k1, k2, k3, k4⟩ := edges_ok h1 h2 (fun x hx => ht x (List.mem_cons_of_mem _ hx)) h
      refine ⟨k1, k2, h3.trans k3, fun x hx => ?_⟩
      rcases List.mem_cons.1 hx with rfl | hx
      · exact h4.ext k3 (ht x List.mem_cons_self).1
      · exact k4 x hx

theorem eds_ext {G : List Nd} {st st' : MS} {r : Nat} (h : Ext st st') (h0 : 0 ≤ st.m.getD r (-1)) (hr : r < st.m.length) : edsOf G st' r = edsOf G st r := by
  unfold edsOf
  have hr' : r < st'.m.length := by rw [h.1]; exact hr
  have e : st'.m.getD r 0 = st.m.getD r 0 := by
    rw [getD_two (b := -1) hr', getD_two (b := -1) hr]
    exact h.2.1 r h0
  rw [e]

theorem run_ok {L : List Dr} {G : List Nd} (hl : leadB G = true) : ∀ {n i : Nat} {st : MS} {m : List Int}, MInv L G st → QAll st → (∀ p r, p < i → st.q[p]? = some r → ∀ e ∈ edsOf G st r, OkE L G st r e) → runM L G n i st = some m → ∃ st', st'.m = m ∧ MInv L G st' ∧ Ext st st' ∧ QAll st' ∧ ∀ r ∈ st'.q, ∀ e ∈ edsOf G st' r, OkE L G st' r e
  | 0, _, _, _, _, _, _, h => by cases h
  | n + 1, i, st, m, hi, hq, hok, h => by
    cases hs : st.q[i]? with
    | none =>
      rw [run_end hs] at h
      refine ⟨st, Option.some.inj h, hi, Ext.refl _, hq, fun r hr e he => ?_⟩
      obtain ⟨p, hp, rfl⟩ := List.getElem_of_mem hr
      have hlen : st.q.length ≤ i := List.getElem?_eq_none_iff.1 hs
      exact hok p _ (by omega) (List.getElem?_eq_getElem hp) e he
    | some r =>
      rw [run_on hs] at h
      cases hx : edgesM L G r (edsOf G st r) st with
      | none => rw [hx] at h; cases h
      | some s1 =>
        rw [hx] at h
        have hrq : r ∈ st.q := List.mem_of_getElem? hs
        obtain ⟨hrm, hr0⟩ := hi.qin r hrq
        have hG : (st.m.getD r 0).toNat < G.length := by
          rw [getD_at hrm]
          rcases hi.each r hrm with hh | hh <;> omega
        have hto : ∀ e ∈ edsOf G st r, 0 < e.to ∧ e.to < (G.length : Int) := fun e he => by
          unfold edsOf at he
          rw [getD_at hG] at he
          exact (lead_to hl).2 _ (List.getElem_mem hG) e he
        obtain ⟨h1, h2, h3, h4⟩ := edges_ok hi hq hto hx
        have hval : ∀ x ∈ st.q, x < st.m.length ∧ 0 ≤ st.m.getD x (-1) := fun x hxq => by
          obtain ⟨a, b⟩ := hi.qin x hxq
          exact ⟨a, by rw [getD_at a]; exact b⟩
        obtain ⟨t, ht⟩ := h3.2.2
        obtain ⟨s2, k1, k2, k3, k4, k5⟩ := run_ok hl (n := n) (i := i + 1) (st := s1) (m := m) h1 h2 (fun p x hp hpx e he => by
          have hiq : i < st.q.length := (List.getElem?_eq_some_iff.1 hs).1
          have hpx' : st.q[p]? = some x := by
            rw [ht, List.getElem?_append_left (by omega)] at hpx
            exact hpx
          obtain ⟨a, b⟩ := hval x (List.mem_of_getElem? hpx')
          rw [eds_ext h3 b a] at he
          rcases Nat.lt_or_ge p i with hpi | hpi
          · have hG2 : (st.m.getD x 0).toNat < G.length := by
              rw [getD_at a]
              rw [getD_at a] at b
              rcases hi.each x a with hh | hh <;> omega
            have ht2 : 0 < e.to := by
              unfold edsOf at he
              rw [getD_at hG2] at he
              exact ((lead_to hl).2 _ (List.getElem_mem hG2) e he).1
            exact (hok p x hpi hpx' e he).ext h3 ht2
          · obtain rfl : p = i := by omega
            obtain rfl : r = x := Option.some.inj (hs.symm.trans hpx')
            exact h4 e he) h
        exact ⟨s2, k1, k2, h3.trans k3, k4, k5⟩

/-- A map is right. -/
theorem map_right {L : List Dr} {G : List Nd} {m : List Int} (hL : 0 < L.length) (hl : leadB G = true) (h : mapV L G = some m) :
    m.length = L.length ∧ (∃ h0 : 0 < m.length, m[0] = 0) ∧ (∀ j (hj : j < m.length), m[j] = -1 ∨ (0 ≤ m[j] ∧ m[j] < (G.length : Int))) ∧
      ∀ i y (hi : i < m.length) (_hy : m[i] = ((y : Nat) : Int)) (hyG : y < G.length), ∀ e ∈ G[y].ed, ∃ (k z : Nat) (hk : k < L.length) (hkm : k < m.length) (hz : z < G.length), lookV L (i : Int) e.lb = k ∧ e.to = z ∧ m[k] = z ∧ L[k].pk.nm = G[z].nm ∧ L[k].pk.a = G[z].a ∧ L[k].pk.b = G[z].b ∧ L[k].pk.c = G[z].c := by
  have hG := (lead_to hl).1
  have hq0 : QAll (startM L.length) := fun j hj => by
    unfold startM at hj ⊢
    rw [getD_set (by simpa using hL)] at hj
    by_cases h0 : 0 = j
    · subst h0; simp
    · rw [if_neg h0, List.getD_eq_getElem?_getD, List.getElem?_replicate] at hj
      split at hj
      · exact absurd hj (by decide)
      · exact absurd hj (by decide)
  obtain ⟨st, rfl, h1, h2, h3, h4⟩ := run_ok hl (MInv.start hL hG) hq0 (fun p r hp => by omega) h
  have hlen := h1.len
  refine ⟨hlen, ⟨by omega, ?_⟩, h1.each, fun i y hi hy hyG e he => ?_⟩
  · have e0 : (startM L.length).m.getD 0 (-1) = 0 := by
      unfold startM
      rw [getD_set (by simpa using hL), if_pos rfl]
    have := h2.2.1 0 (by rw [e0]; exact Int.le_refl _)
    rw [e0, getD_at (by omega)] at this
    exact this
  · have hiq : i ∈ st.q := h3 i (by rw [getD_at hi, hy]; omega)
    have he2 : e ∈ edsOf G st i := by
      unfold edsOf
      rw [getD_at hi, hy, Int.toNat_natCast, getD_at hyG]
      exact he
    obtain ⟨k, k1, k2, k3⟩ := h4 i hiq e he2
    have ht := (lead_to hl).2 _ (List.getElem_mem hyG) e he
    have hlt := lookV_lt L (i : Int) e.lb
    have hkL : k < L.length := by omega
    have hkm : k < st.m.length := by omega
    obtain ⟨z, hz⟩ : ∃ z : Nat, e.to = z := ⟨e.to.toNat, by omega⟩
    have hzG : z < G.length := by omega
    rw [hz, Int.toNat_natCast, getD_at hkL, getD_at hzG] at k3
    rw [getD_at hkm, hz] at k2
    unfold isOfB at k3
    simp only [Bool.and_eq_true, decide_eq_true_eq, eqB_iff] at k3
    exact ⟨k, z, hkL, hkm, hzG, k1, hz, k2, k3.1, k3.2.1.1, k3.2.1.2, k3.2.2⟩
end Go.Proofs.YtcclfaioicklaaaGreatDoor
namespace Go.Proofs.YtcclfaioicklaaaGreatDoor
open Go.RowKit
set_option maxRecDepth 100000

/-- A row of numbers, open. -/
theorem ownI_open {w : World} {B : Nat} {v : Value} {l : List Int} (h : OwnI w B v l) : ∃ a c, v = .slice a l.length c ∧ ∀ j (_ : j < l.length), ∃ g, a = some ⟨g, 0, none⟩ ∧ InI w g j l[j] := by
  have h0 := h
  rcases h.2 with ⟨rfl, hn⟩ | ⟨g, cap, cur, rfl, hB, hg, hc, _⟩
  · exact ⟨none, 0, by rw [hn], fun j hj => by omega⟩
  · refine ⟨_, cap, rfl, fun j hj => ⟨g, rfl, ?_⟩⟩
    have e := World.ownsRow.cellAt h0 j (by omega)
    have e2 : (ints l)[j]? = some (.int .i64 l[j]) := by simp [ints, hj]
    exact ⟨e.trans e2, (World.ownsRow.lt h0 g rfl).2⟩

set_option maxHeartbeats 6400000 in
theorem walkupMaps_walk {L : List Dr} {G : List Nd} {vt vg : Value} {w : World} (ht : DirsAt w vt L) (hz : L.length ≤ 9223372036854775807) (hk : DrsOk L) (hg : NodesAt w vg G) (hgz : GrOk G) (he : Env w) (hf : FL w)
    (HRM : Hid (∀ w1, Below w.heap.size w w1 → Calls Tryz.prog 27 #[.agg #[vt], .agg #[vg]] w1 fun e w' => MapQ w1 L G e w')) :
    Calls Tryz.prog 8 #[.agg #[vt], .agg #[vg]] w fun e w' => e = .returned (.bool true) ∧ Below w.heap.size w w' := by
  have HMP : Hid (∀ w1, Below w.heap.size w w1 → Calls Tryz.prog 26 #[.agg #[vt], .agg #[vg]] w1 fun e w' => MapQ w1 L G e w') := fun w1 hb => map_any (ht.below hb) hz hk (hg.below hb) hgz (he.below hb) (hf.below hb)
  have HLV : Hid (∀ w1, Below w.heap.size w w1 → Calls Tryz.prog 28 #[] w1 fun e w' => e = .returned (.bool true) ∧ Below w1.heap.size w1 w') := fun w1 hb => lives_any (he.below hb) (hf.below hb)
  obtain ⟨ta, tc, rfl, htc, htx⟩ := ht.sl
  obtain ⟨ga, gc, rfl, hgc, hgx⟩ := hg
  have hml : (mapO L G).length ≤ 257 := by
    unfold mapO
    split
    · rename_i hh
      cases hm : mapV L G with
      | none => simp
      | some m =>
        have hcl := (checkB_iff.1 hh.1).1
        have := (map_right hcl.1 hh.2 hm).1
        show m.length ≤ 257
        omega
    · simp
  clear ht he hf hk hgz htx hgx
  have HKB : Hid (KeepP fun w1 => Below w.heap.size w w1 ∧ BxT w1 w.heap.size (.slice ta L.length tc) ∧ BxT w1 (w.heap.size + 1) (.slice ga G.length gc)) := (keepBelow w).and ((keepBxT _ _).and (keepBxT _ _))
  have HBX : Hid (Below w.heap.size w ((w.alloc (.cells #[.slice ta L.length tc] 24)).alloc (.cells #[.slice ga G.length gc] 51)) ∧ BxT ((w.alloc (.cells #[.slice ta L.length tc] 24)).alloc (.cells #[.slice ga G.length gc] 51)) w.heap.size (.slice ta L.length tc) ∧ BxT ((w.alloc (.cells #[.slice ta L.length tc] 24)).alloc (.cells #[.slice ga G.length gc] 51)) (w.heap.size + 1) (.slice ga G.length gc)) := ⟨boxB2 _ _ _, keepBxT _ _ _ _ (BxT.new _ _) (boxB _ _), by have h := BxG.new (w.alloc (.cells #[.slice ta L.length tc] 24)) (.slice ga G.length gc); rw [show (w.alloc (.cells #[.slice ta L.length tc] 24)).heap.size = w.heap.size + 1 by simp] at h; exact h⟩
  generalize hM : mapO L G = M at *
  have HQ : Hid (∀ w1 e w', MapQ w1 L G e w' → ∃ a c, e = .returned (.tuple #[.slice a M.length c, .int .i64 (mapE L G)]) ∧ (∀ j (_ : j < M.length), ∃ g, a = some ⟨g, 0, none⟩ ∧ InI w' g j M[j]) ∧ Below w1.heap.size w1 w') := fun w1 e w' ⟨v', h1, h2, h3⟩ => by
    subst hM
    obtain ⟨a, c, rfl, hr⟩ := ownI_open h2
    exact ⟨a, c, h1, hr, h3⟩
  generalize mapE L G = x at *
  clear hM
  go_enter Tryz.func8, Tryz.ntmps8
  go_wp2_with (first
    | (go_at_call 26; refine (HMP.out _ HBX.out.1).mono ?_; intro e w3 hq; obtain ⟨a3, c3, rfl, hr3, ok⟩ := HQ.out _ _ _ hq; have HB3 := hide3 (HKB.out _ _ HBX.out ok); have HR3 := hide3 hr3; obtain ⟨_, ⟨x0, x1⟩, ⟨y0, y1⟩⟩ := HB3.out; clear ok hq hr3)
    | (go_at_call 27; refine (HRM.out _ HB3.out.1).mono ?_; intro e w4 hq; obtain ⟨a4, c4, rfl, hr4, ok⟩ := HQ.out _ _ _ hq; have HB4 := hide3 (HKB.out _ _ HB3.out ok); have HR4 := hide3 hr4; have HR3b : Hid (∀ j (_ : j < M.length), ∃ g, a3 = some ⟨g, 0, none⟩ ∧ InI w4 g j M[j]) := (fun j hj => by obtain ⟨g, e, hi⟩ := HR3.out j hj; exact ⟨g, e, keepInI _ _ _ _ _ hi ok⟩); clear ok hq hr4))
  clear x0 x1 y0 y1
  go_loopw [9] (fun vi wr => ∃ k : Nat, k ≤ M.length ∧ vi = .int .i64 k ∧ Below w4.heap.size w4 wr) (fun vi _ => M.length - (intOf vi).toNat)
  case atStart => exact ⟨0, Nat.zero_le _, rfl, Below.refl _ _⟩
  case round =>
    obtain ⟨k, hk, rfl, hb⟩ := hrel
    by_cases hlt : k < M.length
    · obtain ⟨g3, rfl, i3⟩ := HR3b.out k hlt
      obtain ⟨g4, rfl, i4⟩ := HR4.out k hlt
      have HK : Hid (KeepP fun w1 => Below w4.heap.size w4 w1 ∧ InI w1 g3 k M[k] ∧ InI w1 g4 k M[k]) := (keepBelow w4).and ((keepInI _ _ _).and (keepInI _ _ _))
      have HO : Hid (Below w4.heap.size w4 wr ∧ InI wr g3 k M[k] ∧ InI wr g4 k M[k]) := ⟨hb, keepInI _ _ _ _ _ i3 hb, keepInI _ _ _ _ _ i4 hb⟩
      generalize M[k] = y at *
      clear i3 i4 hb
      go_wp2_with fail
      refine wp_region_keep HK.out (by kernel_rfl) (by kernel_rfl) (by first | exact HO.out | exact HK.out.drew HO.out) ?_
      intro C hin hout
      have HIN := hide3 hin
      have HOUT := hide3 hout
      clear hin hout HO
      repeat
        (with_reducible refine wpQuiet_step (fun K hK => ?_)
         go_simp
         first
           | (refine hK _ ?_; clear hK K)
           | (apply Exists.intro; refine ⟨fun w1 hC => ?_, hK _ ?_⟩; (focus ((first | (exact rfl) | (obtain ⟨hb1, ⟨p0, p1⟩, ⟨q0, q1⟩⟩ := HOUT.out w1 hC; clear hC; go_simp; first | done | exact rfl)); done)); clear hK K))
      refine wpQuiet_nil ?_
      intro wn hC
      have HO := hide3 (HOUT.out _ hC)
      clear hC HIN HOUT C
      obtain ⟨hb1, ⟨p0, p1⟩, ⟨q0, q1⟩⟩ := HO.out
      go_wp2
      exact ⟨⟨k + 1, by omega, by go_num, HO.out.1⟩, by simp [intOf]; omega⟩
    · obtain rfl : k = M.length := by omega
      have HBE : Hid (Below w.heap.size w wr) := below_then HB4.out.1 hb
      have HC := hide3 (HLV.out wr HBE.out)
      clear hb
      go_wp2_with (go_at_call 28; refine HC.out.mono ?_; rintro e w9 ⟨rfl, ok⟩; have HB9 := hide3 (below_then HBE.out ok); clear ok)
      go_ret
      exact ⟨rfl, HB9.out⟩
end Go.Proofs.YtcclfaioicklaaaGreatDoor
namespace Go.Proofs.YtcclfaioicklaaaGreatDoor
open Go.ChangeShapes Go.WideShapes Go.ChangeAt Go.RowKit
set_option maxRecDepth 100000

theorem cellsStrGT : Tryz.prog.cellsOf 9 = 1 := by kernel_rfl
theorem cellsPinT : Tryz.prog.cellsOf 220 = 4 := by kernel_rfl
theorem cellsEdgeT : Tryz.prog.cellsOf 88 = 2 := by kernel_rfl
theorem cellsNodeT : Tryz.prog.cellsOf 86 = 6 := by kernel_rfl
theorem cellsPinsT : Tryz.prog.cellsOf 83 = 1 := by kernel_rfl
theorem cellsEdgesT : Tryz.prog.cellsOf 84 = 1 := by kernel_rfl
theorem cellsNodesT : Tryz.prog.cellsOf 49 = 1 := by kernel_rfl
theorem cellsGraphT : Tryz.prog.cellsOf 51 = 1 := by kernel_rfl
theorem cellsIntGT : Tryz.prog.cellsOf 3 = 1 := by kernel_rfl

theorem pin_readT {H : Type} {enc : TypeId × Value → H} {W : World} {base : Nat} {held : Bool} {n : Nat} {g o : Nat} {cs : List Value} {x : DataW H × List MemPlace} (hc : W.cells? base ⟨g, o, none⟩ 4 = some cs) (h : DataW.trod enc Tryz.prog W base (fun _ => true) held n 220 cs = some x) : ∃ d : Pn, PnIn W g o d ∧ d.nm.size ≤ 9223372036854775807 := by
  have hs : Tryz.prog.underlying 220 = some (.struct (Tryz.prog.fieldsOf 220)) := by kernel_rfl
  obtain ⟨xs, n', _, _, _, hxl, hf⟩ := DataW.trod_struct hs h
  have hsz : (Tryz.prog.fieldsOf 220).size = 2 := by kernel_rfl
  obtain ⟨_, hcl, hq⟩ := World.cells?_some hc
  obtain ⟨f0, i0, t0, o0⟩ := field_at (fs := Tryz.prog.fieldsOf 220) (i := 0) (ty := 9) (off := 0) (by kernel_rfl)
  obtain ⟨f1, i1, t1, o1⟩ := field_at (fs := Tryz.prog.fieldsOf 220) (i := 1) (ty := 41) (off := 1) (by kernel_rfl)
  have r0 := hf 0 f0 i0
  have r1 := hf 1 f1 i1
  rw [t0, o0, cellsStrGT, List.getElem?_eq_getElem (by omega : 0 < xs.length)] at r0
  rw [t1, o1, cellsVer, List.getElem?_eq_getElem (by omega : 1 < xs.length)] at r1
  obtain ⟨s, e0, _, hs0⟩ := DataW.trod_string Tryz.underlying9 r0
  obtain ⟨a, b, c, ea, eb, ec, _⟩ := ints_of r1
  have ka : ((cs.drop 1).take 3)[0]? = some (.int .i64 a) := ea
  have kb : ((cs.drop 1).take 3)[1]? = some (.int .i64 b) := eb
  have kc : ((cs.drop 1).take 3)[2]? = some (.int .i64 c) := ec
  have q0 := hq 0 (by decide)
  have q1 := hq 1 (by decide)
  have q2 := hq 2 (by decide)
  have q3 := hq 3 (by decide)
  have ad : ∀ i, (⟨g, o, none⟩ : Addr).add i = ⟨g, o + i, none⟩ := fun i => by unfold Addr.add; split <;> simp_all
  simp at ka kb kc
  rw [ad, take1 e0] at q0
  rw [ad, ka] at q1
  rw [ad, kb] at q2
  rw [ad, kc] at q3
  exact ⟨⟨s, a, b, c⟩, ⟨⟨q0, q1, q2, q3⟩, cell_in q0⟩, by unfold maxLen at hs0; exact hs0⟩

theorem edge_readT {H : Type} {enc : TypeId × Value → H} {W : World} {base : Nat} {held : Bool} {n : Nat} {g o : Nat} {cs : List Value} {x : DataW H × List MemPlace} (hc : W.cells? base ⟨g, o, none⟩ 2 = some cs) (h : DataW.trod enc Tryz.prog W base (fun _ => true) held n 88 cs = some x) : ∃ d : Eg, EgIn W g o d ∧ d.lb.size ≤ 9223372036854775807 := by
  have hs : Tryz.prog.underlying 88 = some (.struct (Tryz.prog.fieldsOf 88)) := by kernel_rfl
  obtain ⟨xs, n', _, _, _, hxl, hf⟩ := DataW.trod_struct hs h
  have hsz : (Tryz.prog.fieldsOf 88).size = 2 := by kernel_rfl
  obtain ⟨_, hcl, hq⟩ := World.cells?_some hc
  obtain ⟨f0, i0, t0, o0⟩ := field_at (fs := Tryz.prog.fieldsOf 88) (i := 0) (ty := 9) (off := 0) (by kernel_rfl)
  obtain ⟨f1, i1, t1, o1⟩ := field_at (fs := Tryz.prog.fieldsOf 88) (i := 1) (ty := 3) (off := 1) (by kernel_rfl)
  have r0 := hf 0 f0 i0
  have r1 := hf 1 f1 i1
  rw [t0, o0, cellsStrGT, List.getElem?_eq_getElem (by omega : 0 < xs.length)] at r0
  rw [t1, o1, cellsIntGT, List.getElem?_eq_getElem (by omega : 1 < xs.length)] at r1
  obtain ⟨s, e0, _, hs0⟩ := DataW.trod_string Tryz.underlying9 r0
  obtain ⟨k, e1, _, _⟩ := DataW.trod_int Tryz.underlying3 r1
  have q0 := hq 0 (by decide)
  have q1 := hq 1 (by decide)
  have ad : ∀ i, (⟨g, o, none⟩ : Addr).add i = ⟨g, o + i, none⟩ := fun i => by unfold Addr.add; split <;> simp_all
  rw [ad, take1 e0] at q0
  rw [ad, take1 e1] at q1
  exact ⟨⟨s, k⟩, ⟨⟨q0, q1⟩, cell_in q0⟩, by unfold maxLen at hs0; exact hs0⟩

theorem pins_csT {H : Type} {enc : TypeId × Value → H} {W : World} {base fuel : Nat} {held : Bool} {cs : List Value} {x : DataW H × List MemPlace} (h : DataW.trod enc Tryz.prog W base (fun _ => true) held fuel 83 cs = some x) :
    ∃ v L, cs = [v] ∧ PinsAt W v L ∧ L.length ≤ 9223372036854775807 ∧ ∀ d ∈ L, d.nm.size ≤ 9223372036854775807 := by
  rcases Go.Deep.open_slice Tryz.underlying83 h with ⟨rfl, _⟩ | ⟨ad, len, cap, m, n, D, Pl, rfl, _, hl, hcm, hm, hx, hel⟩
  · exact ⟨_, [], rfl, ⟨none, 0, rfl, Nat.le_refl _, Or.inl rfl⟩, by simp, (fun d hd => by cases hd)⟩
  · have hz : len ≤ 9223372036854775807 := by unfold maxLen at hcm; omega
    rcases Nat.eq_zero_or_pos len with h0 | h0
    · subst h0
      exact ⟨_, [], rfl, ⟨_, _, rfl, Nat.zero_le _, Or.inl rfl⟩, by simp, (fun d hd => by cases hd)⟩
    · have hmm : len ≤ m := by rw [hm]; simp; exact hl
      rw [cellsPinT] at hel
      obtain ⟨g, off, spot⟩ := ad
      obtain ⟨cs0, hc0, _⟩ := hel 0 (by omega)
      obtain ⟨_, hln, hq⟩ := World.cells?_some hc0
      have hcell := hq 0 (by decide)
      rw [List.getElem?_eq_getElem (by omega : 0 < cs0.length)] at hcell
      have hspot : spot = none := by simpa [Addr.add] using World.cell?_spot hcell
      subst hspot
      have ad2 : ∀ o i, (⟨g, o, none⟩ : Addr).add i = ⟨g, o + i, none⟩ := fun o i => by unfold Addr.add; split <;> simp_all
      obtain ⟨L, hL, hP⟩ := list_any (P := fun i (d : Pn) => PnIn W g (off + i * 4) d ∧ d.nm.size ≤ 9223372036854775807) (n := len) fun i hi => by
        obtain ⟨cs, hc, ht⟩ := hel i (by omega)
        rw [ad2] at hc
        exact pin_readT hc ht
      subst hL
      refine ⟨_, L, rfl, ⟨_, _, rfl, hl, Or.inr ⟨g, off, rfl, ?_, fun i hi => (hP i hi).1⟩⟩, hz, ?_⟩
      · have := cell_in hcell
        rw [ad2, ad2] at this; exact this
      · intro d hd
        obtain ⟨i, hi, rfl⟩ := List.getElem_of_mem hd
        exact (hP i hi).2

theorem edges_csT {H : Type} {enc : TypeId × Value → H} {W : World} {base fuel : Nat} {held : Bool} {cs : List Value} {x : DataW H × List MemPlace} (h : DataW.trod enc Tryz.prog W base (fun _ => true) held fuel 84 cs = some x) :
    ∃ v L, cs = [v] ∧ EdgesAt W v L ∧ L.length ≤ 9223372036854775807 ∧ ∀ d ∈ L, d.lb.size ≤ 9223372036854775807 := by
  rcases Go.Deep.open_slice Tryz.underlying84 h with ⟨rfl, _⟩ | ⟨ad, len, cap, m, n, D, Pl, rfl, _, hl, hcm, hm, hx, hel⟩
  · exact ⟨_, [], rfl, ⟨none, 0, rfl, Nat.le_refl _, Or.inl rfl⟩, by simp, (fun d hd => by cases hd)⟩
  · have hz : len ≤ 9223372036854775807 := by unfold maxLen at hcm; omega
    rcases Nat.eq_zero_or_pos len with h0 | h0
    · subst h0
      exact ⟨_, [], rfl, ⟨_, _, rfl, Nat.zero_le _, Or.inl rfl⟩, by simp, (fun d hd => by cases hd)⟩
    · have hmm : len ≤ m := by rw [hm]; simp; exact hl
      rw [cellsEdgeT] at hel
      obtain ⟨g, off, spot⟩ := ad
      obtain ⟨cs0, hc0, _⟩ := hel 0 (by omega)
      obtain ⟨_, hln, hq⟩ := World.cells?_some hc0
      have hcell := hq 0 (by decide)
      rw [List.getElem?_eq_getElem (by omega : 0 < cs0.length)] at hcell
      have hspot : spot = none := by simpa [Addr.add] using World.cell?_spot hcell
      subst hspot
      have ad2 : ∀ o i, (⟨g, o, none⟩ : Addr).add i = ⟨g, o + i, none⟩ := fun o i => by unfold Addr.add; split <;> simp_all
      obtain ⟨L, hL, hP⟩ := list_any (P := fun i (d : Eg) => EgIn W g (off + i * 2) d ∧ d.lb.size ≤ 9223372036854775807) (n := len) fun i hi => by
        obtain ⟨cs, hc, ht⟩ := hel i (by omega)
        rw [ad2] at hc
        exact edge_readT hc ht
      subst hL
      refine ⟨_, L, rfl, ⟨_, _, rfl, hl, Or.inr ⟨g, off, rfl, ?_, fun i hi => (hP i hi).1⟩⟩, hz, ?_⟩
      · have := cell_in hcell
        rw [ad2, ad2] at this; exact this
      · intro d hd
        obtain ⟨i, hi, rfl⟩ := List.getElem_of_mem hd
        exact (hP i hi).2

/-- Texts and lists that are not too great. -/
def NdZT (n : Nd) : Prop := n.nm.size ≤ 9223372036854775807 ∧ (n.cx.length ≤ 9223372036854775807 ∧ ∀ d ∈ n.cx, d.nm.size ≤ 9223372036854775807) ∧ n.ed.length ≤ 9223372036854775807 ∧ ∀ d ∈ n.ed, d.lb.size ≤ 9223372036854775807
theorem node_readT {H : Type} {enc : TypeId × Value → H} {W : World} {base : Nat} {held : Bool} {n : Nat} {g o : Nat} {cs : List Value} {x : DataW H × List MemPlace} (hc : W.cells? base ⟨g, o, none⟩ 6 = some cs) (h : DataW.trod enc Tryz.prog W base (fun _ => true) held n 86 cs = some x) : ∃ d : Nd, (∃ vc ve, NdIn W g o d vc ve) ∧ NdZT d := by
  have hs : Tryz.prog.underlying 86 = some (.struct (Tryz.prog.fieldsOf 86)) := by kernel_rfl
  obtain ⟨xs, n', _, _, _, hxl, hf⟩ := DataW.trod_struct hs h
  have hsz : (Tryz.prog.fieldsOf 86).size = 4 := by kernel_rfl
  obtain ⟨_, hcl, hq⟩ := World.cells?_some hc
  obtain ⟨f0, i0, t0, o0⟩ := field_at (fs := Tryz.prog.fieldsOf 86) (i := 0) (ty := 9) (off := 0) (by kernel_rfl)
  obtain ⟨f1, i1, t1, o1⟩ := field_at (fs := Tryz.prog.fieldsOf 86) (i := 1) (ty := 41) (off := 1) (by kernel_rfl)
  obtain ⟨f2, i2, t2, o2⟩ := field_at (fs := Tryz.prog.fieldsOf 86) (i := 2) (ty := 83) (off := 4) (by kernel_rfl)
  obtain ⟨f3, i3, t3, o3⟩ := field_at (fs := Tryz.prog.fieldsOf 86) (i := 3) (ty := 84) (off := 5) (by kernel_rfl)
  have r0 := hf 0 f0 i0
  have r1 := hf 1 f1 i1
  have r2 := hf 2 f2 i2
  have r3 := hf 3 f3 i3
  rw [t0, o0, cellsStrGT, List.getElem?_eq_getElem (by omega : 0 < xs.length)] at r0
  rw [t1, o1, cellsVer, List.getElem?_eq_getElem (by omega : 1 < xs.length)] at r1
  rw [t2, o2, cellsPinsT, List.getElem?_eq_getElem (by omega : 2 < xs.length)] at r2
  rw [t3, o3, cellsEdgesT, List.getElem?_eq_getElem (by omega : 3 < xs.length)] at r3
  obtain ⟨s, e0, _, hs0⟩ := DataW.trod_string Tryz.underlying9 r0
  obtain ⟨a, b, c, ea, eb, ec, _⟩ := ints_of r1
  obtain ⟨vc, L1, e2, h2, z2, m2⟩ := pins_csT r2
  obtain ⟨ve, L2, e3, h3, z3, m3⟩ := edges_csT r3
  have ka : ((cs.drop 1).take 3)[0]? = some (.int .i64 a) := ea
  have kb : ((cs.drop 1).take 3)[1]? = some (.int .i64 b) := eb
  have kc : ((cs.drop 1).take 3)[2]? = some (.int .i64 c) := ec
  have q0 := hq 0 (by decide)
  have q1 := hq 1 (by decide)
  have q2 := hq 2 (by decide)
  have q3 := hq 3 (by decide)
  have q4 := hq 4 (by decide)
  have q5 := hq 5 (by decide)
  have ad : ∀ i, (⟨g, o, none⟩ : Addr).add i = ⟨g, o + i, none⟩ := fun i => by unfold Addr.add; split <;> simp_all
  simp at ka kb kc
  rw [ad, take1 e0] at q0
  rw [ad, ka] at q1
  rw [ad, kb] at q2
  rw [ad, kc] at q3
  rw [ad, take1 e2] at q4
  rw [ad, take1 e3] at q5
  exact ⟨⟨s, a, b, c, L1, L2⟩, ⟨vc, ve, ⟨q0, q1, q2, q3, q4, q5⟩, ⟨h2, h3⟩, cell_in q0⟩, by unfold maxLen at hs0; exact hs0, ⟨z2, m2⟩, z3, m3⟩

theorem nodes_csT {H : Type} {enc : TypeId × Value → H} {W : World} {base fuel : Nat} {held : Bool} {cs : List Value} {x : DataW H × List MemPlace} (h : DataW.trod enc Tryz.prog W base (fun _ => true) held fuel 49 cs = some x) :
    ∃ v L, cs = [v] ∧ NodesAt W v L ∧ L.length ≤ 9223372036854775807 ∧ ∀ d ∈ L, NdZT d := by
  rcases Go.Deep.open_slice Tryz.underlying49 h with ⟨rfl, _⟩ | ⟨ad, len, cap, m, n, D, Pl, rfl, _, hl, hcm, hm, hx, hel⟩
  · exact ⟨_, [], rfl, ⟨none, 0, rfl, Nat.le_refl _, Or.inl rfl⟩, by simp, (fun d hd => by cases hd)⟩
  · have hz : len ≤ 9223372036854775807 := by unfold maxLen at hcm; omega
    rcases Nat.eq_zero_or_pos len with h0 | h0
    · subst h0
      exact ⟨_, [], rfl, ⟨_, _, rfl, Nat.zero_le _, Or.inl rfl⟩, by simp, (fun d hd => by cases hd)⟩
    · have hmm : len ≤ m := by rw [hm]; simp; exact hl
      rw [cellsNodeT] at hel
      obtain ⟨g, off, spot⟩ := ad
      obtain ⟨cs0, hc0, _⟩ := hel 0 (by omega)
      obtain ⟨_, hln, hq⟩ := World.cells?_some hc0
      have hcell := hq 0 (by decide)
      rw [List.getElem?_eq_getElem (by omega : 0 < cs0.length)] at hcell
      have hspot : spot = none := by simpa [Addr.add] using World.cell?_spot hcell
      subst hspot
      have ad2 : ∀ o i, (⟨g, o, none⟩ : Addr).add i = ⟨g, o + i, none⟩ := fun o i => by unfold Addr.add; split <;> simp_all
      obtain ⟨L, hL, hP⟩ := list_any (P := fun i (d : Nd) => (∃ vc ve, NdIn W g (off + i * 6) d vc ve) ∧ NdZT d) (n := len) fun i hi => by
        obtain ⟨cs, hc, ht⟩ := hel i (by omega)
        rw [ad2] at hc
        exact node_readT hc ht
      subst hL
      refine ⟨_, L, rfl, ⟨_, _, rfl, hl, Or.inr ⟨g, off, rfl, ?_, fun i hi => (hP i hi).1⟩⟩, hz, ?_⟩
      · have := cell_in hcell
        rw [ad2, ad2] at this; exact this
      · intro d hd
        obtain ⟨i, hi, rfl⟩ := List.getElem_of_mem hd
        exact (hP i hi).2

theorem open_graphT {H : Type} {enc : TypeId × Value → H} {W : World} {base b0 : Nat} {held : Bool} {v : Value} {d : DataW H} {p : List MemPlace} (hv : Value.okWide Tryz.prog W .any b0 51 v) (h : DataW.Trod enc Tryz.prog W base (fun _ => true) held 51 v d p) :
    ∃ (G : List Nd) (u : Value), v = .agg #[u] ∧ NodesAt W u G ∧ G.length ≤ 9223372036854775807 ∧ ∀ n ∈ G, NdZT n := by
  have hs : Tryz.prog.underlying 51 = some (.struct (Tryz.prog.fieldsOf 51)) := by kernel_rfl
  obtain ⟨cs, rfl, hsz⟩ := okWide_struct hs hv
  obtain ⟨n, h⟩ := h
  obtain ⟨xs, n', _, _, _, hxl, hf⟩ := DataW.trod_struct hs h
  have hfz : (Tryz.prog.fieldsOf 51).size = 1 := by kernel_rfl
  rw [cellsGraphT] at hsz
  obtain ⟨f0, i0, t0, o0⟩ := field_at (fs := Tryz.prog.fieldsOf 51) (i := 0) (ty := 49) (off := 0) (by kernel_rfl)
  have r0 := hf 0 f0 i0
  rw [t0, o0, cellsNodesT, List.getElem?_eq_getElem (by omega : 0 < xs.length)] at r0
  obtain ⟨u, G, e0, h0, z0, m0⟩ := nodes_csT r0
  have k0 : cs.toList[0]? = some u := take1 e0
  obtain ⟨l⟩ := cs
  match l, hsz with
  | [x0], _ =>
    simp at k0
    subst k0
    exact ⟨G, _, rfl, h0, z0, m0⟩
theorem open_grT {H : Type} {enc : TypeId × Value → H} {W : World} {base b0 : Nat} {held : Bool} {v : Value} {d : DataW H} {p : List MemPlace} (hv : Value.okWide Tryz.prog W .any b0 51 v) (h : DataW.Trod enc Tryz.prog W base (fun _ => true) held 51 v d p) :
    ∃ (G : List Nd) (u : Value), v = .agg #[u] ∧ NodesAt W u G ∧ GrOk G ∧ ∀ n ∈ G, NdZT n := by
  obtain ⟨G, u, e, h1, h2, h3⟩ := open_graphT hv h
  exact ⟨G, u, e, h1, ⟨h2, fun n hn => (h3 n hn).2.2.1⟩, h3⟩
end Go.Proofs.YtcclfaioicklaaaGreatDoor
