/- Tc9, Te1, Te2, laid in one text. -/
import Derived.Test.YtcclfaioicklaaaGreatDoorShelfR
import Derived.Test.YtcclfaioicklaaaGreatDoorMg17
namespace Go.Proofs.YtcclfaioicklaaaGreatDoor
open Go.Shelf Go.RowKit Go.Lib Go.Sort
set_option maxRecDepth 100000

/-- The small tree in memory. -/
def smCells (g1 : Nat) : Array Value := #[.slice none 0 0, .string ⟨#[]⟩, .int .i64 0, .int .i64 0, .int .i64 0, .slice none 0 0, .slice none 0 0, .slice none 0 0, .int .i64 0, .slice (some ⟨g1, 0, none⟩) 1 1, .string ⟨#[97]⟩, .int .i64 1, .int .i64 0, .int .i64 0, .slice none 0 0, .slice none 0 0, .slice none 0 0, .int .i64 1]
theorem small_at {w : World} {g g1 : Nat} (hg : g < w.heap.size) (hg1 : g1 < w.heap.size) (h1 : w.cell? ⟨g1, 0, none⟩ = some (.string ⟨#[97]⟩)) (h : ∀ j v, (smCells g1)[j]? = some v → w.cell? ⟨g, j, none⟩ = some v) : DirsAt w (.slice (some ⟨g, 0, none⟩) 2 2) smallL := by
  have hp : PathAt w (.slice (some ⟨g1, 0, none⟩) 1 1) [sA] := ⟨_, 1, rfl, Nat.le_refl _, Or.inr ⟨g1, 0, rfl, fun i hi => by
    obtain rfl : i = 0 := by simpa using hi
    exact ⟨h1, hg1⟩⟩⟩
  refine ⟨_, 2, rfl, Nat.le_refl _, Or.inr ⟨g, 0, rfl, fun i hi => ?_⟩⟩
  rcases (show i = 0 ∨ i = 1 by have : smallL.length = 2 := rfl; omega) with rfl | rfl
  · exact ⟨.slice none 0 0, .slice none 0 0, .slice none 0 0, .slice none 0 0, ⟨h 0 _ rfl, h 1 _ rfl, h 2 _ rfl, h 3 _ rfl, h 4 _ rfl, h 5 _ rfl, h 6 _ rfl, h 7 _ rfl, h 8 _ rfl⟩, ⟨path_none _, deps_none _, deps_none _, deps_none _⟩, hg⟩
  · exact ⟨.slice (some ⟨g1, 0, none⟩) 1 1, .slice none 0 0, .slice none 0 0, .slice none 0 0, ⟨h 9 _ rfl, h 10 _ rfl, h 11 _ rfl, h 12 _ rfl, h 13 _ rfl, h 14 _ rfl, h 15 _ rfl, h 16 _ rfl, h 17 _ rfl⟩, ⟨hp, deps_none _, deps_none _, deps_none _⟩, hg⟩
theorem small_fit : FitK smallL := fun d hd => by
  simp only [smallL, List.mem_cons, List.not_mem_nil, or_false] at hd
  rcases hd with rfl | rfl <;> exact ⟨by decide, by decide, by decide, by decide⟩
theorem small_nodup : (keysD smallL).Nodup := by
  show [keyD ⟨[], zeroPg, 0⟩, keyD ⟨[sA], pkA, 1⟩].Nodup
  rw [List.nodup_cons]
  refine ⟨?_, List.nodup_cons.2 ⟨by simp, List.nodup_nil⟩⟩
  intro h
  rw [List.mem_singleton] at h
  unfold keyD at h
  cases h
theorem small_same : sameK smallL smallL = true := by
  unfold sameK
  exact @decide_eq_true _ (Classical.propDecidable _) fun k => Iff.rfl

set_option maxHeartbeats 1600000 in
theorem small12_any (w : World) : Calls Tryz.prog 33 #[] w fun e w' => ∃ g, e = .returned (.agg #[.slice (some ⟨g, 0, none⟩) 2 2]) ∧ DirsAt w' (.slice (some ⟨g, 0, none⟩) 2 2) smallL ∧ Below w.heap.size w w' := by
  go_enter Tryz.func33, Tryz.ntmps33
  go_wp2
  refine bodyPost_ret (by simp [results, Tryz.results33, go_sem]; try rfl) rfl ?_
  refine ⟨w.heap.size + 1 + 1 + 1, rfl, small_at (g1 := w.heap.size + 1 + 1) ?_ ?_ ?_ (fun j v hj => ?_), ?_⟩
  · simp
  · simp
  · have hb := heap_alloc_new ((w.alloc (.cells #[.slice (some ⟨w.heap.size + 1 + 1 + 1, 0, none⟩) 2 2] 24)).alloc (.cells #[.int .i64 1, .int .i64 0, .int .i64 0] 41)) (.cells #[.string ⟨#[97]⟩] 9)
    have hsz : ((w.alloc (.cells #[.slice (some ⟨w.heap.size + 1 + 1 + 1, 0, none⟩) 2 2] 24)).alloc (.cells #[.int .i64 1, .int .i64 0, .int .i64 0] 41)).heap.size = w.heap.size + 1 + 1 := by simp
    rw [hsz] at hb
    refine ((boxB _ _).cell (p := ⟨w.heap.size + 1 + 1, 0, none⟩) (by simp)).trans ?_
    exact (Lib.cell_of_heap hb 0).trans rfl
  · have hb := heap_alloc_new (((w.alloc (.cells #[.slice (some ⟨w.heap.size + 1 + 1 + 1, 0, none⟩) 2 2] 24)).alloc (.cells #[.int .i64 1, .int .i64 0, .int .i64 0] 41)).alloc (.cells #[.string ⟨#[97]⟩] 9)) (.cells (smCells (w.heap.size + 1 + 1)) 46)
    have hsz : (((w.alloc (.cells #[.slice (some ⟨w.heap.size + 1 + 1 + 1, 0, none⟩) 2 2] 24)).alloc (.cells #[.int .i64 1, .int .i64 0, .int .i64 0] 41)).alloc (.cells #[.string ⟨#[97]⟩] 9)).heap.size = w.heap.size + 1 + 1 + 1 := by simp
    rw [hsz] at hb
    exact (Lib.cell_of_heap hb j).trans hj
  · exact below_then (boxB2 w _ _) (boxB2 _ _ _)

set_option maxHeartbeats 3200000 in
theorem lives12_any {w : World} (he : Env w) (hf : FL w) :
    Calls Tryz.prog 11 #[] w fun e w' => e = .returned (.bool true) ∧ Below w.heap.size w w' := by
  have HSM := hide3 (small12_any w)
  have HCK : Hid (∀ w1 v, Below w.heap.size w w1 → DirsAt w1 v smallL → Calls Tryz.prog 9 #[.agg #[v]] w1 fun e w' => e = .returned (.int .i64 0) ∧ Below w1.heap.size w1 w') := fun w1 v hb hd => by
    have h := tCheck_any hd (by decide) small_ok (he.below hb) (hf.below hb)
    rw [small_check] at h
    exact h
  have HCN : Hid (∀ w1, Below w.heap.size w w1 → Calls Tryz.prog 9 #[.agg #[.slice none 0 0]] w1 fun e w' => e = .returned (.int .i64 42) ∧ Below w1.heap.size w1 w') := fun w1 hb => by
    have h := tCheck_any (L := []) (v := .slice none 0 0) (w := w1) ⟨none, 0, rfl, Nat.le_refl _, Or.inl rfl⟩ (by decide) ⟨(fun d hd => by cases hd), fun d hd => by cases hd⟩ (he.below hb) (hf.below hb)
    rw [checkB_no (L := []) (fun q => by simp at q)] at h
    exact h
  have HFI : Hid (∀ w1 v vp, DirsAt w1 v smallL → PathAt w1 vp [sA] → Calls Tryz.prog 17 #[.agg #[v], vp] w1 fun e w' => e = .returned (.int .i64 1) ∧ Below w1.heap.size w1 w') := fun w1 v vp hd hp => by
    have h := tFind_any hd (by decide) (fun d hd => (small_fit d hd).1) hp
    rw [find_a] at h
    exact h
  have HTX : Hid (∀ w1 vp, PathAt w1 vp [sA, sB] → Calls Tryz.prog 12 #[vp] w1 fun e w' => e = .returned (.string ⟨#[47, 109, 111, 100, 117, 108, 101, 115, 47, 97, 47, 109, 111, 100, 117, 108, 101, 115, 47, 98]⟩) ∧ Below w1.heap.size w1 w') := fun w1 vp hp => by
    have h := tText_any hp (by decide)
    have e1 : textPa [sA, sB] = ⟨#[47, 109, 111, 100, 117, 108, 101, 115, 47, 97, 47, 109, 111, 100, 117, 108, 101, 115, 47, 98]⟩ := by decide +kernel
    rw [e1] at h
    exact h
  have HSA : Hid (∀ w1 v, DirsAt w1 v smallL → Calls Tryz.prog 25 #[.agg #[v], .agg #[v]] w1 fun e w' => e = .returned (.bool true) ∧ Below w1.heap.size w1 w') := fun w1 v hd => by
    obtain ⟨ad, cap, e, _⟩ := hd.sl
    have h := tSame_of (A := smallL) (B := smallL) (va := v) (vb := v) (w := w1) ⟨_, _, _, e⟩ ⟨_, _, _, e⟩ (fun W hb => sorted_nd (hd.below hb) small_fit (by decide) small_nodup) (fun W hb => sorted_nd (hd.below hb) small_fit (by decide) small_nodup)
    rw [small_same] at h
    exact h
  have HP1 : Hid (∀ W : World, PathAt (W.alloc (.cells #[.string ⟨#[97]⟩] 9)) (.slice (some ⟨W.heap.size, 0, none⟩) 1 1) [sA]) := fun W => ⟨_, 1, rfl, Nat.le_refl _, Or.inr ⟨W.heap.size, 0, rfl, fun i hi => by
    obtain rfl : i = 0 := by simpa using hi
    exact ⟨by simp [sA], by simp⟩⟩⟩
  have HP2 : Hid (∀ W : World, PathAt (W.alloc (.cells #[.string ⟨#[97]⟩, .string ⟨#[98]⟩] 9)) (.slice (some ⟨W.heap.size, 0, none⟩) 2 2) [sA, sB]) := fun W => ⟨_, 2, rfl, Nat.le_refl _, Or.inr ⟨W.heap.size, 0, rfl, fun i hi => by
    rcases (show i = 0 ∨ i = 1 by simp at hi; omega) with rfl | rfl <;> exact ⟨by simp [sA, sB], by simp⟩⟩⟩
  clear he hf
  have t1 : True := trivial
  go_enter Tryz.func11, Tryz.ntmps11
  go_wp2_with (first
    | (have _t := HB5; go_at_call 25; refine (HSA.out _ _ (HD.out.below HBD.out)).mono ?_; rintro e w6 ⟨rfl, ok⟩; have HB6 := hide3 (below_then HB5.out ok); clear ok)
    | (have _t := HB4; go_at_call 12; refine (HTX.out _ _ (HP2.out _)).mono ?_; rintro e w5 ⟨rfl, ok⟩; have HBD := hide3 (below_then HBC.out (below_then (boxB w4 _) ok)); have HB5 := hide3 (below_then HB4.out (below_then (boxB w4 _) ok)); have b5 := (HBD.out.cell (p := ⟨w1.heap.size, 0, none⟩) (by simp)).trans b1; clear ok)
    | (have _t := HB3; go_at_call 17; refine (HFI.out _ _ _ (HD.out.below (below_then HBB.out (boxB w3 _))) (HP1.out _)).mono ?_; rintro e w4 ⟨rfl, ok⟩; have HBC := hide3 (below_then HBB.out (below_then (boxB w3 _) ok)); have HB4 := hide3 (below_then HB3.out (below_then (boxB w3 _) ok)); clear ok)
    | (have _t := HB2; go_at_call 9; refine (HCN.out _ HB2.out).mono ?_; rintro e w3 ⟨rfl, ok⟩; have HBB := hide3 (below_then HBA.out ok); have HB3 := hide3 (below_then HB2.out ok); have b3 := (HBB.out.cell (p := ⟨w1.heap.size, 0, none⟩) (by simp)).trans b1; clear ok HB2)
    | (have _t := t1; have b1 : (w1.alloc (.cells #[.slice (some ⟨g, 0, none⟩) 2 2] 24)).cell? ⟨w1.heap.size, 0, none⟩ = some (.slice (some ⟨g, 0, none⟩) 2 2) := (by simp); go_at_call 9; refine (HCK.out _ _ (below_then HB1.out (boxB _ _)) HD.out).mono ?_; rintro e w2 ⟨rfl, ok⟩; have HBA := hide3 ok; have HB2 := hide3 (below_then (below_then HB1.out (boxB _ _)) ok); clear ok t1)
    | (go_at_call 33; refine HSM.out.mono ?_; rintro e w1 ⟨g, rfl, hd, ok⟩; have HD : Hid (DirsAt (w1.alloc (.cells #[.slice (some ⟨g, 0, none⟩) 2 2] 24)) (.slice (some ⟨g, 0, none⟩) 2 2) smallL) := hd.below (boxB _ _); have HB1 := hide3 ok; clear hd ok))
  go_ret
  exact ⟨rfl, HB6.out⟩
end Go.Proofs.YtcclfaioicklaaaGreatDoor
namespace Go.Proofs.YtcclfaioicklaaaGreatDoor
open Go.Shelf Go.RowKit Go.Lib Go.Sort
set_option maxRecDepth 100000

section
variable {α : Type} [Inhabited α]
theorem holds_one (enc : α → Value) {w : World} {g : Nat} {cur : Array Value} {e : TypeId} {fs : List α} (hb : w.heap[g]? = some (.cells cur e (0, 0))) (ht : cur.toList.take fs.length = fs.map enc) : Holds enc w g 0 fs.toArray := by
  intro j hj
  have hj' : j < fs.length := by simpa using hj
  refine ⟨?_, by simp [World.frozen?, hb]⟩
  have h1 : (cur.toList.take fs.length)[j]? = (fs.map enc)[j]? := by rw [ht]
  rw [List.getElem?_take_of_lt hj', List.getElem?_map, List.getElem?_eq_getElem hj'] at h1
  simp only [World.cell?, hb, Nat.zero_add]
  simp only [Option.isSome_none, Bool.false_eq_true, if_false]
  rw [← Array.getElem?_toList, h1, getElem!_pos fs.toArray j hj]
  simp
theorem heap_one (enc : α → Value) {w : World} {g n : Nat} {os : Array Obj} {cur : Array Value} {e : TypeId} {fr : Nat × Nat} (d : Array α) (hb : w.heap[g]? = some (.cells cur e fr)) :
    (sortWorld enc w g 0 n d os).heap[g]? = some (.cells (putCells enc 0 d cur) e fr) := by
  have hg : g < w.heap.size := (Array.getElem?_eq_some_iff.1 hb).1
  unfold sortWorld
  rw [heap_grow_old _ _ (by simpa using hg)]
  simp [putRow, mapBlock, Sort.ahead, Array.getElem?_modify, hb, onCells]
theorem grown_one (enc : α → Value) {w : World} {g n : Nat} {os : Array Obj} (d : Array α) : w.grownBy (sortWorld enc w g 0 n d os) (some g) := by
  unfold sortWorld
  refine ⟨rfl, rfl, rfl, by simp, fun j hj hne => ?_⟩
  rw [heap_grow_old _ _ (by simpa using hj)]
  have : g ≠ j := fun e => hne (by rw [e])
  simp [putRow, mapBlock, Sort.ahead, Array.getElem?_modify, this]
theorem take_one1 (enc : α → Value) (cur : Array Value) (d : Array α) (h : d.size ≤ cur.size) : (putCells enc 0 d cur).toList.take d.size = d.toList.map enc := by
  apply List.ext_getElem?
  intro j
  by_cases hj : j < d.size
  · rw [List.getElem?_take_of_lt hj, Array.getElem?_toList, List.getElem?_map, Array.getElem?_toList]
    simp [putCells, hj, show j < cur.size by omega]
  · rw [List.getElem?_take_eq_none (by omega), List.getElem?_eq_none (by simp; omega)]
/-- Sorting a row of one's own, of one cell each, by a function that may read what lies elsewhere. -/
theorem sort_mem1 {ρ : Ren} (L : SlLaysF.n6 Tryz.prog ρ) (enc : α → Value) (h1 : OneCell enc) (cf : α → α → Int) (hO : SWO (ltOf cf)) (g : Nat) (cb : Array Value)
    (eg : ∀ args w, (callFunc g args).run Tryz.prog w = .ok (.enter g args) w)
    {w : World} {base : Nat} {T : TypeId} {v : Value} {fs : List α} (hown : w.ownsRow base T 1 v fs.length (fs.map enc)) (hz : fs.length < 4611686018427387904)
    (hcmp : ∀ W, w.grownBy W v.ownBlock → ∀ (x y : α), Calls Tryz.prog g (#[enc x, enc y] ++ cb) W fun e w' => e = .returned (.int .i64 (cf x y)) ∧ ∃ q os', w' = grow (W.drewN q) os') :
    Calls Tryz.prog (ρ.f 6) #[v, .func (.func g) #[] cb] w fun e w' => e = .returned (.tuple #[]) ∧ ∃ ts : List α, ts.Perm fs ∧ (ts.Pairwise fun x y => ltOf cf y x = false) ∧ w'.ownsRow base T 1 v ts.length (ts.map enc) ∧ w.grownBy w' v.ownBlock := by
  rcases hown.2 with ⟨hv, hn⟩ | ⟨b, cap, cur, hv, hB, hgg, hc1, hc2, hc3, hc4⟩
  · obtain rfl : fs = [] := List.length_eq_zero_iff.1 hn
    subst hv
    refine (AnyF.slices_SortFunc_none { L with } none 0 (.func (.func g) #[] cb) w).mono ?_
    rintro e w' ⟨rfl, rfl⟩
    exact ⟨rfl, [], List.Perm.refl _, List.Pairwise.nil, hown, ⟨rfl, rfl, rfl, Nat.le_refl _, fun _ _ _ => rfl⟩⟩
  · subst hv
    rw [Nat.mul_one] at hc3 hc4
    have hH := holds_one enc hgg hc4
    have hcon := Any.slices_SortFunc L enc h1 cf hO g cb b 0 cap fs.toArray w eg (fun m os dk _ x y => hcmp _ (grown_one enc dk) x y) hH (Array.getElem?_eq_some_iff.1 hgg).1 (by simp; omega)
    simp only [List.size_toArray] at hcon
    refine hcon.mono ?_
    rintro e w' ⟨rfl, d', n, os, hp, hs, rfl⟩
    have hp' : PermIn 0 fs.toArray.size fs.toArray d' := by simpa using hp
    have hs' : SortedIn (ltOf cf) 0 fs.toArray.size d' := by simpa using hs
    have hpl := perm_list hp'
    rw [List.toList_toArray] at hpl
    have hl : d'.toList.length = d'.size := by simp
    refine ⟨rfl, d'.toList, hpl, sorted_list hp' hs', ⟨by simp, .inr ⟨b, cap, _, by rw [hpl.length_eq], hB, heap_one enc d' hgg, by rw [hpl.length_eq]; exact hc1, hc2, by simp [putCells, hc3], ?_⟩⟩, grown_one enc d'⟩
    rw [Nat.mul_one, hl]
    exact take_one1 enc cur d' (by rw [← hl, hpl.length_eq, hc3]; exact hc1)
end

/-- The last name of a directory's path. -/
def lsN (L : List Dr) (i : Nat) : ByteArray := match L[i]? with
  | some d => lastP d.pa
  | none => ⟨#[]⟩
theorem lsN_at {L : List Dr} {i : Nat} (h : i < L.length) : lsN L i = lastP L[i].pa := by unfold lsN; rw [List.getElem?_eq_getElem h]
def cmpN (i j : Nat) : Int := if i < j then -1 else if j < i then 1 else 0
theorem ordN : Ord3 cmpN where
  eq x y := by unfold cmpN; repeat' split; all_goals omega
  anti x y := by unfold cmpN; repeat' split; all_goals omega
  trans x y z h1 h2 := by
    have q : ∀ {a b : Nat}, cmpN a b < 0 → a < b := fun {a b} h => by
      unfold cmpN at h
      by_cases c : a < b
      · exact c
      · rw [if_neg c] at h
        split at h <;> omega
    have q1 := q h1
    have q2 := q h2
    unfold cmpN
    rw [if_pos (by omega)]
    decide
/-- Places by the last names of their paths, then by themselves. -/
def cmpI (L : List Dr) (i j : Nat) : Int := or2 (cmpS (lsN L i) (lsN L j)) (cmpN i j)
theorem ordI (L : List Dr) : Ord3 (cmpI L) := ord_or ordS ordN (lsN L) id fun _ _ _ h => h

theorem isNaNI_any (n : Int) (w : World) : Calls Tryz.prog 73 #[.int .i64 n] w fun e w' => e = .returned (.bool false) ∧ w' = w := by
  go_enter Tryz.func73, Tryz.ntmps73
  go_wp2
  go_ret
  exact ⟨by simp, rfl⟩

set_option maxHeartbeats 800000 in
theorem cmpN_any (i j : Nat) (w : World) : Calls Tryz.prog 49 #[.int .i64 i, .int .i64 j] w fun e w' => e = .returned (.int .i64 (cmpN i j)) ∧ w' = w := by
  have HN : Hid (∀ n w, Calls Tryz.prog 73 #[.int .i64 n] w fun e w' => e = .returned (.bool false) ∧ w' = w) := isNaNI_any
  rcases Nat.lt_trichotomy i j with h | h | h
  · have HR : Hid (cmpN i j = -1) := by unfold Hid cmpN; rw [if_pos h]
    have h1 : decide ((i : Int) < (j : Int)) = true := decide_eq_true (by omega)
    go_enter Tryz.func49, Tryz.ntmps49
    go_wp2_with (go_at_call 73; refine (HN.out _ _).mono ?_; rintro e w1 ⟨rfl, rfl⟩)
    go_ret
    exact ⟨ret_int HR.out.symm, rfl⟩
  · have HR : Hid (cmpN i j = 0) := by unfold Hid cmpN; rw [if_neg (by omega), if_neg (by omega)]
    subst h
    go_enter Tryz.func49, Tryz.ntmps49
    go_wp2_with (go_at_call 73; refine (HN.out _ _).mono ?_; rintro e w1 ⟨rfl, rfl⟩)
    go_ret
    exact ⟨ret_int HR.out.symm, rfl⟩
  · have HR : Hid (cmpN i j = 1) := by unfold Hid cmpN; rw [if_neg (by omega), if_pos h]
    have h1 : decide ((i : Int) < (j : Int)) = false := decide_eq_false (by omega)
    have h2 : decide ((j : Int) < (i : Int)) = true := decide_eq_true (by omega)
    go_enter Tryz.func49, Tryz.ntmps49
    go_wp2_with (go_at_call 73; refine (HN.out _ _).mono ?_; rintro e w1 ⟨rfl, rfl⟩)
    go_ret
    exact ⟨ret_int HR.out.symm, rfl⟩

theorem last_eq {L : List ByteArray} {v : Value} {w : World} (h : PathAt w v L) (h0 : 0 < L.length) (hz : L.length ≤ 9223372036854775807) :
    Calls Tryz.prog 48 #[v] w fun e w' => e = .returned (.string (lastP L)) ∧ w' = w := by
  have HR := hide3 (lastP_at h0)
  obtain ⟨ad, cap, rfl, hc, hl⟩ := h.el
  obtain ⟨g, o, rfl, c0, c1⟩ := hl (L.length - 1) (by omega)
  generalize L[L.length - 1]'(by omega) = s at *
  rw [HR.out]
  obtain ⟨n, hn⟩ : ∃ n, L.length = n + 1 := ⟨L.length - 1, by omega⟩
  rw [hn] at c0 hz hc ⊢
  rw [show n + 1 - 1 = n by omega] at c0
  have hw1 : IntKind.i64.wrap (n : Int) = n := wrapN (by omega)
  clear h hl h0 hn HR
  go_enter Tryz.func48, Tryz.ntmps48
  go_wp2
  go_ret
  exact ⟨rfl, rfl⟩
end Go.Proofs.YtcclfaioicklaaaGreatDoor
namespace Go.Proofs.YtcclfaioicklaaaGreatDoor
open Go.Shelf Go.RowKit Go.Lib Go.Sort
set_option maxRecDepth 100000

/-- A path is another one and one name more. -/
noncomputable def stB (p q : List ByteArray) : Bool := decide (0 < p.length) && eqB (p.take (p.length - 1)) q
theorem stB_iff {p q : List ByteArray} : stB p q = true ↔ 0 < p.length ∧ p.take (p.length - 1) = q := by
  unfold stB
  rw [Bool.and_eq_true, decide_eq_true_iff, eqB_iff]

set_option maxHeartbeats 800000 in
theorem standsIn_any {p q : List ByteArray} {vp vq : Value} {w : World} (hp : PathAt w vp p) (hq : PathAt w vq q) (hz : p.length ≤ 9223372036854775807) :
    Calls Tryz.prog 43 #[vp, vq] w fun e w' => e = .returned (.bool (stB p q)) ∧ Below w.heap.size w w' := by
  obtain ⟨ad, cap, rfl, hc, hx1⟩ := hp.el
  obtain ⟨bd, cb, rfl, hx2⟩ := hq.el
  clear hx1 hx2
  rcases Nat.eq_zero_or_pos p.length with h0 | h0
  · have HR : Hid (stB p q = false) := by unfold Hid stB; rw [h0]; rfl
    rw [HR.out, h0]
    clear hp hq hz hc HR h0
    generalize q.length = m at *
    go_enter Tryz.func43, Tryz.ntmps43
    go_wp2
    go_ret
    exact ⟨rfl, Below.refl _ _⟩
  · have HR : Hid (stB p q = eqB (p.take (p.length - 1)) q) := by unfold Hid stB; rw [decide_eq_true h0]; rfl
    have HA := hide3 (above_any (ad := ad) (cap := cap) h0 hc hz)
    have HE : Hid (∀ w1, Below w.heap.size w w1 → Calls Tryz.prog 40 #[.slice ad (p.length - 1) cap, .slice bd q.length cb] w1 fun e w' => e = .returned (.bool (eqB (p.take (p.length - 1)) q)) ∧ Below w1.heap.size w1 w') := fun w1 hb => EqualS_any ((hp.cut (by omega)).below hb) (hq.below hb) (by rw [List.length_take]; omega)
    rw [HR.out]
    have hpi : (0 : Int) < (p.length : Int) := by omega
    clear hp hq hz hc HR
    generalize eqB (p.take (p.length - 1)) q = b at *
    generalize p.length - 1 = k at *
    generalize p.length = n at *
    generalize q.length = m at *
    go_enter Tryz.func43, Tryz.ntmps43
    go_wp2_with (first
      | (go_at_call 42; refine (HA.out _).mono ?_; rintro e w1 ⟨rfl, ok⟩; have HB1 := hide3 ok; clear ok)
      | (go_at_call 40; refine (HE.out _ HB1.out).mono ?_; rintro e w2 ⟨rfl, ok⟩; have HB2 := hide3 (below_then HB1.out ok); clear ok))
    go_ret
    exact ⟨rfl, HB2.out⟩

set_option maxHeartbeats 3200000 in
/-- The order of places. -/
theorem insideCmp_gd {L : List Dr} {v : Value} {w : World} {Bt : Nat} (h : DirsAt w v L) (hb : BxT w Bt v) (hf : FitD L) {i j : Nat} (hi : i < L.length) (hj : j < L.length) (pi : 0 < L[i].pa.length) (pj : 0 < L[j].pa.length) :
    Calls Tryz.prog 45 #[.int .i64 i, .int .i64 j, .pointer (some ⟨Bt, 0, none⟩)] w fun e w' => e = .returned (.int .i64 (cmpI L i j)) ∧ Gd w w' := by
  obtain ⟨ad, cap, rfl, hc, hsl⟩ := h.sl
  obtain ⟨g, o, rfl, u, v1, v2, v3, hdi⟩ := hsl i hi
  obtain ⟨g2, o2, e2, x, y1, y2, y3, hdj⟩ := hsl j hj
  cases e2
  have HL1 : Hid (∀ w1, Below w.heap.size w w1 → Calls Tryz.prog 48 #[u] w1 fun e w' => e = .returned (.string (lsN L i)) ∧ w' = w1) := fun w1 hb => by
    rw [lsN_at hi]
    exact last_eq (hdi.2.1.1.below hb) pi (hf _ (List.getElem_mem hi))
  have HL2 : Hid (∀ w1, Below w.heap.size w w1 → Calls Tryz.prog 48 #[x] w1 fun e w' => e = .returned (.string (lsN L j)) ∧ w' = w1) := fun w1 hb => by
    rw [lsN_at hj]
    exact last_eq (hdj.2.1.1.below hb) pj (hf _ (List.getElem_mem hj))
  have HSC : Hid (∀ W, Calls Tryz.prog 47 #[.string (lsN L i), .string (lsN L j)] W fun e w' => e = .returned (.int .i64 (cmpS (lsN L i) (lsN L j))) ∧ w' = W) := fun W => Tryz.strings_Compare _ _ W
  have HNC : Hid (∀ W, Calls Tryz.prog 49 #[.int .i64 i, .int .i64 j] W fun e w' => e = .returned (.int .i64 (cmpN i j)) ∧ w' = W) := cmpN_any i j
  have HIE : Hid (cmpI L i j = or2 (cmpS (lsN L i) (lsN L j)) (cmpN i j)) := rfl
  rw [HIE.out]
  generalize cmpS (lsN L i) (lsN L j) = r1 at *
  generalize cmpN i j = r2 at *
  generalize lsN L i = s at *
  generalize lsN L j = t at *
  have HOR : Hid (∀ W : World, Calls Tryz.prog 46 #[.slice (some ⟨W.heap.size, 0, none⟩) 2 2] (W.alloc (.cells #[.int .i64 r1, .int .i64 r2] 3)) fun e w' => e = .returned (.int .i64 (or2 r1 r2)) ∧ w' = (W.alloc (.cells #[.int .i64 r1, .int .i64 r2] 3))) := fun W => or_two (by simp) (by simp)
  have HO0 : Hid (Calls Tryz.prog 46 #[.slice (some ⟨w.heap.size, 0, none⟩) 2 2] (w.drew.alloc (.cells #[.int .i64 r1, .int .i64 r2] 3)) fun e w' => e = .returned (.int .i64 (or2 r1 r2)) ∧ w' = (w.drew.alloc (.cells #[.int .i64 r1, .int .i64 r2] 3))) := HOR.out w.drew
  clear HOR
  generalize or2 r1 r2 = rr at *
  obtain ⟨ua, uc, rfl⟩ := hdi.2.1.1.sl
  obtain ⟨xa, xc, rfl⟩ := hdj.2.1.1.sl
  have k0 : w.cell? ⟨g, o + i * 9, none⟩ = some (.slice ua L[i].pa.length uc) := hdi.1.1
  have j0 : w.cell? ⟨g, o + j * 9, none⟩ = some (.slice xa L[j].pa.length xc) := hdj.1.1
  have b0 : w.cell? ⟨Bt, 0, none⟩ = some (.slice (some ⟨g, o, none⟩) L.length cap) := hb.1
  have hLz : (i : Int) < L.length := by omega
  have hLy : (j : Int) < L.length := by omega
  have HB0 : Hid (Below w.heap.size w w.drew) := (Below.refl _ _).drew
  have HG0 : Hid (Gd w w.drew) := Gd.drew _
  clear h hsl hf hdi hdj hb pi pj HIE
  generalize L[i].pa.length = n1 at *
  generalize L[j].pa.length = n2 at *
  have t1 : True := trivial
  go_enter Tryz.func45, Tryz.ntmps45
  go_wp2_with fail
  go_region_held3 (fun w' => w'.cell? ⟨g, o + i * 9, none⟩ = some (.slice ua n1 uc) ∧ w'.cell? ⟨g, o + j * 9, none⟩ = some (.slice xa n2 xc) ∧ w'.cell? ⟨Bt, 0, none⟩ = some (.slice (some ⟨g, o, none⟩) L.length cap)) (go_keep) (first
    | (have _t := t4; go_at_call 46; refine HO0.out.mono ?_; rintro e w5 ⟨rfl, rfl⟩)
    | (have _t := t3; go_at_call 49; refine (HNC.out _).mono ?_; rintro e w4 ⟨rfl, hw4⟩; subst w4; have t4 : True := trivial)
    | (have _t := t3; go_at_call 47; refine (HSC.out _).mono ?_; rintro e w4 ⟨rfl, hw4⟩; subst w4)
    | (have _t := t2; go_at_call 48; refine (HL2.out _ HB0.out).mono ?_; rintro e w3 ⟨rfl, hw3⟩; subst w3; have t3 : True := trivial; clear t2)
    | (have _t := t1; go_at_call 48; refine (HL1.out _ HB0.out).mono ?_; rintro e w2 ⟨rfl, hw2⟩; subst w2; have t2 : True := trivial; clear t1))
  all_goals go_wp2
  all_goals go_ret
  all_goals exact ⟨rfl, HG0.out.trans (Gd.box _ _)⟩
end Go.Proofs.YtcclfaioicklaaaGreatDoor
