/- Files and directories in the order of their paths: the order that strings.Compare tells is the order of the map's datum; a sorted row of files whose paths differ is one row alone; the closure that All hands to the sort; the sorted row in memory. -/
import Derived.Test.YtpkllhgohkgcmaaGreatDoorDisk12
import Derived.Sort.OwnSorted
namespace Go.Proofs.YtpkllhgohkgcmaaGreatDoor
open Go.RowKit Go.Maps Go.WideMaps Go.WideElems Go.Sort Go.Shelf
set_option maxRecDepth 100000

theorem compare_lt : ∀ (a b : List UInt8), Lib.compareBytes a b < 0 ↔ bytesBefore a b = true
  | [], [] => by simp [Lib.compareBytes, bytesBefore]
  | [], _ :: _ => by simp [Lib.compareBytes, bytesBefore]
  | _ :: _, [] => by simp [Lib.compareBytes, bytesBefore]
  | a :: ra, b :: rb => by
    have ih := compare_lt ra rb
    unfold Lib.compareBytes bytesBefore
    by_cases h1 : a < b
    · simp [h1]
    · rw [if_neg h1]
      by_cases h2 : b < a
      · rw [if_pos h2]
        have h3 : ¬ a = b := fun e => by subst e; exact h1 h2
        simp [h1, h3]
      · rw [if_neg h2]
        have h3 : a = b := UInt8.le_antisymm (UInt8.not_lt.1 h2) (UInt8.not_lt.1 h1)
        simp [h3, ih]

/-- A file's path, whether it is a directory, its bytes. -/
abbrev Fl := ByteArray × Bool × ByteArray
def encF (f : Fl) : List Value := [.string f.1, .bool f.2.1, .string f.2.2]
def cmpF (x y : Fl) : Int := Lib.compareBytes x.1.data.toList y.1.data.toList

theorem ltF (x y : Fl) : ltOf cmpF x y = bytesBefore x.1.data.toList y.1.data.toList := by
  unfold ltOf cmpF
  rw [Bool.eq_iff_iff, decide_eq_true_iff]
  exact compare_lt _ _

theorem before_asymm {a b : List UInt8} (h : bytesBefore a b = true) : bytesBefore b a = false := by
  rw [Bool.eq_false_iff]
  intro k
  have := WideShapes.bytes_trans a b a h k
  rw [WideAt.bytes_irrefl] at this
  cases this

theorem not_before_trans {a b c : List UInt8} (h : bytesBefore a b = false) (k : bytesBefore b c = false) : bytesBefore a c = false := by
  rw [Bool.eq_false_iff]
  intro q
  by_cases e : b = c
  · subst e; rw [h] at q; cases q
  · rcases WideAt.bytes_total b c e with r | r
    · rw [k] at r; cases r
    · have := WideShapes.bytes_trans a c b q r
      rw [h] at this; cases this

theorem swoF : SWO (ltOf cmpF) where
  irrefl x := by rw [ltF]; exact WideAt.bytes_irrefl _
  trans x y z h1 h2 := by rw [ltF] at *; exact WideShapes.bytes_trans _ _ _ h1 h2
  ntrans x y z h1 h2 := by rw [ltF] at *; exact not_before_trans h1 h2

/-- Paths that rise. -/
def Rising (l : List Fl) : Prop := l.Pairwise fun x y => bytesBefore x.1.data.toList y.1.data.toList = true

theorem uniq_key {l : List Fl} (h : l.Pairwise fun x y => x.1 ≠ y.1) {a b : Fl} (ha : a ∈ l) (hb : b ∈ l) (e : a.1 = b.1) : a = b := by
  induction l with
  | nil => cases ha
  | cons x l ih =>
    rw [List.pairwise_cons] at h
    rcases List.mem_cons.1 ha with e1 | ha1
    · rcases List.mem_cons.1 hb with e2 | hb1
      · rw [e1, e2]
      · exact absurd (e1 ▸ e) (h.1 b hb1)
    · rcases List.mem_cons.1 hb with e2 | hb1
      · exact absurd (e2 ▸ e.symm) (h.1 a ha1)
      · exact ih h.2 ha1 hb1

/-- A sorted permutation of files whose paths differ is the rising one. -/
theorem sorted_is {d d' : Array Fl} {l : List Fl} (hl : Rising l) (hp : d.toList.Perm l) (hP : PermIn 0 d.size d d') (hS : SortedIn (ltOf cmpF) 0 d.size d') : d'.toList = l := by
  obtain ⟨hsz, _, hperm⟩ := hP
  have e1 : d'.extract 0 d.size = d' := by rw [← hsz]; exact Array.extract_size
  rw [e1, Array.extract_size] at hperm
  have hpl : d'.toList.Perm l := hperm.trans hp
  have hne : l.Pairwise fun x y => x.1 ≠ y.1 := hl.imp fun {x y} h e => by rw [e, WideAt.bytes_irrefl] at h; cases h
  refine List.Perm.eq_of_pairwise (le := fun x y => bytesBefore y.1.data.toList x.1.data.toList = false) ?_ ?_ ?_ hpl
  · intro a b ha hb h1 h2
    have ha' : a ∈ l := hpl.mem_iff.1 ha
    have e : a.1 = b.1 := by
      by_cases e : a.1.data.toList = b.1.data.toList
      · exact bytes_eq e
      · rcases WideAt.bytes_total _ _ e with r | r
        · rw [h2] at r; cases r
        · rw [h1] at r; cases r
    exact uniq_key hne ha' hb e
  · rw [List.pairwise_iff_getElem]
    intro i j hi hj hij
    have hi' : i < d'.size := by simpa using hi
    have hj' : j < d'.size := by simpa using hj
    have := hS i j (Nat.zero_le _) hij (by omega)
    rw [getElem!_pos d' j hj', getElem!_pos d' i hi', ltF] at this
    simpa using this
  · exact hl.imp fun {x y} h => before_asymm h

set_option maxHeartbeats 400000 in
theorem closure_any (x y : Fl) (W : World) : Calls Tryz.prog 37 #[.agg (encF x).toArray, .agg (encF y).toArray] W fun e w' => e = .returned (.int .i64 (cmpF x y)) ∧ ∃ q os', w' = grow (W.drewN q) os' := by
  obtain ⟨p, c, t⟩ := x
  obtain ⟨p', c', t'⟩ := y
  unfold cmpF encF
  have hcon := fun W' => Tryz.strings_Compare p p' W'
  have HC : Hid (∀ W', Calls Tryz.prog 38 #[.string p, .string p'] W' fun e w' => e = .returned (.int .i64 (Lib.compareBytes p.data.toList p'.data.toList)) ∧ w' = W') := hcon
  clear hcon
  generalize Lib.compareBytes p.data.toList p'.data.toList = r at *
  go_enter Tryz.func37, Tryz.ntmps37
  go_wp2_with (go_at_call 38; refine (HC.out _).mono ?_; rintro e w' ⟨rfl, rfl⟩)
  go_ret
  exact ⟨rfl, 0, _, by rw [alloc_eq_grow, alloc_eq_grow, grow_grow]; rfl⟩

theorem cmpLaysF (blk off size : Nat) (w : World) : CmpLays Tryz.prog 37 #[] encF 3 cmpF blk off size w := fun _ _ _ _ x y => closure_any x y _

theorem flat_cells (d : Array Fl) : (flatK encF 3 d).toList = fileCells d.toList := by
  apply List.ext_getElem?
  intro t
  by_cases ht : t < d.size * 3
  · have hk : t / 3 < d.toList.length := by simp; omega
    obtain ⟨h0, h1, h2⟩ := fileCells_get d.toList (t / 3) hk
    have hf : (flatK encF 3 d).toList[t]? = some ((encF d[t / 3]!)[t % 3]!) := by
      rw [Array.getElem?_toList]
      have : (flatK encF 3 d)[t]! = (encF d[t / 3]!)[t % 3]! := get_flatK _ _ _ _ ht
      rw [← this, getElem!_pos _ t (by simpa using ht)]
      exact Array.getElem?_eq_getElem (by simpa using ht)
    have hd : d[t / 3]! = d.toList[t / 3] := by rw [getElem!_pos d (t / 3) (by simpa using hk)]; simp
    rw [hf, hd]
    have hm : t % 3 = 0 ∨ t % 3 = 1 ∨ t % 3 = 2 := by omega
    rcases hm with m | m | m
    · rw [show t / 3 * 3 = t by omega] at h0; rw [m, h0]; rfl
    · rw [show t / 3 * 3 + 1 = t by omega] at h1; rw [m, h1]; rfl
    · rw [show t / 3 * 3 + 1 + 1 = t by omega] at h2; rw [m, h2]; rfl
  · rw [List.getElem?_eq_none (by simp; omega), List.getElem?_eq_none (by rw [fileCells_length]; simp; omega)]

theorem holdsF {w : World} {g : Nat} {cur : Array Value} {e : TypeId} {fs : List Fl} (hb : w.heap[g]? = some (.cells cur e (0, 0))) (ht : cur.toList.take (fs.length * 3) = fileCells fs) : HoldsK encF 3 w g 0 fs.toArray := by
  intro j hj
  have hj' : j < fs.length * 3 := by simpa using hj
  refine ⟨?_, by simp [World.frozen?, hb]⟩
  have h1 : (cur.toList.take (fs.length * 3))[j]? = (fileCells fs)[j]? := by rw [ht]
  rw [List.getElem?_take_of_lt hj'] at h1
  simp only [World.cell?, hb, Nat.zero_add]
  simp only [Option.isSome_none, Bool.false_eq_true, if_false]
  rw [← Array.getElem?_toList, h1]
  have e := flat_cells fs.toArray
  rw [List.toList_toArray] at e
  rw [← e, Array.getElem?_toList, getElem!_pos _ j hj]
  exact Array.getElem?_eq_getElem hj

theorem heapF {w : World} {g n : Nat} {os : Array Obj} {cur : Array Value} {e : TypeId} {fr : Nat × Nat} (d : Array Fl) (hb : w.heap[g]? = some (.cells cur e fr)) :
    (sortWorldK encF 3 w g 0 n d os).heap[g]? = some (.cells (putCells id 0 (flatK encF 3 d) cur) e fr) := by
  have hg : g < w.heap.size := (Array.getElem?_eq_some_iff.1 hb).1
  unfold sortWorldK putRowK
  rw [heap_grow_old _ _ (by simpa using hg)]
  simp [putRow, mapBlock, Sort.ahead, Array.getElem?_modify, hb, onCells]

theorem grownF {w : World} {g n : Nat} {os : Array Obj} (d : Array Fl) : w.grownBy (sortWorldK encF 3 w g 0 n d os) (some g) := by
  unfold sortWorldK putRowK
  refine ⟨rfl, rfl, rfl, by simp, fun k hk hne => ?_⟩
  rw [heap_grow_old _ _ (by simpa using hk)]
  have : g ≠ k := fun e => hne (by rw [e])
  simp [putRow, mapBlock, Sort.ahead, Array.getElem?_modify, this]

theorem take_putF (cur : Array Value) (F : Array Value) (h : F.size ≤ cur.size) : (putCells id 0 F cur).toList.take F.size = F.toList := by
  apply List.ext_getElem?
  intro j
  by_cases hj : j < F.size
  · rw [List.getElem?_take_of_lt hj, Array.getElem?_toList, Array.getElem?_toList]
    simp [putCells, hj, show j < cur.size by omega]
  · rw [List.getElem?_take_eq_none (by omega), List.getElem?_eq_none (by simp; omega)]

theorem ownsF {w : World} {base g cap n : Nat} {os : Array Obj} {cur : Array Value} {fs ts : List Fl} (hl : ts.length = fs.length) (hbase : base ≤ g) (hb : w.heap[g]? = some (.cells cur 49 (0, 0)))
    (h1 : fs.length ≤ cap) (h2 : cap ≤ maxLen) (h3 : cur.size = cap * 3) :
    (sortWorldK encF 3 w g 0 n ts.toArray os).ownsRow base 49 3 (.slice (some ⟨g, 0, none⟩) fs.length cap) fs.length (fileCells ts) := by
  refine ⟨by rw [fileCells_length, hl], .inr ⟨g, cap, _, rfl, hbase, heapF _ hb, h1, h2, by simp [putCells, h3], ?_⟩⟩
  have e := flat_cells ts.toArray
  rw [List.toList_toArray] at e
  have hsz : (flatK encF 3 ts.toArray).size = fs.length * 3 := by simp [hl]
  rw [← hsz, take_putF cur _ (by rw [hsz, h3]; exact Nat.mul_le_mul_right 3 h1), e]

end Go.Proofs.YtpkllhgohkgcmaaGreatDoor
