/- Dd: pieces of Disk12, Disk13, Disk14, Ref1, Ref2, Ref3, Ref4. -/
import Derived.Sort.OwnSorted
import Derived.Maps.Ext
import Derived.Deep.Light
import Derived.Test.YtefcndfeemnglaaDoorDd2
namespace Go.Proofs.YtefcndfeemnglaaDoor.Dk
open Go.RowKit Go.Maps Go.WideMaps Go.WideElems
set_option maxRecDepth 100000
open Go.RowKit Go.Maps Go.WideMaps Go.WideElems Go.Sort Go.Shelf
open Go.RowKit
open Go.RowKit Go.Maps

theorem compare_lt : ∀ (a b : List UInt8), Lib.compareBytes a b < 0 ↔ bytesBefore a b = true
  | [], [] => by simp [Lib.compareBytes, bytesBefore]
  | [], _ :: _ => by simp [Lib.compareBytes, bytesBefore]
  | _ :: _, [] => by simp [Lib.compareBytes, bytesBefore]
  | a :: ra, b :: rb => by
    have ih := compare_lt ra rb
    unfold Lib.compareBytes bytesBefore
    by_cases h1 : a < b
    · simp [h1]
    · rw [if_neg h1]
      by_cases h2 : b < a
      · rw [if_pos h2]
        have h3 : ¬ a = b := fun e => by subst e; exact h1 h2
        simp [h1, h3]
      · rw [if_neg h2]
        have h3 : a = b := UInt8.le_antisymm (UInt8.not_lt.1 h2) (UInt8.not_lt.1 h1)
        simp [h3, ih]

/-- A file's path, whether it is a directory, its bytes. -/
abbrev Fl := ByteArray × Bool × ByteArray
def encF (f : Fl) : List Value := [.string f.1, .bool f.2.1, .string f.2.2]
def cmpF (x y : Fl) : Int := Lib.compareBytes x.1.data.toList y.1.data.toList

theorem ltF (x y : Fl) : ltOf cmpF x y = bytesBefore x.1.data.toList y.1.data.toList := by
  unfold ltOf cmpF
  rw [Bool.eq_iff_iff, decide_eq_true_iff]
  exact compare_lt _ _

theorem before_asymm {a b : List UInt8} (h : bytesBefore a b = true) : bytesBefore b a = false := by
  rw [Bool.eq_false_iff]
  intro k
  have := WideShapes.bytes_trans a b a h k
  rw [WideAt.bytes_irrefl] at this
  cases this

theorem not_before_trans {a b c : List UInt8} (h : bytesBefore a b = false) (k : bytesBefore b c = false) : bytesBefore a c = false := by
  rw [Bool.eq_false_iff]
  intro q
  by_cases e : b = c
  · subst e; rw [h] at q; cases q
  · rcases WideAt.bytes_total b c e with r | r
    · rw [k] at r; cases r
    · have := WideShapes.bytes_trans a c b q r
      rw [h] at this; cases this

theorem swoF : SWO (ltOf cmpF) where
  irrefl x := by rw [ltF]; exact WideAt.bytes_irrefl _
  trans x y z h1 h2 := by rw [ltF] at *; exact WideShapes.bytes_trans _ _ _ h1 h2
  ntrans x y z h1 h2 := by rw [ltF] at *; exact not_before_trans h1 h2

/-- Paths that rise. -/
def Rising (l : List Fl) : Prop := l.Pairwise fun x y => bytesBefore x.1.data.toList y.1.data.toList = true

theorem uniq_key {l : List Fl} (h : l.Pairwise fun x y => x.1 ≠ y.1) {a b : Fl} (ha : a ∈ l) (hb : b ∈ l) (e : a.1 = b.1) : a = b := by
  induction l with
  | nil => cases ha
  | cons x l ih =>
    rw [List.pairwise_cons] at h
    rcases List.mem_cons.1 ha with e1 | ha1
    · rcases List.mem_cons.1 hb with e2 | hb1
      · rw [e1, e2]
      · exact absurd (e1 ▸ e) (h.1 b hb1)
    · rcases List.mem_cons.1 hb with e2 | hb1
      · exact absurd (e2 ▸ e.symm) (h.1 a ha1)
      · exact ih h.2 ha1 hb1

/-- A sorted permutation of files whose paths differ is the rising one. -/
theorem sorted_is {d d' : Array Fl} {l : List Fl} (hl : Rising l) (hp : d.toList.Perm l) (hP : PermIn 0 d.size d d') (hS : SortedIn (ltOf cmpF) 0 d.size d') : d'.toList = l := by
  obtain ⟨hsz, _, hperm⟩ := hP
  have e1 : d'.extract 0 d.size = d' := by rw [← hsz]; exact Array.extract_size
  rw [e1, Array.extract_size] at hperm
  have hpl : d'.toList.Perm l := hperm.trans hp
  have hne : l.Pairwise fun x y => x.1 ≠ y.1 := hl.imp fun {x y} h e => by rw [e, WideAt.bytes_irrefl] at h; cases h
  refine List.Perm.eq_of_pairwise (le := fun x y => bytesBefore y.1.data.toList x.1.data.toList = false) ?_ ?_ ?_ hpl
  · intro a b ha hb h1 h2
    have ha' : a ∈ l := hpl.mem_iff.1 ha
    have e : a.1 = b.1 := by
      by_cases e : a.1.data.toList = b.1.data.toList
      · exact bytes_eq e
      · rcases WideAt.bytes_total _ _ e with r | r
        · rw [h2] at r; cases r
        · rw [h1] at r; cases r
    exact uniq_key hne ha' hb e
  · rw [List.pairwise_iff_getElem]
    intro i j hi hj hij
    have hi' : i < d'.size := by simpa using hi
    have hj' : j < d'.size := by simpa using hj
    have := hS i j (Nat.zero_le _) hij (by omega)
    rw [getElem!_pos d' j hj', getElem!_pos d' i hi', ltF] at this
    simpa using this
  · exact hl.imp fun {x y} h => before_asymm h

theorem flat_cells (d : Array Fl) : (flatK encF 3 d).toList = fileCells d.toList := by
  apply List.ext_getElem?
  intro t
  by_cases ht : t < d.size * 3
  · have hk : t / 3 < d.toList.length := by simp; omega
    obtain ⟨h0, h1, h2⟩ := fileCells_get d.toList (t / 3) hk
    have hf : (flatK encF 3 d).toList[t]? = some ((encF d[t / 3]!)[t % 3]!) := by
      rw [Array.getElem?_toList]
      have : (flatK encF 3 d)[t]! = (encF d[t / 3]!)[t % 3]! := get_flatK _ _ _ _ ht
      rw [← this, getElem!_pos _ t (by simpa using ht)]
      exact Array.getElem?_eq_getElem (by simpa using ht)
    have hd : d[t / 3]! = d.toList[t / 3] := by rw [getElem!_pos d (t / 3) (by simpa using hk)]; simp
    rw [hf, hd]
    have hm : t % 3 = 0 ∨ t % 3 = 1 ∨ t % 3 = 2 := by omega
    rcases hm with m | m | m
    · rw [show t / 3 * 3 = t by omega] at h0; rw [m, h0]; rfl
    · rw [show t / 3 * 3 + 1 = t by omega] at h1; rw [m, h1]; rfl
    · rw [show t / 3 * 3 + 1 + 1 = t by omega] at h2; rw [m, h2]; rfl
  · rw [List.getElem?_eq_none (by simp; omega), List.getElem?_eq_none (by rw [fileCells_length]; simp; omega)]

theorem holdsF {w : World} {g : Nat} {cur : Array Value} {e : TypeId} {fs : List Fl} (hb : w.heap[g]? = some (.cells cur e (0, 0))) (ht : cur.toList.take (fs.length * 3) = fileCells fs) : HoldsK encF 3 w g 0 fs.toArray := by
  intro j hj
  have hj' : j < fs.length * 3 := by simpa using hj
  refine ⟨?_, by simp [World.frozen?, hb]⟩
  have h1 : (cur.toList.take (fs.length * 3))[j]? = (fileCells fs)[j]? := by rw [ht]
  rw [List.getElem?_take_of_lt hj'] at h1
  simp only [World.cell?, hb, Nat.zero_add]
  simp only [Option.isSome_none, Bool.false_eq_true, if_false]
  rw [← Array.getElem?_toList, h1]
  have e := flat_cells fs.toArray
  rw [List.toList_toArray] at e
  rw [← e, Array.getElem?_toList, getElem!_pos _ j hj]
  exact Array.getElem?_eq_getElem hj

theorem heapF {w : World} {g n : Nat} {os : Array Obj} {cur : Array Value} {e : TypeId} {fr : Nat × Nat} (d : Array Fl) (hb : w.heap[g]? = some (.cells cur e fr)) :
    (sortWorldK encF 3 w g 0 n d os).heap[g]? = some (.cells (putCells id 0 (flatK encF 3 d) cur) e fr) := by
  have hg : g < w.heap.size := (Array.getElem?_eq_some_iff.1 hb).1
  unfold sortWorldK putRowK
  rw [heap_grow_old _ _ (by simpa using hg)]
  simp [putRow, mapBlock, Sort.ahead, Array.getElem?_modify, hb, onCells]

theorem grownF {w : World} {g n : Nat} {os : Array Obj} (d : Array Fl) : w.grownBy (sortWorldK encF 3 w g 0 n d os) (some g) := by
  unfold sortWorldK putRowK
  refine ⟨rfl, rfl, rfl, by simp, fun k hk hne => ?_⟩
  rw [heap_grow_old _ _ (by simpa using hk)]
  have : g ≠ k := fun e => hne (by rw [e])
  simp [putRow, mapBlock, Sort.ahead, Array.getElem?_modify, this]

theorem take_putF (cur : Array Value) (F : Array Value) (h : F.size ≤ cur.size) : (putCells id 0 F cur).toList.take F.size = F.toList := by
  apply List.ext_getElem?
  intro j
  by_cases hj : j < F.size
  · rw [List.getElem?_take_of_lt hj, Array.getElem?_toList, Array.getElem?_toList]
    simp [putCells, hj, show j < cur.size by omega]
  · rw [List.getElem?_take_eq_none (by omega), List.getElem?_eq_none (by simp; omega)]

/-- The files and directories of a map, by their paths. -/
def filesD : DataW Unit → List Fl
  | .map es => es.map fun p => (litB p.1, itDir p.2, ⟨(itData p.2).toArray⟩)
  | _ => []

theorem own_entries {w : World} {mb n : Nat} {D : DataW Unit} (h : w.ownsMap Tryd.prog 9 itemR mb n D) : ∃ es, D = .map es ∧ es.Pairwise (fun p q => p.1.before q.1 = true) ∧ es.length ≤ n ∧ ∀ p ∈ es, ∃ s c t, p = (keyD s, itemD c t) := by
  obtain ⟨es0, h0, hr, _⟩ := h.canon keyed
  obtain ⟨es, clock, _, F, hn, hD⟩ := h
  have e : es0 = (es.toList.map (rg Tryd.prog 9 itemR)).foldr DataW.insert [] := by rw [h0] at hD; simpa using hD
  refine ⟨es0, h0, hr, ?_, fun p hp => ?_⟩
  · rw [e, length_sorted]; simpa using hn
  · rw [e] at hp
    obtain ⟨x, hx, rfl⟩ := List.mem_map.1 (mem_sorted.1 hp)
    obtain ⟨y, hy⟩ := F.reads x hx
    rw [rg_of hy]
    unfold Go.WideElems.rd at hy
    simp only [Option.bind_eq_some_iff, Option.map_eq_some_iff] at hy
    obtain ⟨key, h1, d, h2, rfl⟩ := hy
    obtain ⟨s, _, hk, _⟩ := keyOf_inv h1
    obtain ⟨c, t, _, hd, _⟩ := itemR_inv h2
    exact ⟨s, c, t, by rw [hk, hd]⟩

theorem file_of (s : ByteArray) (c : Bool) (t : ByteArray) : (litB (keyD s), itDir (itemD c t), (⟨(itData (itemD c t)).toArray⟩ : ByteArray)) = (s, c, t) := by
  rw [litB_key, itDir_mk, itData_mk, bytes_mk]

theorem files_facts {w : World} {mb n : Nat} {D : DataW Unit} (h : w.ownsMap Tryd.prog 9 itemR mb n D) :
    Rising (filesD D) ∧ (filesD D).length ≤ n ∧ ∀ f : Fl, f ∈ filesD D ↔ Maps.has D (keyD f.1) = true ∧ D.atKey (keyD f.1) zeroD = itemD f.2.1 f.2.2 := by
  obtain ⟨es, rfl, hr, hn, hf⟩ := own_entries h
  refine ⟨?_, by simpa [filesD] using hn, fun f => ?_⟩
  · unfold Rising filesD
    rw [List.pairwise_map]
    refine hr.imp_of_mem fun {p q} hp hq hb => ?_
    obtain ⟨s, c, t, rfl⟩ := hf p hp
    obtain ⟨s', c', t', rfl⟩ := hf q hq
    simp only [litB_key]
    exact hb
  · have hap := apart_of_rising hr
    unfold filesD
    rw [List.mem_map]
    constructor
    · rintro ⟨p, hp, rfl⟩
      obtain ⟨s, c, t, rfl⟩ := hf p hp
      simp only [litB_key, itDir_mk, itData_mk, bytes_mk]
      refine ⟨?_, WideAt.atKey_mem _ (isKey s) hap hp⟩
      rw [has_eq, List.any_eq_true]
      exact ⟨_, hp, WideAt.sameKey_self (isKey s)⟩
    · rintro ⟨h1, h2⟩
      rw [has_eq, List.any_eq_true] at h1
      obtain ⟨p, hp, hk⟩ := h1
      obtain ⟨s, c, t, rfl⟩ := hf p hp
      have es' : s = f.1 := (sameKey_keyD _ _).1 hk
      subst es'
      have := WideAt.atKey_mem zeroD (isKey f.1) hap hp
      rw [h2] at this
      refine ⟨_, hp, ?_⟩
      rw [← this, file_of]

theorem distinct {l : List Fl} (h : Rising l) : l.Nodup := h.imp fun {x y} h e => by rw [e, WideAt.bytes_irrefl] at h; cases h

/-- What has been collected: each file that is no longer to come, once. -/
def CollF (D : DataW Unit) (left : Lit → Bool) (fs : List Fl) : Prop := fs.Nodup ∧ ∀ f : Fl, f ∈ fs ↔ (f ∈ filesD D ∧ left (keyD f.1) = false)

theorem CollF.start {D : DataW Unit} (hm : ∀ f : Fl, f ∈ filesD D → Maps.has D (keyD f.1) = true) : CollF D (Maps.has D) [] :=
  ⟨List.nodup_nil, fun f => ⟨fun h => (by cases h), fun ⟨h1, h2⟩ => (by rw [hm f h1] at h2; cases h2)⟩⟩

theorem CollF.step {D : DataW Unit} {left : Lit → Bool} {fs : List Fl} (h : CollF D left fs) {f : Fl} (hf : f ∈ filesD D) (hl : left (keyD f.1) = true) (hu : ∀ g ∈ filesD D, g.1 = f.1 → g = f) : CollF D (fun z => left z && !z.sameKey (keyD f.1)) (fs ++ [f]) := by
  have hnew : f ∉ fs := fun hx => by have := ((h.2 f).1 hx).2; rw [hl] at this; cases this
  refine ⟨List.nodup_append.2 ⟨h.1, by simp, fun a ha b hb => by simp only [List.mem_singleton] at hb; subst hb; exact fun e => hnew (e ▸ ha)⟩, fun g => ?_⟩
  rw [List.mem_append, List.mem_singleton, h.2 g]
  by_cases e : g.1 = f.1
  · constructor
    · rintro (⟨h1, h2⟩ | rfl)
      · exact ⟨h1, by simp [h2]⟩
      · exact ⟨hf, by simp [(sameKey_keyD _ _).2 rfl]⟩
    · rintro ⟨h1, _⟩
      exact Or.inr (hu g h1 e)
  · have : (keyD g.1).sameKey (keyD f.1) = false := by rw [Bool.eq_false_iff]; intro h; exact e ((sameKey_keyD _ _).1 h)
    simp only [this, Bool.not_false, Bool.and_true]
    constructor
    · rintro (h1 | rfl)
      · exact h1
      · exact absurd rfl e
    · exact Or.inl

theorem CollF.perm {D : DataW Unit} {left : Lit → Bool} {fs : List Fl} (h : CollF D left fs) (hd : (filesD D).Nodup) (hl : ∀ kl, left kl = false) : fs.Perm (filesD D) :=
  (List.perm_ext_iff_of_nodup h.1 hd).2 fun f => by rw [h.2 f, hl]; simp

theorem fileCells_snoc (fs : List Fl) (f : Fl) : fileCells (fs ++ [f]) = fileCells fs ++ [.string f.1, .bool f.2.1, .string f.2.2] := by simp [fileCells]

/-- The parts of a text between slashes. -/
def segs : List UInt8 → List (List UInt8)
  | [] => [[]]
  | c :: r => if c = 47 then [] :: segs r else match segs r with
    | h :: t => (c :: h) :: t
    | [] => [[c]]

theorem splitK_segs : ∀ l : List UInt8, Lib.splitK [47] 0 (Lib.count l [47]) l = segs l
  | [] => by rw [Lib.count_one]; rfl
  | c :: r => by
    have ih := splitK_segs r
    by_cases hc : c = 47
    · subst hc
      have hix : Lib.index ((47 : UInt8) :: r) [47] = 0 := by rw [Lib.index]; simp [List.isPrefixOf]
      rw [Lib.count_cons_eq, Nat.add_comm]
      unfold Lib.splitK segs
      rw [hix, if_neg (by decide), if_pos rfl]
      simp [ih]
    · rw [Lib.count_cons_ne c 47 r hc]
      have hp : ([47] : List UInt8).isPrefixOf (c :: r) = false := by simp [List.isPrefixOf, Ne.symm hc]
      have hix : Lib.index (c :: r) [47] = if Lib.index r [47] == -1 then -1 else Lib.index r [47] + 1 := by rw [Lib.index, hp]; simp
      unfold segs
      rw [if_neg hc, ← ih]
      cases hk : Lib.count r [47] with
      | zero => rfl
      | succ k =>
        have hm : Lib.index r [47] ≠ -1 := fun e => by rw [Lib.count_miss e] at hk; cases hk
        have hge := Lib.index_ge r [47]
        unfold Lib.splitK
        rw [hix]
        have e1 : (Lib.index r [47] == -1) = false := beq_eq_false_iff_ne.2 hm
        rw [e1]
        simp only [Bool.false_eq_true, if_false]
        rw [if_neg (by simp; omega)]
        have e2 : (Lib.index r [47] + 1).toNat = (Lib.index r [47]).toNat + 1 := by omega
        rw [e2]
        simp

/-- All parts will do, the first one begun. -/
def restOk (cur r : List UInt8) : Bool := match segs r with
  | h :: t => partB (cur ++ h) && t.all partB
  | [] => partB cur

theorem segs_ne (r : List UInt8) : ∃ h t, segs r = h :: t := by
  cases r with
  | nil => exact ⟨[], [], rfl⟩
  | cons c r =>
    unfold segs
    split
    · exact ⟨_, _, rfl⟩
    · split <;> exact ⟨_, _, rfl⟩

theorem restOk_nil (cur : List UInt8) : restOk cur [] = partB cur := by simp [restOk, segs]
theorem restOk_slash (cur r : List UInt8) : restOk cur (47 :: r) = (partB cur && restOk [] r) := by
  obtain ⟨h, t, e⟩ := segs_ne r
  simp [restOk, segs, e]
theorem restOk_other (cur r : List UInt8) (c : UInt8) (hc : c ≠ 47) : restOk cur (c :: r) = restOk (cur ++ [c]) r := by
  obtain ⟨h, t, e⟩ := segs_ne r
  simp [restOk, segs, e, hc]
theorem restOk_all (r : List UInt8) : restOk [] r = (segs r).all partB := by
  obtain ⟨h, t, e⟩ := segs_ne r
  simp [restOk, e]

theorem extract_list (s : ByteArray) (a b : Nat) : (s.extract a b).data.toList = (s.data.toList.drop a).take (b - a) := by
  rw [ByteArray.data_extract, Array.toList_extract]

theorem okPath_rest (s : ByteArray) : okPath s = (decide (2 ≤ s.size) && decide (s.size ≤ 4096) && (s.data.toList.head? == some 47) && restOk [] (s.data.toList.drop 1)) := by
  have hsp : (Lib.splitB slash 0 (Lib.countB (s.extract 1 s.size) slash) (s.extract 1 s.size)).all (fun p => partB p.data.toList) = restOk [] (s.data.toList.drop 1) := by
    have e : (s.extract 1 s.size).data.toList = s.data.toList.drop 1 := by rw [extract_list, List.take_of_length_le (by rw [List.length_drop, size_list]; omega)]
    have h1 := Lib.splitB_data slash 0 (Lib.countB (s.extract 1 s.size) slash) (s.extract 1 s.size)
    have h2 : Lib.countB (s.extract 1 s.size) slash = Lib.count (s.extract 1 s.size).data.toList [47] := rfl
    rw [restOk_all, ← splitK_segs, ← e, ← h2]
    have h3 : slash.data.toList = [47] := rfl
    rw [h3] at h1
    rw [← h1, List.all_map]
    rfl
  unfold okPath pathB
  rw [hsp, toList_data]
  cases hl : s.data.toList with
  | nil =>
    have : s.size = 0 := by rw [← size_list, hl]; rfl
    simp [Lib.hasPrefix, this]
  | cons a t =>
    have hsz : s.size = t.length + 1 := by rw [← size_list, hl]; rfl
    rw [hsz]
    cases t with
    | nil =>
      simp [Lib.hasPrefix]
      rintro (h | ⟨h, _⟩)
      · exact h
      · exact h.symm
    | cons b t =>
      have h1 : (a :: b :: t == [47]) = false := by simp
      rw [h1]
      have h2 : decide (2 ≤ (b :: t).length + 1) = true := by simp
      rw [h2]
      have h3 : Lib.hasPrefix (a :: b :: t) [47] = ((a :: b :: t).head? == some 47) := by
        simp only [Lib.hasPrefix, List.isPrefixOf, List.head?_cons, Bool.and_true]
        rw [Bool.eq_iff_iff]; simp; exact eq_comm
      rw [h3]; simp

theorem take_snoc (s : ByteArray) (a k : Nat) (h : k < s.size) (ha : a ≤ k) : (s.extract a k).data.toList ++ [s[k]] = (s.extract a (k + 1)).data.toList := by
  rw [extract_list, extract_list, show k + 1 - a = (k - a) + 1 by omega, List.take_succ_eq_append_getElem (by rw [List.length_drop, size_list]; omega)]
  congr 1
  simp only [List.getElem_drop, List.cons.injEq, and_true]
  have : a + (k - a) = k := by omega
  simp only [this]
  rfl

theorem drop_cons (s : ByteArray) (k : Nat) (h : k < s.size) : s.data.toList.drop k = s[k] :: s.data.toList.drop (k + 1) := List.drop_eq_getElem_cons (by rw [size_list]; exact h)

/-- Where the last slash is. -/
theorem last_at {s : ByteArray} (h : 0 ≤ Lib.lastIndexByte s 47) : ∃ (i : Nat) (hi : i < s.size), Lib.lastIndexByte s 47 = i ∧ s[i] = 47 ∧ ∀ j (hj : j < s.size), i < j → s[j] ≠ 47 := by
  have get : ∀ j (hj : j < s.size), s.data[j]! = s[j] := fun j hj => by rw [getElem!_pos s.data j hj]; rfl
  have num : ∀ b : UInt8, ((b.toNat : Int) = 47) ↔ b = 47 := fun b => by
    constructor
    · intro e
      exact UInt8.toNat_inj.1 (by have : b.toNat = 47 := by omega
                                  rw [this]; rfl)
    · rintro rfl; rfl
  unfold Lib.lastIndexByte at h ⊢
  rcases Lib.lastIdx_spec s 47 s.size with ⟨e, _⟩ | ⟨i, hi, e, hc, hn⟩
  · rw [e] at h; omega
  · refine ⟨i, hi, e, ?_, fun j hj hij hc' => ?_⟩
    · rw [get i hi] at hc; exact (num _).1 hc
    · have := hn j hij hj
      rw [get j hj] at this
      exact this ((num _).2 hc')

theorem ret_str {a b : ByteArray} (h : a = b) : Ending.returned (.string a) = .returned (.string b) := by rw [h]

theorem hide3 {p : Prop} (h : p) : Hid p := h

def FootR (e : Nat) (lv rv : Value) (k : Nat) : Prop := k = e ∨ lv.ownBlock = some k ∨ rv.ownBlock = some k
end Go.Proofs.YtefcndfeemnglaaDoor.Dk
