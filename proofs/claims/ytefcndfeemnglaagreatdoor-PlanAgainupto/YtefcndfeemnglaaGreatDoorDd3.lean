/- Dd: pieces of Disk12, Disk13, Disk14, Ref1, Ref2, Ref3, Ref4. -/
import Derived.Sort.OwnSorted
import Derived.Maps.Ext
import Derived.Deep.Light
import Derived.Test.YtefcndfeemnglaaGreatDoorDd2
namespace Go.Proofs.YtefcndfeemnglaaGreatDoor.Dk
open Go.RowKit Go.Maps Go.WideMaps Go.WideElems
set_option maxRecDepth 100000
open Go.RowKit Go.Maps Go.WideMaps Go.WideElems Go.Sort Go.Shelf
open Go.RowKit
open Go.RowKit Go.Maps

set_option maxHeartbeats 1000000 in
theorem files_walk (rs : List (ByteArray × Bool × ByteArray)) (g h ca cb : Nat) (w : World) (hlen : rs.length ≤ 2199023255552)
    (ha : ∀ j u, (fileCells rs)[j]? = some u → w.cell? ⟨g, j, none⟩ = some u) (hb : ∀ j u, (fileCells rs)[j]? = some u → w.cell? ⟨h, j, none⟩ = some u) :
    Calls Tryz.prog 10 #[.slice (some ⟨g, 0, none⟩) rs.length ca, .slice (some ⟨h, 0, none⟩) rs.length cb] w fun e w' => e = .returned (.bool true) ∧ ∃ q, w' = w.drewN q := by
  have HA : Hid (∀ j u, (fileCells rs)[j]? = some u → w.cell? ⟨g, j, none⟩ = some u) := ha
  have HB : Hid (∀ j u, (fileCells rs)[j]? = some u → w.cell? ⟨h, j, none⟩ = some u) := hb
  clear ha hb
  have hne : ((rs.length : Int) != (rs.length : Int)) = false := by simp
  go_enter Tryz.func10, Tryz.ntmps10
  go_wp2_with fail
  go_loopw [5] (fun i wr => ∃ k : Nat, k ≤ rs.length ∧ i = .int .i64 k ∧ ∃ q, wr = w.drewN q) (fun i _ => rs.length - (intOf i).toNat)
  case atStart => exact ⟨0, Nat.zero_le _, rfl, 0, rfl⟩
  case round =>
    obtain ⟨k, hk, rfl, q, rfl⟩ := hrel
    by_cases hlt : k < rs.length
    · obtain ⟨g0, g1, g2⟩ := fileCells_get rs k hlt
      have a0 := HA.out _ _ g0
      have a1 := HA.out _ _ g1
      have a2 := HA.out _ _ g2
      have b0 := HB.out _ _ g0
      have b1 := HB.out _ _ g1
      have b2 := HB.out _ _ g2
      have hnq := neqFile rs[k].1 rs[k].2.1 rs[k].2.2
      have hgd := guardFile
      clear g0 g1 g2
      generalize rs[k].1 = v0 at *
      generalize rs[k].2.1 = v1 at *
      generalize rs[k].2.2 = v2 at *
      go_wp2_with fail
      go_quiet (fail)
      go_wp2
      exact ⟨⟨k + 1, by omega, by go_num, q + nq, rfl⟩, by simp [intOf]; omega⟩
    · go_wp2
      go_ret
      exact ⟨rfl, q, rfl⟩

set_option maxHeartbeats 400000 in
theorem files_nil (ao bo : Option Addr) (ca cb : Nat) (w : World) :
    Calls Tryz.prog 10 #[.slice ao 0 ca, .slice bo 0 cb] w fun e w' => e = .returned (.bool true) ∧ ∃ q, w' = w.drewN q := by
  go_enter Tryz.func10, Tryz.ntmps10
  go_wp2_with fail
  go_loop [5] (fun i => i = .int .i64 0) (fun _ => 0)
  case atStart => rfl
  case round =>
    subst hrel
    go_wp2
    go_ret
    exact ⟨rfl, 0, rfl⟩

theorem files_any {w : World} {B1 B2 : Nat} {ao bo : Option Addr} {ca cb : Nat} (rs : List (ByteArray × Bool × ByteArray)) (hlen : rs.length ≤ 2199023255552)
    (ha : w.ownsRow B1 45 3 (.slice ao rs.length ca) rs.length (fileCells rs)) (hb : w.ownsRow B2 45 3 (.slice bo rs.length cb) rs.length (fileCells rs)) :
    Calls Tryz.prog 10 #[.slice ao rs.length ca, .slice bo rs.length cb] w fun e w' => e = .returned (.bool true) ∧ ∃ q, w' = w.drewN q := by
  rcases Nat.eq_zero_or_pos rs.length with h0 | h0
  · rw [h0]; exact files_nil ao bo ca cb w
  · obtain ⟨g, rfl⟩ := row_shape ha h0
    obtain ⟨h, rfl⟩ := row_shape hb h0
    exact files_walk rs g h ca cb w hlen (row_cells ha) (row_cells hb)

theorem compare_lt : ∀ (a b : List UInt8), Lib.compareBytes a b < 0 ↔ bytesBefore a b = true
  | [], [] => by simp [Lib.compareBytes, bytesBefore]
  | [], _ :: _ => by simp [Lib.compareBytes, bytesBefore]
  | _ :: _, [] => by simp [Lib.compareBytes, bytesBefore]
  | a :: ra, b :: rb => by
    have ih := compare_lt ra rb
    unfold Lib.compareBytes bytesBefore
    by_cases h1 : a < b
    · simp [h1]
    · rw [if_neg h1]
      by_cases h2 : b < a
      · rw [if_pos h2]
        have h3 : ¬ a = b := fun e => by subst e; exact h1 h2
        simp [h1, h3]
      · rw [if_neg h2]
        have h3 : a = b := UInt8.le_antisymm (UInt8.not_lt.1 h2) (UInt8.not_lt.1 h1)
        simp [h3, ih]

/-- A file's path, whether it is a directory, its bytes. -/
abbrev Fl := ByteArray × Bool × ByteArray
def encF (f : Fl) : List Value := [.string f.1, .bool f.2.1, .string f.2.2]
def cmpF (x y : Fl) : Int := Lib.compareBytes x.1.data.toList y.1.data.toList

theorem ltF (x y : Fl) : ltOf cmpF x y = bytesBefore x.1.data.toList y.1.data.toList := by
  unfold ltOf cmpF
  rw [Bool.eq_iff_iff, decide_eq_true_iff]
  exact compare_lt _ _

theorem before_asymm {a b : List UInt8} (h : bytesBefore a b = true) : bytesBefore b a = false := by
  rw [Bool.eq_false_iff]
  intro k
  have := WideShapes.bytes_trans a b a h k
  rw [WideAt.bytes_irrefl] at this
  cases this

theorem not_before_trans {a b c : List UInt8} (h : bytesBefore a b = false) (k : bytesBefore b c = false) : bytesBefore a c = false := by
  rw [Bool.eq_false_iff]
  intro q
  by_cases e : b = c
  · subst e; rw [h] at q; cases q
  · rcases WideAt.bytes_total b c e with r | r
    · rw [k] at r; cases r
    · have := WideShapes.bytes_trans a c b q r
      rw [h] at this; cases this

theorem swoF : SWO (ltOf cmpF) where
  irrefl x := by rw [ltF]; exact WideAt.bytes_irrefl _
  trans x y z h1 h2 := by rw [ltF] at *; exact WideShapes.bytes_trans _ _ _ h1 h2
  ntrans x y z h1 h2 := by rw [ltF] at *; exact not_before_trans h1 h2

/-- Paths that rise. -/
def Rising (l : List Fl) : Prop := l.Pairwise fun x y => bytesBefore x.1.data.toList y.1.data.toList = true

theorem uniq_key {l : List Fl} (h : l.Pairwise fun x y => x.1 ≠ y.1) {a b : Fl} (ha : a ∈ l) (hb : b ∈ l) (e : a.1 = b.1) : a = b := by
  induction l with
  | nil => cases ha
  | cons x l ih =>
    rw [List.pairwise_cons] at h
    rcases List.mem_cons.1 ha with e1 | ha1
    · rcases List.mem_cons.1 hb with e2 | hb1
      · rw [e1, e2]
      · exact absurd (e1 ▸ e) (h.1 b hb1)
    · rcases List.mem_cons.1 hb with e2 | hb1
      · exact absurd (e2 ▸ e.symm) (h.1 a ha1)
      · exact ih h.2 ha1 hb1

/-- A sorted permutation of files whose paths differ is the rising one. -/
theorem sorted_is {d d' : Array Fl} {l : List Fl} (hl : Rising l) (hp : d.toList.Perm l) (hP : PermIn 0 d.size d d') (hS : SortedIn (ltOf cmpF) 0 d.size d') : d'.toList = l := by
  obtain ⟨hsz, _, hperm⟩ := hP
  have e1 : d'.extract 0 d.size = d' := by rw [← hsz]; exact Array.extract_size
  rw [e1, Array.extract_size] at hperm
  have hpl : d'.toList.Perm l := hperm.trans hp
  have hne : l.Pairwise fun x y => x.1 ≠ y.1 := hl.imp fun {x y} h e => by rw [e, WideAt.bytes_irrefl] at h; cases h
  refine List.Perm.eq_of_pairwise (le := fun x y => bytesBefore y.1.data.toList x.1.data.toList = false) ?_ ?_ ?_ hpl
  · intro a b ha hb h1 h2
    have ha' : a ∈ l := hpl.mem_iff.1 ha
    have e : a.1 = b.1 := by
      by_cases e : a.1.data.toList = b.1.data.toList
      · exact bytes_eq e
      · rcases WideAt.bytes_total _ _ e with r | r
        · rw [h2] at r; cases r
        · rw [h1] at r; cases r
    exact uniq_key hne ha' hb e
  · rw [List.pairwise_iff_getElem]
    intro i j hi hj hij
    have hi' : i < d'.size := by simpa using hi
    have hj' : j < d'.size := by simpa using hj
    have := hS i j (Nat.zero_le _) hij (by omega)
    rw [getElem!_pos d' j hj', getElem!_pos d' i hi', ltF] at this
    simpa using this
  · exact hl.imp fun {x y} h => before_asymm h

set_option maxHeartbeats 400000 in
theorem closure_any (x y : Fl) (W : World) : Calls Tryz.prog 26 #[.agg (encF x).toArray, .agg (encF y).toArray] W fun e w' => e = .returned (.int .i64 (cmpF x y)) ∧ ∃ q os', w' = grow (W.drewN q) os' := by
  obtain ⟨p, c, t⟩ := x
  obtain ⟨p', c', t'⟩ := y
  unfold cmpF encF
  have hcon := fun W' => Tryz.strings_Compare p p' W'
  have HC : Hid (∀ W', Calls Tryz.prog 27 #[.string p, .string p'] W' fun e w' => e = .returned (.int .i64 (Lib.compareBytes p.data.toList p'.data.toList)) ∧ w' = W') := hcon
  clear hcon
  generalize Lib.compareBytes p.data.toList p'.data.toList = r at *
  go_enter Tryz.func26, Tryz.ntmps26
  go_wp2_with (go_at_call 27; refine (HC.out _).mono ?_; rintro e w' ⟨rfl, rfl⟩)
  go_ret
  exact ⟨rfl, 0, _, by rw [alloc_eq_grow, alloc_eq_grow, grow_grow]; rfl⟩

theorem cmpLaysF (blk off size : Nat) (w : World) : CmpLays Tryz.prog 26 #[] encF 3 cmpF blk off size w := fun _ _ _ _ x y => closure_any x y _

theorem flat_cells (d : Array Fl) : (flatK encF 3 d).toList = fileCells d.toList := by
  apply List.ext_getElem?
  intro t
  by_cases ht : t < d.size * 3
  · have hk : t / 3 < d.toList.length := by simp; omega
    obtain ⟨h0, h1, h2⟩ := fileCells_get d.toList (t / 3) hk
    have hf : (flatK encF 3 d).toList[t]? = some ((encF d[t / 3]!)[t % 3]!) := by
      rw [Array.getElem?_toList]
      have : (flatK encF 3 d)[t]! = (encF d[t / 3]!)[t % 3]! := get_flatK _ _ _ _ ht
      rw [← this, getElem!_pos _ t (by simpa using ht)]
      exact Array.getElem?_eq_getElem (by simpa using ht)
    have hd : d[t / 3]! = d.toList[t / 3] := by rw [getElem!_pos d (t / 3) (by simpa using hk)]; simp
    rw [hf, hd]
    have hm : t % 3 = 0 ∨ t % 3 = 1 ∨ t % 3 = 2 := by omega
    rcases hm with m | m | m
    · rw [show t / 3 * 3 = t by omega] at h0; rw [m, h0]; rfl
    · rw [show t / 3 * 3 + 1 = t by omega] at h1; rw [m, h1]; rfl
    · rw [show t / 3 * 3 + 1 + 1 = t by omega] at h2; rw [m, h2]; rfl
  · rw [List.getElem?_eq_none (by simp; omega), List.getElem?_eq_none (by rw [fileCells_length]; simp; omega)]

theorem holdsF {w : World} {g : Nat} {cur : Array Value} {e : TypeId} {fs : List Fl} (hb : w.heap[g]? = some (.cells cur e (0, 0))) (ht : cur.toList.take (fs.length * 3) = fileCells fs) : HoldsK encF 3 w g 0 fs.toArray := by
  intro j hj
  have hj' : j < fs.length * 3 := by simpa using hj
  refine ⟨?_, by simp [World.frozen?, hb]⟩
  have h1 : (cur.toList.take (fs.length * 3))[j]? = (fileCells fs)[j]? := by rw [ht]
  rw [List.getElem?_take_of_lt hj'] at h1
  simp only [World.cell?, hb, Nat.zero_add]
  simp only [Option.isSome_none, Bool.false_eq_true, if_false]
  rw [← Array.getElem?_toList, h1]
  have e := flat_cells fs.toArray
  rw [List.toList_toArray] at e
  rw [← e, Array.getElem?_toList, getElem!_pos _ j hj]
  exact Array.getElem?_eq_getElem hj

theorem heapF {w : World} {g n : Nat} {os : Array Obj} {cur : Array Value} {e : TypeId} {fr : Nat × Nat} (d : Array Fl) (hb : w.heap[g]? = some (.cells cur e fr)) :
    (sortWorldK encF 3 w g 0 n d os).heap[g]? = some (.cells (putCells id 0 (flatK encF 3 d) cur) e fr) := by
  have hg : g < w.heap.size := (Array.getElem?_eq_some_iff.1 hb).1
  unfold sortWorldK putRowK
  rw [heap_grow_old _ _ (by simpa using hg)]
  simp [putRow, mapBlock, Sort.ahead, Array.getElem?_modify, hb, onCells]

theorem grownF {w : World} {g n : Nat} {os : Array Obj} (d : Array Fl) : w.grownBy (sortWorldK encF 3 w g 0 n d os) (some g) := by
  unfold sortWorldK putRowK
  refine ⟨rfl, rfl, rfl, by simp, fun k hk hne => ?_⟩
  rw [heap_grow_old _ _ (by simpa using hk)]
  have : g ≠ k := fun e => hne (by rw [e])
  simp [putRow, mapBlock, Sort.ahead, Array.getElem?_modify, this]

theorem take_putF (cur : Array Value) (F : Array Value) (h : F.size ≤ cur.size) : (putCells id 0 F cur).toList.take F.size = F.toList := by
  apply List.ext_getElem?
  intro j
  by_cases hj : j < F.size
  · rw [List.getElem?_take_of_lt hj, Array.getElem?_toList, Array.getElem?_toList]
    simp [putCells, hj, show j < cur.size by omega]
  · rw [List.getElem?_take_eq_none (by omega), List.getElem?_eq_none (by simp; omega)]

theorem ownsF {w : World} {base g cap n : Nat} {os : Array Obj} {cur : Array Value} {fs ts : List Fl} (hl : ts.length = fs.length) (hbase : base ≤ g) (hb : w.heap[g]? = some (.cells cur 45 (0, 0)))
    (h1 : fs.length ≤ cap) (h2 : cap ≤ maxLen) (h3 : cur.size = cap * 3) :
    (sortWorldK encF 3 w g 0 n ts.toArray os).ownsRow base 45 3 (.slice (some ⟨g, 0, none⟩) fs.length cap) fs.length (fileCells ts) := by
  refine ⟨by rw [fileCells_length, hl], .inr ⟨g, cap, _, rfl, hbase, heapF _ hb, h1, h2, by simp [putCells, h3], ?_⟩⟩
  have e := flat_cells ts.toArray
  rw [List.toList_toArray] at e
  have hsz : (flatK encF 3 ts.toArray).size = fs.length * 3 := by simp [hl]
  rw [← hsz, take_putF cur _ (by rw [hsz, h3]; exact Nat.mul_le_mul_right 3 h1), e]

/-- The files and directories of a map, by their paths. -/
def filesD : DataW Unit → List Fl
  | .map es => es.map fun p => (litB p.1, itDir p.2, ⟨(itData p.2).toArray⟩)
  | _ => []

theorem own_entries {w : World} {mb n : Nat} {D : DataW Unit} (h : w.ownsMap Tryz.prog 9 itemR mb n D) : ∃ es, D = .map es ∧ es.Pairwise (fun p q => p.1.before q.1 = true) ∧ es.length ≤ n ∧ ∀ p ∈ es, ∃ s c t, p = (keyD s, itemD c t) := by
  obtain ⟨es0, h0, hr, _⟩ := h.canon keyed
  obtain ⟨es, clock, _, F, hn, hD⟩ := h
  have e : es0 = (es.toList.map (rg Tryz.prog 9 itemR)).foldr DataW.insert [] := by rw [h0] at hD; simpa using hD
  refine ⟨es0, h0, hr, ?_, fun p hp => ?_⟩
  · rw [e, length_sorted]; simpa using hn
  · rw [e] at hp
    obtain ⟨x, hx, rfl⟩ := List.mem_map.1 (mem_sorted.1 hp)
    obtain ⟨y, hy⟩ := F.reads x hx
    rw [rg_of hy]
    unfold Go.WideElems.rd at hy
    simp only [Option.bind_eq_some_iff, Option.map_eq_some_iff] at hy
    obtain ⟨key, h1, d, h2, rfl⟩ := hy
    obtain ⟨s, _, hk, _⟩ := keyOf_inv h1
    obtain ⟨c, t, _, hd, _⟩ := itemR_inv h2
    exact ⟨s, c, t, by rw [hk, hd]⟩

theorem file_of (s : ByteArray) (c : Bool) (t : ByteArray) : (litB (keyD s), itDir (itemD c t), (⟨(itData (itemD c t)).toArray⟩ : ByteArray)) = (s, c, t) := by
  rw [litB_key, itDir_mk, itData_mk, bytes_mk]

theorem files_facts {w : World} {mb n : Nat} {D : DataW Unit} (h : w.ownsMap Tryz.prog 9 itemR mb n D) :
    Rising (filesD D) ∧ (filesD D).length ≤ n ∧ ∀ f : Fl, f ∈ filesD D ↔ Maps.has D (keyD f.1) = true ∧ D.atKey (keyD f.1) zeroD = itemD f.2.1 f.2.2 := by
  obtain ⟨es, rfl, hr, hn, hf⟩ := own_entries h
  refine ⟨?_, by simpa [filesD] using hn, fun f => ?_⟩
  · unfold Rising filesD
    rw [List.pairwise_map]
    refine hr.imp_of_mem fun {p q} hp hq hb => ?_
    obtain ⟨s, c, t, rfl⟩ := hf p hp
    obtain ⟨s', c', t', rfl⟩ := hf q hq
    simp only [litB_key]
    exact hb
  · have hap := apart_of_rising hr
    unfold filesD
    rw [List.mem_map]
    constructor
    · rintro ⟨p, hp, rfl⟩
      obtain ⟨s, c, t, rfl⟩ := hf p hp
      simp only [litB_key, itDir_mk, itData_mk, bytes_mk]
      refine ⟨?_, WideAt.atKey_mem _ (isKey s) hap hp⟩
      rw [has_eq, List.any_eq_true]
      exact ⟨_, hp, WideAt.sameKey_self (isKey s)⟩
    · rintro ⟨h1, h2⟩
      rw [has_eq, List.any_eq_true] at h1
      obtain ⟨p, hp, hk⟩ := h1
      obtain ⟨s, c, t, rfl⟩ := hf p hp
      have es' : s = f.1 := (sameKey_keyD _ _).1 hk
      subst es'
      have := WideAt.atKey_mem zeroD (isKey f.1) hap hp
      rw [h2] at this
      refine ⟨_, hp, ?_⟩
      rw [← this, file_of]

theorem distinct {l : List Fl} (h : Rising l) : l.Nodup := h.imp fun {x y} h e => by rw [e, WideAt.bytes_irrefl] at h; cases h

/-- What has been collected: each file that is no longer to come, once. -/
def CollF (D : DataW Unit) (left : Lit → Bool) (fs : List Fl) : Prop := fs.Nodup ∧ ∀ f : Fl, f ∈ fs ↔ (f ∈ filesD D ∧ left (keyD f.1) = false)

theorem CollF.start {D : DataW Unit} (hm : ∀ f : Fl, f ∈ filesD D → Maps.has D (keyD f.1) = true) : CollF D (Maps.has D) [] :=
  ⟨List.nodup_nil, fun f => ⟨fun h => (by cases h), fun ⟨h1, h2⟩ => (by rw [hm f h1] at h2; cases h2)⟩⟩

theorem CollF.step {D : DataW Unit} {left : Lit → Bool} {fs : List Fl} (h : CollF D left fs) {f : Fl} (hf : f ∈ filesD D) (hl : left (keyD f.1) = true) (hu : ∀ g ∈ filesD D, g.1 = f.1 → g = f) : CollF D (fun z => left z && !z.sameKey (keyD f.1)) (fs ++ [f]) := by
  have hnew : f ∉ fs := fun hx => by have := ((h.2 f).1 hx).2; rw [hl] at this; cases this
  refine ⟨List.nodup_append.2 ⟨h.1, by simp, fun a ha b hb => by simp only [List.mem_singleton] at hb; subst hb; exact fun e => hnew (e ▸ ha)⟩, fun g => ?_⟩
  rw [List.mem_append, List.mem_singleton, h.2 g]
  by_cases e : g.1 = f.1
  · constructor
    · rintro (⟨h1, h2⟩ | rfl)
      · exact ⟨h1, by simp [h2]⟩
      · exact ⟨hf, by simp [(sameKey_keyD _ _).2 rfl]⟩
    · rintro ⟨h1, _⟩
      exact Or.inr (hu g h1 e)
  · have : (keyD g.1).sameKey (keyD f.1) = false := by rw [Bool.eq_false_iff]; intro h; exact e ((sameKey_keyD _ _).1 h)
    simp only [this, Bool.not_false, Bool.and_true]
    constructor
    · rintro (h1 | rfl)
      · exact h1
      · exact absurd rfl e
    · exact Or.inl

theorem CollF.perm {D : DataW Unit} {left : Lit → Bool} {fs : List Fl} (h : CollF D left fs) (hd : (filesD D).Nodup) (hl : ∀ kl, left kl = false) : fs.Perm (filesD D) :=
  (List.perm_ext_iff_of_nodup h.1 hd).2 fun f => by rw [h.2 f, hl]; simp

theorem infoFile : (Tryz.prog.info? 45).map (fun i => (i.zero, i.size, i.bytes)) = some (some (.agg #[.string ByteArray.empty, .bool false, .string ByteArray.empty]), 3, 40) := by kernel_rfl

theorem fileCells_snoc (fs : List Fl) (f : Fl) : fileCells (fs ++ [f]) = fileCells fs ++ [.string f.1, .bool f.2.1, .string f.2.2] := by simp [fileCells]

theorem sort_none (ao : Option Addr) (cap : Nat) (w : World) : Calls Tryz.prog 25 #[.slice ao 0 cap, .func (.func 26) #[] #[]] w fun e w' => e = .returned (.tuple #[]) ∧ w' = w :=
  AnyF.slices_SortFunc_none Tryz.sortFile ao cap (.func (.func 26) #[] #[]) w

theorem sort_some {w : World} {base g cap : Nat} {cur : Array Value} {fs l : List Fl} (hbase : base ≤ g) (hb : w.heap[g]? = some (.cells cur 45 (0, 0))) (h1 : fs.length ≤ cap) (h2 : cap ≤ maxLen) (h3 : cur.size = cap * 3) (h4 : cur.toList.take (fs.length * 3) = fileCells fs)
    (hl : Rising l) (hp : fs.Perm l) (hsz : fs.length < 4611686018427387904) :
    Calls Tryz.prog 25 #[.slice (some ⟨g, 0, none⟩) fs.length cap, .func (.func 26) #[] #[]] w fun e w' => e = .returned (.tuple #[]) ∧
      w'.ownsRow base 45 3 (.slice (some ⟨g, 0, none⟩) fs.length cap) fs.length (fileCells l) ∧ w.grownBy w' (some g) := by
  have eg : ∀ args w, (callFunc 26 args).run Tryz.prog w = .ok (.enter 26 args) w := enters_of Tryz.func26 (by kernel_rfl) rfl
  have hcon := AnyQ.slices_SortFunc Tryz.sortFile 3 Tryz.isAgg45 Tryz.sizeOf45 encF (fun _ => rfl) (fun x v hv => by simp [encF] at hv; rcases hv with rfl | rfl | rfl <;> rfl) cmpF swoF 26 #[] g 0 cap fs.toArray w eg (cmpLaysF g 0 fs.toArray.size w) (holdsF hb h4)
    (Array.getElem?_eq_some_iff.1 hb).1 (by simpa using hsz)
  change Calls Tryz.prog 25 #[.slice (some ⟨g, 0, none⟩) fs.toArray.size cap, .func (.func 26) #[] #[]] _ _ at hcon
  rw [List.size_toArray] at hcon
  refine hcon.mono ?_
  rintro e w' ⟨rfl, d', n, os, hP, hS, rfl⟩
  have hd : d'.toList = l := sorted_is (d := fs.toArray) hl (by simpa using hp) (by simpa using hP) (by simpa using hS)
  have hd' : d' = l.toArray := by rw [← hd]
  refine ⟨rfl, ?_, grownF d'⟩
  rw [hd']
  exact ownsF hp.length_eq.symm hbase hb h1 h2 h3

set_option maxHeartbeats 2000000 in
theorem All_any {B : Nat} {w : World} {d mb n : Nat} {rv : Value} {x : Ab} (h : IsDisk B w d mb n rv x) (hn : n ≤ 2199023255552) :
    Calls Tryz.prog 11 #[.pointer (some ⟨d, 0, none⟩)] w fun e w' => ∃ ao cap, e = .returned (.slice ao (filesD x.D).length cap) ∧ w'.ownsRow w.heap.size 45 3 (.slice ao (filesD x.D).length cap) (filesD x.D).length (fileCells (filesD x.D)) ∧ Below w.heap.size w w' := by
  obtain ⟨i0, hi, hz0, hz1, hz2⟩ := info_parts infoFile
  have c0 := h.c0
  have HO : Hid (w.ownsMap Tryz.prog 9 itemR mb n x.D) := h.own
  obtain ⟨q1, q2, q3⟩ := files_facts h.own
  have HQ1 : Hid (Rising (filesD x.D)) := q1
  have HQ2 : Hid ((filesD x.D).length ≤ n) := q2
  have HQ3 : Hid (∀ f : Fl, f ∈ filesD x.D ↔ Maps.has x.D (keyD f.1) = true ∧ x.D.atKey (keyD f.1) zeroD = itemD f.2.1 f.2.2) := q3
  have hml := h.own.lt
  clear h q1 q2 q3
  go_enter Tryz.func11, Tryz.ntmps11
  go_wp2_with (at_range; refine wpList_range_own _ rfl _ 49 rfl 9 48 keyed Tryz.underlying49 _ mb n _ rfl HO.out ?_; intro w0 hrg0 hg0 hs0; have HS0 : Hid (w0.heap.size = w.heap.size + 1) := hs0; clear hs0)
  go_frame
  go_loopw [3] (fun v wr => ∃ (left : Lit → Bool) (cnt : Nat) (fs : List Fl), wr.ranges Tryz.prog 9 itemR mb w.heap.size n x.D left cnt ∧ wr.ownsRow (w.heap.size + 1) 45 3 v fs.length (fileCells fs) ∧ (v = .slice none 0 0 → fs.length = 0) ∧
      CollF x.D left fs ∧ (∀ kl, left kl = true → Maps.has x.D kl = true) ∧ Below w.heap.size w wr ∧ w.heap.size + 1 ≤ wr.heap.size ∧ fs.length + cnt ≤ n)
    (fun _ wr => wr.rangeLeft mb w.heap.size)
  case atStart =>
    exact ⟨_, _, [], hrg0, ⟨rfl, Or.inl ⟨rfl, rfl⟩⟩, fun _ => rfl, CollF.start (fun f hf => ((HQ3.out f).1 hf).1), fun kl hk => hk, (Below.refl _ _).grown hg0 (Nat.le_refl _) (fun j hj => by cases hj), Nat.le_of_eq HS0.out.symm, by simp only [List.length_nil, Nat.zero_add]; exact HO.out.size_le⟩
  case round =>
    obtain ⟨left, cnt, fs, hrg, hrow, hnil, hC, hlh, hb, hsz, hcn⟩ := hrel
    have HC : Hid (CollF x.D left fs) := hC
    have HL : Hid (∀ kl, left kl = true → Maps.has x.D kl = true) := hlh
    have HR : Hid (wr.ranges Tryz.prog 9 itemR mb w.heap.size n x.D left cnt) := hrg
    clear hC hlh hrg
    go_wp2_with (at_next; refine wpList_next_ranges _ rfl _ rfl 9 keyed itemR Value.string mkItem (fun key kl hk => by obtain ⟨x, hx, _⟩ := keyOf_inv hk; exact ⟨x, hx⟩) (fun v y hv => by obtain ⟨c, t, rfl, _⟩ := itemR_inv hv; exact ⟨⟨c, t⟩, rfl⟩) mb w.heap.size n _ _ _ rfl HR.out ?_ ?_)
    · intro hc0 hl0
      have hp : fs.Perm (filesD x.D) := HC.out.perm (distinct HQ1.out) hl0
      have hlen := hp.length_eq
      have hle := HQ2.out
      rcases hrow.2 with ⟨rfl, h0⟩ | ⟨g, cap, cur, rfl, hbase, hbk, h1, h2, h3, h4⟩
      · have hF : filesD x.D = [] := List.eq_nil_of_length_eq_zero (by omega)
        have hc := sort_none none 0 wr
        clear hl0 hrow hlen hle hp
        go_wp2_with (go_at_call 25; refine hc.mono ?_; rintro e w1 ⟨rfl, rfl⟩)
        go_ret
        rw [hF]
        exact ⟨none, 0, rfl, ⟨rfl, Or.inl ⟨rfl, rfl⟩⟩, hb⟩
      · have hc := sort_some hbase hbk h1 h2 h3 h4 HQ1.out hp (by omega)
        have HLN : Hid (fs.length = (filesD x.D).length) := hlen
        clear hl0 hrow hlen hle hp hbk h1 h2 h3 h4 hnil
        go_wp2_with (go_at_call 25; refine hc.mono ?_; rintro e w1 ⟨rfl, hr, hg⟩)
        go_ret
        refine ⟨some ⟨g, 0, none⟩, cap, by rw [← HLN.out]; rfl, ?_, hb.grown hg hb.size (fun j hj => by cases hj; omega)⟩
        rw [← HLN.out]
        rcases hr.2 with ⟨hv, _⟩ | ⟨g', cap', cur', hv, hb', r⟩
        · cases hv
        · exact ⟨hr.1, Or.inr ⟨g', cap', cur', hv, Nat.le_trans (Nat.le_succ _) hb', r⟩⟩
    · intro q c kl yd yp w2 cnt2 hkey hlk hv hat hrg2 hlt hg2 hs2 hen
      obtain ⟨dr, dt⟩ := c
      simp only [mkItem] at hv hen ⊢
      obtain ⟨q', eq, rfl, _⟩ := keyOf_inv hkey
      obtain rfl : q = q' := by simpa using eq
      obtain ⟨dr', dt', ev, ey, hdt⟩ := itemR_inv hv
      obtain ⟨rfl, rfl⟩ : dr = dr' ∧ dt = dt' := by simpa using ev
      have hyd : yd = itemD dr dt := congrArg Prod.fst ey
      have hin : ((q, dr, dt) : Fl) ∈ filesD x.D := (HQ3.out _).2 ⟨HL.out _ hlk, by rw [hat, hyd]⟩
      have hC2 := HC.out.step hin hlk (fun g hg e => uniq_key (HQ1.out.imp fun {x y} h e => by rw [e, WideAt.bytes_irrefl] at h; cases h) hg hin e)
      have HC2 : Hid (CollF x.D (fun z => left z && !z.sameKey (keyD q)) (fs ++ [(q, dr, dt)])) := hC2
      have HR2 : Hid (w2.ranges Tryz.prog 9 itemR mb w.heap.size n x.D (fun z => left z && !z.sameKey (keyD q)) cnt2) := hrg2
      have hb2 : Below w.heap.size w w2 := hb.grown hg2 hb.size (fun j hj => by cases hj; exact Nat.le_refl _)
      have hrow2 : w2.ownsRow (w.heap.size + 1) 45 3 u3 fs.length (fileCells fs) := ownsRow_upd hrow (Upd.of_grown hg2) (fun k hk e => by have := (row_lt hrow hk).2; cases e; omega)
      have HW : Hid (w.heap.size + 1 ≤ w2.heap.size) := Nat.le_trans hsz hg2.size
      have HRW : Hid (w2.ownsRow (w.heap.size + 1) 45 3 u3 fs.length (fileCells fs)) := hrow2
      have HN : Hid (∀ j u, [Value.string q, .bool dr, .string dt][j]? = some u → ((w2.alloc (.cells #[.bool dr, .string dt] 48)).alloc (.cells #[.string q, .bool dr, .string dt] 45)).cell? ((⟨w2.heap.size + 1, 0, none⟩ : Addr).add j) = some u) :=
        World.news_of_block (cs := #[.string q, .bool dr, .string dt]) (t := 45) (fr := (0, 0)) (by
          show ((w2.heap.push _).push _)[w2.heap.size + 1]? = _
          rw [Array.getElem?_push, if_pos (by simp)])
      clear hs2 hkey hlk hv hat hrg2 eq ev ey hyd hin hC2 hg2 hrow hrow2 hb hsz hdt
      go_wp2_with (first
        | (at_builtin; refine wpList_append_own _ rfl _ _ 23 rfl (w.heap.size + 1) 45 i0 (.agg #[.string ByteArray.empty, .bool false, .string ByteArray.empty]) 3 40 Tryz.underlying23 hi hz0 hz1 hz2 rfl (by decide) _ _ _ rfl ((HRW.out.alloc _).alloc _) ⟨w2.heap.size + 1, 0, none⟩ 1 1 [.string q, .bool dr, .string dt] rfl rfl HN.out (by simp [Value.oneCell']) (by unfold maxLen; omega) (by omega) (by have := HW.out; simp; omega) ?_; intro v' w3 hown' hg3 hnil3; go_frame)
        | fail)
      have hb4 : Below w2.heap.size w2 ((w2.alloc (.cells #[.bool dr, .string dt] 48)).alloc (.cells #[.string q, .bool dr, .string dt] 45)) := ((Below.refl _ _).alloc (Nat.le_refl _) _).alloc (by simp) _
      have hrg3 := ((HR2.out.alloc (.cells #[.bool dr, .string dt] 48)).alloc (.cells #[.string q, .bool dr, .string dt] 45)).kept hg3 (fun e => by have := (row_lt HRW.out e.symm).2; omega) (fun e => by have := (row_lt HRW.out e.symm).2; omega)
      refine ⟨⟨_, cnt2, fs ++ [(q, dr, dt)], hrg3, ?_, fun hv' => ?_, HC2.out, fun kl hl => ?_, ?_, ?_, ?_⟩, ?_⟩
      · rw [fileCells_snoc, List.length_append]; exact hown'
      · have := (hnil3.1 hv').2; omega
      · simp only [Bool.and_eq_true] at hl; exact HL.out kl hl.1
      · exact (hb2.trans (hb4.mono hb2.size)).grown hg3 (by have := HW.out; simp; omega) (fun j hj => by have := (row_lt HRW.out hj).2; omega)
      · have := HW.out; have := hg3.size; have := hb4.size; omega
      · simp only [List.length_append, List.length_cons, List.length_nil]; omega
      · rw [hrg3.left_eq, HR.out.left_eq]; exact hlt

/-- The parts of a text between slashes. -/
def segs : List UInt8 → List (List UInt8)
  | [] => [[]]
  | c :: r => if c = 47 then [] :: segs r else match segs r with
    | h :: t => (c :: h) :: t
    | [] => [[c]]

theorem splitK_segs : ∀ l : List UInt8, Lib.splitK [47] 0 (Lib.count l [47]) l = segs l
  | [] => by rw [Lib.count_one]; rfl
  | c :: r => by
    have ih := splitK_segs r
    by_cases hc : c = 47
    · subst hc
      have hix : Lib.index ((47 : UInt8) :: r) [47] = 0 := by rw [Lib.index]; simp [List.isPrefixOf]
      rw [Lib.count_cons_eq, Nat.add_comm]
      unfold Lib.splitK segs
      rw [hix, if_neg (by decide), if_pos rfl]
      simp [ih]
    · rw [Lib.count_cons_ne c 47 r hc]
      have hp : ([47] : List UInt8).isPrefixOf (c :: r) = false := by simp [List.isPrefixOf, Ne.symm hc]
      have hix : Lib.index (c :: r) [47] = if Lib.index r [47] == -1 then -1 else Lib.index r [47] + 1 := by rw [Lib.index, hp]; simp
      unfold segs
      rw [if_neg hc, ← ih]
      cases hk : Lib.count r [47] with
      | zero => rfl
      | succ k =>
        have hm : Lib.index r [47] ≠ -1 := fun e => by rw [Lib.count_miss e] at hk; cases hk
        have hge := Lib.index_ge r [47]
        unfold Lib.splitK
        rw [hix]
        have e1 : (Lib.index r [47] == -1) = false := beq_eq_false_iff_ne.2 hm
        rw [e1]
        simp only [Bool.false_eq_true, if_false]
        rw [if_neg (by simp; omega)]
        have e2 : (Lib.index r [47] + 1).toNat = (Lib.index r [47]).toNat + 1 := by omega
        rw [e2]
        simp

/-- All parts will do, the first one begun. -/
def restOk (cur r : List UInt8) : Bool := match segs r with
  | h :: t => partB (cur ++ h) && t.all partB
  | [] => partB cur

theorem segs_ne (r : List UInt8) : ∃ h t, segs r = h :: t := by
  cases r with
  | nil => exact ⟨[], [], rfl⟩
  | cons c r =>
    unfold segs
    split
    · exact ⟨_, _, rfl⟩
    · split <;> exact ⟨_, _, rfl⟩

theorem restOk_nil (cur : List UInt8) : restOk cur [] = partB cur := by simp [restOk, segs]
theorem restOk_slash (cur r : List UInt8) : restOk cur (47 :: r) = (partB cur && restOk [] r) := by
  obtain ⟨h, t, e⟩ := segs_ne r
  simp [restOk, segs, e]
theorem restOk_other (cur r : List UInt8) (c : UInt8) (hc : c ≠ 47) : restOk cur (c :: r) = restOk (cur ++ [c]) r := by
  obtain ⟨h, t, e⟩ := segs_ne r
  simp [restOk, segs, e, hc]
theorem restOk_all (r : List UInt8) : restOk [] r = (segs r).all partB := by
  obtain ⟨h, t, e⟩ := segs_ne r
  simp [restOk, e]

theorem extract_list (s : ByteArray) (a b : Nat) : (s.extract a b).data.toList = (s.data.toList.drop a).take (b - a) := by
  rw [ByteArray.data_extract, Array.toList_extract]

theorem okPath_rest (s : ByteArray) : okPath s = (decide (2 ≤ s.size) && decide (s.size ≤ 4096) && (s.data.toList.head? == some 47) && restOk [] (s.data.toList.drop 1)) := by
  have hsp : (Lib.splitB slash 0 (Lib.countB (s.extract 1 s.size) slash) (s.extract 1 s.size)).all (fun p => partB p.data.toList) = restOk [] (s.data.toList.drop 1) := by
    have e : (s.extract 1 s.size).data.toList = s.data.toList.drop 1 := by rw [extract_list, List.take_of_length_le (by rw [List.length_drop, size_list]; omega)]
    have h1 := Lib.splitB_data slash 0 (Lib.countB (s.extract 1 s.size) slash) (s.extract 1 s.size)
    have h2 : Lib.countB (s.extract 1 s.size) slash = Lib.count (s.extract 1 s.size).data.toList [47] := rfl
    rw [restOk_all, ← splitK_segs, ← e, ← h2]
    have h3 : slash.data.toList = [47] := rfl
    rw [h3] at h1
    rw [← h1, List.all_map]
    rfl
  unfold okPath pathB
  rw [hsp, toList_data]
  cases hl : s.data.toList with
  | nil =>
    have : s.size = 0 := by rw [← size_list, hl]; rfl
    simp [Lib.hasPrefix, this]
  | cons a t =>
    have hsz : s.size = t.length + 1 := by rw [← size_list, hl]; rfl
    rw [hsz]
    cases t with
    | nil =>
      simp [Lib.hasPrefix]
      rintro (h | ⟨h, _⟩)
      · exact h
      · exact h.symm
    | cons b t =>
      have h1 : (a :: b :: t == [47]) = false := by simp
      rw [h1]
      have h2 : decide (2 ≤ (b :: t).length + 1) = true := by simp
      rw [h2]
      have h3 : Lib.hasPrefix (a :: b :: t) [47] = ((a :: b :: t).head? == some 47) := by
        simp only [Lib.hasPrefix, List.isPrefixOf, List.head?_cons, Bool.and_true]
        rw [Bool.eq_iff_iff]; simp; exact eq_comm
      rw [h3]; simp

theorem take_snoc (s : ByteArray) (a k : Nat) (h : k < s.size) (ha : a ≤ k) : (s.extract a k).data.toList ++ [s[k]] = (s.extract a (k + 1)).data.toList := by
  rw [extract_list, extract_list, show k + 1 - a = (k - a) + 1 by omega, List.take_succ_eq_append_getElem (by rw [List.length_drop, size_list]; omega)]
  congr 1
  simp only [List.getElem_drop, List.cons.injEq, and_true]
  have : a + (k - a) = k := by omega
  simp only [this]
  rfl

theorem drop_cons (s : ByteArray) (k : Nat) (h : k < s.size) : s.data.toList.drop k = s[k] :: s.data.toList.drop (k + 1) := List.drop_eq_getElem_cons (by rw [size_list]; exact h)

/-- Where the last slash is. -/
theorem last_at {s : ByteArray} (h : 0 ≤ Lib.lastIndexByte s 47) : ∃ (i : Nat) (hi : i < s.size), Lib.lastIndexByte s 47 = i ∧ s[i] = 47 ∧ ∀ j (hj : j < s.size), i < j → s[j] ≠ 47 := by
  have get : ∀ j (hj : j < s.size), s.data[j]! = s[j] := fun j hj => by rw [getElem!_pos s.data j hj]; rfl
  have num : ∀ b : UInt8, ((b.toNat : Int) = 47) ↔ b = 47 := fun b => by
    constructor
    · intro e
      exact UInt8.toNat_inj.1 (by have : b.toNat = 47 := by omega
                                  rw [this]; rfl)
    · rintro rfl; rfl
  unfold Lib.lastIndexByte at h ⊢
  rcases Lib.lastIdx_spec s 47 s.size with ⟨e, _⟩ | ⟨i, hi, e, hc, hn⟩
  · rw [e] at h; omega
  · refine ⟨i, hi, e, ?_, fun j hj hij hc' => ?_⟩
    · rw [get i hi] at hc; exact (num _).1 hc
    · have := hn j hij hj
      rw [get j hj] at this
      exact this ((num _).2 hc')

theorem ret_str {a b : ByteArray} (h : a = b) : Ending.returned (.string a) = .returned (.string b) := by rw [h]

theorem hide3 {p : Prop} (h : p) : Hid p := h

/-- A pointer leads to the reference's disk. -/
structure IsRef (B : Nat) (w : World) (e : Nat) (lv rv : Value) (fs : List Fl) (rs : List (Int × ByteArray × ByteArray)) (left : Int) : Prop where
  c0 : w.cell? ⟨e, 0, none⟩ = some lv
  c1 : w.cell? ⟨e, 1, none⟩ = some rv
  c2 : w.cell? ⟨e, 2, none⟩ = some (.int .i64 left)
  f0 : w.frozen? ⟨e, 0, none⟩ = false
  f1 : w.frozen? ⟨e, 1, none⟩ = false
  f2 : w.frozen? ⟨e, 2, none⟩ = false
  lrow : w.ownsRow B 45 3 lv fs.length (fileCells fs)
  rrow : w.ownsRow B 82 3 rv rs.length (rawCells rs)
  le : lv.ownBlock ≠ some e
  re : rv.ownBlock ≠ some e
  be : B ≤ e
  lt : e < w.heap.size

def FootR (e : Nat) (lv rv : Value) (k : Nat) : Prop := k = e ∨ lv.ownBlock = some k ∨ rv.ownBlock = some k
end Go.Proofs.YtefcndfeemnglaaGreatDoor.Dk
