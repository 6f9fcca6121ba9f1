/- Dd: pieces of Disk4, Disk5, Disk6, Disk7, Disk8, Disk9, Disk11, Disk12. -/
import Derived.Deep.AppendLies
import Derived.Deep.RegionLaw
import Derived.Laws.StructEq
import Derived.Deep.QuietTactic
import Derived.BigQuiet
import Derived.Test.YtefcndfeemnglaaDoorDd1
namespace Go.Proofs.YtefcndfeemnglaaDoor.Dk
open Go.RowKit Go.Maps Go.WideMaps Go.WideElems
set_option maxRecDepth 100000

/-- The text of a key. -/
def litB : Lit → ByteArray
  | .string l => ⟨l.toArray⟩
  | _ => ByteArray.empty
/-- The paths of a map, in their order. -/
def keysD : DataW Unit → List ByteArray
  | .map es => es.map fun p => litB p.1
  | _ => []
/-- Is something in a directory? -/
def usedD (D : DataW Unit) (s : ByteArray) : Bool := (keysD D).any fun k => (parentOf k).toList == s.toList

theorem litB_key (s : ByteArray) : litB (keyD s) = s := by unfold litB keyD; exact bytes_mk s
theorem keyD_inj {s t : ByteArray} (h : keyD s = keyD t) : s = t := by rw [← litB_key s, h, litB_key]
theorem sameKey_keyD (s t : ByteArray) : (keyD s).sameKey (keyD t) = true ↔ s = t := by
  unfold keyD Lit.sameKey
  simp only [beq_iff_eq]
  exact ⟨fun h => bytes_eq h, fun h => by rw [h]⟩

/-- Each key of the map is a text. -/
def StrKeys (D : DataW Unit) : Prop := ∃ es, D = .map es ∧ ∀ p ∈ es, ∃ s, p.1 = keyD s

theorem mem_keys {D : DataW Unit} (h : StrKeys D) (s : ByteArray) : s ∈ keysD D ↔ Maps.has D (keyD s) = true := by
  obtain ⟨es, rfl, hes⟩ := h
  rw [has_eq, List.any_eq_true]
  unfold keysD
  rw [List.mem_map]
  constructor
  · rintro ⟨p, hp, rfl⟩
    obtain ⟨t, ht⟩ := hes p hp
    exact ⟨p, hp, by rw [ht, litB_key]; exact (sameKey_keyD _ _).2 rfl⟩
  · rintro ⟨p, hp, h⟩
    obtain ⟨t, ht⟩ := hes p hp
    rw [ht] at h
    exact ⟨p, hp, by rw [ht, litB_key]; exact (sameKey_keyD _ _).1 h⟩

theorem IsDisk.strKeys {B : Nat} {w : World} {d mb n : Nat} {rv : Value} {x : Ab} (h : IsDisk B w d mb n rv x) : StrKeys x.D := by
  obtain ⟨es, he, _, hk⟩ := h.own.entries keyed
  refine ⟨es, he, fun p hp => ?_⟩
  have : Maps.has x.D p.1 = true := by
    rw [he, has_eq, List.any_eq_true]
    exact ⟨p, hp, WideAt.sameKey_self (hk p hp)⟩
  obtain ⟨s, hs, _⟩ := h.keys _ this
  exact ⟨s, hs⟩

theorem keyOf_inv {key : Value} {kl : Lit} (h : keyOf Tryd.prog 9 key = some kl) : ∃ s, key = .string s ∧ kl = keyD s ∧ s.size ≤ maxLen := by
  cases key <;> simp [keyOf, Tryd.underlying9, mapKey] at h
  rename_i s
  obtain ⟨hs, rfl⟩ := h
  exact ⟨s, rfl, rfl, hs⟩

/-- An item of the map. -/
structure It where
  dir : Bool
  data : ByteArray
def mkItem (c : It) : Value := .agg #[.bool c.dir, .string c.data]

theorem infoRaw : (Tryd.prog.info? 117).map (fun i => (i.zero, i.size, i.bytes)) = some (some (.agg #[.int .i64 0, .string ByteArray.empty, .string ByteArray.empty]), 3, 40) := by kernel_rfl

def rawObj (k : Int) (p t : ByteArray) : Obj := .cells #[.int .i64 k, .string p, .string t] 117

theorem raw_block (w : World) (k : Int) (p t : ByteArray) : ((w.alloc (rawObj k p t)).alloc (rawObj k p t)).drew.heap[w.heap.size + 1]? = some (.cells #[.int .i64 k, .string p, .string t] 117 (0, 0)) := by
  show ((w.heap.push _).push _)[w.heap.size + 1]? = _
  rw [Array.getElem?_push, if_pos (by simp)]; rfl

theorem raw_below (w : World) (o1 o2 : Obj) : Below w.heap.size w ((w.alloc o1).alloc o2).drew := (((Below.refl _ _).alloc (Nat.le_refl _) _).alloc (by simp) _).drew

theorem grown_far {w w' : World} {row : Option Nat} (hg : w.grownBy w' row) {d : Nat} (hd : d < w.heap.size) (hr : row ≠ some d) (i : Nat) : w'.cell? ⟨d, i, none⟩ = w.cell? ⟨d, i, none⟩ ∧ w'.frozen? ⟨d, i, none⟩ = w.frozen? ⟨d, i, none⟩ :=
  ⟨World.cell?_of_block (w := w) (hg.block d hd (fun e => hr e.symm)), World.frozen?_of_block (w := w) (hg.block d hd (fun e => hr e.symm))⟩

/-- A raw write is noted. -/
def noteAb (x : Ab) (r : Int × ByteArray × ByteArray) : Ab := { D := x.D, rs := x.rs ++ [r], left := if 0 < x.left then x.left - 1 else x.left }

/-- A call has left a disk at d, and nothing else has turned. -/
def After (B : Nat) (w w' : World) (d mb n : Nat) (rv : Value) (x' : Ab) : Prop :=
  ∃ n' rv', n' ≤ n + 1 ∧ IsDisk B w' d mb n' rv' x' ∧ Upd (Foot d mb rv) w w' ∧ ∀ j, rv'.ownBlock = some j → rv.ownBlock = some j ∨ w.heap.size ≤ j

theorem After.same {B : Nat} {w w' : World} {d mb n : Nat} {rv : Value} {x : Ab} (h : IsDisk B w d mb n rv x) (hb : Below w.heap.size w w') : After B w w' d mb n rv x :=
  ⟨n, rv, Nat.le_succ _, h.below hb, Upd.of_below hb, fun _ hj => Or.inl hj⟩

theorem After.from {B : Nat} {w w1 w' : World} {d mb n : Nat} {rv : Value} {x' : Ab} (hu : Upd (Foot d mb rv) w w1) {n1 : Nat} (h : ∃ rv', IsDisk B w' d mb n1 rv' x' ∧ Upd (Foot d mb rv) w1 w' ∧ ∀ j, rv'.ownBlock = some j → rv.ownBlock = some j ∨ w1.heap.size ≤ j) (hn : n1 ≤ n + 1) : After B w w' d mb n rv x' := by
  obtain ⟨rv', h1, h2, h3⟩ := h
  exact ⟨n1, rv', hn, h1, hu.trans h2 (fun _ _ f => f), fun j hj => (h3 j hj).imp id (fun q => Nat.le_trans hu.size q)⟩

theorem rawCells_snoc (rs : List (Int × ByteArray × ByteArray)) (k : Int) (p t : ByteArray) : rawCells (rs ++ [(k, p, t)]) = rawCells rs ++ [.int .i64 k, .string p, .string t] := by simp [rawCells]

theorem noted {B : Nat} {w w1 : World} {d mb n : Nat} {rv : Value} {x : Ab} (h : IsDisk B w d mb n rv x) {k : Int} {p t : ByteArray} {g cap : Nat}
    (hown : w1.ownsRow B 117 3 (.slice (some ⟨g, 0, none⟩) (x.rs.length + 1) cap) (x.rs.length + 1) (rawCells x.rs ++ [.int .i64 k, .string p, .string t]))
    (hgrow : ((w.alloc (rawObj k p t)).alloc (rawObj k p t)).drew.grownBy w1 rv.ownBlock) (hat : rv.ownBlock = some g ∨ g = w.heap.size + 2) (_hlt : g < w1.heap.size) :
    IsDisk B (w1.setCell ⟨d, 1, none⟩ (.slice (some ⟨g, 0, none⟩) (x.rs.length + 1) cap)) d mb n (.slice (some ⟨g, 0, none⟩) (x.rs.length + 1) cap) { D := x.D, rs := x.rs ++ [(k, p, t)], left := x.left } ∧
      Upd (Foot d mb rv) w (w1.setCell ⟨d, 1, none⟩ (.slice (some ⟨g, 0, none⟩) (x.rs.length + 1) cap)) := by
  have hb := raw_below w (rawObj k p t) (rawObj k p t)
  have hu : Upd (fun j => rv.ownBlock = some j) w w1 := (Upd.of_below hb).trans (Upd.of_grown hgrow) (fun _ _ f => f)
  have q : ∀ i, w1.cell? ⟨d, i, none⟩ = w.cell? ⟨d, i, none⟩ ∧ w1.frozen? ⟨d, i, none⟩ = w.frozen? ⟨d, i, none⟩ := fun i =>
    ⟨World.cell?_of_block (w := w) (hu.block d h.ld h.rd), World.frozen?_of_block (w := w) (hu.block d h.ld h.rd)⟩
  have hml := h.own.lt
  have hgd : g ≠ d := by
    rcases hat with e | e
    · intro e'; exact h.rd (by rw [e, e'])
    · have := h.ld; omega
  have hgm : g ≠ mb := by
    rcases hat with e | e
    · intro e'; exact h.rm (by rw [e, e'])
    · omega
  have c1' : w1.cell? ⟨d, 1, none⟩ = some rv := by rw [(q 1).1]; exact h.c1
  have o0 : (w1.setCell ⟨d, 1, none⟩ (.slice (some ⟨g, 0, none⟩) (x.rs.length + 1) cap)).cell? ⟨d, 0, none⟩ = w1.cell? ⟨d, 0, none⟩ := World.cell?_setCell_other _ _ _ _ (by simp)
  have o2 : (w1.setCell ⟨d, 1, none⟩ (.slice (some ⟨g, 0, none⟩) (x.rs.length + 1) cap)).cell? ⟨d, 2, none⟩ = w1.cell? ⟨d, 2, none⟩ := World.cell?_setCell_other _ _ _ _ (by simp)
  refine ⟨?_, hu.mono (fun _ _ f => Or.inr (Or.inr f)) |>.trans (Upd.setCell w1 ⟨d, 1, none⟩ _) (fun i _ f => Or.inl f)⟩
  exact { c0 := by rw [o0, (q 0).1]; exact h.c0, c1 := World.cell?_setCell_same _ _ _ c1', c2 := by rw [o2, (q 2).1]; exact h.c2,
          f1 := by rw [World.frozen?_setCell, (q 1).2]; exact h.f1, f2 := by rw [World.frozen?_setCell, (q 2).2]; exact h.f2,
          own := (ownsMap_upd h.own hu h.rm).setCell (fun e => h.dm e.symm) _,
          row := by
            rw [rawCells_snoc, List.length_append]
            exact ownsRow_upd hown (Upd.setCell w1 ⟨d, 1, none⟩ _) (fun j hj e => by cases hj; exact hgd e)
          rd := by simp only [Value.ownBlock]; intro e; exact hgd (Option.some.inj e), rm := by simp only [Value.ownBlock]; intro e; exact hgm (Option.some.inj e),
          dm := h.dm, bd := h.bd, bm := h.bm, ld := by have := h.ld; have := hu.size; simp [World.setCell]; omega, keys := h.keys }

/-- The map has turned, and nothing else. -/
theorem turned {B : Nat} {w w1 : World} {d mb n n' : Nat} {rv : Value} {x : Ab} {D' : DataW Unit} (h : IsDisk B w d mb n rv x) (hown : w1.ownsMap Tryd.prog 9 itemR mb n' D') (hg : w.grownBy w1 (some mb))
    (hk : ∀ kl, Maps.has D' kl = true → ∃ s, kl = keyD s ∧ okPath s = true) : IsDisk B w1 d mb n' rv { D := D', rs := x.rs, left := x.left } ∧ Upd (Foot d mb rv) w w1 := by
  have q : ∀ i, w1.cell? ⟨d, i, none⟩ = w.cell? ⟨d, i, none⟩ ∧ w1.frozen? ⟨d, i, none⟩ = w.frozen? ⟨d, i, none⟩ := fun i => grown_far hg h.ld (fun e => h.dm (Option.some.inj e).symm) i
  have hu := Upd.of_grown hg
  refine ⟨?_, hu.mono (fun i _ f => Or.inr (Or.inl (Option.some.inj f).symm))⟩
  exact { c0 := by rw [(q 0).1]; exact h.c0, c1 := by rw [(q 1).1]; exact h.c1, c2 := by rw [(q 2).1]; exact h.c2, f1 := by rw [(q 1).2]; exact h.f1, f2 := by rw [(q 2).2]; exact h.f2,
          own := hown, row := ownsRow_upd h.row hu (fun j hj f => h.rm (by rw [hj]; exact f.symm)), rd := h.rd, rm := h.rm, dm := h.dm, bd := h.bd, bm := h.bm,
          ld := Nat.lt_of_lt_of_le h.ld hg.size, keys := hk }

theorem isKey (s : ByteArray) : WideAt.IsKeyLit (keyD s) := by unfold keyD WideAt.IsKeyLit; trivial

theorem keys_put {D : DataW Unit} {s : ByteArray} {v : DataW Unit} (hs : okPath s = true) (hk : ∀ kl, Maps.has D kl = true → ∃ s, kl = keyD s ∧ okPath s = true) : ∀ kl, Maps.has (D.put (keyD s) v) kl = true → ∃ s, kl = keyD s ∧ okPath s = true := by
  intro kl h
  by_cases e : kl = keyD s
  · exact ⟨s, e, hs⟩
  · rw [has_put_other e] at h; exact hk kl h

theorem keys_del {D : DataW Unit} {s : ByteArray} (hk : ∀ kl, Maps.has D kl = true → ∃ s, kl = keyD s ∧ okPath s = true) : ∀ kl, Maps.has (D.del (keyD s)) kl = true → ∃ s, kl = keyD s ∧ okPath s = true := by
  intro kl h
  by_cases e : kl = keyD s
  · rw [e, has_del_same] at h; cases h
  · rw [has_del_other e] at h; exact hk kl h

def mkdirD (x : Ab) (s : ByteArray) : Int × Ab :=
  if (writeD x.left [s] != 0) = true then (writeD x.left [s], x) else if (parentD x.D s != 0) = true then (parentD x.D s, x) else if (kindD x.D s != 0) = true then (11, x)
  else (0, noteAb { D := x.D.put (keyD s) (itemD true ByteArray.empty), rs := x.rs, left := x.left } (1, s, ByteArray.empty))

def writeFD (x : Ab) (s t : ByteArray) : Int × Ab :=
  if (writeD x.left [s] != 0) = true then (writeD x.left [s], x) else if (fileD x.D s != 0) = true then (fileD x.D s, x)
  else (0, noteAb { D := x.D.put (keyD s) (itemD false t), rs := x.rs, left := x.left } (2, s, ByteArray.empty))

def removeD (x : Ab) (s : ByteArray) : Int × Ab :=
  if (writeD x.left [s] != 0) = true then (writeD x.left [s], x) else if (kindD x.D s == 0) = true then (12, x) else if (kindD x.D s == 2 && usedD x.D s) = true then (14, x)
  else (0, noteAb { D := x.D.del (keyD s), rs := x.rs, left := x.left } (4, s, ByteArray.empty))

theorem writeD_ok {l : Int} {ps : List ByteArray} (h : (writeD l ps != 0) = false) : ps.all okPath = true := by
  unfold writeD at h
  split at h
  · simp at h
  · split at h
    · assumption
    · simp at h

/-- What the four raw writes are told of the disk and of the numbers. -/
structure Fit (B : Nat) (w : World) (d mb n : Nat) (rv : Value) (x : Ab) (m : Int) : Prop where
  disk : IsDisk B w d mb n rv x
  max : w.cell? ⟨0, 0, none⟩ = some (.int .i64 m)
  room : n < 2199023255552
  len : x.rs.length < 2199023255552
  lo : -1 ≤ x.left
  hi : x.left ≤ 9223372036854775807
  base : B ≤ w.heap.size

theorem alloc_below (w : World) (o : Obj) : Below w.heap.size w (w.alloc o) := (Below.refl _ _).alloc (Nat.le_refl _) _

theorem Fit.below {B : Nat} {w w' : World} {d mb n : Nat} {rv : Value} {x : Ab} {m : Int} (h : Fit B w d mb n rv x m) (hb : Below w.heap.size w w') : Fit B w' d mb n rv x m :=
  { disk := h.disk.below hb, max := cell_below h.max hb, room := h.room, len := h.len, lo := h.lo, hi := h.hi, base := Nat.le_trans h.base hb.size }

theorem After.ahead {B : Nat} {w w1 w' : World} {d mb n : Nat} {rv : Value} {x' : Ab} (hb : Below w.heap.size w w1) (h : After B w1 w' d mb n rv x') : After B w w' d mb n rv x' := by
  obtain ⟨n', rv', h1, h2, h3, h4⟩ := h
  exact ⟨n', rv', h1, h2, (Upd.of_below hb).trans h3 (fun _ _ f => f), fun j hj => (h4 j hj).imp id (fun q => Nat.le_trans hb.size q)⟩

theorem row_cells {w : World} {B : Nat} {e : TypeId} {size n g cap : Nat} {xs : List Value} (h : w.ownsRow B e size (.slice (some ⟨g, 0, none⟩) n cap) n xs) : ∀ j u, xs[j]? = some u → w.cell? ⟨g, j, none⟩ = some u := by
  intro j u hu
  rcases h.2 with ⟨hc, _⟩ | ⟨g', cap', cur, hv, _, hh, _, _, _, ht⟩
  · cases hc
  · cases hv
    rw [← ht] at hu
    have hj : j < n * size := by
      have := (List.getElem?_eq_some_iff.1 hu).1
      rw [List.length_take] at this; omega
    rw [List.getElem?_take_of_lt hj] at hu
    unfold World.cell?
    simp only [hh]
    rw [← Array.getElem?_toList]; exact hu

theorem row_shape {w : World} {B : Nat} {e : TypeId} {size n cap : Nat} {ao : Option Addr} {xs : List Value} (h : w.ownsRow B e size (.slice ao n cap) n xs) (hn : 0 < n) : ∃ g, ao = some ⟨g, 0, none⟩ := by
  rcases h.2 with ⟨_, h0⟩ | ⟨g, cap', cur, hv, _⟩
  · omega
  · cases hv; exact ⟨g, rfl⟩

/-- The cells of files and directories. -/
def fileCells (fs : List (ByteArray × Bool × ByteArray)) : List Value := fs.flatMap fun f => [.string f.1, .bool f.2.1, .string f.2.2]

theorem fileCells_length (rs : List (ByteArray × Bool × ByteArray)) : (fileCells rs).length = rs.length * 3 := by
  induction rs with
  | nil => rfl
  | cons r rs ih => unfold fileCells at *; simp only [List.flatMap_cons, List.length_append, List.length_cons, List.length_nil, ih]; omega

theorem fileCells_get (rs : List (ByteArray × Bool × ByteArray)) : ∀ (k : Nat) (h : k < rs.length), (fileCells rs)[k * 3]? = some (.string rs[k].1) ∧ (fileCells rs)[k * 3 + 1]? = some (.bool rs[k].2.1) ∧ (fileCells rs)[k * 3 + 1 + 1]? = some (.string rs[k].2.2) := by
  induction rs with
  | nil => intro k h; simp at h
  | cons r rs ih =>
    intro k h
    cases k with
    | zero => simp [fileCells]
    | succ k =>
      obtain ⟨h1, h2, h3⟩ := ih k (by simpa using h)
      have e : fileCells (r :: rs) = .string r.1 :: .bool r.2.1 :: .string r.2.2 :: fileCells rs := rfl
      rw [e]
      have q : (k + 1) * 3 = k * 3 + 1 + 1 + 1 := by omega
      rw [q]
      simp only [List.getElem?_cons_succ, List.getElem_cons_succ]
      exact ⟨h1, h2, h3⟩
end Go.Proofs.YtefcndfeemnglaaDoor.Dk
