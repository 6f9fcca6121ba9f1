/- What note leaves of a disk; what a turned map leaves; the plain functions of the four raw writes; the walks of Mkdir and Write. -/
import Derived.Test.YtpkllhgohkgcmaaGreatDoorDisk6
namespace Go.Proofs.YtpkllhgohkgcmaaGreatDoor
open Go.RowKit Go.Maps Go.WideMaps Go.WideElems
set_option maxRecDepth 100000

/-- A raw write is noted. -/
def noteAb (x : Ab) (r : Int × ByteArray × ByteArray) : Ab := { D := x.D, rs := x.rs ++ [r], left := if 0 < x.left then x.left - 1 else x.left }

/-- A call has left a disk at d, and nothing else has turned. -/
def After (B : Nat) (w w' : World) (d mb n : Nat) (rv : Value) (x' : Ab) : Prop :=
  ∃ n' rv', n' ≤ n + 1 ∧ IsDisk B w' d mb n' rv' x' ∧ Upd (Foot d mb rv) w w' ∧ ∀ j, rv'.ownBlock = some j → rv.ownBlock = some j ∨ w.heap.size ≤ j

theorem After.same {B : Nat} {w w' : World} {d mb n : Nat} {rv : Value} {x : Ab} (h : IsDisk B w d mb n rv x) (hb : Below w.heap.size w w') : After B w w' d mb n rv x :=
  ⟨n, rv, Nat.le_succ _, h.below hb, Upd.of_below hb, fun _ hj => Or.inl hj⟩

theorem After.from {B : Nat} {w w1 w' : World} {d mb n : Nat} {rv : Value} {x' : Ab} (hu : Upd (Foot d mb rv) w w1) {n1 : Nat} (h : ∃ rv', IsDisk B w' d mb n1 rv' x' ∧ Upd (Foot d mb rv) w1 w' ∧ ∀ j, rv'.ownBlock = some j → rv.ownBlock = some j ∨ w1.heap.size ≤ j) (hn : n1 ≤ n + 1) : After B w w' d mb n rv x' := by
  obtain ⟨rv', h1, h2, h3⟩ := h
  exact ⟨n1, rv', hn, h1, hu.trans h2 (fun _ _ f => f), fun j hj => (h3 j hj).imp id (fun q => Nat.le_trans hu.size q)⟩

theorem rawCells_snoc (rs : List (Int × ByteArray × ByteArray)) (k : Int) (p t : ByteArray) : rawCells (rs ++ [(k, p, t)]) = rawCells rs ++ [.int .i64 k, .string p, .string t] := by simp [rawCells]

theorem noted {B : Nat} {w w1 : World} {d mb n : Nat} {rv : Value} {x : Ab} (h : IsDisk B w d mb n rv x) {k : Int} {p t : ByteArray} {g cap : Nat}
    (hown : w1.ownsRow B 56 3 (.slice (some ⟨g, 0, none⟩) (x.rs.length + 1) cap) (x.rs.length + 1) (rawCells x.rs ++ [.int .i64 k, .string p, .string t]))
    (hgrow : ((w.alloc (rawObj k p t)).alloc (rawObj k p t)).drew.grownBy w1 rv.ownBlock) (hat : rv.ownBlock = some g ∨ g = w.heap.size + 2) (_hlt : g < w1.heap.size) :
    IsDisk B (w1.setCell ⟨d, 1, none⟩ (.slice (some ⟨g, 0, none⟩) (x.rs.length + 1) cap)) d mb n (.slice (some ⟨g, 0, none⟩) (x.rs.length + 1) cap) { D := x.D, rs := x.rs ++ [(k, p, t)], left := x.left } ∧
      Upd (Foot d mb rv) w (w1.setCell ⟨d, 1, none⟩ (.slice (some ⟨g, 0, none⟩) (x.rs.length + 1) cap)) := by
  have hb := raw_below w (rawObj k p t) (rawObj k p t)
  have hu : Upd (fun j => rv.ownBlock = some j) w w1 := (Upd.of_below hb).trans (Upd.of_grown hgrow) (fun _ _ f => f)
  have q : ∀ i, w1.cell? ⟨d, i, none⟩ = w.cell? ⟨d, i, none⟩ ∧ w1.frozen? ⟨d, i, none⟩ = w.frozen? ⟨d, i, none⟩ := fun i =>
    ⟨World.cell?_of_block (w := w) (hu.block d h.ld h.rd), World.frozen?_of_block (w := w) (hu.block d h.ld h.rd)⟩
  have hml := h.own.lt
  have hgd : g ≠ d := by
    rcases hat with e | e
    · intro e'; exact h.rd (by rw [e, e'])
    · have := h.ld; omega
  have hgm : g ≠ mb := by
    rcases hat with e | e
    · intro e'; exact h.rm (by rw [e, e'])
    · omega
  have c1' : w1.cell? ⟨d, 1, none⟩ = some rv := by rw [(q 1).1]; exact h.c1
  have o0 : (w1.setCell ⟨d, 1, none⟩ (.slice (some ⟨g, 0, none⟩) (x.rs.length + 1) cap)).cell? ⟨d, 0, none⟩ = w1.cell? ⟨d, 0, none⟩ := World.cell?_setCell_other _ _ _ _ (by simp)
  have o2 : (w1.setCell ⟨d, 1, none⟩ (.slice (some ⟨g, 0, none⟩) (x.rs.length + 1) cap)).cell? ⟨d, 2, none⟩ = w1.cell? ⟨d, 2, none⟩ := World.cell?_setCell_other _ _ _ _ (by simp)
  refine ⟨?_, hu.mono (fun _ _ f => Or.inr (Or.inr f)) |>.trans (Upd.setCell w1 ⟨d, 1, none⟩ _) (fun i _ f => Or.inl f)⟩
  exact { c0 := by rw [o0, (q 0).1]; exact h.c0, c1 := World.cell?_setCell_same _ _ _ c1', c2 := by rw [o2, (q 2).1]; exact h.c2,
          f1 := by rw [World.frozen?_setCell, (q 1).2]; exact h.f1, f2 := by rw [World.frozen?_setCell, (q 2).2]; exact h.f2,
          own := (ownsMap_upd h.own hu h.rm).setCell (fun e => h.dm e.symm) _,
          row := by
            rw [rawCells_snoc, List.length_append]
            exact ownsRow_upd hown (Upd.setCell w1 ⟨d, 1, none⟩ _) (fun j hj e => by cases hj; exact hgd e)
          rd := by simp only [Value.ownBlock]; intro e; exact hgd (Option.some.inj e), rm := by simp only [Value.ownBlock]; intro e; exact hgm (Option.some.inj e),
          dm := h.dm, bd := h.bd, bm := h.bm, ld := by have := h.ld; have := hu.size; simp [World.setCell]; omega, keys := h.keys }

theorem note_any {B : Nat} {w : World} {d mb n : Nat} {rv : Value} {x : Ab} (h : IsDisk B w d mb n rv x) (k : Int) (p t : ByteArray) (hlen : x.rs.length < 2199023255552) (hl0 : -1 ≤ x.left) (hl1 : x.left ≤ 9223372036854775807) (hB : B ≤ w.heap.size) :
    Calls Tryz.prog 59 #[.pointer (some ⟨d, 0, none⟩), .agg #[.int .i64 k, .string p, .string t]] w fun e w' => e = .returned (.tuple #[]) ∧
      ∃ rv', IsDisk B w' d mb n rv' (noteAb x (k, p, t)) ∧ Upd (Foot d mb rv) w w' ∧ ∀ j, rv'.ownBlock = some j → rv.ownBlock = some j ∨ w.heap.size ≤ j := by
  refine (note_walk h k p t hlen hl0 hl1 hB).mono ?_
  rintro e w' ⟨rfl, g, cap, w1, hown, hgrow, hat, hlt, hw⟩
  refine ⟨rfl, .slice (some ⟨g, 0, none⟩) (x.rs.length + 1) cap, ?_⟩
  obtain ⟨hd, hu⟩ := noted h hown hgrow hat hlt
  have hj : ∀ j, (Value.slice (some ⟨g, 0, none⟩) (x.rs.length + 1) cap).ownBlock = some j → rv.ownBlock = some j ∨ w.heap.size ≤ j := by
    intro j hj
    cases hj
    rcases hat with e | e
    · exact Or.inl e
    · exact Or.inr (by simp only; omega)
  rcases hw with ⟨rfl, h0⟩ | ⟨rfl, h0⟩
  · refine ⟨?_, hu, hj⟩
    unfold noteAb; rw [if_neg (by omega)]; exact hd
  · refine ⟨?_, hu.trans (Upd.setCell _ ⟨d, 2, none⟩ _) (fun i _ f => Or.inl f), hj⟩
    unfold noteAb; rw [if_pos h0]; exact hd.setLeft (x.left - 1)

/-- The map has turned, and nothing else. -/
theorem turned {B : Nat} {w w1 : World} {d mb n n' : Nat} {rv : Value} {x : Ab} {D' : DataW Unit} (h : IsDisk B w d mb n rv x) (hown : w1.ownsMap Tryz.prog 9 itemR mb n' D') (hg : w.grownBy w1 (some mb))
    (hk : ∀ kl, Maps.has D' kl = true → ∃ s, kl = keyD s ∧ okPath s = true) : IsDisk B w1 d mb n' rv { D := D', rs := x.rs, left := x.left } ∧ Upd (Foot d mb rv) w w1 := by
  have q : ∀ i, w1.cell? ⟨d, i, none⟩ = w.cell? ⟨d, i, none⟩ ∧ w1.frozen? ⟨d, i, none⟩ = w.frozen? ⟨d, i, none⟩ := fun i => grown_far hg h.ld (fun e => h.dm (Option.some.inj e).symm) i
  have hu := Upd.of_grown hg
  refine ⟨?_, hu.mono (fun i _ f => Or.inr (Or.inl (Option.some.inj f).symm))⟩
  exact { c0 := by rw [(q 0).1]; exact h.c0, c1 := by rw [(q 1).1]; exact h.c1, c2 := by rw [(q 2).1]; exact h.c2, f1 := by rw [(q 1).2]; exact h.f1, f2 := by rw [(q 2).2]; exact h.f2,
          own := hown, row := ownsRow_upd h.row hu (fun j hj f => h.rm (by rw [hj]; exact f.symm)), rd := h.rd, rm := h.rm, dm := h.dm, bd := h.bd, bm := h.bm,
          ld := Nat.lt_of_lt_of_le h.ld hg.size, keys := hk }

theorem isKey (s : ByteArray) : WideAt.IsKeyLit (keyD s) := by unfold keyD WideAt.IsKeyLit; trivial

theorem keys_put {D : DataW Unit} {s : ByteArray} {v : DataW Unit} (hs : okPath s = true) (hk : ∀ kl, Maps.has D kl = true → ∃ s, kl = keyD s ∧ okPath s = true) : ∀ kl, Maps.has (D.put (keyD s) v) kl = true → ∃ s, kl = keyD s ∧ okPath s = true := by
  intro kl h
  by_cases e : kl = keyD s
  · exact ⟨s, e, hs⟩
  · rw [has_put_other e] at h; exact hk kl h

theorem keys_del {D : DataW Unit} {s : ByteArray} (hk : ∀ kl, Maps.has D kl = true → ∃ s, kl = keyD s ∧ okPath s = true) : ∀ kl, Maps.has (D.del (keyD s)) kl = true → ∃ s, kl = keyD s ∧ okPath s = true := by
  intro kl h
  by_cases e : kl = keyD s
  · rw [e, has_del_same] at h; cases h
  · rw [has_del_other e] at h; exact hk kl h

def mkdirD (x : Ab) (s : ByteArray) : Int × Ab :=
  if (writeD x.left [s] != 0) = true then (writeD x.left [s], x) else if (parentD x.D s != 0) = true then (parentD x.D s, x) else if (kindD x.D s != 0) = true then (11, x)
  else (0, noteAb { D := x.D.put (keyD s) (itemD true ByteArray.empty), rs := x.rs, left := x.left } (1, s, ByteArray.empty))

def writeFD (x : Ab) (s t : ByteArray) : Int × Ab :=
  if (writeD x.left [s] != 0) = true then (writeD x.left [s], x) else if (fileD x.D s != 0) = true then (fileD x.D s, x)
  else (0, noteAb { D := x.D.put (keyD s) (itemD false t), rs := x.rs, left := x.left } (2, s, ByteArray.empty))

def renameD (x : Ab) (s t : ByteArray) : Int × Ab :=
  if (writeD x.left [s, t] != 0) = true then (writeD x.left [s, t], x) else if (readE x.D s != 0) = true then (readE x.D s, x) else if (fileD x.D t != 0) = true then (fileD x.D t, x)
  else (0, noteAb { D := (x.D.del (keyD s)).put (keyD t) (itemD false (readT x.D s)), rs := x.rs, left := x.left } (3, s, t))

def removeD (x : Ab) (s : ByteArray) : Int × Ab :=
  if (writeD x.left [s] != 0) = true then (writeD x.left [s], x) else if (kindD x.D s == 0) = true then (12, x) else if (kindD x.D s == 2 && usedD x.D s) = true then (14, x)
  else (0, noteAb { D := x.D.del (keyD s), rs := x.rs, left := x.left } (4, s, ByteArray.empty))

theorem writeD_ok {l : Int} {ps : List ByteArray} (h : (writeD l ps != 0) = false) : ps.all okPath = true := by
  unfold writeD at h
  split at h
  · simp at h
  · split at h
    · assumption
    · simp at h

end Go.Proofs.YtpkllhgohkgcmaaGreatDoor
