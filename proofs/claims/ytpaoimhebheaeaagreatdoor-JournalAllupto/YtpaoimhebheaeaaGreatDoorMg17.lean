/- Ph2, DdS, Jk1, laid in one text. -/
import Derived.BigQuiet
import Derived.Deep.AppendLies
import Derived.Deep.Light
import Derived.Deep.QuietTactic
import Derived.Deep.RegionHeld3
import Derived.Deep.RegionLaw
import Derived.Laws.StructEq
import Derived.Maps.Ext
import Derived.Maps.OwnSet
import Derived.Maps.RangeWalk
import Derived.Sort.KeysCollected
import Derived.Sort.OwnSorted
import Derived.Test.YtpaoimhebheaeaaGreatDoorDkShelf
import Derived.Test.YtpaoimhebheaeaaGreatDoorDkSort
import Derived.Test.YtpaoimhebheaeaaGreatDoorRows
import Derived.WalkKit
import Derived.WalkLawsBesides
import Derived.WalkSpells
import Derived.Test.YtpaoimhebheaeaaGreatDoorMg16
namespace Go.Proofs.YtpaoimhebheaeaaGreatDoor.Dk
open Go.RowKit Go.Maps Go.WideMaps Go.WideElems
set_option maxRecDepth 100000

/-- A raw write of a kind. -/
def putsD (x : Ab) (k : Int) (p t u : ByteArray) : Int × Ab := if (k == 0) = true then mkdirD x p else if (k == 1) = true then writeFD x p u else if (k == 2) = true then renameD x p t else removeD x p

/-- What a deed leaves of a disk. -/
def asksD (x : Ab) (k : Int) (p t u : ByteArray) (z : Int) : Ab :=
  if (k == 4) = true then x else if (k == 5) = true then x else if (k == 6) = true then x else if (k == 7) = true then { x with left := cutL x.left z } else if (k == 8) = true then { x with left := -1 }
  else if (k == 9) = true then { x with rs := [] } else if (k == 10) = true then x else (putsD x k p t u).2

theorem kind_load {D : DataW Unit} (hG : Good D) (s : ByteArray) : kindD (loadD (filesD D)) s = kindD D s := by
  unfold kindD
  by_cases h1 : (s.toList == [47]) = true
  · rw [if_pos h1, if_pos h1]
  rw [if_neg h1, if_neg h1]
  by_cases hs : Maps.has D (keyD s) = true
  · obtain ⟨c, t, hct⟩ := hG.item s hs
    have hm : ((s, c, t) : Fl) ∈ filesD D := (hG.mem _).2 ⟨hs, hct⟩
    have h2 : Maps.has (loadD (filesD D)) (keyD s) = true := (has_load _ s).2 ⟨_, hm, rfl⟩
    have h3 := at_load _ (rising_apart hG.rise) _ hm
    simp only at h3
    rw [if_pos hs, if_pos h2, h3, hct]
  · have h2 : ¬ Maps.has (loadD (filesD D)) (keyD s) = true := fun h => by
      obtain ⟨f, hf, rfl⟩ := (has_load _ s).1 h
      exact hs ((hG.mem f).1 hf).1
    rw [if_neg hs, if_neg h2]

theorem okF_of {D : DataW Unit} (hG : Good D) (hE : DirE D) {f : Fl} (hf : f ∈ filesD D) : okF f = true := by
  have h1 : okPath f.1 = true := by
    obtain ⟨s, hs, ho⟩ := hG.keys _ ((hG.mem f).1 hf).1
    rw [keyD_inj hs]
    exact ho
  unfold okF
  rw [h1]
  cases hc : f.2.1 with
  | false => rfl
  | true => rw [hE f hf hc, toList_data]; rfl

theorem take_has (fs : List Fl) (hd : fs.Pairwise fun x y => x.1 ≠ y.1) (i : Nat) (hi : i < fs.length) : Maps.has (loadD (fs.take i)) (keyD fs[i].1) = false := by
  rw [Bool.eq_false_iff]
  intro h
  obtain ⟨f, hf, he⟩ := (has_load _ _).1 h
  obtain ⟨j, hj, rfl⟩ := List.getElem_of_mem hf
  have hj' : j < i := by rw [List.length_take] at hj; omega
  have := List.pairwise_iff_getElem.1 hd j i (by omega) hi hj'
  rw [List.getElem_take] at he
  exact this he

/-- All that a disk has may be loaded. -/
theorem loads_all {D : DataW Unit} (hG : Good D) (hS : Sound D) (hE : DirE D) : Loads (filesD D) := by
  refine ⟨fun i hi => ?_, fun i hi => ?_⟩
  · have h1 := okF_of hG hE (List.getElem_mem hi)
    have h2 : okPath (filesD D)[i].1 = true := by unfold okF at h1; simp only [Bool.and_eq_true] at h1; exact h1.1
    exact ⟨h1, kind_none (not_root h2) (take_has _ (rising_apart hG.rise) i hi)⟩
  · have h1 := hS _ ((hG.mem _).1 (List.getElem_mem hi)).1
    unfold parentD
    rw [kind_load hG, h1]
    rfl

theorem files_load {D : DataW Unit} (hG : Good D) (hL : Good (loadD (filesD D))) : filesD (loadD (filesD D)) = filesD D := by
  refine eq_of_rising hL.rise hG.rise fun y => ?_
  rw [hL.mem, hG.mem, has_load]
  constructor
  · rintro ⟨⟨f, hf, e⟩, h2⟩
    have h3 := at_load _ (rising_apart hG.rise) f hf
    have h4 := (hG.mem f).1 hf
    rw [e] at h3 h4
    refine ⟨h4.1, ?_⟩
    rw [h4.2, ← h3, h2]
  · rintro ⟨h1, h2⟩
    have hm : y ∈ filesD D := (hG.mem y).2 ⟨h1, h2⟩
    exact ⟨⟨y, hm, rfl⟩, at_load _ (rising_apart hG.rise) y hm⟩

/-- Deeds keep directories without data. -/
theorem dirE_put {D : DataW Unit} (hm : IsMap D) (hG : Good D) {s : ByteArray} {c : Bool} {t : ByteArray} (hP : Good (D.put (keyD s) (itemD c t))) (hE : DirE D) (h : c = true → t = ByteArray.empty) : DirE (D.put (keyD s) (itemD c t)) := by
  intro f hf hc
  rw [← put_files hG hm hP, putD_ins, mem_ins] at hf
  rcases hf with rfl | ⟨hf, _⟩
  · exact h hc
  · exact hE f hf hc
theorem dirE_del {D : DataW Unit} (hG : Good D) {s : ByteArray} (hP : Good (D.del (keyD s))) (hE : DirE D) : DirE (D.del (keyD s)) := by
  intro f hf hc
  have := del_files (f := (s, false, ByteArray.empty)) hG hP
  rw [← this, putD_del, mem_filterF] at hf
  exact hE f hf.1 hc
theorem dirE_new : DirE newAb.D := fun f hf => by cases hf
theorem ite_dirE {c : Prop} [Decidable c] {a b : Int × Ab} (h1 : c → Plain a.2.D → DirE a.2.D) (h2 : ¬ c → Plain b.2.D → DirE b.2.D) : Plain (if c then a else b).2.D → DirE (if c then a else b).2.D := by
  split
  · exact h1 ‹_›
  · exact h2 ‹_›
theorem dirE_mkdir {x : Ab} (hP : Plain x.D) (hE : DirE x.D) (s : ByteArray) : Plain (mkdirD x s).2.D → DirE (mkdirD x s).2.D := by
  unfold mkdirD
  refine ite_dirE (fun _ _ => hE) fun _ => ite_dirE (fun _ _ => hE) fun _ => ite_dirE (fun _ _ => hE) fun _ h => ?_
  exact dirE_put hP.isMap hP.good h.good hE (fun _ => rfl)
theorem dirE_write {x : Ab} (hP : Plain x.D) (hE : DirE x.D) (s t : ByteArray) : Plain (writeFD x s t).2.D → DirE (writeFD x s t).2.D := by
  unfold writeFD
  refine ite_dirE (fun _ _ => hE) fun _ => ite_dirE (fun _ _ => hE) fun _ h => ?_
  exact dirE_put hP.isMap hP.good h.good hE (fun h => by cases h)
theorem dirE_rename {x : Ab} (hP : Plain x.D) (hE : DirE x.D) (s t : ByteArray) : Plain (renameD x s t).2.D → DirE (renameD x s t).2.D := by
  unfold renameD
  refine ite_dirE (fun _ _ => hE) fun _ => ite_dirE (fun _ _ => hE) fun _ => ite_dirE (fun _ _ => hE) fun _ h => ?_
  exact dirE_put (hP.del _).isMap (hP.del _).good h.good (dirE_del hP.good (hP.del _).good hE) (fun h => by cases h)
theorem dirE_remove {x : Ab} (hP : Plain x.D) (hE : DirE x.D) (s : ByteArray) : Plain (removeD x s).2.D → DirE (removeD x s).2.D := by
  unfold removeD
  refine ite_dirE (fun _ _ => hE) fun _ => ite_dirE (fun _ _ => hE) fun _ => ite_dirE (fun _ _ => hE) fun _ h => ?_
  exact dirE_del hP.good (hP.del _).good hE
theorem dirE_puts {x : Ab} (hP : Plain x.D) (hE : DirE x.D) (k : Int) (p t u : ByteArray) : Plain (putsD x k p t u).2.D → DirE (putsD x k p t u).2.D := by
  unfold putsD
  exact ite_dirE (fun _ => dirE_mkdir hP hE p) fun _ => ite_dirE (fun _ => dirE_write hP hE p u) fun _ => ite_dirE (fun _ => dirE_rename hP hE p t) fun _ => dirE_remove hP hE p
theorem dirE_asks {x : Ab} (hP : Plain x.D) (hE : DirE x.D) (k : Int) (p t u : ByteArray) (z : Int) : Plain (asksD x k p t u z).D → DirE (asksD x k p t u z).D := by
  unfold asksD
  repeat' split
  all_goals first
    | exact fun _ => hE
    | exact dirE_puts hP hE k p t u

theorem files_row {w : World} {B cap : Nat} {a : Option Addr} {fs : List Fl} (h : w.ownsRow B 83 3 (.slice a fs.length cap) fs.length (fileCells fs)) : IsFiles w a fs := by
  cases hfs : fs with
  | nil => exact Or.inl rfl
  | cons f r =>
    rw [← hfs]
    obtain ⟨g, rfl⟩ := row_shape h (by rw [hfs]; simp)
    refine Or.inr ⟨g, 0, rfl, (row_lt h (k := g) rfl).1, fun k hk => ?_⟩
    rw [Nat.zero_add]
    exact file_cells h k hk

theorem files_size {B : Nat} {w : World} {d mb n : Nat} {rv : Value} {x : Ab} (h : IsDisk B w d mb n rv x) : ∀ f ∈ filesD x.D, f.1.size ≤ maxLen ∧ f.2.2.size ≤ maxLen := by
  intro f hf
  have hG := h.good
  have h1 := (hG.mem f).1 hf
  have hs : f.1.size ≤ maxLen := by
    obtain ⟨s, e, ho⟩ := hG.keys _ h1.1
    rw [keyD_inj e]
    exact okPath_size ho
  refine ⟨hs, ?_⟩
  obtain ⟨v, ps, _, hv⟩ := h.own.lookup keyed Tryz.underlying60 (zeroItem w) (zd := zeroD) (zp := []) (itemR_mk (by decide)) (keyOf_str hs)
  obtain ⟨c, t, _, h2, h3⟩ := itemR_inv hv
  have e : x.D.atKey (keyD f.1) zeroD = itemD c t := congrArg Prod.fst h2
  rw [h1.2] at e
  unfold itemD at e
  simp only [DataW.agg.injEq, List.cons.injEq, DataW.lit.injEq, Lit.bool.injEq, Lit.string.injEq, and_true] at e
  rw [bytes_eq e.2]
  exact h3
end Go.Proofs.YtpaoimhebheaeaaGreatDoor.Dk
namespace Go.Proofs.YtpaoimhebheaeaaGreatDoor
open Go.RowKit Go.Maps Go.WideMaps Go.WideElems Dk
set_option maxRecDepth 100000

/-- The program's disk, no greater than k. -/
structure PrgK (B : Nat) (w : World) (d mb n : Nat) (rv : Value) (x : Ab) (m : Int) (k : Nat) : Prop where
  disk : IsDisk B w d mb n rv x
  fine : Fine x
  de : DirE x.D
  lf : n ≤ k
  lr : x.rs.length ≤ k
  max : w.cell? ⟨0, 0, none⟩ = some (.int .i64 m)
  base : B ≤ w.heap.size
  zero : 0 < B
theorem PrgK.fit {B : Nat} {w : World} {d mb n : Nat} {rv : Value} {x : Ab} {m : Int} {k : Nat} (h : PrgK B w d mb n rv x m k) (hk : k < 2199023255552) : Fit B w d mb n rv x m :=
  { disk := h.disk, max := h.max, room := Nat.lt_of_le_of_lt h.lf hk, len := Nat.lt_of_le_of_lt h.lr hk, lo := h.fine.lo, hi := h.fine.hi, base := h.base }
theorem PrgK.below {B : Nat} {w w' : World} {d mb n : Nat} {rv : Value} {x : Ab} {m : Int} {k : Nat} (h : PrgK B w d mb n rv x m k) (hb : Below w.heap.size w w') : PrgK B w' d mb n rv x m k :=
  ⟨h.disk.below hb, h.fine, h.de, h.lf, h.lr, (hb.cell (p := ⟨0, 0, none⟩) (cell_lt h.max)).trans h.max, Nat.le_trans h.base hb.size, h.zero⟩
theorem PrgK.more {B : Nat} {w : World} {d mb n : Nat} {rv : Value} {x : Ab} {m : Int} {k k' : Nat} (h : PrgK B w d mb n rv x m k) (hk : k ≤ k') : PrgK B w d mb n rv x m k' :=
  ⟨h.disk, h.fine, h.de, Nat.le_trans h.lf hk, Nat.le_trans h.lr hk, h.max, h.base, h.zero⟩
/-- Behind calls: another disk there, nothing else turned. -/
def PrgT (B : Nat) (w : World) (d mb : Nat) (rv : Value) (y : Ab) (m : Int) (k : Nat) (w' : World) : Prop := ∃ n' rv', PrgK B w' d mb n' rv' y m k ∧ Upd (Foot d mb rv) w w' ∧ ∀ j, Foot d mb rv' j → Foot d mb rv j ∨ w.heap.size ≤ j
theorem PrgT.refl {B : Nat} {w : World} {d mb n : Nat} {rv : Value} {x : Ab} {m : Int} {k : Nat} (h : PrgK B w d mb n rv x m k) : PrgT B w d mb rv x m k w := ⟨n, rv, h, Upd.refl _ _, fun _ q => Or.inl q⟩
theorem PrgT.step {B : Nat} {w w1 w' : World} {d mb : Nat} {rv rv1 : Value} {y : Ab} {m : Int} {k : Nat} (hu : Upd (Foot d mb rv) w w1) (hj : ∀ j, Foot d mb rv1 j → Foot d mb rv j ∨ w.heap.size ≤ j) (h : PrgT B w1 d mb rv1 y m k w') : PrgT B w d mb rv y m k w' := by
  obtain ⟨n', rv', h1, h2, h3⟩ := h
  refine ⟨n', rv', h1, hu.trans h2 fun i hi q => (hj i q).resolve_right (by omega), fun j q => ?_⟩
  rcases h3 j q with q | q
  · exact hj j q
  · exact Or.inr (Nat.le_trans hu.size q)
theorem PrgT.below {B : Nat} {w w1 w' : World} {d mb : Nat} {rv : Value} {y : Ab} {m : Int} {k : Nat} (h : PrgT B w d mb rv y m k w1) (hb : Below w1.heap.size w1 w') : PrgT B w d mb rv y m k w' := by
  obtain ⟨n', rv', h1, h2, h3⟩ := h
  exact ⟨n', rv', h1.below hb, h2.trans (Upd.of_below (F := fun _ => False) hb) (fun _ _ q => q.elim), h3⟩
theorem PrgT.more {B : Nat} {w w' : World} {d mb : Nat} {rv : Value} {y : Ab} {m : Int} {k k' : Nat} (ht : PrgT B w d mb rv y m k w') (hk : k ≤ k') : PrgT B w d mb rv y m k' w' := by
  obtain ⟨n', rv', h, hu⟩ := ht
  exact ⟨n', rv', h.more hk, hu⟩
theorem PrgT.bel {B : Nat} {w w' : World} {d mb n : Nat} {rv : Value} {x y : Ab} {m : Int} {k k' : Nat} (h : PrgK B w d mb n rv x m k) (ht : PrgT B w d mb rv y m k' w') : Below B w w' := by
  obtain ⟨_, _, _, hu, _⟩ := ht
  exact hu.below h.base fun i hi => (h.disk.foot_lt hi).2
theorem PrgT.upd {B : Nat} {w w' : World} {d mb : Nat} {rv : Value} {y : Ab} {m : Int} {k : Nat} (ht : PrgT B w d mb rv y m k w') : Upd (Foot d mb rv) w w' := by
  obtain ⟨_, _, _, hu, _⟩ := ht
  exact hu
/-- A call on a disk that was reached by calls, with what was touched so far. -/
theorem PrgT.callu {B : Nat} {w w1 : World} {d mb : Nat} {rv : Value} {y : Ab} {m : Int} {k : Nat} (ht : PrgT B w d mb rv y m k w1) {f : Nat} {args : Array Value} {z : Int × Ab} {k2 : Nat} (hc : ∀ n1 rv1, PrgK B w1 d mb n1 rv1 y m k → (∀ W, Upd (Foot d mb rv1) w1 W → Upd (Foot d mb rv) w W) → Calls Tryz.prog f args w1 fun e' w' => e' = .returned (.int .i64 z.1) ∧ PrgT B w1 d mb rv1 z.2 m k2 w') : Calls Tryz.prog f args w1 fun e' w' => e' = .returned (.int .i64 z.1) ∧ PrgT B w d mb rv z.2 m k2 w' := by
  obtain ⟨n1, rv1, h1, h2, h3⟩ := ht
  exact (hc n1 rv1 h1 fun W hu => h2.trans hu fun i hi q => (h3 i q).resolve_right (by omega)).mono fun _ _ q => ⟨q.1, q.2.step h2 h3⟩
theorem PrgT.call {B : Nat} {w w1 : World} {d mb : Nat} {rv : Value} {y : Ab} {m : Int} {k : Nat} (ht : PrgT B w d mb rv y m k w1) {f : Nat} {args : Array Value} {z : Int × Ab} {k2 : Nat} (hc : ∀ n1 rv1, PrgK B w1 d mb n1 rv1 y m k → Calls Tryz.prog f args w1 fun e' w' => e' = .returned (.int .i64 z.1) ∧ PrgT B w1 d mb rv1 z.2 m k2 w') : Calls Tryz.prog f args w1 fun e' w' => e' = .returned (.int .i64 z.1) ∧ PrgT B w d mb rv z.2 m k2 w' := ht.callu fun n1 rv1 h _ => hc n1 rv1 h
theorem After.kept {B : Nat} {w w' : World} {d mb n : Nat} {rv : Value} {x y : Ab} {m : Int} {k : Nat} (h : PrgK B w d mb n rv x m k) (ha : After B w w' d mb n rv y) (hf : Fine y) (hE : Plain y.D → DirE y.D) (h2 : y.rs.length ≤ k + 1) : PrgT B w d mb rv y m (k + 1) w' := by
  obtain ⟨n', rv', a1, a2, a3, a4⟩ := ha
  have hB : Below B w w' := a3.below h.base fun i hi => (h.disk.foot_lt hi).2
  have := h.lf
  exact ⟨n', rv', ⟨a2, hf, hE hf.pl, by omega, h2, (hB.cell (p := ⟨0, 0, none⟩) h.zero).trans h.max, Nat.le_trans h.base a3.size, h.zero⟩, a3, fun j q => by
    rcases q with q | q | q
    · exact Or.inl (Or.inl q)
    · exact Or.inl (Or.inr (Or.inl q))
    · exact (a4 j q).imp (fun q => Or.inr (Or.inr q)) id⟩
theorem pRem {B : Nat} {w : World} {d mb n : Nat} {rv : Value} {x : Ab} {m : Int} {k : Nat} (h : PrgK B w d mb n rv x m k) (hk : k + 1 < 2199023255552) (s : ByteArray) : Calls Tryz.prog 71 #[.pointer (some ⟨d, 0, none⟩), .string s] w fun e' w' => e' = .returned (.int .i64 (removeD x s).1) ∧ PrgT B w d mb rv (removeD x s).2 m (k + 1) w' :=
  (Remove_any (h.fit (by omega)) s).mono fun _ _ q => ⟨q.1, After.kept h q.2 (rem_fine h.fine s).1 (dirE_remove h.fine.pl h.de s) (Nat.le_trans (rem_fine h.fine s).2 (Nat.succ_le_succ h.lr))⟩
theorem pMk {B : Nat} {w : World} {d mb n : Nat} {rv : Value} {x : Ab} {m : Int} {k : Nat} (h : PrgK B w d mb n rv x m k) (hk : k + 1 < 2199023255552) (s : ByteArray) : Calls Tryz.prog 68 #[.pointer (some ⟨d, 0, none⟩), .string s] w fun e' w' => e' = .returned (.int .i64 (mkdirD x s).1) ∧ PrgT B w d mb rv (mkdirD x s).2 m (k + 1) w' :=
  (Mkdir_any (h.fit (by omega)) s).mono fun _ _ q => ⟨q.1, After.kept h q.2 (mk_fine h.fine s).1 (dirE_mkdir h.fine.pl h.de s) (Nat.le_trans (mk_fine h.fine s).2 (Nat.succ_le_succ h.lr))⟩
theorem pWt {B : Nat} {w : World} {d mb n : Nat} {rv : Value} {x : Ab} {m : Int} {k : Nat} (h : PrgK B w d mb n rv x m k) (hk : k + 1 < 2199023255552) (s t : ByteArray) (ht : t.size ≤ maxLen) : Calls Tryz.prog 69 #[.pointer (some ⟨d, 0, none⟩), .string s, .string t] w fun e' w' => e' = .returned (.int .i64 (writeFD x s t).1) ∧ PrgT B w d mb rv (writeFD x s t).2 m (k + 1) w' :=
  (Write_any (h.fit (by omega)) s t ht).mono fun _ _ q => ⟨q.1, After.kept h q.2 (wt_fine h.fine s t).1 (dirE_write h.fine.pl h.de s t) (Nat.le_trans (wt_fine h.fine s t).2 (Nat.succ_le_succ h.lr))⟩
theorem pRen {B : Nat} {w : World} {d mb n : Nat} {rv : Value} {x : Ab} {m : Int} {k : Nat} (h : PrgK B w d mb n rv x m k) (hk : k + 1 < 2199023255552) (s t : ByteArray) : Calls Tryz.prog 70 #[.pointer (some ⟨d, 0, none⟩), .string s, .string t] w fun e' w' => e' = .returned (.int .i64 (renameD x s t).1) ∧ PrgT B w d mb rv (renameD x s t).2 m (k + 1) w' :=
  (Rename_any (h.fit (by omega)) s t).mono fun _ _ q => ⟨q.1, After.kept h q.2 (ren_fine h.fine s t).1 (dirE_rename h.fine.pl h.de s t) (Nat.le_trans (ren_fine h.fine s t).2.1 (Nat.succ_le_succ h.lr))⟩
theorem pKind {B : Nat} {w : World} {d mb n : Nat} {rv : Value} {x : Ab} {m : Int} {k : Nat} (h : PrgK B w d mb n rv x m k) (s : ByteArray) (hs : s.size ≤ maxLen) : Calls Tryz.prog 22 #[.pointer (some ⟨d, 0, none⟩), .string s] w fun e' w' => e' = .returned (.int .i64 (kindD x.D s)) ∧ Below w.heap.size w w' := Kind_any h.disk s hs
theorem PrgT.kind {B : Nat} {w w1 : World} {d mb : Nat} {rv : Value} {y : Ab} {m : Int} {k : Nat} (ht : PrgT B w d mb rv y m k w1) (s : ByteArray) (hs : s.size ≤ maxLen) : Calls Tryz.prog 22 #[.pointer (some ⟨d, 0, none⟩), .string s] w1 fun e' w' => e' = .returned (.int .i64 (kindD y.D s)) ∧ PrgT B w d mb rv y m k w' := by
  have ht2 := ht
  obtain ⟨n1, rv1, h1, h2, h3⟩ := ht
  exact (pKind h1 s hs).mono fun _ _ q => ⟨q.1, ht2.below q.2⟩
theorem PrgT.pre {B : Nat} {w w1 w' : World} {d mb : Nat} {rv : Value} {y : Ab} {m : Int} {k : Nat} (hb : Below w.heap.size w w1) (h : PrgT B w1 d mb rv y m k w') : PrgT B w d mb rv y m k w' := h.step (Upd.of_below hb) fun _ q => Or.inl q
theorem PrgK.away {B : Nat} {w W : World} {d mb n : Nat} {rv : Value} {x : Ab} {m : Int} {k : Nat} (h : PrgK B w d mb n rv x m k) (hb : Below w.heap.size w W) : PrgT B w d mb rv x m k W := (PrgT.refl h).below hb
end Go.Proofs.YtpaoimhebheaeaaGreatDoor
