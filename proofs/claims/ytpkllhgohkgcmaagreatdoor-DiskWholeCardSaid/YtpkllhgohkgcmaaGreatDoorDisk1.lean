/- A disk in memory: what it is that a pointer leads to a disk with these files, raw writes and so many writes left; that it stays one while other memory turns; the walks of New, Down, Up, Cut and Kind. -/
import Derived.Test.YtpkllhgohkgcmaaGreatDoorWalk2
import Derived.Maps.OwnSet
import Derived.Maps.RangeWalk
namespace Go.Proofs.YtpkllhgohkgcmaaGreatDoor
open Go.RowKit Go.Maps Go.WideMaps Go.WideElems
set_option maxRecDepth 100000

/-- How an item of the map reads. -/
def itemR (v : Value) : Option (DataW Unit × List MemPlace) :=
  match v with
  | .agg ⟨[.bool b, .string s]⟩ => if s.size ≤ maxLen then some (.agg [.lit (.bool b), .lit (.string s.data.toList)], []) else none
  | _ => none

def itemD (b : Bool) (s : ByteArray) : DataW Unit := .agg [.lit (.bool b), .lit (.string s.data.toList)]

theorem itemR_mk {b : Bool} {s : ByteArray} (hs : s.size ≤ maxLen) : itemR (.agg #[.bool b, .string s]) = some (itemD b s, []) := by
  simp [itemR, itemD, hs]

theorem itemR_inv {v : Value} {z : DataW Unit × List MemPlace} (h : itemR v = some z) : ∃ b s, v = .agg #[.bool b, .string s] ∧ z = (itemD b s, []) ∧ s.size ≤ maxLen := by
  unfold itemR at h
  split at h
  · next b s =>
    split at h
    · next hs => exact ⟨b, s, rfl, (Option.some.inj h).symm, hs⟩
    · cases h
  · cases h

theorem keyed : Keyed Tryz.prog 9 := string_keyed Tryz.underlying9
theorem zeroItem (w : World) : (zeroValue 66).run Tryz.prog w = .ok (.agg #[.bool false, .string ByteArray.empty]) w := by kernel_rfl

def keyD (s : ByteArray) : Lit := .string s.data.toList
def zeroD : DataW Unit := itemD false ByteArray.empty

theorem keyOf_str {s : ByteArray} (hs : s.size ≤ maxLen) : keyOf Tryz.prog 9 (.string s) = some (keyD s) := keyOf_string_mk Tryz.underlying9 hs

/-- The look-up with 'ok', the item written out. -/
theorem lookup_ok {P : Program} (w : World) {ops : Array Oper} {rest : List Oper} {o : Oper} {a : Act} {Q : Exit → Act → World → Prop} (hg : o.guard = none) (m x : Operand) (t : TypeId) (hop : o.op = Op.lookup t m x true)
    (k e : TypeId) (K : Keyed P k) (ht : P.underlying t = some (.map k e)) (hz : (zeroValue e).run P w = .ok (.agg #[.bool false, .string ByteArray.empty]) w) (b n : Nat) (D : DataW Unit)
    (hm : a.eval m = .map (some b)) (hown : w.ownsMap P k itemR b n D) (key : Value) (kl : Lit) (hx : a.eval x = key) (hkey : keyOf P k key = some kl)
    (hK : ∀ (c : Bool) (s : ByteArray), D.atKey kl zeroD = itemD c s → s.size ≤ maxLen → wpList P ops Q rest (a.put o.dst (.tuple #[.agg #[.bool c, .string s], .bool (Maps.has D kl)])) w) :
    wpList P ops Q (o :: rest) a w :=
  wpList_lookup_own_ok w hg m x t hop k e K ht itemR hz zeroD [] (itemR_mk (by decide)) b n D hm hown key kl hx hkey (fun v ps hv => by
    obtain ⟨c, s, rfl, h2, h3⟩ := itemR_inv hv
    exact hK c s (congrArg Prod.fst h2) h3)

def itDir : DataW Unit → Bool
  | .agg [.lit (.bool b), _] => b
  | _ => false
def itData : DataW Unit → List UInt8
  | .agg [_, .lit (.string s)] => s
  | _ => []
theorem itDir_mk (b : Bool) (s : ByteArray) : itDir (itemD b s) = b := rfl
theorem itData_mk (b : Bool) (s : ByteArray) : itData (itemD b s) = s.data.toList := rfl

/-- What is at a path: 0 nothing, 1 a file, 2 a directory. -/
def kindD (D : DataW Unit) (s : ByteArray) : Int :=
  if (s.toList == [47]) = true then 2 else if Maps.has D (keyD s) = true then (if itDir (D.atKey (keyD s) zeroD) = true then 2 else 1) else 0

/-- Memory but for some blocks. -/
structure Upd (F : Nat → Prop) (w w' : World) : Prop where
  os : w'.os = w.os
  tape : w'.tape = w.tape
  output : w'.output = w.output
  size : w.heap.size ≤ w'.heap.size
  block : ∀ k, k < w.heap.size → ¬ F k → w'.heap[k]? = w.heap[k]?

theorem Upd.refl (F : Nat → Prop) (w : World) : Upd F w w := ⟨rfl, rfl, rfl, Nat.le_refl _, fun _ _ _ => rfl⟩
theorem Upd.trans {F G : Nat → Prop} {a b c : World} (h : Upd F a b) (k : Upd G b c) (hG : ∀ i, i < a.heap.size → G i → F i) : Upd F a c :=
  ⟨k.os.trans h.os, k.tape.trans h.tape, k.output.trans h.output, Nat.le_trans h.size k.size, fun i hi hn => (k.block i (Nat.lt_of_lt_of_le hi h.size) (fun g => hn (hG i hi g))).trans (h.block i hi hn)⟩
theorem Upd.of_below {F : Nat → Prop} {w w' : World} (h : Below w.heap.size w w') : Upd F w w' := ⟨h.os, h.tape, h.output, h.size, fun i hi _ => h.block i hi⟩
theorem Upd.below {F : Nat → Prop} {B : Nat} {w w' : World} (h : Upd F w w') (hB : B ≤ w.heap.size) (hF : ∀ i, F i → B ≤ i) : Below B w w' :=
  ⟨h.os, h.tape, h.output, h.size, fun i hi => h.block i (by omega) (fun f => by have := hF i f; omega)⟩
theorem Upd.of_grown {w w' : World} {row : Option Nat} (h : w.grownBy w' row) : Upd (fun k => row = some k) w w' := ⟨h.os, h.tape, h.output, h.size, fun i hi hn => h.block i hi (fun e => hn e.symm)⟩
theorem Upd.mono {F G : Nat → Prop} {w w' : World} (h : Upd F w w') (hG : ∀ i, i < w.heap.size → F i → G i) : Upd G w w' := ⟨h.os, h.tape, h.output, h.size, fun i hi hn => h.block i hi (fun f => hn (hG i hi f))⟩
theorem Upd.setCell (w : World) (p : Addr) (u : Value) : Upd (fun k => k = p.block) w (w.setCell p u) :=
  ⟨rfl, rfl, rfl, by simp [World.setCell], fun i _ hn => Below.heap_setCell _ _ _ _ hn⟩
theorem Upd.drew {F : Nat → Prop} {a w : World} (h : Upd F a w) : Upd F a w.drew := ⟨h.os, h.tape, h.output, h.size, h.block⟩

/-- The values of a disk: its files, its raw writes, the writes that are left. -/
structure Ab where
  D : DataW Unit
  rs : List (Int × ByteArray × ByteArray)
  left : Int

def rawCells (rs : List (Int × ByteArray × ByteArray)) : List Value := rs.flatMap fun r => [.int .i64 r.1, .string r.2.1, .string r.2.2]

/-- A text that may stand in the map. -/
def okPath (s : ByteArray) : Bool := pathB s && !(s.toList == [47])

/-- A pointer leads to a disk. -/
structure IsDisk (B : Nat) (w : World) (d mb n : Nat) (rv : Value) (x : Ab) : Prop where
  c0 : w.cell? ⟨d, 0, none⟩ = some (.map (some mb))
  c1 : w.cell? ⟨d, 1, none⟩ = some rv
  c2 : w.cell? ⟨d, 2, none⟩ = some (.int .i64 x.left)
  f1 : w.frozen? ⟨d, 1, none⟩ = false
  f2 : w.frozen? ⟨d, 2, none⟩ = false
  own : w.ownsMap Tryz.prog 9 itemR mb n x.D
  row : w.ownsRow B 56 3 rv x.rs.length (rawCells x.rs)
  rd : rv.ownBlock ≠ some d
  rm : rv.ownBlock ≠ some mb
  dm : d ≠ mb
  bd : B ≤ d
  bm : B ≤ mb
  ld : d < w.heap.size
  keys : ∀ kl, Maps.has x.D kl = true → ∃ s, kl = keyD s ∧ okPath s = true

def Foot (d mb : Nat) (rv : Value) (k : Nat) : Prop := k = d ∨ k = mb ∨ rv.ownBlock = some k

theorem ownsRow_upd {F : Nat → Prop} {w w' : World} {B : Nat} {e : TypeId} {size : Nat} {v : Value} {n : Nat} {xs : List Value} (h : w.ownsRow B e size v n xs) (hu : Upd F w w') (hF : ∀ k, v.ownBlock = some k → ¬ F k) : w'.ownsRow B e size v n xs := by
  obtain ⟨h1, h2⟩ := h
  refine ⟨h1, ?_⟩
  rcases h2 with h2 | ⟨g, cap, cur, hv, hg, hh, r⟩
  · exact Or.inl h2
  · refine Or.inr ⟨g, cap, cur, hv, hg, ?_, r⟩
    have hl : g < w.heap.size := (Array.getElem?_eq_some_iff.1 hh).1
    rw [hu.block g hl (hF g (by rw [hv]; rfl))]; exact hh

theorem ownsMap_upd {F : Nat → Prop} {w w' : World} {mb n : Nat} {D : DataW Unit} (h : w.ownsMap Tryz.prog 9 itemR mb n D) (hu : Upd F w w') (hF : ¬ F mb) : w'.ownsMap Tryz.prog 9 itemR mb n D := by
  have hl := h.lt
  obtain ⟨es, clock, hb, r⟩ := h
  exact ⟨es, clock, by rw [hu.block mb hl hF]; exact hb, r⟩

theorem row_lt {w : World} {B : Nat} {e : TypeId} {size : Nat} {v : Value} {n : Nat} {xs : List Value} (h : w.ownsRow B e size v n xs) {k : Nat} (hk : v.ownBlock = some k) : k < w.heap.size ∧ B ≤ k := by
  rcases h.2 with ⟨rfl, _⟩ | ⟨g, cap, cur, rfl, hg, hh, _⟩
  · cases hk
  · cases hk; exact ⟨(Array.getElem?_eq_some_iff.1 hh).1, hg⟩

theorem IsDisk.upd {F : Nat → Prop} {B : Nat} {w w' : World} {d mb n : Nat} {rv : Value} {x : Ab} (h : IsDisk B w d mb n rv x) (hu : Upd F w w') (hF : ∀ k, Foot d mb rv k → ¬ F k) : IsDisk B w' d mb n rv x := by
  have hb := hu.block d h.ld (hF d (Or.inl rfl))
  exact { c0 := by rw [World.cell?_of_block (w := w) hb]; exact h.c0, c1 := by rw [World.cell?_of_block (w := w) hb]; exact h.c1, c2 := by rw [World.cell?_of_block (w := w) hb]; exact h.c2,
          f1 := by rw [World.frozen?_of_block (w := w) hb]; exact h.f1, f2 := by rw [World.frozen?_of_block (w := w) hb]; exact h.f2,
          own := ownsMap_upd h.own hu (hF mb (Or.inr (Or.inl rfl))), row := ownsRow_upd h.row hu (fun k hk => hF k (Or.inr (Or.inr hk))),
          rd := h.rd, rm := h.rm, dm := h.dm, bd := h.bd, bm := h.bm, ld := Nat.lt_of_lt_of_le h.ld hu.size, keys := h.keys }

theorem IsDisk.below {B : Nat} {w w' : World} {d mb n : Nat} {rv : Value} {x : Ab} (h : IsDisk B w d mb n rv x) (hu : Below w.heap.size w w') : IsDisk B w' d mb n rv x :=
  h.upd (Upd.of_below (F := fun _ => False) hu) (fun _ _ f => f)

theorem IsDisk.foot_lt {B : Nat} {w : World} {d mb n : Nat} {rv : Value} {x : Ab} (h : IsDisk B w d mb n rv x) {k : Nat} (hk : Foot d mb rv k) : k < w.heap.size ∧ B ≤ k := by
  rcases hk with rfl | rfl | hk
  · exact ⟨h.ld, h.bd⟩
  · exact ⟨h.own.lt, h.bm⟩
  · exact row_lt h.row hk

theorem ret_int {a b : Int} (h : a = b) : Ending.returned (.int .i64 a) = .returned (.int .i64 b) := by rw [h]

set_option maxHeartbeats 400000 in
theorem Down_any {B : Nat} {w : World} {d mb n : Nat} {rv : Value} {x : Ab} (h : IsDisk B w d mb n rv x) :
    Calls Tryz.prog 13 #[.pointer (some ⟨d, 0, none⟩)] w fun e w' => e = .returned (.bool (x.left == 0)) ∧ w' = w := by
  have c2 := h.c2
  clear h
  go_enter Tryz.func13, Tryz.ntmps13
  go_wp2
  go_ret
  exact ⟨rfl, rfl⟩

set_option maxHeartbeats 400000 in
theorem Up_any {B : Nat} {w : World} {d mb n : Nat} {rv : Value} {x : Ab} (h : IsDisk B w d mb n rv x) :
    Calls Tryz.prog 32 #[.pointer (some ⟨d, 0, none⟩)] w fun e w' => e = .returned (.tuple #[]) ∧ w' = w.setCell ⟨d, 2, none⟩ (.int .i64 (-1)) := by
  have c2 := h.c2
  have f2 := h.f2
  clear h
  go_enter Tryz.func32, Tryz.ntmps32
  go_wp2
  go_end0
  exact ⟨rfl, rfl⟩

theorem k3_no {a c : Bool} (h : (!a) = true) : (0 : Int) = if a = true then (if c = true then 2 else 1) else 0 := by cases a <;> simp_all
theorem k3_dir {a c : Bool} (h : (!a) = false) (hc : c = true) : (2 : Int) = if a = true then (if c = true then 2 else 1) else 0 := by cases a <;> simp_all
theorem k3_file {a c : Bool} (h : (!a) = false) (hc : c = false) : (1 : Int) = if a = true then (if c = true then 2 else 1) else 0 := by cases a <;> simp_all

set_option maxHeartbeats 400000 in
theorem Kind_any {B : Nat} {w : World} {d mb n : Nat} {rv : Value} {x : Ab} (h : IsDisk B w d mb n rv x) (s : ByteArray) (hs : s.size ≤ maxLen) :
    Calls Tryz.prog 20 #[.pointer (some ⟨d, 0, none⟩), .string s] w fun e w' => e = .returned (.int .i64 (kindD x.D s)) ∧ Below w.heap.size w w' := by
  have c0 := h.c0
  have hown := h.own
  have HKY : Hid (keyOf Tryz.prog 9 (.string s) = some (keyD s)) := keyOf_str hs
  have HO : Hid (w.ownsMap Tryz.prog 9 itemR mb n x.D) := hown
  clear h hs hown
  by_cases h1 : (s.toList == [47]) = true
  · have HP : Hid (kindD x.D s = 2) := by unfold Hid kindD; rw [if_pos h1]
    go_enter Tryz.func20, Tryz.ntmps20
    go_wp2
    go_ret
    exact ⟨ret_int HP.out.symm, Below.refl _ _⟩
  rw [Bool.not_eq_true] at h1
  have HK : Hid (kindD x.D s = if Maps.has x.D (keyD s) = true then (if itDir (x.D.atKey (keyD s) zeroD) = true then 2 else 1) else 0) := by unfold Hid kindD; rw [if_neg (by rw [h1]; decide)]
  go_enter Tryz.func20, Tryz.ntmps20
  go_wp2_with (at_lookup; refine lookup_ok _ rfl _ _ 57 rfl 9 66 keyed Tryz.underlying57 (zeroItem _) mb n x.D rfl HO.out _ _ rfl HKY.out ?_; intro c t hat hts; have HA : Hid (x.D.atKey (keyD s) zeroD = itemD c t) := hat; clear hat hts)
  all_goals
    go_ret
    refine ⟨ret_int ?_, (Below.refl _ _).alloc (Nat.le_refl _) _⟩
    rw [HK.out, HA.out, itDir_mk]
    first
      | exact k3_no ‹_›
      | exact k3_dir ‹_› ‹_›
      | exact k3_file ‹_› ‹_›

end Go.Proofs.YtpkllhgohkgcmaaGreatDoor
