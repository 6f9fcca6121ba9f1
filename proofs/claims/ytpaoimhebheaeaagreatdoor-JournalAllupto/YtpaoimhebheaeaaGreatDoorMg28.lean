/- Jl5, laid in one text. -/
import Derived.Test.YtpaoimhebheaeaaGreatDoorMg27
namespace Go.Proofs.YtpaoimhebheaeaaGreatDoor
open Go.RowKit Go.Maps Go.WideMaps Go.WideElems Dk
set_option maxRecDepth 100000

/-- The program's disk. -/
def Pk (B : Nat) (w : World) (d : Nat) (x : Ab) (m : Int) (k : Nat) : Prop := ∃ mb n rv, PrgK B w d mb n rv x m k
theorem Bth.pk {B : Nat} {w : World} {d e : Nat} {x : Ab} {m : Int} {k : Nat} (h : Bth B w d e x m k) : Pk B w d x m k := by
  obtain ⟨mb, n, rv, _, _, h1, _⟩ := h
  exact ⟨mb, n, rv, h1⟩
theorem Pk.below {B : Nat} {w w' : World} {d : Nat} {x : Ab} {m : Int} {k : Nat} (h : Pk B w d x m k) (hb : Below w.heap.size w w') : Pk B w' d x m k := by
  obtain ⟨mb, n, rv, h1⟩ := h
  exact ⟨mb, n, rv, h1.below hb⟩
theorem Pk.more {B : Nat} {w : World} {d : Nat} {x : Ab} {m : Int} {k k' : Nat} (h : Pk B w d x m k) (hk : k ≤ k') : Pk B w d x m k' := by
  obtain ⟨mb, n, rv, h1⟩ := h
  exact ⟨mb, n, rv, h1.more hk⟩
theorem Pk.call {B : Nat} {w : World} {d : Nat} {x y : Ab} {m : Int} {k k2 : Nat} (h : Pk B w d x m k) {f : Nat} {args : Array Value} {E : Ending} (hc : ∀ mb n rv, PrgK B w d mb n rv x m k → Calls Tryz.prog f args w fun e' w' => e' = E ∧ PrgT B w d mb rv y m k2 w') :
    Calls Tryz.prog f args w fun e' w' => e' = E ∧ Pk B w' d y m k2 ∧ Below B w w' := by
  obtain ⟨mb, n, rv, h1⟩ := h
  refine (hc mb n rv h1).mono ?_
  rintro e' w' ⟨he, ht⟩
  have hb := PrgT.bel h1 ht
  obtain ⟨n', rv', h2, _⟩ := ht
  exact ⟨he, ⟨mb, n', rv', h2⟩, hb⟩
theorem des_old {B : Nat} {w0 w : World} {d mb n : Nat} {rv : Value} {x : Ab} {m : Int} {k : Nat} {a : Option Addr} {l : List De} (hd : IsDes w0 a l) (hb : Below w0.heap.size w0 w) (hB : B = w0.heap.size) (h : PrgK B w d mb n rv x m k) : ∀ W, Upd (Foot d mb rv) w W → IsDes W a l := fun W hu => by
  have h1 : Below B w W := hu.below h.base fun i hi => (h.disk.foot_lt hi).2
  rw [hB] at h1
  exact hd.below (hb.trans h1)
theorem Pk.cut {B : Nat} {w : World} {d : Nat} {x : Ab} {m : Int} {k : Nat} (h : Pk B w d x m k) (z : Int) (hz : z ≤ 9223372036854775807) : Calls Tryz.prog 10 #[.pointer (some ⟨d, 0, none⟩), .int .i64 z] w fun e' w' => e' = .returned (.int .i64 (cutE x.left z)) ∧ Pk B w' d { x with left := cutL x.left z } m (k + 1) ∧ Below B w w' := h.call fun _ _ _ hp => pCut hp z hz
theorem Pk.up {B : Nat} {w : World} {d : Nat} {x : Ab} {m : Int} {k : Nat} (h : Pk B w d x m k) : Calls Tryz.prog 15 #[.pointer (some ⟨d, 0, none⟩)] w fun e' w' => e' = .returned (.tuple #[]) ∧ Pk B w' d { x with left := -1 } m (k + 1) ∧ Below B w w' := h.call fun _ _ _ hp => pUp hp
theorem Pk.clear {B : Nat} {w : World} {d : Nat} {x : Ab} {m : Int} {k : Nat} (h : Pk B w d x m k) : Calls Tryz.prog 25 #[.pointer (some ⟨d, 0, none⟩)] w fun e' w' => e' = .returned (.tuple #[]) ∧ Pk B w' d { x with rs := [] } m k ∧ Below B w w' := h.call fun _ _ _ hp => pClear hp
theorem Pk.recov {B : Nat} {w : World} {d : Nat} {x : Ab} {m : Int} {k : Nat} (h : Pk B w d x m k) (ht : (readT x.D pP).size ≤ 4194304) (hk : k + (parO (readT x.D pP)).2.length + 4 < 2199023255552) : Calls Tryz.prog 17 #[.pointer (some ⟨d, 0, none⟩)] w fun e' w' => e' = .returned (.int .i64 (recA x).1) ∧ Pk B w' d (recA x).2 m (k + (parO (readT x.D pP)).2.length + 3) ∧ Below B w w' := h.call fun _ _ _ hp => rec_P hp ht hk
theorem Pk.commit {w0 w : World} {d : Nat} {x : Ab} {m : Int} {k : Nat} (h : Pk w0.heap.size w d x m k) (l : List De) (a : Option Addr) (cap : Nat) (hd : IsDes w0 a l) (hb : Below w0.heap.size w0 w) (hz : ∀ d ∈ l, d.pa.size ≤ maxLen ∧ d.da.size ≤ 100000000) (hsz : (textD l).size ≤ 4194304) (hl : l.length ≤ 8388608) (hk : k + l.length + 8 < 2199023255552) : Calls Tryz.prog 12 #[.pointer (some ⟨d, 0, none⟩), .slice a l.length cap] w fun e' w' => e' = .returned (.int .i64 (commitA l x).1) ∧ Pk w0.heap.size w' d (commitA l x).2 m (k + l.length + 6) ∧ Below w0.heap.size w w' := h.call fun _ _ _ hp => commit_P hp l a cap (des_old hd hb rfl hp) hz hsz hl hk
theorem Pk.kind {B : Nat} {w : World} {d : Nat} {x : Ab} {m : Int} {k : Nat} (h : Pk B w d x m k) (s : ByteArray) (hs : s.size ≤ maxLen) : Calls Tryz.prog 22 #[.pointer (some ⟨d, 0, none⟩), .string s] w fun e' w' => e' = .returned (.int .i64 (kindD x.D s)) ∧ Below w.heap.size w w' := by
  obtain ⟨mb, n, rv, h1⟩ := h
  exact pKind h1 s hs
theorem Pk.raws {B : Nat} {w : World} {d : Nat} {x : Ab} {m : Int} {k : Nat} (h : Pk B w d x m k) (hk : k ≤ 2199023255552) : Calls Tryz.prog 21 #[.pointer (some ⟨d, 0, none⟩)] w fun e' w' => ∃ ao cap, e' = .returned (.slice ao x.rs.length cap) ∧ w'.ownsRow w.heap.size 52 3 (.slice ao x.rs.length cap) x.rs.length (rawCells x.rs) ∧ Below w.heap.size w w' := by
  obtain ⟨mb, n, rv, h1⟩ := h
  exact Raws_any h1.disk (Nat.le_trans h1.lr hk)
theorem Pk.all {B : Nat} {w : World} {d : Nat} {x : Ab} {m : Int} {k : Nat} (h : Pk B w d x m k) (hk : k ≤ 2199023255552) : Calls Tryz.prog 24 #[.pointer (some ⟨d, 0, none⟩)] w fun e' w' => ∃ ao cap, e' = .returned (.slice ao (filesD x.D).length cap) ∧ w'.ownsRow w.heap.size 83 3 (.slice ao (filesD x.D).length cap) (filesD x.D).length (fileCells (filesD x.D)) ∧ Below w.heap.size w w' := by
  obtain ⟨mb, n, rv, h1⟩ := h
  exact All_any h1.disk (Nat.le_trans h1.lf hk)
/-- The program's disk, and a list of files that is none of its memory. -/
def PkR (B : Nat) (w : World) (d : Nat) (x : Ab) (m : Int) (k : Nat) (v : Value) (fs : List Fl) : Prop := ∃ mb n rv, PrgK B w d mb n rv x m k ∧ (∃ b, w.ownsRow b 83 3 v fs.length (fileCells fs)) ∧ ∀ j, v.ownBlock = some j → ¬ Foot d mb rv j
theorem PkR.pk {B : Nat} {w : World} {d : Nat} {x : Ab} {m : Int} {k : Nat} {v : Value} {fs : List Fl} (h : PkR B w d x m k v fs) : Pk B w d x m k := by
  obtain ⟨mb, n, rv, h1, _⟩ := h
  exact ⟨mb, n, rv, h1⟩
theorem PkR.row {B : Nat} {w : World} {d : Nat} {x : Ab} {m : Int} {k : Nat} {v : Value} {fs : List Fl} (h : PkR B w d x m k v fs) : ∃ b, w.ownsRow b 83 3 v fs.length (fileCells fs) := by
  obtain ⟨mb, n, rv, _, h1, _⟩ := h
  exact h1
theorem rowJ_below {w w' : World} {B : Nat} {e : TypeId} {sz : Nat} {v : Value} {n : Nat} {xs : List Value} (h : w.ownsRow B e sz v n xs) (hb : Below w.heap.size w w') : w'.ownsRow B e sz v n xs := ownsRow_upd h (Upd.of_below (F := fun _ => False) hb) fun _ _ q => q
theorem PkR.below {B : Nat} {w w' : World} {d : Nat} {x : Ab} {m : Int} {k : Nat} {v : Value} {fs : List Fl} (h : PkR B w d x m k v fs) (hb : Below w.heap.size w w') : PkR B w' d x m k v fs := by
  obtain ⟨mb, n, rv, h1, ⟨b, h2⟩, h3⟩ := h
  exact ⟨mb, n, rv, h1.below hb, ⟨b, rowJ_below h2 hb⟩, h3⟩
theorem PkR.start {B : Nat} {w w' : World} {d : Nat} {x : Ab} {m : Int} {k : Nat} {v : Value} {fs : List Fl} (h : Pk B w d x m k) (hr : w'.ownsRow w.heap.size 83 3 v fs.length (fileCells fs)) (hb : Below w.heap.size w w') : PkR B w' d x m k v fs := by
  obtain ⟨mb, n, rv, h1⟩ := h
  refine ⟨mb, n, rv, h1.below hb, ⟨_, hr⟩, fun j hj hf => ?_⟩
  have a1 := (row_lt hr hj).2
  have a2 := (h1.disk.foot_lt hf).1
  omega
theorem PkR.call {B : Nat} {w : World} {d : Nat} {x y : Ab} {m : Int} {k k2 : Nat} {v : Value} {fs : List Fl} (h : PkR B w d x m k v fs) {f : Nat} {args : Array Value} {E : Ending} (hc : ∀ mb n rv, PrgK B w d mb n rv x m k → Calls Tryz.prog f args w fun e' w' => e' = E ∧ PrgT B w d mb rv y m k2 w') :
    Calls Tryz.prog f args w fun e' w' => e' = E ∧ PkR B w' d y m k2 v fs ∧ Below B w w' := by
  obtain ⟨mb, n, rv, h1, ⟨b, h2⟩, h3⟩ := h
  refine (hc mb n rv h1).mono ?_
  rintro e' w' ⟨he, ht⟩
  have hb := PrgT.bel h1 ht
  obtain ⟨n', rv', p2, hu, hj⟩ := ht
  refine ⟨he, ⟨mb, n', rv', p2, ⟨b, ownsRow_upd h2 hu h3⟩, fun j q f => ?_⟩, hb⟩
  rcases hj j f with s | s
  · exact h3 j q s
  · have := (row_lt h2 q).1
    omega
theorem plan_nil : Plan [] := fun _ hi => absurd hi (Nat.not_lt_zero _)
theorem commit_none {x : Ab} (h0 : x.left ≠ 0) (hj : kindD x.D jn = 0) : commitA [] x = (0, x) := by
  unfold commitA
  rw [if_neg (by rw [beq_iff_eq]; exact h0), hj, if_neg (show ¬ ((0 : Int) != 0) = true by decide), canR_yes plan_nil]
  rfl
end Go.Proofs.YtpaoimhebheaeaaGreatDoor
