/- Jl1, Jl2, Jl3, laid in one text. -/
import Derived.Deep.RegionHeld3
import Derived.OwnWalk
import Derived.Test.YtpaoimhebheaeaaGreatDoorMg24
namespace Go.Proofs.YtpaoimhebheaeaaGreatDoor
open Go.RowKit Go.Maps Go.WideMaps Go.WideElems Dk
set_option maxRecDepth 100000

theorem left_fine {x : Ab} (h : Fine x) {l : Int} (h1 : -1 ≤ l) (h2 : l ≤ 9223372036854775807) : Fine { x with left := l } := ⟨h.pl, h.so, h1, h2⟩
theorem cut_bd {l z : Int} (lo : -1 ≤ l) (hi : l ≤ 9223372036854775807) (hz : z ≤ 9223372036854775807) : -1 ≤ cutL l z ∧ cutL l z ≤ 9223372036854775807 := by
  unfold cutL
  split
  · exact ⟨lo, hi⟩
  · split
    · exact ⟨lo, hi⟩
    · omega
theorem pCut {B : Nat} {w : World} {d mb n : Nat} {rv : Value} {x : Ab} {m : Int} {k : Nat} (h : PrgK B w d mb n rv x m k) (z : Int) (hz : z ≤ 9223372036854775807) : Calls Tryz.prog 10 #[.pointer (some ⟨d, 0, none⟩), .int .i64 z] w fun e' w' => e' = .returned (.int .i64 (cutE x.left z)) ∧ PrgT B w d mb rv { x with left := cutL x.left z } m (k + 1) w' :=
  (dCut_any h.disk z).mono fun _ _ q => ⟨q.1, After.kept h q.2 (left_fine h.fine (cut_bd h.fine.lo h.fine.hi hz).1 (cut_bd h.fine.lo h.fine.hi hz).2) (fun _ => h.de) (Nat.le_succ_of_le h.lr)⟩
theorem pUp {B : Nat} {w : World} {d mb n : Nat} {rv : Value} {x : Ab} {m : Int} {k : Nat} (h : PrgK B w d mb n rv x m k) : Calls Tryz.prog 15 #[.pointer (some ⟨d, 0, none⟩)] w fun e' w' => e' = .returned (.tuple #[]) ∧ PrgT B w d mb rv { x with left := -1 } m (k + 1) w' :=
  (Up_any h.disk).mono fun _ _ q => ⟨q.1, by rw [q.2]; exact After.kept h (After.left h.disk (-1)) (left_fine h.fine (by decide) (by decide)) (fun _ => h.de) (Nat.le_succ_of_le h.lr)⟩
theorem pClear {B : Nat} {w : World} {d mb n : Nat} {rv : Value} {x : Ab} {m : Int} {k : Nat} (h : PrgK B w d mb n rv x m k) : Calls Tryz.prog 25 #[.pointer (some ⟨d, 0, none⟩)] w fun e' w' => e' = .returned (.tuple #[]) ∧ PrgT B w d mb rv { x with rs := [] } m k w' := by
  refine (Clear_walk h.disk).mono ?_
  rintro e w' ⟨rfl, rfl⟩
  have hu := Upd.setCell w ⟨d, 1, none⟩ (.slice none 0 0)
  have hb : Below B w (w.setCell ⟨d, 1, none⟩ (.slice none 0 0)) := hu.below h.base fun i hi => by
    have := h.disk.bd
    have : i = d := hi
    omega
  exact ⟨rfl, n, .slice none 0 0, ⟨h.disk.clear, ⟨h.fine.pl, h.fine.so, h.fine.lo, h.fine.hi⟩, h.de, h.lf, Nat.zero_le _, (hb.cell (p := ⟨0, 0, none⟩) h.zero).trans h.max, Nat.le_trans h.base hu.size, h.zero⟩, hu.mono fun _ _ q => Or.inl q, fun j q => Or.inl (by
    rcases q with q | q | q
    · exact Or.inl q
    · exact Or.inr (Or.inl q)
    · cases q)⟩
theorem rCutK {B : Nat} {w : World} {e : Nat} {lv rv : Value} {x : Ab} {k : Nat} (h : RefK B w e lv rv x k) (z : Int) (hz : z ≤ 9223372036854775807) : Calls Tryz.prog 11 #[.pointer (some ⟨e, 0, none⟩), .int .i64 z] w fun e' w' => e' = .returned (.int .i64 (cutE x.left z)) ∧ RefT B w e lv rv { x with left := cutL x.left z } (k + 1) w' := by
  refine (rCut_any h.ref z).mono ?_
  rintro e' w' ⟨rfl, h1, h2⟩
  exact ⟨rfl, lv, rv, ⟨h1, left_fine h.fine (cut_bd h.fine.lo h.fine.hi hz).1 (cut_bd h.fine.lo h.fine.hi hz).2, Nat.le_succ_of_le h.lf, Nat.le_succ_of_le h.lr, Nat.le_trans h.base h2.size⟩, h2.mono fun _ _ f => Or.inl f, fun _ q => Or.inl q⟩
theorem rUpK {B : Nat} {w : World} {e : Nat} {lv rv : Value} {x : Ab} {k : Nat} (h : RefK B w e lv rv x k) : Calls Tryz.prog 16 #[.pointer (some ⟨e, 0, none⟩)] w fun e' w' => e' = .returned (.tuple #[]) ∧ RefT B w e lv rv { x with left := -1 } (k + 1) w' := by
  refine (rUp_any h.ref).mono ?_
  rintro e' w' ⟨rfl, h1, h2⟩
  exact ⟨rfl, lv, rv, ⟨h1, left_fine h.fine (by decide) (by decide), Nat.le_succ_of_le h.lf, Nat.le_succ_of_le h.lr, Nat.le_trans h.base h2.size⟩, h2.mono fun _ _ f => Or.inl f, fun _ q => Or.inl q⟩
theorem RefK.below {B : Nat} {w w' : World} {e : Nat} {lv rv : Value} {x : Ab} {k : Nat} (h : RefK B w e lv rv x k) (hb : Below w.heap.size w w') : RefK B w' e lv rv x k := ⟨h.ref.below hb, h.fine, h.lf, h.lr, Nat.le_trans h.base hb.size⟩
theorem RefK.more {B : Nat} {w : World} {e : Nat} {lv rv : Value} {x : Ab} {k k' : Nat} (h : RefK B w e lv rv x k) (hk : k ≤ k') : RefK B w e lv rv x k' := ⟨h.ref, h.fine, Nat.le_trans h.lf hk, Nat.le_trans h.lr hk, h.base⟩
/-- Both disks, at the same files, raw writes and power. -/
def Bth (B : Nat) (w : World) (d e : Nat) (x : Ab) (m : Int) (k : Nat) : Prop := ∃ mb n rv lv rw, PrgK B w d mb n rv x m k ∧ RefK B w e lv rw x k ∧ ∀ j, Foot d mb rv j → ¬ FootR e lv rw j
theorem Bth.below {B : Nat} {w w' : World} {d e : Nat} {x : Ab} {m : Int} {k : Nat} (h : Bth B w d e x m k) (hb : Below w.heap.size w w') : Bth B w' d e x m k := by
  obtain ⟨mb, n, rv, lv, rw', h1, h2, h3⟩ := h
  exact ⟨mb, n, rv, lv, rw', h1.below hb, h2.below hb, h3⟩
theorem Bth.more {B : Nat} {w : World} {d e : Nat} {x : Ab} {m : Int} {k k' : Nat} (h : Bth B w d e x m k) (hk : k ≤ k') : Bth B w d e x m k' := by
  obtain ⟨mb, n, rv, lv, rw', h1, h2, h3⟩ := h
  exact ⟨mb, n, rv, lv, rw', h1.more hk, h2.more hk, h3⟩
theorem Bth.fine {B : Nat} {w : World} {d e : Nat} {x : Ab} {m : Int} {k : Nat} (h : Bth B w d e x m k) : Fine x := by
  obtain ⟨mb, n, rv, lv, rw', h1, h2, h3⟩ := h
  exact h1.fine
theorem Bth.max {B : Nat} {w : World} {d e : Nat} {x : Ab} {m : Int} {k : Nat} (h : Bth B w d e x m k) : w.cell? ⟨0, 0, none⟩ = some (.int .i64 m) := by
  obtain ⟨mb, n, rv, lv, rw', h1, h2, h3⟩ := h
  exact h1.max
theorem Bth.base {B : Nat} {w : World} {d e : Nat} {x : Ab} {m : Int} {k : Nat} (h : Bth B w d e x m k) : B ≤ w.heap.size := by
  obtain ⟨mb, n, rv, lv, rw', h1, h2, h3⟩ := h
  exact h1.base
/-- The same call on both. -/
theorem Bth.call {B : Nat} {w : World} {d e : Nat} {x y : Ab} {m : Int} {k k2 : Nat} (h : Bth B w d e x m k) {fd fr : Nat} {ad ar : Array Value} {Ed Er : Ending}
    (hd : ∀ mb n rv, PrgK B w d mb n rv x m k → Calls Tryz.prog fd ad w fun e' w' => e' = Ed ∧ PrgT B w d mb rv y m k2 w')
    (hr : ∀ W lv rw', Below B w W → RefK B W e lv rw' x k → Calls Tryz.prog fr ar W fun e' w' => e' = Er ∧ RefT B W e lv rw' y k2 w') :
    Calls Tryz.prog fd ad w fun e1 w1 => e1 = Ed ∧ Calls Tryz.prog fr ar w1 fun e2 w2 => e2 = Er ∧ Bth B w2 d e y m k2 ∧ Below B w w2 := by
  obtain ⟨mb, n, rv, lv, rw', h1, h2, h3⟩ := h
  refine (hd mb n rv h1).mono ?_
  rintro e1 w1 ⟨he1, n1, rv1, p1, u1, j1⟩
  have hb1 : Below B w w1 := u1.below h1.base fun i hi => (h1.disk.foot_lt hi).2
  have r1 : RefK B w1 e lv rw' x k := ⟨h2.ref.upd u1 fun j q f => h3 j f q, h2.fine, h2.lf, h2.lr, Nat.le_trans h2.base u1.size⟩
  refine ⟨he1, (hr w1 lv rw' hb1 r1).mono ?_⟩
  rintro e2 w2 ⟨he2, lv2, rw2, p2, u2, j2⟩
  have hb2 : Below B w1 w2 := u2.below r1.base fun i hi => (r1.ref.foot_lt hi).2
  have hnf : ∀ j, Foot d mb rv1 j → ¬ FootR e lv rw' j := fun j f g => by
    rcases j1 j f with q | q
    · exact h3 j q g
    · have := (h2.ref.foot_lt g).1
      omega
  refine ⟨he2, ⟨mb, n1, rv1, lv2, rw2, ⟨p1.disk.upd u2 hnf, p1.fine, p1.de, p1.lf, p1.lr, (hb2.cell (p := ⟨0, 0, none⟩) h1.zero).trans p1.max, Nat.le_trans p1.base u2.size, p1.zero⟩, p2, fun j f g => ?_⟩, hb1.trans hb2⟩
  rcases j2 j g with q | q
  · exact hnf j f q
  · have := (p1.disk.foot_lt f).1
    omega
theorem refLow {B B' : Nat} {w : World} {e : Nat} {lv rv : Value} {fs : List Fl} {rs : List (Int × ByteArray × ByteArray)} {left : Int} (h : IsRef B' w e lv rv fs rs left) (hB : B ≤ B') : IsRef B w e lv rv fs rs left := by
  have low : ∀ {t : TypeId} {sz : Nat} {v : Value} {n : Nat} {xs : List Value}, w.ownsRow B' t sz v n xs → w.ownsRow B t sz v n xs := fun hr => by
    refine ⟨hr.1, hr.2.imp id ?_⟩
    rintro ⟨g, cap, cur, hv, hg, r⟩
    exact ⟨g, cap, cur, hv, Nat.le_trans hB hg, r⟩
  exact { h with lrow := low h.lrow, rrow := low h.rrow, be := Nat.le_trans hB h.be }
theorem loads_fine {fs : List Fl} (h : Loads fs) : Fine ⟨loadD fs, [], -1⟩ ∧ DirE (loadD fs) ∧ (filesD (loadD fs)).length = fs.length := by
  have hP := loads_plainJ h
  have hd := loads_apart h.1
  exact ⟨⟨hP, load_sound h, by simp, by simp⟩, load_dirE (fun f hf => by obtain ⟨i, hi, rfl⟩ := List.getElem_of_mem hf; exact (h.1 i hi).1) hd hP.good, len_load fs hP hd⟩
theorem bth_start {w w1 w2 : World} {fs : List Fl} {m : Int} (hm : w.cell? ⟨0, 0, none⟩ = some (.int .i64 m)) (hL : Loads fs) (hb1 : Below w.heap.size w w1) (hb2 : Below w1.heap.size w1 w2)
    (hd : ∃ n, n ≤ fs.length ∧ IsDisk w.heap.size w1 (w.heap.size + 1) w.heap.size n (.slice none 0 0) ⟨loadD fs, [], -1⟩) (hr : ∃ lv rv, IsRef w1.heap.size w2 w1.heap.size lv rv (filesD (loadD fs)) [] (-1)) :
    Bth w.heap.size w2 (w.heap.size + 1) w1.heap.size ⟨loadD fs, [], -1⟩ m fs.length := by
  obtain ⟨n, hn, hd⟩ := hd
  obtain ⟨lv, rv, hr⟩ := hr
  obtain ⟨f1, f2, f3⟩ := loads_fine hL
  have hb := hb1.trans (hb2.mono hb1.size)
  refine ⟨_, n, _, lv, rv, ⟨hd.below hb2, f1, f2, hn, Nat.zero_le _, (hb.cell (p := ⟨0, 0, none⟩) (cell_lt hm)).trans hm, hb.size, cell_lt hm⟩, ⟨refLow hr hb1.size, f1, by rw [f3]; exact Nat.le_refl _, Nat.zero_le _, hb.size⟩, fun j q r => ?_⟩
  have h1 := (hd.foot_lt q).1
  have h2 := (hr.foot_lt r).2
  omega
/-- What disks answers. -/
def DksQ (w : World) (fs : List Fl) (m : Int) (e' : Ending) (w' : World) : Prop := Below w.heap.size w w' ∧
  ((Loads fs ∧ ∃ d e, e' = .returned (.tuple #[.pointer (some ⟨d, 0, none⟩), .pointer (some ⟨e, 0, none⟩), .bool true]) ∧ Bth w.heap.size w' d e ⟨loadD fs, [], -1⟩ m fs.length) ∨
   (¬ Loads fs ∧ e' = .returned (.tuple #[.pointer none, .pointer none, .bool false])))

set_option maxHeartbeats 4000000 in
theorem disks_any (fs : List Fl) (a : Option Addr) (cap : Nat) (m : Int) (w : World) (hm : w.cell? ⟨0, 0, none⟩ = some (.int .i64 m)) (hlen : fs.length ≤ 1048576) (hc : IsFiles w a fs) (hz : ∀ f ∈ fs, f.1.size ≤ maxLen ∧ f.2.2.size ≤ maxLen) :
    Calls Tryz.prog 8 #[.slice a fs.length cap] w (DksQ w fs m) := by
  have HD1 : Hid (Calls Tryz.prog 26 #[.slice a fs.length cap] w (LoadQ w fs)) := Load_any fs a cap m w hm (by omega) hc hz
  have HD2 : Hid (∀ W, Below w.heap.size w W → Calls Tryz.prog 20 #[.slice a fs.length cap] W (RLoadQ W fs)) := fun W hb => rLoad_any fs a cap W (by omega) (hc.below hb) hz
  by_cases hL : Loads fs
  · have HTS : Hid (∀ w1 w2, Below w.heap.size w w1 → Below w1.heap.size w1 w2 → (∃ n, n ≤ fs.length ∧ IsDisk w.heap.size w1 (w.heap.size + 1) w.heap.size n (.slice none 0 0) ⟨loadD fs, [], -1⟩) → (∃ lv rv, IsRef w1.heap.size w2 w1.heap.size lv rv (filesD (loadD fs)) [] (-1)) → Bth w.heap.size w2 (w.heap.size + 1) w1.heap.size ⟨loadD fs, [], -1⟩ m fs.length) := fun w1 w2 h1 h2 h3 h4 => bth_start hm hL h1 h2 h3 h4
    have HLL := hide3 hL
    clear hL hc hz hm
    go_enter Tryz.func8, Tryz.ntmps8
    go_wp2_with (first
      | (go_at_call 20; have _t := HB1; refine (HD2.out _ HB1.out).mono ?_; rintro e w2 ⟨hb2, hq2⟩; obtain ⟨_, rfl, hr2⟩ := hq2.resolve_right (fun h => h.1 HLL.out); have HB2 := hide3 (HB1.out.trans (hb2.mono HB1.out.size)); have HT0 := hide3 (HTS.out w1 w2 HB1.out hb2 HDD.out hr2); clear hq2 hr2 hb2)
      | (go_at_call 26; refine HD1.out.mono ?_; rintro e w1 ⟨hb1, hq1⟩; obtain ⟨_, rfl, hd1⟩ := hq1.resolve_right (fun h => h.1 HLL.out); have HB1 := hide3 hb1; have HDD := hide3 hd1; clear hq1 hd1 hb1))
    go_ret3
    exact ⟨HB2.out, Or.inl ⟨HLL.out, _, _, rfl, HT0.out⟩⟩
  · have HLL := hide3 hL
    clear hL hc hz hm
    go_enter Tryz.func8, Tryz.ntmps8
    go_wp2_with (first
      | (go_at_call 20; have _t := HB1; refine (HD2.out _ HB1.out).mono ?_; rintro e w2 ⟨hb2, hq2⟩; obtain ⟨_, rfl⟩ := hq2.resolve_left (fun h => HLL.out h.1); have HB2 := hide3 (HB1.out.trans (hb2.mono HB1.out.size)); clear hq2 hb2)
      | (go_at_call 26; refine HD1.out.mono ?_; rintro e w1 ⟨hb1, hq1⟩; obtain ⟨_, rfl⟩ := hq1.resolve_left (fun h => HLL.out h.1); have HB1 := hide3 hb1; clear hq1 hb1))
    go_ret3
    exact ⟨HB2.out, Or.inr ⟨HLL.out, rfl⟩⟩
end Go.Proofs.YtpaoimhebheaeaaGreatDoor
namespace Go.Proofs.YtpaoimhebheaeaaGreatDoor
open Go.RowKit Go.Maps Go.WideMaps Go.WideElems Dk
set_option maxRecDepth 100000

theorem below_draws18 {B : Nat} {a w : World} (h : Below B a w) (n : Nat) : Below B a (w.drewN n) := ⟨h.os, h.tape, h.output, h.size, h.block⟩
set_option maxHeartbeats 4000000 in
theorem alike_any {B : Nat} {w : World} {d e : Nat} {x : Ab} {m : Int} {k : Nat} (h : Bth B w d e x m k) (hk : k ≤ 2199023255552) :
    Calls Tryz.prog 14 #[.pointer (some ⟨d, 0, none⟩), .pointer (some ⟨e, 0, none⟩)] w fun e' w' => e' = .returned (.bool true) ∧ Below w.heap.size w w' := by
  obtain ⟨mb, n, rv, lv, rw', hp, hr, _⟩ := h
  obtain ⟨lo, lc, rfl⟩ := row_form hr.ref.lrow
  obtain ⟨ro, rc, rfl⟩ := row_form hr.ref.rrow
  have hlf := hr.lf
  have hlr := hr.lr
  have hpf := hp.lf
  have HC0 : Hid (∀ W, Below w.heap.size w W → W.cell? ⟨e, 0, none⟩ = some (.slice lo (filesD x.D).length lc)) := fun W hb => (hr.ref.below hb).c0
  have HC1 : Hid (∀ W, Below w.heap.size w W → W.cell? ⟨e, 1, none⟩ = some (.slice ro x.rs.length rc)) := fun W hb => (hr.ref.below hb).c1
  have HA : Hid (∀ W, Below w.heap.size w W → Calls Tryz.prog 24 #[.pointer (some ⟨d, 0, none⟩)] W fun e w' => ∃ ao cap, e = .returned (.slice ao (filesD x.D).length cap) ∧ w'.ownsRow W.heap.size 83 3 (.slice ao (filesD x.D).length cap) (filesD x.D).length (fileCells (filesD x.D)) ∧ Below W.heap.size W w') := fun W hb => All_any (hp.below hb).disk (by omega)
  have HFS : Hid (∀ W ao cap b, Below w.heap.size w W → W.ownsRow b 83 3 (.slice ao (filesD x.D).length cap) (filesD x.D).length (fileCells (filesD x.D)) → Calls Tryz.prog 23 #[.slice ao (filesD x.D).length cap, .slice lo (filesD x.D).length lc] W fun e w' => e = .returned (.bool true) ∧ ∃ q, w' = W.drewN q) := fun W ao cap b hb hrow => files_any (filesD x.D) (by omega) hrow (hr.ref.below hb).lrow
  have HR : Hid (∀ W, Below w.heap.size w W → Calls Tryz.prog 21 #[.pointer (some ⟨d, 0, none⟩)] W fun e w' => ∃ ao cap, e = .returned (.slice ao x.rs.length cap) ∧ w'.ownsRow W.heap.size 52 3 (.slice ao x.rs.length cap) x.rs.length (rawCells x.rs) ∧ Below W.heap.size W w') := fun W hb => Raws_any (hp.below hb).disk (by omega)
  have HRS : Hid (∀ W ao cap b, Below w.heap.size w W → W.ownsRow b 52 3 (.slice ao x.rs.length cap) x.rs.length (rawCells x.rs) → Calls Tryz.prog 39 #[.slice ao x.rs.length cap, .slice ro x.rs.length rc] W fun e w' => e = .returned (.bool true) ∧ ∃ q, w' = W.drewN q) := fun W ao cap b hb hrow => raws_any x.rs (by omega) hrow (hr.ref.below hb).rrow
  have HDN : Hid (∀ W, Below w.heap.size w W → Calls Tryz.prog 28 #[.pointer (some ⟨d, 0, none⟩)] W fun e w' => e = .returned (.bool (x.left == 0)) ∧ w' = W) := fun W hb => Down_any (hp.below hb).disk
  have HRN : Hid (∀ W, Below w.heap.size w W → Calls Tryz.prog 40 #[.pointer (some ⟨e, 0, none⟩)] W fun e w' => e = .returned (.bool (x.left == 0)) ∧ w' = W) := fun W hb => rDown_any (hr.ref.below hb)
  have hdn : ((x.left == 0) == (x.left == 0)) = true := by simp
  clear hp hr
  generalize (x.left == 0) = dn at *
  have q0 := HC0.out w (Below.refl _ _)
  have HA0 := hide3 (HA.out w.drew (Below.refl _ _).drew)
  go_enter Tryz.func14, Tryz.ntmps14
  go_wp2_with fail
  go_region_held3 (fun w' => w'.cell? ⟨e, 0, none⟩ = some (.slice lo (filesD x.D).length lc)) (go_keep)
    (first
      | (go_at_call 24; refine HA0.out.mono ?_; rintro e2 w2 ⟨ao2, cap2, rfl, hr2, hb2⟩; have HB2 := hide3 ((Below.refl _ w).drew.trans hb2); have q1 := HC0.out _ HB2.out; have HRW := hide3 hr2; clear hb2 hr2)
      | (go_at_call 23; refine (HFS.out _ _ _ _ HB2.out HRW.out).mono ?_; rintro e3 w3 ⟨rfl, q, rfl⟩; have HB3 := hide3 (below_draws18 HB2.out q); have q2 := HC0.out _ HB3.out))
  all_goals
    have q5 := HC1.out _ HB3.out
    have HR0 := hide3 (HR.out _ HB3.out.drew)
    clear HA0 HRW HB2 q0 q1 q2
    generalize w2.drewN q = W4 at *
    go_wp2_with fail
    go_region_held3 (fun w' => w'.cell? ⟨e, 1, none⟩ = some (.slice ro x.rs.length rc)) (go_keep)
      (first
        | (go_at_call 21; refine HR0.out.mono ?_; rintro e4 w5 ⟨ao5, cap5, rfl, hr5, hb5⟩; have HB5 := hide3 (HB3.out.trans ((Below.refl _ W4).drew.trans hb5 |>.mono HB3.out.size)); have q6 := HC1.out _ HB5.out; have HRW := hide3 hr5; clear hb5 hr5)
        | (go_at_call 39; refine (HRS.out _ _ _ _ HB5.out HRW.out).mono ?_; rintro e6 w6 ⟨rfl, z, rfl⟩; have HB6 := hide3 (below_draws18 HB5.out z); have q7 := HC1.out _ HB6.out))
    all_goals
      go_wp2_with (first
        | (go_at_call 28; refine (HDN.out _ HB6.out).mono ?_; rintro e7 w7 ⟨rfl, rfl⟩)
        | (go_at_call 40; refine (HRN.out _ HB6.out).mono ?_; rintro e8 w8 ⟨rfl, rfl⟩))
      go_ret
      exact ⟨rfl, HB6.out⟩
end Go.Proofs.YtpaoimhebheaeaaGreatDoor
namespace Go.Proofs.YtpaoimhebheaeaaGreatDoor
open Go.RowKit Go.Maps Go.WideMaps Go.WideElems Dk
set_option maxRecDepth 100000

def dA : De := ⟨4, ⟨#[47, 97]⟩, ⟨#[120]⟩⟩
def xE : Ab := ⟨loadD [], [], -1⟩
theorem plan_dA : Plan [dA] := fun i hi => by
  obtain rfl : i = 0 := by
    have : i < 1 := hi
    omega
  show okDe [] dA = true
  decide +kernel
theorem can_dA : canR [dA] xE = true := by
  rw [canR_yes plan_dA]
  decide +kernel
theorem com_dA : commitA [dA] xE = writA [dA] xE := by
  unfold commitA
  rw [if_neg (show ¬ (xE.left == 0) = true by decide), if_neg (show ¬ (kindD xE.D jn != 0) = true by decide +kernel), if_neg (by rw [can_dA]; decide), if_neg (show ¬ ([dA].length == 0) = true by decide)]
theorem wr_dA : (writA [dA] xE).1 = 0 ∧ (writA [dA] xE).2.rs.length = 6 ∧ (writA [dA] xE).2.left = -1 ∧ kindD (writA [dA] xE).2.D jn = 0 ∧ kindD (writA [dA] xE).2.D pP = 0 ∧ readE (writA [dA] xE).2.D ⟨#[47, 97]⟩ = 0 ∧ readT (writA [dA] xE).2.D ⟨#[47, 97]⟩ = ⟨#[120]⟩ := by decide +kernel
theorem rec_stay {x : Ab} (h0 : x.left ≠ 0) (hj : kindD x.D jn = 0) : recA x = (0, x) := by
  unfold recA
  rw [if_neg (by rw [beq_iff_eq]; exact h0), hj, if_pos (show ((0 : Int) == 0) = true from rfl)]
theorem des_one {w : World} {F : Nat → Prop} (hF : ∀ j, F j → j < w.heap.size) : ∀ W, Upd F (w.alloc (.cells #[.int .i64 4, .string ⟨#[47, 97]⟩, .string ⟨#[120]⟩] 54)) W → IsDes W (some ⟨w.heap.size, 0, none⟩) [dA] := fun W hu => by
  have hsz : w.heap.size < (w.alloc (.cells #[.int .i64 4, .string ⟨#[47, 97]⟩, .string ⟨#[120]⟩] 54)).heap.size := by
    show w.heap.size < (w.heap.push _).size
    rw [Array.size_push]
    exact Nat.lt_succ_self _
  have hc : ∀ i, W.cell? ⟨w.heap.size, i, none⟩ = (w.alloc (.cells #[.int .i64 4, .string ⟨#[47, 97]⟩, .string ⟨#[120]⟩] 54)).cell? ⟨w.heap.size, i, none⟩ := fun i => World.cell?_of_block (hu.block _ hsz fun f => absurd (hF _ f) (Nat.lt_irrefl _))
  refine Or.inr ⟨w.heap.size, 0, rfl, Nat.lt_of_lt_of_le hsz hu.size, fun i hi => ?_⟩
  obtain rfl : i = 0 := by
    have : i < 1 := hi
    omega
  refine ⟨?_, ?_, ?_⟩
  · rw [hc, World.cell?_alloc_new]; rfl
  · rw [hc, World.cell?_alloc_new]; rfl
  · rw [hc, World.cell?_alloc_new]; rfl

set_option maxHeartbeats 8000000 in
theorem lives18_any (m : Int) (w : World) (hm : w.cell? ⟨0, 0, none⟩ = some (.int .i64 m)) : Calls Tryz.prog 9 #[] w fun e' w' => e' = .returned (.bool true) ∧ Below w.heap.size w w' := by
  have HDK : Hid (Calls Tryz.prog 8 #[.slice none 0 0] w (DksQ w [] m)) := disks_any [] none 0 m w hm (by decide) (Or.inl rfl) (fun _ q => by cases q)
  have hL : Loads [] := ⟨fun i hi => absurd hi (Nat.not_lt_zero _), fun i hi => absurd hi (Nat.not_lt_zero _)⟩
  obtain ⟨a1, a2, a3, a4, a5, a6, a7⟩ := wr_dA
  have HCM : Hid (∀ W d e, Bth w.heap.size W d e xE m 0 → Calls Tryz.prog 12 #[.pointer (some ⟨d, 0, none⟩), .slice (some ⟨W.heap.size, 0, none⟩) 1 1] (W.alloc (.cells #[.int .i64 4, .string ⟨#[47, 97]⟩, .string ⟨#[120]⟩] 54)) fun e' w' => e' = .returned (.int .i64 0) ∧ (∃ mb n rv, PrgK w.heap.size w' d mb n rv (writA [dA] xE).2 m 7) ∧ Below w.heap.size W w') := fun W d e hB => by
    obtain ⟨mb, n, rv, lv, rw', hp, _, _⟩ := hB
    have hb : Below W.heap.size W (W.alloc (.cells #[.int .i64 4, .string ⟨#[47, 97]⟩, .string ⟨#[120]⟩] 54)) := (Below.refl _ _).alloc (Nat.le_refl _) _
    refine (commit_P (hp.below hb) [dA] (some ⟨W.heap.size, 0, none⟩) 1 (des_one fun j q => (hp.disk.foot_lt q).1) (fun d hd => by rw [List.mem_singleton.1 hd]; decide) (by decide +kernel) (by decide) (by decide)).mono ?_
    rintro e1 w1 ⟨rfl, ht⟩
    rw [com_dA] at ht ⊢
    have hbel := (hb.mono hp.base).trans (PrgT.bel (hp.below hb) ht)
    obtain ⟨n1, rv1, h1, _⟩ := ht
    exact ⟨by rw [a1], ⟨mb, n1, rv1, h1.more (by decide)⟩, hbel⟩
  have HRD : Hid (∀ W d mb n rv, PrgK w.heap.size W d mb n rv (writA [dA] xE).2 m 7 → Calls Tryz.prog 27 #[.pointer (some ⟨d, 0, none⟩), .string ⟨#[47, 97]⟩] W fun e' w' => e' = .returned (.tuple #[.string ⟨#[120]⟩, .int .i64 0]) ∧ (∃ mb n rv, PrgK w.heap.size w' d mb n rv (writA [dA] xE).2 m 7) ∧ Below W.heap.size W w') := fun W d mb n rv h => by
    refine (Read_any h.disk ⟨#[47, 97]⟩ m h.max (by decide)).mono ?_
    rintro e1 w1 ⟨rfl, hb⟩
    rw [a6, a7]
    exact ⟨rfl, ⟨mb, n, rv, h.below hb⟩, hb⟩
  have HRW : Hid (∀ W d mb n rv, PrgK w.heap.size W d mb n rv (writA [dA] xE).2 m 7 → Calls Tryz.prog 21 #[.pointer (some ⟨d, 0, none⟩)] W fun e' w' => ∃ ao cap, e' = .returned (.slice ao 6 cap) ∧ (∃ mb n rv, PrgK w.heap.size w' d mb n rv (writA [dA] xE).2 m 7) ∧ Below W.heap.size W w') := fun W d mb n rv h => by
    refine (Raws_any h.disk (by rw [a2]; decide)).mono ?_
    rintro e1 w1 ⟨ao, cap, rfl, _, hb⟩
    rw [a2]
    exact ⟨ao, cap, rfl, ⟨mb, n, rv, h.below hb⟩, hb⟩
  have HRC : Hid (∀ W d mb n rv, PrgK w.heap.size W d mb n rv (writA [dA] xE).2 m 7 → Calls Tryz.prog 17 #[.pointer (some ⟨d, 0, none⟩)] W fun e' w' => e' = .returned (.int .i64 0) ∧ Below w.heap.size W w') := fun W d mb n rv h => by
    have e0 : readT (writA [dA] xE).2.D pP = ByteArray.empty := read_gone a5
    have hz : (readT (writA [dA] xE).2.D pP).size = 0 := by rw [e0]; rfl
    have hl := (parO_sizes (readT (writA [dA] xE).2.D pP)).1
    refine (rec_P h (by omega) (by omega)).mono ?_
    rintro e1 w1 ⟨rfl, ht⟩
    rw [rec_stay (by rw [a3]; decide) a4] at ht ⊢
    exact ⟨rfl, PrgT.bel h ht⟩
  clear a1 a2 a3 a4 a5 a6 a7
  generalize (writA [dA] xE).2 = Y at *
  have HLL := hide3 hL
  clear hL hm
  go_enter Tryz.func9, Tryz.ntmps9
  go_wp2_with (first
    | (go_at_call 12; have _t := HB5; refine (commit_nil _).mono ?_; rintro e6 w6 ⟨rfl, rfl⟩)
    | (go_at_call 17; have _t := HB5; refine (rec_nil _).mono ?_; rintro e7 w7 ⟨rfl, rfl⟩)
    | (go_at_call 17; have _t := HB4; refine (HRC.out _ _ _ _ _ HP4.out).mono ?_; rintro e5 w5 ⟨rfl, hb5⟩; have HB5 := hide3 (HB4.out.trans hb5); clear hb5)
    | (go_at_call 21; have _t := HB3; refine (HRW.out _ _ _ _ _ HP3.out).mono ?_; rintro e4 w4 ⟨ao4, cp4, rfl, ⟨mb4, n4, rv4, hp4⟩, hb4⟩; have HP4 := hide3 hp4; have HB4 := hide3 (HB3.out.trans (hb4.mono HB3.out.size)); clear hb4 hp4)
    | (go_at_call 27; have _t := HB2; refine (HRD.out _ _ _ _ _ HP2.out).mono ?_; rintro e3 w3 ⟨rfl, ⟨mb3, n3, rv3, hp3⟩, hb3⟩; have HP3 := hide3 hp3; have HB3 := hide3 (HB2.out.trans (hb3.mono HB2.out.size)); clear hb3 hp3)
    | (go_at_call 12; have _t := HB1; refine (HCM.out _ _ _ HT1.out).mono ?_; rintro e2 w2 ⟨rfl, ⟨mb2, n2, rv2, hp2⟩, hb2⟩; have HP2 := hide3 hp2; have HB2 := hide3 (HB1.out.trans hb2); clear hb2 hp2)
    | (go_at_call 8; refine HDK.out.mono ?_; rintro e1 w1 ⟨hb1, hq1⟩; obtain ⟨_, d1, r1, rfl, ht1⟩ := hq1.resolve_right (fun h => h.1 HLL.out); have HB1 := hide3 hb1; have HT1 := hide3 ht1; clear hb1 ht1 hq1))
  go_ret
  exact ⟨rfl, HB5.out⟩
end Go.Proofs.YtpaoimhebheaeaaGreatDoor
