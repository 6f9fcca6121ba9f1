/- The document's Meet, Join, Cut; a list written over. -/
import Derived.Test.YtkmgfemhfibikaaGreatDoorFd4
import Derived.Test.YtkmgfemhfibikaaGreatDoorSh1
namespace Go.Proofs.YtkmgfemhfibikaaGreatDoor
open Go.RowKit
set_option maxRecDepth 100000

/-- A call that answers a list of its own, and an error's number. -/
def NewOw (f : Nat) (args : Array Value) (w : World) (er : Int) (X : Rg) : Prop := Calls Tryz.prog f args w fun e w' => ∃ v, e = .returned (.tuple #[v, .int .i64 er]) ∧ OwnS w' w.heap.size v (X.map spR) ∧ Below w.heap.size w w'

theorem two_no (kind : UInt8) {La Lb : List Sp} {va vb : Value} {w : World} (ha : SpansAt w va La) (hb : SpansAt w vb Lb) (h : (mayL La && mayL Lb) = false) : NewOw 18 #[.int .u8 (kind.toNat : Int), va, vb] w 21 [] := by
  have HA : Hid (∀ w1, Below w.heap.size w w1 → Calls Tryz.prog 33 #[va] w1 fun e w' => e = .returned (.bool (mayL La)) ∧ Below w1.heap.size w1 w') := fun w1 hbl => rMayL_any (ha.below hbl)
  have HB : Hid (∀ w1, Below w.heap.size w w1 → Calls Tryz.prog 33 #[vb] w1 fun e w' => e = .returned (.bool (mayL Lb)) ∧ Below w1.heap.size w1 w') := fun w1 hbl => rMayL_any (hb.below hbl)
  have HB0 : Hid (Below w.heap.size w w) := Below.refl _ _
  have t1 : True := trivial
  clear ha hb
  unfold NewOw
  cases h1 : mayL La
  · rw [h1] at HA
    go_enter Tryz.func18, Tryz.ntmps18
    go_wp2_with (go_at_call 33; refine (HA.out _ HB0.out).mono ?_; rintro e w1 ⟨rfl, ok⟩)
    go_ret2
    exact ⟨_, rfl, OwnS.nil _ _, ok⟩
  · have h2 : mayL Lb = false := by rw [h1] at h; simpa using h
    rw [h1] at HA
    rw [h2] at HB
    go_enter Tryz.func18, Tryz.ntmps18
    go_wp2_with (first
      | (have _t := t1; go_at_call 33; refine (HA.out _ HB0.out).mono ?_; rintro e w1 ⟨rfl, ok⟩; clear t1; have HB1 := hide3 ok; clear ok)
      | (go_at_call 33; refine (HB.out _ HB1.out).mono ?_; rintro e w2 ⟨rfl, ok⟩; have HB2 := hide3 (below_then HB1.out ok); clear ok))
    go_ret2
    exact ⟨_, rfl, OwnS.nil _ _, HB2.out⟩

theorem rk_sp {A : Rg} (hA : RangeR A) : (A.map spR).map rkS = A := by
  rw [List.map_map]
  conv => rhs; rw [← List.map_id A]
  refine List.map_congr_left fun p hp => ?_
  obtain ⟨h1, h2, _⟩ := hA.ok p hp
  show (rankV (atA p.1) (atB p.1) (atC p.1), rankV (atA p.2) (atB p.2) (atC p.2)) = p
  have e1 := (may_at (n := p.1) (by unfold hasV; obtain ⟨a, b⟩ := h1; simp; omega)).2
  have e2 := (may_at (n := p.2) (by unfold hasV; obtain ⟨a, b⟩ := h2; simp; omega)).2
  rw [e1, e2]

theorem two_rg (kind : UInt8) {A B : Rg} (hA : RangeR A) (hB : RangeR B) (la : A.length ≤ 64) (lb : B.length ≤ 64) {va vb : Value} {w : World} (ha : SpansR w va A) (hb : SpansR w vb B) : NewOw 18 #[.int .u8 (kind.toNat : Int), va, vb] w (fullE (foldK kind A B).length) (fitR (foldK kind A B)) := by
  have HA : Hid (∀ w1, Below w.heap.size w w1 → Calls Tryz.prog 33 #[va] w1 fun e w' => e = .returned (.bool true) ∧ Below w1.heap.size w1 w') := fun w1 hbl => by have := rMayL_any (ha.below hbl).at; rw [may_rg hA la] at this; exact this
  have HB : Hid (∀ w1, Below w.heap.size w w1 → Calls Tryz.prog 33 #[vb] w1 fun e w' => e = .returned (.bool true) ∧ Below w1.heap.size w1 w') := fun w1 hbl => by have := rMayL_any (hb.below hbl).at; rw [may_rg hB lb] at this; exact this
  have HF : Hid (∀ w1, Below w.heap.size w w1 → NewOw 31 #[.int .u8 (kind.toNat : Int), va, vb] w1 (fullE (foldK kind A B).length) (fitR (foldK kind A B))) := fun w1 hbl => by
    have := Folded_walk kind _ _ va vb w1 (by simp; omega) (ha.below hbl).at (hb.below hbl).at
    rw [rk_sp hA, rk_sp hB] at this
    exact this
  have HB0 : Hid (Below w.heap.size w w) := Below.refl _ _
  have t1 : True := trivial
  clear ha hb
  generalize fullE (foldK kind A B).length = er at *
  generalize fitR (foldK kind A B) = X at *
  unfold NewOw at *
  go_enter Tryz.func18, Tryz.ntmps18
  go_wp2_with (first
    | (have _t := t1; go_at_call 33; refine (HA.out _ HB0.out).mono ?_; rintro e w1 ⟨rfl, ok⟩; clear t1; have HB1 := hide3 ok; clear ok)
    | (go_at_call 33; refine (HB.out _ HB1.out).mono ?_; rintro e w2 ⟨rfl, ok⟩; have HB2 := hide3 (below_then HB1.out ok); clear ok)
    | (go_at_call 31; refine (HF.out _ HB2.out).mono ?_; rintro e w3 ⟨v3, rfl, ok⟩; have HB3 : Hid (OwnS w3 w.heap.size v3 (X.map spR) ∧ Below w.heap.size w w3) := ⟨ok.1.base HB2.out.size, below_then HB2.out ok.2⟩; clear ok))
  go_ret2
  exact ⟨_, rfl, HB3.out.1, HB3.out.2⟩

/-- A function that hands on to two. -/
theorem rMeet_of {va vb : Value} {w : World} {er : Int} {X : Rg} (h : NewOw 18 #[.int .u8 109, va, vb] w er X) : NewOw 6 #[va, vb] w er X := by
  have HT := hide3 h
  unfold NewOw at *
  go_enter Tryz.func6, Tryz.ntmps6
  go_wp2_with (go_at_call 18; refine HT.out.mono ?_; rintro e w1 ⟨v1, rfl, ok⟩)
  go_ret2
  exact ⟨_, rfl, ok⟩

theorem rJoin_of {va vb : Value} {w : World} {er : Int} {X : Rg} (h : NewOw 18 #[.int .u8 106, va, vb] w er X) : NewOw 9 #[va, vb] w er X := by
  have HT := hide3 h
  unfold NewOw at *
  go_enter Tryz.func9, Tryz.ntmps9
  go_wp2_with (go_at_call 18; refine HT.out.mono ?_; rintro e w1 ⟨v1, rfl, ok⟩)
  go_ret2
  exact ⟨_, rfl, ok⟩

theorem rCut_of {va vb : Value} {w : World} {er : Int} {X : Rg} (h : NewOw 18 #[.int .u8 99, va, vb] w er X) : NewOw 11 #[va, vb] w er X := by
  have HT := hide3 h
  unfold NewOw at *
  go_enter Tryz.func11, Tryz.ntmps11
  go_wp2_with (go_at_call 18; refine HT.out.mono ?_; rintro e w1 ⟨v1, rfl, ok⟩)
  go_ret2
  exact ⟨_, rfl, ok⟩

/-- A row of spans of one's own, whatever it holds. -/
def RowW (w : World) (B : Nat) (v : Value) (n : Nat) : Prop := ∃ xs, w.ownsRow B 37 6 v n xs
theorem RowW.set {w : World} {B : Nat} {v : Value} {n : Nat} (h : RowW w B v n) (a : Addr) (u : Value) : RowW (w.setCell a u) B v n := by
  obtain ⟨xs, hl, h⟩ := h
  rcases h with ⟨rfl, rfl⟩ | ⟨g, cap, cur, rfl, hB, hg, hn, hm, hc, hx⟩
  · exact ⟨xs, hl, Or.inl ⟨rfl, rfl⟩⟩
  · by_cases hga : g = a.block
    · obtain ⟨cur', h1, h2⟩ : ∃ cur' : Array Value, (w.setCell a u).heap[g]? = some (.cells cur' 37 (0, 0)) ∧ cur'.size = cur.size := by
        subst hga
        simp only [World.setCell, Array.getElem?_modify, if_pos, hg, Option.map_some]
        cases hs : a.spot <;> simp
      refine ⟨cur'.toList.take (n * 6), ?_, Or.inr ⟨g, cap, cur', rfl, hB, h1, hn, hm, h2.trans hc, rfl⟩⟩
      rw [List.length_take, Array.length_toList, h2, hc]
      omega
    · exact ⟨xs, hl, Or.inr ⟨g, cap, cur, rfl, hB, (Below.heap_setCell _ _ _ _ hga).trans hg, hn, hm, hc, hx⟩⟩
theorem RowW.below {w w' : World} {B : Nat} {v : Value} {n : Nat} (h : RowW w B v n) (hb : Below w.heap.size w w') : RowW w' B v n := by
  obtain ⟨xs, h⟩ := h
  refine ⟨xs, h.1, h.2.imp id ?_⟩
  rintro ⟨g, cap, cur, rfl, hB, hg, hr⟩
  exact ⟨g, cap, cur, rfl, hB, (hb.block g (Array.getElem?_eq_some_iff.1 hg).1).trans hg, hr⟩
/-- All that are rows stay rows. -/
def RowsStay (w w' : World) : Prop := ∀ B v n, RowW w B v n → RowW w' B v n

theorem RowW.at {w : World} {B n cap g : Nat} (h : RowW w B (.slice (some ⟨g, 0, none⟩) n cap) n) {i : Nat} (hi : i < n * 6) : (∃ x, w.cell? ⟨g, i, none⟩ = some x) ∧ w.frozen? ⟨g, i, none⟩ = false ∧ B ≤ g := by
  obtain ⟨xs, _, h⟩ := h
  rcases h with ⟨h, _⟩ | ⟨g', cap', cur, e, hB, hg, hn, hm, hc, hx⟩
  · cases h
  · cases e
    have hlt : i < cur.size := by rw [hc]; exact Nat.lt_of_lt_of_le hi (Nat.mul_le_mul_right 6 hn)
    exact ⟨⟨cur[i], by rw [Lib.cell_of_heap hg]; exact Array.getElem?_eq_getElem hlt⟩, Lib.frozen_of_heap hg i, hB⟩
theorem six_stay {w0 w : World} (h : RowsStay w0 w) (a0 a1 a2 a3 a4 a5 : Addr) (u0 u1 u2 u3 u4 u5 : Value) : RowsStay w0 ((((((w.setCell a0 u0).setCell a1 u1).setCell a2 u2).setCell a3 u3).setCell a4 u4).setCell a5 u5) :=
  fun B v n hr => ((((((h B v n hr).set a0 u0).set a1 u1).set a2 u2).set a3 u3).set a4 u4).set a5 u5
theorem six_below {w0 w : World} {C g : Nat} (h : Below C w0 w) (hg : C ≤ g) (i0 i1 i2 i3 i4 i5 : Nat) (u0 u1 u2 u3 u4 u5 : Value) : Below C w0 ((((((w.setCell ⟨g, i0, none⟩ u0).setCell ⟨g, i1, none⟩ u1).setCell ⟨g, i2, none⟩ u2).setCell ⟨g, i3, none⟩ u3).setCell ⟨g, i4, none⟩ u4).setCell ⟨g, i5, none⟩ u5) :=
  (((((h.setCell (p := ⟨g, i0, none⟩) hg u0).setCell (p := ⟨g, i1, none⟩) hg u1).setCell (p := ⟨g, i2, none⟩) hg u2).setCell (p := ⟨g, i3, none⟩) hg u3).setCell (p := ⟨g, i4, none⟩) hg u4).setCell (p := ⟨g, i5, none⟩) hg u5

set_option maxHeartbeats 1600000 in
theorem over_walk {w : World} {B n cap g : Nat} (h : RowW w B (.slice (some ⟨g, 0, none⟩) n cap) n) (hn : n ≤ 1000000) (hpos : 0 < n) :
    Calls Tryz.prog 12 #[.slice (some ⟨g, 0, none⟩) n cap] w fun e w' => e = .returned (.tuple #[]) ∧ Below B w w' ∧ RowsStay w w' := by
  have hB : B ≤ g := (h.at (i := 0) (by omega)).2.2
  have HR := hide3 h
  clear h
  go_enter Tryz.func12, Tryz.ntmps12
  go_wp2_with fail
  go_loopw [2] (fun i wr => ∃ k : Nat, k ≤ n ∧ i = .int .i64 k ∧ Below B w wr ∧ RowsStay w wr) (fun i _ => n - (intOf i).toNat)
  case atStart => exact ⟨0, Nat.zero_le _, rfl, Below.refl _ _, fun _ _ _ h => h⟩
  case round =>
    obtain ⟨k, hk, rfl, hb, hst⟩ := hrel
    have HB := hide3 hb
    have HST := hide3 hst
    by_cases hlt : k < n
    · have hr := hst _ _ _ HR.out
      obtain ⟨⟨x0, c0⟩, f0, _⟩ := hr.at (i := k * 6) (by omega)
      obtain ⟨⟨x1, c1⟩, f1, _⟩ := hr.at (i := k * 6 + 1) (by omega)
      obtain ⟨⟨x2, c2⟩, f2, _⟩ := hr.at (i := k * 6 + 2) (by omega)
      obtain ⟨⟨x3, c3⟩, f3, _⟩ := hr.at (i := k * 6 + 3) (by omega)
      obtain ⟨⟨x4, c4⟩, f4, _⟩ := hr.at (i := k * 6 + 4) (by omega)
      obtain ⟨⟨x5, c5⟩, f5, _⟩ := hr.at (i := k * 6 + 5) (by omega)
      clear hr hb hst
      go_wp2
      exact ⟨⟨k + 1, by omega, by go_num, six_below HB.out hB _ _ _ _ _ _ _ _ _ _ _ _, six_stay HST.out _ _ _ _ _ _ _ _ _ _ _ _⟩, by simp [intOf]; omega⟩
    · clear hb hst
      go_wp2
      go_returns
      exact ⟨rfl, HB.out, HST.out⟩

theorem over_nil (ad : Option Addr) (cap : Nat) (w : World) (B : Nat) :
    Calls Tryz.prog 12 #[.slice ad 0 cap] w fun e w' => e = .returned (.tuple #[]) ∧ Below B w w' ∧ RowsStay w w' := by
  go_enter Tryz.func12, Tryz.ntmps12
  go_wp2_with fail
  go_loop [2] (fun i => i = .int .i64 0) (fun _ => 0)
  case atStart => rfl
  case round =>
    subst hrel
    go_wp2
    go_returns
    exact ⟨rfl, Below.refl _ _, fun _ _ _ h => h⟩

theorem over_any {w : World} {B : Nat} {v : Value} {n : Nat} (h : RowW w B v n) (hn : n ≤ 1000000) :
    Calls Tryz.prog 12 #[v] w fun e w' => e = .returned (.tuple #[]) ∧ Below B w w' ∧ RowsStay w w' := by
  have h' := h
  obtain ⟨xs, _, h1⟩ := h'
  rcases h1 with ⟨rfl, rfl⟩ | ⟨g, cap, cur, rfl, _⟩
  · exact over_nil _ _ w B
  · rcases Nat.eq_zero_or_pos n with rfl | hp
    · exact over_nil _ _ w B
    · exact over_walk h hn hp
end Go.Proofs.YtkmgfemhfibikaaGreatDoor
