/- MaA, MaB, laid in one text. -/
import Derived.Test.YtjfbgiajjkjghaaGreatDoorMg24
namespace Go.Proofs.YtjfbgiajjkjghaaGreatDoor
open Go.RowKit
set_option maxRecDepth 100000

theorem parM_written {t : ByteArray} (h : parME t = 0) : writtenMB (parMP t) = true := by
  unfold parME at h
  unfold parMP
  split at h
  · split at h
    · split at h
      · assumption
      · cases h
    · rename_i h1 h2; exact absurd h h2
  · rename_i h1; exact absurd h h1
/-- A row that is there, whatever lies in it. -/
def RowM (w : World) (B : Nat) (e : TypeId) (z : Nat) (v : Value) (n : Nat) : Prop := ∃ xs, w.ownsRow B e z v n xs
theorem own_headM {w : World} {B : Nat} {e : TypeId} {z : Nat} {v : Value} {n : Nat} {xs : List Value} (h : w.ownsRow B e z v n xs) {N : Nat} (hN : v.ownBlock = some N) : ∃ cap, v = .slice (some ⟨N, 0, none⟩) n cap := by
  rcases h.2 with ⟨rfl, _⟩ | ⟨g, cap, cur, rfl, _⟩
  · cases hN
  · cases hN
    exact ⟨cap, rfl⟩
theorem RowM.set {w : World} {B : Nat} {e : TypeId} {z : Nat} {v : Value} {n : Nat} (h : RowM w B e z v n) (N j : Nat) (u : Value) : RowM (w.setCell ⟨N, j, none⟩ u) B e z v n := by
  obtain ⟨xs, hx⟩ := h
  by_cases hN : v.ownBlock = some N
  · obtain ⟨cap, rfl⟩ := own_headM hx hN
    exact ⟨_, (hx.stored j u).1⟩
  · exact ⟨xs, own_of hx fun g hg => Below.heap_setCell _ _ _ _ fun (e2 : g = N) => hN (by rw [← e2]; exact hg)⟩
/-- What the loops of ManifestAgain keep: all that stood ahead of the second manifest (w5), its variable, its list's row, its ranges' rows. -/
def InvM (w5 : World) (Nq : Nat) (u1 u2 u3 u4 : Value) (ps : List (Dp × Value)) (w : World) : Prop :=
  Below w5.heap.size w5 w ∧ BxM w Nq u1 u2 u3 u4 ∧ w.ownsRow w5.heap.size 36 2 u4 ps.length (dpCells ps) ∧ ∀ p ∈ ps, RowM w w5.heap.size 40 6 p.2 p.1.rg.length
theorem InvM.cell {w5 : World} {Nq : Nat} {u1 u2 u3 u4 : Value} {ps : List (Dp × Value)} {w : World} (h : InvM w5 Nq u1 u2 u3 u4 ps w) {i : Nat} (hi : i < ps.length) :
    ∃ g cap, u4 = .slice (some ⟨g, 0, none⟩) ps.length cap ∧ w.cell? ⟨g, i * 2, none⟩ = some (.string ps[i].1.nm) ∧ w.cell? ⟨g, i * 2 + 1, none⟩ = some ps[i].2 := by
  obtain ⟨_, _, hx, _⟩ := h
  obtain ⟨h1, h2⟩ := dpCells_at ps i hi
  have hlt := hx.1
  rcases hx.2 with ⟨_, hn⟩ | ⟨g, cap, cur, rfl, hB, _⟩
  · omega
  · refine ⟨g, cap, rfl, ?_, ?_⟩
    · rw [hx.cellAt (i * 2) (by omega)]; exact h1
    · rw [hx.cellAt (i * 2 + 1) (by omega)]; exact h2
theorem InvM.span {w5 : World} {Nq : Nat} {u1 u2 u3 u4 : Value} {ps : List (Dp × Value)} {w : World} (h : InvM w5 Nq u1 u2 u3 u4 ps w) {p : Dp × Value} (hp : p ∈ ps) {k : Nat} (hk : k < p.1.rg.length) :
    ∃ g cap, p.2 = .slice (some ⟨g, 0, none⟩) p.1.rg.length cap ∧ ∀ j, j < 6 → (∃ x, w.cell? ⟨g, k * 6 + j, none⟩ = some x) ∧ w.frozen? ⟨g, k * 6 + j, none⟩ = false := by
  obtain ⟨xs, hx⟩ := h.2.2.2 p hp
  have hl := hx.1
  rcases hx.2 with ⟨_, hn⟩ | ⟨g, cap, cur, e, hB, _⟩
  · omega
  · rw [e] at hx
    refine ⟨g, cap, e, fun j hj => ⟨?_, hx.frozenAt _⟩⟩
    rw [hx.cellAt (k * 6 + j) (by omega), List.getElem?_eq_getElem (by omega)]
    exact ⟨_, rfl⟩
theorem bxm_set {w : World} {N M j : Nat} {v1 v2 v3 v4 u : Value} (h : BxM w N v1 v2 v3 v4) (hN : M ≠ N) : BxM (w.setCell ⟨M, j, none⟩ u) N v1 v2 v3 v4 := by
  obtain ⟨h0, h1, h2, h3, h4⟩ := h
  have q : ∀ i, (w.setCell ⟨M, j, none⟩ u).cell? ⟨N, i, none⟩ = w.cell? ⟨N, i, none⟩ := fun i => World.cell?_of_block (a := ⟨N, i, none⟩) (Below.heap_setCell _ _ _ _ (fun e => hN e.symm))
  exact ⟨by rw [q]; exact h0, by rw [q]; exact h1, by rw [q]; exact h2, by rw [q]; exact h3, by simpa using h4⟩
theorem InvM.setS {w5 : World} {Nq : Nat} {u1 u2 u3 u4 : Value} {ps : List (Dp × Value)} {w : World} (h : InvM w5 Nq u1 u2 u3 u4 ps w) {p : Dp × Value} (hp : p ∈ ps) {N : Nat} (hN : p.2.ownBlock = some N) (hq : N < Nq) (j : Nat) (u : Value) :
    InvM w5 Nq u1 u2 u3 u4 ps (w.setCell ⟨N, j, none⟩ u) := by
  obtain ⟨h1, h4, hx, h6⟩ := h
  obtain ⟨ys, hy⟩ := h6 p hp
  have hB := (hy.lt N hN).1
  refine ⟨h1.setCell (p := ⟨N, j, none⟩) hB _, bxm_set h4 (by omega), own_of hx fun g hg => Below.heap_setCell _ _ _ _ fun e => ?_, fun p' hp' => (h6 p' hp').set _ _ _⟩
  subst e
  exact own_ne hx hy (by decide) hg hN
end Go.Proofs.YtjfbgiajjkjghaaGreatDoor
namespace Go.Proofs.YtjfbgiajjkjghaaGreatDoor
open Go.RowKit
set_option maxRecDepth 100000

theorem manifestAgain_no (t : ByteArray) {w : World} (he : Env w) (hf : FL w) (h : parME t ≠ 0) : Calls Tryz.prog 6 #[.string t] w fun e w' => e = .returned (.bool true) ∧ Below w.heap.size w w' := by
  have HPA : Hid (Calls Tryz.prog 15 #[.string t] w fun e w' => e = .returned (.tuple #[.agg #[.slice none 0 0, .slice none 0 0, .slice none 0 0, .slice none 0 0], .int .i64 (parME t)]) ∧ Below w.heap.size w w') := (Parse_mf t he hf).mono fun e w' hq => by
    obtain ⟨v1, v2, v3, v4, h1, h2, _, h4⟩ := hq
    obtain ⟨rfl, rfl, rfl, rfl⟩ := h4 h
    exact ⟨h1, h2⟩
  have HKN : Hid (∀ w1, Below w.heap.size w w1 → Calls Tryz.prog 12 #[] w1 fun e w' => e = .returned (.bool true) ∧ Below w1.heap.size w1 w') := fun w1 hb => known_mf (he.below hb) (hf.below hb)
  have hre : (parME t == 0) = false := by simpa using h
  clear he hf h
  generalize parME t = er at *
  go_enter Tryz.func6, Tryz.ntmps6
  go_wp2_with (first
    | (go_at_call 15; refine HPA.out.mono ?_; rintro e w1 ⟨rfl, ok⟩; have HB1 : Hid (Below w.heap.size w (w1.alloc (.cells #[.slice none 0 0, .slice none 0 0, .slice none 0 0, .slice none 0 0] 24)) ∧ BxM (w1.alloc (.cells #[.slice none 0 0, .slice none 0 0, .slice none 0 0, .slice none 0 0] 24)) w1.heap.size (.slice none 0 0) (.slice none 0 0) (.slice none 0 0) (.slice none 0 0)) := ⟨below_then ok (boxB _ _), BxM.new rfl _ _ _ _⟩; clear ok)
    | (go_at_call 12; refine (HKN.out _ HB1.out.1).mono ?_; rintro e w2 ⟨rfl, ok⟩; have HB2 := hide3 (below_then HB1.out.1 ok); have HX2 := hide3 (keepBxM _ _ _ _ _ _ _ HB1.out.2 ok); obtain ⟨y0, y1, y2, y3, y4⟩ := HX2.out; clear ok))
  go_ret
  exact ⟨rfl, HB2.out⟩

set_option maxHeartbeats 12800000 in
theorem manifestAgain_yes (t : ByteArray) {w : World} (he : Env w) (hf : FL w) (h : parME t = 0) : Calls Tryz.prog 6 #[.string t] w fun e w' => e = .returned (.bool true) ∧ Below w.heap.size w w' := by
  have hwb := parM_written h
  have HPG : Hid (∀ x, parME x = 0 → parMP x = parMP t → ∀ w1, Below w.heap.size w w1 → Calls Tryz.prog 15 #[.string x] w1 fun e w' => ∃ p1 pc1 p2 pc2 p3 pc3 p4 pc4, e = .returned (.tuple #[.agg #[.slice p1 (parMP t).d.length pc1, .slice p2 (parMP t).v.length pc2, .slice p3 (parMP t).o.length pc3, .slice p4 (parMP t).p.length pc4], .int .i64 0]) ∧ Below w1.heap.size w1 w' ∧ OwnM w' w1.heap.size (parMP t) (.slice p1 (parMP t).d.length pc1) (.slice p2 (parMP t).v.length pc2) (.slice p3 (parMP t).o.length pc3) (.slice p4 (parMP t).p.length pc4)) := fun x hx0 hxp w1 hb => (Parse_mf x (he.below hb) (hf.below hb)).mono fun e w' hq => by
    rw [hx0, hxp] at hq
    obtain ⟨a1, k1, c1, a2, k2, c2, a3, k3, c3, a4, k4, c4, h1, h2, h3, _⟩ := hq.sl
    obtain ⟨ho, e1, e2, e3, e4⟩ := h3 rfl
    subst e1 e2 e3 e4
    exact ⟨a1, c1, a2, c2, a3, c3, a4, c4, h1, h2, ho⟩
  have HP1 := hide3 (HPG.out t h rfl)
  have HP2 := hide3 (HPG.out (writtenMT (parMP t)) (mn_back hwb).1 (mn_back hwb).2)
  have HKN : Hid (∀ w1, Below w.heap.size w w1 → Calls Tryz.prog 12 #[] w1 fun e w' => e = .returned (.bool true) ∧ Below w1.heap.size w1 w') := fun w1 hb => known_mf (he.below hb) (hf.below hb)
  have HMA : Hid (∀ w1 v1 v2 v3 v4, Below w.heap.size w w1 → MnAt w1 (parMP t) v1 v2 v3 v4 → Calls Tryz.prog 8 #[.agg #[v1, v2, v3, v4]] w1 fun e w' => e = .returned (.bool true) ∧ Below w1.heap.size w1 w') := fun w1 v1 v2 v3 v4 hb hp => by have := mMay_any hp (he.below hb) (hf.below hb); rw [hwb] at this; exact this
  have HPR : Hid (∀ w1 v1 v2 v3 v4, Below w.heap.size w w1 → MnAt w1 (parMP t) v1 v2 v3 v4 → Calls Tryz.prog 13 #[.agg #[v1, v2, v3, v4]] w1 fun e w' => e = .returned (.tuple #[.string (writtenMT (parMP t)), .int .i64 0]) ∧ Below w1.heap.size w1 w') := fun w1 v1 v2 v3 v4 hb hp => by have := mPrint_any hp (he.below hb) (hf.below hb); rw [hwb] at this; exact this
  have hsd : soundM (parMP t) = true := by
    have hs := hwb
    unfold writtenMB at hs
    rw [Bool.and_eq_true] at hs
    exact hs.1
  have hsh : (parMP t).d.length ≤ 16 ∧ (parMP t).v.length ≤ 16 ∧ (parMP t).o.length ≤ 16 ∧ (parMP t).p.length ≤ 16 := by
    have hs := hsd
    unfold soundM at hs
    simp only [Bool.and_eq_true] at hs
    exact ⟨(short_may hs.1.1).1, (short_may hs.1.2.1).1, (short_may hs.1.2.2.1).1, (short_may hs.1.2.2.2).1⟩
  have HRG : Hid (∀ d ∈ (parMP t).p, d.rg.length ≤ 64) := fun d hd => by
    have hr := ((rise_names (soundM_all hsd).2.2.2) d hd).2
    unfold rangeB at hr
    rw [Bool.and_eq_true] at hr
    obtain ⟨A, e, _, hl⟩ := may_iff.1 hr.2
    rw [e, List.length_map]
    exact hl
  have HSA : Hid (∀ w1 v1 v2 v3 v4 u1 u2 u3 u4, MnAt w1 (parMP t) v1 v2 v3 v4 → MnAt w1 (parMP t) u1 u2 u3 u4 → Calls Tryz.prog 10 #[.agg #[v1, v2, v3, v4], .agg #[u1, u2, u3, u4]] w1 fun e w' => e = .returned (.bool true) ∧ Below w1.heap.size w1 w') := fun w1 v1 v2 v3 v4 u1 u2 u3 u4 hp hq => by have := mSame_any hp hq ⟨by omega, by omega, by omega, by omega⟩; rw [eqB_yes rfl] at this; exact this
  obtain ⟨_, _, _, n16⟩ := hsh
  clear he hf h hwb HPG hsd
  generalize writtenMT (parMP t) = TX at *
  generalize parMP t = P at *
  have HKP : Hid (∀ (N : Nat) v1 v2 v3 v4, KeepP fun w' => Below w.heap.size w w' ∧ BxM w' N v1 v2 v3 v4 ∧ MnAt w' P v1 v2 v3 v4) := fun N v1 v2 v3 v4 => (keepBelow w).and ((keepBxM _ _ _ _ _).and (keepMn _ _ _ _ _))
  have t1 : True := trivial
  have t2 : True := trivial
  go_enter Tryz.func6, Tryz.ntmps6
  go_wp2_with (first
    | (have _t := t1; go_at_call 15; refine (HP1.out _ (Below.refl _ _)).mono ?_; rintro e w1 ⟨p1, pc1, p2, pc2, p3, pc3, p4, pc4, rfl, ok, how⟩; have HK2 : Hid (Below w.heap.size w (w1.alloc (.cells #[.slice p1 P.d.length pc1, .slice p2 P.v.length pc2, .slice p3 P.o.length pc3, .slice p4 P.p.length pc4] 24)) ∧ BxM (w1.alloc (.cells #[.slice p1 P.d.length pc1, .slice p2 P.v.length pc2, .slice p3 P.o.length pc3, .slice p4 P.p.length pc4] 24)) w1.heap.size (.slice p1 P.d.length pc1) (.slice p2 P.v.length pc2) (.slice p3 P.o.length pc3) (.slice p4 P.p.length pc4) ∧ MnAt (w1.alloc (.cells #[.slice p1 P.d.length pc1, .slice p2 P.v.length pc2, .slice p3 P.o.length pc3, .slice p4 P.p.length pc4] 24)) P (.slice p1 P.d.length pc1) (.slice p2 P.v.length pc2) (.slice p3 P.o.length pc3) (.slice p4 P.p.length pc4)) := ⟨below_then ok (boxB _ _), BxM.new rfl _ _ _ _, how.at.below (boxB _ _)⟩; clear ok how t1)
    | (go_at_call 12; refine (HKN.out _ HK2.out.1).mono ?_; rintro e w3 ⟨rfl, ok⟩; have HK3 : Hid (Below w.heap.size w w3 ∧ BxM w3 w1.heap.size (.slice p1 P.d.length pc1) (.slice p2 P.v.length pc2) (.slice p3 P.o.length pc3) (.slice p4 P.p.length pc4) ∧ MnAt w3 P (.slice p1 P.d.length pc1) (.slice p2 P.v.length pc2) (.slice p3 P.o.length pc3) (.slice p4 P.p.length pc4)) := HKP.out _ _ _ _ _ _ _ HK2.out ok; obtain ⟨y0, y1, y2, y3, y4⟩ := HK3.out.2.1; clear ok)
    | (have _t := t2; go_at_call 13; refine (HPR.out _ _ _ _ _ HK3.out.1 HK3.out.2.2).mono ?_; rintro e w5 ⟨rfl, ok⟩; have HK5 : Hid (Below w.heap.size w w5 ∧ BxM w5 w1.heap.size (.slice p1 P.d.length pc1) (.slice p2 P.v.length pc2) (.slice p3 P.o.length pc3) (.slice p4 P.p.length pc4) ∧ MnAt w5 P (.slice p1 P.d.length pc1) (.slice p2 P.v.length pc2) (.slice p3 P.o.length pc3) (.slice p4 P.p.length pc4)) := HKP.out _ _ _ _ _ _ _ HK3.out ok; clear ok y0 y1 y2 y3 y4 t2)
    | (go_at_call 15; refine (HP2.out _ HK5.out.1).mono ?_; rintro e w6 ⟨q1, qc1, q2, qc2, q3, qc3, q4, qc4, rfl, ok, how⟩; have HK7 : Hid (Below w.heap.size w (w6.alloc (.cells #[.slice q1 P.d.length qc1, .slice q2 P.v.length qc2, .slice q3 P.o.length qc3, .slice q4 P.p.length qc4] 24)) ∧ BxM (w6.alloc (.cells #[.slice q1 P.d.length qc1, .slice q2 P.v.length qc2, .slice q3 P.o.length qc3, .slice q4 P.p.length qc4] 24)) w1.heap.size (.slice p1 P.d.length pc1) (.slice p2 P.v.length pc2) (.slice p3 P.o.length pc3) (.slice p4 P.p.length pc4) ∧ MnAt (w6.alloc (.cells #[.slice q1 P.d.length qc1, .slice q2 P.v.length qc2, .slice q3 P.o.length qc3, .slice q4 P.p.length qc4] 24)) P (.slice p1 P.d.length pc1) (.slice p2 P.v.length pc2) (.slice p3 P.o.length pc3) (.slice p4 P.p.length pc4)) := HKP.out _ _ _ _ _ _ _ (HKP.out _ _ _ _ _ _ _ HK5.out ok) (boxB _ _); have HQ7 : Hid ((BxM (w6.alloc (.cells #[.slice q1 P.d.length qc1, .slice q2 P.v.length qc2, .slice q3 P.o.length qc3, .slice q4 P.p.length qc4] 24)) w6.heap.size (.slice q1 P.d.length qc1) (.slice q2 P.v.length qc2) (.slice q3 P.o.length qc3) (.slice q4 P.p.length qc4) ∧ OwnM (w6.alloc (.cells #[.slice q1 P.d.length qc1, .slice q2 P.v.length qc2, .slice q3 P.o.length qc3, .slice q4 P.p.length qc4] 24)) w5.heap.size P (.slice q1 P.d.length qc1) (.slice q2 P.v.length qc2) (.slice q3 P.o.length qc3) (.slice q4 P.p.length qc4)) ∧ Below w5.heap.size w5 (w6.alloc (.cells #[.slice q1 P.d.length qc1, .slice q2 P.v.length qc2, .slice q3 P.o.length qc3, .slice q4 P.p.length qc4] 24))) := ⟨⟨BxM.new rfl _ _ _ _, how.below (boxB _ _)⟩, below_then ok (boxB _ _)⟩; have HLQ : Hid (OwnM w6 w5.heap.size P (.slice q1 P.d.length qc1) (.slice q2 P.v.length qc2) (.slice q3 P.o.length qc3) (.slice q4 P.p.length qc4)) := how; have HB67 : Hid (Below w6.heap.size w6 (w6.alloc (.cells #[.slice q1 P.d.length qc1, .slice q2 P.v.length qc2, .slice q3 P.o.length qc3, .slice q4 P.p.length qc4] 24))) := boxB _ _; obtain ⟨y0, y1, y2, y3, y4⟩ := HK7.out.2.1; obtain ⟨z0, z1, z2, z3, z4⟩ := HQ7.out.1.1; clear ok how)
    | (go_at_call 8; refine (HMA.out _ _ _ _ _ HK7.out.1 HK7.out.2.2).mono ?_; rintro e w8 ⟨rfl, ok⟩; have HK8 : Hid (Below w.heap.size w w8 ∧ BxM w8 w1.heap.size (.slice p1 P.d.length pc1) (.slice p2 P.v.length pc2) (.slice p3 P.o.length pc3) (.slice p4 P.p.length pc4) ∧ MnAt w8 P (.slice p1 P.d.length pc1) (.slice p2 P.v.length pc2) (.slice p3 P.o.length pc3) (.slice p4 P.p.length pc4)) := HKP.out _ _ _ _ _ _ _ HK7.out ok; have HQ8 : Hid ((BxM w8 w6.heap.size (.slice q1 P.d.length qc1) (.slice q2 P.v.length qc2) (.slice q3 P.o.length qc3) (.slice q4 P.p.length qc4) ∧ OwnM w8 w5.heap.size P (.slice q1 P.d.length qc1) (.slice q2 P.v.length qc2) (.slice q3 P.o.length qc3) (.slice q4 P.p.length qc4)) ∧ Below w5.heap.size w5 w8) := ⟨⟨keepBxM _ _ _ _ _ _ _ HQ7.out.1.1 ok, HQ7.out.1.2.below ok⟩, below_then HQ7.out.2 ok⟩; have HB68 := hide3 (below_then HB67.out ok); clear ok y0 y1 y2 y3 y4 z0 z1 z2 z3 z4; obtain ⟨y0, y1, y2, y3, y4⟩ := HK8.out.2.1; obtain ⟨z0, z1, z2, z3, z4⟩ := HQ8.out.1.1)
    | (go_at_call 10; refine (HSA.out _ _ _ _ _ _ _ _ _ HK8.out.2.2 HQ8.out.1.2.at).mono ?_; rintro e w9 ⟨rfl, ok⟩; have HQ9 : Hid ((BxM w9 w6.heap.size (.slice q1 P.d.length qc1) (.slice q2 P.v.length qc2) (.slice q3 P.o.length qc3) (.slice q4 P.p.length qc4) ∧ OwnM w9 w5.heap.size P (.slice q1 P.d.length qc1) (.slice q2 P.v.length qc2) (.slice q3 P.o.length qc3) (.slice q4 P.p.length qc4)) ∧ Below w5.heap.size w5 w9) := ⟨⟨keepBxM _ _ _ _ _ _ _ HQ8.out.1.1 ok, HQ8.out.1.2.below ok⟩, below_then HQ8.out.2 ok⟩; have HB69 := hide3 (below_then HB68.out ok); clear ok y0 y1 y2 y3 y4 z0 z1 z2 z3 z4))
  obtain ⟨ps, ⟨hown6, hps⟩⟩ : ∃ ps, OwnD w6 w5.heap.size (.slice q4 P.p.length qc4) ps ∧ ps.map (·.1) = P.p := by
    obtain ⟨_, _, _, x4, _, _, _, hx⟩ := HLQ.out
    exact ⟨x4, hx⟩
  have hown : OwnD w9 w5.heap.size (.slice q4 P.p.length qc4) ps := hown6.below (HB69.out)
  have HPL : Hid (ps.length = P.p.length) := by unfold Hid; rw [← hps, List.length_map]
  have HLT : Hid (∀ p ∈ ps, ∀ g, p.2.ownBlock = some g → g < w6.heap.size) := fun p hp g hg => ((hown6.2 p hp).lt hg).1
  have HRL : Hid (∀ i (h : i < ps.length), ps[i].1.rg.length ≤ 64) := fun i hi => HRG.out _ (by rw [← hps]; exact List.mem_map.2 ⟨_, List.getElem_mem hi, rfl⟩)
  have HI0 : Hid (InvM w5 w6.heap.size (.slice q1 P.d.length qc1) (.slice q2 P.v.length qc2) (.slice q3 P.o.length qc3) (.slice q4 P.p.length qc4) ps w9) := ⟨HQ9.out.2, HQ9.out.1.1, hown.1, fun p hp => ⟨_, hown.2 p hp⟩⟩
  clear hps hown hown6 HB67 HB68 HB69 HLQ HQ7 HQ8 HQ9 HK2 HK3 HK7 HK8 HMA HP1 HP2 HKN
  go_loopw [9] (fun i wr => ∃ k : Nat, k ≤ P.p.length ∧ i = .int .i64 k ∧ InvM w5 w6.heap.size (.slice q1 P.d.length qc1) (.slice q2 P.v.length qc2) (.slice q3 P.o.length qc3) (.slice q4 P.p.length qc4) ps wr) (fun i _ => P.p.length - (intOf i).toNat)
  case atStart => exact ⟨0, Nat.zero_le _, rfl, HI0.out⟩
  case round =>
    clear HI0
    obtain ⟨k, hk, rfl, hi⟩ := hrel
    have HI := hide3 hi
    obtain ⟨z0, z1, z2, z3, z4⟩ := hi.2.1
    by_cases hlt : k < P.p.length
    · have hkp : k < ps.length := by have := HPL.out; omega
      obtain ⟨gD, capD, hu1, hrest⟩ := hi.cell hkp
      clear hrest
      simp only [Value.slice.injEq] at hu1
      obtain ⟨rfl, hxx, rfl⟩ := hu1
      clear hxx
      obtain ⟨au, cu, hpv⟩ : ∃ au cu, ps[k].2 = .slice au ps[k].1.rg.length cu := by
        obtain ⟨xs, hx⟩ := hi.2.2.2 _ (List.getElem_mem hkp)
        rcases hx.2 with ⟨e, hn⟩ | ⟨g, cap, cur, e, _⟩
        · exact ⟨none, 0, by rw [e, hn]⟩
        · exact ⟨_, cap, e⟩
      have hl64 := HRL.out k hkp
      have HPV := hide3 hpv
      clear hi hpv
      go_wp2_with fail
      go_loopw [10] (fun j wq => ∃ m : Nat, m ≤ ps[k].1.rg.length ∧ j = .int .i64 m ∧ InvM w5 w6.heap.size (.slice q1 P.d.length qc1) (.slice q2 P.v.length qc2) (.slice q3 P.o.length qc3) (.slice (some ⟨gD, 0, none⟩) P.p.length qc4) ps wq) (fun j _ => ps[k].1.rg.length - (intOf j).toNat)
      case atStart => exact ⟨0, Nat.zero_le _, rfl, HI.out⟩
      case round =>
        clear HI z0 z1 z2 z3 z4
        obtain ⟨m, hm, rfl, hi⟩ := hrel
        have HI := hide3 hi
        obtain ⟨z0, z1, z2, z3, z4⟩ := hi.2.1
        obtain ⟨gD', capD', hu1, d0, d1⟩ := hi.cell hkp
        simp only [Value.slice.injEq, Option.some.injEq, Addr.mk.injEq, and_true] at hu1
        obtain ⟨rfl, hxx, rfl⟩ := hu1
        clear hxx
        rw [HPV.out] at d1
        by_cases hml : m < ps[k].1.rg.length
        · obtain ⟨gS, capS, hpe, hcl⟩ := hi.span (List.getElem_mem hkp) hml
          have hgS : gS < w6.heap.size := HLT.out _ (List.getElem_mem hkp) gS (by rw [hpe]; rfl)
          have HOB : Hid (ps[k].2.ownBlock = some gS) := by rw [hpe]; rfl
          rw [HPV.out] at hpe
          simp only [Value.slice.injEq] at hpe
          obtain ⟨rfl, hxx, rfl⟩ := hpe
          clear hxx
          obtain ⟨⟨x0, r0⟩, f0⟩ := hcl 0 (by decide)
          obtain ⟨⟨x1, r1⟩, f1⟩ := hcl 1 (by decide)
          obtain ⟨⟨x2, r2⟩, f2⟩ := hcl 2 (by decide)
          obtain ⟨⟨x3, r3⟩, f3⟩ := hcl 3 (by decide)
          obtain ⟨⟨x4, r4⟩, f4⟩ := hcl 4 (by decide)
          obtain ⟨⟨x5, r5⟩, f5⟩ := hcl 5 (by decide)
          rw [Nat.add_zero] at r0 f0
          have HMEM := hide3 (List.getElem_mem hkp)
          clear hi hcl HPV
          generalize ps[k].1.rg.length = lu at *
          go_wp2
          refine ⟨⟨m + 1, by omega, by go_num, ?_⟩, by simp [intOf]; omega⟩
          have st := fun (w' : World) (hw : InvM w5 w6.heap.size (.slice q1 P.d.length qc1) (.slice q2 P.v.length qc2) (.slice q3 P.o.length qc3) (.slice (some ⟨gD, 0, none⟩) P.p.length qc4) ps w') (j : Nat) (u : Value) => hw.setS HMEM.out HOB.out hgS j u
          exact st _ (st _ (st _ (st _ (st _ (st _ HI.out _ _) _ _) _ _) _ _) _ _) _ _
        · have hme : m = ps[k].1.rg.length := by omega
          subst hme
          clear hi
          go_wp2
          exact ⟨⟨k + 1, by omega, by go_num, HI.out⟩, by simp [intOf]; omega⟩
    · obtain rfl : k = P.p.length := by omega
      have HKE : Hid (Below w.heap.size w wr ∧ BxM wr w1.heap.size (.slice p1 P.d.length pc1) (.slice p2 P.v.length pc2) (.slice p3 P.o.length pc3) (.slice p4 P.p.length pc4) ∧ MnAt wr P (.slice p1 P.d.length pc1) (.slice p2 P.v.length pc2) (.slice p3 P.o.length pc3) (.slice p4 P.p.length pc4)) := HKP.out _ _ _ _ _ _ _ HK5.out HI.out.1
      clear hi HI
      obtain ⟨y0, y1, y2, y3, y4⟩ := HKE.out.2.1
      go_wp2_with (go_at_call 13; refine (HPR.out _ _ _ _ _ HKE.out.1 HKE.out.2.2).mono ?_; rintro e w11 ⟨rfl, ok⟩; have HB12 := hide3 (below_then HKE.out.1 ok); clear ok)
      go_ret
      exact ⟨by first | rfl | simp, HB12.out⟩

theorem manifestAgain_walk (t : ByteArray) {w : World} (h : Env w ∧ FL w) : Calls Tryz.prog 6 #[.string t] w fun e w' => e = .returned (.bool true) ∧ Below w.heap.size w w' := by
  by_cases h0 : parME t = 0
  · exact manifestAgain_yes t h.1 h.2 h0
  · exact manifestAgain_no t h.1 h.2 h0
end Go.Proofs.YtjfbgiajjkjghaaGreatDoor
