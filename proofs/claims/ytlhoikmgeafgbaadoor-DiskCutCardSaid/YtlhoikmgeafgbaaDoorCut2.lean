/- The walk of DiskCut: of any row of deeds in memory and any number it answers true, and leaves old memory as it was. -/
import Derived.Test.YtlhoikmgeafgbaaDoorCut1
namespace Go.Proofs.YtlhoikmgeafgbaaDoor
open Go.RowKit Go.Maps Go.WideMaps Go.WideElems
set_option maxRecDepth 100000

/-- A deed in memory: its five cells, in their bounds. -/
def DeedAt (w : World) (g o : Nat) : Prop := ∃ (k : Int) (p t u : ByteArray) (z : Int),
  w.cell? ⟨g, o, none⟩ = some (.int .i64 k) ∧ w.cell? ⟨g, o + 1, none⟩ = some (.string p) ∧ w.cell? ⟨g, o + 1 + 1, none⟩ = some (.string t) ∧ w.cell? ⟨g, o + 1 + 1 + 1, none⟩ = some (.string u) ∧ w.cell? ⟨g, o + 1 + 1 + 1 + 1, none⟩ = some (.int .i64 z) ∧
  -9223372036854775808 ≤ k ∧ k ≤ 9223372036854775807 ∧ p.size ≤ maxLen ∧ t.size ≤ maxLen ∧ u.size ≤ maxLen ∧ -9223372036854775808 ≤ z ∧ z ≤ 9223372036854775807

theorem DeedAt.below {w w' : World} {g o B : Nat} (h : DeedAt w g o) (hb : Below B w w') (hg : g < B) : DeedAt w' g o := by
  obtain ⟨k, p, t, u, z, h0, h1, h2, h3, h4, r⟩ := h
  have q : ∀ i, w'.cell? ⟨g, i, none⟩ = w.cell? ⟨g, i, none⟩ := fun i => hb.cell (p := ⟨g, i, none⟩) hg
  exact ⟨k, p, t, u, z, by rw [q]; exact h0, by rw [q]; exact h1, by rw [q]; exact h2, by rw [q]; exact h3, by rw [q]; exact h4, r⟩

/-- Both disks, in the middle of the row of deeds. -/
structure Both (B : Nat) (w : World) (da ma db mb' : Nat) (p : Int) (m : Int) (k : Nat) (w0 : World) : Prop where
  ex : ∃ na nb rva rvb xa xb, Fit B w da ma na rva xa m ∧ Fit B w db mb' nb rvb xb m ∧ (∀ j, Foot da ma rva j → ¬ Foot db mb' rvb j) ∧ xa.D = xb.D ∧ xa.rs = xb.rs ∧ xb.left = -1 ∧ xa.left = p - xb.rs.length ∧ (xb.rs.length : Int) ≤ p ∧ na ≤ k ∧ nb ≤ k
  old : Below B w0 w

theorem fit_upd {F : Nat → Prop} {B : Nat} {w w' : World} {d mb n : Nat} {rv : Value} {x : Ab} {m : Int} (h : Fit B w d mb n rv x m) (hu : Upd F w w') (hF : ∀ k, Foot d mb rv k → ¬ F k) (hB : Below B w w') (h0 : 0 < B) : Fit B w' d mb n rv x m :=
  { disk := h.disk.upd hu hF, max := by rw [hB.cell (p := ⟨0, 0, none⟩) h0]; exact h.max, room := h.room, len := h.len, lo := h.lo, hi := h.hi, base := Nat.le_trans h.base hu.size }

/-- asked, of the one disk: the other one is as it was, and so is all else. -/
theorem asked_step {B : Nat} {w : World} {d mb n d2 mb2 n2 : Nat} {rv rv2 : Value} {x x2 : Ab} {m : Int} (h0 : 0 < B) (h : Fit B w d mb n rv x m) (h2 : Fit B w d2 mb2 n2 rv2 x2 m) (hd : ∀ j, Foot d mb rv j → ¬ Foot d2 mb2 rv2 j) (k : Int) (p t u : ByteArray) (z : Int) (hu : u.size ≤ maxLen)
    (hn : n + 1 < 2199023255552) (hl : (askD x k p t u).2.rs.length < 2199023255552) (lo : -1 ≤ (askD x k p t u).2.left) (hi : (askD x k p t u).2.left ≤ 9223372036854775807) :
    Calls Tryd.prog 7 #[.pointer (some ⟨d, 0, none⟩), .agg #[.int .i64 k, .string p, .string t, .string u, .int .i64 z]] w fun e w' => e = .returned (.int .i64 (askD x k p t u).1) ∧
      ∃ n' rv', n' ≤ n + 1 ∧ Fit B w' d mb n' rv' (askD x k p t u).2 m ∧ Fit B w' d2 mb2 n2 rv2 x2 m ∧ (∀ j, Foot d mb rv' j → ¬ Foot d2 mb2 rv2 j) ∧ Below B w w' ∧ (∀ b, b < w.heap.size → ¬ Foot d mb rv b → w'.heap[b]? = w.heap[b]?) := by
  refine (asked_any h k p t u z hu).mono ?_
  rintro e w' ⟨rfl, ha⟩
  obtain ⟨n', rv', q1, q2, q3, q4, q5⟩ := After.fit ha h h0 hn hl lo hi
  refine ⟨rfl, n', rv', q1, q2, fit_upd h2 q4 (fun j hj hf => hd j hf hj) q3 h0, fun j hj hf => ?_, q3, q4.block⟩
  rcases hj with rfl | rfl | hj
  · exact hd _ (Or.inl rfl) hf
  · exact hd _ (Or.inr (Or.inl rfl)) hf
  · rcases q5 j hj with h5 | h5
    · exact hd j (Or.inr (Or.inr h5)) hf
    · have := (h2.disk.foot_lt hf).1; omega

end Go.Proofs.YtlhoikmgeafgbaaDoor
