/- Two disks, one of them cut: what the raw writes answer on both. Plain facts. -/
import Derived.Test.YtlhoikmgeafgbaaDoorLives1
namespace Go.Proofs.YtlhoikmgeafgbaaDoor
open Go.RowKit Go.Maps Go.WideMaps Go.WideElems
set_option maxRecDepth 100000

/-- The two answers and the two disks behind a raw write: the same, but for the count of the one that is cut. -/
def Alike2 (la : Int) (rb : List (Int × ByteArray × ByteArray)) (ra rb' : Int × Ab) : Prop :=
  ra.1 = rb'.1 ∧ ra.2.D = rb'.2.D ∧ ra.2.rs = rb'.2.rs ∧ rb'.2.left = -1 ∧ ((ra.2.left = la ∧ rb'.2.rs = rb) ∨ (ra.2.left = la - 1 ∧ rb'.2.rs.length = rb.length + 1))

theorem alike_same {xa xb : Ab} (hD : xa.D = xb.D) (hr : xa.rs = xb.rs) (hb : xb.left = -1) (e : Int) : Alike2 xa.left xb.rs (e, xa) (e, xb) := ⟨rfl, hD, hr, hb, Or.inl ⟨rfl, rfl⟩⟩

theorem alike_note {xa xb : Ab} {D : DataW Unit} (hr : xa.rs = xb.rs) (ha : 0 < xa.left) (hb : xb.left = -1) (r : Int × ByteArray × ByteArray) :
    Alike2 xa.left xb.rs (0, noteAb { D := D, rs := xa.rs, left := xa.left } r) (0, noteAb { D := D, rs := xb.rs, left := xb.left } r) := by
  refine ⟨rfl, rfl, by simp [noteAb, hr], ?_, Or.inr ⟨?_, by simp [noteAb]⟩⟩
  · unfold noteAb; rw [if_neg (by rw [hb]; decide)]; exact hb
  · unfold noteAb; rw [if_pos ha]

theorem writeD_eq {la lb : Int} (ha : 0 < la) (hb : lb = -1) (ps : List ByteArray) : writeD la ps = writeD lb ps := by
  unfold writeD
  have h1 : (la == 0) = false := beq_eq_false_iff_ne.2 (by omega)
  have h2 : (lb == 0) = false := beq_eq_false_iff_ne.2 (by omega)
  rw [h1, h2]

theorem alike_ite {la : Int} {rs : List (Int × ByteArray × ByteArray)} {c : Prop} [Decidable c] {a b a' b' : Int × Ab} (h1 : Alike2 la rs a a') (h2 : Alike2 la rs b b') : Alike2 la rs (if c then a else b) (if c then a' else b') := by
  split
  · exact h1
  · exact h2

theorem ask_alike {xa xb : Ab} (hD : xa.D = xb.D) (hr : xa.rs = xb.rs) (ha : 0 < xa.left) (hb : xb.left = -1) (k : Int) (p t u : ByteArray) : Alike2 xa.left xb.rs (askD xa k p t u) (askD xb k p t u) := by
  unfold askD mkdirD writeFD renameD removeD
  rw [writeD_eq ha hb, writeD_eq ha hb, hD]
  refine alike_ite (alike_ite (alike_same hD hr hb _) (alike_ite (alike_same hD hr hb _) (alike_ite (alike_same hD hr hb _) (alike_note hr ha hb _)))) ?_
  refine alike_ite (alike_ite (alike_same hD hr hb _) (alike_ite (alike_same hD hr hb _) (alike_note hr ha hb _))) ?_
  refine alike_ite (alike_ite (alike_same hD hr hb _) (alike_ite (alike_same hD hr hb _) (alike_ite (alike_same hD hr hb _) (alike_note hr ha hb _)))) ?_
  exact alike_ite (alike_same hD hr hb _) (alike_ite (alike_same hD hr hb _) (alike_ite (alike_same hD hr hb _) (alike_note hr ha hb _)))

theorem writeD_down (ps : List ByteArray) : writeD 0 ps = 15 := by simp [writeD]

theorem ask_down {x : Ab} (h : x.left = 0) (k : Int) (p t u : ByteArray) : askD x k p t u = (15, x) := by
  unfold askD mkdirD writeFD renameD removeD
  rw [h, writeD_down, writeD_down]
  simp

end Go.Proofs.YtlhoikmgeafgbaaDoor
