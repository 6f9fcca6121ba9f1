/- Deeds of one's own: where they lie, compared, one more. No condition but sizes. -/
import Derived.Test.YtefcndfeemnglaaGreatDoorDx5
import Derived.Laws.StructEq
namespace Go.Proofs.YtefcndfeemnglaaGreatDoor
open Go.RowKit Go.Maps Go.WideMaps Go.WideElems Dk
set_option maxRecDepth 100000

theorem OwnDe.sl {w : World} {B : Nat} {v : Value} {ds : List De} (h : OwnDe w B v ds) : ∃ ad cap, v = .slice ad ds.length cap ∧ ds.length ≤ cap := by
  rcases h.2 with ⟨rfl, hn⟩ | ⟨g, cap, cur, rfl, _, _, hc, _⟩
  · exact ⟨none, 0, by rw [hn], by omega⟩
  · exact ⟨_, cap, rfl, hc⟩

/-- Deeds lie there, wherever. -/
def DesAt (w : World) (ad : Option Addr) (ds : List De) : Prop := (ds = [] ∧ ad = none) ∨ ∃ g off, ad = some ⟨g, off, none⟩ ∧ ∀ j u, (ds.flatMap encE)[j]? = some u → w.cell? ((⟨g, off, none⟩ : Addr).add j) = some u

theorem OwnDe.des {w : World} {B : Nat} {ad : Option Addr} {n cap : Nat} {ds : List De} (h : OwnDe w B (.slice ad n cap) ds) : DesAt w ad ds := by
  have h0 := h
  rcases h.2 with ⟨e, hn⟩ | ⟨g, cap', cur, e, _⟩
  · cases e
    exact Or.inl ⟨List.eq_nil_of_length_eq_zero hn, rfl⟩
  · cases e
    exact Or.inr ⟨g, 0, rfl, fun j u hj => by
      have := row_cells h0 j u hj
      rw [← this]
      congr 1
      unfold Addr.add
      simp
      exact fun e => e.symm⟩

/-- Are two deeds the same? -/
def eqDe (x y : De) : Bool := decide (x.kd = y.kd) && (decide (x.pa.toList = y.pa.toList) && decide (x.da.toList = y.da.toList))

theorem eqDe_iff {x y : De} : eqDe x y = true ↔ x = y := by
  obtain ⟨a, b, c⟩ := x
  obtain ⟨d, e, f⟩ := y
  unfold eqDe
  simp only [Bool.and_eq_true, decide_eq_true_eq, De.mk.injEq]
  refine ⟨fun ⟨h1, h2, h3⟩ => ⟨h1, ?_, ?_⟩, fun ⟨h1, h2, h3⟩ => ⟨h1, by rw [h2], by rw [h3]⟩⟩
  · exact beq_bytes.1 (beq_iff_eq.2 h2)
  · exact beq_bytes.1 (beq_iff_eq.2 h3)

theorem eqInDe (x y : De) (w : World) : (Op.equalIn 10000 32 (.agg #[.int .i64 x.kd, .string x.pa, .string x.da]) (.agg #[.int .i64 y.kd, .string y.pa, .string y.da])).run Tryz.prog w = .ok (eqDe x y) w := by
  obtain ⟨k, p, t⟩ := x
  obtain ⟨k', p', t'⟩ := y
  have u3 := Tryz.underlying3
  have a3 := Tryz.isAgg3
  have z3 := Tryz.sizeOf3
  have u9 := Tryz.underlying9
  have a9 := Tryz.isAgg9
  have z9 := Tryz.sizeOf9
  rw [show (10000 : Nat) = 9999 + 1 from rfl, run_equalIn_agg w 9999 32 _ _ (by kernel_rfl) (by kernel_rfl)]
  unfold eqDe
  simp only [Program.fieldsOf, Tryz.underlying32]
  by_cases h1 : k = k'
  · subst h1
    by_cases h2 : p.toList = p'.toList
    · by_cases h3 : t.toList = t'.toList
      · simp only [h2, h3, decide_true, Bool.and_true]; go_simp
      · simp only [h2, h3, decide_true, decide_false, Bool.and_false]; go_simp
    · simp only [h2, decide_true, decide_false, Bool.and_false, Bool.false_and]; go_simp
  · simp only [h1, decide_false, Bool.false_and]; go_simp

theorem neqDe (x y : De) (w : World) : (binOp .neq 32 (.agg #[.int .i64 x.kd, .string x.pa, .string x.da]) (.agg #[.int .i64 y.kd, .string y.pa, .string y.da])).run Tryz.prog w = .ok (.bool (!(eqDe x y))) w := by
  rw [run_neq_struct, eqInDe]; rfl

theorem eqlDe (x y : De) (w : World) : (binOp .eql 32 (.agg #[.int .i64 x.kd, .string x.pa, .string x.da]) (.agg #[.int .i64 y.kd, .string y.pa, .string y.da])).run Tryz.prog w = .ok (.bool (eqDe x y)) w := by
  rw [run_eql_struct, eqInDe]; rfl

theorem guardDe (op : BinOp) (x y : Operand) (xs ys : Array Value) (w : World) : (eqGuard op 32 x y (.agg xs) (.agg ys)).run Tryz.prog w = .ok () w := run_eqGuard_agg w op 32 x y xs ys (by kernel_rfl)

theorem OwnDe.cells {w : World} {B g n cap : Nat} {ds : List De} (h : OwnDe w B (.slice (some ⟨g, 0, none⟩) n cap) ds) (k : Nat) (hk : k < ds.length) :
    w.cell? ⟨g, k * 3, none⟩ = some (.int .i64 ds[k].kd) ∧ w.cell? ⟨g, k * 3 + 1, none⟩ = some (.string ds[k].pa) ∧ w.cell? ⟨g, k * 3 + 1 + 1, none⟩ = some (.string ds[k].da) := by
  have hg : ∀ (l : List De) (k : Nat) (hk : k < l.length), (l.flatMap encE)[k * 3]? = some (.int .i64 l[k].kd) ∧ (l.flatMap encE)[k * 3 + 1]? = some (.string l[k].pa) ∧ (l.flatMap encE)[k * 3 + 1 + 1]? = some (.string l[k].da) := by
    intro l
    induction l with
    | nil => intro k hk; cases hk
    | cons x r ih =>
      intro k hk
      cases k with
      | zero => simp [encE]
      | succ k =>
        have := ih k (by simpa using hk)
        rw [List.flatMap_cons]
        have e : ∀ j, (encE x ++ r.flatMap encE)[j + 3]? = (r.flatMap encE)[j]? := fun j => by
          rw [List.getElem?_append_right (by simp [encE])]
          simp [encE]
        rw [show (k + 1) * 3 = k * 3 + 3 by omega, show k * 3 + 3 + 1 = k * 3 + 1 + 3 by omega, show k * 3 + 1 + 3 + 1 = k * 3 + 1 + 1 + 3 by omega, e, e, e]
        simpa using this
  obtain ⟨h0, h1, h2⟩ := hg ds k hk
  obtain ⟨ad, cap2, hv, _⟩ := h.sl
  cases hv
  exact ⟨row_cells h _ _ h0, row_cells h _ _ h1, row_cells h _ _ h2⟩

theorem OwnDe.some {w : World} {B : Nat} {v : Value} {ds : List De} (h : OwnDe w B v ds) (h0 : 0 < ds.length) : ∃ g cap, v = .slice (some ⟨g, 0, none⟩) ds.length cap ∧ g < w.heap.size ∧ B ≤ g := by
  rcases h.2 with ⟨rfl, hn⟩ | ⟨g, cap, cur, rfl, hb, hg, hc, _⟩
  · omega
  · exact ⟨g, cap, rfl, (Array.getElem?_eq_some_iff.1 hg).1, hb⟩

theorem wp_deL {B : Nat} {wx : World} {v : Value} {ds : List De} {ops : Array Oper} {rest : List Oper} {o : Oper} {f : Act} {Q : Exit → Act → World → Prop}
    (hgd : o.guard = none) (s t : Operand) (ho : o.op = .call { callee := .builtin .append, args := #[s, t], argTypes := #[22, 22] }) (hs : f.eval s = v)
    (hown : OwnDe wx B v ds) (hB : B ≤ wx.heap.size) (x : De) {M : Nat} (hM : wx.heap.size = M) (hx : f.eval t = .slice (some ⟨M, 0, none⟩) 1 1) (hlen : ds.length ≤ 1000000000)
    (h : ∀ v1 w1, OwnDe w1 B v1 (ds ++ [x]) → wx.grownBy w1 v.ownBlock → wpList Tryz.prog ops Q rest (f.put o.dst v1) w1) :
    wpList Tryz.prog ops Q (o :: rest) f (wx.alloc (.cells #[.int .i64 x.kd, .string x.pa, .string x.da] 32)) := by
  subst hM
  obtain ⟨i0, hi, hz0, hz1, hz2⟩ := info_parts infoDe
  refine wpList_append_own _ hgd s t 22 ho B 32 i0 _ 3 40 Tryz.underlying22 hi hz0 hz1 hz2 rfl (by decide) v ds.length _ hs (World.ownsRow.alloc hown _) ⟨wx.heap.size, 0, none⟩ 1 1 [.int .i64 x.kd, .string x.pa, .string x.da] hx rfl (news_deed wx x.kd x.pa x.da) (by simp [Value.oneCell']) (by unfold maxLen; omega) (by omega) (by simp; omega) ?_
  intro v1 w1 h1 h2 _
  exact h v1 w1 (OwnDe.snoc h1) (grown_pre ((Below.refl _ _).alloc (Nat.le_refl _) _) h2)
end Go.Proofs.YtefcndfeemnglaaGreatDoor
