/- comings of package delta: what comes, in whatever order the map is gone through. Conditions: sizes. -/
import Derived.Test.YtefcndfeemnglaaGreatDoorDx4
import Derived.Laws.StructEq
namespace Go.Proofs.YtefcndfeemnglaaGreatDoor
open Go.RowKit Go.Maps Go.WideMaps Go.WideElems Dk
set_option maxRecDepth 100000

theorem step_de {B : Nat} {wx : World} {v : Value} {ds : List De} {ops : Array Oper} {o : Oper} {f : Act} {K : Act → World → Prop} {Q : Exit → Act → World → Prop} {E : Prop}
    (hgd : o.guard = none) (s t : Operand) (ho : o.op = .call { callee := .builtin .append, args := #[s, t], argTypes := #[22, 22] }) (hs : f.eval s = v)
    (hown : OwnDe wx B v ds) (hB : B ≤ wx.heap.size) (x : De) {M : Nat} (hM : wx.heap.size = M) (hx : f.eval t = .slice (some ⟨M, 0, none⟩) 1 1) (hlen : ds.length ≤ 1000000000)
    (h : ∀ v1 w1, OwnDe w1 B v1 (ds ++ [x]) → wx.grownBy w1 v.ownBlock → K (f.put o.dst v1) w1) :
    if Region.wanted o (yielded ops f.tmps) = true then Oper.wp Tryz.prog o f (wx.alloc (.cells #[.int .i64 x.kd, .string x.pa, .string x.da] 32)) K Q else E := by
  have hw : Region.wanted o (yielded ops f.tmps) = true := by simp [Region.wanted, hgd]
  rw [if_pos hw]
  subst hM
  obtain ⟨i0, hi, hz0, hz1, hz2⟩ := info_parts infoDe
  obtain ⟨v1, w1, hr, hown1, hg1, _, _⟩ := run_append_own_at (P := Tryz.prog) (wx.alloc (.cells #[.int .i64 x.kd, .string x.pa, .string x.da] 32)) B 22 o.type 32 i0 _ 3 40 Tryz.underlying22 hi hz0 hz1 hz2 rfl (by decide) v ds.length _ (World.ownsRow.alloc hown _) ⟨wx.heap.size, 0, none⟩ 1 1 [.int .i64 x.kd, .string x.pa, .string x.da] rfl
    (news_deed wx x.kd x.pa x.da) (by simp [Value.oneCell']) (by unfold maxLen; omega) (by omega) (by simp; omega)
  unfold Oper.wp execOp
  simp only [ho, resolve, invoke, builtin, Sem.run_bind, Sem.run_pure, Result.andThen_ok, List.map_toArray, List.map_cons, List.map_nil, hs, hx, hr]
  exact h v1 w1 (OwnDe.snoc hown1) (grown_pre ((Below.refl _ _).alloc (Nat.le_refl _) _) hg1)

theorem eqInFi (p : ByteArray) (c : Bool) (t : ByteArray) (p' : ByteArray) (c' : Bool) (t' : ByteArray) (w : World) : (Op.equalIn 10000 45 (.agg #[.string p, .bool c, .string t]) (.agg #[.string p', .bool c', .string t'])).run Tryz.prog w = .ok (decide (p.toList = p'.toList) && (decide (c = c') && decide (t.toList = t'.toList))) w := by
  have u3 := Tryz.underlying4
  have a3 := Tryz.isAgg4
  have z3 := Tryz.sizeOf4
  have u9 := Tryz.underlying9
  have a9 := Tryz.isAgg9
  have z9 := Tryz.sizeOf9
  rw [show (10000 : Nat) = 9999 + 1 from rfl, run_equalIn_agg w 9999 45 _ _ (by kernel_rfl) (by kernel_rfl)]
  simp only [Program.fieldsOf, Tryz.underlying45]
  by_cases h1 : p.toList = p'.toList
  · by_cases h2 : c = c'
    · subst h2
      by_cases h3 : t.toList = t'.toList
      · simp only [h1, h3, decide_true, Bool.and_true]; go_simp
      · simp only [h1, h3, decide_true, decide_false, Bool.and_false]; go_simp
    · simp only [h1, h2, decide_true, decide_false, Bool.and_false, Bool.false_and]; go_simp
  · simp only [h1, decide_false, Bool.false_and]; go_simp
theorem neqFi (p : ByteArray) (c : Bool) (t : ByteArray) (p' : ByteArray) (c' : Bool) (t' : ByteArray) (w : World) : (binOp .neq 45 (.agg #[.string p, .bool c, .string t]) (.agg #[.string p', .bool c', .string t'])).run Tryz.prog w = .ok (.bool (!(decide (p.toList = p'.toList) && (decide (c = c') && decide (t.toList = t'.toList))))) w := by
  rw [run_neq_struct, eqInFi]; rfl

end Go.Proofs.YtefcndfeemnglaaGreatDoor
