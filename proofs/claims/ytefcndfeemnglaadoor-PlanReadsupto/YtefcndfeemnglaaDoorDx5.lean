/- comings of package delta: what comes, in whatever order the map is gone through. Conditions: sizes. -/
import Derived.Test.YtefcndfeemnglaaDoorDx4
import Derived.Laws.StructEq
namespace Go.Proofs.YtefcndfeemnglaaDoor
open Go.RowKit Go.Maps Go.WideMaps Go.WideElems Dk
set_option maxRecDepth 100000

theorem step_de {B : Nat} {wx : World} {v : Value} {ds : List De} {ops : Array Oper} {o : Oper} {f : Act} {K : Act → World → Prop} {Q : Exit → Act → World → Prop} {E : Prop}
    (hgd : o.guard = none) (s t : Operand) (ho : o.op = .call { callee := .builtin .append, args := #[s, t], argTypes := #[22, 22] }) (hs : f.eval s = v)
    (hown : OwnDe wx B v ds) (hB : B ≤ wx.heap.size) (x : De) {M : Nat} (hM : wx.heap.size = M) (hx : f.eval t = .slice (some ⟨M, 0, none⟩) 1 1) (hlen : ds.length ≤ 1000000000)
    (h : ∀ v1 w1, OwnDe w1 B v1 (ds ++ [x]) → wx.grownBy w1 v.ownBlock → K (f.put o.dst v1) w1) :
    if Region.wanted o (yielded ops f.tmps) = true then Oper.wp Tryd.prog o f (wx.alloc (.cells #[.int .i64 x.kd, .string x.pa, .string x.da] 37)) K Q else E := by
  have hw : Region.wanted o (yielded ops f.tmps) = true := by simp [Region.wanted, hgd]
  rw [if_pos hw]
  subst hM
  obtain ⟨i0, hi, hz0, hz1, hz2⟩ := info_parts infoDe
  obtain ⟨v1, w1, hr, hown1, hg1, _, _⟩ := run_append_own_at (P := Tryd.prog) (wx.alloc (.cells #[.int .i64 x.kd, .string x.pa, .string x.da] 37)) B 22 o.type 37 i0 _ 3 40 Tryd.underlying22 hi hz0 hz1 hz2 rfl (by decide) v ds.length _ (World.ownsRow.alloc hown _) ⟨wx.heap.size, 0, none⟩ 1 1 [.int .i64 x.kd, .string x.pa, .string x.da] rfl
    (news_deed wx x.kd x.pa x.da) (by simp [Value.oneCell']) (by unfold maxLen; omega) (by omega) (by simp; omega)
  unfold Oper.wp execOp
  simp only [ho, resolve, invoke, builtin, Sem.run_bind, Sem.run_pure, Result.andThen_ok, List.map_toArray, List.map_cons, List.map_nil, hs, hx, hr]
  exact h v1 w1 (OwnDe.snoc hown1) (grown_pre ((Below.refl _ _).alloc (Nat.le_refl _) _) hg1)

end Go.Proofs.YtefcndfeemnglaaDoor
