/- The document's digit of package halyardref17. The document's data of package halyardref17. Conditions: sizes. -/
import Derived.Test.YtefcndfeemnglaaGreatDoorPy5
namespace Go.Proofs.YtefcndfeemnglaaGreatDoor
open Go.RowKit Dk
set_option maxRecDepth 100000

/-- The worth of a digit; what is none is 0. -/
def digN (n : Nat) : Nat := if 48 ≤ n ∧ n ≤ 57 then n - 48 else if 97 ≤ n ∧ n ≤ 102 then n - 87 else 0
theorem digN_lt (n : Nat) : digN n < 16 := by unfold digN; split <;> (try split) <;> omega

/-- The bytes of digits. -/
def dataL : List UInt8 → List UInt8
  | a :: b :: r => UInt8.ofNat (16 * digN a.toNat + digN b.toNat) :: dataL r
  | _ => []
theorem dataL_app : ∀ (n : Nat) (l m : List UInt8), l.length = 2 * n → dataL (l ++ m) = dataL l ++ dataL m
  | 0, [], m, _ => rfl
  | 0, _ :: _, _, h => by simp at h
  | n + 1, [], _, h => by simp at h
  | n + 1, [_], _, h => by simp at h; omega
  | n + 1, a :: b :: r, m, h => by
      simp only [List.cons_append, dataL]
      rw [dataL_app n r m (by simp at h; omega)]
theorem dataL_len : ∀ (n : Nat) (l : List UInt8), l.length = 2 * n → (dataL l).length = n
  | 0, [], _ => rfl
  | 0, _ :: _, h => by simp at h
  | n + 1, [], h => by simp at h
  | n + 1, [_], h => by simp at h; omega
  | n + 1, a :: b :: r, h => by
      simp only [dataL, List.length_cons]
      rw [dataL_len n r (by simp at h; omega)]
theorem dataL_short {l : List UInt8} (h : l.length < 2) : dataL l = [] := by
  match l, h with
  | [], _ => rfl
  | [_], _ => rfl
  | _ :: _ :: _, h => simp at h; omega
theorem dataL_take {l : List UInt8} {k : Nat} (h : 2 * k + 1 < l.length) : dataL (l.take (2 * (k + 1))) = dataL (l.take (2 * k)) ++ [UInt8.ofNat (16 * digN l[2 * k].toNat + digN l[2 * k + 1].toNat)] := by
  rw [show 2 * (k + 1) = 2 * k + 1 + 1 from by omega, List.take_succ_eq_append_getElem h, List.take_succ_eq_append_getElem (by omega : 2 * k < l.length), List.append_assoc, dataL_app k _ _ (by rw [List.length_take]; omega)]
  rfl
theorem dataL_full {l : List UInt8} {k : Nat} (h : 2 * k ≤ l.length) (h2 : l.length ≤ 2 * k + 1) : dataL (l.take (2 * k)) = dataL l := by
  conv => rhs; rw [← List.take_append_drop (2 * k) l]
  rw [dataL_app k _ _ (by rw [List.length_take]; omega), dataL_short (l := l.drop (2 * k)) (by rw [List.length_drop]; omega), List.append_nil]

theorem step_by {B : Nat} {wx : World} {v : Value} {l : List UInt8} {ops : Array Oper} {o : Oper} {f : Act} {K : Act → World → Prop} {Q : Exit → Act → World → Prop} {E : Prop}
    (hgd : o.guard = none) (s t : Operand) (ho : o.op = .call { callee := .builtin .append, args := #[s, t], argTypes := #[89, 89] }) (hs : f.eval s = v)
    (hown : OwnBy wx B v l) (hB : B ≤ wx.heap.size) (x : UInt8) {M : Nat} (hM : wx.heap.size = M) (hx : f.eval t = .slice (some ⟨M, 0, none⟩) 1 1) (hlen : l.length ≤ 1000000000) {z : Int} (hz : z = x.toNat)
    (h : ∀ v1 w1, OwnBy w1 B v1 (l ++ [x]) → wx.grownBy w1 v.ownBlock → K (f.put o.dst v1) w1) :
    if Region.wanted o (yielded ops f.tmps) = true then Oper.wp Tryz.prog o f (wx.alloc (.cells #[.int .u8 z] 5)) K Q else E := by
  have hw : Region.wanted o (yielded ops f.tmps) = true := by simp [Region.wanted, hgd]
  rw [if_pos hw]
  subst hM hz
  obtain ⟨i0, hi, hz0, hz1, hz2⟩ := info_parts infoBy
  obtain ⟨v1, w1, hr, hown1, hg1, _, _⟩ := run_append_own_at (P := Tryz.prog) (wx.alloc (.cells #[.int .u8 x.toNat] 5)) B 89 o.type 5 i0 _ 1 1 Tryz.underlying89 hi hz0 hz1 hz2 rfl (by decide) v l.length _ (World.ownsRow.alloc hown _) ⟨wx.heap.size, 0, none⟩ 1 1 [.int .u8 x.toNat] rfl
    (World.news_of_block (cs := #[.int .u8 x.toNat]) (t := 5) (fr := (0, 0)) (by show (wx.heap.push _)[wx.heap.size]? = _; rw [Array.getElem?_push, if_pos rfl])) (by simp [Value.oneCell']) (by unfold maxLen; omega) (by omega) (by simp; omega)
  unfold Oper.wp execOp
  simp only [ho, resolve, invoke, builtin, Sem.run_bind, Sem.run_pure, Result.andThen_ok, List.map_toArray, List.map_cons, List.map_nil, hs, hx, hr]
  refine h v1 w1 ?_ (grown_pre ((Below.refl _ _).alloc (Nat.le_refl _) _) hg1)
  unfold OwnBy byC
  rw [List.length_append, List.map_append]
  exact hown1

theorem nil_text (w : World) : (convert 89 9 (.slice none 0 0)).run Tryz.prog w = .ok (.string ⟨#[]⟩) w := by
  rw [run_convert_bytes_string w 89 9 5 none 0 0 Tryz.underlying89 Tryz.underlying5 Tryz.underlying9]
  rfl

end Go.Proofs.YtefcndfeemnglaaGreatDoor
