/- Ct25, Pn1, laid in one text. -/
import Derived.Test.YthlipnnlgkmhcaaGreatDoorMg17
namespace Go.Proofs.YthlipnnlgkmhcaaGreatDoor
open Go.RowKit Go.Maps Go.WideMaps
set_option maxRecDepth 100000

theorem cand_split (R : List Sp) (s : ByteArray) (ps : List Pn) (ts : List Vn) : candV R s ps ts = ((ts.filter (inB R)).filter (pinB s ps)) ++ ((ts.filter (inB R)).filter fun x => !pinB s ps x) := by
  unfold candV fstV othV
  congr 1
  · exact filter_two ts fun x _ => rfl
  · exact filter_two ts fun x _ => rfl
theorem cand_length (R : List Sp) (s : ByteArray) (ps : List Pn) (ts : List Vn) : (candV R s ps ts).length = (ts.filter (inB R)).length := by
  rw [cand_split, List.length_append]
  generalize ts.filter (inB R) = b
  induction b with
  | nil => rfl
  | cons x t ih =>
    cases h : pinB s ps x <;> simp [h] <;> omega
theorem split_mem {b : List Vn} {q : Vn → Bool} {x : Vn} : x ∈ (b.filter q) ++ (b.filter fun x => !q x) ↔ x ∈ b := by
  rw [List.mem_append, List.mem_filter, List.mem_filter]
  constructor
  · rintro (⟨h, _⟩ | ⟨h, _⟩) <;> exact h
  · intro h
    cases hq : q x
    · exact Or.inr ⟨h, rfl⟩
    · exact Or.inl ⟨h, rfl⟩
theorem split_nodup {b : List Vn} {q : Vn → Bool} (h : b.Pairwise fun x y => x ≠ y) : ((b.filter q) ++ (b.filter fun x => !q x)).Pairwise fun x y => x ≠ y := by
  rw [List.pairwise_append]
  refine ⟨h.filter _, h.filter _, fun x hx y hy e => ?_⟩
  subst e
  have h1 := (List.mem_filter.1 hx).2
  have h2 := (List.mem_filter.1 hy).2
  rw [h1] at h2
  cases h2
/-- Where the search for what is not pinned has come to, ahead of the i-th. -/
def atN (f : Nat) (q : Vn → Bool) (b : List Vn) (i : Nat) : Nat := if bothN q b i = 0 then 0 else f + bothN q b i - 1
theorem at_zero (f : Nat) (q : Vn → Bool) (b : List Vn) : atN f q b 0 = 0 := rfl
theorem at_le (f : Nat) (q : Vn → Bool) (b : List Vn) (i : Nat) : atN f q b i ≤ f + bothN q b i := by
  unfold atN
  split <;> omega
theorem at_free {f : Nat} {q : Vn → Bool} {b : List Vn} {i : Nat} (hi : i < b.length) (h : q b[i] = true) : atN f q b (i + 1) = f + bothN q b i := by
  unfold atN
  rw [both_succ hi, if_pos h, if_neg (by omega)]
  omega
theorem at_not {f : Nat} {q : Vn → Bool} {b : List Vn} {i : Nat} (hi : i < b.length) (h : ¬ q b[i] = true) : atN f q b (i + 1) = atN f q b i := by
  unfold atN
  rw [both_succ hi, if_neg h, Nat.add_zero]
theorem place_free {b : List Vn} {p : Vn → Bool} {i : Nat} (hi : i < b.length) (h : (!p b[i]) = true) : ∃ hl : (b.filter p).length + bothN (fun x => !p x) b i < ((b.filter p) ++ (b.filter fun x => !p x)).length, ((b.filter p) ++ (b.filter fun x => !p x))[(b.filter p).length + bothN (fun x => !p x) b i] = b[i] := by
  obtain ⟨h1, h2⟩ := both_at (q := fun x => !p x) hi h
  refine ⟨by rw [List.length_append]; omega, ?_⟩
  rw [List.getElem_append_right (by omega)]
  rw [← h2]
  congr 1
  omega
theorem cmp_gt {x y : Vn} (h : gtV x y = true) : cmpV x.a x.b x.c y.a y.b y.c = 1 := by
  rw [gtV_iff] at h
  unfold cmpV
  grind
theorem free_step (s : ByteArray) (ps : List Pn) (k : Nat) (hk : k < ps.length) (x : Vn) : decide (cntP s (ps.take (k + 1)) x = 0) = (decide (cntP s (ps.take k) x = 0) && !isPn s x ps[k]) := by
  rw [List.take_succ_eq_append_getElem hk, cntP_snoc]
  cases h : isPn s x ps[k] <;> simp
theorem free_all (s : ByteArray) (ps : List Pn) (x : Vn) : decide (cntP s (ps.take ps.length) x = 0) = !pinB s ps x := by
  rw [List.take_length]
  unfold pinB
  by_cases h : cntP s ps x = 0
  · simp [h]
  · simp [h]; omega
end Go.Proofs.YthlipnnlgkmhcaaGreatDoor
namespace Go.Proofs.YthlipnnlgkmhcaaGreatDoor
open Go.RowKit
set_option maxRecDepth 100000

theorem eqInVL (p q r p' q' r' : Int) (w : World) : (Op.equalIn 9999 31 (.agg #[.int .i64 p, .int .i64 q, .int .i64 r]) (.agg #[.int .i64 p', .int .i64 q', .int .i64 r'])).run Tryz.prog w = .ok (decide (p = p') && decide (q = q') && decide (r = r')) w := by
  have u3 := Tryz.underlying3
  have a3 := Tryz.isAgg3
  have z3 := Tryz.sizeOf3
  rw [show (9999 : Nat) = 9998 + 1 from rfl, run_equalIn_agg w 9998 31 _ _ (by kernel_rfl) (by kernel_rfl)]
  simp only [Program.fieldsOf, Tryz.underlying31]
  by_cases h1 : p = p'
  · by_cases h2 : q = q'
    · by_cases h3 : r = r'
      · subst h1 h2 h3; go_simp
      · subst h1 h2; simp only [h3, decide_false, Bool.and_false]; go_simp
    · subst h1; simp only [h2, decide_false, Bool.and_false, Bool.false_and]; go_simp
  · simp only [h1, decide_false, Bool.false_and]; go_simp

def eqPn (p q : Pn) : Bool := decide (p.nm.toList = q.nm.toList) && (decide (p.a = q.a) && decide (p.b = q.b) && decide (p.c = q.c))
theorem eqPn_iff {p q : Pn} : eqPn p q = true ↔ p = q := by
  obtain ⟨s, a, b, c⟩ := p
  obtain ⟨s', a', b', c'⟩ := q
  unfold eqPn
  simp only [Bool.and_eq_true, decide_eq_true_eq, Pn.mk.injEq]
  exact ⟨fun ⟨h1, ⟨h2, h3⟩, h4⟩ => ⟨Sc.bytes_same h1, h2, h3, h4⟩, fun ⟨h1, h2, h3, h4⟩ => ⟨by rw [h1], ⟨h2, h3⟩, h4⟩⟩
theorem guardPn (op : BinOp) (x y : Operand) (xs ys : Array Value) (w : World) : (eqGuard op 56 x y (.agg xs) (.agg ys)).run Tryz.prog w = .ok () w := run_eqGuard_agg w op 56 x y xs ys (by kernel_rfl)
theorem neqPn (p q : Pn) (w : World) : (binOp .neq 56 (.agg #[.string p.nm, .int .i64 p.a, .int .i64 p.b, .int .i64 p.c]) (.agg #[.string q.nm, .int .i64 q.a, .int .i64 q.b, .int .i64 q.c])).run Tryz.prog w = .ok (.bool (!(eqPn p q))) w := by
  obtain ⟨s, a, b, c⟩ := p
  obtain ⟨s', a', b', c'⟩ := q
  have av := Tryz.isAgg31
  have zv := Tryz.sizeOf31
  have u9 := Tryz.underlying9
  have a9 := Tryz.isAgg9
  have z9 := Tryz.sizeOf9
  have h1 := eqInVL a b c a' b' c' w
  rw [run_neq_struct, show (10000 : Nat) = 9999 + 1 from rfl, run_equalIn_agg w 9999 56 _ _ (by kernel_rfl) (by kernel_rfl)]
  simp only [Program.fieldsOf, Tryz.underlying56]
  unfold eqPn
  simp only
  by_cases hs : s.toList = s'.toList
  · obtain rfl := Sc.bytes_same hs
    by_cases hv : a = a' ∧ b = b' ∧ c = c'
    · obtain ⟨rfl, rfl, rfl⟩ := hv
      go_simp
    · have hx : (decide (a = a') && decide (b = b') && decide (c = c')) = false := by
        rw [Bool.eq_false_iff]
        intro e
        simp only [Bool.and_eq_true, decide_eq_true_eq] at e
        exact hv ⟨e.1.1, e.1.2, e.2⟩
      rw [hx]
      go_simp
      intro e1 e2 e3
      exact hv ⟨e1, e2, e3⟩
  · generalize (decide (a = a') && decide (b = b') && decide (c = c')) = xv at *
    simp only [hs, decide_false, Bool.false_and]
    go_simp
theorem eqlPn (p q : Pn) (w : World) : (binOp .eql 56 (.agg #[.string p.nm, .int .i64 p.a, .int .i64 p.b, .int .i64 p.c]) (.agg #[.string q.nm, .int .i64 q.a, .int .i64 q.b, .int .i64 q.c])).run Tryz.prog w = .ok (.bool (eqPn p q)) w := by
  obtain ⟨s, a, b, c⟩ := p
  obtain ⟨s', a', b', c'⟩ := q
  have av := Tryz.isAgg31
  have zv := Tryz.sizeOf31
  have u9 := Tryz.underlying9
  have a9 := Tryz.isAgg9
  have z9 := Tryz.sizeOf9
  have h1 := eqInVL a b c a' b' c' w
  rw [run_eql_struct, show (10000 : Nat) = 9999 + 1 from rfl, run_equalIn_agg w 9999 56 _ _ (by kernel_rfl) (by kernel_rfl)]
  simp only [Program.fieldsOf, Tryz.underlying56]
  unfold eqPn
  simp only
  by_cases hs : s.toList = s'.toList
  · obtain rfl := Sc.bytes_same hs
    by_cases hv : a = a' ∧ b = b' ∧ c = c'
    · obtain ⟨rfl, rfl, rfl⟩ := hv
      go_simp
    · have hx : (decide (a = a') && decide (b = b') && decide (c = c')) = false := by
        rw [Bool.eq_false_iff]
        intro e
        simp only [Bool.and_eq_true, decide_eq_true_eq] at e
        exact hv ⟨e.1.1, e.1.2, e.2⟩
      rw [hx]
      go_simp
      intro e1 e2 e3
      exact hv ⟨e1, e2, e3⟩
  · generalize (decide (a = a') && decide (b = b') && decide (c = c')) = xv at *
    simp only [hs, decide_false, Bool.false_and]
    go_simp

end Go.Proofs.YthlipnnlgkmhcaaGreatDoor
