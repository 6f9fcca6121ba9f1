/- Deeds compared; the law's small whole (lives). No condition. -/
import Derived.Test.YtcpmfhalphoppaaDoorDx8
import Derived.Laws.StructEq
namespace Go.Proofs.YtcpmfhalphoppaaDoor
open Go.RowKit Go.Maps Go.WideMaps Go.WideElems Dk
set_option maxRecDepth 100000

/-- Are two deeds the same? -/
def eqDe (x y : De) : Bool := decide (x.kd = y.kd) && (decide (x.pa.toList = y.pa.toList) && decide (x.da.toList = y.da.toList))
theorem eqDe_iff {x y : De} : eqDe x y = true ↔ x = y := by
  obtain ⟨a, b, c⟩ := x
  obtain ⟨d, e, f⟩ := y
  unfold eqDe
  simp only [Bool.and_eq_true, decide_eq_true_eq, De.mk.injEq]
  refine ⟨fun ⟨h1, h2, h3⟩ => ⟨h1, ?_, ?_⟩, fun ⟨h1, h2, h3⟩ => ⟨h1, by rw [h2], by rw [h3]⟩⟩
  · exact beq_bytes.1 (beq_iff_eq.2 h2)
  · exact beq_bytes.1 (beq_iff_eq.2 h3)
theorem eqInDe (x y : De) (w : World) : (Op.equalIn 10000 33 (.agg #[.int .i64 x.kd, .string x.pa, .string x.da]) (.agg #[.int .i64 y.kd, .string y.pa, .string y.da])).run Tryd.prog w = .ok (eqDe x y) w := by
  obtain ⟨k, p, t⟩ := x
  obtain ⟨k', p', t'⟩ := y
  have u3 := Tryd.underlying3
  have a3 := Tryd.isAgg3
  have z3 := Tryd.sizeOf3
  have u9 := Tryd.underlying9
  have a9 := Tryd.isAgg9
  have z9 := Tryd.sizeOf9
  rw [show (10000 : Nat) = 9999 + 1 from rfl, run_equalIn_agg w 9999 33 _ _ (by kernel_rfl) (by kernel_rfl)]
  unfold eqDe
  simp only [Program.fieldsOf, Tryd.underlying33]
  by_cases h1 : k = k'
  · subst h1
    by_cases h2 : p.toList = p'.toList
    · by_cases h3 : t.toList = t'.toList
      · simp only [h2, h3, decide_true, Bool.and_true]; go_simp
      · simp only [h2, h3, decide_true, decide_false, Bool.and_false]; go_simp
    · simp only [h2, decide_true, decide_false, Bool.and_false, Bool.false_and]; go_simp
  · simp only [h1, decide_false, Bool.false_and]; go_simp
theorem neqDe (x y : De) (w : World) : (binOp .neq 33 (.agg #[.int .i64 x.kd, .string x.pa, .string x.da]) (.agg #[.int .i64 y.kd, .string y.pa, .string y.da])).run Tryd.prog w = .ok (.bool (!(eqDe x y))) w := by
  rw [run_neq_struct, eqInDe]; rfl
theorem eqlDe (x y : De) (w : World) : (binOp .eql 33 (.agg #[.int .i64 x.kd, .string x.pa, .string x.da]) (.agg #[.int .i64 y.kd, .string y.pa, .string y.da])).run Tryd.prog w = .ok (.bool (eqDe x y)) w := by
  rw [run_eql_struct, eqInDe]; rfl
theorem guardDe (op : BinOp) (x y : Operand) (xs ys : Array Value) (w : World) : (eqGuard op 33 x y (.agg xs) (.agg ys)).run Tryd.prog w = .ok () w := run_eqGuard_agg w op 33 x y xs ys (by kernel_rfl)

theorem loads_one (f : Fl) (h1 : okF f = true) (h2 : kindD (loadD []) f.1 = 0) (h3 : parentD (loadD [f]) f.1 = 0) : Loads [f] := by
  refine ⟨fun i hi => ?_, fun i hi => ?_⟩
  · obtain rfl : i = 0 := by simpa using hi
    exact ⟨h1, h2⟩
  · obtain rfl : i = 0 := by simpa using hi
    exact h3
def fA : Fl := (⟨#[47, 97]⟩, false, ⟨#[120]⟩)
def fB : Fl := (⟨#[47, 98]⟩, false, ⟨#[121]⟩)
def fJ : Fl := (⟨#[47, 106, 111, 117, 114, 110, 97, 108]⟩, true, ⟨#[]⟩)
theorem okA : OkJ [fA] := ⟨loads_one fA (by decide +kernel) (by decide +kernel) (by decide +kernel), fun f hf => by rw [List.mem_singleton.1 hf]; decide +kernel⟩
theorem okB : OkJ [fB] := ⟨loads_one fB (by decide +kernel) (by decide +kernel) (by decide +kernel), fun f hf => by rw [List.mem_singleton.1 hf]; decide +kernel⟩
theorem noJ : ¬ OkJ [fJ] := fun h => by
  have h1 := h.2 fJ (List.mem_singleton.2 rfl)
  exact absurd h1 (by decide +kernel)
theorem deedsAB : deeds [fA] [fB] = [⟨1, ⟨#[47, 97]⟩, ⟨#[]⟩⟩, ⟨4, ⟨#[47, 98]⟩, ⟨#[121]⟩⟩] := by kernel_rfl
theorem files_new (w : World) (f : Fl) : IsFiles (w.alloc (.cells #[.string f.1, .bool f.2.1, .string f.2.2] 31)) (some ⟨w.heap.size, 0, none⟩) [f] := by
  refine Or.inr ⟨w.heap.size, 0, rfl, by simp, fun k hk => ?_⟩
  obtain rfl : k = 0 := by simpa using hk
  simp
theorem OwnDe.cells {w : World} {B g n cap : Nat} {ds : List De} (h : OwnDe w B (.slice (some ⟨g, 0, none⟩) n cap) ds) (k : Nat) (hk : k < ds.length) :
    w.cell? ⟨g, k * 3, none⟩ = some (.int .i64 ds[k].kd) ∧ w.cell? ⟨g, k * 3 + 1, none⟩ = some (.string ds[k].pa) ∧ w.cell? ⟨g, k * 3 + 1 + 1, none⟩ = some (.string ds[k].da) := by
  have hg : ∀ (l : List De) (k : Nat) (hk : k < l.length), (l.flatMap encE)[k * 3]? = some (.int .i64 l[k].kd) ∧ (l.flatMap encE)[k * 3 + 1]? = some (.string l[k].pa) ∧ (l.flatMap encE)[k * 3 + 1 + 1]? = some (.string l[k].da) := by
    intro l
    induction l with
    | nil => intro k hk; cases hk
    | cons x r ih =>
      intro k hk
      cases k with
      | zero => simp [encE]
      | succ k =>
        have := ih k (by simpa using hk)
        rw [List.flatMap_cons]
        have e : ∀ j, (encE x ++ r.flatMap encE)[j + 3]? = (r.flatMap encE)[j]? := fun j => by
          rw [List.getElem?_append_right (by simp [encE])]
          simp [encE]
        rw [show (k + 1) * 3 = k * 3 + 3 by omega, show k * 3 + 3 + 1 = k * 3 + 1 + 3 by omega, show k * 3 + 1 + 3 + 1 = k * 3 + 1 + 1 + 3 by omega, e, e, e]
        simpa using this
  obtain ⟨h0, h1, h2⟩ := hg ds k hk
  obtain ⟨ad, cap2, hv, _⟩ := h.sl
  cases hv
  exact ⟨row_cells h _ _ h0, row_cells h _ _ h1, row_cells h _ _ h2⟩
theorem OwnDe.some {w : World} {B : Nat} {v : Value} {ds : List De} (h : OwnDe w B v ds) (h0 : 0 < ds.length) : ∃ g cap, v = .slice (some ⟨g, 0, none⟩) ds.length cap ∧ g < w.heap.size ∧ B ≤ g := by
  rcases h.2 with ⟨rfl, hn⟩ | ⟨g, cap, cur, rfl, hb, hg, hc, _⟩
  · omega
  · exact ⟨g, cap, rfl, (Array.getElem?_eq_some_iff.1 hg).1, hb⟩

set_option maxHeartbeats 4000000 in
/-- The law's small whole lives. -/
theorem lives_any (m : Int) (w : World) (hm : w.cell? ⟨0, 0, none⟩ = some (.int .i64 m)) : Calls Tryd.prog 9 #[] w fun e w' => e = .returned (.bool true) ∧ Below w.heap.size w w' := by
  obtain ⟨W, hW⟩ : ∃ W, W = (w.alloc (.cells #[.string ⟨#[47, 97]⟩, .bool false, .string ⟨#[120]⟩] 31)).alloc (.cells #[.string ⟨#[47, 98]⟩, .bool false, .string ⟨#[121]⟩] 31) := ⟨_, rfl⟩
  have hb : Below w.heap.size w W := by rw [hW]; exact ((Below.refl _ _).alloc (Nat.le_refl _) _).alloc (by simp) _
  have hmW : W.cell? ⟨0, 0, none⟩ = some (.int .i64 m) := (hb.cell (p := ⟨0, 0, none⟩) (cell_lt hm)).trans hm
  have hs1 : (w.alloc (.cells #[.string ⟨#[47, 97]⟩, .bool false, .string ⟨#[120]⟩] 31)).heap.size = w.heap.size + 1 := by simp
  have hcA : IsFiles W (some ⟨w.heap.size, 0, none⟩) [fA] := by rw [hW]; exact (files_new w fA).below ((Below.refl _ _).alloc (Nat.le_refl _) _)
  have hcB : IsFiles W (some ⟨w.heap.size + 1, 0, none⟩) [fB] := by rw [hW, ← hs1]; exact files_new _ fB
  have HD1 : Hid (Calls Tryd.prog 6 #[.slice (some ⟨w.heap.size, 0, none⟩) 1 1, .slice (some ⟨w.heap.size + 1, 0, none⟩) 1 1] W fun e w' => Below W.heap.size W w' ∧ ∃ g cap, e = .returned (.tuple #[.slice (some ⟨g, 0, none⟩) 2 cap, .int .i64 0]) ∧ g < w'.heap.size ∧ OwnDe w' W.heap.size (.slice (some ⟨g, 0, none⟩) 2 cap) [⟨1, ⟨#[47, 97]⟩, ⟨#[]⟩⟩, ⟨4, ⟨#[47, 98]⟩, ⟨#[121]⟩⟩]) :=
    (deeds_any [fA] [fB] _ _ 1 1 m W hmW (by decide) (by decide) hcA hcB (fun f hf => by rw [List.mem_singleton.1 hf]; exact ⟨by decide, by decide⟩) (fun f hf => by rw [List.mem_singleton.1 hf]; exact ⟨by decide, by decide⟩)).mono fun e w' hq => by
      obtain ⟨hb, ⟨_, v, he, hd⟩ | ⟨hn, _⟩⟩ := hq
      · rw [deedsAB] at hd
        obtain ⟨g, cap, rfl, hg, _⟩ := hd.some (by decide)
        exact ⟨hb, g, cap, he, hg, hd⟩
      · exact absurd ⟨okA, okB⟩ hn
  have HD2 : Hid (∀ X : World, X.cell? ⟨0, 0, none⟩ = some (.int .i64 m) → Calls Tryd.prog 6 #[.slice none 0 0, .slice (some ⟨X.heap.size, 0, none⟩) 1 1] (X.alloc (.cells #[.string ⟨#[47, 106, 111, 117, 114, 110, 97, 108]⟩, .bool true, .string ⟨#[]⟩] 31)) fun e w' => Below X.heap.size X w' ∧ e = .returned (.tuple #[.slice none 0 0, .int .i64 1])) := fun X hX => by
    have hbX : Below X.heap.size X (X.alloc (.cells #[.string ⟨#[47, 106, 111, 117, 114, 110, 97, 108]⟩, .bool true, .string ⟨#[]⟩] 31)) := (Below.refl _ _).alloc (Nat.le_refl _) _
    refine (deeds_any [] [fJ] none _ 0 1 m _ ((hbX.cell (p := ⟨0, 0, none⟩) (cell_lt hX)).trans hX) (by decide) (by decide) (Or.inl rfl) (files_new X fJ) (fun f hf => by cases hf) (fun f hf => by rw [List.mem_singleton.1 hf]; exact ⟨by decide, by decide⟩)).mono fun e w' hq => ?_
    obtain ⟨hb, ⟨⟨_, h⟩, _⟩ | ⟨_, he⟩⟩ := hq
    · exact absurd h noJ
    · exact ⟨hbX.trans (hb.mono hbX.size), he⟩
  have HB := hide3 hb
  have HMW := hide3 hmW
  have q1 := fun w => eqlDe ⟨1, ⟨#[47, 97]⟩, ⟨#[]⟩⟩ ⟨1, ⟨#[47, 97]⟩, ⟨#[]⟩⟩ w
  have q2 := fun w => eqlDe ⟨4, ⟨#[47, 98]⟩, ⟨#[121]⟩⟩ ⟨4, ⟨#[47, 98]⟩, ⟨#[121]⟩⟩ w
  rw [eqDe_iff.2 rfl] at q1 q2
  simp only at q1 q2
  have HGD := fun op x y xs ys w => guardDe op x y xs ys w
  clear hb hmW hs1 hcA hcB hm
  subst hW
  go_enter Tryd.func9, Tryd.ntmps9
  go_upto_region 2 with (go_at_call 6; refine HD1.out.mono ?_; rintro e w1 ⟨hb1, g, cap, rfl, hg, ho⟩; have HB1 := hide3 hb1; have HO := hide3 ho; have HG := hide3 hg; have HM1 := hide3 ((hb1.cell (p := ⟨0, 0, none⟩) (cell_lt HMW.out)).trans HMW.out); clear hb1 ho hg)
  go_upto_region 3 with (go_at_call 6; refine (HD2.out _ HM1.out).mono ?_; rintro e w2 ⟨hb2, rfl⟩; have HB2 := hide3 hb2; clear hb2)
  have hO2 := HO.out.below HB2.out
  obtain ⟨c0, c1, c2⟩ := hO2.cells 0 (by decide)
  obtain ⟨c3, c4, c5⟩ := hO2.cells 1 (by decide)
  simp only [List.getElem_cons_zero, List.getElem_cons_succ, Nat.zero_mul, Nat.one_mul, Nat.zero_add] at c0 c1 c2 c3 c4 c5
  have HBF := hide3 (HB.out.trans ((HB1.out.trans (HB2.out.mono HB1.out.size)).mono HB.out.size))
  clear hO2
  go_wp2
  go_ret
  exact ⟨rfl, HBF.out⟩
end Go.Proofs.YtcpmfhalphoppaaDoor
