/- Tf1, laid in one text. -/
import Derived.Lib.SliceRun
import Derived.Test.YtcclfaioicklaaaGreatDoorMg17
namespace Go.Proofs.YtcclfaioicklaaaGreatDoor
open Go.Shelf Go.RowKit Go.Lib Go.Sort
set_option maxRecDepth 100000

/-- The first of each run, behind one that stands ahead. -/
noncomputable def cmr : DV → List DV → List DV
  | _, [] => []
  | p, y :: r => if eqB (keyD y.d) (keyD p.d) = true then cmr y r else y :: cmr y r
/-- The first of each run. -/
noncomputable def cm : List DV → List DV
  | [] => []
  | x :: r => x :: cmr x r
theorem cmr_nil (p : DV) : cmr p [] = [] := rfl
theorem cmr_cons (p y : DV) (r : List DV) : cmr p (y :: r) = if eqB (keyD y.d) (keyD p.d) = true then cmr y r else y :: cmr y r := rfl
/-- The last one, or one that stands ahead. -/
def lsD : DV → List DV → DV
  | p, [] => p
  | _, y :: r => lsD y r
theorem cmr_snoc : ∀ (p : DV) (l : List DV) (x : DV), cmr p (l ++ [x]) = cmr p l ++ (if eqB (keyD x.d) (keyD (lsD p l).d) = true then [] else [x])
  | p, [], x => by
    rw [List.nil_append, cmr_cons, cmr_nil, cmr_nil]
    rfl
  | p, y :: r, x => by
    have ih := cmr_snoc y r x
    rw [List.cons_append, cmr_cons, cmr_cons, ih]
    show _ = _ ++ (if eqB (keyD x.d) (keyD (lsD y r).d) = true then [] else [x])
    by_cases h : eqB (keyD y.d) (keyD p.d) = true
    · rw [if_pos h, if_pos h]
    · rw [if_neg h, if_neg h, List.cons_append]
theorem lsD_take : ∀ (x : DV) (r : List DV) (k : Nat) (hk : k < (x :: r).length), lsD x (r.take k) = (x :: r)[k]
  | x, r, 0, _ => rfl
  | x, [], k + 1, hk => by simp at hk
  | x, y :: r, k + 1, hk => by
    rw [List.take_succ_cons]
    show lsD y (r.take k) = (y :: r)[k]'(by simpa using hk)
    exact lsD_take y r k (by simpa using hk)
theorem cm_snoc {l : List DV} {k : Nat} (hk : k + 1 < l.length) : cm (l.take (k + 2)) = cm (l.take (k + 1)) ++ (if eqB (keyD l[k + 1].d) (keyD l[k].d) = true then [] else [l[k + 1]]) := by
  rw [List.take_succ_eq_append_getElem hk]
  cases l with
  | nil => cases hk
  | cons x r =>
    rw [List.take_succ_cons, List.cons_append]
    show x :: cmr x (r.take k ++ [_]) = x :: cmr x (r.take k) ++ _
    rw [cmr_snoc, lsD_take x r k (by omega), List.cons_append]
theorem cmr_mem : ∀ (p : DV) (l : List DV) (q : List ByteArray × Pg), q ∈ (p :: l).map (fun x => keyD x.d) ↔ q = keyD p.d ∨ q ∈ (cmr p l).map (fun x => keyD x.d)
  | p, [], q => by simp [cmr]
  | p, y :: r, q => by
    have ih := cmr_mem y r q
    rw [List.map_cons, List.mem_cons, ih, cmr_cons]
    by_cases h : eqB (keyD y.d) (keyD p.d) = true
    · rw [if_pos h, eqB_iff.1 h]
      constructor
      · rintro (h | h | h)
        · exact Or.inl h
        · exact Or.inl h
        · exact Or.inr h
      · rintro (h | h)
        · exact Or.inl h
        · exact Or.inr (Or.inr h)
    · rw [if_neg h, List.map_cons, List.mem_cons]
theorem cm_mem (l : List DV) (q : List ByteArray × Pg) : q ∈ (cm l).map (fun x => keyD x.d) ↔ q ∈ l.map (fun x => keyD x.d) := by
  cases l with
  | nil => simp [cm]
  | cons x r =>
    rw [cmr_mem x r q]
    show q ∈ keyD x.d :: _ ↔ _
    rw [List.mem_cons]
theorem cmr_sub : ∀ (p : DV) (l : List DV), (cmr p l).Sublist l
  | _, [] => List.Sublist.refl _
  | p, y :: r => by
    rw [cmr_cons]
    split
    · exact (cmr_sub y r).cons _
    · exact (cmr_sub y r).cons_cons _
theorem cm_sub (l : List DV) : (cm l).Sublist l := by
  cases l with
  | nil => exact List.Sublist.refl _
  | cons x r => exact (cmr_sub x r).cons_cons _
theorem cmr_strict : ∀ (p : DV) (l : List DV), ((p :: l).Pairwise fun x y => 0 ≤ cmpK (keyD y.d) (keyD x.d)) → (∀ y ∈ cmr p l, cmpK (keyD p.d) (keyD y.d) < 0) ∧ (cmr p l).Pairwise fun x y => cmpK (keyD x.d) (keyD y.d) < 0
  | p, [], _ => ⟨(fun y hy => by cases hy), List.Pairwise.nil⟩
  | p, y :: r, h => by
    obtain ⟨h1, h2⟩ := List.pairwise_cons.1 h
    obtain ⟨i1, i2⟩ := cmr_strict y r h2
    have hpy := h1 y List.mem_cons_self
    rw [cmr_cons]
    by_cases e : eqB (keyD y.d) (keyD p.d) = true
    · rw [if_pos e, ← eqB_iff.1 e]
      exact ⟨i1, i2⟩
    · rw [if_neg e]
      have hlt : cmpK (keyD p.d) (keyD y.d) < 0 := by
        rcases ordK.tri (keyD p.d) (keyD y.d) with q | q | q
        · exact q
        · exact absurd (eqB_yes q.symm) e
        · omega
      refine ⟨fun z hz => ?_, List.pairwise_cons.2 ⟨i1, i2⟩⟩
      rcases List.mem_cons.1 hz with rfl | hz
      · exact hlt
      · exact ordK.trans _ _ _ hlt (i1 z hz)
theorem cm_strict {l : List DV} (h : l.Pairwise fun x y => 0 ≤ cmpK (keyD y.d) (keyD x.d)) : (cm l).Pairwise fun x y => cmpK (keyD x.d) (keyD y.d) < 0 := by
  cases l with
  | nil => exact List.Pairwise.nil
  | cons x r =>
    obtain ⟨h1, h2⟩ := cmr_strict x r h
    exact List.pairwise_cons.2 ⟨h1, h2⟩

/-- Directories lie in a row, cell by cell, and may be written over. -/
def RowD (w : World) (g : Nat) (zs : List DV) : Prop := ∀ i (h : i < zs.length) r, r < 9 → w.cell? ⟨g, i * 9 + r, none⟩ = (encD zs[i])[r]? ∧ w.frozen? ⟨g, i * 9 + r, none⟩ = false
theorem RowD.lt {w : World} {g : Nat} {zs : List DV} (h : RowD w g zs) (h0 : 0 < zs.length) : g < w.heap.size := by
  have q := (h 0 h0 0 (by decide)).1
  rcases Nat.lt_or_ge g w.heap.size with p | p
  · exact p
  · simp [World.cell?, Array.getElem?_eq_none p, encD] at q
theorem RowD.below {w w' : World} {g : Nat} {zs : List DV} (h : RowD w g zs) (h0 : 0 < zs.length) (hb : Below w.heap.size w w') : RowD w' g zs := fun i hi r hr => by
  have hg := h.lt h0
  have e := hb.block g hg
  refine ⟨(hb.cell (p := ⟨g, i * 9 + r, none⟩) hg).trans (h i hi r hr).1, ?_⟩
  have q := (h i hi r hr).2
  unfold World.frozen? at q ⊢
  simp only [e]
  exact q
theorem OwnDr.row {w0 w : World} {B : Nat} {v : Value} {xs : List DV} (h : OwnDr w0 w B v xs) (h0 : 0 < xs.length) : ∃ g cap, v = .slice (some ⟨g, 0, none⟩) xs.length cap ∧ xs.length ≤ cap ∧ B ≤ g ∧ RowD w g xs := by
  have h1 := h.1
  haveI : Inhabited DV := ⟨⟨⟨[], zeroPg, 0⟩, undef, undef, undef, undef⟩⟩
  rcases h.1.2 with ⟨rfl, hn⟩ | ⟨g, cap, cur, rfl, hB, hg, hc, _⟩
  · omega
  · refine ⟨g, cap, rfl, hc, hB, fun i hi r hr => ⟨?_, ?_⟩⟩
    · have := World.ownsRow.cellAt h1 (i * 9 + r) (by omega)
      rw [this, flatMap_get encD 9 encD_len xs i r hi hr, getElem!_pos xs i hi]
    · simp [World.frozen?, hg]
theorem encD_some (x : DV) {r : Nat} (hr : r < 9) : ∃ u, (encD x)[r]? = some u := ⟨_, List.getElem?_eq_getElem (by rw [encD_len]; exact hr)⟩
theorem RowD.set {w : World} {g : Nat} {zs : List DV} (h : RowD w g zs) (k : Nat) (x : DV) : RowD (w.setCells g (k * 9) (encD x)) g (zs.set k x) := fun i hi r hr => by
  rw [List.length_set] at hi
  refine ⟨?_, by rw [World.frozen?_setCells]; exact (h i hi r hr).2⟩
  by_cases e : k = i
  · subst e
    rw [List.getElem_set_self]
    have q := World.cell?_setCells_in g (encD x) (k * 9) w (fun j hj => by
      rw [encD_len] at hj
      rw [(h k hi j hj).1]
      obtain ⟨u, hu⟩ := encD_some zs[k] hj
      rw [hu]
      rfl) r (by rw [encD_len]; exact hr)
    rw [q, List.getElem?_eq_getElem (by rw [encD_len]; exact hr)]
  · rw [List.getElem_set_ne e]
    rw [World.cell?_setCells_out g (encD x) (k * 9) w ⟨g, i * 9 + r, none⟩ (fun _ _ => by rw [encD_len]; show i * 9 + r < k * 9 ∨ k * 9 + 9 ≤ i * 9 + r; omega)]
    exact (h i hi r hr).1
theorem RowD.cleared {w : World} {g : Nat} {zs : List DV} (h : RowD w g zs) (k : Nat) (Z : List Value) : RowD (w.setCells g (k * 9) Z) g (zs.take k) := fun i hi r hr => by
  rw [List.length_take] at hi
  refine ⟨?_, by rw [World.frozen?_setCells]; exact (h i (by omega) r hr).2⟩
  rw [List.getElem_take, World.cell?_setCells_out g Z (k * 9) w ⟨g, i * 9 + r, none⟩ (fun _ _ => by show i * 9 + r < k * 9 ∨ _; omega)]
  exact (h i (by omega) r hr).1
/-- A row is there as directories. -/
theorem RowD.at {w0 w : World} {g : Nat} {zs : List DV} (h : RowD w g zs) (hin : ∀ x ∈ zs, InD w0 x) (hb : Below w0.heap.size w0 w) (cap : Nat) (hc : zs.length ≤ cap) : DirsAt w (.slice (some ⟨g, 0, none⟩) zs.length cap) (zs.map (·.d)) := by
  refine ⟨_, cap, by rw [List.length_map], by rw [List.length_map]; exact hc, ?_⟩
  cases hz : zs with
  | nil => exact Or.inl rfl
  | cons x r =>
    rw [← hz]
    refine Or.inr ⟨g, 0, rfl, fun i hi => ?_⟩
    rw [List.length_map] at hi
    have hi2 := (hin zs[i] (List.getElem_mem hi)).below hb
    rw [List.getElem_map, Nat.zero_add]
    have q : ∀ r u, r < 9 → (encD zs[i])[r]? = some u → w.cell? ⟨g, i * 9 + r, none⟩ = some u := fun r u hr hu => (h i hi r hr).1.trans hu
    exact ⟨zs[i].u, zs[i].v1, zs[i].v2, zs[i].v3, ⟨q 0 _ (by decide) rfl, q 1 _ (by decide) rfl, q 2 _ (by decide) rfl, q 3 _ (by decide) rfl, q 4 _ (by decide) rfl, q 5 _ (by decide) rfl, q 6 _ (by decide) rfl, q 7 _ (by decide) rfl, q 8 _ (by decide) rfl⟩, hi2.1, h.lt (by omega)⟩
/-- One of the row. -/
theorem RowD.el {w0 w : World} {g : Nat} {zs : List DV} (h : RowD w g zs) (hb : Below w0.heap.size w0 w) {i : Nat} (hi : i < zs.length) (hin : InD w0 zs[i]) : DrIn w g (i * 9) zs[i].d zs[i].u zs[i].v1 zs[i].v2 zs[i].v3 := by
  have hi2 := hin.below hb
  have q : ∀ r u, r < 9 → (encD zs[i])[r]? = some u → w.cell? ⟨g, i * 9 + r, none⟩ = some u := fun r u hr hu => (h i hi r hr).1.trans hu
  exact ⟨⟨q 0 _ (by decide) rfl, q 1 _ (by decide) rfl, q 2 _ (by decide) rfl, q 3 _ (by decide) rfl, q 4 _ (by decide) rfl, q 5 _ (by decide) rfl, q 6 _ (by decide) rfl, q 7 _ (by decide) rfl, q 8 _ (by decide) rfl⟩, hi2.1, h.lt (by omega)⟩
/-- clear of directories. -/
theorem run_clear_dirs (w : World) (b k n c : Nat) (hn : 0 < n) {zs : List DV} (h : RowD w b zs) (hk : k + n ≤ zs.length) :
    ∃ Z, ∀ ty, (Builtin.clear_ #[22] ty #[.slice (some ⟨b, k * 9, none⟩) n c]).run Tryz.prog w = .ok (.tuple #[]) (w.setCells b (k * 9) Z) := by
  refine ⟨(Builtin.zeroCells (Value.agg #[.slice none 0 0, .string ⟨#[]⟩, .int .i64 0, .int .i64 0, .int .i64 0, .slice none 0 0, .slice none 0 0, .slice none 0 0, .int .i64 0]).cells n).toList, fun ty => ?_⟩
  have hlen : (Builtin.zeroCells (Value.agg #[.slice none 0 0, .string ⟨#[]⟩, .int .i64 0, .int .i64 0, .int .i64 0, .slice none 0 0, .slice none 0 0, .slice none 0 0, .int .i64 0]).cells n).toList.length = n * 9 := by
    simp [Builtin.zeroCells, Value.cells]
  have hst := run_storeCells_cells (P := Tryz.prog) b (k * 9) (Builtin.zeroCells (Value.agg #[.slice none 0 0, .string ⟨#[]⟩, .int .i64 0, .int .i64 0, .int .i64 0, .slice none 0 0, .slice none 0 0, .slice none 0 0, .int .i64 0]).cells n).toList 0 w (fun j hj => by
    rw [hlen] at hj
    have q := (h (k + j / 9) (by omega) (j % 9) (Nat.mod_lt _ (by decide))).1
    rw [show (k + j / 9) * 9 + j % 9 = k * 9 + 0 + j by omega] at q
    rw [q]
    obtain ⟨u, hu⟩ := encD_some (zs[k + j / 9]'(by omega)) (Nat.mod_lt j (by decide : 0 < 9))
    rw [hu]
    rfl) (fun j hj => by
    rw [hlen] at hj
    have q := (h (k + j / 9) (by omega) (j % 9) (Nat.mod_lt _ (by decide))).2
    rw [show (k + j / 9) * 9 + j % 9 = k * 9 + 0 + j by omega] at q
    exact q) (fun u hu => by
    unfold Builtin.zeroCells at hu
    rw [Array.toList_map, List.mem_map] at hu
    obtain ⟨i, _, rfl⟩ := hu
    have hz : ∀ r : Nat, r < 9 → ((#[.slice none 0 0, .string ⟨#[]⟩, .int .i64 0, .int .i64 0, .int .i64 0, .slice none 0 0, .slice none 0 0, .slice none 0 0, .int .i64 0] : Array Value)[r]!).oneCell' = true := fun r hr => by
      rcases (show r = 0 ∨ r = 1 ∨ r = 2 ∨ r = 3 ∨ r = 4 ∨ r = 5 ∨ r = 6 ∨ r = 7 ∨ r = 8 by omega) with rfl | rfl | rfl | rfl | rfl | rfl | rfl | rfl | rfl <;> rfl
    exact hz (i % 9) (Nat.mod_lt _ (by decide)))
  simp only [Nat.add_zero] at hst
  obtain ⟨m, rfl⟩ : ∃ m, n = m + 1 := ⟨n - 1, by omega⟩
  simp [Builtin.clear_, run_underlying Tryz.underlying22, Tryz.zeroValue46, hst]
end Go.Proofs.YtcclfaioicklaaaGreatDoor
