/- Bk1, Ct22, Ct25, Ct28, Pk9, Pk10, Wa1, Wa2, laid in one text. -/
import Derived.Test.YtjpmlagofcgheaaGreatDoorRows
import Derived.Deep.DeepHandedRow
import Derived.Deep.DeepWitnessRowRef
import Derived.Maps.OwnSet
import Derived.Deep.AppendLies
import Derived.Test.YtjpmlagofcgheaaGreatDoorMg13
namespace Go.Proofs.YtjpmlagofcgheaaGreatDoor
open Go.ChangeShapes Go.WideShapes Go.ChangeAt Go.RowKit Go.ChangeMaps
set_option maxRecDepth 100000

theorem bulk_pos {H : Type} (d : DataW H) : 1 ≤ Rows.uptoBulk d := by
  cases d with
  | lit l => cases l <;> simp [Rows.uptoBulk]
  | _ => simp [Rows.uptoBulk]
theorem bulk_len {H : Type} : ∀ l : List (DataW H), l.length ≤ Rows.uptoBulkAll l
  | [] => by simp [Rows.uptoBulkAll]
  | d :: r => by
    have h1 := bulk_pos d
    have h2 := bulk_len r
    simp only [Rows.uptoBulkAll, List.length_cons]
    omega

/-- A list is no longer than its bulk. -/
theorem slice_bulk {H : Type} {enc : TypeId × Value → H} {W : World} {base : Nat} {held : Bool} {t e : TypeId} (ht : Tryz.prog.underlying t = some (.slice e)) {ad : Option Addr} {len cap : Nat} {d : DataW H} {p : List MemPlace} (h : DataW.Trod enc Tryz.prog W base (fun _ => true) held t (.slice ad len cap) d p) : len ≤ Rows.uptoBulk d := by
  obtain ⟨fuel, hf⟩ := h
  have hf' : DataW.trod enc Tryz.prog W base (fun _ => true) held fuel t [.slice ad len cap] = some (d, p) := by simpa [Value.cells] using hf
  rcases Go.Deep.open_slice ht hf' with ⟨hcs, _⟩ | ⟨a, l, c, m, n, D, Pl, hcs, _, hl, _, hm, hx, _⟩
  · simp only [List.cons.injEq, Value.slice.injEq, and_true] at hcs
    omega
  · simp only [List.cons.injEq, Value.slice.injEq, and_true] at hcs
    obtain ⟨rfl, rfl, rfl⟩ := hcs
    injection hx with hx1 _
    subst hx1
    have h1 := bulk_len ((List.range len).map D)
    have h2 := bulk_len ((List.range (m - len)).map fun j => D (len + j))
    rw [List.length_map, List.length_range] at h1
    simp only [Rows.uptoBulk]
    omega

theorem list4W {α : Type} {l : List α} (h : l.length = 4) : ∃ a b c d, l = [a, b, c, d] := by
  match l, h with
  | [a, b, c, d], _ => exact ⟨a, b, c, d, rfl⟩

theorem cellsManW : Tryz.prog.cellsOf 54 = 4 := by kernel_rfl
end Go.Proofs.YtjpmlagofcgheaaGreatDoor
namespace Go.Proofs.YtjpmlagofcgheaaGreatDoor
open Go.RowKit Go.Maps Go.WideMaps
set_option maxRecDepth 100000

theorem cand_nil (R : List Sp) (s : ByteArray) (ts : List Vn) : candV R s [] ts = ts.filter (inB R) := by
  unfold candV fstV othV
  have e1 : (ts.filter fun x => inB R x && pinB s [] x) = [] := by
    rw [List.filter_eq_nil_iff]
    intro x _
    simp [pinB, cntP]
  rw [e1, List.nil_append]
  congr 1
  funext x
  simp [pinB, cntP]
theorem told_may {w : World} {B C M : Nat} {L : List CV} (h : CatAt w B C M L) {s : ByteArray} {ts : List Vn} (ht : Told L s ts) {x : Vn} (hx : x ∈ ts) : mayV x.a x.b x.c = true := by
  obtain ⟨y, hy, rfl⟩ := List.mem_map.1 (ht.1.mem_iff.1 hx)
  have hw := (h.2.2.1 y (List.mem_filter.1 hy).1).1.2
  unfold writtenB soundB at hw
  simp only [Bool.and_eq_true] at hw
  exact hw.1.1.1.2
theorem told_nodup {L : List CV} {s : ByteArray} {ts : List Vn} (ht : Told L s ts) : ts.Pairwise fun x y => x ≠ y := ht.2.imp fun {x y} h e => by
  subst e
  have q := gtV_iff.1 h
  omega
theorem in_both {A B : Rg} (hA : RangeR A) (hB : RangeR B) (la : A.length ≤ 64) (lb : B.length ≤ 64) (hm : RangeR (meetR A B)) (lm : (meetR A B).length ≤ 64) (hj : RangeR (joinR A B)) (lj : (joinR A B).length ≤ 64) (x : Vn) :
    inB ((meetR A B).map spR) x = (inB (A.map spR) x && inB (B.map spR) x) ∧ inB ((joinR A B).map spR) x = (inB (A.map spR) x || inB (B.map spR) x) := by
  unfold inB
  constructor
  · rw [Bool.eq_iff_iff, Bool.and_eq_true, in_rg hm lm, in_rg hA la, in_rg hB lb, meet_in hA hB]
    exact ⟨fun q => ⟨⟨q.1, q.2.1⟩, q.1, q.2.2⟩, fun q => ⟨q.1.1, q.1.2, q.2.2⟩⟩
  · rw [Bool.eq_iff_iff, Bool.or_eq_true, in_rg hj lj, in_rg hA la, in_rg hB lb, join_in hA hB]
    constructor
    · rintro ⟨q, h | h⟩
      · exact Or.inl ⟨q, h⟩
      · exact Or.inr ⟨q, h⟩
    · rintro (⟨q, h⟩ | ⟨q, h⟩)
      · exact ⟨q, Or.inl h⟩
      · exact ⟨q, Or.inr h⟩
theorem filter_two {α : Type} (ts : List α) {p q r : α → Bool} (h : ∀ x ∈ ts, r x = (p x && q x)) : ts.filter r = (ts.filter p).filter q := by
  rw [List.filter_filter]
  refine List.filter_congr fun x hx => ?_
  rw [h x hx, Bool.and_comm]
theorem filter_count {α : Type} (ts : List α) {p q r o : α → Bool} (h : ∀ x ∈ ts, r x = (p x && q x)) (h' : ∀ x ∈ ts, o x = (p x || q x)) : (ts.filter o).length + (ts.filter r).length = (ts.filter p).length + (ts.filter q).length := by
  induction ts with
  | nil => rfl
  | cons x t ih =>
    have i := ih (fun y hy => h y (List.mem_cons_of_mem _ hy)) (fun y hy => h' y (List.mem_cons_of_mem _ hy))
    have e1 := h x List.mem_cons_self
    have e2 := h' x List.mem_cons_self
    cases hp : p x <;> cases hq : q x <;> rw [hp, hq] at e1 e2 <;> simp [hp, hq, e1, e2] <;> omega
/-- How many of the first i are in both. -/
def bothN (q : Vn → Bool) (a : List Vn) (i : Nat) : Nat := ((a.take i).filter q).length
theorem both_at {q : Vn → Bool} {a : List Vn} {i : Nat} (hi : i < a.length) (hq : q a[i] = true) : ∃ h : bothN q a i < (a.filter q).length, (a.filter q)[bothN q a i] = a[i] := by
  have e : a.filter q = (a.take i).filter q ++ (a[i] :: (a.drop (i + 1)).filter q) := by
    conv => lhs; rw [← List.take_append_drop i a, List.filter_append, List.drop_eq_getElem_cons hi, List.filter_cons, if_pos hq]
  have hl : bothN q a i < (a.filter q).length := by
    rw [e, List.length_append, List.length_cons]
    unfold bothN
    omega
  refine ⟨hl, ?_⟩
  have h2 : (a.filter q)[bothN q a i]? = some a[i] := by
    unfold bothN
    rw [e, List.getElem?_append_right (Nat.le_refl _), Nat.sub_self]
    rfl
  rw [List.getElem?_eq_getElem hl] at h2
  exact Option.some.inj h2
theorem both_succ {q : Vn → Bool} {a : List Vn} {i : Nat} (hi : i < a.length) : bothN q a (i + 1) = bothN q a i + (if q a[i] = true then 1 else 0) := by
  unfold bothN
  rw [List.take_succ_eq_append_getElem hi, List.filter_append, List.length_append]
  by_cases h : q a[i] = true
  · simp [h]
  · simp [h]
theorem both_all (q : Vn → Bool) (a : List Vn) : bothN q a a.length = (a.filter q).length := by
  unfold bothN
  rw [List.take_length]
theorem both_le (q : Vn → Bool) (a : List Vn) (i : Nat) : bothN q a i ≤ a.length := by
  unfold bothN
  exact Nat.le_trans (List.length_filter_le _ _) (by rw [List.length_take]; omega)
/-- Has it been met among the first k? -/
noncomputable def metN (x : Vn) (b : List Vn) (k : Nat) : Nat := if x ∈ b.take k then 1 else 0
theorem met_no {x : Vn} {b : List Vn} {k : Nat} (hk : k < b.length) (hne : ¬ x = b[k]) : metN x b (k + 1) = metN x b k := by
  have e : x ∈ b.take (k + 1) ↔ x ∈ b.take k := by
    rw [List.take_succ_eq_append_getElem hk, List.mem_append, List.mem_singleton]
    exact ⟨fun q => q.resolve_right hne, Or.inl⟩
  unfold metN
  by_cases h : x ∈ b.take k
  · rw [if_pos (e.2 h), if_pos h]
  · rw [if_neg (fun q => h (e.1 q)), if_neg h]
theorem met_yes {x : Vn} {b : List Vn} {k : Nat} (hk : k < b.length) (he : x = b[k]) (hn : b.Pairwise fun x y => x ≠ y) : metN x b k = 0 ∧ metN x b (k + 1) = 1 := by
  unfold metN
  constructor
  · rw [if_neg]
    intro hm
    obtain ⟨j, hj, e⟩ := List.getElem_of_mem hm
    rw [List.length_take] at hj
    rw [List.getElem_take] at e
    exact List.pairwise_iff_getElem.1 hn j k (by omega) hk (by omega) (e.trans he)
  · rw [if_pos]
    rw [List.take_succ_eq_append_getElem hk, he]
    exact List.mem_append_right _ (List.mem_singleton.2 rfl)
theorem met_all {x : Vn} {b : List Vn} : metN x b b.length = if x ∈ b then 1 else 0 := by
  unfold metN
  rw [List.take_length]
theorem met_le (x : Vn) (b : List Vn) (k : Nat) : metN x b k ≤ 1 := by
  unfold metN
  split <;> omega
end Go.Proofs.YtjpmlagofcgheaaGreatDoor
namespace Go.Proofs.YtjpmlagofcgheaaGreatDoor
open Go.RowKit Go.Maps Go.WideMaps
set_option maxRecDepth 100000

theorem cand_split (R : List Sp) (s : ByteArray) (ps : List Pn) (ts : List Vn) : candV R s ps ts = ((ts.filter (inB R)).filter (pinB s ps)) ++ ((ts.filter (inB R)).filter fun x => !pinB s ps x) := by
  unfold candV fstV othV
  congr 1
  · exact filter_two ts fun x _ => rfl
  · exact filter_two ts fun x _ => rfl
theorem cand_length (R : List Sp) (s : ByteArray) (ps : List Pn) (ts : List Vn) : (candV R s ps ts).length = (ts.filter (inB R)).length := by
  rw [cand_split, List.length_append]
  generalize ts.filter (inB R) = b
  induction b with
  | nil => rfl
  | cons x t ih =>
    cases h : pinB s ps x <;> simp [h] <;> omega
theorem split_mem {b : List Vn} {q : Vn → Bool} {x : Vn} : x ∈ (b.filter q) ++ (b.filter fun x => !q x) ↔ x ∈ b := by
  rw [List.mem_append, List.mem_filter, List.mem_filter]
  constructor
  · rintro (⟨h, _⟩ | ⟨h, _⟩) <;> exact h
  · intro h
    cases hq : q x
    · exact Or.inr ⟨h, rfl⟩
    · exact Or.inl ⟨h, rfl⟩
theorem split_nodup {b : List Vn} {q : Vn → Bool} (h : b.Pairwise fun x y => x ≠ y) : ((b.filter q) ++ (b.filter fun x => !q x)).Pairwise fun x y => x ≠ y := by
  rw [List.pairwise_append]
  refine ⟨h.filter _, h.filter _, fun x hx y hy e => ?_⟩
  subst e
  have h1 := (List.mem_filter.1 hx).2
  have h2 := (List.mem_filter.1 hy).2
  rw [h1] at h2
  cases h2
/-- Where the search for what is not pinned has come to, ahead of the i-th. -/
def atN (f : Nat) (q : Vn → Bool) (b : List Vn) (i : Nat) : Nat := if bothN q b i = 0 then 0 else f + bothN q b i - 1
theorem at_zero (f : Nat) (q : Vn → Bool) (b : List Vn) : atN f q b 0 = 0 := rfl
theorem at_le (f : Nat) (q : Vn → Bool) (b : List Vn) (i : Nat) : atN f q b i ≤ f + bothN q b i := by
  unfold atN
  split <;> omega
theorem at_free {f : Nat} {q : Vn → Bool} {b : List Vn} {i : Nat} (hi : i < b.length) (h : q b[i] = true) : atN f q b (i + 1) = f + bothN q b i := by
  unfold atN
  rw [both_succ hi, if_pos h, if_neg (by omega)]
  omega
theorem at_not {f : Nat} {q : Vn → Bool} {b : List Vn} {i : Nat} (hi : i < b.length) (h : ¬ q b[i] = true) : atN f q b (i + 1) = atN f q b i := by
  unfold atN
  rw [both_succ hi, if_neg h, Nat.add_zero]
theorem place_free {b : List Vn} {p : Vn → Bool} {i : Nat} (hi : i < b.length) (h : (!p b[i]) = true) : ∃ hl : (b.filter p).length + bothN (fun x => !p x) b i < ((b.filter p) ++ (b.filter fun x => !p x)).length, ((b.filter p) ++ (b.filter fun x => !p x))[(b.filter p).length + bothN (fun x => !p x) b i] = b[i] := by
  obtain ⟨h1, h2⟩ := both_at (q := fun x => !p x) hi h
  refine ⟨by rw [List.length_append]; omega, ?_⟩
  rw [List.getElem_append_right (by omega)]
  rw [← h2]
  congr 1
  omega
theorem cmp_gt {x y : Vn} (h : gtV x y = true) : cmpV x.a x.b x.c y.a y.b y.c = 1 := by
  rw [gtV_iff] at h
  unfold cmpV
  grind
theorem free_step (s : ByteArray) (ps : List Pn) (k : Nat) (hk : k < ps.length) (x : Vn) : decide (cntP s (ps.take (k + 1)) x = 0) = (decide (cntP s (ps.take k) x = 0) && !isPn s x ps[k]) := by
  rw [List.take_succ_eq_append_getElem hk, cntP_snoc]
  cases h : isPn s x ps[k] <;> simp
theorem free_all (s : ByteArray) (ps : List Pn) (x : Vn) : decide (cntP s (ps.take ps.length) x = 0) = !pinB s ps x := by
  rw [List.take_length]
  unfold pinB
  by_cases h : cntP s ps x = 0
  · simp [h]
  · simp [h]; omega
end Go.Proofs.YtjpmlagofcgheaaGreatDoor
namespace Go.Proofs.YtjpmlagofcgheaaGreatDoor
open Go.RowKit Go.Maps Go.WideMaps
set_option maxRecDepth 100000

theorem cand_mem {R : List Sp} {s : ByteArray} {ps : List Pn} {ts : List Vn} {x : Vn} (h : x ∈ candV R s ps ts) : x ∈ ts ∧ inB R x = true := by
  rw [cand_split, split_mem, List.mem_filter] at h
  exact h
theorem cand_next {R : List Sp} {s : ByteArray} {ps : List Pn} {ts : List Vn} (hs : ts.Pairwise fun x y => gtV x y = true) {i : Nat} (hi : i + 1 < (candV R s ps ts).length) : (pinB s ps (candV R s ps ts)[i + 1] = true → pinB s ps ((candV R s ps ts)[i]'(by omega)) = true) ∧ (pinB s ps (candV R s ps ts)[i + 1] = pinB s ps ((candV R s ps ts)[i]'(by omega)) → gtV ((candV R s ps ts)[i]'(by omega)) (candV R s ps ts)[i + 1] = true) := by
  have hF : (fstV R s ps ts).Pairwise fun x y => gtV x y = true := hs.filter _
  have hO : (othV R s ps ts).Pairwise fun x y => gtV x y = true := hs.filter _
  have fm : ∀ x ∈ fstV R s ps ts, pinB s ps x = true := fun x hx => by
    have := (List.mem_filter.1 hx).2
    rw [Bool.and_eq_true] at this
    exact this.2
  have om : ∀ x ∈ othV R s ps ts, pinB s ps x = false := fun x hx => by
    have := (List.mem_filter.1 hx).2
    rw [Bool.and_eq_true, Bool.not_eq_true'] at this
    exact this.2
  have key : ∀ (F O : List Vn), F.Pairwise (fun x y => gtV x y = true) → O.Pairwise (fun x y => gtV x y = true) → (∀ x ∈ F, pinB s ps x = true) → (∀ x ∈ O, pinB s ps x = false) → ∀ (h : i + 1 < (F ++ O).length), (pinB s ps (F ++ O)[i + 1] = true → pinB s ps ((F ++ O)[i]'(by omega)) = true) ∧ (pinB s ps (F ++ O)[i + 1] = pinB s ps ((F ++ O)[i]'(by omega)) → gtV ((F ++ O)[i]'(by omega)) (F ++ O)[i + 1] = true) := by
    intro F O hF hO fm om h
    by_cases h1 : i + 1 < F.length
    · rw [List.getElem_append_left h1, List.getElem_append_left (by omega : i < F.length)]
      exact ⟨fun _ => fm _ (List.getElem_mem _), fun _ => List.pairwise_iff_getElem.1 hF i (i + 1) (by omega) h1 (by omega)⟩
    · rw [List.getElem_append_right (by omega : F.length ≤ i + 1)]
      have hl : i + 1 - F.length < O.length := by rw [List.length_append] at h; omega
      have ho : pinB s ps (O[i + 1 - F.length]'hl) = false := om _ (List.getElem_mem _)
      by_cases h2 : i < F.length
      · rw [List.getElem_append_left h2, ho]
        have hf : pinB s ps F[i] = true := fm _ (List.getElem_mem _)
        rw [hf]
        exact ⟨fun q => (by cases q), fun q => (by cases q)⟩
      · rw [List.getElem_append_right (by omega : F.length ≤ i), ho]
        rw [List.length_append] at h
        refine ⟨fun q => (by cases q), fun _ => ?_⟩
        have := List.pairwise_iff_getElem.1 hO (i - F.length) (i + 1 - F.length) (by omega) (by omega) (by omega)
        exact this
  exact key _ _ hF hO fm om hi
/-- Bools in a row. -/
def Bls (w : World) (g : Nat) (bs : List Bool) : Prop := w.heap[g]? = some (.cells (bs.map Value.bool).toArray 4 (0, 0))
theorem Bls.lt {w : World} {g : Nat} {bs : List Bool} (h : Bls w g bs) : g < w.heap.size := (Array.getElem?_eq_some_iff.1 h).1
theorem Bls.below {w w' : World} {g : Nat} {bs : List Bool} (h : Bls w g bs) (hb : Below w.heap.size w w') : Bls w' g bs := (hb.block g h.lt).trans h
theorem Bls.cell {w : World} {g : Nat} {bs : List Bool} (h : Bls w g bs) {i : Nat} (hi : i < bs.length) : w.cell? ⟨g, i, none⟩ = some (.bool bs[i]) ∧ w.frozen? ⟨g, i, none⟩ = false := by
  unfold Bls at h
  constructor <;> simp [World.cell?, World.frozen?, h, hi]
theorem Bls.set {w : World} {g : Nat} {bs : List Bool} (h : Bls w g bs) (i : Nat) (b : Bool) : Bls (w.setCell ⟨g, i, none⟩ (.bool b)) g (bs.set i b) ∧ w.grownBy (w.setCell ⟨g, i, none⟩ (.bool b)) (some g) := by
  refine ⟨?_, ⟨rfl, rfl, rfl, (KeepsWalks.setCell w ⟨g, i, none⟩ (.bool b)).size, fun k _ hk => Below.heap_setCell _ _ _ k (fun e => hk (by rw [e]))⟩⟩
  unfold Bls at h ⊢
  obtain ⟨hlt, hk⟩ := Array.getElem?_eq_some_iff.1 h
  simp [World.setCell, Array.getElem?_modify, h, List.map_set]
/-- What the row of bools has ahead of the i-th. -/
def markL (q : Vn → Bool) (a : List Vn) (i : Nat) : List Bool := (a.take i).map q ++ List.replicate (a.length - i) false
theorem mark_len (q : Vn → Bool) (a : List Vn) {i : Nat} (hi : i ≤ a.length) : (markL q a i).length = a.length := by
  unfold markL
  rw [List.length_append, List.length_map, List.length_take, List.length_replicate]
  omega
theorem mark_at {q : Vn → Bool} {a : List Vn} {i : Nat} (hi : i < a.length) : (markL q a i)[i]'(by rw [mark_len q a (by omega)]; exact hi) = false := by
  unfold markL
  rw [List.getElem_append_right (by rw [List.length_map, List.length_take]; omega)]
  simp
theorem mark_ahead {q : Vn → Bool} {a : List Vn} {i j : Nat} (hj : j < i) (hi : i ≤ a.length) : (markL q a i)[j]'(by rw [mark_len q a hi]; omega) = q (a[j]'(by omega)) := by
  unfold markL
  rw [List.getElem_append_left (by rw [List.length_map, List.length_take]; omega)]
  simp
theorem mark_behind {q : Vn → Bool} {a : List Vn} {i j : Nat} (hj : i ≤ j) (hl : j < a.length) : (markL q a i)[j]'(by rw [mark_len q a (by omega)]; exact hl) = false := by
  unfold markL
  rw [List.getElem_append_right (by rw [List.length_map, List.length_take]; omega)]
  simp
theorem mark_set {q : Vn → Bool} {a : List Vn} {i : Nat} (hi : i < a.length) : (markL q a i).set i (q a[i]) = markL q a (i + 1) := by
  apply List.ext_getElem
  · rw [List.length_set, mark_len q a (by omega), mark_len q a (by omega)]
  · intro j h1 h2
    rw [mark_len q a (by omega)] at h2
    rw [List.getElem_set]
    by_cases e : i = j
    · subst e
      rw [if_pos rfl, mark_ahead (by omega) (by omega)]
    · rw [if_neg e]
      by_cases h : j < i
      · rw [mark_ahead h (by omega), mark_ahead (by omega) (by omega)]
      · rw [mark_behind (by omega) h2, mark_behind (by omega) h2]
theorem infoB : (Tryz.prog.info? 4).map (fun i => (i.zero, i.size, i.bytes)) = some (some (.bool false), 1, 1) := by kernel_rfl
theorem made_bls {w : World} {B g n : Nat} (h : w.ownsRow B 4 1 (.slice (some ⟨g, 0, none⟩) n n) n (madeCells (Value.bool false).cells (n * 1)).toList) : Bls w g (List.replicate n false) := by
  rcases h.2 with ⟨e, _⟩ | ⟨g', cap, cur, e, _, hgg, _, _, hs, ht⟩
  · cases e
  · injection e with e1 _ e3
    injection e1 with e1
    injection e1 with e1 _ _
    subst e1
    subst e3
    unfold Bls
    rw [hgg]
    congr 2
    have hl : cur.toList.take (n * 1) = cur.toList := List.take_of_length_le (by rw [Array.length_toList, hs]; exact Nat.le_refl _)
    rw [hl] at ht
    apply Array.ext'
    rw [ht]
    simp only [madeCells, Value.cells, Array.toList_map, List.map_replicate]
    apply List.ext_getElem
    · simp
    · intro j h1 h2
      simp [Nat.mod_one]
theorem mark_start (q : Vn → Bool) (a : List Vn) : markL q a 0 = List.replicate a.length false := by
  unfold markL
  simp
theorem mark_self {q : Vn → Bool} {a : List Vn} {i : Nat} (hi : i < a.length) : (markL q a i).set i false = markL q a i := by
  apply List.ext_getElem
  · rw [List.length_set]
  · intro j h1 h2
    rw [List.getElem_set]
    by_cases e : i = j
    · subst e
      rw [if_pos rfl, mark_at hi]
    · rw [if_neg e]
theorem pin_step (s : ByteArray) (ps : List Pn) (k : Nat) (hk : k < ps.length) (x : Vn) : decide (0 < cntP s (ps.take (k + 1)) x) = (decide (0 < cntP s (ps.take k) x) || isPn s x ps[k]) := by
  rw [List.take_succ_eq_append_getElem hk, cntP_snoc]
  cases h : isPn s x ps[k] <;> simp
theorem pin_all (s : ByteArray) (ps : List Pn) (x : Vn) : decide (0 < cntP s (ps.take ps.length) x) = pinB s ps x := by
  rw [List.take_length]
  rfl
theorem keepCk (g i : Nat) (v : Value) : KeepP fun w1 => Sc.CellK w1 g i v := fun _ _ h hb => ⟨(hb.cell (p := ⟨g, i, none⟩) h.2).trans h.1, Nat.lt_of_lt_of_le h.2 hb.size⟩
end Go.Proofs.YtjpmlagofcgheaaGreatDoor
namespace Go.Proofs.YtjpmlagofcgheaaGreatDoor
open Go.RowKit
set_option maxRecDepth 100000

theorem ba_toList (l : Sc.Bs) : (Sc.ba l).toList = l := by rw [ByteArray.toList_eq]; simp [Sc.ba]

/-- Words with a blank between. -/
def jnT (ws : List Sc.Bs) : ByteArray := ⟨(Lib.join ws [32]).toArray⟩
theorem Join_words {w : World} {v : Value} {ws : List Sc.Bs} (h : Sc.WordsAt w v ws) (hne : ws ≠ []) (hl : ws.length ≤ 1000000) (hj : (Lib.join ws [32]).length ≤ 1000000) :
    Calls Tryz.prog 149 #[v, .string ⟨#[32]⟩] w fun e w' => e = .returned (.string (jnT ws)) ∧ Below w.heap.size w w' := by
  obtain ⟨ad, cap, rfl, hc, hs⟩ := h
  rcases hs with hs | ⟨g, o, rfl, hg, hs⟩
  · exact (hne hs).elim
  · have e1 : (ws.map Sc.ba).map (·.data.toList) = ws := by
      rw [List.map_map]
      conv => rhs; rw [← List.map_id ws]
      exact List.map_congr_left fun x _ => by simp [Sc.ba]
    have := Tryz.strings_Join g o cap (ws.map Sc.ba) ⟨#[32]⟩ w (fun j x hx => by
      rw [List.getElem?_map] at hx
      cases hw : ws[j]? with
      | none => rw [hw] at hx; cases hx
      | some y =>
        rw [hw] at hx
        obtain ⟨hlt, rfl⟩ := List.getElem?_eq_some_iff.1 hw
        cases hx
        exact hs j hlt) hg (by rw [List.length_map]; omega) (by rw [List.length_map]; exact hc) (by rw [e1]; show (Lib.join ws [32]).length ≤ _; omega)
    rw [List.length_map, e1] at this
    exact this

/-- What readDep answers: the range, or an error's number. -/
def depE (q : Option ByteArray) (n : ByteArray) (ws : List Sc.Bs) : Int := if followB q n = true then (if parE (parR (jnT ws)) = 0 ∧ rangeB ((parL (parR (jnT ws))).map spR) = true then 0 else 21) else 23
/-- Nothing of a dependency, beside an error. -/
def DepQ (w : World) (n : ByteArray) (ws : List Sc.Bs) (er : Int) (e : Ending) (w' : World) : Prop := ∃ nm ad len cap, e = .returned (.tuple #[.agg #[.string nm, .slice ad len cap], .int .i64 er]) ∧ Below w.heap.size w w' ∧ (er = 0 → nm = n ∧ OwnS w' w.heap.size (.slice ad len cap) ((parL (parR (jnT ws))).map spR)) ∧ (er ≠ 0 → nm = ⟨#[]⟩ ∧ ad = none ∧ len = 0 ∧ cap = 0)
end Go.Proofs.YtjpmlagofcgheaaGreatDoor
namespace Go.Proofs.YtjpmlagofcgheaaGreatDoor
open Go.RowKit
set_option maxRecDepth 100000

/-- A dependency's variable that may be written. -/
def BxDF (w : World) (N : Nat) (s : ByteArray) (u : Value) : Prop := BxD w N s u ∧ w.frozen? ⟨N, 0, none⟩ = false ∧ w.frozen? ⟨N, 1, none⟩ = false
theorem keepBxDF (N : Nat) (s : ByteArray) (u : Value) : KeepP fun w1 => BxDF w1 N s u := fun _ _ h hb =>
  ⟨keepBxD _ _ _ _ _ h.1 hb, (hb.frozen (p := ⟨N, 0, none⟩) h.1.2.2).trans h.2.1, (hb.frozen (p := ⟨N, 1, none⟩) h.1.2.2).trans h.2.2⟩
theorem BxDF.new {w : World} {N : Nat} (hN : w.heap.size = N) (s : ByteArray) (u : Value) : BxDF (w.alloc (.cells #[.string s, u] 70)) N s u := by
  refine ⟨BxD.new hN _ _, ?_, ?_⟩ <;> subst hN <;> simp
theorem set2 {w : World} {N : Nat} {x y : Value} (j0 : w.cell? ⟨N, 0, none⟩ = some x) (j1 : w.cell? ⟨N, 1, none⟩ = some y) :
    (∀ u, (w.setCell ⟨N, 0, none⟩ u).cell? ⟨N, 0, none⟩ = some u) ∧ (∀ u, (w.setCell ⟨N, 0, none⟩ u).cell? ⟨N, 1, none⟩ = some y) ∧ (∀ u v, ((w.setCell ⟨N, 0, none⟩ u).setCell ⟨N, 1, none⟩ v).cell? ⟨N, 0, none⟩ = some u) ∧ (∀ u v, ((w.setCell ⟨N, 0, none⟩ u).setCell ⟨N, 1, none⟩ v).cell? ⟨N, 1, none⟩ = some v) := by
  have k1 : ∀ u, (w.setCell ⟨N, 0, none⟩ u).cell? ⟨N, 1, none⟩ = some y := fun u => (World.cell?_setCell_other _ _ _ _ (by simp)).trans j1
  have k0 : ∀ u, (w.setCell ⟨N, 0, none⟩ u).cell? ⟨N, 0, none⟩ = some u := fun u => World.cell?_setCell_same _ _ _ j0
  exact ⟨k0, k1, fun u v => (World.cell?_setCell_other _ _ _ _ (by simp)).trans (k0 u), fun u v => World.cell?_setCell_same _ _ _ (k1 u)⟩
theorem below_set2 {w w' : World} {N B : Nat} {x y : Value} (hN : B ≤ N) (h : Below B w w') : Below B w ((w'.setCell ⟨N, 0, none⟩ x).setCell ⟨N, 1, none⟩ y) := (h.setCell (p := ⟨N, 0, none⟩) hN _).setCell (p := ⟨N, 1, none⟩) hN _

theorem DepQ.err {w w' : World} {n : ByteArray} {ws : List Sc.Bs} {er : Int} (h : er ≠ 0) (hb : Below w.heap.size w w') : DepQ w n ws er (.returned (.tuple #[.agg #[.string ⟨#[]⟩, .slice none 0 0], .int .i64 er])) w' := ⟨⟨#[]⟩, none, 0, 0, rfl, hb, fun e => absurd e h, fun _ => ⟨rfl, rfl, rfl, rfl⟩⟩
theorem DepQ.ok {w w' : World} {n : ByteArray} {ws : List Sc.Bs} {ad : Option Addr} {len cap : Nat} (hb : Below w.heap.size w w') (h : OwnS w' w.heap.size (.slice ad len cap) ((parL (parR (jnT ws))).map spR)) : DepQ w n ws 0 (.returned (.tuple #[.agg #[.string n, .slice ad len cap], .int .i64 0])) w' := ⟨n, ad, len, cap, rfl, hb, fun _ => ⟨rfl, h⟩, fun e => absurd rfl e⟩

end Go.Proofs.YtjpmlagofcgheaaGreatDoor
namespace Go.Proofs.YtjpmlagofcgheaaGreatDoor
open Go.RowKit Go.Maps Go.WideMaps
set_option maxRecDepth 100000

theorem new_cell {W : World} {cs : Array Value} {t : TypeId} {N i : Nat} {v : Value} (hN : W.heap.size = N) (h : cs[i]? = some v) : (W.alloc (.cells cs t)).cell? ⟨N, i, none⟩ = some v ∧ (W.alloc (.cells cs t)).frozen? ⟨N, i, none⟩ = false := by
  subst hN
  have hb : (W.alloc (.cells cs t)).heap[W.heap.size]? = some (.cells cs t (0, 0)) := by
    show (W.heap.push _)[_]? = _
    rw [Array.getElem?_push, if_pos rfl]
  generalize W.alloc (.cells cs t) = W1 at *
  constructor
  · simp [World.cell?, hb, h]
  · simp [World.frozen?, hb]
/-- A map from names: what it tells of each. -/
def SmAt (w : World) (M n : Nat) (z : Value) (f : ByteArray → Option Value) : Prop := ∃ D : DataW Value, w.ownsMap Tryz.prog 9 heldR M n D ∧ IsMap D ∧ ∀ s : ByteArray, Maps.has D (keyS s) = (f s).isSome ∧ D.atKey (keyS s) (.held z) = .held ((f s).getD z)
theorem SmAt.lt {w : World} {M n : Nat} {z : Value} {f : ByteArray → Option Value} (h : SmAt w M n z f) : M < w.heap.size := by
  obtain ⟨D, h1, _⟩ := h
  exact h1.lt
theorem SmAt.isMap {w : World} {M n : Nat} {z : Value} {f : ByteArray → Option Value} (h : SmAt w M n z f) : ∃ es cl, w.heap[M]? = some (.map es cl) := by
  obtain ⟨D, ⟨es, cl, h1, _⟩, _⟩ := h
  exact ⟨es, cl, h1⟩
theorem SmAt.kept {w w' : World} {M n : Nat} {z : Value} {f : ByteArray → Option Value} (h : SmAt w M n z f) {row : Option Nat} (hg : w.grownBy w' row) (hr : some M ≠ row) : SmAt w' M n z f := by
  obtain ⟨D, h1, h2⟩ := h
  exact ⟨D, h1.kept hg hr, h2⟩
theorem SmAt.below {w w' : World} {M n : Nat} {z : Value} {f : ByteArray → Option Value} (h : SmAt w M n z f) (hb : Below w.heap.size w w') : SmAt w' M n z f := by
  have hl := h.lt
  obtain ⟨D, ⟨es, cl, h1, r⟩, h2⟩ := h
  exact ⟨D, ⟨es, cl, (hb.block M hl).trans h1, r⟩, h2⟩
theorem SmAt.more {w : World} {M n m : Nat} {z : Value} {f : ByteArray → Option Value} (h : SmAt w M n z f) (hm : n ≤ m) : SmAt w M m z f := by
  obtain ⟨D, h1, h2⟩ := h
  exact ⟨D, h1.mono hm, h2⟩
theorem SmAt.ext {w : World} {M n : Nat} {z : Value} {f g : ByteArray → Option Value} (h : SmAt w M n z f) (hf : ∀ s, f s = g s) : SmAt w M n z g := by
  obtain ⟨D, h1, h2, h3⟩ := h
  exact ⟨D, h1, h2, fun s => by rw [← hf]; exact h3 s⟩
theorem SmAt.new (w : World) (z : Value) : SmAt (w.alloc (.map #[] 0)) w.heap.size 0 z fun _ => none :=
  ⟨.map [], World.ownsMap_made (H := Value) w Tryz.prog 9 heldR, ⟨[], rfl⟩, fun _ => ⟨rfl, rfl⟩⟩
theorem SmAt.look2 {w : World} {M n : Nat} {z : Value} {f : ByteArray → Option Value} (h : SmAt w M n z f) {t e : TypeId} (ht : Tryz.prog.underlying t = some (.map 9 e)) (hz : (zeroValue e).run Tryz.prog w = .ok z w) {s : ByteArray} (hs : s.size ≤ maxLen) : (Instr.lookup t (.map (some M)) (.string s) true).run Tryz.prog w = .ok (.tuple #[(f s).getD z, .bool (f s).isSome]) w := by
  obtain ⟨D, h1, _, h2⟩ := h
  obtain ⟨v, ps, hr, hv⟩ := h1.look_ok keyedS ht hz (zd := .held z) (zp := []) rfl (keyOfS hs)
  rw [(h2 s).1] at hr
  rw [(h2 s).2] at hv
  rw [hr, heldR_inv hv]
theorem SmAt.look1 {w : World} {M n : Nat} {z : Value} {f : ByteArray → Option Value} (h : SmAt w M n z f) {t e : TypeId} (ht : Tryz.prog.underlying t = some (.map 9 e)) (hz : (zeroValue e).run Tryz.prog w = .ok z w) {s : ByteArray} (hs : s.size ≤ maxLen) : (Instr.lookup t (.map (some M)) (.string s) false).run Tryz.prog w = .ok ((f s).getD z) w := by
  obtain ⟨D, h1, _, h2⟩ := h
  obtain ⟨v, ps, hr, hv⟩ := h1.lookup keyedS ht hz (zd := .held z) (zp := []) rfl (keyOfS hs)
  rw [(h2 s).2] at hv
  rw [hr, heldR_inv hv]
theorem isMap_putV {D : DataW Value} (h : IsMap D) (k : Lit) (d : DataW Value) : IsMap (D.put k d) := by
  obtain ⟨es, rfl⟩ := h
  exact ⟨_, rfl⟩
theorem SmAt.put {w : World} {M n : Nat} {z : Value} {f : ByteArray → Option Value} (h : SmAt w M n z f) {t e : TypeId} (ht : Tryz.prog.underlying t = some (.map 9 e)) (hn : n < maxLen) {s : ByteArray} (hs : s.size ≤ maxLen) (v : Value) : ∃ w', (Instr.mapUpdate t (.map (some M)) (.string s) v).run Tryz.prog w = .ok () w' ∧ SmAt w' M (n + 1) z (fun u => if u = s then some v else f u) ∧ w.grownBy w' (some M) := by
  obtain ⟨D, h1, hm, h2⟩ := h
  obtain ⟨w', hr, ho, hg⟩ := h1.update keyedS ht hn (keyOfS hs) (val := v) (d := .held v) (ps := []) rfl
  refine ⟨w', hr, ⟨_, ho, isMap_putV hm _ _, fun u => ?_⟩, hg⟩
  show Maps.has _ _ = (if u = s then some v else f u).isSome ∧ DataW.atKey _ _ _ = .held ((if u = s then some v else f u).getD z)
  by_cases e : u = s
  · subst e
    rw [has_put_same hm (isKeyS u), atKey_put_same hm (isKeyS u), if_pos rfl]
    exact ⟨rfl, rfl⟩
  · rw [has_put_other fun k => e (keyS_inj k), atKey_put_other fun k => e (keyS_inj k), if_neg e]
    exact h2 u

/-- The first place of a name. -/
def isD (s : ByteArray) (d : Dp) : Bool := decide (d.nm = s)
def firstI (O : List Dp) (s : ByteArray) : Option Value := (O.findIdx? (isD s)).map fun i : Nat => Value.int .i64 (i : Int)
theorem firstI_snoc (O : List Dp) (d : Dp) (s : ByteArray) : firstI (O ++ [d]) s = if (firstI O s).isSome = true then firstI O s else (if d.nm = s then some (.int .i64 O.length) else none) := by
  unfold firstI
  rw [List.findIdx?_append]
  cases h : O.findIdx? (isD s) with
  | some i => simp
  | none => by_cases e : d.nm = s <;> simp [isD, e]
theorem firstI_there {O : List Dp} {d : Dp} (h : (firstI O d.nm).isSome = true) (s : ByteArray) : firstI O s = firstI (O ++ [d]) s := by
  rw [firstI_snoc]
  by_cases e : (firstI O s).isSome = true
  · rw [if_pos e]
  · rw [if_neg e, if_neg (fun q => e (by rw [← q]; exact h))]
    cases hf : firstI O s with
    | none => rfl
    | some v => rw [hf] at e; exact absurd rfl e
theorem firstI_put {O : List Dp} {d : Dp} (h : (firstI O d.nm).isSome = false) (s : ByteArray) : (if s = d.nm then some (.int .i64 O.length) else firstI O s) = firstI (O ++ [d]) s := by
  rw [firstI_snoc]
  by_cases e : s = d.nm
  · subst e
    rw [if_pos rfl, h, if_neg (by decide), if_pos rfl]
  · rw [if_neg e]
    by_cases q : (firstI O s).isSome = true
    · rw [if_pos q]
    · rw [if_neg q, if_neg (fun x => e x.symm)]
      cases hf : firstI O s with
      | none => rfl
      | some v => rw [hf] at q; exact absurd rfl q
theorem DepsAt.el {w : World} {v : Value} {O : List Dp} (h : DepsAt w v O) : ∃ ad cap, v = .slice ad O.length cap ∧ O.length ≤ cap ∧ ∀ k (_ : k < O.length), ∃ g o, ad = some ⟨g, o, none⟩ ∧ ∃ au nu cu, DpIn w g (o + k * 2) O[k] (.slice au nu cu) := by
  obtain ⟨ad, cap, hv, hc, hl⟩ := h
  refine ⟨ad, cap, hv, hc, fun k hk => ?_⟩
  rcases hl with e | ⟨g, o, e, _, hs⟩
  · rw [e] at hk; cases hk
  · obtain ⟨u, hu⟩ := hs k hk
    obtain ⟨au, nu, cu, rfl, _⟩ := hu.2.2.1.1.2
    exact ⟨g, o, e, au, nu, cu, hu⟩

set_option maxHeartbeats 6400000 in
theorem ovs_any {w : World} {O : List Dp} {x1 x2 x3 : Option Addr} {y1 y2 y3 z1 z2 z3 : Nat} {v4 : Value} (h : DepsAt w v4 O) (hlen : O.length ≤ 9223372036854775807) (hn : ∀ d ∈ O, d.nm.size ≤ 9223372036854775807) : Calls Tryz.prog 48 #[.agg #[.slice x1 y1 z1, .slice x2 y2 z2, .slice x3 y3 z3, v4]] w fun e w' => e = .returned (.agg #[v4, .map (some (w.heap.size + 2))]) ∧ (∃ n, SmAt w' (w.heap.size + 2) n (.int .i64 0) (firstI O)) ∧ Below w.heap.size w w' := by
  have hmm := @run_makeMap Tryz.prog
  obtain ⟨ad, cap, rfl, hcap, hel⟩ := h.el
  have HEL := hide3 hel
  have HN := hide3 hn
  clear h hel hn
  go_enter Tryz.func48, Tryz.ntmps48
  have HBW : Hid (Below w.heap.size w ((((w.alloc (.cells #[.slice x1 y1 z1, .slice x2 y2 z2, .slice x3 y3 z3, .slice ad O.length cap] 54)).alloc (.cells #[.slice none 0 0, .map none] 95)).alloc (.map #[] 0)).alloc (.cells #[.slice ad O.length cap, .map (some (w.heap.size + 1 + 1))] 95))) := below_then (below_then (boxB2 _ _ _) (boxB _ _)) (boxB _ _)
  have HM0 : Hid (SmAt ((((w.alloc (.cells #[.slice x1 y1 z1, .slice x2 y2 z2, .slice x3 y3 z3, .slice ad O.length cap] 54)).alloc (.cells #[.slice none 0 0, .map none] 95)).alloc (.map #[] 0)).alloc (.cells #[.slice ad O.length cap, .map (some (w.heap.size + 1 + 1))] 95)) (w.heap.size + 1 + 1) 0 (.int .i64 0) (firstI (O.take 0))) := by
    have e : ((w.alloc (.cells #[.slice x1 y1 z1, .slice x2 y2 z2, .slice x3 y3 z3, .slice ad O.length cap] 54)).alloc (.cells #[.slice none 0 0, .map none] 95)).heap.size = w.heap.size + 1 + 1 := by simp
    have q := SmAt.new ((w.alloc (.cells #[.slice x1 y1 z1, .slice x2 y2 z2, .slice x3 y3 z3, .slice ad O.length cap] 54)).alloc (.cells #[.slice none 0 0, .map none] 95)) (.int .i64 0)
    rw [e] at q
    exact (q.below (boxB _ _)).ext fun s => rfl
  have c30 : ((((w.alloc (.cells #[.slice x1 y1 z1, .slice x2 y2 z2, .slice x3 y3 z3, .slice ad O.length cap] 54)).alloc (.cells #[.slice none 0 0, .map none] 95)).alloc (.map #[] 0)).alloc (.cells #[.slice ad O.length cap, .map (some (w.heap.size + 1 + 1))] 95)).cell? ⟨w.heap.size + 1 + 1 + 1, 0, none⟩ = some (.slice ad O.length cap) := (new_cell (by simp) rfl).1
  have c31 : ((((w.alloc (.cells #[.slice x1 y1 z1, .slice x2 y2 z2, .slice x3 y3 z3, .slice ad O.length cap] 54)).alloc (.cells #[.slice none 0 0, .map none] 95)).alloc (.map #[] 0)).alloc (.cells #[.slice ad O.length cap, .map (some (w.heap.size + 1 + 1))] 95)).cell? ⟨w.heap.size + 1 + 1 + 1, 1, none⟩ = some (.map (some (w.heap.size + 1 + 1))) := (new_cell (by simp) rfl).1
  have r0 : ((((w.alloc (.cells #[.slice x1 y1 z1, .slice x2 y2 z2, .slice x3 y3 z3, .slice ad O.length cap] 54)).alloc (.cells #[.slice none 0 0, .map none] 95)).alloc (.map #[] 0)).alloc (.cells #[.slice ad O.length cap, .map (some (w.heap.size + 1 + 1))] 95)).cell? ⟨w.heap.size + 1, 0, none⟩ = some (.slice none 0 0) := ((boxB2 _ _ _).cell (p := ⟨w.heap.size + 1, 0, none⟩) (by simp)).trans (new_cell (by simp) rfl).1
  have r1 : ((((w.alloc (.cells #[.slice x1 y1 z1, .slice x2 y2 z2, .slice x3 y3 z3, .slice ad O.length cap] 54)).alloc (.cells #[.slice none 0 0, .map none] 95)).alloc (.map #[] 0)).alloc (.cells #[.slice ad O.length cap, .map (some (w.heap.size + 1 + 1))] 95)).cell? ⟨w.heap.size + 1, 1, none⟩ = some (.map none) := ((boxB2 _ _ _).cell (p := ⟨w.heap.size + 1, 1, none⟩) (by simp)).trans (new_cell (by simp) rfl).1
  have f0 : ((((w.alloc (.cells #[.slice x1 y1 z1, .slice x2 y2 z2, .slice x3 y3 z3, .slice ad O.length cap] 54)).alloc (.cells #[.slice none 0 0, .map none] 95)).alloc (.map #[] 0)).alloc (.cells #[.slice ad O.length cap, .map (some (w.heap.size + 1 + 1))] 95)).frozen? ⟨w.heap.size + 1, 0, none⟩ = false := ((boxB2 _ _ _).frozen (p := ⟨w.heap.size + 1, 0, none⟩) (by simp)).trans (new_cell (v := .slice none 0 0) (by simp) rfl).2
  have f1 : ((((w.alloc (.cells #[.slice x1 y1 z1, .slice x2 y2 z2, .slice x3 y3 z3, .slice ad O.length cap] 54)).alloc (.cells #[.slice none 0 0, .map none] 95)).alloc (.map #[] 0)).alloc (.cells #[.slice ad O.length cap, .map (some (w.heap.size + 1 + 1))] 95)).frozen? ⟨w.heap.size + 1, 1, none⟩ = false := ((boxB2 _ _ _).frozen (p := ⟨w.heap.size + 1, 1, none⟩) (by simp)).trans (new_cell (v := .map none) (by simp) rfl).2
  have hsz : ((((w.alloc (.cells #[.slice x1 y1 z1, .slice x2 y2 z2, .slice x3 y3 z3, .slice ad O.length cap] 54)).alloc (.cells #[.slice none 0 0, .map none] 95)).alloc (.map #[] 0)).alloc (.cells #[.slice ad O.length cap, .map (some (w.heap.size + 1 + 1))] 95)).heap.size = w.heap.size + 1 + 1 + 1 + 1 := by simp
  go_wp2_with fail
  generalize ((((w.alloc (.cells #[.slice x1 y1 z1, .slice x2 y2 z2, .slice x3 y3 z3, .slice ad O.length cap] 54)).alloc (.cells #[.slice none 0 0, .map none] 95)).alloc (.map #[] 0)).alloc (.cells #[.slice ad O.length cap, .map (some (w.heap.size + 1 + 1))] 95)) = W at *
  obtain ⟨M, hM⟩ : ∃ M, M = w.heap.size + 1 + 1 := ⟨_, rfl⟩
  have hM2 : w.heap.size + 2 = M := by rw [hM]
  rw [← hM] at HM0 c30 c31 hsz
  rw [hM2]
  try rw [← hM]
  have HSZ := hide3 hsz
  have HMW := hide3 hM
  clear hM hM2 hsz
  go_loopw [15] (fun vi wr => ∃ k : Nat, k ≤ O.length ∧ vi = .int .i64 k ∧ SmAt wr M k (.int .i64 0) (firstI (O.take k)) ∧ W.grownBy wr (some M)) (fun vi _ => O.length - (intOf vi).toNat)
  case atStart => exact ⟨0, Nat.zero_le _, rfl, HM0.out, ⟨rfl, rfl, rfl, Nat.le_refl _, fun _ _ _ => rfl⟩⟩
  case round =>
    obtain ⟨k, hk, rfl, hsm, hgr⟩ := hrel
    have HS := hide3 hsm
    have HG := hide3 hgr
    have HBR : Hid (Below w.heap.size w wr) := HBW.out.grown hgr HBW.out.size (fun j hj => by cases hj; have := HMW.out; omega)
    have d30 := (hgr.cell_far ⟨M + 1, 0, none⟩ (by have := HSZ.out; simp only; omega) (fun q => by have := Option.some.inj q; simp only at this; omega)).trans c30
    have d31 := (hgr.cell_far ⟨M + 1, 1, none⟩ (by have := HSZ.out; simp only; omega) (fun q => by have := Option.some.inj q; simp only at this; omega)).trans c31
    clear hsm hgr
    by_cases hlt : k < O.length
    · have hki : (k : Int) < (O.length : Int) := by omega
      obtain ⟨g, o, rfl, au, nu, cu, e0, e1, _, hg⟩ := HEL.out k hlt
      have hnm := HN.out _ (List.getElem_mem hlt)
      have HTK : Hid (O.take (k + 1) = O.take k ++ [O[k]]) := List.take_succ_eq_append_getElem hlt
      have HTL : Hid ((O.take k).length = k) := by unfold Hid; rw [List.length_take]; omega
      have p0 := (HBR.out.cell (p := ⟨g, o + k * 2, none⟩) hg).trans e0
      have p1 := (HBR.out.cell (p := ⟨g, o + k * 2 + 1, none⟩) hg).trans e1
      generalize O[k] = d at *
      have HS1 : Hid (SmAt (wr.alloc (.cells #[.string d.nm, .slice au nu cu] 70)) M k (.int .i64 0) (firstI (O.take k))) := HS.out.below (boxB _ _)
      have hl := HS1.out.look2 Tryz.underlying93 (zeroInt _) (s := d.nm) (by unfold maxLen; omega)
      have HG1 : Hid (W.grownBy (wr.alloc (.cells #[.string d.nm, .slice au nu cu] 70)) (some M)) := HG.out.trans (below_any (boxB _ _))
      have hmr := HS.out.lt
      have hd30 := ((boxB wr (.cells #[.string d.nm, .slice au nu cu] 70)).cell (p := ⟨M + 1, 0, none⟩) (by have := HG.out.size; have := HSZ.out; simp only; omega)).trans d30
      have hd31 := ((boxB wr (.cells #[.string d.nm, .slice au nu cu] 70)).cell (p := ⟨M + 1, 1, none⟩) (by have := HG.out.size; have := HSZ.out; simp only; omega)).trans d31
      have HT := hide3 (firstI_there (O := O.take k) (d := d))
      have HU := hide3 (firstI_put (O := O.take k) (d := d))
      rw [← HTK.out, HTL.out] at HU
      rw [← HTK.out] at HT
      clear HTK HTL e0 e1
      cases hf : firstI (O.take k) d.nm with
      | some v =>
        rw [hf] at hl HT
        simp only [Option.isSome, Option.getD] at hl
        clear HU hf
        go_wp2_with fail
        exact ⟨⟨k + 1, by omega, by go_num, (HS1.out.more (Nat.le_succ _)).ext (HT.out rfl), HG1.out⟩, by simp [intOf]; omega⟩
      | none =>
        rw [hf] at hl HU
        simp only [Option.isSome, Option.getD] at hl
        obtain ⟨w2, hrun, hs2, hg2⟩ := HS1.out.put Tryz.underlying93 (by unfold maxLen; omega) (s := d.nm) (by unfold maxLen; omega) (.int .i64 k)
        have HS2 := hide3 (hs2.ext (HU.out rfl))
        have HG2 := hide3 (HG1.out.trans hg2)
        clear HT hf hs2 hg2
        go_wp2_with fail
        exact ⟨⟨k + 1, by omega, by go_num, HS2.out, HG2.out⟩, by simp [intOf]; omega⟩
    · obtain rfl : k = O.length := by omega
      have hki : ¬ ((O.length : Int) < (O.length : Int)) := by omega
      have HSF : Hid (SmAt wr M O.length (.int .i64 0) (firstI O)) := by
        have e := HS.out
        rw [List.take_length] at e
        exact e
      have hne : some (w.heap.size + 1) ≠ some M := fun q => by have := Option.some.inj q; have := HMW.out; omega
      have hwl : w.heap.size + 1 < W.heap.size := by have := HSZ.out; have := HMW.out; omega
      have s0 := (HG.out.cell_far ⟨w.heap.size + 1, 0, none⟩ hwl hne).trans r0
      have s1 := (HG.out.cell_far ⟨w.heap.size + 1, 1, none⟩ hwl hne).trans r1
      have t0 := (HG.out.frozen_far ⟨w.heap.size + 1, 0, none⟩ hwl hne).trans f0
      have t1 := (HG.out.frozen_far ⟨w.heap.size + 1, 1, none⟩ hwl hne).trans f1
      have s2 := set2 s0 s1
      have HFN : Hid (∀ u v, (∃ n, SmAt ((wr.setCell ⟨w.heap.size + 1, 0, none⟩ u).setCell ⟨w.heap.size + 1, 1, none⟩ v) M n (.int .i64 0) (firstI O)) ∧ Below w.heap.size w ((wr.setCell ⟨w.heap.size + 1, 0, none⟩ u).setCell ⟨w.heap.size + 1, 1, none⟩ v)) := fun u v => by
        refine ⟨⟨_, HSF.out.kept (row := some (w.heap.size + 1)) ?_ (fun q => hne q.symm)⟩, below_set2 (by omega) HBR.out⟩
        exact ⟨rfl, rfl, rfl, by simp, fun j _ hj => (Below.heap_setCell _ _ _ j (fun e => hj (by rw [e]))).trans (Below.heap_setCell _ _ _ j (fun e => hj (by rw [e])))⟩
      clear HS r0 r1 f0 f1 c30 c31
      go_wp2_with fail
      all_goals try simp only [Exit.inBlock, Exit.then]
      refine bodyPost_ret (by simp [results, Tryz.results48, s2, go_sem]; try rfl) rfl ?_
      have e2 : w.heap.size + 2 = M := HMW.out.symm
      rw [e2]
      exact ⟨rfl, (HFN.out _ _).1, (HFN.out _ _).2⟩
end Go.Proofs.YtjpmlagofcgheaaGreatDoor
namespace Go.Proofs.YtjpmlagofcgheaaGreatDoor
open Go.RowKit Go.Maps Go.WideMaps
set_option maxRecDepth 100000

/-- The range of a dependency. -/
def rangeD (O : List Dp) (d : Dp) : List Sp := match O.find? (isD d.nm) with
  | some x => x.rg
  | none => d.rg
theorem first_none {O : List Dp} {s : ByteArray} (h : firstI O s = none) : O.find? (isD s) = none := by
  unfold firstI at h
  rw [Option.map_eq_none_iff, List.findIdx?_eq_none_iff] at h
  rw [List.find?_eq_none]
  exact fun x hx => Bool.eq_false_iff.1 (h x hx)
theorem first_some {O : List Dp} {s : ByteArray} {v : Value} (h : firstI O s = some v) : ∃ i, ∃ hi : i < O.length, v = .int .i64 i ∧ O.find? (isD s) = some O[i] := by
  unfold firstI at h
  rw [Option.map_eq_some_iff] at h
  obtain ⟨i, h1, h2⟩ := h
  rw [List.findIdx?_eq_some_iff_getElem] at h1
  obtain ⟨hi, h3, h4⟩ := h1
  refine ⟨i, hi, h2.symm, ?_⟩
  rw [List.find?_eq_some_iff_getElem]
  refine ⟨h3, i, hi, rfl, fun j hj => ?_⟩
  have := h4 j hj
  simpa using this

set_option maxHeartbeats 3200000 in
theorem range_any {w : World} {O : List Dp} {v4 : Value} (h : DepsAt w v4 O) {M n : Nat} (hs : SmAt w M n (.int .i64 0) (firstI O)) (d : Dp) {au : Option Addr} {nu cu : Nat} (hd : SpansC w (.slice au nu cu) d.rg) (hdl : d.rg.length ≤ 9223372036854775807) (hn : d.nm.size ≤ 9223372036854775807) : Calls Tryz.prog 61 #[.agg #[v4, .map (some M)], .agg #[.string d.nm, .slice au nu cu]] w fun e w' => ∃ v, e = .returned v ∧ SpansC w' v (rangeD O d) ∧ (rangeD O d).length ≤ 9223372036854775807 ∧ Below w.heap.size w w' := by
  obtain ⟨ad, cap, rfl, hcap, hel⟩ := h.el
  have HEL := hide3 hel
  have HD := hide3 hd
  have HS : Hid (SmAt ((w.alloc (.cells #[.slice ad O.length cap, .map (some M)] 95)).alloc (.cells #[.string d.nm, .slice au nu cu] 70)) M n (.int .i64 0) (firstI O)) := hs.below (boxB2 _ _ _)
  have hl := HS.out.look2 Tryz.underlying93 (zeroInt _) (s := d.nm) (by unfold maxLen; omega)
  have HB : Hid (Below w.heap.size w ((w.alloc (.cells #[.slice ad O.length cap, .map (some M)] 95)).alloc (.cells #[.string d.nm, .slice au nu cu] 70))) := boxB2 _ _ _
  have HFN : Hid (∀ u R, SpansC w u R → SpansC ((w.alloc (.cells #[.slice ad O.length cap, .map (some M)] 95)).alloc (.cells #[.string d.nm, .slice au nu cu] 70)) u R) := fun u R hu => ⟨hu.1.below HB.out, hu.2⟩
  cases hf : firstI O d.nm with
  | none =>
    have HR : Hid (rangeD O d = d.rg) := by
      unfold Hid rangeD
      rw [first_none hf]
    rw [hf] at hl
    simp only [Option.isSome, Option.getD] at hl
    clear hf h hel hd hs
    go_enter Tryz.func61, Tryz.ntmps61
    go_wp2_with fail
    go_ret
    exact ⟨_, rfl, by rw [HR.out]; exact HFN.out _ _ HD.out, by rw [HR.out]; exact hdl, HB.out⟩
  | some v =>
    obtain ⟨i, hi, rfl, hx⟩ := first_some hf
    have HR : Hid (rangeD O d = O[i].rg) := by
      unfold Hid rangeD
      rw [hx]
    rw [hf] at hl
    simp only [Option.isSome, Option.getD] at hl
    obtain ⟨g, o, rfl, au2, nu2, cu2, e0, e1, hsp, hg⟩ := HEL.out i hi
    have p1 := (HB.out.cell (p := ⟨g, o + i * 2 + 1, none⟩) hg).trans e1
    have hki : (i : Int) < (O.length : Int) := by omega
    have HSP := hide3 hsp
    clear hf h hel hd hs hx e0 e1 hsp
    go_enter Tryz.func61, Tryz.ntmps61
    go_wp2_with fail
    go_ret
    exact ⟨_, rfl, by rw [HR.out]; exact HFN.out _ _ HSP.out.1, by rw [HR.out]; exact HSP.out.2, HB.out⟩

/-- What an environment tells of a name. -/
def isN (s : ByteArray) (p : Pn) : Bool := decide (p.nm = s)
def verV (p : Pn) : Value := .agg #[.int .i64 p.a, .int .i64 p.b, .int .i64 p.c]
def firstV (E : List Pn) (s : ByteArray) : Option Value := (E.find? (isN s)).map verV
def zV : Value := .agg #[.int .i64 0, .int .i64 0, .int .i64 0]
theorem zeroVv (w : World) : (zeroValue 31).run Tryz.prog w = .ok zV w := by kernel_rfl
theorem firstV_snoc (E : List Pn) (p : Pn) (s : ByteArray) : firstV (E ++ [p]) s = if (firstV E s).isSome = true then firstV E s else (if p.nm = s then some (verV p) else none) := by
  unfold firstV
  rw [List.find?_append]
  cases h : E.find? (isN s) with
  | some i => simp
  | none => by_cases e : p.nm = s <;> simp [isN, e]
theorem firstV_there {E : List Pn} {p : Pn} (h : (firstV E p.nm).isSome = true) (s : ByteArray) : firstV E s = firstV (E ++ [p]) s := by
  rw [firstV_snoc]
  by_cases e : (firstV E s).isSome = true
  · rw [if_pos e]
  · rw [if_neg e, if_neg (fun q => e (by rw [← q]; exact h))]
    cases hf : firstV E s with
    | none => rfl
    | some v => rw [hf] at e; exact absurd rfl e
theorem firstV_put {E : List Pn} {p : Pn} (h : (firstV E p.nm).isSome = false) (s : ByteArray) : (if s = p.nm then some (verV p) else firstV E s) = firstV (E ++ [p]) s := by
  rw [firstV_snoc]
  by_cases e : s = p.nm
  · subst e
    rw [if_pos rfl, h, if_neg (by decide), if_pos rfl]
  · rw [if_neg e]
    by_cases q : (firstV E s).isSome = true
    · rw [if_pos q]
    · rw [if_neg q, if_neg (fun x => e x.symm)]
      cases hf : firstV E s with
      | none => rfl
      | some v => rw [hf] at q; exact absurd rfl q
theorem PinsAt.el {w : World} {v : Value} {E : List Pn} (h : PinsAt w v E) : ∃ ad cap, v = .slice ad E.length cap ∧ E.length ≤ cap ∧ ∀ k (_ : k < E.length), ∃ g o, ad = some ⟨g, o, none⟩ ∧ PnIn w g (o + k * 4) E[k] := by
  obtain ⟨ad, cap, hv, hc, hl⟩ := h
  refine ⟨ad, cap, hv, hc, fun k hk => ?_⟩
  rcases hl with e | ⟨g, o, e, _, hs⟩
  · rw [e] at hk; cases hk
  · exact ⟨g, o, e, hs k hk⟩

set_option maxHeartbeats 6400000 in
theorem fv_any {w : World} {E : List Pn} {v : Value} (h : PinsAt w v E) (hlen : E.length ≤ 9223372036854775807) (hn : ∀ p ∈ E, p.nm.size ≤ 9223372036854775807) : Calls Tryz.prog 49 #[v] w fun e w' => e = .returned (.map (some w.heap.size)) ∧ (∃ n, SmAt w' w.heap.size n zV (firstV E)) ∧ Below w.heap.size w w' := by
  have hmm := @run_makeMap Tryz.prog
  obtain ⟨ad, cap, rfl, hcap, hel⟩ := h.el
  have HEL := hide3 hel
  have HN := hide3 hn
  clear h hel hn
  go_enter Tryz.func49, Tryz.ntmps49
  go_wp2_with fail
  go_loopw [11] (fun vi wr => ∃ k : Nat, k ≤ E.length ∧ vi = .int .i64 k ∧ SmAt wr w.heap.size k zV (firstV (E.take k)) ∧ Below w.heap.size w wr) (fun vi _ => E.length - (intOf vi).toNat)
  case atStart => exact ⟨0, Nat.zero_le _, rfl, (SmAt.new w zV).ext (fun s => rfl), boxB _ _⟩
  case round =>
    obtain ⟨k, hk, rfl, hsm, hb⟩ := hrel
    have HS := hide3 hsm
    have HB := hide3 hb
    clear hsm hb
    by_cases hlt : k < E.length
    · have hki : (k : Int) < (E.length : Int) := by omega
      obtain ⟨g, o, rfl, ⟨e0, e1, e2, e3⟩, hg⟩ := HEL.out k hlt
      have hnm := HN.out _ (List.getElem_mem hlt)
      have HTK : Hid (E.take (k + 1) = E.take k ++ [E[k]]) := List.take_succ_eq_append_getElem hlt
      have p0 := (HB.out.cell (p := ⟨g, o + k * 4, none⟩) hg).trans e0
      have p1 := (HB.out.cell (p := ⟨g, o + k * 4 + 1, none⟩) hg).trans e1
      have p2 := (HB.out.cell (p := ⟨g, o + k * 4 + 2, none⟩) hg).trans e2
      have p3 := (HB.out.cell (p := ⟨g, o + k * 4 + 3, none⟩) hg).trans e3
      generalize E[k] = d at *
      have HS1 : Hid (SmAt (wr.alloc (.cells #[.string d.nm, .int .i64 d.a, .int .i64 d.b, .int .i64 d.c] 58)) w.heap.size k zV (firstV (E.take k))) := HS.out.below (boxB _ _)
      have hl := HS1.out.look2 Tryz.underlying97 (zeroVv _) (s := d.nm) (by unfold maxLen; omega)
      have HB1 : Hid (Below w.heap.size w (wr.alloc (.cells #[.string d.nm, .int .i64 d.a, .int .i64 d.b, .int .i64 d.c] 58))) := below_then HB.out (boxB _ _)
      have HT := hide3 (firstV_there (E := E.take k) (p := d))
      have HU := hide3 (firstV_put (E := E.take k) (p := d))
      rw [← HTK.out] at HT HU
      have q0 : (wr.alloc (.cells #[.string d.nm, .int .i64 d.a, .int .i64 d.b, .int .i64 d.c] 58)).cell? ⟨wr.heap.size, 0, none⟩ = some (.string d.nm) := by simp
      have q1 : (wr.alloc (.cells #[.string d.nm, .int .i64 d.a, .int .i64 d.b, .int .i64 d.c] 58)).cell? ⟨wr.heap.size, 1, none⟩ = some (.int .i64 d.a) := by simp
      have q2 : (wr.alloc (.cells #[.string d.nm, .int .i64 d.a, .int .i64 d.b, .int .i64 d.c] 58)).cell? ⟨wr.heap.size, 2, none⟩ = some (.int .i64 d.b) := by simp
      have q3 : (wr.alloc (.cells #[.string d.nm, .int .i64 d.a, .int .i64 d.b, .int .i64 d.c] 58)).cell? ⟨wr.heap.size, 3, none⟩ = some (.int .i64 d.c) := by simp
      clear HTK e0 e1 e2 e3
      cases hf : firstV (E.take k) d.nm with
      | some v =>
        obtain ⟨x, hx⟩ : ∃ x : Pn, v = verV x := by
          unfold firstV at hf
          rw [Option.map_eq_some_iff] at hf
          obtain ⟨x, _, hx⟩ := hf
          exact ⟨x, hx.symm⟩
        subst hx
        rw [hf] at hl HT
        simp only [Option.isSome, Option.getD, verV] at hl
        clear HU hf
        go_wp2_with fail
        exact ⟨⟨k + 1, by omega, by go_num, ((HS1.out.below (boxB _ _)).more (Nat.le_succ _)).ext (HT.out rfl), below_then HB1.out (boxB _ _)⟩, by simp [intOf]; omega⟩
      | none =>
        rw [hf] at hl HU
        simp only [Option.isSome, Option.getD, zV] at hl
        obtain ⟨w2, hrun, hs2, hg2⟩ := (HS1.out.below (boxB _ (.cells #[.int .i64 0, .int .i64 0, .int .i64 0] 31))).put Tryz.underlying97 (by unfold maxLen; omega) (s := d.nm) (by unfold maxLen; omega) (verV d)
        have HS2 := hide3 (hs2.ext (HU.out rfl))
        have HB2 : Hid (Below w.heap.size w w2) := (below_then HB1.out (boxB _ _)).grown hg2 (below_then HB1.out (boxB _ _)).size (fun j hj => by cases hj; exact Nat.le_refl _)
        simp only [verV] at hrun
        clear HT hf hs2 hg2
        go_wp2_with fail
        exact ⟨⟨k + 1, by omega, by go_num, HS2.out, HB2.out⟩, by simp [intOf]; omega⟩
    · obtain rfl : k = E.length := by omega
      have hki : ¬ ((E.length : Int) < (E.length : Int)) := by omega
      have HSF : Hid (SmAt wr w.heap.size E.length zV (firstV E)) := by
        have e := HS.out
        rw [List.take_length] at e
        exact e
      clear HS
      go_wp2_with fail
      go_ret
      exact ⟨rfl, ⟨_, HSF.out⟩, HB.out⟩
end Go.Proofs.YtjpmlagofcgheaaGreatDoor
