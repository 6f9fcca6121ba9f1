/- What the document's Parse reads is what the program's reads: plain facts; the kind that is found word by word. No condition. -/
import Derived.Test.YtefcndfeemnglaaDoorPf2
import Derived.Test.YtefcndfeemnglaaDoorRwPn
namespace Go.Proofs.YtefcndfeemnglaaDoor
open Go.RowKit Go.Maps Go.WideMaps Go.WideElems Dk
set_option maxRecDepth 100000

/-- The deed of a line, leniently. -/
def lenD (ws : List Sc.Bs) : De := ⟨kindW (ws.getD 0 []), Sc.ba (ws.getD 1 []), if kindW (ws.getD 0 []) = 4 ∧ 2 < ws.length then Sc.ba (dataL (ws.getD 2 [])) else ⟨#[]⟩⟩
theorem lenD_line {d : De} (h1 : 1 ≤ d.kd) (h4 : d.kd ≤ 4) (hd : d.kd = 4 ∨ (d.da.toList == []) = true) : lenD (lineW d) = d := by
  obtain ⟨k, p, t⟩ := d
  simp only at h1 h4 hd
  have hk := kindW_word h1 h4
  by_cases h : k = 4
  · have e : lineW ⟨k, p, t⟩ = [(wordP k).data.toList, p.data.toList, (hexT t).data.toList] := by unfold lineW; simp [h]
    rw [e]
    unfold lenD
    simp only [List.getD_cons_zero, List.getD_cons_succ, List.length_cons, List.length_nil]
    rw [hk, if_pos ⟨h, by omega⟩, Sc.ba_of]
    congr 1
    cases ht : (t.toList == [])
    · rw [hexT_ne ht, dataL_hex, Sc.ba_of]
    · rw [hexT_nil ht, toList_nil ht]; rfl
  · have e : lineW ⟨k, p, t⟩ = [(wordP k).data.toList, p.data.toList] := by unfold lineW; simp [h]
    rw [e]
    unfold lenD
    simp only [List.getD_cons_zero, List.getD_cons_succ, List.length_cons, List.length_nil]
    rw [hk, if_neg (fun q => h q.1), Sc.ba_of, toList_nil (hd.resolve_left h)]
open Classical in
/-- What the document's Parse answers. -/
noncomputable def rpO (t : ByteArray) : Int × List De := match Sc.scanR t.data.toList [] [] [] with
  | .error _ => (22, [])
  | .ok L => if (L.drop 1).all (fun ws => decide (2 ≤ ws.length)) = true ∧ Plan ((L.drop 1).map lenD) ∧ textD ((L.drop 1).map lenD) = t then (0, (L.drop 1).map lenD) else (44, [])
open Classical in
theorem rpO_is (t : ByteArray) : rpO t = parO t := by
  cases hs : Sc.scanR t.data.toList [] [] [] with
  | error n => rw [parO_err hs]; unfold rpO; rw [hs]
  | ok L =>
    have hr : rpO t = if (L.drop 1).all (fun ws => decide (2 ≤ ws.length)) = true ∧ Plan ((L.drop 1).map lenD) ∧ textD ((L.drop 1).map lenD) = t then (0, (L.drop 1).map lenD) else (44, []) := by unfold rpO; rw [hs]
    have h22 : parO t ≠ (22, []) := by
      unfold parO
      rw [hs]
      simp only
      cases readL L with
      | none => simp
      | some m =>
        simp only
        split <;> simp
    rcases parO_cases t with ⟨l, hp⟩ | hp | hp
    · obtain ⟨hpl, htx⟩ := parO_ok hp
      have hL : L = linesP l := by
        rw [← htx, textD_list, Sc.scan_text _ _ hpl.lines, List.nil_append] at hs
        exact (Except.ok.inj hs).symm
      have hd : L.drop 1 = l.map lineW := by rw [hL]; rfl
      have hm : (L.drop 1).map lenD = l := by
        rw [hd, List.map_map]
        have : ∀ d ∈ l, (lenD ∘ lineW) d = d := fun d hx => lenD_line (hpl.parts d hx).1 (hpl.parts d hx).2.1 (hpl.parts d hx).2.2.1
        conv => rhs; rw [← List.map_id l]
        exact List.map_congr_left this
      have ha : (L.drop 1).all (fun ws => decide (2 ≤ ws.length)) = true := by
        rw [hd, List.all_map, List.all_eq_true]
        intro d _
        show decide (2 ≤ (lineW d).length) = true
        unfold lineW
        simp
      rw [hr, hm, if_pos ⟨ha, hpl, htx⟩, hp]
    · exact absurd hp h22
    · rw [hr, hp]
      refine if_neg fun q => ?_
      have := parO_text q.2.1
      rw [q.2.2, hp] at this
      cases this
theorem rp_err {t : ByteArray} {n : Nat} (h : Sc.scanR t.data.toList [] [] [] = .error n) : parO t = (22, []) := parO_err h
theorem rp_ok {t : ByteArray} {L : List (List Sc.Bs)} (h : Sc.scanR t.data.toList [] [] [] = .ok L) (ha : ∀ ws ∈ L.drop 1, 2 ≤ ws.length) (hp : Plan ((L.drop 1).map lenD)) (ht : textD ((L.drop 1).map lenD) = t) : parO t = (0, (L.drop 1).map lenD) := by
  rw [← rpO_is]
  unfold rpO
  rw [h]
  exact if_pos ⟨List.all_eq_true.2 fun ws hw => decide_eq_true (ha ws hw), hp, ht⟩
theorem rp_no {t : ByteArray} {L : List (List Sc.Bs)} (h : Sc.scanR t.data.toList [] [] [] = .ok L) (hn : (∃ ws ∈ L.drop 1, ws.length < 2) ∨ ¬ Plan ((L.drop 1).map lenD) ∨ textD ((L.drop 1).map lenD) ≠ t) : parO t = (44, []) := by
  rw [← rpO_is]
  unfold rpO
  rw [h]
  refine if_neg fun q => ?_
  rcases hn with ⟨ws, hw, h2⟩ | hn | hn
  · have := of_decide_eq_true (List.all_eq_true.1 q.1 ws hw)
    omega
  · exact hn q.2.1
  · exact hn q.2.2
theorem sum_le {l : List De} {M : Nat} (h : ∀ d ∈ l, 8 + d.pa.size + 2 * d.da.size ≤ M) : sumL l ≤ l.length * M := by
  induction l with
  | nil => exact Nat.zero_le _
  | cons x l ih =>
    have h1 := h x List.mem_cons_self
    have h2 := ih fun d hd => h d (List.mem_cons_of_mem _ hd)
    unfold sumL at h2 ⊢
    rw [List.map_cons, List.sum_cons, List.length_cons, Nat.add_mul]
    omega
theorem dataL_le : ∀ l : Sc.Bs, (dataL l).length ≤ l.length
  | [] => Nat.le_refl _
  | [_] => by simp [dataL]
  | a :: b :: r => by
    have := dataL_le r
    simp only [dataL, List.length_cons]
    omega
theorem lenD_size {ws : List Sc.Bs} {N : Nat} (h : ∀ x ∈ ws, x.length ≤ N) : (lenD ws).pa.size ≤ N ∧ (lenD ws).da.size ≤ N := by
  have hg : ∀ i, (ws.getD i []).length ≤ N := fun i => by
    rw [List.getD_eq_getElem?_getD]
    cases hx : ws[i]? with
    | none => exact Nat.zero_le _
    | some x => exact h x (List.mem_of_getElem? hx)
  unfold lenD
  simp only
  refine ⟨by rw [Sc.ba_size]; exact hg 1, ?_⟩
  split
  · rw [Sc.ba_size]
    exact Nat.le_trans (dataL_le _) (hg 2)
  · exact Nat.zero_le _

/-- The kind that is found among the words ahead of the k-th. -/
def kindU (w : Sc.Bs) (k : Nat) : Int := if kindW w < (k : Int) then kindW w else 0
theorem kindU_one (w : Sc.Bs) : kindU w 1 = 0 := by
  unfold kindU
  by_cases h : kindW w = 0
  · rw [h]; rfl
  · have := (word_kind h).2.1
    rw [if_neg (by omega)]
theorem kindU_five (w : Sc.Bs) : kindU w 5 = kindW w := by
  unfold kindU
  by_cases h : kindW w = 0
  · rw [h]; rfl
  · have := (word_kind h).2.2
    rw [if_pos (by omega)]
theorem kindU_hit {w : Sc.Bs} {k : Nat} (h1 : 1 ≤ k) (h4 : k ≤ 4) (h : ((wordP k).toList == (Sc.ba w).toList) = true) : kindU w (k + 1) = k := by
  have := word_eq h1 h4 h
  rw [Sc.ba_list] at this
  unfold kindU
  rw [this, if_pos (by omega)]
theorem kindU_miss {w : Sc.Bs} {k : Nat} (h : ((wordP k).toList == (Sc.ba w).toList) = false) : kindU w (k + 1) = kindU w k := by
  unfold kindU
  by_cases e : kindW w = k
  · by_cases h0 : kindW w = 0
    · rw [h0]; split <;> split <;> rfl
    · have := (word_kind h0).1
      rw [e] at this
      rw [toList_data, toList_data, Sc.ba_list, ← this] at h
      simp at h
  · by_cases h2 : kindW w < (k : Int)
    · rw [if_pos h2, if_pos (by omega)]
    · rw [if_neg h2, if_neg (by omega)]
/-- A deed's box. -/
def BxO (w : World) (N : Nat) (k : Int) (p t : ByteArray) : Prop := w.heap[N]? = some (.cells #[.int .i64 k, .string p, .string t] 37 (0, 0))
theorem BxO.facts {w : World} {N : Nat} {k : Int} {p t : ByteArray} (h : BxO w N k p t) : (w.cell? ⟨N, 0, none⟩ = some (.int .i64 k) ∧ w.cell? ⟨N, 1, none⟩ = some (.string p) ∧ w.cell? ⟨N, 2, none⟩ = some (.string t)) ∧ w.frozen? ⟨N, 0, none⟩ = false ∧ w.frozen? ⟨N, 2, none⟩ = false ∧ N < w.heap.size := by
  refine ⟨⟨?_, ?_, ?_⟩, Lib.frozen_of_heap h 0, Lib.frozen_of_heap h 2, (Array.getElem?_eq_some_iff.1 h).1⟩
  · rw [Lib.cell_of_heap h]; rfl
  · rw [Lib.cell_of_heap h]; rfl
  · rw [Lib.cell_of_heap h]; rfl
theorem BxO.below {w w' : World} {N : Nat} {k : Int} {p t : ByteArray} (h : BxO w N k p t) (hb : Below w.heap.size w w') : BxO w' N k p t := (hb.block N (Array.getElem?_eq_some_iff.1 h).1).trans h
theorem BxO.new (w : World) (k : Int) (p t : ByteArray) : BxO (w.alloc (.cells #[.int .i64 k, .string p, .string t] 37)) w.heap.size k p t := by
  show (w.heap.push _)[w.heap.size]? = _
  rw [Array.getElem?_push, if_pos rfl]
theorem BxO.set0 {w : World} {N : Nat} {k : Int} {p t : ByteArray} (h : BxO w N k p t) (k' : Int) : BxO (w.setCell ⟨N, 0, none⟩ (.int .i64 k')) N k' p t := by
  unfold BxO at h ⊢
  unfold World.setCell
  simp only
  rw [Array.getElem?_modify, if_pos rfl, h]
  rfl
theorem BxO.set2 {w : World} {N : Nat} {k : Int} {p t : ByteArray} (h : BxO w N k p t) (t' : ByteArray) : BxO (w.setCell ⟨N, 2, none⟩ (.string t')) N k p t' := by
  unfold BxO at h ⊢
  unfold World.setCell
  simp only
  rw [Array.getElem?_modify, if_pos rfl, h]
  rfl

theorem rCheck17 (l : List De) (a : Option Addr) (cap : Nat) (w : World) (hlen : l.length ≤ 8388608) (hc : IsDes w a l) (hz : ∀ d ∈ l, d.pa.size ≤ maxLen) :
    Calls Tryd.prog 10 #[.slice a l.length cap] w fun e w' => e = .returned (.int .i64 (prnE l)) ∧ Below w.heap.size w w' := by
  refine (pCheck_any l a cap w hlen hc hz).mono ?_
  rintro e w' ⟨⟨r, rfl, h | h⟩, hb⟩
  · exact ⟨by rw [(prn_yes h.1).2, h.2], hb⟩
  · exact ⟨by rw [(prn_no h.1).2, h.2], hb⟩
theorem rPrint17 (l : List De) (a : Option Addr) (cap : Nat) (w : World) (hlen : l.length ≤ 8388608) (hc : IsDes w a l) (hz : ∀ d ∈ l, d.pa.size ≤ maxLen ∧ d.da.size ≤ 100000000) (hsz : (textD l).size ≤ 9223372036854775807) :
    Calls Tryd.prog 8 #[.slice a l.length cap] w fun e w' => e = .returned (.tuple #[.string (prnT l), .int .i64 (prnE l)]) ∧ Below w.heap.size w w' := by
  refine (pPrint_any17 l a cap w hlen hc hz hsz).mono ?_
  rintro e w' ⟨⟨h, rfl⟩ | ⟨h, rfl⟩, hb⟩
  · rw [(prn_yes h).1, (prn_yes h).2]; exact ⟨rfl, hb⟩
  · rw [(prn_no h).1, (prn_no h).2]; exact ⟨rfl, hb⟩

end Go.Proofs.YtefcndfeemnglaaDoor
