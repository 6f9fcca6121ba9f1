/- Lk16, Lk17, Lk30, Lk31, Lk32, Lk18, Lk21, laid in one text. -/
import Derived.Test.YtjbohacllhjgmaaGreatDoorMg08
namespace Go.Proofs.YtjbohacllhjgmaaGreatDoor
open Go.RowKit
open Sc (KeepP hide3 keepBelow Bs ba WordsAt LinesAt isL isW textT lineT)
set_option maxRecDepth 100000

theorem flat_at {α β : Type} {f : α → List β} {k : Nat} (hf : ∀ x, (f x).length = k) : ∀ (L : List α) (i c : Nat) (hi : i < L.length), c < k → (L.flatMap f)[i * k + c]? = (f L[i])[c]?
  | x :: r, 0, c, _, hc => by
    rw [List.flatMap_cons, Nat.zero_mul, Nat.zero_add, List.getElem?_append_left (by rw [hf]; exact hc)]
    rfl
  | x :: r, i + 1, c, hi, hc => by
    have hi' : i < r.length := by simpa using hi
    have e : (i + 1) * k + c = k + (i * k + c) := by rw [Nat.succ_mul]; omega
    rw [List.flatMap_cons, e, List.getElem?_append_right (by rw [hf]; omega), hf, Nat.add_sub_cancel_left, flat_at hf r i c hi' hc]
    rfl
theorem OwnP.at {w : World} {B : Nat} {v : Value} {L : List Pn} (h : OwnP w B v L) : PinsAt w v L := by
  have h0 := h
  rcases h.2 with ⟨rfl, hn⟩ | ⟨g, cap, cur, rfl, hB, hg, hc, _⟩
  · exact ⟨none, 0, by rw [hn], by omega, Or.inl (List.eq_nil_of_length_eq_zero hn)⟩
  · refine ⟨_, cap, rfl, hc, Or.inr ⟨g, 0, rfl, (Array.getElem?_eq_some_iff.1 hg).1, fun i hi => ⟨?_, (Array.getElem?_eq_some_iff.1 hg).1⟩⟩⟩
    have q : ∀ c, c < 4 → w.cell? ⟨g, 0 + i * 4 + c, none⟩ = (pnC L[i])[c]? := fun c hc => by
      rw [Nat.zero_add, World.ownsRow.cellAt h0 (i * 4 + c) (by omega)]
      exact flat_at (f := pnC) (k := 4) (fun _ => rfl) L i c hi hc
    exact ⟨q 0 (by decide), q 1 (by decide), q 2 (by decide), q 3 (by decide)⟩
theorem OwnE.at {w : World} {B : Nat} {v : Value} {L : List Eg} (h : OwnE w B v L) : EdgesAt w v L := by
  have h0 := h
  rcases h.2 with ⟨rfl, hn⟩ | ⟨g, cap, cur, rfl, hB, hg, hc, _⟩
  · exact ⟨none, 0, by rw [hn], by omega, Or.inl (List.eq_nil_of_length_eq_zero hn)⟩
  · refine ⟨_, cap, rfl, hc, Or.inr ⟨g, 0, rfl, (Array.getElem?_eq_some_iff.1 hg).1, fun i hi => ⟨?_, (Array.getElem?_eq_some_iff.1 hg).1⟩⟩⟩
    have q : ∀ c, c < 2 → w.cell? ⟨g, 0 + i * 2 + c, none⟩ = (egC L[i])[c]? := fun c hc => by
      rw [Nat.zero_add, World.ownsRow.cellAt h0 (i * 2 + c) (by omega)]
      exact flat_at (f := egC) (k := 2) (fun _ => rfl) L i c hi hc
    exact ⟨q 0 (by decide), q 1 (by decide)⟩
theorem RA.at {w : World} {B : Nat} {v : Value} {all : List NV} (h : RA w B v all) : NodesAt w v (all.map NV.nd) := by
  have h0 := h.1
  rcases h.1.2 with ⟨rfl, hn⟩ | ⟨g, cap, cur, rfl, hB, hg, hc, _⟩
  · have : all = [] := List.eq_nil_of_length_eq_zero hn
    subst this
    exact ⟨none, 0, rfl, Nat.le_refl _, Or.inl rfl⟩
  · refine ⟨_, cap, by rw [List.length_map], by rw [List.length_map]; exact hc, Or.inr ⟨g, 0, rfl, (Array.getElem?_eq_some_iff.1 hg).1, fun i hi => ?_⟩⟩
    have hi' : i < all.length := by simpa using hi
    have q : ∀ c, c < 6 → w.cell? ⟨g, 0 + i * 6 + c, none⟩ = (ndC all[i])[c]? := fun c hc => by
      rw [Nat.zero_add, World.ownsRow.cellAt h0 (i * 6 + c) (by omega)]
      exact flat_at (f := ndC) (k := 6) (fun _ => rfl) all i c hi' hc
    have hm := h.2 _ (List.getElem_mem hi')
    rw [List.getElem_map]
    exact ⟨all[i].vc, all[i].ve, ⟨q 0 (by decide), q 1 (by decide), q 2 (by decide), q 3 (by decide), q 4 (by decide), q 5 (by decide)⟩, ⟨hm.1.at, hm.2.at⟩, (Array.getElem?_eq_some_iff.1 hg).1⟩

theorem isL_two {l : List Bs} (h : isL l = true) : 2 ≤ (lineT l).length := by
  match l, h with
  | [], h => cases h
  | [x], h =>
    unfold isL isW at h
    simp only [List.all_cons, List.all_nil, Bool.and_true, Bool.and_eq_true, Bool.not_eq_true', List.isEmpty_eq_false_iff] at h
    have : 0 < x.length := List.length_pos_iff.2 h.1.2
    simp [lineT]
    omega
  | x :: y :: r, h =>
    have := (Sc.lineT_len (y :: r)).1
    simp only [lineT, List.length_append, List.length_cons, List.length_nil]
    omega
theorem lines_two : ∀ {L : List (List Bs)}, L.all isL = true → 2 * L.length ≤ (textT L).length
  | [], _ => by simp
  | l :: L, h => by
    rw [List.all_cons, Bool.and_eq_true] at h
    have h1 := isL_two h.1
    have h2 := lines_two h.2
    rw [Sc.textT_cons, List.length_append, List.length_cons]
    omega
theorem word_le {L : List (List Bs)} {l : List Bs} (hl : l ∈ L) {x : Bs} (hx : x ∈ l) : x.length ≤ (textT L).length := Nat.le_trans ((Sc.lineT_len l).2.2 x hx) ((Sc.textT_len L).2 l hl)

/-- What Parse reads. -/
def parG (t : ByteArray) : Option (List Nd) := if Sc.ansE t 1048576 = 0 then (match readG (Sc.ansL t 1048576) with
    | some st => if mayG st = true then some st else none
    | none => none) else none
def parGE (t : ByteArray) : Int := if Sc.ansE t 1048576 = 0 then (if (parG t).isSome = true then 0 else 22) else Sc.ansE t 1048576
def PrQ (w : World) (t : ByteArray) (e : Ending) (w' : World) : Prop := Below w.heap.size w w' ∧
  ((∃ ad cap all, parG t = some (all.map NV.nd) ∧ e = .returned (.tuple #[.agg #[.slice ad all.length cap], .int .i64 0]) ∧ RA w' w.heap.size (.slice ad all.length cap) all) ∨ (parG t = none ∧ e = .returned (.tuple #[.agg #[.slice none 0 0], .int .i64 (parGE t)])))
/-- The lines of a text that is taken. -/
theorem lines_facts {t : ByteArray} (h : Sc.ansE t 1048576 = 0) : (Sc.ansL t 1048576).all isL = true ∧ textT (Sc.ansL t 1048576) = t.data.toList ∧ t.size ≤ 1048576 := by
  unfold Sc.ansE at h
  unfold Sc.ansL
  split at h
  · cases h
  · rename_i hs
    rw [if_neg hs]
    cases hr : Sc.scanR t.data.toList [] [] [] with
    | error n => rw [hr] at h; cases h
    | ok L =>
      obtain ⟨h1, h2⟩ := Sc.scan_back _ _ _ _ _ hr rfl rfl rfl
      refine ⟨h1, ?_, by omega⟩
      show textT L = _
      simpa [Sc.pend, textT] using h2

theorem lines_any (t : ByteArray) (w : World) : Calls Tryz.prog 8 #[.string t, .int .i64 1048576] w fun e w' => ∃ v n, e = .returned (.tuple #[v, .int .i64 (Sc.ansE t 1048576), .int .i64 n]) ∧ LinesAt w' v (Sc.ansL t 1048576) ∧ Below w.heap.size w w' := by
  have : Calls Tryz.prog 8 #[.string t, .int .i64 1048576] w (Sc.LinesQ w (Sc.ansE t 1048576) (Sc.ansN t 1048576) (Sc.ansL t 1048576)) := by
    by_cases h : (1048576 : Int) < (t.size : Int)
    · have := Sc.Lines_far t 1048576 h w
      unfold Sc.ansE Sc.ansN Sc.ansL
      rw [if_pos h, if_pos h, if_pos h]
      exact this
    · exact Sc.Lines_any t (by omega) 1048576 w
  exact this.mono fun e w' ⟨v, h1, h2, h3⟩ => ⟨v, _, h1, by obtain ⟨ps, hp, hl⟩ := h2; rw [← hp]; exact hl.at, h3⟩

set_option maxHeartbeats 6400000 in
theorem gParse_any (t : ByteArray) (w : World) (he : Env w) : Calls Tryz.prog 4 #[.string t] w (PrQ w t) := by
  have HLI := hide3 (lines_any t)
  have HNO : Hid (∀ w' er, parG t = none → er = parGE t → Below w.heap.size w w' → PrQ w t (.returned (.tuple #[.agg #[.slice none 0 0], .int .i64 er])) w') := fun w' er e e2 hb => by rw [e2]; exact ⟨hb, Or.inr ⟨e, rfl⟩⟩
  have HYE : Hid (∀ w' ad cap all, parG t = some (all.map NV.nd) → Below w.heap.size w w' → RA w' w.heap.size (.slice ad all.length cap) all → PrQ w t (.returned (.tuple #[.agg #[.slice ad all.length cap], .int .i64 0])) w') := fun w' ad cap all e hb hr => ⟨hb, Or.inl ⟨ad, cap, all, e, rfl, hr⟩⟩
  have HB0 : Hid (Below w.heap.size w (w.alloc (.cells #[.slice none 0 0] 24)) ∧ BxGF (w.alloc (.cells #[.slice none 0 0] 24)) w.heap.size (.slice none 0 0)) := ⟨boxB _ _, BxGF.new rfl _⟩
  have HKB : Hid (KeepP fun W => Below w.heap.size w W ∧ BxGF W w.heap.size (.slice none 0 0)) := (keepBelow w).and (keepBxGF _ _)
  have HEV := hide3 he
  by_cases hE : Sc.ansE t 1048576 = 0
  · obtain ⟨f1, f2, f3⟩ := lines_facts hE
    have hlz : (textT (Sc.ansL t 1048576)).length ≤ 1048576 := by rw [f2, Sc.list_size]; exact f3
    have HRD : Hid (∀ W v, Env W → LinesAt W v (Sc.ansL t 1048576) → Calls Tryz.prog 9 #[v] W (GrQ W (readG (Sc.ansL t 1048576)))) := fun W v hv hla => read_any hla f1 (by have := lines_two f1; omega) (fun l hl x hx => Nat.le_trans (word_le hl hx) (by omega)) hv
    have hPG : parG t = match readG (Sc.ansL t 1048576) with
      | some st => if mayG st = true then some st else none
      | none => none := by unfold parG; rw [if_pos hE]
    have hPE : parGE t = if (parG t).isSome = true then 0 else 22 := by unfold parGE; rw [if_pos hE]
    rw [hE] at HLI
    clear f1 f2 f3 hlz hE he
    generalize Sc.ansL t 1048576 = L at *
    cases hrg : readG L with
    | none =>
      rw [hrg] at hPG HRD
      simp only at hPG
      rw [hPG] at hPE
      have HN := hide3 (fun w' hb => HNO.out w' 22 hPG (by rw [hPE]; rfl) hb)
      clear hPG hPE hrg
      generalize PrQ w t = QQ at *
      go_enter Tryz.func4, Tryz.ntmps4
      go_wp2_with (first
        | (go_at_call 8; refine (HLI.out _).mono ?_; rintro e w1 ⟨v, n, rfl, hla, hb1⟩; have HLA := hide3 hla; have HB1 := hide3 (HKB.out _ _ HB0.out hb1); obtain ⟨al, cl, rfl, _⟩ := hla; clear hb1)
        | (go_at_call 9; refine (HRD.out _ _ (HEV.out.below HB1.out.1) HLA.out).mono ?_; rintro e w2 ⟨hb2, hq2⟩; obtain ⟨_, rfl⟩ := hq2.resolve_left (fun ⟨_, _, _, q, _⟩ => by cases q); have HB2 := hide3 (HKB.out _ _ (HKB.out _ _ HB1.out hb2) (boxB w2 (.cells #[.slice none 0 0] 24))); obtain ⟨⟨n0, n1⟩, n2⟩ := HB2.out.2; have s1 := fun u => World.cell?_setCell_same (w2.alloc (.cells #[.slice none 0 0] 24)) ⟨w.heap.size, 0, none⟩ u n0; clear hb2 hq2))
      try simp only [Exit.inBlock, Exit.then]
      refine bodyPost_ret (by simp [results, Tryz.results4, s1, go_sem]; try rfl) rfl ?_
      exact HN.out _ (HB2.out.1.setCell (p := ⟨w.heap.size, 0, none⟩) (Nat.le_refl _) _)
    | some st =>
      rw [hrg] at hPG HRD
      simp only at hPG
      have HMY : Hid (∀ W v, NodesAt W v st → Calls Tryz.prog 10 #[.agg #[v]] W fun e w' => e = .returned (.bool (mayG st)) ∧ Below W.heap.size W w') := fun W v hn => gMay_any hn
      cases hmg : mayG st
      · rw [hmg] at hPG HMY
        simp only [Bool.false_eq_true, if_false] at hPG
        rw [hPG] at hPE
        have HN := hide3 (fun w' hb => HNO.out w' 22 hPG (by rw [hPE]; rfl) hb)
        clear hPG hPE hrg hmg
        generalize PrQ w t = QQ at *
        go_enter Tryz.func4, Tryz.ntmps4
        go_wp2_with (first
          | (go_at_call 8; refine (HLI.out _).mono ?_; rintro e w1 ⟨v, n, rfl, hla, hb1⟩; have HLA := hide3 hla; have HB1 := hide3 (HKB.out _ _ HB0.out hb1); obtain ⟨al, cl, rfl, _⟩ := hla; clear hb1)
          | (go_at_call 9; refine (HRD.out _ _ (HEV.out.below HB1.out.1) HLA.out).mono ?_; rintro e w2 ⟨hb2, hq2⟩; obtain ⟨ad2, cp2, all, hst, rfl, hra⟩ := hq2.resolve_right (fun q => by cases q.1); cases hst; have HB2 := hide3 (HKB.out _ _ (HKB.out _ _ HB1.out hb2) (boxB w2 (.cells #[.slice ad2 all.length cp2] 24))); have HNA := hide3 ((hra.below (boxB w2 (.cells #[.slice ad2 all.length cp2] 24))).at); clear hb2 hq2 hra)
          | (go_at_call 10; refine (HMY.out _ _ HNA.out).mono ?_; rintro e w3 ⟨rfl, hb3⟩; have HB3 := hide3 (HKB.out _ _ HB2.out hb3); obtain ⟨⟨n0, n1⟩, n2⟩ := HB3.out.2; have s1 := fun u => World.cell?_setCell_same w3 ⟨w.heap.size, 0, none⟩ u n0; clear hb3))
        try simp only [Exit.inBlock, Exit.then]
        refine bodyPost_ret (by simp [results, Tryz.results4, s1, go_sem]; try rfl) rfl ?_
        exact HN.out _ (HB3.out.1.setCell (p := ⟨w.heap.size, 0, none⟩) (Nat.le_refl _) _)
      · rw [hmg] at hPG HMY
        simp only [if_true] at hPG
        have HY := hide3 (fun w' ad cap all (e : st = all.map NV.nd) hb hr => HYE.out w' ad cap all (by rw [hPG, e]) hb hr)
        clear hPG hPE hrg hmg
        generalize PrQ w t = QQ at *
        go_enter Tryz.func4, Tryz.ntmps4
        go_wp2_with (first
          | (go_at_call 8; refine (HLI.out _).mono ?_; rintro e w1 ⟨v, n, rfl, hla, hb1⟩; have HLA := hide3 hla; have HB1 := hide3 (HKB.out _ _ HB0.out hb1); obtain ⟨al, cl, rfl, _⟩ := hla; clear hb1)
          | (go_at_call 9; refine (HRD.out _ _ (HEV.out.below HB1.out.1) HLA.out).mono ?_; rintro e w2 ⟨hb2, hq2⟩; obtain ⟨ad2, cp2, all, hst, rfl, hra⟩ := hq2.resolve_right (fun q => by cases q.1); cases hst; have HB2 := hide3 (HKB.out _ _ (HKB.out _ _ HB1.out hb2) (boxB w2 (.cells #[.slice ad2 all.length cp2] 24))); have HRA := hide3 (hra.below (boxB w2 (.cells #[.slice ad2 all.length cp2] 24))); have HGX := hide3 (BxG.new (w := w2) rfl (.slice ad2 all.length cp2)); have HSZ : Hid (w.heap.size < w1.heap.size) := HB1.out.2.1.2; clear hb2 hq2 hra)
          | (go_at_call 10; refine (HMY.out _ _ HRA.out.at).mono ?_; rintro e w3 ⟨rfl, hb3⟩; have HB3 := hide3 (HKB.out _ _ HB2.out hb3); have HRA3 := hide3 (HRA.out.below hb3); obtain ⟨⟨n0, n1⟩, n2⟩ := HB3.out.2; obtain ⟨g0, g1⟩ := keepBxG _ _ _ _ HGX.out hb3; have s1 := fun u => World.cell?_setCell_same w3 ⟨w.heap.size, 0, none⟩ u n0; clear hb3))
        try simp only [Exit.inBlock, Exit.then]
        refine bodyPost_ret (by simp [results, Tryz.results4, s1, go_sem]; try rfl) rfl ?_
        exact HY.out _ ad2 cp2 all rfl (HB3.out.1.setCell (p := ⟨w.heap.size, 0, none⟩) (Nat.le_refl _) _) ((HRA3.out.of fun q hq _ => Below.heap_setCell _ _ _ _ (by have := HSZ.out; simp only; omega)).low HB1.out.1.size)
  · have hN : parG t = none := by unfold parG; rw [if_neg hE]
    have hPE : Sc.ansE t 1048576 = parGE t := by unfold parGE; rw [if_neg hE]
    have HN := hide3 (fun w' hb => HNO.out w' _ hN hPE hb)
    have hre : (Sc.ansE t 1048576 == 0) = false := by simpa using hE
    clear hN hPE hE he
    generalize PrQ w t = QQ at *
    generalize Sc.ansE t 1048576 = AE at *
    go_enter Tryz.func4, Tryz.ntmps4
    go_wp2_with (go_at_call 8; refine (HLI.out _).mono ?_; rintro e w1 ⟨v, n, rfl, hla, hb1⟩; have HB1 := hide3 (HKB.out _ _ HB0.out hb1); obtain ⟨⟨n0, n1⟩, n2⟩ := HB1.out.2; have s1 := fun u => World.cell?_setCell_same w1 ⟨w.heap.size, 0, none⟩ u n0; clear hb1)
    try simp only [Exit.inBlock, Exit.then]
    refine bodyPost_ret (by simp [results, Tryz.results4, s1, go_sem]; try rfl) rfl ?_
    exact HN.out _ (HB1.out.1.setCell (p := ⟨w.heap.size, 0, none⟩) (Nat.le_refl _) _)
end Go.Proofs.YtjbohacllhjgmaaGreatDoor
namespace Go.Proofs.YtjbohacllhjgmaaGreatDoor
open Go.RowKit
open Sc (Bs ba isW isL wB lineT textT nameA)
set_option maxRecDepth 100000

/-- The lines behind the first one of a graph under way. -/
def outL : List Nd → List (List Bs)
  | [] => []
  | n :: r => [wRoot] :: (listL n ++ restL r)
theorem linesG_out {st : List Nd} (h : st ≠ []) : linesG st = [wLock] :: outL st := by
  cases st with
  | nil => exact absurd rfl h
  | cons n r => rfl
theorem outL_snoc {dn : List Nd} (h : dn ≠ []) (n : Nd) : outL (dn ++ [n]) = outL dn ++ (nodeL n :: listL n) := by
  cases dn with
  | nil => exact absurd rfl h
  | cons m r =>
    show [wRoot] :: (listL m ++ restL (r ++ [n])) = [wRoot] :: (listL m ++ restL r) ++ (nodeL n :: listL n)
    rw [restL_snoc]
    simp
theorem outL_mod (dn : List Nd) {l l' : Nd} {x : List Bs} (hn : nodeL l' = nodeL l) (hl : listL l' = listL l ++ [x]) : outL (dn ++ [l']) = outL (dn ++ [l]) ++ [x] := by
  by_cases h : dn = []
  · subst h
    show [wRoot] :: (listL l' ++ []) = [wRoot] :: (listL l ++ []) ++ [x]
    rw [hl]
    simp
  · rw [outL_snoc h, outL_snoc h, hn, hl]
    simp
theorem snoc_of {st : List Nd} (h : st ≠ []) : ∃ dn l, st = dn ++ [l] := ⟨st.dropLast, st.getLast h, (List.dropLast_concat_getLast h).symm⟩
theorem pinR_ok {ws : List Bs} (h : (pinR ws).2 = true) : ws = [(pinR ws).1.nm.data.toList, bsV (pinR ws).1.a (pinR ws).1.b (pinR ws).1.c] := by
  match ws, h with
  | [x, y], h =>
    have h1 : okP (ba y) = true := h
    have h2 := (okP_text h1).2
    show [x, y] = [(ba x).data.toList, bsV (resA (ba y)) (resB (ba y)) (resC (ba y))]
    unfold bsV
    rw [← h2, Sc.ba_list, Sc.ba_list]
theorem edgR_ok {ws : List Bs} (h : (edgR ws).2 = true) : ws = [(edgR ws).1.lb.data.toList, Lib.itoa (edgR ws).1.to] := by
  match ws, h with
  | [x, y], h =>
    have h1 : Sc.ansB y 127 = true := h
    show [x, y] = [(ba x).data.toList, Lib.itoa (Sc.ansI y 127)]
    cases hr : Sc.refN y with
    | none => rw [(Sc.ans_none hr 127).2] at h1; cases h1
    | some n =>
      by_cases hm : (n : Int) ≤ 127
      · rw [(Sc.ans_ok hr hm).1, Sc.ba_list, itoa_of (by omega), (Sc.ref_some hr).1]
        simp
      · rw [(Sc.ans_far hr hm).2] at h1; cases h1
theorem take_out {st st' : List Nd} {x : Bs} {ws : List Bs} (h : takeR st x ws = some st') : outL st' = outL st ++ [x :: ws] ∧ st' ≠ [] := by
  unfold takeR at h
  split at h
  · rename_i hx
    split at h
    · rename_i hs
      unfold firstR at h
      split at h
      · rename_i hw
        cases h
        subst hs hx hw
        exact ⟨rfl, by simp⟩
      · cases h
    · cases h
  · split at h
    · cases h
    · rename_i hs
      split at h
      · rename_i hx
        unfold laterR at h
        split at h
        · rename_i hp
          cases h
          refine ⟨?_, by simp⟩
          rw [outL_snoc hs, hx]
          have := pinR_ok hp
          show outL st ++ ([wNode, _, _] :: []) = _
          rw [← this]
        · cases h
      · split at h
        · rename_i hx
          unfold pinsR at h
          split at h
          · rename_i hp
            cases h
            obtain ⟨dn, l, rfl⟩ := snoc_of hs
            rw [lastE_snoc] at hp
            rw [modLast_snoc]
            refine ⟨?_, by simp⟩
            refine outL_mod dn (l := l) rfl ?_
            have := pinR_ok hp.1
            show (l.cx ++ [(pinR ws).1]).map pinL ++ l.ed.map edgL = (l.cx.map pinL ++ l.ed.map edgL) ++ [x :: ws]
            rw [hp.2, hx, this]
            simp only [List.map_append, List.map_nil, List.append_nil, List.map_cons]
            rw [← this]
            show _ ++ [pinL _] = _
            unfold pinL
            rw [← this]
            rfl
          · cases h
        · split at h
          · rename_i hx
            unfold edgesR at h
            split at h
            · rename_i hp
              cases h
              obtain ⟨dn, l, rfl⟩ := snoc_of hs
              rw [modLast_snoc]
              refine ⟨?_, by simp⟩
              refine outL_mod dn (l := l) rfl ?_
              have := edgR_ok hp
              show l.cx.map pinL ++ (l.ed ++ [(edgR ws).1]).map edgL = (l.cx.map pinL ++ l.ed.map edgL) ++ [x :: ws]
              rw [hx]
              simp only [List.map_append, List.map_nil, List.map_cons, List.append_assoc]
              unfold edgL
              rw [← this]
              rfl
            · cases h
          · cases h
theorem fold_out : ∀ {L : List (List Bs)} {st st' : List Nd}, foldT st L = some st' → outL st' = outL st ++ L
  | [], st, st', h => by cases h; simp
  | [] :: L, st, st', h => by cases h
  | (x :: ws) :: L, st, st', h => by
    unfold foldT at h
    cases ht : takeR st x ws with
    | none => rw [ht] at h; cases h
    | some s =>
      rw [ht] at h
      rw [fold_out h, (take_out ht).1, List.append_assoc]
      rfl
/-- What is read is written as the text it was read from. -/
theorem par_text {t : ByteArray} {G : List Nd} (h : parG t = some G) : mayG G = true ∧ textG G = t := by
  unfold parG at h
  split at h
  · rename_i hE
    obtain ⟨f1, f2, f3⟩ := lines_facts hE
    cases hr : readG (Sc.ansL t 1048576) with
    | none => rw [hr] at h; cases h
    | some st =>
      rw [hr] at h
      simp only at h
      split at h
      · rename_i hm
        obtain rfl : st = G := Option.some.inj h
        refine ⟨hm, ?_⟩
        have hne : st ≠ [] := by rintro rfl; cases hm
        have hL : linesG st = Sc.ansL t 1048576 := by
          rw [linesG_out hne]
          cases hl : Sc.ansL t 1048576 with
          | nil => rw [hl] at hr; cases hr
          | cons a r =>
            rw [hl] at hr
            have hr' : (if a = [wLock] then foldT [] r else none) = some st := hr
            by_cases ha : a = [wLock]
            · rw [if_pos ha] at hr'
              rw [fold_out hr', ha]
              rfl
            · rw [if_neg ha] at hr'
              cases hr'
        unfold textG
        rw [hL, f2, Sc.ba_of]
      · cases h
  · cases h
theorem par_print {t : ByteArray} {G : List Nd} (h : parG t = some G) : prT G = t ∧ prE G = 0 := by
  obtain ⟨h1, h2⟩ := par_text h
  unfold prT prE
  rw [if_pos h1, if_pos h1]
  exact ⟨h2, rfl⟩

theorem foldT_app : ∀ (L M : List (List Bs)) {st s : List Nd}, foldT st L = some s → foldT st (L ++ M) = foldT s M
  | [], M, st, s, h => by cases h; rfl
  | [] :: L, M, st, s, h => by cases h
  | (y :: vs) :: L, M, st, s, h => by
    simp only [List.cons_append, foldT] at h ⊢
    cases ht : takeR st y vs with
    | none => rw [ht] at h; cases h
    | some s' => rw [ht] at h; exact foldT_app L M h
theorem pinR_of {p : Pn} (h : mayV p.a p.b p.c = true) : pinR [p.nm.data.toList, bsV p.a p.b p.c] = (p, true) := by
  obtain ⟨h0, h1, h2, h3⟩ := okP_of h
  show ((⟨ba p.nm.data.toList, resA (ba (bsV p.a p.b p.c)), resB (ba (bsV p.a p.b p.c)), resC (ba (bsV p.a p.b p.c))⟩ : Pn), okP (ba (bsV p.a p.b p.c))) = (p, true)
  unfold bsV
  rw [Sc.ba_of, Sc.ba_of, h0, h1, h2, h3]
theorem edgR_of {e : Eg} (h0 : 0 ≤ e.to) (h1 : e.to ≤ 127) : edgR [e.lb.data.toList, Lib.itoa e.to] = (e, true) := by
  have hr : Sc.refN (Lib.itoa e.to) = some e.to.toNat := by rw [itoa_of h0]; exact Sc.ref_dec (by omega)
  obtain ⟨q1, q2⟩ := Sc.ans_ok (most := 127) hr (by omega)
  show ((⟨ba e.lb.data.toList, Sc.ansI (Lib.itoa e.to) 127⟩ : Eg), Sc.ansB (Lib.itoa e.to) 127) = (e, true)
  rw [q1, q2, Sc.ba_of, Int.toNat_of_nonneg h0]
theorem fold_pins (dn : List Nd) : ∀ (P : List Pn) (l : Nd), l.ed = [] → (∀ p ∈ P, mayV p.a p.b p.c = true) → foldT (dn ++ [l]) (P.map pinL) = some (dn ++ [⟨l.nm, l.a, l.b, l.c, l.cx ++ P, []⟩])
  | [], l, he, _ => by
    show some (dn ++ [l]) = _
    rw [List.append_nil, ← he]
  | p :: P, l, he, h => by
    have h1 := pinR_of (h p (by simp))
    have ht : takeR (dn ++ [l]) wWith [p.nm.data.toList, bsV p.a p.b p.c] = some (dn ++ [addP p l]) := by
      unfold takeR
      rw [if_neg (by decide), if_neg (by simp), if_neg (by decide), if_pos rfl]
      unfold pinsR
      rw [h1, if_pos ⟨rfl, by rw [lastE_snoc, he]⟩, modLast_snoc]
    show foldT (dn ++ [l]) ((wWith :: [p.nm.data.toList, bsV p.a p.b p.c]) :: P.map pinL) = _
    unfold foldT
    rw [ht]
    show foldT (dn ++ [addP p l]) (P.map pinL) = _
    rw [fold_pins dn P (addP p l) he fun q hq => h q (by simp [hq])]
    simp [addP]
theorem fold_edges (dn : List Nd) : ∀ (P : List Eg) (l : Nd), (∀ e ∈ P, 0 ≤ e.to ∧ e.to ≤ 127) → foldT (dn ++ [l]) (P.map edgL) = some (dn ++ [⟨l.nm, l.a, l.b, l.c, l.cx, l.ed ++ P⟩])
  | [], l, _ => by
    show some (dn ++ [l]) = _
    rw [List.append_nil]
  | p :: P, l, h => by
    have h1 := edgR_of (h p (by simp)).1 (h p (by simp)).2
    have ht : takeR (dn ++ [l]) wTo [p.lb.data.toList, Lib.itoa p.to] = some (dn ++ [addE p l]) := by
      unfold takeR
      rw [if_neg (by decide), if_neg (by simp), if_neg (by decide), if_neg (by decide), if_pos rfl]
      unfold edgesR
      rw [h1, if_pos rfl, modLast_snoc]
    show foldT (dn ++ [l]) ((wTo :: [p.lb.data.toList, Lib.itoa p.to]) :: P.map edgL) = _
    unfold foldT
    rw [ht]
    show foldT (dn ++ [addE p l]) (P.map edgL) = _
    rw [fold_edges dn P (addE p l) fun q hq => h q (by simp [hq])]
    simp [addE]
/-- What a node must be for its lines to be read again. -/
def LnOk (n : Nd) : Prop := (∀ p ∈ n.cx, mayV p.a p.b p.c = true) ∧ ∀ e ∈ n.ed, 0 ≤ e.to ∧ e.to ≤ 127
theorem fold_list (dn : List Nd) {n : Nd} (h : LnOk n) : foldT (dn ++ [⟨n.nm, n.a, n.b, n.c, [], []⟩]) (listL n) = some (dn ++ [n]) := by
  unfold listL
  rw [foldT_app _ _ (fold_pins dn n.cx ⟨n.nm, n.a, n.b, n.c, [], []⟩ rfl h.1), fold_edges dn n.ed _ h.2]
  rfl
theorem fold_rest : ∀ (r dn : List Nd), dn ≠ [] → (∀ n ∈ r, LnOk n ∧ mayV n.a n.b n.c = true) → foldT dn (restL r) = some (dn ++ r)
  | [], dn, _, _ => by
    show some dn = _
    rw [List.append_nil]
  | n :: r, dn, hd, h => by
    obtain ⟨h1, h2⟩ := h n (by simp)
    have hp := pinR_of (p := ⟨n.nm, n.a, n.b, n.c⟩) h2
    have ht : takeR dn wNode [n.nm.data.toList, bsV n.a n.b n.c] = some (dn ++ [⟨n.nm, n.a, n.b, n.c, [], []⟩]) := by
      unfold takeR
      rw [if_neg (by decide), if_neg hd, if_pos rfl]
      unfold laterR
      rw [hp, if_pos rfl]
    have e : restL (n :: r) = (wNode :: [n.nm.data.toList, bsV n.a n.b n.c]) :: (listL n ++ restL r) := by simp [restL]; rfl
    rw [e]
    unfold foldT
    rw [ht]
    show foldT (dn ++ [⟨n.nm, n.a, n.b, n.c, [], []⟩]) (listL n ++ restL r) = _
    rw [foldT_app _ _ (fold_list dn h1), fold_rest r (dn ++ [n]) (by simp) fun m hm => h m (by simp [hm])]
    simp
/-- A graph's text is read as that graph. -/
theorem text_par {G : List Nd} (h : mayG G = true) : parG (textG G) = some G := by
  obtain ⟨k1, k2⟩ := linesG_ok h
  obtain ⟨g1, g2, g3, g4⟩ := mayG_nodes h
  have hsz : (textG G).size ≤ 1048576 := by unfold textG; rw [Sc.ba_size]; exact k2
  have hsc : Sc.scanR (textG G).data.toList [] [] [] = .ok (linesG G) := by
    unfold textG
    rw [Sc.ba_list, Sc.scan_text _ _ k1]
    rfl
  have hns : ¬ (1048576 : Int) < ((textG G).size : Int) := by omega
  have hE : Sc.ansE (textG G) 1048576 = 0 := by unfold Sc.ansE; rw [if_neg hns, hsc]; rfl
  have hL : Sc.ansL (textG G) 1048576 = linesG G := by unfold Sc.ansL; rw [if_neg hns, hsc]; rfl
  have hR : readG (linesG G) = some G := by
    cases G with
    | nil => cases h
    | cons n r =>
      rw [linesG_out (by simp)]
      show (if [wLock] = [wLock] then foldT [] (outL (n :: r)) else none) = _
      rw [if_pos rfl]
      have hok : ∀ m ∈ n :: r, LnOk m := fun m hm => by
        obtain ⟨a1, a2⟩ := g3 m hm
        refine ⟨fun p hp => (a1.2 p hp).2, fun e he => ?_⟩
        have h' := h
        unfold mayG at h'
        simp only [Bool.and_eq_true, decide_eq_true_eq, List.all_eq_true] at h'
        have := h'.2 m hm
        unfold mayEd at this
        simp only [Bool.and_eq_true, decide_eq_true_eq] at this
        obtain ⟨c1, c2, c3⟩ := mayE_all this.2 e he
        omega
      have hn0 : (⟨n.nm, n.a, n.b, n.c, [], []⟩ : Nd) = nd0 := by
        have h' := h
        unfold mayG firstB at h'
        simp only [Bool.and_eq_true, decide_eq_true_eq] at h'
        obtain ⟨⟨⟨_, ⟨q1, q2, q3, q4⟩, _⟩, _⟩, _⟩ := h'
        have q5 : n.nm = ⟨#[]⟩ := by rw [← Sc.ba_of n.nm, List.eq_nil_of_length_eq_zero (l := n.nm.data.toList) (by rw [Sc.list_size]; exact q1)]; rfl
        rw [q2, q3, q4, q5]
        rfl
      show foldT [] ([wRoot] :: (listL n ++ restL r)) = _
      unfold foldT
      rw [show takeR [] wRoot [] = some ([] ++ [nd0]) from rfl]
      show foldT ([] ++ [nd0]) (listL n ++ restL r) = _
      rw [← hn0, foldT_app _ _ (fold_list [] (hok n (by simp))), fold_rest r ([] ++ [n]) (by simp) fun m hm => ⟨hok m (by simp [hm]), by
        obtain ⟨i, hi, rfl⟩ := List.getElem_of_mem hm
        have := g4 (i + 1) (by simpa using hi) (by omega)
        simpa using this.2⟩]
      simp
  unfold parG
  rw [if_pos hE, hL, hR]
  simp only
  rw [if_pos h]
end Go.Proofs.YtjbohacllhjgmaaGreatDoor
namespace Go.Proofs.YtjbohacllhjgmaaGreatDoor
open Go.RowKit
open Sc (Bs ba)
set_option maxRecDepth 100000

/-- One line, as the document takes it: whatever its order; all lines. -/
def lenS (st : List Nd) (ln : List Bs) : Option (List Nd) := match ln with
  | [] => none
  | h :: r => if h = wRoot then some (st ++ [nd0]) else (match r with
    | [a, b] => if h = wNode then some (st ++ [⟨ba a, resA (ba b), resB (ba b), resC (ba b), [], []⟩]) else if st = [] then some st
      else if h = wWith then some (modLast (addP ⟨ba a, resA (ba b), resB (ba b), resC (ba b)⟩) st) else some (modLast (addE ⟨ba a, Sc.ansI b 128⟩) st)
    | _ => none)
def lenF : List Nd → List (List Bs) → Option (List Nd)
  | st, [] => some st
  | st, l :: r => match lenS st l with
    | some st' => lenF st' r
    | none => none
/-- What the document reads of a text. -/
def docG (t : ByteArray) : Option (List Nd) := if Sc.ansE t 1048576 = 0 then (match lenF [] ((Sc.ansL t 1048576).drop 1) with
    | some st => if mayG st = true ∧ textG st = t then some st else none
    | none => none) else none
theorem pinR_two {ws : List Bs} (h : (pinR ws).2 = true) : ∃ a b, ws = [a, b] := by
  match ws, h with
  | [a, b], _ => exact ⟨a, b, rfl⟩
theorem edgR_two {ws : List Bs} (h : (edgR ws).2 = true) : ∃ a b, ws = [a, b] ∧ Sc.ansI b 128 = Sc.ansI b 127 := by
  match ws, h with
  | [a, b], h =>
    refine ⟨a, b, rfl, ?_⟩
    have h1 : Sc.ansB b 127 = true := h
    cases hr : Sc.refN b with
    | none => rw [(Sc.ans_none hr 127).2] at h1; cases h1
    | some n =>
      by_cases hm : (n : Int) ≤ 127
      · rw [(Sc.ans_ok hr hm).1, (Sc.ans_ok (most := 128) hr (by omega)).1]
      · rw [(Sc.ans_far hr hm).2] at h1; cases h1
theorem take_len {st st' : List Nd} {x : Bs} {ws : List Bs} (h : takeR st x ws = some st') : lenS st (x :: ws) = some st' := by
  unfold takeR at h
  unfold lenS
  split at h
  · rename_i hx
    split at h
    · rename_i hs
      unfold firstR at h
      split at h
      · simp only
        rw [if_pos hx]
        exact h
      · cases h
    · cases h
  · rename_i hx0
    simp only
    rw [if_neg hx0]
    split at h
    · cases h
    · rename_i hs
      split at h
      · rename_i hx
        unfold laterR at h
        split at h
        · rename_i hp
          obtain ⟨a, b, rfl⟩ := pinR_two hp
          simp only
          rw [if_pos hx]
          exact h
        · cases h
      · rename_i hx1
        split at h
        · rename_i hx
          unfold pinsR at h
          split at h
          · rename_i hp
            obtain ⟨a, b, rfl⟩ := pinR_two hp.1
            simp only
            rw [if_neg hx1, if_neg hs, if_pos hx]
            exact h
          · cases h
        · rename_i hx2
          split at h
          · unfold edgesR at h
            split at h
            · rename_i hp
              obtain ⟨a, b, rfl, e⟩ := edgR_two hp
              simp only
              rw [if_neg hx1, if_neg hs, if_neg hx2, e]
              exact h
            · cases h
          · cases h
theorem fold_len : ∀ {L : List (List Bs)} {st st' : List Nd}, foldT st L = some st' → lenF st L = some st'
  | [], st, st', h => h
  | [] :: L, st, st', h => by cases h
  | (x :: ws) :: L, st, st', h => by
    unfold foldT at h
    cases ht : takeR st x ws with
    | none => rw [ht] at h; cases h
    | some s =>
      rw [ht] at h
      unfold lenF
      rw [take_len ht]
      exact fold_len h
/-- Both read the same. -/
theorem doc_par (t : ByteArray) : docG t = parG t := by
  by_cases hE : Sc.ansE t 1048576 = 0
  · cases hp : parG t with
    | some G =>
      obtain ⟨h1, h2⟩ := par_text hp
      have hp' := hp
      unfold parG at hp'
      rw [if_pos hE] at hp'
      unfold docG
      rw [if_pos hE]
      cases hl : Sc.ansL t 1048576 with
      | nil => rw [hl] at hp'; cases hp'
      | cons a r =>
        rw [hl] at hp'
        have hr : readG (a :: r) = if a = [wLock] then foldT [] r else none := rfl
        by_cases ha : a = [wLock]
        · rw [hr, if_pos ha] at hp'
          cases hf : foldT [] r with
          | none => rw [hf] at hp'; cases hp'
          | some st =>
            rw [hf] at hp'
            simp only at hp'
            split at hp'
            · obtain rfl : st = G := Option.some.inj hp'
              rw [List.drop_succ_cons, List.drop_zero, fold_len hf]
              simp only
              rw [if_pos ⟨h1, h2⟩]
            · cases hp'
        · rw [hr, if_neg ha] at hp'; cases hp'
    | none =>
      unfold docG
      rw [if_pos hE]
      cases hl : lenF [] ((Sc.ansL t 1048576).drop 1) with
      | none => rfl
      | some st =>
        simp only
        by_cases hm : mayG st = true ∧ textG st = t
        · have := text_par hm.1
          rw [hm.2, hp] at this
          cases this
        · rw [if_neg hm]
  · unfold docG parG
    rw [if_neg hE, if_neg hE]
end Go.Proofs.YtjbohacllhjgmaaGreatDoor
namespace Go.Proofs.YtjbohacllhjgmaaGreatDoor
open Go.RowKit
set_option maxRecDepth 100000

theorem RA.begun {B : Nat} {w w1 : World} {ad : Option Addr} {cap g cap1 : Nat} {all : List NV} {nm : ByteArray} {a b c : Int} (h : RA w B (.slice ad all.length cap) all) (hB : B ≤ w.heap.size)
    (ho : w1.ownsRow B 43 6 (.slice (some ⟨g, 0, none⟩) (all.length + 1) cap1) (all.length + 1) (all.flatMap ndC ++ ndC ⟨⟨nm, a, b, c, [], []⟩, .slice none 0 0, .slice none 0 0⟩)) (hg : w.grownBy w1 (Value.slice ad all.length cap).ownBlock) :
    RA w1 B (.slice (some ⟨g, 0, none⟩) (all.length + 1) cap1) (all ++ [⟨⟨nm, a, b, c, [], []⟩, .slice none 0 0, .slice none 0 0⟩]) ∧ LA all ⟨⟨nm, a, b, c, [], []⟩, .slice none 0 0, .slice none 0 0⟩ ∧ Below B w w1 := by
  refine ⟨⟨?_, fun x hx => ?_⟩, fun x _ => ⟨Or.inl rfl, Or.inl rfl⟩, ⟨hg.os, hg.tape, hg.output, hg.size, fun k hk => hg.block k (by omega) (fun e => by have := (h.1.lt _ e.symm).1; omega)⟩⟩
  · rw [List.length_append, List.flatMap_append]
    simpa using ho
  · rcases List.mem_append.1 hx with hx | hx
    · exact ⟨(h.2 x hx).1.kept hg (own_apart (h.2 x hx).1 h.1 (by decide)), (h.2 x hx).2.kept hg (own_apart (h.2 x hx).2 h.1 (by decide))⟩
    · obtain rfl := List.mem_singleton.1 hx
      exact ⟨⟨rfl, Or.inl ⟨rfl, rfl⟩⟩, ⟨rfl, Or.inl ⟨rfl, rfl⟩⟩⟩

theorem RA.pinned {B : Nat} {w w1 : World} {g cap : Nat} {dn : List NV} {lt : NV} {p : Pn} {v1 : Value}
    (h : RA w B (.slice (some ⟨g, 0, none⟩) (dn.length + 1) cap) (dn ++ [lt])) (hA : LA dn lt) (ho : w1.ownsRow B 49 4 v1 (lt.nd.cx.length + 1) (lt.nd.cx.flatMap pnC ++ pnC p)) (hg : w.grownBy w1 lt.vc.ownBlock) (hat : v1.ownBlock = lt.vc.ownBlock ∨ ∃ k, v1.ownBlock = some k ∧ w.heap.size ≤ k) :
    (w1.cell? ⟨g, dn.length * 6 + 4, none⟩ = some lt.vc ∧ w1.frozen? ⟨g, dn.length * 6 + 4, none⟩ = false) ∧
    RA (w1.setCell ⟨g, dn.length * 6 + 4, none⟩ v1) B (.slice (some ⟨g, 0, none⟩) (dn.length + 1) cap) (dn ++ [⟨addP p lt.nd, v1, lt.ve⟩]) ∧ LA dn ⟨addP p lt.nd, v1, lt.ve⟩ ∧ Below B w (w1.setCell ⟨g, dn.length * 6 + 4, none⟩ v1) := by
  have hlt := h.2 lt (by simp)
  have hn : (dn ++ [lt]).length = dn.length + 1 := by simp
  have hrow := h.1
  rw [hn] at hrow
  have hgk := hrow.lt g rfl
  have hrow1 := hrow.kept hg (own_apart hrow hlt.1 (by decide))
  have hst := hrow1.stored (dn.length * 6 + 4) v1
  have far : ∀ {e : TypeId} {z : Nat} {v : Value} {n : Nat} {xs : List Value}, w1.ownsRow B e z v n xs → e ≠ 43 → (w1.setCell ⟨g, dn.length * 6 + 4, none⟩ v1).ownsRow B e z v n xs := fun hv hne => ownsRow_setCell_other (a := ⟨g, dn.length * 6 + 4, none⟩) hv (fun e => own_ne hrow1 hv (fun q => hne q.symm) rfl e) _
  have hcell : w1.cell? ⟨g, dn.length * 6 + 4, none⟩ = some lt.vc := by
    rw [hrow1.cellAt (dn.length * 6 + 4) (by omega), flat_get]
    rfl
  have hRA : RA (w1.setCell ⟨g, dn.length * 6 + 4, none⟩ v1) B (.slice (some ⟨g, 0, none⟩) (dn.length + 1) cap) (dn ++ [⟨addP p lt.nd, v1, lt.ve⟩]) := by
    refine ⟨?_, fun x hx => ?_⟩
    · have e := hst.1
      rw [flat_set, show (ndC lt).set 4 v1 = ndC ⟨addP p lt.nd, v1, lt.ve⟩ from rfl] at e
      rw [List.length_append, List.flatMap_append]
      simpa using e
    · rcases List.mem_append.1 hx with hx | hx
      · have hx2 := h.2 x (by simp [hx])
        exact ⟨far (hx2.1.kept hg (hA x hx).1.back) (by decide), far (hx2.2.kept hg (own_apart hx2.2 hlt.1 (by decide))) (by decide)⟩
      · obtain rfl := List.mem_singleton.1 hx
        refine ⟨?_, far (hlt.2.kept hg (own_apart hlt.2 hlt.1 (by decide))) (by decide)⟩
        unfold OwnP
        simp only [addP, List.length_append, List.length_singleton, List.flatMap_append, List.flatMap_singleton]
        exact far ho (by decide)
  have hLA : LA dn ⟨addP p lt.nd, v1, lt.ve⟩ := fun x hx => by
    refine ⟨?_, (hA x hx).2⟩
    rcases hat with e | ⟨k, e, hk⟩
    · unfold Apart
      simp only
      rw [e]
      exact (hA x hx).1
    · refine Or.inr fun e2 => ?_
      simp only at e2
      rw [e] at e2
      have := ((h.2 x (by simp [hx])).1.lt k e2.symm).2
      omega
  have hb : Below B w w1 := ⟨hg.os, hg.tape, hg.output, hg.size, fun k hk => hg.block k (by omega) (fun e => by have := (hlt.1.lt _ e.symm).1; omega)⟩
  exact ⟨⟨hcell, hrow1.frozenAt _⟩, hRA, hLA, hb.setCell (p := ⟨g, dn.length * 6 + 4, none⟩) hgk.1 _⟩

theorem RA.edged {B : Nat} {w w1 : World} {g cap : Nat} {dn : List NV} {lt : NV} {p : Eg} {v1 : Value}
    (h : RA w B (.slice (some ⟨g, 0, none⟩) (dn.length + 1) cap) (dn ++ [lt])) (hA : LA dn lt) (ho : w1.ownsRow B 51 2 v1 (lt.nd.ed.length + 1) (lt.nd.ed.flatMap egC ++ egC p)) (hg : w.grownBy w1 lt.ve.ownBlock) (hat : v1.ownBlock = lt.ve.ownBlock ∨ ∃ k, v1.ownBlock = some k ∧ w.heap.size ≤ k) :
    (w1.cell? ⟨g, dn.length * 6 + 5, none⟩ = some lt.ve ∧ w1.frozen? ⟨g, dn.length * 6 + 5, none⟩ = false) ∧
    RA (w1.setCell ⟨g, dn.length * 6 + 5, none⟩ v1) B (.slice (some ⟨g, 0, none⟩) (dn.length + 1) cap) (dn ++ [⟨addE p lt.nd, lt.vc, v1⟩]) ∧ LA dn ⟨addE p lt.nd, lt.vc, v1⟩ ∧ Below B w (w1.setCell ⟨g, dn.length * 6 + 5, none⟩ v1) := by
  have hlt := h.2 lt (by simp)
  have hn : (dn ++ [lt]).length = dn.length + 1 := by simp
  have hrow := h.1
  rw [hn] at hrow
  have hgk := hrow.lt g rfl
  have hrow1 := hrow.kept hg (own_apart hrow hlt.2 (by decide))
  have hst := hrow1.stored (dn.length * 6 + 5) v1
  have far : ∀ {e : TypeId} {z : Nat} {v : Value} {n : Nat} {xs : List Value}, w1.ownsRow B e z v n xs → e ≠ 43 → (w1.setCell ⟨g, dn.length * 6 + 5, none⟩ v1).ownsRow B e z v n xs := fun hv hne => ownsRow_setCell_other (a := ⟨g, dn.length * 6 + 5, none⟩) hv (fun e => own_ne hrow1 hv (fun q => hne q.symm) rfl e) _
  have hcell : w1.cell? ⟨g, dn.length * 6 + 5, none⟩ = some lt.ve := by
    rw [hrow1.cellAt (dn.length * 6 + 5) (by omega), flat_get]
    rfl
  have hRA : RA (w1.setCell ⟨g, dn.length * 6 + 5, none⟩ v1) B (.slice (some ⟨g, 0, none⟩) (dn.length + 1) cap) (dn ++ [⟨addE p lt.nd, lt.vc, v1⟩]) := by
    refine ⟨?_, fun x hx => ?_⟩
    · have e := hst.1
      rw [flat_set, show (ndC lt).set 5 v1 = ndC ⟨addE p lt.nd, lt.vc, v1⟩ from rfl] at e
      rw [List.length_append, List.flatMap_append]
      simpa using e
    · rcases List.mem_append.1 hx with hx | hx
      · have hx2 := h.2 x (by simp [hx])
        exact ⟨far (hx2.1.kept hg (own_apart hx2.1 hlt.2 (by decide))) (by decide), far (hx2.2.kept hg (hA x hx).2.back) (by decide)⟩
      · obtain rfl := List.mem_singleton.1 hx
        refine ⟨far (hlt.1.kept hg (own_apart hlt.1 hlt.2 (by decide))) (by decide), ?_⟩
        unfold OwnE
        simp only [addE, List.length_append, List.length_singleton, List.flatMap_append, List.flatMap_singleton]
        exact far ho (by decide)
  have hLA : LA dn ⟨addE p lt.nd, lt.vc, v1⟩ := fun x hx => by
    refine ⟨(hA x hx).1, ?_⟩
    rcases hat with e | ⟨k, e, hk⟩
    · unfold Apart
      simp only
      rw [e]
      exact (hA x hx).2
    · refine Or.inr fun e2 => ?_
      simp only at e2
      rw [e] at e2
      have := ((h.2 x (by simp [hx])).2.lt k e2.symm).2
      omega
  have hb : Below B w w1 := ⟨hg.os, hg.tape, hg.output, hg.size, fun k hk => hg.block k (by omega) (fun e => by have := (hlt.2.lt _ e.symm).1; omega)⟩
  exact ⟨⟨hcell, hrow1.frozenAt _⟩, hRA, hLA, hb.setCell (p := ⟨g, dn.length * 6 + 5, none⟩) hgk.1 _⟩
end Go.Proofs.YtjbohacllhjgmaaGreatDoor
namespace Go.Proofs.YtjbohacllhjgmaaGreatDoor
open Go.RowKit
open Sc (Bs ba)
set_option maxRecDepth 100000

theorem bd_more {m : Nat} {st : List Nd} (h : Bd m st) : Bd (m + 1) st := ⟨by have := h.1; omega, fun n hn => by have := h.2 n hn; exact ⟨by omega, by omega⟩⟩
theorem bd_pin {m : Nat} {st : List Nd} (h : Bd m st) (p : Pn) : Bd (m + 1) (modLast (addP p) st) := by
  refine ⟨by rw [len_mod]; have := h.1; omega, fun n hn => ?_⟩
  rcases mem_mod hn with hn | ⟨l, hl, rfl⟩
  · have := h.2 n hn
    exact ⟨by omega, by omega⟩
  · have := h.2 l hl
    simp only [addP, List.length_append, List.length_singleton]
    exact ⟨by omega, by omega⟩
theorem bd_edge {m : Nat} {st : List Nd} (h : Bd m st) (p : Eg) : Bd (m + 1) (modLast (addE p) st) := by
  refine ⟨by rw [len_mod]; have := h.1; omega, fun n hn => ?_⟩
  rcases mem_mod hn with hn | ⟨l, hl, rfl⟩
  · have := h.2 n hn
    exact ⟨by omega, by omega⟩
  · have := h.2 l hl
    simp only [addE, List.length_append, List.length_singleton]
    exact ⟨by omega, by omega⟩
theorem len_bd {m : Nat} {st st' : List Nd} {l : List Bs} (h : Bd m st) (hl : lenS st l = some st') : Bd (m + 1) st' := by
  unfold lenS at hl
  split at hl
  · cases hl
  · split at hl
    · cases hl; exact bd_snoc h _ rfl rfl
    · split at hl
      · split at hl
        · cases hl; exact bd_snoc h _ rfl rfl
        · split at hl
          · cases hl; exact bd_more h
          · split at hl
            · cases hl; exact bd_pin h _
            · cases hl; exact bd_edge h _
      · cases hl

/-- One thing is put behind a row of one's own, in a region that keeps its order. -/
theorem wp_own {B : Nat} {wx : World} {elt slt : TypeId} {z : Value} {sz bs n : Nat} {v : Value} {xs : List Value} {ops : Array Oper} {rest : List Oper} {o : Oper} {f : Act} {Q : Exit → Act → World → Prop}
    (hinfo : (Tryz.prog.info? elt).map (fun i => (i.zero, i.size, i.bytes)) = some (some z, sz, bs)) (hund : Tryz.prog.underlying slt = some (.slice elt)) (hzc : z.cells.size = sz) (hsz : 0 < sz) (hbs : bs ≤ 1000)
    (hgd : o.guard = none) (s t : Operand) (ho : o.op = .call { callee := .builtin .append, args := #[s, t], argTypes := #[slt, slt] }) (hs : f.eval s = v)
    (hown : wx.ownsRow B elt sz v n xs) (hB : B ≤ wx.heap.size) (cs : Array Value) (hcs : cs.size = sz) (hone : ∀ u ∈ cs.toList, u.oneCell' = true) {M : Nat} (hM : wx.heap.size = M) (hx : f.eval t = .slice (some ⟨M, 0, none⟩) 1 1) (hlen : n ≤ 1000000000)
    (h : ∀ v1 w1, w1.ownsRow B elt sz v1 (n + 1) (xs ++ cs.toList) → (wx.alloc (.cells cs elt)).grownBy w1 v.ownBlock → (v1.ownBlock = v.ownBlock ∨ v1.ownBlock = some (wx.heap.size + 1)) → wpList Tryz.prog ops Q rest (f.put o.dst v1) w1) :
    wpList Tryz.prog ops Q (o :: rest) f (wx.alloc (.cells cs elt)) := by
  subst hM
  obtain ⟨i0, hi, hz0, hz1, hz2⟩ := Sc.info_parts hinfo
  have hsz1 : (wx.alloc (.cells cs elt)).heap.size = wx.heap.size + 1 := by simp
  have hbb : (n + 1) * bs ≤ 140737488355328 := by
    have := Nat.mul_le_mul (show n + 1 ≤ 1000000001 by omega) hbs
    omega
  refine wpList_append_own_at _ hgd s t slt ho B elt i0 z sz bs hund hi hz0 hz1 hz2 hzc hsz v n xs hs (hown.alloc _) ⟨wx.heap.size, 0, none⟩ 1 1 cs.toList hx (by rw [Array.length_toList, hcs, Nat.one_mul])
    (World.news_of_block (cs := cs) (t := elt) (fr := (0, 0)) (by show (wx.heap.push _)[wx.heap.size]? = _; rw [Array.getElem?_push, if_pos rfl])) hone (by unfold maxLen; omega) hbb (by omega) ?_
  intro v1 w1 hown1 hg1 _ hat
  exact h v1 w1 hown1 hg1 (by rw [hsz1] at hat; exact hat)
end Go.Proofs.YtjbohacllhjgmaaGreatDoor
namespace Go.Proofs.YtjbohacllhjgmaaGreatDoor
open Go.RowKit
open Sc (KeepP hide3 keepBelow Bs ba textT)
set_option maxRecDepth 100000

theorem SpellAll.below {w w' : World} (h : SpellAll w) (hb : Below w.heap.size w w') : SpellAll w' := fun W hb' n h0 h1 => h W (below_then hb hb') n h0 h1
/-- The text whose graph is fixed; its graph. -/
def kT : ByteArray := ⟨#[108, 111, 99, 107, 10, 114, 111, 111, 116, 10, 116, 111, 32, 97, 32, 49, 10, 110, 111, 100, 101, 32, 97, 32, 49, 46, 48, 46, 48, 10, 119, 105, 116, 104, 32, 98, 32, 50, 46, 48, 46, 48, 10, 116, 111, 32, 97, 32, 49, 10]⟩
def kG : List Nd := [⟨⟨#[]⟩, 0, 0, 0, [], [⟨⟨#[97]⟩, 1⟩]⟩, ⟨⟨#[97]⟩, 1, 0, 0, [⟨⟨#[98]⟩, 2, 0, 0⟩], [⟨⟨#[97]⟩, 1⟩]⟩]
theorem k_may : mayG kG = true := by decide +kernel
theorem k_text : textG kG = kT := by
  have e : textT (linesG kG) = kT.data.toList := by decide +kernel
  unfold textG
  rw [e, Sc.ba_of]
theorem k_par : parG kT = some kG := by rw [← k_text]; exact text_par k_may
theorem k_pr : prT kG = kT ∧ prE kG = 0 := par_print k_par
theorem k_cells {w : World} {ad : Option Addr} {n cap : Nat} (h : NodesAt w (.slice ad n cap) kG) : n = 2 ∧ 2 ≤ cap ∧ ∃ g o gp op cp, ad = some ⟨g, o, none⟩ ∧ w.cell? ⟨g, o + 6 + 4, none⟩ = some (.slice (some ⟨gp, op, none⟩) 1 cp) ∧ 1 ≤ cp ∧ w.cell? ⟨gp, op, none⟩ = some (.string ⟨#[98]⟩) := by
  obtain ⟨a1, c1, hv, hc, hl⟩ := h
  cases hv
  refine ⟨rfl, hc, ?_⟩
  rcases hl with e | ⟨g, o, rfl, hg, hs⟩
  · cases e
  · obtain ⟨vc, ve, ⟨_, _, _, _, k4, _⟩, ⟨hp, _⟩, _⟩ := hs 1 (by decide)
    obtain ⟨ap, cp, hvp, hcp, hlp⟩ := hp
    rcases hlp with e | ⟨gp, op, rfl, _, hq⟩
    · cases e
    · have q := (hq 0 (by decide)).1.1
      rw [hvp] at k4
      exact ⟨g, o, gp, op, cp, rfl, k4, hcp, q⟩

set_option maxHeartbeats 3200000 in
theorem known_lk {w : World} (he : Env w) (hs : SpellAll w) : Calls Tryz.prog 7 #[] w fun e w' => e = .returned (.bool true) ∧ Below w.heap.size w w' := by
  have HPA : Hid (Calls Tryz.prog 4 #[.string kT] w fun e w' => ∃ g o cap, e = .returned (.tuple #[.agg #[.slice (some ⟨g, o, none⟩) 2 cap], .int .i64 0]) ∧ Below w.heap.size w w' ∧ NodesAt w' (.slice (some ⟨g, o, none⟩) 2 cap) kG) := (gParse_any kT w he).mono fun e w' hq => by
    obtain ⟨hb, ⟨ad, cap, all, h1, h2, h3⟩ | ⟨h1, _⟩⟩ := hq
    · rw [k_par] at h1
      have hal : all.length = 2 := by
        have := congrArg List.length (Option.some.inj h1)
        simpa [kG] using this.symm
      have hn := h3.at
      rw [← Option.some.inj h1, hal] at hn
      rw [hal] at h2
      obtain ⟨_, _, g, o, _, _, _, rfl, _⟩ := k_cells hn
      exact ⟨g, o, cap, h2, hb, hn⟩
    · rw [k_par] at h1; cases h1
  have HPR : Hid (∀ w1 v, Below w.heap.size w w1 → NodesAt w1 v kG → Calls Tryz.prog 16 #[.agg #[v]] w1 fun e w' => e = .returned (.tuple #[.string kT, .int .i64 0]) ∧ Below w1.heap.size w1 w') := fun w1 v hb h => by
    have := gPrint_any h (hs.below hb)
    rw [k_pr.1, k_pr.2] at this
    exact this
  have HMA : Hid (∀ w1 v, NodesAt w1 v kG → Calls Tryz.prog 10 #[.agg #[v]] w1 fun e w' => e = .returned (.bool true) ∧ Below w1.heap.size w1 w') := fun w1 v h => by
    have := gMay_any h
    rw [k_may] at this
    exact this
  have hkT : kT = ⟨#[108, 111, 99, 107, 10, 114, 111, 111, 116, 10, 116, 111, 32, 97, 32, 49, 10, 110, 111, 100, 101, 32, 97, 32, 49, 46, 48, 46, 48, 10, 119, 105, 116, 104, 32, 98, 32, 50, 46, 48, 46, 48, 10, 116, 111, 32, 97, 32, 49, 10]⟩ := rfl
  have htO : kT.toList = [108, 111, 99, 107, 10, 114, 111, 111, 116, 10, 116, 111, 32, 97, 32, 49, 10, 110, 111, 100, 101, 32, 97, 32, 49, 46, 48, 46, 48, 10, 119, 105, 116, 104, 32, 98, 32, 50, 46, 48, 46, 48, 10, 116, 111, 32, 97, 32, 49, 10] := by rw [ByteArray.toList_eq]; rfl
  rw [hkT] at HPA
  clear he hs hkT
  go_enter Tryz.func7, Tryz.ntmps7
  go_wp2_with (first
    | (go_at_call 4; refine HPA.out.mono ?_; rintro e w1 ⟨g, o, cap, rfl, hb1, hn1⟩; have HB1 : Hid (Below w.heap.size w (w1.alloc (.cells #[.slice (some ⟨g, o, none⟩) 2 cap] 24)) ∧ NodesAt (w1.alloc (.cells #[.slice (some ⟨g, o, none⟩) 2 cap] 24)) (.slice (some ⟨g, o, none⟩) 2 cap) kG ∧ BxG (w1.alloc (.cells #[.slice (some ⟨g, o, none⟩) 2 cap] 24)) w1.heap.size (.slice (some ⟨g, o, none⟩) 2 cap)) := ⟨below_then hb1 (boxB _ _), hn1.below (boxB _ _), BxG.new rfl _⟩; clear hb1 hn1)
    | (go_at_call 16; refine (HPR.out _ _ HB1.out.1 HB1.out.2.1).mono ?_; rintro e w2 ⟨rfl, ok⟩; have HB2 : Hid (Below w.heap.size w w2 ∧ NodesAt w2 (.slice (some ⟨g, o, none⟩) 2 cap) kG ∧ BxG w2 w1.heap.size (.slice (some ⟨g, o, none⟩) 2 cap)) := ⟨below_then HB1.out.1 ok, HB1.out.2.1.below ok, keepBxG _ _ _ _ HB1.out.2.2 ok⟩; obtain ⟨_, hc2, g', o', gp, op, cp, hgo, k1, k2, k3⟩ := k_cells HB2.out.2.1; cases hgo; obtain ⟨y0, y1⟩ := HB2.out.2.2; clear ok)
    | (go_at_call 10; refine (HMA.out _ _ HB2.out.2.1).mono ?_; rintro e w3 ⟨rfl, ok⟩; have HB3 := hide3 (below_then HB2.out.1 ok); clear ok))
  go_ret
  exact ⟨rfl, HB3.out⟩
end Go.Proofs.YtjbohacllhjgmaaGreatDoor
namespace Go.Proofs.YtjbohacllhjgmaaGreatDoor
open Go.RowKit
open Sc (KeepP hide3 keepBelow Bs ba)
set_option maxRecDepth 100000

/-- Whether two things are one. -/
noncomputable def eqB {α : Type} (x y : α) : Bool := @decide (x = y) (Classical.propDecidable _)
theorem eqB_yes {α : Type} {x y : α} (h : x = y) : eqB x y = true := by unfold eqB; exact @decide_eq_true _ (Classical.propDecidable _) h
theorem eqB_no {α : Type} {x y : α} (h : x ≠ y) : eqB x y = false := by unfold eqB; exact @decide_eq_false _ (Classical.propDecidable _) h
theorem eqB_iff {α : Type} {x y : α} : eqB x y = true ↔ x = y := ⟨fun h => by unfold eqB at h; exact @of_decide_eq_true _ (Classical.propDecidable _) h, eqB_yes⟩

theorem eqInVL (p q r p' q' r' : Int) (w : World) : (Op.equalIn 9999 39 (.agg #[.int .i64 p, .int .i64 q, .int .i64 r]) (.agg #[.int .i64 p', .int .i64 q', .int .i64 r'])).run Tryz.prog w = .ok (decide (p = p') && decide (q = q') && decide (r = r')) w := by
  have u3 := Tryz.underlying3
  have a3 := Tryz.isAgg3
  have z3 := Tryz.sizeOf3
  rw [show (9999 : Nat) = 9998 + 1 from rfl, run_equalIn_agg w 9998 39 _ _ (by kernel_rfl) (by kernel_rfl)]
  simp only [Program.fieldsOf, Tryz.underlying39]
  by_cases h1 : p = p'
  · by_cases h2 : q = q'
    · by_cases h3 : r = r'
      · subst h1 h2 h3; go_simp
      · subst h1 h2; simp only [h3, decide_false, Bool.and_false]; go_simp
    · subst h1; simp only [h2, decide_false, Bool.and_false, Bool.false_and]; go_simp
  · simp only [h1, decide_false, Bool.false_and]; go_simp

def eqPn (p q : Pn) : Bool := decide (p.nm.toList = q.nm.toList) && (decide (p.a = q.a) && decide (p.b = q.b) && decide (p.c = q.c))
theorem eqPn_iff {p q : Pn} : eqPn p q = true ↔ p = q := by
  obtain ⟨s, a, b, c⟩ := p
  obtain ⟨s', a', b', c'⟩ := q
  unfold eqPn
  simp only [Bool.and_eq_true, decide_eq_true_eq, Pn.mk.injEq]
  exact ⟨fun ⟨h1, ⟨h2, h3⟩, h4⟩ => ⟨bytes_same h1, h2, h3, h4⟩, fun ⟨h1, h2, h3, h4⟩ => ⟨by rw [h1], ⟨h2, h3⟩, h4⟩⟩
def eqEg (p q : Eg) : Bool := decide (p.lb.toList = q.lb.toList) && decide (p.to = q.to)
theorem eqEg_iff {p q : Eg} : eqEg p q = true ↔ p = q := by
  obtain ⟨s, a⟩ := p
  obtain ⟨s', a'⟩ := q
  unfold eqEg
  simp only [Bool.and_eq_true, decide_eq_true_eq, Eg.mk.injEq]
  exact ⟨fun ⟨h1, h2⟩ => ⟨bytes_same h1, h2⟩, fun ⟨h1, h2⟩ => ⟨by rw [h1], h2⟩⟩
theorem guardPn (op : BinOp) (x y : Operand) (xs ys : Array Value) (w : World) : (eqGuard op 49 x y (.agg xs) (.agg ys)).run Tryz.prog w = .ok () w := run_eqGuard_agg w op 49 x y xs ys (by kernel_rfl)
theorem guardEg (op : BinOp) (x y : Operand) (xs ys : Array Value) (w : World) : (eqGuard op 51 x y (.agg xs) (.agg ys)).run Tryz.prog w = .ok () w := run_eqGuard_agg w op 51 x y xs ys (by kernel_rfl)
theorem neqPn (p q : Pn) (w : World) : (binOp .neq 49 (.agg #[.string p.nm, .int .i64 p.a, .int .i64 p.b, .int .i64 p.c]) (.agg #[.string q.nm, .int .i64 q.a, .int .i64 q.b, .int .i64 q.c])).run Tryz.prog w = .ok (.bool (!(eqPn p q))) w := by
  obtain ⟨s, a, b, c⟩ := p
  obtain ⟨s', a', b', c'⟩ := q
  have av := Tryz.isAgg39
  have zv := Tryz.sizeOf39
  have u9 := Tryz.underlying9
  have a9 := Tryz.isAgg9
  have z9 := Tryz.sizeOf9
  have h1 := eqInVL a b c a' b' c' w
  rw [run_neq_struct, show (10000 : Nat) = 9999 + 1 from rfl, run_equalIn_agg w 9999 49 _ _ (by kernel_rfl) (by kernel_rfl)]
  simp only [Program.fieldsOf, Tryz.underlying49]
  unfold eqPn
  simp only
  by_cases hs : s.toList = s'.toList
  · obtain rfl := bytes_same hs
    by_cases hv : a = a' ∧ b = b' ∧ c = c'
    · obtain ⟨rfl, rfl, rfl⟩ := hv
      go_simp
    · have hx : (decide (a = a') && decide (b = b') && decide (c = c')) = false := by
        rw [Bool.eq_false_iff]
        intro e
        simp only [Bool.and_eq_true, decide_eq_true_eq] at e
        exact hv ⟨e.1.1, e.1.2, e.2⟩
      rw [hx]
      go_simp
      intro e1 e2 e3
      exact hv ⟨e1, e2, e3⟩
  · generalize (decide (a = a') && decide (b = b') && decide (c = c')) = xv at *
    simp only [hs, decide_false, Bool.false_and]
    go_simp
theorem neqEg (p q : Eg) (w : World) : (binOp .neq 51 (.agg #[.string p.lb, .int .i64 p.to]) (.agg #[.string q.lb, .int .i64 q.to])).run Tryz.prog w = .ok (.bool (!(eqEg p q))) w := by
  obtain ⟨s, a⟩ := p
  obtain ⟨s', a'⟩ := q
  have u3 := Tryz.underlying3
  have a3 := Tryz.isAgg3
  have z3 := Tryz.sizeOf3
  have u9 := Tryz.underlying9
  have a9 := Tryz.isAgg9
  have z9 := Tryz.sizeOf9
  rw [run_neq_struct, show (10000 : Nat) = 9999 + 1 from rfl, run_equalIn_agg w 9999 51 _ _ (by kernel_rfl) (by kernel_rfl)]
  simp only [Program.fieldsOf, Tryz.underlying51]
  unfold eqEg
  simp only
  by_cases hs : s.toList = s'.toList
  · obtain rfl := bytes_same hs
    by_cases ha : a = a'
    · subst ha
      go_simp
    · simp only [ha, decide_false, Bool.and_false]
      go_simp
  · simp only [hs, decide_false, Bool.false_and]
    go_simp
end Go.Proofs.YtjbohacllhjgmaaGreatDoor
