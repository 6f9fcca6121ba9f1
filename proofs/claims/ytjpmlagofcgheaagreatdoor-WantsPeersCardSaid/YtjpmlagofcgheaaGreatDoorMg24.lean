/- Wb3, Lt1, Wb4, laid in one text. -/
import Derived.Test.YtjpmlagofcgheaaGreatDoorMg23
namespace Go.Proofs.YtjpmlagofcgheaaGreatDoor
open Go.RowKit Go.Maps Go.WideMaps
set_option maxRecDepth 100000

/-- How many stand ahead of a name. -/
def posN : List Pn → Pn → Nat
  | [], _ => 0
  | q :: r, p => if ltS q.nm p.nm = true then posN r p + 1 else 0
def insN (ps : List Pn) (p : Pn) : List Pn := ps.take (posN ps p) ++ p :: ps.drop (posN ps p)
theorem posN_le : ∀ (ps : List Pn) (p : Pn), posN ps p ≤ ps.length
  | [], _ => Nat.le_refl _
  | q :: r, p => by
    have := posN_le r p
    unfold posN
    split
    · rw [List.length_cons]; omega
    · exact Nat.zero_le _
theorem posN_ahead : ∀ {ps : List Pn} {p : Pn} {i : Nat} (hi : i < ps.length), i < posN ps p → ltS ps[i].nm p.nm = true
  | [], _, _, hi, _ => by cases hi
  | q :: r, p, i, hi, h => by
    unfold posN at h
    by_cases hy : ltS q.nm p.nm = true
    · rw [if_pos hy] at h
      cases i with
      | zero => exact hy
      | succ j =>
        rw [List.getElem_cons_succ]
        exact posN_ahead (by simpa using hi) (by omega)
    · rw [if_neg hy] at h
      omega
theorem posN_at : ∀ {ps : List Pn} {p : Pn} {i : Nat} (hi : i < ps.length), i = posN ps p → ltS ps[i].nm p.nm = false
  | [], _, _, hi, _ => by cases hi
  | q :: r, p, i, hi, h => by
    unfold posN at h
    by_cases hy : ltS q.nm p.nm = true
    · rw [if_pos hy] at h
      subst h
      rw [List.getElem_cons_succ]
      exact posN_at (by simpa using hi) rfl
    · rw [if_neg hy] at h
      subst h
      exact Bool.eq_false_iff.2 hy
theorem insN_cells (ps : List Pn) (p : Pn) : (insN ps p).flatMap encPn = (ps.take (posN ps p)).flatMap encPn ++ encPn p ++ (ps.drop (posN ps p)).flatMap encPn := by
  unfold insN
  rw [List.flatMap_append, List.flatMap_cons, List.append_assoc]
theorem insN_perm (ps : List Pn) (p : Pn) : (insN ps p).Perm (p :: ps) := by
  unfold insN
  have h := List.perm_middle (a := p) (l₁ := ps.take (posN ps p)) (l₂ := ps.drop (posN ps p))
  rw [List.take_append_drop] at h
  exact h
theorem pn_open {w : World} {B : Nat} {v : Value} {ps : List Pn} (h : OwnPn w B v ps) : (v = .slice none 0 0 ∧ ps = []) ∨ ∃ g cap, v = .slice (some ⟨g, 0, none⟩) ps.length cap ∧ ps.length ≤ cap ∧ g < w.heap.size ∧ ∀ j u, (ps.flatMap encPn)[j]? = some u → w.cell? ⟨g, j, none⟩ = some u := by
  rcases h.2 with ⟨e, hn⟩ | ⟨g, cap, cur, rfl, hB, hgg, hc, _, _, ht⟩
  · exact Or.inl ⟨e, List.length_eq_zero_iff.1 hn⟩
  · refine Or.inr ⟨g, cap, rfl, hc, (Array.getElem?_eq_some_iff.1 hgg).1, fun j u hj => ?_⟩
    have e := row_news hgg ht j u hj
    rw [add_at, Nat.zero_add] at e
    exact e
/-- What pinned shall answer. -/
def PinQ (w : World) (v : Value) (ps : List Pn) (p : Pn) (e : Ending) (w' : World) : Prop := ((∃ hi : posN ps p < ps.length, ps[posN ps p].nm = p.nm) → e = .returned (.tuple #[v, .bool false])) ∧ ((∀ hi : posN ps p < ps.length, ps[posN ps p].nm ≠ p.nm) → ∃ v', e = .returned (.tuple #[v', .bool true]) ∧ OwnPn w' w.heap.size v' (insN ps p)) ∧ Below w.heap.size w w'

set_option maxHeartbeats 25600000 in
theorem rpinned_any {w : World} {B : Nat} {v : Value} {ps : List Pn} (h : OwnPn w B v ps) (hl : ps.length ≤ 100000) (hs : ∀ q ∈ ps, q.nm.size ≤ 9223372036854775807) (p : Pn) : Calls Tryz.prog 57 #[v, .agg #[.string p.nm, .int .i64 p.a, .int .i64 p.b, .int .i64 p.c]] w (PinQ w v ps p) := by
  have HSZ := hide3 hs
  have HB0 : Hid (Below w.heap.size w (w.alloc (.cells #[.string p.nm, .int .i64 p.a, .int .i64 p.b, .int .i64 p.c] 58))) := boxB _ _
  have l0 : (w.alloc (.cells #[.string p.nm, .int .i64 p.a, .int .i64 p.b, .int .i64 p.c] 58)).cell? ⟨w.heap.size, 0, none⟩ = some (.string p.nm) := by simp
  have l1 : (w.alloc (.cells #[.string p.nm, .int .i64 p.a, .int .i64 p.b, .int .i64 p.c] 58)).cell? ⟨w.heap.size, 1, none⟩ = some (.int .i64 p.a) := by simp
  have l2 : (w.alloc (.cells #[.string p.nm, .int .i64 p.a, .int .i64 p.b, .int .i64 p.c] 58)).cell? ⟨w.heap.size, 2, none⟩ = some (.int .i64 p.b) := by simp
  have l3 : (w.alloc (.cells #[.string p.nm, .int .i64 p.a, .int .i64 p.b, .int .i64 p.c] 58)).cell? ⟨w.heap.size, 3, none⟩ = some (.int .i64 p.c) := by simp
  have hwl : w.heap.size < (w.alloc (.cells #[.string p.nm, .int .i64 p.a, .int .i64 p.b, .int .i64 p.c] 58)).heap.size := by simp
  have hwW : w.heap.size ≤ (w.alloc (.cells #[.string p.nm, .int .i64 p.a, .int .i64 p.b, .int .i64 p.c] 58)).heap.size := by simp
  have HBK : Hid (∀ W2, Below (w.alloc (.cells #[.string p.nm, .int .i64 p.a, .int .i64 p.b, .int .i64 p.c] 58)).heap.size (w.alloc (.cells #[.string p.nm, .int .i64 p.a, .int .i64 p.b, .int .i64 p.c] 58)) W2 → (W2.cell? ⟨w.heap.size, 0, none⟩ = some (.string p.nm) ∧ W2.cell? ⟨w.heap.size, 1, none⟩ = some (.int .i64 p.a) ∧ W2.cell? ⟨w.heap.size, 2, none⟩ = some (.int .i64 p.b) ∧ W2.cell? ⟨w.heap.size, 3, none⟩ = some (.int .i64 p.c)) ∧ Below w.heap.size w W2) := fun W2 hb => ⟨⟨(hb.cell (p := ⟨w.heap.size, 0, none⟩) hwl).trans l0, (hb.cell (p := ⟨w.heap.size, 1, none⟩) hwl).trans l1, (hb.cell (p := ⟨w.heap.size, 2, none⟩) hwl).trans l2, (hb.cell (p := ⟨w.heap.size, 3, none⟩) hwl).trans l3⟩, below_then HB0.out hb⟩
  have HFN : Hid (∀ w', (∃ hi : posN ps p < ps.length, ps[posN ps p].nm = p.nm) → Below (w.alloc (.cells #[.string p.nm, .int .i64 p.a, .int .i64 p.b, .int .i64 p.c] 58)).heap.size (w.alloc (.cells #[.string p.nm, .int .i64 p.a, .int .i64 p.b, .int .i64 p.c] 58)) w' → PinQ w v ps p (.returned (.tuple #[v, .bool false])) w') := fun w' h1 hb => ⟨fun _ => rfl, fun h2 => absurd h1.2 (h2 h1.1), below_then HB0.out hb⟩
  have HFY : Hid (∀ w' v' n xs, (∀ hi : posN ps p < ps.length, ps[posN ps p].nm ≠ p.nm) → w'.ownsRow w.heap.size 58 4 v' n xs → n = (insN ps p).length → xs = (insN ps p).flatMap encPn → Below w.heap.size w w' → PinQ w v ps p (.returned (.tuple #[v', .bool true])) w') := fun w' v' n xs h1 h2 h3 h4 hb => ⟨fun h5 => absurd h5.2 (h1 h5.1), fun _ => ⟨v', rfl, by subst h3; subst h4; exact h2⟩, hb⟩
  have HPO := hide3 (pn_open h)
  generalize hPQ : PinQ w v ps p = HQ at *
  clear hPQ hs l0 l1 l2 l3 h
  rcases HPO.out with hq | hq
  · obtain ⟨rfl, hpe⟩ := hq
    have HPE := hide3 hpe
    have hp0 : posN ps p = 0 := by rw [hpe]; rfl
    have HNEW : ∀ hi : posN ps p < ps.length, ps[posN ps p].nm ≠ p.nm := fun hi => by rw [hpe] at hi; cases hi
    have HNW2 := hide3 HNEW
    have HXE : Hid ([] ++ [.string p.nm, .int .i64 p.a, .int .i64 p.b, .int .i64 p.c] ++ [] = (insN ps p).flatMap encPn) := by
      unfold Hid
      rw [insN_cells, hp0, hpe]
      rfl
    have HLE : Hid (0 + 1 + 0 = (insN ps p).length) := by
      unfold Hid
      rw [(insN_perm ps p).length_eq, hpe]
      rfl
    clear hpe hp0 HNEW HPO
    go_enter Tryz.func57, Tryz.ntmps57
    go_wp2_with fail
    generalize (w.alloc (.cells #[.string p.nm, .int .i64 p.a, .int .i64 p.b, .int .i64 p.c] 58)) = W at *
    go_loopw [6] (fun vi wr => vi = .int .i64 0 ∧ Below W.heap.size W wr) (fun _ _ => 0)
    case atStart => exact ⟨rfl, Below.refl _ _⟩
    case round =>
      obtain ⟨rfl, hbw⟩ := hrel
      have HK : Hid (KeepP fun w1 => Below W.heap.size W w1) := keepBelow W
      have HO : Hid (Below W.heap.size W wr) := hbw
      clear hbw
      go_wp2_with fail
      refine wp_region_keep HK.out (by kernel_rfl) (by kernel_rfl) (by first | exact HO.out | exact HK.out.drew HO.out) ?_
      intro C hin hout
      have HIN := hide3 hin
      have HOUT := hide3 hout
      clear hin hout HO
      repeat
        (with_reducible refine wpQuiet_step (fun K hK => ?_)
         go_simp
         first
           | (refine hK _ ?_; clear hK K)
           | (apply Exists.intro; refine ⟨fun w1 hC => ?_, hK _ ?_⟩; (focus ((first | (exact rfl) | (obtain hb1 := HOUT.out w1 hC; clear hC; go_simp; first | done | exact rfl)); done)); clear hK K))
      refine wpQuiet_nil ?_
      intro wz hC
      have HO := hide3 (HOUT.out _ hC)
      clear hC HIN HOUT C
      obtain hb1 := HO.out
      have HK2 := HK
      go_wp2_with fail
      refine wp_region_keep HK.out (by kernel_rfl) (by kernel_rfl) (by first | exact HO.out | exact HK.out.drew HO.out) ?_
      intro C hin hout
      have HIN := hide3 hin
      have HOUT := hide3 hout
      clear hin hout HO
      repeat
        (with_reducible refine wpQuiet_step (fun K hK => ?_)
         go_simp
         first
           | (refine hK _ ?_; clear hK K)
           | (apply Exists.intro; refine ⟨fun w1 hC => ?_, hK _ ?_⟩; (focus ((first | (exact rfl) | (obtain hb2 := HOUT.out w1 hC; clear hC; go_simp; first | done | exact rfl)); done)); clear hK K))
      refine wpQuiet_nil ?_
      intro wy hC
      have HO := hide3 (HOUT.out _ hC)
      clear hC HIN HOUT C
      obtain hb2 := HO.out
      have HBX := hide3 hb2
      clear hb1 hb2 HK HO HK2
      have tok1 : True := trivial
      go_wp2_with (first
        | (have _t := tok1; clear _t tok1; at_builtin; refine wp_ownR (B := W.heap.size) (B' := 0) (v := .slice none 0 0) (x := .slice none 0 0) (xs := []) (news := []) (n := 0) (m := 0) infoPn Tryz.underlying40 rfl (by decide) (by decide) rfl (.tmp 39) (.tmp 42) rfl rfl ⟨rfl, Or.inl ⟨rfl, rfl⟩⟩ HBX.out.size rfl ⟨rfl, Or.inl ⟨rfl, rfl⟩⟩ (fun u hu => by cases hu) (by omega) ?_; intro y1 w6 ho6 hg6 hat6; rw [Nat.zero_add, List.nil_append] at ho6; obtain ⟨b1, d1, rfl⟩ := own_len ho6; have HO6 := hide3 ho6; have HB6 : Hid (Below W.heap.size W w6) := HBX.out.grown hg6 HBX.out.size (fun k hk => by cases hk); clear ho6 hg6 hat6; obtain ⟨⟨l0, l1, l2, l3⟩, _⟩ := HBK.out _ HB6.out; have HO7 : Hid ((w6.alloc (.cells #[.string p.nm, .int .i64 p.a, .int .i64 p.b, .int .i64 p.c] 58)).ownsRow W.heap.size 58 4 (.slice b1 0 d1) 0 []) := own_below HO6.out (boxB _ _); have HB7 : Hid (Below W.heap.size W (w6.alloc (.cells #[.string p.nm, .int .i64 p.a, .int .i64 p.b, .int .i64 p.c] 58))) := below_then HB6.out (boxB _ _); have HNW : Hid (∀ j u, ([.string p.nm, .int .i64 p.a, .int .i64 p.b, .int .i64 p.c] : List Value)[j]? = some u → (w6.alloc (.cells #[.string p.nm, .int .i64 p.a, .int .i64 p.b, .int .i64 p.c] 58)).cell? ((⟨w6.heap.size, 0, none⟩ : Addr).add j) = some u) := World.news_of_block (cs := #[.string p.nm, .int .i64 p.a, .int .i64 p.b, .int .i64 p.c]) (t := 58) (fr := (0, 0)) (by show (w6.heap.push _)[_]? = _; rw [Array.getElem?_push, if_pos rfl]); have tok2 : True := trivial)
        | (have _t := tok2; clear _t tok2; at_builtin; refine wp_ownN (B := W.heap.size) (wx := w6.alloc (.cells #[.string p.nm, .int .i64 p.a, .int .i64 p.b, .int .i64 p.c] 58)) (v := .slice b1 0 d1) (ad := ⟨w6.heap.size, 0, none⟩) (n := 0) (m := 1) (news := [.string p.nm, .int .i64 p.a, .int .i64 p.b, .int .i64 p.c]) infoPn Tryz.underlying40 rfl (by decide) (by decide) rfl (.tmp 44) (.tmp 46) rfl rfl HO7.out HB7.out.size rfl rfl HNW.out (by simp [Value.oneCell']) (by omega) ?_; intro y2 w8 ho8 hg8 hat8; obtain ⟨b2, d2, rfl⟩ := own_len ho8; have HO8 := hide3 ho8; have HB8 : Hid (Below W.heap.size W w8) := HB7.out.grown hg8 HB7.out.size (fun k hk => (World.ownsRow.lt HO7.out k hk).1); clear ho8 hg8 hat8; have tok3 : True := trivial)
        | (have _t := tok3; clear _t tok3; at_builtin; refine wp_ownR (B := W.heap.size) (B' := 0) (v := .slice b2 (0 + 1) d2) (x := .slice none 0 0) (news := []) (n := 0 + 1) (m := 0) infoPn Tryz.underlying40 rfl (by decide) (by decide) rfl (.tmp 48) (.tmp 51) rfl rfl HO8.out HB8.out.size rfl ⟨rfl, Or.inl ⟨rfl, rfl⟩⟩ (fun u hu => by cases hu) (by omega) ?_; intro y3 w9 ho9 hg9 hat9; obtain ⟨b3, d3, rfl⟩ := own_len ho9; have HO9 := hide3 ho9; have HB9 : Hid (Below W.heap.size W w9) := HB8.out.grown hg9 HB8.out.size (fun k hk => (World.ownsRow.lt HO8.out k hk).1); clear ho9 hg9 hat9))
      exact HFY.out _ _ _ _ HNW2.out (own_base HO9.out hwW) HLE.out HXE.out (HBK.out _ HB9.out).2
  · obtain ⟨g, cap, rfl, hcap, hg, hcells⟩ := hq
    have HCE := hide3 hcells
    obtain ⟨pos, hpos⟩ : ∃ q, q = posN ps p := ⟨_, rfl⟩
    have hpl : pos ≤ ps.length := hpos ▸ posN_le _ _
    have HP1 : Hid (∀ i (hi : i < ps.length), i < pos → ltS ps[i].nm p.nm = true) := fun i hi q => posN_ahead hi (hpos ▸ q)
    have HP2 : Hid (∀ i (hi : i < ps.length), i = pos → ltS ps[i].nm p.nm = false) := fun i hi q => posN_at hi (q.trans hpos)
    have HXS : Hid ((ps.take pos).flatMap encPn ++ [.string p.nm, .int .i64 p.a, .int .i64 p.b, .int .i64 p.c] ++ (ps.drop pos).flatMap encPn = (insN ps p).flatMap encPn) := by
      unfold Hid
      rw [insN_cells, ← hpos]
      rfl
    have HLS : Hid (pos + 1 + (ps.length - pos) = (insN ps p).length) := by
      unfold Hid
      rw [(insN_perm ps p).length_eq, List.length_cons]
      omega
    rw [← hpos] at HFN HFY
    clear hpos hcells HPO
    have HN1 : Hid (∀ W2, Below w.heap.size w W2 → ∀ j u, ((ps.take pos).flatMap encPn)[j]? = some u → W2.cell? ((⟨g, 0, none⟩ : Addr).add j) = some u) := fun W2 hb j u hj => by
      rw [take_flat encPn 4 (fun _ => rfl)] at hj
      by_cases q : j < pos * 4
      · rw [List.getElem?_take_of_lt q] at hj
        rw [add_at, Nat.zero_add]
        exact (hb.cell (p := ⟨g, j, none⟩) hg).trans (HCE.out j u hj)
      · rw [List.getElem?_take_eq_none (by omega)] at hj
        cases hj
    have HN3 : Hid (∀ W2, Below w.heap.size w W2 → ∀ j u, ((ps.drop pos).flatMap encPn)[j]? = some u → W2.cell? ((⟨g, pos * 4, none⟩ : Addr).add j) = some u) := fun W2 hb j u hj => by
      rw [drop_flat encPn 4 (fun _ => rfl), List.getElem?_drop] at hj
      rw [add_at]
      exact (hb.cell (p := ⟨g, pos * 4 + j, none⟩) hg).trans (HCE.out _ u hj)
    have HL1 : Hid (((ps.take pos).flatMap encPn).length = pos * 4) := by
      unfold Hid
      rw [flatMap_len encPn 4 (fun _ => rfl), List.length_take, Nat.min_eq_left hpl]
    have HL3 : Hid (((ps.drop pos).flatMap encPn).length = (ps.length - pos) * 4) := by
      unfold Hid
      rw [flatMap_len encPn 4 (fun _ => rfl), List.length_drop]
    have HE1 : Hid (∀ u ∈ (ps.take pos).flatMap encPn, u.oneCell' = true) := encPn_one _
    have HE3 : Hid (∀ u ∈ (ps.drop pos).flatMap encPn, u.oneCell' = true) := encPn_one _
    have hpi1 : (pos : Int) ≤ (ps.length : Int) := by omega
    have hpi2 : (pos : Int) ≤ (cap : Int) := by omega
    have hpi3 : (ps.length : Int) ≤ (cap : Int) := by omega
    have hgW : g < (w.alloc (.cells #[.string p.nm, .int .i64 p.a, .int .i64 p.b, .int .i64 p.c] 58)).heap.size := by simp; omega
    go_enter Tryz.func57, Tryz.ntmps57
    go_wp2_with fail
    generalize (w.alloc (.cells #[.string p.nm, .int .i64 p.a, .int .i64 p.b, .int .i64 p.c] 58)) = W at *
    go_loopw [6] (fun vi wr => ∃ i : Nat, i ≤ pos ∧ vi = .int .i64 i ∧ Below W.heap.size W wr) (fun vi _ => ps.length - (intOf vi).toNat)
    case atStart => exact ⟨0, Nat.zero_le _, rfl, Below.refl _ _⟩
    case round =>
      obtain ⟨i, hi, rfl, hbw⟩ := hrel
      have HB := hide3 hbw
      clear hbw
      by_cases hlt : i < ps.length
      · have hki : (i : Int) < (ps.length : Int) := by omega
        obtain ⟨n0, _, _, _⟩ := encPn_at ps i hlt
        have c0 : wr.cell? ⟨g, i * 4, none⟩ = some (.string ps[i].nm) := ((HBK.out _ HB.out).2.cell (p := ⟨g, i * 4, none⟩) hg).trans (HCE.out _ _ n0)
        have HLS2 : Hid (∀ w1, Calls Tryz.prog 28 #[.string ps[i].nm, .string p.nm] w1 fun e w' => e = .returned (.bool (ltS ps[i].nm p.nm)) ∧ Below w1.heap.size w1 w') := fun w1 => rLess5_any _ _ w1 (HSZ.out _ (List.getElem_mem hlt))
        have HQ1 := hide3 (HP1.out i hlt)
        have HQ2 := hide3 (HP2.out i hlt)
        have HQN : Hid (i = pos → (ps[i].nm = p.nm → ∃ hi : pos < ps.length, ps[pos].nm = p.nm) ∧ (¬ ps[i].nm = p.nm → ∀ hi : pos < ps.length, ps[pos].nm ≠ p.nm)) := fun e => by
          subst e
          exact ⟨fun h => ⟨hlt, h⟩, fun h _ => h⟩
        obtain ⟨⟨l0, _, _, _⟩, _⟩ := HBK.out _ HB.out
        have hgr : g < wr.heap.size := Nat.lt_of_lt_of_le hgW HB.out.size
        have hwr : w.heap.size < wr.heap.size := Nat.lt_of_lt_of_le hwl HB.out.size
        generalize ps[i] = x at *
        have HK : Hid (KeepP fun w1 => Below W.heap.size W w1 ∧ Sc.CellK w1 g (i * 4) (.string x.nm) ∧ Sc.CellK w1 w.heap.size 0 (.string p.nm)) := KeepP.and (keepBelow W) (KeepP.and (keepCk _ _ _) (keepCk _ _ _))
        have HO : Hid (Below W.heap.size W wr ∧ Sc.CellK wr g (i * 4) (.string x.nm) ∧ Sc.CellK wr w.heap.size 0 (.string p.nm)) := ⟨HB.out, ⟨c0, hgr⟩, ⟨l0, hwr⟩⟩
        clear c0 l0 n0
        by_cases hip : i = pos
        · rw [HQ2.out hip] at HLS2
          obtain ⟨hqa, hqb⟩ := HQN.out hip
          have HQA := hide3 hqa
          have HQB := hide3 hqb
          subst hip
          clear HQ1 HQ2 HQN hqa hqb
          by_cases hnm : x.nm = p.nm
          · have HIS := hide3 (HQA.out hnm)
            rw [hnm] at HLS2 HO HK
            clear hnm HQA HQB
            go_wp2_with fail
            refine wp_region_keep HK.out (by kernel_rfl) (by kernel_rfl) (by first | exact HO.out | exact HK.out.drew HO.out) ?_
            intro C hin hout
            have HIN := hide3 hin
            have HOUT := hide3 hout
            clear hin hout HO
            repeat
              (with_reducible refine wpQuiet_step (fun K hK => ?_)
               go_simp
               first
                 | (refine hK _ ?_; clear hK K)
                 | (apply Exists.intro; refine ⟨fun w1 hC => ?_, hK _ ?_⟩; (focus ((first | (go_at_call 28; with_reducible exact callC HIN.out HOUT.out HK.out HLS2.out w1 hC) | (exact rfl) | (obtain ⟨hb1, ⟨t0, _⟩, ⟨t1, _⟩⟩ := HOUT.out w1 hC; clear hC; go_simp; first | done | exact rfl)); done)); clear hK K))
            refine wpQuiet_nil ?_
            intro wz hC
            have HO := hide3 (HOUT.out _ hC)
            clear hC HIN HOUT C
            obtain ⟨hb1, ⟨t0, _⟩, ⟨t1, _⟩⟩ := HO.out
            clear hb1 t0 t1
            go_wp2_with fail
            refine wp_region_keep HK.out (by kernel_rfl) (by kernel_rfl) (by first | exact HO.out | exact HK.out.drew HO.out) ?_
            intro C hin hout
            have HIN := hide3 hin
            have HOUT := hide3 hout
            clear hin hout HO
            repeat
              (with_reducible refine wpQuiet_step (fun K hK => ?_)
               go_simp
               first
                 | (refine hK _ ?_; clear hK K)
                 | (apply Exists.intro; refine ⟨fun w1 hC => ?_, hK _ ?_⟩; (focus ((first | (exact rfl) | (obtain ⟨hb1, ⟨t0, _⟩, ⟨t1, _⟩⟩ := HOUT.out w1 hC; clear hC; go_simp; first | done | exact rfl)); done)); clear hK K))
            refine wpQuiet_nil ?_
            intro wy hC
            have HO := hide3 (HOUT.out _ hC)
            clear hC HIN HOUT C
            obtain ⟨hb1, ⟨t0, _⟩, ⟨t1, _⟩⟩ := HO.out
            go_wp2_with fail
            exact HFN.out _ HIS.out hb1
          · have HNO := hide3 (HQB.out hnm)
            have hne : (x.nm.toList == p.nm.toList) = false := by
              rw [beq_eq_false_iff_ne]
              exact fun e => hnm (bytes_same e)
            clear hnm HQA HQB
            go_wp2_with fail
            refine wp_region_keep HK.out (by kernel_rfl) (by kernel_rfl) (by first | exact HO.out | exact HK.out.drew HO.out) ?_
            intro C hin hout
            have HIN := hide3 hin
            have HOUT := hide3 hout
            clear hin hout HO
            repeat
              (with_reducible refine wpQuiet_step (fun K hK => ?_)
               go_simp
               first
                 | (refine hK _ ?_; clear hK K)
                 | (apply Exists.intro; refine ⟨fun w1 hC => ?_, hK _ ?_⟩; (focus ((first | (go_at_call 28; with_reducible exact callC HIN.out HOUT.out HK.out HLS2.out w1 hC) | (exact rfl) | (obtain ⟨hb1, ⟨t0, _⟩, ⟨t1, _⟩⟩ := HOUT.out w1 hC; clear hC; go_simp; first | done | exact rfl)); done)); clear hK K))
            refine wpQuiet_nil ?_
            intro wz hC
            have HO := hide3 (HOUT.out _ hC)
            clear hC HIN HOUT C
            obtain ⟨hb1, ⟨t0, _⟩, ⟨t1, _⟩⟩ := HO.out
            clear hb1 t0 t1
            go_wp2_with fail
            refine wp_region_keep HK.out (by kernel_rfl) (by kernel_rfl) (by first | exact HO.out | exact HK.out.drew HO.out) ?_
            intro C hin hout
            have HIN := hide3 hin
            have HOUT := hide3 hout
            clear hin hout HO
            repeat
              (with_reducible refine wpQuiet_step (fun K hK => ?_)
               go_simp
               first
                 | (refine hK _ ?_; clear hK K)
                 | (apply Exists.intro; refine ⟨fun w1 hC => ?_, hK _ ?_⟩; (focus ((first | (exact rfl) | (obtain ⟨hb1, ⟨t0, _⟩, ⟨t1, _⟩⟩ := HOUT.out w1 hC; clear hC; go_simp; first | done | exact rfl)); done)); clear hK K))
            refine wpQuiet_nil ?_
            intro wy hC
            have HO := hide3 (HOUT.out _ hC)
            clear hC HIN HOUT C
            obtain ⟨hb1, ⟨t0, _⟩, ⟨t1, _⟩⟩ := HO.out
            have HBX := hide3 hb1
            clear hb1 t0 t1 HK HO
            have tok1 : True := trivial
            go_wp2_with (first
              | (have _t := tok1; clear _t tok1; at_builtin; refine wp_ownN (B := W.heap.size) (v := .slice none 0 0) (xs := []) (news := (ps.take i).flatMap encPn) (n := 0) (m := i) (ad := ⟨g, 0, none⟩) infoPn Tryz.underlying40 rfl (by decide) (by decide) rfl (.tmp 39) (.tmp 42) rfl rfl ⟨rfl, Or.inl ⟨rfl, rfl⟩⟩ HBX.out.size rfl HL1.out (HN1.out _ (HBK.out _ HBX.out).2) HE1.out (by omega) ?_; intro y1 w6 ho6 hg6 hat6; rw [Nat.zero_add, List.nil_append] at ho6; obtain ⟨b1, d1, rfl⟩ := own_len ho6; have HO6 := hide3 ho6; have HB6 : Hid (Below W.heap.size W w6) := HBX.out.grown hg6 HBX.out.size (fun k hk => by cases hk); clear ho6 hg6 hat6; obtain ⟨⟨l0, l1, l2, l3⟩, _⟩ := HBK.out _ HB6.out; have HO7 : Hid ((w6.alloc (.cells #[.string p.nm, .int .i64 p.a, .int .i64 p.b, .int .i64 p.c] 58)).ownsRow W.heap.size 58 4 (.slice b1 i d1) i ((ps.take i).flatMap encPn)) := own_below HO6.out (boxB _ _); have HB7 : Hid (Below W.heap.size W (w6.alloc (.cells #[.string p.nm, .int .i64 p.a, .int .i64 p.b, .int .i64 p.c] 58))) := below_then HB6.out (boxB _ _); have HNW : Hid (∀ j u, ([.string p.nm, .int .i64 p.a, .int .i64 p.b, .int .i64 p.c] : List Value)[j]? = some u → (w6.alloc (.cells #[.string p.nm, .int .i64 p.a, .int .i64 p.b, .int .i64 p.c] 58)).cell? ((⟨w6.heap.size, 0, none⟩ : Addr).add j) = some u) := World.news_of_block (cs := #[.string p.nm, .int .i64 p.a, .int .i64 p.b, .int .i64 p.c]) (t := 58) (fr := (0, 0)) (by show (w6.heap.push _)[_]? = _; rw [Array.getElem?_push, if_pos rfl]); have tok2 : True := trivial)
              | (have _t := tok2; clear _t tok2; at_builtin; refine wp_ownN (B := W.heap.size) (wx := w6.alloc (.cells #[.string p.nm, .int .i64 p.a, .int .i64 p.b, .int .i64 p.c] 58)) (v := .slice b1 i d1) (ad := ⟨w6.heap.size, 0, none⟩) (n := i) (m := 1) (news := [.string p.nm, .int .i64 p.a, .int .i64 p.b, .int .i64 p.c]) infoPn Tryz.underlying40 rfl (by decide) (by decide) rfl (.tmp 44) (.tmp 46) rfl rfl HO7.out HB7.out.size rfl rfl HNW.out (by simp [Value.oneCell']) (by omega) ?_; intro y2 w8 ho8 hg8 hat8; obtain ⟨b2, d2, rfl⟩ := own_len ho8; have HO8 := hide3 ho8; have HB8 : Hid (Below W.heap.size W w8) := HB7.out.grown hg8 HB7.out.size (fun k hk => (World.ownsRow.lt HO7.out k hk).1); clear ho8 hg8 hat8; have tok3 : True := trivial)
              | (have _t := tok3; clear _t tok3; at_builtin; refine wp_ownN (B := W.heap.size) (v := .slice b2 (i + 1) d2) (news := (ps.drop i).flatMap encPn) (n := i + 1) (m := ps.length - i) (ad := ⟨g, i * 4, none⟩) infoPn Tryz.underlying40 rfl (by decide) (by decide) rfl (.tmp 48) (.tmp 51) rfl rfl HO8.out HB8.out.size rfl HL3.out (HN3.out _ (HBK.out _ HB8.out).2) HE3.out (by omega) ?_; intro y3 w9 ho9 hg9 hat9; obtain ⟨b3, d3, rfl⟩ := own_len ho9; have HO9 := hide3 ho9; have HB9 : Hid (Below W.heap.size W w9) := HB8.out.grown hg9 HB8.out.size (fun k hk => (World.ownsRow.lt HO8.out k hk).1); clear ho9 hg9 hat9))
            exact HFY.out _ _ _ _ HNO.out (own_base HO9.out hwW) HLS.out HXS.out (HBK.out _ HB9.out).2
        · have hip2 : i < pos := by omega
          rw [HQ1.out hip2] at HLS2
          clear HQ1 HQ2 HQN
          go_wp2_with fail
          refine wp_region_keep HK.out (by kernel_rfl) (by kernel_rfl) (by first | exact HO.out | exact HK.out.drew HO.out) ?_
          intro C hin hout
          have HIN := hide3 hin
          have HOUT := hide3 hout
          clear hin hout HO
          repeat
            (with_reducible refine wpQuiet_step (fun K hK => ?_)
             go_simp
             first
               | (refine hK _ ?_; clear hK K)
               | (apply Exists.intro; refine ⟨fun w1 hC => ?_, hK _ ?_⟩; (focus ((first | (go_at_call 28; with_reducible exact callC HIN.out HOUT.out HK.out HLS2.out w1 hC) | (exact rfl) | (obtain ⟨hb1, ⟨t0, _⟩, ⟨t1, _⟩⟩ := HOUT.out w1 hC; clear hC; go_simp; first | done | exact rfl)); done)); clear hK K))
          refine wpQuiet_nil ?_
          intro wz hC
          have HO := hide3 (HOUT.out _ hC)
          clear hC HIN HOUT C
          obtain ⟨hb1, ⟨t0, _⟩, ⟨t1, _⟩⟩ := HO.out
          go_wp2_with fail
          exact ⟨⟨i + 1, by omega, by go_num, hb1⟩, by simp [intOf]; omega⟩
      · have hki : ¬ ((i : Int) < (ps.length : Int)) := by omega
        have hip : i = pos := by omega
        subst hip
        have HNO : Hid (∀ hi : i < ps.length, ps[i].nm ≠ p.nm) := fun hi => absurd hi hlt
        have HK : Hid (KeepP fun w1 => Below W.heap.size W w1) := keepBelow W
        have HO : Hid (Below W.heap.size W wr) := HB.out
        have HN4 : Hid (∀ (W2 : World) (ad : Addr) j u, ((ps.drop i).flatMap encPn)[j]? = some u → W2.cell? (ad.add j) = some u) := fun W2 ad j u hj => by
          rw [List.drop_of_length_le (by omega)] at hj
          cases hj
        have hd0 : decide ((i : Int) < (ps.length : Int)) = false := decide_eq_false hki
        have hd1 : decide (i < ps.length) = false := decide_eq_false hlt
        go_wp2_with fail
        refine wp_region_keep HK.out (by kernel_rfl) (by kernel_rfl) (by first | exact HO.out | exact HK.out.drew HO.out) ?_
        intro C hin hout
        have HIN := hide3 hin
        have HOUT := hide3 hout
        clear hin hout HO
        repeat
          (with_reducible refine wpQuiet_step (fun K hK => ?_)
           go_simp
           first
             | (refine hK _ ?_; clear hK K)
             | (apply Exists.intro; refine ⟨fun w1 hC => ?_, hK _ ?_⟩; (focus ((first | (exact rfl) | (obtain hb1 := HOUT.out w1 hC; clear hC; go_simp; first | done | exact rfl)); done)); clear hK K))
        refine wpQuiet_nil ?_
        intro wz hC
        have HO := hide3 (HOUT.out _ hC)
        clear hC HIN HOUT C
        obtain hb1 := HO.out
        go_wp2_with fail
        refine wp_region_keep HK.out (by kernel_rfl) (by kernel_rfl) (by first | exact HO.out | exact HK.out.drew HO.out) ?_
        intro C hin hout
        have HIN := hide3 hin
        have HOUT := hide3 hout
        clear hin hout HO
        repeat
          (with_reducible refine wpQuiet_step (fun K hK => ?_)
           go_simp
           first
             | (refine hK _ ?_; clear hK K)
             | (apply Exists.intro; refine ⟨fun w1 hC => ?_, hK _ ?_⟩; (focus ((first | (exact rfl) | (obtain hb2 := HOUT.out w1 hC; clear hC; go_simp; first | done | exact rfl)); done)); clear hK K))
        refine wpQuiet_nil ?_
        intro wy hC
        have HO := hide3 (HOUT.out _ hC)
        clear hC HIN HOUT C
        obtain hb2 := HO.out
        have HBX := hide3 hb2
        clear hb1 hb2 HK HO hki hlt hd0 hd1
        by_cases hci : cap = i
        · subst hci
          have HXZ : Hid ((ps.take cap).flatMap encPn ++ [.string p.nm, .int .i64 p.a, .int .i64 p.b, .int .i64 p.c] ++ [] = (insN ps p).flatMap encPn) := by
            have e := HXS.out
            rw [List.drop_of_length_le (show ps.length ≤ cap from hcap)] at e
            exact e
          have HLZ : Hid (cap + 1 + 0 = (insN ps p).length) := by
            have e := HLS.out
            unfold Hid
            omega
          have tok1 : True := trivial
          go_wp2_with (first
            | (have _t := tok1; clear _t tok1; at_builtin; refine wp_ownN (B := W.heap.size) (v := .slice none 0 0) (xs := []) (news := (ps.take cap).flatMap encPn) (n := 0) (m := cap) (ad := ⟨g, 0, none⟩) infoPn Tryz.underlying40 rfl (by decide) (by decide) rfl (.tmp 39) (.tmp 42) rfl rfl ⟨rfl, Or.inl ⟨rfl, rfl⟩⟩ HBX.out.size rfl HL1.out (HN1.out _ (HBK.out _ HBX.out).2) HE1.out (by omega) ?_; intro y1 w6 ho6 hg6 hat6; rw [Nat.zero_add, List.nil_append] at ho6; obtain ⟨b1, d1, rfl⟩ := own_len ho6; have HO6 := hide3 ho6; have HB6 : Hid (Below W.heap.size W w6) := HBX.out.grown hg6 HBX.out.size (fun k hk => by cases hk); clear ho6 hg6 hat6; obtain ⟨⟨l0, l1, l2, l3⟩, _⟩ := HBK.out _ HB6.out; have HO7 : Hid ((w6.alloc (.cells #[.string p.nm, .int .i64 p.a, .int .i64 p.b, .int .i64 p.c] 58)).ownsRow W.heap.size 58 4 (.slice b1 cap d1) cap ((ps.take cap).flatMap encPn)) := own_below HO6.out (boxB _ _); have HB7 : Hid (Below W.heap.size W (w6.alloc (.cells #[.string p.nm, .int .i64 p.a, .int .i64 p.b, .int .i64 p.c] 58))) := below_then HB6.out (boxB _ _); have HNW : Hid (∀ j u, ([.string p.nm, .int .i64 p.a, .int .i64 p.b, .int .i64 p.c] : List Value)[j]? = some u → (w6.alloc (.cells #[.string p.nm, .int .i64 p.a, .int .i64 p.b, .int .i64 p.c] 58)).cell? ((⟨w6.heap.size, 0, none⟩ : Addr).add j) = some u) := World.news_of_block (cs := #[.string p.nm, .int .i64 p.a, .int .i64 p.b, .int .i64 p.c]) (t := 58) (fr := (0, 0)) (by show (w6.heap.push _)[_]? = _; rw [Array.getElem?_push, if_pos rfl]); have tok2 : True := trivial)
            | (have _t := tok2; clear _t tok2; at_builtin; refine wp_ownN (B := W.heap.size) (wx := w6.alloc (.cells #[.string p.nm, .int .i64 p.a, .int .i64 p.b, .int .i64 p.c] 58)) (v := .slice b1 cap d1) (ad := ⟨w6.heap.size, 0, none⟩) (n := cap) (m := 1) (news := [.string p.nm, .int .i64 p.a, .int .i64 p.b, .int .i64 p.c]) infoPn Tryz.underlying40 rfl (by decide) (by decide) rfl (.tmp 44) (.tmp 46) rfl rfl HO7.out HB7.out.size rfl rfl HNW.out (by simp [Value.oneCell']) (by omega) ?_; intro y2 w8 ho8 hg8 hat8; obtain ⟨b2, d2, rfl⟩ := own_len ho8; have HO8 := hide3 ho8; have HB8 : Hid (Below W.heap.size W w8) := HB7.out.grown hg8 HB7.out.size (fun k hk => (World.ownsRow.lt HO7.out k hk).1); clear ho8 hg8 hat8; have tok3 : True := trivial)
            | (have _t := tok3; clear _t tok3; at_builtin; refine wp_ownN (B := W.heap.size) (v := .slice b2 (cap + 1) d2) (news := []) (n := cap + 1) (m := 0) (ad := ⟨g, 0, none⟩) infoPn Tryz.underlying40 rfl (by decide) (by decide) rfl (.tmp 48) (.tmp 51) rfl rfl HO8.out HB8.out.size rfl rfl (fun j u hj => by cases hj) (fun u hu => by cases hu) (by omega) ?_; intro y3 w9 ho9 hg9 hat9; obtain ⟨b3, d3, rfl⟩ := own_len ho9; have HO9 := hide3 ho9; have HB9 : Hid (Below W.heap.size W w9) := HB8.out.grown hg9 HB8.out.size (fun k hk => (World.ownsRow.lt HO8.out k hk).1); clear ho9 hg9 hat9))
          exact HFY.out _ _ _ _ HNO.out (own_base HO9.out hwW) HLZ.out HXZ.out (HBK.out _ HB9.out).2
        · have tok1 : True := trivial
          go_wp2_with (first
            | (have _t := tok1; clear _t tok1; at_builtin; refine wp_ownN (B := W.heap.size) (v := .slice none 0 0) (xs := []) (news := (ps.take i).flatMap encPn) (n := 0) (m := i) (ad := ⟨g, 0, none⟩) infoPn Tryz.underlying40 rfl (by decide) (by decide) rfl (.tmp 39) (.tmp 42) rfl rfl ⟨rfl, Or.inl ⟨rfl, rfl⟩⟩ HBX.out.size rfl HL1.out (HN1.out _ (HBK.out _ HBX.out).2) HE1.out (by omega) ?_; intro y1 w6 ho6 hg6 hat6; rw [Nat.zero_add, List.nil_append] at ho6; obtain ⟨b1, d1, rfl⟩ := own_len ho6; have HO6 := hide3 ho6; have HB6 : Hid (Below W.heap.size W w6) := HBX.out.grown hg6 HBX.out.size (fun k hk => by cases hk); clear ho6 hg6 hat6; obtain ⟨⟨l0, l1, l2, l3⟩, _⟩ := HBK.out _ HB6.out; have HO7 : Hid ((w6.alloc (.cells #[.string p.nm, .int .i64 p.a, .int .i64 p.b, .int .i64 p.c] 58)).ownsRow W.heap.size 58 4 (.slice b1 i d1) i ((ps.take i).flatMap encPn)) := own_below HO6.out (boxB _ _); have HB7 : Hid (Below W.heap.size W (w6.alloc (.cells #[.string p.nm, .int .i64 p.a, .int .i64 p.b, .int .i64 p.c] 58))) := below_then HB6.out (boxB _ _); have HNW : Hid (∀ j u, ([.string p.nm, .int .i64 p.a, .int .i64 p.b, .int .i64 p.c] : List Value)[j]? = some u → (w6.alloc (.cells #[.string p.nm, .int .i64 p.a, .int .i64 p.b, .int .i64 p.c] 58)).cell? ((⟨w6.heap.size, 0, none⟩ : Addr).add j) = some u) := World.news_of_block (cs := #[.string p.nm, .int .i64 p.a, .int .i64 p.b, .int .i64 p.c]) (t := 58) (fr := (0, 0)) (by show (w6.heap.push _)[_]? = _; rw [Array.getElem?_push, if_pos rfl]); have tok2 : True := trivial)
            | (have _t := tok2; clear _t tok2; at_builtin; refine wp_ownN (B := W.heap.size) (wx := w6.alloc (.cells #[.string p.nm, .int .i64 p.a, .int .i64 p.b, .int .i64 p.c] 58)) (v := .slice b1 i d1) (ad := ⟨w6.heap.size, 0, none⟩) (n := i) (m := 1) (news := [.string p.nm, .int .i64 p.a, .int .i64 p.b, .int .i64 p.c]) infoPn Tryz.underlying40 rfl (by decide) (by decide) rfl (.tmp 44) (.tmp 46) rfl rfl HO7.out HB7.out.size rfl rfl HNW.out (by simp [Value.oneCell']) (by omega) ?_; intro y2 w8 ho8 hg8 hat8; obtain ⟨b2, d2, rfl⟩ := own_len ho8; have HO8 := hide3 ho8; have HB8 : Hid (Below W.heap.size W w8) := HB7.out.grown hg8 HB7.out.size (fun k hk => (World.ownsRow.lt HO7.out k hk).1); clear ho8 hg8 hat8; have tok3 : True := trivial)
            | (have _t := tok3; clear _t tok3; at_builtin; refine wp_ownN (B := W.heap.size) (v := .slice b2 (i + 1) d2) (news := (ps.drop i).flatMap encPn) (n := i + 1) (m := ps.length - i) (ad := ⟨g, i * 4, none⟩) infoPn Tryz.underlying40 rfl (by decide) (by decide) rfl (.tmp 48) (.tmp 51) rfl rfl HO8.out HB8.out.size rfl HL3.out (HN4.out _ _) HE3.out (by omega) ?_; intro y3 w9 ho9 hg9 hat9; obtain ⟨b3, d3, rfl⟩ := own_len ho9; have HO9 := hide3 ho9; have HB9 : Hid (Below W.heap.size W w9) := HB8.out.grown hg9 HB8.out.size (fun k hk => (World.ownsRow.lt HO8.out k hk).1); clear ho9 hg9 hat9))
          exact HFY.out _ _ _ _ HNO.out (own_base HO9.out hwW) HLS.out HXS.out (HBK.out _ HB9.out).2
end Go.Proofs.YtjpmlagofcgheaaGreatDoor
namespace Go.Proofs.YtjpmlagofcgheaaGreatDoor
open Go.RowKit Go.Maps Go.WideMaps
set_option maxRecDepth 100000

theorem bl_total : ∀ (a b : List UInt8), Op.bytesLess a b = false → a ≠ b → Op.bytesLess b a = true
  | [], [], _, h => absurd rfl h
  | [], _ :: _, h, _ => by cases h
  | _ :: _, [], _, _ => rfl
  | x :: a, y :: b, h, hn => by
    have h' : (decide (x < y) || (x == y && Op.bytesLess a b)) = false := h
    show (decide (y < x) || (y == x && Op.bytesLess b a)) = true
    rw [Bool.or_eq_false_iff, decide_eq_false_iff_not] at h'
    obtain ⟨h1, h2⟩ := h'
    rw [Bool.or_eq_true, decide_eq_true_eq]
    by_cases e : x = y
    · subst e
      right
      rw [beq_self_eq_true, Bool.true_and] at h2 ⊢
      exact bl_total a b h2 (fun q => hn (by rw [q]))
    · left
      rcases UInt8.lt_or_lt_of_ne e with q | q
      · exact absurd q h1
      · exact q
theorem bl_before : ∀ (a b : List UInt8), Op.bytesLess a b = bytesBefore a b
  | [], [] => rfl
  | [], _ :: _ => rfl
  | _ :: _, [] => rfl
  | x :: a, y :: b => by
    show (decide (x < y) || (x == y && Op.bytesLess a b)) = (decide (x < y) || (x == y && bytesBefore a b))
    rw [bl_before a b]
theorem ltS_before (s t : ByteArray) : ltS s t = bytesBefore s.data.toList t.data.toList := by
  unfold ltS
  rw [bl_before, ByteArray.toList_eq, ByteArray.toList_eq]
theorem ltS_total {s t : ByteArray} (h : ltS s t = false) (hn : s ≠ t) : ltS t s = true := bl_total _ _ h (fun e => hn (bytes_same e))
theorem ltS_irr (s : ByteArray) : ltS s s = false := bl_irr _
theorem ltS_trans {s t u : ByteArray} (h : ltS s t = true) (h' : ltS t u = true) : ltS s u = true := bl_trans h h'
end Go.Proofs.YtjpmlagofcgheaaGreatDoor
namespace Go.Proofs.YtjpmlagofcgheaaGreatDoor
open Go.RowKit Go.Maps Go.WideMaps
set_option maxRecDepth 100000

def SortedN (so : List Pn) : Prop := so.Pairwise fun x y => ltS x.nm y.nm = true
theorem pos_hasnt {so : List Pn} {p : Pn} (h : hasPn so p.nm = false) : ∀ hi : posN so p < so.length, so[posN so p].nm ≠ p.nm := fun hi e => by
  rw [Bool.eq_false_iff] at h
  exact h (hasPn_iff.2 (List.mem_map.2 ⟨_, List.getElem_mem hi, e⟩))
theorem pos_has {so : List Pn} {p : Pn} (hs : SortedN so) (h : hasPn so p.nm = true) : ∃ hi : posN so p < so.length, so[posN so p].nm = p.nm := by
  obtain ⟨q, hq, e⟩ := List.mem_map.1 (hasPn_iff.1 h)
  obtain ⟨k, hk, rfl⟩ := List.getElem_of_mem hq
  have h1 : posN so p ≤ k := by
    rcases Nat.lt_or_ge k (posN so p) with c | c
    · have := posN_ahead hk c
      rw [e, ltS_irr] at this
      cases this
    · exact c
  have hi : posN so p < so.length := by omega
  refine ⟨hi, ?_⟩
  rcases Nat.lt_or_ge (posN so p) k with c | c
  · have h2 := List.pairwise_iff_getElem.1 hs (posN so p) k hi hk c
    rw [e, posN_at hi rfl] at h2
    cases h2
  · have c2 : posN so p = k := by omega
    simp only [c2]
    exact e
theorem ins_sorted {so : List Pn} {p : Pn} (hs : SortedN so) (h : hasPn so p.nm = false) : SortedN (insN so p) := by
  have hne := pos_hasnt h
  unfold SortedN insN
  rw [List.pairwise_append]
  refine ⟨hs.sublist (List.take_sublist _ _), List.pairwise_cons.2 ⟨fun y hy => ?_, hs.sublist (List.drop_sublist _ _)⟩, fun x hx y hy => ?_⟩
  · obtain ⟨k, hk, rfl⟩ := List.getElem_of_mem hy
    rw [List.length_drop] at hk
    rw [List.getElem_drop]
    have hp : posN so p < so.length := by omega
    have h0 := ltS_total (posN_at hp rfl) (hne hp)
    rcases Nat.eq_zero_or_pos k with c | c
    · subst c
      exact h0
    · exact ltS_trans h0 (List.pairwise_iff_getElem.1 hs (posN so p) (posN so p + k) hp (by omega) (by omega))
  · obtain ⟨k, hk, rfl⟩ := List.getElem_of_mem hx
    rw [List.length_take] at hk
    rw [List.getElem_take]
    have hks : k < so.length := by omega
    have h1 := posN_ahead (p := p) hks (by omega)
    rcases List.mem_cons.1 hy with rfl | hy
    · exact h1
    · obtain ⟨j, hj, rfl⟩ := List.getElem_of_mem hy
      rw [List.length_drop] at hj
      rw [List.getElem_drop]
      exact List.pairwise_iff_getElem.1 hs k (posN so p + j) hks (by omega) (by omega)
theorem has_perm {a b : List Pn} (h : a.Perm b) (s : ByteArray) : hasPn a s = hasPn b s := by
  rw [Bool.eq_iff_iff, hasPn_iff, hasPn_iff]
  exact (h.map Pn.nm).mem_iff
/-- Two ways of sorting tell the same list. -/
theorem sorted_same {ts so od : List Pn} (h1 : ts.Perm od) (h2 : ts.Pairwise fun x y => ltP y x = false) (hn : (od.map Pn.nm).Nodup) (h3 : so.Perm od) (h4 : SortedN so) : ts = so := by
  have hne : ts.Pairwise fun x y => x.nm ≠ y.nm := by
    have e : (ts.map Pn.nm).Nodup := (h1.map Pn.nm).nodup_iff.2 hn
    rw [List.nodup_iff_pairwise_ne, List.pairwise_map] at e
    exact e
  have h5 : ts.Pairwise fun x y => ltS x.nm y.nm = true := (h2.and hne).imp fun {x y} q => by
    refine ltS_total ?_ (fun e => q.2 e.symm)
    rw [ltS_before]
    exact q.1
  refine List.Perm.eq_of_pairwise (le := fun x y : Pn => ltS x.nm y.nm = true) (fun a b _ _ g1 g2 => ?_) h5 h4 (h1.trans h3.symm)
  have := ltS_trans g1 g2
  rw [ltS_irr] at this
  cases this
end Go.Proofs.YtjpmlagofcgheaaGreatDoor
