/- Wh1, Wb1, Wh2, laid in one text. -/
import Derived.Test.YtbjbhgkbnegfgaaGreatDoorMg24
namespace Go.Proofs.YtbjbhgkbnegfgaaGreatDoor
open Go.RowKit Go.Maps Go.WideMaps
set_option maxRecDepth 100000

/-- What placed answers. -/
def PlQ (w : World) (xs : List Wt) (x : Wt) (e : Ending) (w' : World) : Prop := ∃ v', e = .returned v' ∧ ∃ ys : List Wt, ys.Perm (x :: xs) ∧ ys.Pairwise ltT ∧ RowO w' w.heap.size v' ys ∧ Below w.heap.size w w'
theorem wt_open {w : World} {B : Nat} {v : Value} {xs : List Wt} (h : RowO w B v xs) : (v = .slice none 0 0 ∧ xs = []) ∨ ∃ g cap, v = .slice (some ⟨g, 0, none⟩) xs.length cap ∧ xs.length ≤ cap ∧ g < w.heap.size ∧ ∀ j u, (xs.flatMap encW)[j]? = some u → w.cell? ⟨g, j, none⟩ = some u := by
  rcases h.2 with ⟨e, hn⟩ | ⟨g, cap, cur, rfl, hB, hgg, hc, _, _, ht⟩
  · exact Or.inl ⟨e, List.length_eq_zero_iff.1 hn⟩
  · refine Or.inr ⟨g, cap, rfl, hc, (Array.getElem?_eq_some_iff.1 hgg).1, fun j u hj => ?_⟩
    have e := row_news hgg ht j u hj
    rw [add_at, Nat.zero_add] at e
    exact e

theorem placed_sorted {xs : List Wt} {x : Wt} {i : Nat} (hs : xs.Pairwise ltT) (ht : ∀ y ∈ xs, y.tg < x.tg) (h1 : ∀ j y, i ≤ j → xs[j]? = some y → ltS x.nm y.nm = true) (h2 : i = 0 ∨ ∃ y, xs[i - 1]? = some y ∧ ltS x.nm y.nm = false) (hi : i ≤ xs.length) : (xs.take i ++ x :: xs.drop i).Pairwise ltT := by
  refine ins_sorted' (by rw [List.take_append_drop]; exact hs) (fun y hy => ?_) ?_
  · obtain ⟨j, hj, rfl⟩ := List.getElem_of_mem hy
    rw [List.length_drop] at hj
    exact Or.inl (h1 (i + j) _ (by omega) (by rw [List.getElem_drop]; exact List.getElem?_eq_getElem (by omega)))
  · rcases h2 with rfl | ⟨y, hy, hlt⟩
    · exact Or.inl (by simp)
    · rcases Nat.eq_zero_or_pos i with h0 | h0
      · subst h0
        exact Or.inl (by simp)
      · obtain ⟨hil, rfl⟩ := List.getElem?_eq_some_iff.1 hy
        refine Or.inr ⟨xs.take (i - 1), xs[i - 1], ?_, ltT_not hlt (ht _ (List.getElem_mem hil))⟩
        rw [← List.take_succ_eq_append_getElem hil]
        congr 1
        omega

set_option maxHeartbeats 25600000 in
theorem placed_any {w : World} {B : Nat} {v : Value} {xs : List Wt} (h : RowO w B v xs) (hl : xs.length ≤ 100000000) (x : Wt) (hxs : x.nm.size ≤ 9223372036854775807) (hs : xs.Pairwise ltT) (ht : ∀ y ∈ xs, y.tg < x.tg) (hv0 : xs = [] → v = .slice none 0 0) : Calls Tryz.prog 126 #[v, .agg #[.string x.nm, .int .i64 x.kd, .slice x.ad x.ln x.cp]] w (PlQ w xs x) := by
  have HB0 : Hid (Below w.heap.size w (w.alloc (.cells #[.string x.nm, .int .i64 x.kd, .slice x.ad x.ln x.cp] 69))) := boxB _ _
  have l0 : (w.alloc (.cells #[.string x.nm, .int .i64 x.kd, .slice x.ad x.ln x.cp] 69)).cell? ⟨w.heap.size, 0, none⟩ = some (.string x.nm) := by simp
  have l1 : (w.alloc (.cells #[.string x.nm, .int .i64 x.kd, .slice x.ad x.ln x.cp] 69)).cell? ⟨w.heap.size, 1, none⟩ = some (.int .i64 x.kd) := by simp
  have l2 : (w.alloc (.cells #[.string x.nm, .int .i64 x.kd, .slice x.ad x.ln x.cp] 69)).cell? ⟨w.heap.size, 2, none⟩ = some (.slice x.ad x.ln x.cp) := by simp
  have hwl : w.heap.size < (w.alloc (.cells #[.string x.nm, .int .i64 x.kd, .slice x.ad x.ln x.cp] 69)).heap.size := by simp
  have hwW : w.heap.size ≤ (w.alloc (.cells #[.string x.nm, .int .i64 x.kd, .slice x.ad x.ln x.cp] 69)).heap.size := by simp
  have HBK : Hid (∀ W2, Below (w.alloc (.cells #[.string x.nm, .int .i64 x.kd, .slice x.ad x.ln x.cp] 69)).heap.size (w.alloc (.cells #[.string x.nm, .int .i64 x.kd, .slice x.ad x.ln x.cp] 69)) W2 → (W2.cell? ⟨w.heap.size, 0, none⟩ = some (.string x.nm) ∧ W2.cell? ⟨w.heap.size, 1, none⟩ = some (.int .i64 x.kd) ∧ W2.cell? ⟨w.heap.size, 2, none⟩ = some (.slice x.ad x.ln x.cp)) ∧ Below w.heap.size w W2) := fun W2 hb => ⟨⟨(hb.cell (p := ⟨w.heap.size, 0, none⟩) hwl).trans l0, (hb.cell (p := ⟨w.heap.size, 1, none⟩) hwl).trans l1, (hb.cell (p := ⟨w.heap.size, 2, none⟩) hwl).trans l2⟩, below_then HB0.out hb⟩
  have HFY : Hid (∀ i w' v', i ≤ xs.length → (∀ j y, i ≤ j → xs[j]? = some y → ltS x.nm y.nm = true) → (i = 0 ∨ ∃ y, xs[i - 1]? = some y ∧ ltS x.nm y.nm = false) → w'.ownsRow w.heap.size 69 3 v' (i + 1 + (xs.length - i)) ((xs.take i).flatMap encW ++ [.string x.nm, .int .i64 x.kd, .slice x.ad x.ln x.cp] ++ (xs.drop i).flatMap encW) → Below w.heap.size w w' → PlQ w xs x (.returned v') w') := fun i w' v' h0 h1 h2 h3 h4 => by
    refine ⟨v', rfl, xs.take i ++ x :: xs.drop i, ?_, placed_sorted hs ht h1 h2 h0, ?_, h4⟩
    · have e := List.perm_middle (a := x) (l₁ := xs.take i) (l₂ := xs.drop i)
      rw [List.take_append_drop] at e
      exact e
    · unfold RowO
      have e1 : (xs.take i ++ x :: xs.drop i).length = i + 1 + (xs.length - i) := by
        rw [List.length_append, List.length_cons, List.length_take, List.length_drop]
        omega
      have e2 : (xs.take i ++ x :: xs.drop i).flatMap encW = (xs.take i).flatMap encW ++ [.string x.nm, .int .i64 x.kd, .slice x.ad x.ln x.cp] ++ (xs.drop i).flatMap encW := by
        rw [List.flatMap_append, List.flatMap_cons, List.append_assoc]
        rfl
      rw [e1, e2]
      exact h3
  have HPO := hide3 (wt_open h)
  clear l0 l1 l2 h hs ht
  rcases HPO.out with hq | hq
  · obtain ⟨rfl, hpe⟩ := hq
    have HFF : Hid (∀ w' v', w'.ownsRow w.heap.size 69 3 v' (0 + 1 + 0) ([] ++ [.string x.nm, .int .i64 x.kd, .slice x.ad x.ln x.cp] ++ []) → Below w.heap.size w w' → PlQ w xs x (.returned v') w') := fun w' v' h1 h2 => HFY.out 0 w' v' (Nat.zero_le _) (fun j y _ hy => by rw [hpe] at hy; cases hy) (Or.inl rfl) (by rw [hpe]; exact h1) h2
    generalize hPQ : PlQ w xs x = HQ at *
    clear hPQ hpe HFY HPO
    go_enter Tryz.func126, Tryz.ntmps126
    go_wp2_with fail
    generalize (w.alloc (.cells #[.string x.nm, .int .i64 x.kd, .slice x.ad x.ln x.cp] 69)) = W at *
    go_loopw [5] (fun vi wr => vi = .int .i64 0 ∧ Below W.heap.size W wr) (fun _ _ => 0)
    case atStart => exact ⟨rfl, Below.refl _ _⟩
    case round =>
      obtain ⟨rfl, hbw⟩ := hrel
      have HK : Hid (KeepP fun w1 => Below W.heap.size W w1) := keepBelow W
      have HO : Hid (Below W.heap.size W wr) := hbw
      clear hbw
      go_wp2_with fail
      refine wp_region_keep HK.out (by kernel_rfl) (by kernel_rfl) (by first | exact HO.out | exact HK.out.drew HO.out) ?_
      intro C hin hout
      have HIN := hide3 hin
      have HOUT := hide3 hout
      clear hin hout HO
      repeat
        (with_reducible refine wpQuiet_step (fun K hK => ?_)
         go_simp
         first
           | (refine hK _ ?_; clear hK K)
           | (apply Exists.intro; refine ⟨fun w1 hC => ?_, hK _ ?_⟩; (focus ((first | (exact rfl) | (obtain hb1 := HOUT.out w1 hC; clear hC; go_simp; first | done | exact rfl)); done)); clear hK K))
      refine wpQuiet_nil ?_
      intro wz hC
      have HO := hide3 (HOUT.out _ hC)
      clear hC HIN HOUT C
      obtain hb1 := HO.out
      have HBX := hide3 hb1
      clear hb1 HK HO
      have tok1 : True := trivial
      go_wp2_with (first
        | (have _t := tok1; clear _t tok1; at_builtin; refine wp_ownR (B := W.heap.size) (B' := 0) (v := .slice none 0 0) (x := .slice none 0 0) (xs := []) (news := []) (n := 0) (m := 0) infoW Tryz.underlying56 rfl (by decide) (by decide) rfl (.tmp 24) (.tmp 27) rfl rfl ⟨rfl, Or.inl ⟨rfl, rfl⟩⟩ HBX.out.size rfl ⟨rfl, Or.inl ⟨rfl, rfl⟩⟩ (fun u hu => by cases hu) (by omega) ?_; intro y1 w6 ho6 hg6 hat6; rw [Nat.zero_add, List.nil_append] at ho6; obtain ⟨b1, d1, rfl⟩ := own_len ho6; have HO6 := hide3 ho6; have HB6 : Hid (Below W.heap.size W w6) := HBX.out.grown hg6 HBX.out.size (fun k hk => by cases hk); clear ho6 hg6 hat6; obtain ⟨⟨l0, l1, l2⟩, _⟩ := HBK.out _ HB6.out; have HO7 : Hid ((w6.alloc (.cells #[.string x.nm, .int .i64 x.kd, .slice x.ad x.ln x.cp] 69)).ownsRow W.heap.size 69 3 (.slice b1 0 d1) 0 []) := own_below HO6.out (boxB _ _); have HB7 : Hid (Below W.heap.size W (w6.alloc (.cells #[.string x.nm, .int .i64 x.kd, .slice x.ad x.ln x.cp] 69))) := below_then HB6.out (boxB _ _); have HNW : Hid (∀ j u, ([.string x.nm, .int .i64 x.kd, .slice x.ad x.ln x.cp] : List Value)[j]? = some u → (w6.alloc (.cells #[.string x.nm, .int .i64 x.kd, .slice x.ad x.ln x.cp] 69)).cell? ((⟨w6.heap.size, 0, none⟩ : Addr).add j) = some u) := World.news_of_block (cs := #[.string x.nm, .int .i64 x.kd, .slice x.ad x.ln x.cp]) (t := 69) (fr := (0, 0)) (by show (w6.heap.push _)[_]? = _; rw [Array.getElem?_push, if_pos rfl]); have tok2 : True := trivial)
        | (have _t := tok2; clear _t tok2; at_builtin; refine wp_ownN (B := W.heap.size) (wx := w6.alloc (.cells #[.string x.nm, .int .i64 x.kd, .slice x.ad x.ln x.cp] 69)) (v := .slice b1 0 d1) (ad := ⟨w6.heap.size, 0, none⟩) (n := 0) (m := 1) (news := [.string x.nm, .int .i64 x.kd, .slice x.ad x.ln x.cp]) infoW Tryz.underlying56 rfl (by decide) (by decide) rfl (.tmp 29) (.tmp 31) rfl rfl HO7.out HB7.out.size rfl rfl HNW.out (by simp [Value.oneCell']) (by omega) ?_; intro y2 w8 ho8 hg8 hat8; obtain ⟨b2, d2, rfl⟩ := own_len ho8; have HO8 := hide3 ho8; have HB8 : Hid (Below W.heap.size W w8) := HB7.out.grown hg8 HB7.out.size (fun k hk => (World.ownsRow.lt HO7.out k hk).1); clear ho8 hg8 hat8; have tok3 : True := trivial)
        | (have _t := tok3; clear _t tok3; at_builtin; refine wp_ownR (B := W.heap.size) (B' := 0) (v := .slice b2 (0 + 1) d2) (x := .slice none 0 0) (news := []) (n := 0 + 1) (m := 0) infoW Tryz.underlying56 rfl (by decide) (by decide) rfl (.tmp 33) (.tmp 36) rfl rfl HO8.out HB8.out.size rfl ⟨rfl, Or.inl ⟨rfl, rfl⟩⟩ (fun u hu => by cases hu) (by omega) ?_; intro y3 w9 ho9 hg9 hat9; obtain ⟨b3, d3, rfl⟩ := own_len ho9; have HO9 := hide3 ho9; have HB9 : Hid (Below W.heap.size W w9) := HB8.out.grown hg9 HB8.out.size (fun k hk => (World.ownsRow.lt HO8.out k hk).1); clear ho9 hg9 hat9))
      exact HFF.out _ _ (own_base HO9.out hwW) (HBK.out _ HB9.out).2
  · obtain ⟨g, cap, hv, hcap, hg, hcells⟩ := hq
    have HCE := hide3 hcells
    obtain ⟨n, hn⟩ : ∃ n, n = xs.length := ⟨_, rfl⟩
    rw [← hn] at hv hcap hl HFY
    subst hv
    have HNL := hide3 hn
    have hnp : 0 < n := by
      rcases Nat.eq_zero_or_pos n with e | e
      · have e2 := hv0 (List.length_eq_zero_iff.1 (hn.symm.trans e))
        cases e2
      · exact e
    clear hcells HPO hv0
    have HN1A : Hid (∀ pos W2, Below w.heap.size w W2 → ∀ j u, ((xs.take pos).flatMap encW)[j]? = some u → W2.cell? ((⟨g, 0, none⟩ : Addr).add j) = some u) := fun pos W2 hb j u hj => by
      rw [take_flat encW 3 (fun _ => rfl)] at hj
      by_cases q : j < pos * 3
      · rw [List.getElem?_take_of_lt q] at hj
        rw [add_at, Nat.zero_add]
        exact (hb.cell (p := ⟨g, j, none⟩) hg).trans (HCE.out j u hj)
      · rw [List.getElem?_take_eq_none (by omega)] at hj
        cases hj
    have HN3A : Hid (∀ pos W2, Below w.heap.size w W2 → ∀ j u, ((xs.drop pos).flatMap encW)[j]? = some u → W2.cell? ((⟨g, pos * 3, none⟩ : Addr).add j) = some u) := fun pos W2 hb j u hj => by
      rw [drop_flat encW 3 (fun _ => rfl), List.getElem?_drop] at hj
      rw [add_at]
      exact (hb.cell (p := ⟨g, pos * 3 + j, none⟩) hg).trans (HCE.out _ u hj)
    have HL1A : Hid (∀ pos, pos ≤ n → ((xs.take pos).flatMap encW).length = pos * 3) := fun pos hpl => by
      rw [flatMap_len encW 3 (fun _ => rfl), List.length_take, Nat.min_eq_left (hn ▸ hpl)]
    have HL3A : Hid (∀ pos, ((xs.drop pos).flatMap encW).length = (n - pos) * 3) := fun pos => by
      rw [flatMap_len encW 3 (fun _ => rfl), List.length_drop, hn]
    clear hn
    have hgW : g < (w.alloc (.cells #[.string x.nm, .int .i64 x.kd, .slice x.ad x.ln x.cp] 69)).heap.size := by simp; omega
    generalize hPQ : PlQ w xs x = HQ at *
    clear hPQ
    go_enter Tryz.func126, Tryz.ntmps126
    go_wp2_with fail
    generalize (w.alloc (.cells #[.string x.nm, .int .i64 x.kd, .slice x.ad x.ln x.cp] 69)) = W at *
    go_loopw [5] (fun vi wr => ∃ i : Nat, i ≤ n ∧ vi = .int .i64 i ∧ (∀ j y, i ≤ j → xs[j]? = some y → ltS x.nm y.nm = true) ∧ Below W.heap.size W wr) (fun vi _ => (intOf vi).toNat)
    case atStart => exact ⟨n, Nat.le_refl _, rfl, (fun j y hj hy => by have := (List.getElem?_eq_some_iff.1 hy).1; have := HNL.out; omega), Below.refl _ _⟩
    case round =>
      obtain ⟨i, hi, rfl, hge, hbw⟩ := hrel
      have HB := hide3 hbw
      have HGE := hide3 hge
      clear hbw hge
      rcases Nat.eq_zero_or_pos i with h0 | hpos
      · subst h0
        have HK : Hid (KeepP fun w1 => Below W.heap.size W w1) := keepBelow W
        have HO : Hid (Below W.heap.size W wr) := HB.out
        go_wp2_with fail
        refine wp_region_keep HK.out (by kernel_rfl) (by kernel_rfl) (by first | exact HO.out | exact HK.out.drew HO.out) ?_
        intro C hin hout
        have HIN := hide3 hin
        have HOUT := hide3 hout
        clear hin hout HO
        repeat
          (with_reducible refine wpQuiet_step (fun K hK => ?_)
           go_simp
           first
             | (refine hK _ ?_; clear hK K)
             | (apply Exists.intro; refine ⟨fun w1 hC => ?_, hK _ ?_⟩; (focus ((first | (exact rfl) | (obtain hb1 := HOUT.out w1 hC; clear hC; go_simp; first | done | exact rfl)); done)); clear hK K))
        refine wpQuiet_nil ?_
        intro wz hC
        have HO := hide3 (HOUT.out _ hC)
        clear hC HIN HOUT C
        obtain hb1 := HO.out
        have HBX := hide3 hb1
        clear hb1 HK HO
        have hci : ¬ cap = 0 := by omega
        have HFF : Hid (∀ w' v', w'.ownsRow w.heap.size 69 3 v' (0 + 1 + (n - 0)) ((xs.take 0).flatMap encW ++ [.string x.nm, .int .i64 x.kd, .slice x.ad x.ln x.cp] ++ (xs.drop 0).flatMap encW) → Below w.heap.size w w' → HQ (.returned v') w') := fun w' v' h1 h2 => HFY.out 0 w' v' (by omega) HGE.out (Or.inl rfl) h1 h2
        have HL1 := hide3 (HL1A.out 0 (by omega))
        have HL3 := hide3 (HL3A.out 0)
        have HE1 : Hid (∀ u ∈ (xs.take 0).flatMap encW, u.oneCell' = true) := encW_one _
        have HE3 : Hid (∀ u ∈ (xs.drop 0).flatMap encW, u.oneCell' = true) := encW_one _
        have HN1 := hide3 (HN1A.out 0)
        have HN3 := hide3 (HN3A.out 0)
        have hpi1 : (0 : Int) ≤ (n : Int) := by omega
        have hpi2 : (0 : Int) ≤ (cap : Int) := by omega
        have hpi3 : (n : Int) ≤ (cap : Int) := by omega
        have tok1 : True := trivial
        go_wp2_with (first
          | (have _t := tok1; clear _t tok1; at_builtin; refine wp_ownN (B := W.heap.size) (v := .slice none 0 0) (xs := []) (news := (xs.take 0).flatMap encW) (n := 0) (m := 0) (ad := ⟨g, 0, none⟩) infoW Tryz.underlying56 rfl (by decide) (by decide) rfl (.tmp 24) (.tmp 27) rfl rfl ⟨rfl, Or.inl ⟨rfl, rfl⟩⟩ HBX.out.size rfl HL1.out (HN1.out _ (HBK.out _ HBX.out).2) HE1.out (by omega) ?_; intro y1 w6 ho6 hg6 hat6; rw [Nat.zero_add, List.nil_append] at ho6; obtain ⟨b1, d1, rfl⟩ := own_len ho6; have HO6 := hide3 ho6; have HB6 : Hid (Below W.heap.size W w6) := HBX.out.grown hg6 HBX.out.size (fun k hk => by cases hk); clear ho6 hg6 hat6; obtain ⟨⟨l0, l1, l2⟩, _⟩ := HBK.out _ HB6.out; have HO7 : Hid ((w6.alloc (.cells #[.string x.nm, .int .i64 x.kd, .slice x.ad x.ln x.cp] 69)).ownsRow W.heap.size 69 3 (.slice b1 0 d1) 0 ((xs.take 0).flatMap encW)) := own_below HO6.out (boxB _ _); have HB7 : Hid (Below W.heap.size W (w6.alloc (.cells #[.string x.nm, .int .i64 x.kd, .slice x.ad x.ln x.cp] 69))) := below_then HB6.out (boxB _ _); have HNW : Hid (∀ j u, ([.string x.nm, .int .i64 x.kd, .slice x.ad x.ln x.cp] : List Value)[j]? = some u → (w6.alloc (.cells #[.string x.nm, .int .i64 x.kd, .slice x.ad x.ln x.cp] 69)).cell? ((⟨w6.heap.size, 0, none⟩ : Addr).add j) = some u) := World.news_of_block (cs := #[.string x.nm, .int .i64 x.kd, .slice x.ad x.ln x.cp]) (t := 69) (fr := (0, 0)) (by show (w6.heap.push _)[_]? = _; rw [Array.getElem?_push, if_pos rfl]); have tok2 : True := trivial)
          | (have _t := tok2; clear _t tok2; at_builtin; refine wp_ownN (B := W.heap.size) (wx := w6.alloc (.cells #[.string x.nm, .int .i64 x.kd, .slice x.ad x.ln x.cp] 69)) (v := .slice b1 0 d1) (ad := ⟨w6.heap.size, 0, none⟩) (n := 0) (m := 1) (news := [.string x.nm, .int .i64 x.kd, .slice x.ad x.ln x.cp]) infoW Tryz.underlying56 rfl (by decide) (by decide) rfl (.tmp 29) (.tmp 31) rfl rfl HO7.out HB7.out.size rfl rfl HNW.out (by simp [Value.oneCell']) (by omega) ?_; intro y2 w8 ho8 hg8 hat8; obtain ⟨b2, d2, rfl⟩ := own_len ho8; have HO8 := hide3 ho8; have HB8 : Hid (Below W.heap.size W w8) := HB7.out.grown hg8 HB7.out.size (fun k hk => (World.ownsRow.lt HO7.out k hk).1); clear ho8 hg8 hat8; have tok3 : True := trivial)
          | (have _t := tok3; clear _t tok3; at_builtin; refine wp_ownN (B := W.heap.size) (v := .slice b2 (0 + 1) d2) (news := (xs.drop 0).flatMap encW) (n := 0 + 1) (m := n - 0) (ad := ⟨g, 0 * 3, none⟩) infoW Tryz.underlying56 rfl (by decide) (by decide) rfl (.tmp 33) (.tmp 36) rfl rfl HO8.out HB8.out.size rfl HL3.out (HN3.out _ (HBK.out _ HB8.out).2) HE3.out (by omega) ?_; intro y3 w9 ho9 hg9 hat9; obtain ⟨b3, d3, rfl⟩ := own_len ho9; have HO9 := hide3 ho9; have HB9 : Hid (Below W.heap.size W w9) := HB8.out.grown hg9 HB8.out.size (fun k hk => (World.ownsRow.lt HO8.out k hk).1); clear ho9 hg9 hat9))
        exact HFF.out _ _ (own_base HO9.out hwW) (HBK.out _ HB9.out).2
      · obtain ⟨q, rfl⟩ : ∃ q, i = q + 1 := ⟨i - 1, by omega⟩
        have hqn : q < xs.length := by have := HNL.out; omega
        obtain ⟨y, hy⟩ : ∃ y, xs[q]? = some y := ⟨_, List.getElem?_eq_getElem hqn⟩
        have n0 := (encW_at xs q y hy).1
        have c0 : wr.cell? ⟨g, q * 3, none⟩ = some (.string y.nm) := ((HBK.out _ HB.out).2.cell (p := ⟨g, q * 3, none⟩) hg).trans (HCE.out _ _ n0)
        have HLS2 : Hid (∀ w1, Calls Tryz.prog 108 #[.string x.nm, .string y.nm] w1 fun e w' => e = .returned (.bool (ltS x.nm y.nm)) ∧ Below w1.heap.size w1 w') := fun w1 => rLess5_any _ _ w1 hxs
        obtain ⟨⟨l0, _, _⟩, _⟩ := HBK.out _ HB.out
        have hgr : g < wr.heap.size := Nat.lt_of_lt_of_le hgW HB.out.size
        have hwr : w.heap.size < wr.heap.size := Nat.lt_of_lt_of_le hwl HB.out.size
        have HYY := hide3 hy
        have HK : Hid (KeepP fun w1 => Below W.heap.size W w1 ∧ Sc.CellK w1 g (q * 3) (.string y.nm) ∧ Sc.CellK w1 w.heap.size 0 (.string x.nm)) := KeepP.and (keepBelow W) (KeepP.and (keepCk _ _ _) (keepCk _ _ _))
        have HO : Hid (Below W.heap.size W wr ∧ Sc.CellK wr g (q * 3) (.string y.nm) ∧ Sc.CellK wr w.heap.size 0 (.string x.nm)) := ⟨HB.out, ⟨c0, hgr⟩, ⟨l0, hwr⟩⟩
        clear c0 l0 n0 hy hgr hwr
        obtain ⟨i, hi1⟩ : ∃ i, i = q + 1 := ⟨_, rfl⟩
        have hiq : ((q + 1 : Nat) : Int) = (i : Int) := by omega
        rw [hiq]
        rw [← hi1] at HGE hi
        have hi2 : (0 : Int) < (i : Int) := by omega
        have HI3 : Hid ((i : Int) - 1 = (q : Int)) := by unfold Hid; omega
        have hj1 : (1 : Int) ≤ (i : Int) := by omega
        have hj2 : (i : Int) ≤ (n : Int) := by omega
        have hj3 : (i : Int) < (n : Int) + 1 := by omega
        have hi4 : ((i : Int) - 1).toNat = q := by omega
        have hi5 : (0 : Int) ≤ (i : Int) - 1 := by omega
        have hi6 : (i : Int) - 1 < (n : Int) := by have := HNL.out; omega
        have hi7 : ¬ (i : Int) - 1 < 0 := by omega
        obtain ⟨k1, k2⟩ : IntKind.i64.wrap ((i : Int) - 1) = (i : Int) - 1 ∧ wrap64 ((i : Int) - 1) = (i : Int) - 1 := by
          refine ⟨?_, ?_⟩
          · simp [IntKind.wrap, IntKind.bits, IntKind.signed]; omega
          · unfold wrap64; omega
        by_cases hb : ltS x.nm y.nm = true
        · rw [hb] at HLS2
          go_wp2_with fail
          refine wp_region_keep HK.out (by kernel_rfl) (by kernel_rfl) (by first | exact HO.out | exact HK.out.drew HO.out) ?_
          intro C hin hout
          have HIN := hide3 hin
          have HOUT := hide3 hout
          clear hin hout HO
          repeat
            (with_reducible refine wpQuiet_step (fun K hK => ?_)
             go_simp
             first
               | (refine hK _ ?_; clear hK K)
               | (apply Exists.intro; refine ⟨fun w1 hC => ?_, hK _ ?_⟩; (focus ((first | (go_at_call 108; with_reducible exact callC HIN.out HOUT.out HK.out HLS2.out w1 hC) | (exact rfl) | (obtain ⟨hb1, ⟨t0, _⟩, ⟨t1, _⟩⟩ := HOUT.out w1 hC; clear hC; go_simp; first | done | exact rfl)); done)); clear hK K))
          refine wpQuiet_nil ?_
          intro wz hC
          have HO := hide3 (HOUT.out _ hC)
          clear hC HIN HOUT C
          obtain ⟨hb1, ⟨t0, _⟩, ⟨t1, _⟩⟩ := HO.out
          have HBX := hide3 hb1
          clear hb1 t0 t1 HK HO
          go_wp2_with fail
          clear k1 k2
          exact ⟨⟨q, by omega, by rw [HI3.out], (fun j z hj hz => by by_cases e : j = q; (subst e; rw [HYY.out] at hz; cases hz; exact hb); exact HGE.out j z (by omega) hz), HBX.out⟩, by simp [intOf]; omega⟩
        · rw [Bool.eq_false_iff.2 hb] at HLS2
          have HEX : Hid (i = 0 ∨ ∃ y, xs[i - 1]? = some y ∧ ltS x.nm y.nm = false) := Or.inr ⟨y, by rw [show i - 1 = q by omega]; exact HYY.out, Bool.eq_false_iff.2 hb⟩
          go_wp2_with fail
          refine wp_region_keep HK.out (by kernel_rfl) (by kernel_rfl) (by first | exact HO.out | exact HK.out.drew HO.out) ?_
          intro C hin hout
          have HIN := hide3 hin
          have HOUT := hide3 hout
          clear hin hout HO
          repeat
            (with_reducible refine wpQuiet_step (fun K hK => ?_)
             go_simp
             first
               | (refine hK _ ?_; clear hK K)
               | (apply Exists.intro; refine ⟨fun w1 hC => ?_, hK _ ?_⟩; (focus ((first | (go_at_call 108; with_reducible exact callC HIN.out HOUT.out HK.out HLS2.out w1 hC) | (exact rfl) | (obtain ⟨hb1, ⟨t0, _⟩, ⟨t1, _⟩⟩ := HOUT.out w1 hC; clear hC; go_simp; first | done | exact rfl)); done)); clear hK K))
          refine wpQuiet_nil ?_
          intro wz hC
          have HO := hide3 (HOUT.out _ hC)
          clear hC HIN HOUT C
          obtain ⟨hb1, ⟨t0, _⟩, ⟨t1, _⟩⟩ := HO.out
          have HBX := hide3 hb1
          clear hb1 t0 t1 HK HO k1 k2 HI3 hi4 hi5 hi6 hi7 hj1 hj2 hj3 hiq hi2
          by_cases hci : cap = i
          · have hni : n = i := by omega
            subst hci
            clear hi1
            have HFF : Hid (∀ w' v', w'.ownsRow w.heap.size 69 3 v' (cap + 1 + (n - cap)) ((xs.take cap).flatMap encW ++ [.string x.nm, .int .i64 x.kd, .slice x.ad x.ln x.cp] ++ (xs.drop cap).flatMap encW) → Below w.heap.size w w' → HQ (.returned v') w') := fun w' v' h1 h2 => HFY.out cap w' v' (by omega) HGE.out HEX.out h1 h2
            have HL1 := hide3 (HL1A.out cap (by omega))
            have HL3 := hide3 (HL3A.out cap)
            have HE1 : Hid (∀ u ∈ (xs.take cap).flatMap encW, u.oneCell' = true) := encW_one _
            have HE3 : Hid (∀ u ∈ (xs.drop cap).flatMap encW, u.oneCell' = true) := encW_one _
            have HN1 := hide3 (HN1A.out cap)
            have HN3 := hide3 (HN3A.out cap)
            have hpi1 : (cap : Int) ≤ (n : Int) := by omega
            have hpi2 : (cap : Int) ≤ (cap : Int) := by omega
            have hpi3 : (n : Int) ≤ (cap : Int) := by omega
            replace HFF : Hid (∀ w' v', w'.ownsRow w.heap.size 69 3 v' (cap + 1 + 0) ((xs.take cap).flatMap encW ++ [.string x.nm, .int .i64 x.kd, .slice x.ad x.ln x.cp] ++ []) → Below w.heap.size w w' → HQ (.returned v') w') := fun w' v' h1 h2 => HFF.out w' v' (by rw [List.drop_of_length_le (by have := HNL.out; omega), show n - cap = 0 by omega]; exact h1) h2
            have tok1 : True := trivial
            go_wp2_with (first
              | (have _t := tok1; clear _t tok1; at_builtin; refine wp_ownN (B := W.heap.size) (v := .slice none 0 0) (xs := []) (news := (xs.take cap).flatMap encW) (n := 0) (m := cap) (ad := ⟨g, 0, none⟩) infoW Tryz.underlying56 rfl (by decide) (by decide) rfl (.tmp 24) (.tmp 27) rfl rfl ⟨rfl, Or.inl ⟨rfl, rfl⟩⟩ HBX.out.size rfl HL1.out (HN1.out _ (HBK.out _ HBX.out).2) HE1.out (by omega) ?_; intro y1 w6 ho6 hg6 hat6; rw [Nat.zero_add, List.nil_append] at ho6; obtain ⟨b1, d1, rfl⟩ := own_len ho6; have HO6 := hide3 ho6; have HB6 : Hid (Below W.heap.size W w6) := HBX.out.grown hg6 HBX.out.size (fun k hk => by cases hk); clear ho6 hg6 hat6; obtain ⟨⟨l0, l1, l2⟩, _⟩ := HBK.out _ HB6.out; have HO7 : Hid ((w6.alloc (.cells #[.string x.nm, .int .i64 x.kd, .slice x.ad x.ln x.cp] 69)).ownsRow W.heap.size 69 3 (.slice b1 cap d1) cap ((xs.take cap).flatMap encW)) := own_below HO6.out (boxB _ _); have HB7 : Hid (Below W.heap.size W (w6.alloc (.cells #[.string x.nm, .int .i64 x.kd, .slice x.ad x.ln x.cp] 69))) := below_then HB6.out (boxB _ _); have HNW : Hid (∀ j u, ([.string x.nm, .int .i64 x.kd, .slice x.ad x.ln x.cp] : List Value)[j]? = some u → (w6.alloc (.cells #[.string x.nm, .int .i64 x.kd, .slice x.ad x.ln x.cp] 69)).cell? ((⟨w6.heap.size, 0, none⟩ : Addr).add j) = some u) := World.news_of_block (cs := #[.string x.nm, .int .i64 x.kd, .slice x.ad x.ln x.cp]) (t := 69) (fr := (0, 0)) (by show (w6.heap.push _)[_]? = _; rw [Array.getElem?_push, if_pos rfl]); have tok2 : True := trivial)
              | (have _t := tok2; clear _t tok2; at_builtin; refine wp_ownN (B := W.heap.size) (wx := w6.alloc (.cells #[.string x.nm, .int .i64 x.kd, .slice x.ad x.ln x.cp] 69)) (v := .slice b1 cap d1) (ad := ⟨w6.heap.size, 0, none⟩) (n := cap) (m := 1) (news := [.string x.nm, .int .i64 x.kd, .slice x.ad x.ln x.cp]) infoW Tryz.underlying56 rfl (by decide) (by decide) rfl (.tmp 29) (.tmp 31) rfl rfl HO7.out HB7.out.size rfl rfl HNW.out (by simp [Value.oneCell']) (by omega) ?_; intro y2 w8 ho8 hg8 hat8; obtain ⟨b2, d2, rfl⟩ := own_len ho8; have HO8 := hide3 ho8; have HB8 : Hid (Below W.heap.size W w8) := HB7.out.grown hg8 HB7.out.size (fun k hk => (World.ownsRow.lt HO7.out k hk).1); clear ho8 hg8 hat8; have tok3 : True := trivial)
              | (have _t := tok3; clear _t tok3; at_builtin; refine wp_ownN (B := W.heap.size) (v := .slice b2 (cap + 1) d2) (news := []) (n := cap + 1) (m := 0) (ad := ⟨g, 0, none⟩) infoW Tryz.underlying56 rfl (by decide) (by decide) rfl (.tmp 33) (.tmp 36) rfl rfl HO8.out HB8.out.size rfl rfl (fun j u hj => by cases hj) (fun u hu => by cases hu) (by omega) ?_; intro y3 w9 ho9 hg9 hat9; obtain ⟨b3, d3, rfl⟩ := own_len ho9; have HO9 := hide3 ho9; have HB9 : Hid (Below W.heap.size W w9) := HB8.out.grown hg9 HB8.out.size (fun k hk => (World.ownsRow.lt HO8.out k hk).1); clear ho9 hg9 hat9))
            exact HFF.out _ _ (own_base HO9.out hwW) (HBK.out _ HB9.out).2
          · have HFF : Hid (∀ w' v', w'.ownsRow w.heap.size 69 3 v' (i + 1 + (n - i)) ((xs.take i).flatMap encW ++ [.string x.nm, .int .i64 x.kd, .slice x.ad x.ln x.cp] ++ (xs.drop i).flatMap encW) → Below w.heap.size w w' → HQ (.returned v') w') := fun w' v' h1 h2 => HFY.out i w' v' (by omega) HGE.out HEX.out h1 h2
            have HL1 := hide3 (HL1A.out i (by omega))
            have HL3 := hide3 (HL3A.out i)
            have HE1 : Hid (∀ u ∈ (xs.take i).flatMap encW, u.oneCell' = true) := encW_one _
            have HE3 : Hid (∀ u ∈ (xs.drop i).flatMap encW, u.oneCell' = true) := encW_one _
            have HN1 := hide3 (HN1A.out i)
            have HN3 := hide3 (HN3A.out i)
            have hpi1 : (i : Int) ≤ (n : Int) := by omega
            have hpi2 : (i : Int) ≤ (cap : Int) := by omega
            have hpi3 : (n : Int) ≤ (cap : Int) := by omega
            clear hi1
            have tok1 : True := trivial
            go_wp2_with (first
              | (have _t := tok1; clear _t tok1; at_builtin; refine wp_ownN (B := W.heap.size) (v := .slice none 0 0) (xs := []) (news := (xs.take i).flatMap encW) (n := 0) (m := i) (ad := ⟨g, 0, none⟩) infoW Tryz.underlying56 rfl (by decide) (by decide) rfl (.tmp 24) (.tmp 27) rfl rfl ⟨rfl, Or.inl ⟨rfl, rfl⟩⟩ HBX.out.size rfl HL1.out (HN1.out _ (HBK.out _ HBX.out).2) HE1.out (by omega) ?_; intro y1 w6 ho6 hg6 hat6; rw [Nat.zero_add, List.nil_append] at ho6; obtain ⟨b1, d1, rfl⟩ := own_len ho6; have HO6 := hide3 ho6; have HB6 : Hid (Below W.heap.size W w6) := HBX.out.grown hg6 HBX.out.size (fun k hk => by cases hk); clear ho6 hg6 hat6; obtain ⟨⟨l0, l1, l2⟩, _⟩ := HBK.out _ HB6.out; have HO7 : Hid ((w6.alloc (.cells #[.string x.nm, .int .i64 x.kd, .slice x.ad x.ln x.cp] 69)).ownsRow W.heap.size 69 3 (.slice b1 i d1) i ((xs.take i).flatMap encW)) := own_below HO6.out (boxB _ _); have HB7 : Hid (Below W.heap.size W (w6.alloc (.cells #[.string x.nm, .int .i64 x.kd, .slice x.ad x.ln x.cp] 69))) := below_then HB6.out (boxB _ _); have HNW : Hid (∀ j u, ([.string x.nm, .int .i64 x.kd, .slice x.ad x.ln x.cp] : List Value)[j]? = some u → (w6.alloc (.cells #[.string x.nm, .int .i64 x.kd, .slice x.ad x.ln x.cp] 69)).cell? ((⟨w6.heap.size, 0, none⟩ : Addr).add j) = some u) := World.news_of_block (cs := #[.string x.nm, .int .i64 x.kd, .slice x.ad x.ln x.cp]) (t := 69) (fr := (0, 0)) (by show (w6.heap.push _)[_]? = _; rw [Array.getElem?_push, if_pos rfl]); have tok2 : True := trivial)
              | (have _t := tok2; clear _t tok2; at_builtin; refine wp_ownN (B := W.heap.size) (wx := w6.alloc (.cells #[.string x.nm, .int .i64 x.kd, .slice x.ad x.ln x.cp] 69)) (v := .slice b1 i d1) (ad := ⟨w6.heap.size, 0, none⟩) (n := i) (m := 1) (news := [.string x.nm, .int .i64 x.kd, .slice x.ad x.ln x.cp]) infoW Tryz.underlying56 rfl (by decide) (by decide) rfl (.tmp 29) (.tmp 31) rfl rfl HO7.out HB7.out.size rfl rfl HNW.out (by simp [Value.oneCell']) (by omega) ?_; intro y2 w8 ho8 hg8 hat8; obtain ⟨b2, d2, rfl⟩ := own_len ho8; have HO8 := hide3 ho8; have HB8 : Hid (Below W.heap.size W w8) := HB7.out.grown hg8 HB7.out.size (fun k hk => (World.ownsRow.lt HO7.out k hk).1); clear ho8 hg8 hat8; have tok3 : True := trivial)
              | (have _t := tok3; clear _t tok3; at_builtin; refine wp_ownN (B := W.heap.size) (v := .slice b2 (i + 1) d2) (news := (xs.drop i).flatMap encW) (n := i + 1) (m := n - i) (ad := ⟨g, i * 3, none⟩) infoW Tryz.underlying56 rfl (by decide) (by decide) rfl (.tmp 33) (.tmp 36) rfl rfl HO8.out HB8.out.size rfl HL3.out (HN3.out _ (HBK.out _ HB8.out).2) HE3.out (by omega) ?_; intro y3 w9 ho9 hg9 hat9; obtain ⟨b3, d3, rfl⟩ := own_len ho9; have HO9 := hide3 ho9; have HB9 : Hid (Below W.heap.size W w9) := HB8.out.grown hg9 HB8.out.size (fun k hk => (World.ownsRow.lt HO8.out k hk).1); clear ho9 hg9 hat9))
            exact HFF.out _ _ (own_base HO9.out hwW) (HBK.out _ HB9.out).2
end Go.Proofs.YtbjbhgkbnegfgaaGreatDoor
namespace Go.Proofs.YtbjbhgkbnegfgaaGreatDoor
open Go.RowKit Go.Maps Go.WideMaps
set_option maxRecDepth 100000

theorem find_hit {α : Type} {l : List α} {p : α → Bool} {i : Nat} (hi : i < l.length) (h : p l[i] = true) (hb : ∀ j (hj : j < l.length), j < i → p l[j] = false) : l.find? p = some l[i] := by
  rw [List.find?_eq_some_iff_getElem]
  refine ⟨h, i, hi, rfl, fun j hj => ?_⟩
  rw [hb j (by omega) hj]
  rfl
theorem find_no {α : Type} {l : List α} {p : α → Bool} (hb : ∀ j (hj : j < l.length), j < l.length → p l[j] = false) : l.find? p = none := by
  rw [List.find?_eq_none]
  intro x hx
  obtain ⟨j, hj, rfl⟩ := List.getElem_of_mem hx
  rw [hb j hj hj]
  decide

set_option maxHeartbeats 6400000 in
theorem rrange_any {w0 w : World} (hb0 : Below w0.heap.size w0 w) {O : List Dp} {x1 x2 x3 : Option Addr} {y1 y2 y3 z1 z2 z3 : Nat} {v4 : Value} (h : DepsAt w0 v4 O) (hlen : O.length ≤ 9223372036854775807) (d : Dp) {au : Option Addr} {nu cu : Nat} (hd : SpansC w0 (.slice au nu cu) d.rg) (hdl : d.rg.length ≤ 9223372036854775807) : Calls Tryz.prog 37 #[.agg #[.slice x1 y1 z1, .slice x2 y2 z2, .slice x3 y3 z3, v4], .agg #[.string d.nm, .slice au nu cu]] w fun e w' => ∃ a1 b1 c1, e = .returned (.slice a1 b1 c1) ∧ SpansC w0 (.slice a1 b1 c1) (rangeD O d) ∧ (rangeD O d).length ≤ 9223372036854775807 ∧ Below w.heap.size w w' := by
  obtain ⟨ad, cap, rfl, hcap, hel⟩ := h.el
  have HEL := hide3 hel
  have HD := hide3 hd
  have HB0 : Hid (Below w.heap.size w ((w.alloc (.cells #[.slice x1 y1 z1, .slice x2 y2 z2, .slice x3 y3 z3, .slice ad O.length cap] 54)).alloc (.cells #[.string d.nm, .slice au nu cu] 62))) := boxB2 _ _ _
  have c3 : ((w.alloc (.cells #[.slice x1 y1 z1, .slice x2 y2 z2, .slice x3 y3 z3, .slice ad O.length cap] 54)).alloc (.cells #[.string d.nm, .slice au nu cu] 62)).cell? ⟨w.heap.size, 3, none⟩ = some (.slice ad O.length cap) := by simp
  have e0 : ((w.alloc (.cells #[.slice x1 y1 z1, .slice x2 y2 z2, .slice x3 y3 z3, .slice ad O.length cap] 54)).alloc (.cells #[.string d.nm, .slice au nu cu] 62)).cell? ⟨w.heap.size + 1, 0, none⟩ = some (.string d.nm) := (new_cell (by simp) rfl).1
  have e1 : ((w.alloc (.cells #[.slice x1 y1 z1, .slice x2 y2 z2, .slice x3 y3 z3, .slice ad O.length cap] 54)).alloc (.cells #[.string d.nm, .slice au nu cu] 62)).cell? ⟨w.heap.size + 1, 1, none⟩ = some (.slice au nu cu) := (new_cell (by simp) rfl).1
  have hk0 : w.heap.size < ((w.alloc (.cells #[.slice x1 y1 z1, .slice x2 y2 z2, .slice x3 y3 z3, .slice ad O.length cap] 54)).alloc (.cells #[.string d.nm, .slice au nu cu] 62)).heap.size := by simp; omega
  have hk1 : w.heap.size + 1 < ((w.alloc (.cells #[.slice x1 y1 z1, .slice x2 y2 z2, .slice x3 y3 z3, .slice ad O.length cap] 54)).alloc (.cells #[.string d.nm, .slice au nu cu] 62)).heap.size := by simp
  clear h hel hd
  go_enter Tryz.func37, Tryz.ntmps37
  go_wp2_with fail
  generalize ((w.alloc (.cells #[.slice x1 y1 z1, .slice x2 y2 z2, .slice x3 y3 z3, .slice ad O.length cap] 54)).alloc (.cells #[.string d.nm, .slice au nu cu] 62)) = W at *
  go_loopw [5] (fun vi wr => ∃ i : Nat, i ≤ O.length ∧ vi = .int .i64 i ∧ Below W.heap.size W wr ∧ ∀ j (hj : j < O.length), j < i → isD d.nm O[j] = false) (fun vi _ => O.length - (intOf vi).toNat)
  case atStart => exact ⟨0, Nat.zero_le _, rfl, Below.refl _ _, fun j hj h => by omega⟩
  case round =>
    obtain ⟨i, hi, rfl, hbw, hno⟩ := hrel
    have HB := hide3 hbw
    have HNO := hide3 hno
    have HBX : Hid (Below w.heap.size w wr) := below_then HB0.out hbw
    have HBW : Hid (Below w0.heap.size w0 wr) := hb0.trans (HBX.out.mono hb0.size)
    have d3 := (hbw.cell (p := ⟨w.heap.size, 3, none⟩) hk0).trans c3
    have f0 := (hbw.cell (p := ⟨w.heap.size + 1, 0, none⟩) hk1).trans e0
    have f1 := (hbw.cell (p := ⟨w.heap.size + 1, 1, none⟩) hk1).trans e1
    clear hbw hno c3 e0 e1
    by_cases hlt : i < O.length
    · have hki : (i : Int) < (O.length : Int) := by omega
      obtain ⟨g, o, rfl, au2, nu2, cu2, p0, p1, hsp, hg⟩ := HEL.out i hlt
      have q0 := (HBW.out.cell (p := ⟨g, o + i * 2, none⟩) hg).trans p0
      have q1 := (HBW.out.cell (p := ⟨g, o + i * 2 + 1, none⟩) hg).trans p1
      have HYES : Hid (isD d.nm O[i] = true → rangeD O d = O[i].rg) := fun h => by
        unfold rangeD
        rw [find_hit hlt h HNO.out]
      have HNXT : Hid (isD d.nm O[i] = false → ∀ j (hj : j < O.length), j < i + 1 → isD d.nm O[j] = false) := fun h j hj hji => by
        by_cases e : j = i
        · subst e; exact h
        · exact HNO.out j hj (by omega)
      have HSP := hide3 hsp
      generalize O[i] = x at *
      clear p0 p1 hsp
      by_cases hnm : x.nm = d.nm
      · have HX := hide3 (HYES.out (decide_eq_true hnm))
        rw [hnm] at q0
        clear hnm HYES HNXT
        go_wp2_with fail
        go_quiet (fail)
        go_wp2_with fail
        go_ret
        exact ⟨_, _, _, rfl, by rw [HX.out]; exact HSP.out.1, by rw [HX.out]; exact HSP.out.2, Go.Proofs.YtbjbhgkbnegfgaaGreatDoor.Below.drewN HBX.out _⟩
      · have HX := hide3 (HNXT.out (decide_eq_false hnm))
        have hne : (x.nm.toList == d.nm.toList) = false := by
          rw [beq_eq_false_iff_ne]
          exact fun e => hnm (bytes_same e)
        clear hnm HYES HNXT
        go_wp2_with fail
        go_quiet (fail)
        go_wp2_with fail
        exact ⟨⟨i + 1, by omega, by go_num, Go.Proofs.YtbjbhgkbnegfgaaGreatDoor.Below.drewN HB.out _, HX.out⟩, by simp [intOf]; omega⟩
    · obtain rfl : i = O.length := by omega
      have hki : ¬ ((O.length : Int) < (O.length : Int)) := by omega
      have HX : Hid (rangeD O d = d.rg) := by
        unfold Hid rangeD
        rw [find_no HNO.out]
      go_wp2_with fail
      go_ret
      exact ⟨_, _, _, rfl, by rw [HX.out]; exact HD.out, by rw [HX.out]; exact hdl, HBX.out⟩

theorem set3V {w : World} {N : Nat} {x y z : Value} (j0 : w.cell? ⟨N, 0, none⟩ = some x) (j1 : w.cell? ⟨N, 1, none⟩ = some y) (j2 : w.cell? ⟨N, 2, none⟩ = some z) (u0 u1 u2 : Value) : (((w.setCell ⟨N, 0, none⟩ u0).setCell ⟨N, 1, none⟩ u1).setCell ⟨N, 2, none⟩ u2).cell? ⟨N, 0, none⟩ = some u0 ∧ (((w.setCell ⟨N, 0, none⟩ u0).setCell ⟨N, 1, none⟩ u1).setCell ⟨N, 2, none⟩ u2).cell? ⟨N, 1, none⟩ = some u1 ∧ (((w.setCell ⟨N, 0, none⟩ u0).setCell ⟨N, 1, none⟩ u1).setCell ⟨N, 2, none⟩ u2).cell? ⟨N, 2, none⟩ = some u2 := by
  exact ⟨set_far (by decide) (set_far (by decide) (World.cell?_setCell_same _ _ _ j0)), set_far (by decide) (World.cell?_setCell_same _ _ _ (set_far (by decide) j1)), World.cell?_setCell_same _ _ _ (set_far (by decide) (set_far (by decide) j2))⟩
theorem below_set3V {w w' : World} {N B : Nat} {u0 u1 u2 : Value} (hN : B ≤ N) (h : Below B w w') : Below B w (((w'.setCell ⟨N, 0, none⟩ u0).setCell ⟨N, 1, none⟩ u1).setCell ⟨N, 2, none⟩ u2) := ((h.setCell (p := ⟨N, 0, none⟩) hN _).setCell (p := ⟨N, 1, none⟩) hN _).setCell (p := ⟨N, 2, none⟩) hN _
def tellV (E : List Pn) (s : ByteArray) : Pn := match E.find? (isN s) with
  | some q => q
  | none => ⟨s, 0, 0, 0⟩

set_option maxHeartbeats 6400000 in
theorem rtells_any {w : World} {E : List Pn} {v : Value} (h : PinsAt w v E) (hlen : E.length ≤ 9223372036854775807) (s : ByteArray) : Calls Tryz.prog 197 #[v, .string s] w fun e w' => e = .returned (.tuple #[.agg #[.int .i64 (tellV E s).a, .int .i64 (tellV E s).b, .int .i64 (tellV E s).c], .bool (E.find? (isN s)).isSome]) ∧ Below w.heap.size w w' := by
  obtain ⟨ad, cap, rfl, hcap, hel⟩ := h.el
  have HEL := hide3 hel
  have HB0 : Hid (Below w.heap.size w (w.alloc (.cells #[.int .i64 0, .int .i64 0, .int .i64 0] 31))) := boxB _ _
  have r0 : (w.alloc (.cells #[.int .i64 0, .int .i64 0, .int .i64 0] 31)).cell? ⟨w.heap.size, 0, none⟩ = some (.int .i64 0) := by simp
  have r1 : (w.alloc (.cells #[.int .i64 0, .int .i64 0, .int .i64 0] 31)).cell? ⟨w.heap.size, 1, none⟩ = some (.int .i64 0) := by simp
  have r2 : (w.alloc (.cells #[.int .i64 0, .int .i64 0, .int .i64 0] 31)).cell? ⟨w.heap.size, 2, none⟩ = some (.int .i64 0) := by simp
  have t0 : (w.alloc (.cells #[.int .i64 0, .int .i64 0, .int .i64 0] 31)).frozen? ⟨w.heap.size, 0, none⟩ = false := by simp
  have t1 : (w.alloc (.cells #[.int .i64 0, .int .i64 0, .int .i64 0] 31)).frozen? ⟨w.heap.size, 1, none⟩ = false := by simp
  have t2 : (w.alloc (.cells #[.int .i64 0, .int .i64 0, .int .i64 0] 31)).frozen? ⟨w.heap.size, 2, none⟩ = false := by simp
  have hk0 : w.heap.size < (w.alloc (.cells #[.int .i64 0, .int .i64 0, .int .i64 0] 31)).heap.size := by simp
  clear h hel
  go_enter Tryz.func197, Tryz.ntmps197
  go_wp2_with fail
  generalize (w.alloc (.cells #[.int .i64 0, .int .i64 0, .int .i64 0] 31)) = W at *
  go_loopw [6] (fun vi wr => ∃ i : Nat, i ≤ E.length ∧ vi = .int .i64 i ∧ wr = W ∧ ∀ j (hj : j < E.length), j < i → isN s E[j] = false) (fun vi _ => E.length - (intOf vi).toNat)
  case atStart => exact ⟨0, Nat.zero_le _, rfl, rfl, fun j hj h => by omega⟩
  case round =>
    obtain ⟨i, hi, rfl, hwe, hno⟩ := hrel
    subst hwe
    have HNO := hide3 hno
    clear hno
    by_cases hlt : i < E.length
    · have hki : (i : Int) < (E.length : Int) := by omega
      obtain ⟨g, o, rfl, ⟨p0, p1, p2, p3⟩, hg⟩ := HEL.out i hlt
      have q0 := (HB0.out.cell (p := ⟨g, o + i * 4, none⟩) hg).trans p0
      have q1 := (HB0.out.cell (p := ⟨g, o + i * 4 + 1, none⟩) hg).trans p1
      have q2 := (HB0.out.cell (p := ⟨g, o + i * 4 + 2, none⟩) hg).trans p2
      have q3 := (HB0.out.cell (p := ⟨g, o + i * 4 + 3, none⟩) hg).trans p3
      have HYES : Hid (isN s E[i] = true → E.find? (isN s) = some E[i]) := fun h => find_hit hlt h HNO.out
      have HNXT : Hid (isN s E[i] = false → ∀ j (hj : j < E.length), j < i + 1 → isN s E[j] = false) := fun h j hj hji => by
        by_cases e : j = i
        · subst e; exact h
        · exact HNO.out j hj (by omega)
      generalize E[i] = x at *
      clear p0 p1 p2 p3
      by_cases hnm : x.nm = s
      · have HX := hide3 (HYES.out (decide_eq_true hnm))
        have HT : Hid (tellV E s = x) := by
          unfold Hid tellV
          rw [HX.out]
        rw [hnm] at q0
        clear hnm HYES HNXT
        have s3 := fun u0 u1 u2 => set3V r0 r1 r2 u0 u1 u2
        go_wp2_with fail
        all_goals try simp only [Exit.inBlock, Exit.then]
        refine bodyPost_ret (by simp [results, Tryz.results197, s3, go_sem]; try rfl) rfl ?_
        exact ⟨by rw [HT.out, HX.out]; rfl, below_set3V (Nat.le_refl _) HB0.out⟩
      · have HX := hide3 (HNXT.out (decide_eq_false hnm))
        have hne : (x.nm.toList == s.toList) = false := by
          rw [beq_eq_false_iff_ne]
          exact fun e => hnm (bytes_same e)
        clear hnm HYES HNXT
        go_wp2_with fail
        exact ⟨⟨i + 1, by omega, by go_num, by trivial, HX.out⟩, by simp [intOf]; omega⟩
    · obtain rfl : i = E.length := by omega
      have hki : ¬ ((E.length : Int) < (E.length : Int)) := by omega
      have HX : Hid (E.find? (isN s) = none) := find_no HNO.out
      have HT : Hid (tellV E s = ⟨s, 0, 0, 0⟩) := by
        unfold Hid tellV
        rw [HX.out]
      have s3 := fun u0 u1 u2 => set3V r0 r1 r2 u0 u1 u2
      go_wp2_with fail
      all_goals try simp only [Exit.inBlock, Exit.then]
      refine bodyPost_ret (by simp [results, Tryz.results197, s3, go_sem]; try rfl) rfl ?_
      exact ⟨by rw [HT.out, HX.out]; rfl, below_set3V (Nat.le_refl _) HB0.out⟩
end Go.Proofs.YtbjbhgkbnegfgaaGreatDoor
namespace Go.Proofs.YtbjbhgkbnegfgaaGreatDoor
open Go.RowKit Go.Maps Go.WideMaps
set_option maxRecDepth 100000

/-- The document's telling: its ranges lie where they came from, in an elder world. -/
def DocT (O : List Dp) (E : List (Dp × Int)) (w0 w : World) (B : Nat) (v : Value) (Y : List Wt) : Prop := (RowO w B v Y ∧ (Y = [] → v = .slice none 0 0)) ∧ Y.Pairwise ltT ∧ (Y.map (·.tg)).Perm (List.range E.length) ∧ ∀ x ∈ Y, ∃ e : Dp × Int, E[x.tg]? = some e ∧ x.nm = e.1.nm ∧ x.kd = e.2 ∧ SpansC w0 x.rs (rangeD O e.1)
theorem DocT.below {O : List Dp} {E : List (Dp × Int)} {w0 w w' : World} {B : Nat} {v : Value} {Y : List Wt} (h : DocT O E w0 w B v Y) (hb : Below w.heap.size w w') : DocT O E w0 w' B v Y := ⟨⟨own_below h.1.1 hb, h.1.2⟩, h.2⟩
theorem DocT.nil (O : List Dp) (w0 w : World) (B : Nat) : DocT O [] w0 w B (.slice none 0 0) [] := ⟨⟨RowO.nil _ _, fun _ => rfl⟩, List.Pairwise.nil, List.Perm.refl _, fun x hx => by cases hx⟩
theorem DocT.len {O : List Dp} {E : List (Dp × Int)} {w0 w : World} {B : Nat} {v : Value} {Y : List Wt} (h : DocT O E w0 w B v Y) : Y.length = E.length := by
  have e := h.2.2.1.length_eq
  rw [List.length_map, List.length_range] at e
  exact e
/-- One want more. -/
theorem DocT.put {O : List Dp} {E : List (Dp × Int)} {w0 w w' : World} {B : Nat} {v v' : Value} {Y ys : List Wt} {x : Wt} {d : Dp} {k : Int} (h : DocT O E w0 w B v Y) (hp : ys.Perm (x :: Y)) (hs : ys.Pairwise ltT) (hr : RowO w' B v' ys) (h1 : x.nm = d.nm) (h2 : x.kd = k) (h3 : x.tg = E.length) (h4 : SpansC w0 x.rs (rangeD O d)) : DocT O (E ++ [(d, k)]) w0 w' B v' ys := by
  refine ⟨⟨hr, fun e => ?_⟩, hs, ?_, fun y hy => ?_⟩
  · rw [e] at hp
    have := hp.length_eq
    simp at this
  · rw [List.length_append, List.length_singleton, List.range_succ]
    refine (hp.map (·.tg)).trans ?_
    rw [List.map_cons, h3]
    exact ((h.2.2.1.cons E.length).trans (List.perm_append_singleton _ _).symm)
  · rcases List.mem_cons.1 (hp.mem_iff.1 hy) with rfl | hy
    · exact ⟨(d, k), by rw [h3, List.getElem?_append_right (Nat.le_refl _), Nat.sub_self]; rfl, h1, h2, h4⟩
    · obtain ⟨e, g1, g2, g3, g4⟩ := h.2.2.2 y hy
      exact ⟨e, by rw [List.getElem?_append_left (List.getElem?_eq_some_iff.1 g1).1]; exact g1, g2, g3, g4⟩
theorem DocT.tags {O : List Dp} {E : List (Dp × Int)} {w0 w : World} {B : Nat} {v : Value} {Y : List Wt} (h : DocT O E w0 w B v Y) : ∀ y ∈ Y, y.tg < E.length := fun y hy => by
  obtain ⟨e, h1, _⟩ := h.2.2.2 y hy
  exact (List.getElem?_eq_some_iff.1 h1).1

set_option maxHeartbeats 12800000 in
theorem added_any {w0 w : World} (hb0 : Below w0.heap.size w0 w) {O : List Dp} {x1 x2 x3 : Option Addr} {y1 y2 y3 z1 z2 z3 : Nat} {v4 : Value} (ho : DepsAt w0 v4 O) (hO : O.length ≤ 9223372036854775807) {ds : List Dp} {vd : Value} (hp : DepsAt w0 vd ds) (hn : ∀ d ∈ ds, d.nm.size ≤ 9223372036854775807) {E : List (Dp × Int)} {B : Nat} {v : Value} {Y0 : List Wt} (hB : B ≤ w.heap.size) (h : DocT O E w0 w B v Y0) (hl : E.length + ds.length ≤ 10000000) (kd : Int) : Calls Tryz.prog 74 #[v, vd, .int .i64 kd, .agg #[.slice x1 y1 z1, .slice x2 y2 z2, .slice x3 y3 z3, v4]] w fun e w' => ∃ v', e = .returned v' ∧ (∃ Y, DocT O (E ++ ds.map fun d => (d, kd)) w0 w' B v' Y) ∧ Below w.heap.size w w' := by
  obtain ⟨ad, cap, rfl, hcap, _⟩ := ho.el
  obtain ⟨p2, r2, rfl, _, _⟩ := hp.el
  obtain ⟨a0, c0, rfl⟩ := own_len h.1.1
  have HNM := hide3 hn
  have HON := hide3 hO
  have HB0 : Hid (Below w.heap.size w (w.alloc (.cells #[.slice x1 y1 z1, .slice x2 y2 z2, .slice x3 y3 z3, .slice ad O.length cap] 54))) := boxB _ _
  have HBA : Hid (Below w0.heap.size w0 (w.alloc (.cells #[.slice x1 y1 z1, .slice x2 y2 z2, .slice x3 y3 z3, .slice ad O.length cap] 54))) := below_then hb0 HB0.out
  have HBW : Hid (B ≤ (w.alloc (.cells #[.slice x1 y1 z1, .slice x2 y2 z2, .slice x3 y3 z3, .slice ad O.length cap] 54)).heap.size) := Nat.le_trans hB HB0.out.size
  have HDO := hide3 ho
  have HEL : Hid (∀ k (_ : k < ds.length), ∃ g o, p2 = some ⟨g, o, none⟩ ∧ ∃ au nu cu, DpIn w0 g (o + k * 2) ds[k] (.slice au nu cu)) := by
    obtain ⟨ad', cap', e, _, hel⟩ := hp.el
    cases e
    exact hel
  have HD0 : Hid (DocT O (E ++ (ds.take 0).map fun d => (d, kd)) w0 (w.alloc (.cells #[.slice x1 y1 z1, .slice x2 y2 z2, .slice x3 y3 z3, .slice ad O.length cap] 54)) B (.slice a0 Y0.length c0) Y0) := by
    unfold Hid
    have e : E ++ (ds.take 0).map (fun d => (d, kd)) = E := by rw [List.take_zero, List.map_nil, List.append_nil]
    rw [e]
    exact h.below HB0.out
  have k0 : (w.alloc (.cells #[.slice x1 y1 z1, .slice x2 y2 z2, .slice x3 y3 z3, .slice ad O.length cap] 54)).cell? ⟨w.heap.size, 0, none⟩ = some (.slice x1 y1 z1) := (new_cell rfl rfl).1
  have k1 : (w.alloc (.cells #[.slice x1 y1 z1, .slice x2 y2 z2, .slice x3 y3 z3, .slice ad O.length cap] 54)).cell? ⟨w.heap.size, 1, none⟩ = some (.slice x2 y2 z2) := (new_cell rfl rfl).1
  have k2 : (w.alloc (.cells #[.slice x1 y1 z1, .slice x2 y2 z2, .slice x3 y3 z3, .slice ad O.length cap] 54)).cell? ⟨w.heap.size, 2, none⟩ = some (.slice x3 y3 z3) := (new_cell rfl rfl).1
  have k3 : (w.alloc (.cells #[.slice x1 y1 z1, .slice x2 y2 z2, .slice x3 y3 z3, .slice ad O.length cap] 54)).cell? ⟨w.heap.size, 3, none⟩ = some (.slice ad O.length cap) := (new_cell rfl rfl).1
  have hNl : w.heap.size < (w.alloc (.cells #[.slice x1 y1 z1, .slice x2 y2 z2, .slice x3 y3 z3, .slice ad O.length cap] 54)).heap.size := by simp
  clear ho hp hn h hcap hO hb0 hB
  go_enter Tryz.func74, Tryz.ntmps74
  go_upto_region 1 with fail
  obtain ⟨N0, hN0⟩ : ∃ k, k = w.heap.size := ⟨_, rfl⟩
  rw [← hN0] at k0 k1 k2 k3 hNl
  rw [← hN0]
  generalize (w.alloc (.cells #[.slice x1 y1 z1, .slice x2 y2 z2, .slice x3 y3 z3, .slice ad O.length cap] 54)) = W at *
  clear hN0
  go_wp2_with fail
  go_loopw [0, 9] (fun vo vi wr => ∃ (k : Nat) (ao : Option Addr) (no co : Nat) (Y : List Wt), k ≤ ds.length ∧ vi = .int .i64 k ∧ vo = .slice ao no co ∧ DocT O (E ++ (ds.take k).map fun d => (d, kd)) w0 wr B (.slice ao no co) Y ∧ Below W.heap.size W wr) (fun _ vi _ => ds.length - (intOf vi).toNat)
  case atStart => exact ⟨0, a0, _, c0, Y0, Nat.zero_le _, rfl, rfl, HD0.out, Below.refl _ _⟩
  case round =>
    obtain ⟨k, ao, no, co, Y, hk, rfl, rfl, hdt, hb⟩ := hrel
    have HDT := hide3 hdt
    have HBR := hide3 hb
    clear hdt hb HD0
    by_cases hlt : k < ds.length
    · have hki : (k : Int) < (ds.length : Int) := by omega
      obtain ⟨g, o, rfl, au, nu, cu, c0, c1, hsp, hg⟩ := HEL.out k hlt
      have hz1 := HNM.out _ (List.getElem_mem hlt)
      have HTK : Hid (E ++ (ds.take (k + 1)).map (fun d => (d, kd)) = (E ++ (ds.take k).map fun d => (d, kd)) ++ [(ds[k], kd)]) := by
        unfold Hid
        rw [List.take_succ_eq_append_getElem hlt, List.map_append, List.append_assoc]
        rfl
      have HEK : Hid ((E ++ (ds.take k).map fun d => (d, kd)).length ≤ 10000000) := by
        unfold Hid
        rw [List.length_append, List.length_map, List.length_take]
        omega
      obtain ⟨d, hd⟩ : ∃ d, d = ds[k] := ⟨_, rfl⟩
      rw [← hd] at c0 hsp hz1 HTK
      clear hd
      have HKD : Hid (KeepP fun X => Below W.heap.size W X ∧ DocT O (E ++ (ds.take k).map fun d => (d, kd)) w0 X B (.slice ao no co) Y) := fun p q hx hpq => ⟨below_then hx.1 hpq, hx.2.below hpq⟩
      have HO0 : Hid (Below W.heap.size W wr ∧ DocT O (E ++ (ds.take k).map fun d => (d, kd)) w0 wr B (.slice ao no co) Y) := ⟨HBR.out, HDT.out⟩
      have HO : Hid (Below W.heap.size W wr.drew ∧ DocT O (E ++ (ds.take k).map fun d => (d, kd)) w0 wr.drew B (.slice ao no co) Y) := HKD.out _ _ HO0.out (Below.refl _ _).drew
      have HBX : Hid (∀ X, (Below W.heap.size W X ∧ DocT O (E ++ (ds.take k).map fun d => (d, kd)) w0 X B (.slice ao no co) Y) → X.cell? ⟨N0, 0, none⟩ = some (.slice x1 y1 z1) ∧ X.cell? ⟨N0, 1, none⟩ = some (.slice x2 y2 z2) ∧ X.cell? ⟨N0, 2, none⟩ = some (.slice x3 y3 z3) ∧ X.cell? ⟨N0, 3, none⟩ = some (.slice ad O.length cap) ∧ X.cell? ⟨g, o + k * 2, none⟩ = some (.string d.nm) ∧ X.cell? ⟨g, o + k * 2 + 1, none⟩ = some (.slice au nu cu)) := fun X hx => ⟨(hx.1.cell (p := ⟨N0, 0, none⟩) hNl).trans k0, (hx.1.cell (p := ⟨N0, 1, none⟩) hNl).trans k1, (hx.1.cell (p := ⟨N0, 2, none⟩) hNl).trans k2, (hx.1.cell (p := ⟨N0, 3, none⟩) hNl).trans k3, ((below_then HBA.out hx.1).cell (p := ⟨g, o + k * 2, none⟩) hg).trans c0, ((below_then HBA.out hx.1).cell (p := ⟨g, o + k * 2 + 1, none⟩) hg).trans c1⟩
      have HSL : Hid (SpansC w0 (.slice au nu cu) d.rg ∧ d.rg.length ≤ 9223372036854775807) := hsp
      have HRG : Hid (∀ X, (Below W.heap.size W X ∧ DocT O (E ++ (ds.take k).map fun d => (d, kd)) w0 X B (.slice ao no co) Y) → Calls Tryz.prog 37 #[.agg #[.slice x1 y1 z1, .slice x2 y2 z2, .slice x3 y3 z3, .slice ad O.length cap], .agg #[.string d.nm, .slice au nu cu]] X fun e w' => ∃ a9 b9 c9, e = .returned (.slice a9 b9 c9) ∧ SpansC w0 (.slice a9 b9 c9) (rangeD O d) ∧ Below X.heap.size X w') := fun X hx => (rrange_any (below_then HBA.out hx.1) HDO.out HON.out d HSL.out.1 HSL.out.2).mono fun e w' hq => by obtain ⟨a1, b1, c1, h1, h2, h3, h4⟩ := hq; exact ⟨a1, b1, c1, h1, h2, h4⟩
      have HPL : Hid (∀ (X w6 : World) (a9 : Option Addr) (b9 c9 : Nat), (Below W.heap.size W X ∧ DocT O (E ++ (ds.take k).map fun d => (d, kd)) w0 X B (.slice ao no co) Y) → SpansC w0 (.slice a9 b9 c9) (rangeD O d) → Below X.heap.size X w6 → Calls Tryz.prog 126 #[.slice ao no co, .agg #[.string d.nm, .int .i64 kd, .slice a9 b9 c9]] w6 fun e w' => ∃ a8 n8 c8, e = .returned (.slice a8 n8 c8) ∧ (∃ Y', DocT O (E ++ (ds.take (k + 1)).map fun d => (d, kd)) w0 w' B (.slice a8 n8 c8) Y') ∧ Below w6.heap.size w6 w') := fun X w6 a9 b9 c9 hx hs hb => by
        have hd6 := hx.2.below hb
        refine (placed_any (x := ⟨d.nm, kd, a9, b9, c9, (E ++ (ds.take k).map fun d => (d, kd)).length⟩) hd6.1.1 (by rw [hd6.len]; have := HEK.out; omega) hz1 hd6.2.1 hd6.tags hd6.1.2).mono fun e w' hq => ?_
        obtain ⟨v', q1, ys, q2, q3, q4, q5⟩ := hq
        obtain ⟨a8, c8, rfl⟩ := q4.len
        refine ⟨a8, _, c8, q1, ⟨ys, ?_⟩, q5⟩
        rw [HTK.out]
        exact DocT.put hd6 q2 q3 (own_base q4 (Nat.le_trans HBW.out (Nat.le_trans hx.1.size hb.size))) rfl rfl rfl hs
      clear c0 c1 hsp HDT HO0 k0 k1 k2 k3
      obtain ⟨t0, t1, t2, t3, t4, t5⟩ := HBX.out _ HO.out
      go_wp2_with fail
      go_region_held3 (fun w' => w'.cell? ⟨N0, 0, none⟩ = some (.slice x1 y1 z1) ∧ w'.cell? ⟨N0, 1, none⟩ = some (.slice x2 y2 z2) ∧ w'.cell? ⟨N0, 2, none⟩ = some (.slice x3 y3 z3) ∧ w'.cell? ⟨N0, 3, none⟩ = some (.slice ad O.length cap) ∧ w'.cell? ⟨g, o + k * 2, none⟩ = some (.string d.nm) ∧ w'.cell? ⟨g, o + k * 2 + 1, none⟩ = some (.slice au nu cu)) (go_keep) (first
        | (go_at_call 126; have _t := HV6; refine (HPL.out _ _ _ _ _ HO.out HV6.out HB6.out).mono ?_; rintro e w7 ⟨a8, n8, c8, rfl, hdt, hb7⟩; have HDN := hide3 hdt; have HO7 := hide3 (HKD.out _ _ HO6.out hb7); obtain ⟨s0, s1, s2, s3, s4, s5⟩ := HBX.out _ HO7.out; clear hdt hb7)
        | (go_at_call 37; refine (HRG.out _ HO.out).mono ?_; rintro e w6 ⟨a9, b9, c9, rfl, hv6, hb6⟩; have HV6 := hide3 hv6; have HB6 := hide3 hb6; have HO6 := hide3 (HKD.out _ _ HO.out hb6); obtain ⟨r0, r1, r2, r3, r4, r5⟩ := HBX.out _ HO6.out; clear hb6 hv6))
      all_goals go_wp2
      all_goals (obtain ⟨Y', hy⟩ := HDN.out; exact ⟨⟨k + 1, a8, n8, c8, Y', by omega, by go_num, rfl, hy, HO7.out.1⟩, by simp [intOf]; omega⟩)
    · obtain rfl : k = ds.length := by omega
      have HFN : Hid (DocT O (E ++ ds.map fun d => (d, kd)) w0 wr B (.slice ao no co) Y) := by
        have e := HDT.out
        rw [List.take_length] at e
        exact e
      have hki : ¬ ((ds.length : Int) < (ds.length : Int)) := by omega
      go_wp2
      go_ret
      exact ⟨_, rfl, ⟨Y, HFN.out⟩, below_then HB0.out HBR.out⟩
end Go.Proofs.YtbjbhgkbnegfgaaGreatDoor
