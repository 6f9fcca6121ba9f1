/- Ct17, Ct18, Ct19, Rk1, laid in one text. -/
import Derived.Test.YthlipnnlgkmhcaaGreatDoorMg13
namespace Go.Proofs.YthlipnnlgkmhcaaGreatDoor
open Go.RowKit Go.Maps Go.WideMaps
set_option maxRecDepth 100000

theorem infoPg : (Tryz.prog.info? 34).map (fun i => (i.zero, i.size, i.bytes)) = some (some (.agg #[.string ⟨#[]⟩, .int .i64 0, .int .i64 0, .int .i64 0, .slice none 0 0, .slice none 0 0, .slice none 0 0]), 7, 112) := by kernel_rfl
def encG (x : CV) : List Value := [.string x.pg.nm, .int .i64 x.pg.a, .int .i64 x.pg.b, .int .i64 x.pg.c, x.u1, x.u2, x.u3]
/-- Packages in a row of one's own. -/
def OwnA (w : World) (B : Nat) (v : Value) (xs : List CV) : Prop := w.ownsRow B 34 7 v xs.length (xs.flatMap encG) ∧ ∀ x ∈ xs, OwnG w B x.pg x.u1 x.u2 x.u3
theorem OwnA.nil (w : World) (B : Nat) : OwnA w B (.slice none 0 0) [] := ⟨⟨rfl, Or.inl ⟨rfl, rfl⟩⟩, fun x hx => by cases hx⟩
theorem OwnA.len {w : World} {B : Nat} {v : Value} {xs : List CV} (h : OwnA w B v xs) : ∃ ad cap, v = .slice ad xs.length cap := by
  rcases h.1.2 with ⟨rfl, hn⟩ | ⟨g, cap, cur, rfl, _⟩
  · exact ⟨none, 0, by rw [hn]⟩
  · exact ⟨_, _, rfl⟩
theorem OwnA.below {w w' : World} {B : Nat} {v : Value} {xs : List CV} (h : OwnA w B v xs) (hb : Below w.heap.size w w') : OwnA w' B v xs := ⟨own_below h.1 hb, fun x hx => (h.2 x hx).below hb⟩
theorem OwnA.base {w : World} {B B' : Nat} {v : Value} {xs : List CV} (h : OwnA w B v xs) (hB : B' ≤ B) : OwnA w B' v xs := ⟨own_base h.1 hB, fun x hx => (h.2 x hx).base hB⟩
theorem OwnD.kept {w w' : World} {B B' : Nat} {v v' : Value} {ps : List (Dp × Value)} {n' : Nat} {ys : List Value} (h : OwnD w B v ps) (hr : w.ownsRow B' 34 7 v' n' ys) (hg : w.grownBy w' v'.ownBlock) : OwnD w' B v ps := ⟨World.ownsRow.kept h.1 hg (own_apart h.1 hr (by decide)), fun p hp => World.ownsRow.kept (h.2 p hp) hg (own_apart (h.2 p hp) hr (by decide))⟩
theorem OwnG.kept {w w' : World} {B B' : Nat} {P : Pg} {v1 v2 v3 v' : Value} {n' : Nat} {ys : List Value} (h : OwnG w B P v1 v2 v3) (hr : w.ownsRow B' 34 7 v' n' ys) (hg : w.grownBy w' v'.ownBlock) : OwnG w' B P v1 v2 v3 := by
  obtain ⟨q1, q2, q3, ⟨d1, m1⟩, ⟨d2, m2⟩, d3, m3⟩ := h
  exact ⟨q1, q2, q3, ⟨d1.kept hr hg, m1⟩, ⟨d2.kept hr hg, m2⟩, d3.kept hr hg, m3⟩
theorem OwnA.snoc {W w1 : World} {B : Nat} {vo v1 : Value} {xs : List CV} {x : CV} (h : OwnA W B vo xs) (hx : OwnG W B x.pg x.u1 x.u2 x.u3) (ho : w1.ownsRow B 34 7 v1 (xs.length + 1) (xs.flatMap encG ++ encG x)) (hg : W.grownBy w1 vo.ownBlock) : OwnA w1 B v1 (xs ++ [x]) := by
  refine ⟨?_, fun y hy => ?_⟩
  · have q1 : (xs ++ [x]).length = xs.length + 1 := by simp
    have q2 : (xs ++ [x]).flatMap encG = xs.flatMap encG ++ encG x := by simp
    rw [q1, q2]
    exact ho
  · rcases List.mem_append.1 hy with hy | hy
    · exact (h.2 y hy).kept h.1 hg
    · obtain rfl := List.mem_singleton.1 hy
      exact hx.kept h.1 hg
theorem cat_self {L : List CV} (hP : L.Pairwise fun x y => keyC x ≠ keyC y) {x : CV} (hx : x ∈ L) : catC L x.pg.nm x.pg.a x.pg.b x.pg.c = some x := by
  unfold catC
  cases hf : L.find? (isAt x.pg.nm x.pg.a x.pg.b x.pg.c) with
  | none => exact absurd (decide_eq_true ⟨rfl, rfl, rfl, rfl⟩) (List.find?_eq_none.1 hf x hx)
  | some y =>
    have hy := List.mem_of_find?_eq_some hf
    have hp : y.pg.nm = x.pg.nm ∧ y.pg.a = x.pg.a ∧ y.pg.b = x.pg.b ∧ y.pg.c = x.pg.c := by
      have q := List.find?_some hf
      exact of_decide_eq_true q
    have hk : keyC y = keyC x := by unfold keyC; rw [hp.1, hp.2.1, hp.2.2.1, hp.2.2.2]
    by_cases e : y = x
    · rw [e]
    · obtain ⟨i, hi, rfl⟩ := List.getElem_of_mem hx
      obtain ⟨j, hj, rfl⟩ := List.getElem_of_mem hy
      rw [List.pairwise_iff_getElem] at hP
      rcases Nat.lt_trichotomy i j with h | h | h
      · exact absurd hk.symm (hP i j hi hj h)
      · subst h; exact absurd rfl e
      · exact absurd hk (hP j i hj hi h)
theorem encC_at (l : List CV) (i : Nat) (h : i < l.length) : (l.flatMap encC)[i * 4]? = some (.string l[i].pg.nm) ∧ (l.flatMap encC)[i * 4 + 1]? = some (.int .i64 l[i].pg.a) ∧ (l.flatMap encC)[i * 4 + 2]? = some (.int .i64 l[i].pg.b) ∧ (l.flatMap encC)[i * 4 + 3]? = some (.int .i64 l[i].pg.c) := by
  haveI : Inhabited CV := ⟨l[i]⟩
  have h0 := flatMap_get encC 4 (fun _ => rfl) l i 0 h (by decide)
  have h1 := flatMap_get encC 4 (fun _ => rfl) l i 1 h (by decide)
  have h2 := flatMap_get encC 4 (fun _ => rfl) l i 2 h (by decide)
  have h3 := flatMap_get encC 4 (fun _ => rfl) l i 3 h (by decide)
  rw [getElem!_pos l i h] at h0 h1 h2 h3
  exact ⟨h0, h1, h2, h3⟩
theorem pins_cells {w : World} {B : Nat} {v : Value} {ts : List CV} (h : w.ownsRow B 56 4 v ts.length (ts.flatMap encC)) (i : Nat) (hi : i < ts.length) : ∃ g cap, g < w.heap.size ∧ v = .slice (some ⟨g, 0, none⟩) ts.length cap ∧ w.cell? ⟨g, i * 4, none⟩ = some (.string ts[i].pg.nm) ∧ w.cell? ⟨g, i * 4 + 1, none⟩ = some (.int .i64 ts[i].pg.a) ∧ w.cell? ⟨g, i * 4 + 2, none⟩ = some (.int .i64 ts[i].pg.b) ∧ w.cell? ⟨g, i * 4 + 3, none⟩ = some (.int .i64 ts[i].pg.c) := by
  rcases h.2 with ⟨_, hn⟩ | ⟨g, cap, cur, rfl, hB, hgg, _, _, _, ht⟩
  · omega
  · obtain ⟨e0, e1, e2, e3⟩ := encC_at ts i hi
    have q : ∀ j, ∀ u, (ts.flatMap encC)[j]? = some u → w.cell? ⟨g, j, none⟩ = some u := fun j u hj => by
      have e : w.cell? ((⟨g, 0, none⟩ : Addr).add j) = some u := World.news_of_block hgg j u (by
        rw [← ht] at hj
        by_cases h : j < ts.length * 4
        · rw [List.getElem?_take_of_lt h] at hj
          exact hj
        · rw [List.getElem?_take_eq_none (by omega)] at hj
          cases hj)
      have e2 : (⟨g, 0, none⟩ : Addr).add j = ⟨g, j, none⟩ := by unfold Addr.add; split <;> simp_all
      rw [e2] at e
      exact e
    exact ⟨g, cap, (Array.getElem?_eq_some_iff.1 hgg).1, rfl, q _ _ e0, q _ _ e1, q _ _ e2, q _ _ e3⟩
theorem look_one {w : World} {B C M : Nat} {L : List CV} (h : CatAt w B C M L) {x : CV} (hx : x ∈ L) : (Instr.lookup 66 (.map (some M)) (.agg #[.string x.pg.nm, .int .i64 x.pg.a, .int .i64 x.pg.b, .int .i64 x.pg.c]) false).run Tryz.prog w = .ok (cvV x) w := by
  have hk := h.keys x hx
  obtain ⟨v, ps, h1, h2⟩ := h.2.1.lookup keyedPin Tryz.underlying66 (zeroPg w) (zd := .held zPg) (zp := []) rfl (keyOf_pin hk.1 hk.2.1 hk.2.2.1 hk.2.2.2)
  rw [key_at h.keys hk, cat_self h.2.2.2 hx] at h2
  have e := heldR_inv h2
  unfold pinV at h1
  rw [h1, e]

/-- What All answers. -/
def AllQ (L : List CV) (w : World) (v : Value) (w' : World) : Prop := ∃ xs ts, ToldA L ts ∧ xs.map (·.pg) = ts.map (·.pg) ∧ OwnA w' w.heap.size v xs ∧ Below w.heap.size w w'

set_option maxHeartbeats 12800000 in
theorem all_any {w : World} {B C M : Nat} {L : List CV} (h : CatAt w B C M L) (hlen : L.length ≤ 1000000) : Calls Tryz.prog 23 #[.pointer (some ⟨C, 0, none⟩)] w fun e w' => ∃ v, e = .returned v ∧ AllQ L w v w' := by
  have kc := h.1.1
  have HC := hide3 h
  have HKM : Hid (∀ W, Calls Tryz.prog 44 #[.map (some M)] W fun e w' => e = .returned (.func (.func 71) #[] #[.pointer (some ⟨W.heap.size, 0, none⟩)]) ∧ w' = W.alloc (.cells #[.map (some M)] 66)) := keys_made _
  have HSF : Hid (Calls Tryz.prog 43 #[.func (.func 71) #[] #[.pointer (some ⟨w.heap.size, 0, none⟩)], .func (.func 45) #[] #[]] (w.alloc (.cells #[.map (some M)] 66)) fun e w' => ∃ (v : Value) (ts : List CV), e = .returned v ∧ ToldA L ts ∧ w'.ownsRow (w.alloc (.cells #[.map (some M)] 66)).heap.size 56 4 v ts.length (ts.flatMap encC) ∧ Below (w.alloc (.cells #[.map (some M)] 66)).heap.size (w.alloc (.cells #[.map (some M)] 66)) w') := sortedC hlen w.heap.size M L.length h.keys h.2.2.2 _ (by simp) (by simp) (ownsMapH_below h.2.1 (boxB _ _))
  have HCP : Hid (∀ (W : World) (P : Pg) (v1 v2 v3 : Value), PgAt W P v1 v2 v3 → SmP P → Calls Tryz.prog 34 #[.agg #[.string P.nm, .int .i64 P.a, .int .i64 P.b, .int .i64 P.c, v1, v2, v3]] W fun e w' => ∃ u1 u2 u3, e = .returned (.agg #[.string P.nm, .int .i64 P.a, .int .i64 P.b, .int .i64 P.c, u1, u2, u3]) ∧ OwnG w' W.heap.size P u1 u2 u3 ∧ Below W.heap.size W w') := fun W P v1 v2 v3 hp hs => copied_any hp hs
  clear h
  go_enter Tryz.func23, Tryz.ntmps23
  go_wp2_with (first
    | (go_at_call 44; refine (HKM.out _).mono ?_; rintro e w1 ⟨rfl, rfl⟩; clear HKM)
    | (go_at_call 43; refine HSF.out.mono ?_; rintro e w2 ⟨vt, ts, rfl, htd, hot, hb⟩; have HTD := hide3 htd; have HOT := hide3 hot; have HB2 := hide3 (below_then (boxB _ _) hb); obtain ⟨a0, k0, hvt⟩ : ∃ a k, vt = .slice a ts.length k := (by rcases hot.2 with ⟨e, hn⟩ | ⟨g, cap, cur, e, _⟩; exact ⟨none, 0, by rw [hn]; exact e⟩; exact ⟨_, _, e⟩); subst hvt; clear htd hot hb HSF))
  have htl : ts.length ≤ 1000000 := by have := HTD.out.1.length_eq; omega
  have HC2 := hide3 (HC.out.below HB2.out)
  have HPW := hide3 HC.out.2.2.2
  clear kc
  go_loopw [3, 13] (fun vo vi wr => ∃ (k : Nat) (xs : List CV), k ≤ ts.length ∧ vi = .int .i64 k ∧ xs.map (·.pg) = (ts.take k).map (·.pg) ∧ OwnA wr w2.heap.size vo xs ∧ Below w2.heap.size w2 wr) (fun _ vi _ => ts.length - (intOf vi).toNat)
  case atStart => exact ⟨0, [], Nat.zero_le _, rfl, rfl, OwnA.nil _ _, Below.refl _ _⟩
  case round =>
    obtain ⟨k, xs, hk, rfl, hxs, hoa, hb⟩ := hrel
    have HXS := hide3 hxs
    have HOA := hide3 hoa
    have HB := hide3 hb
    obtain ⟨ao, co, rfl⟩ := hoa.len
    have hxl : xs.length ≤ 1000000 := by
      have := congrArg List.length hxs
      rw [List.length_map, List.length_map, List.length_take] at this
      omega
    clear hxs hoa hb
    by_cases hlt : k < ts.length
    · have hki : (k : Int) < (ts.length : Int) := by omega
      obtain ⟨g, cap, hgl, hvt, c0, c1, c2, c3⟩ := pins_cells HOT.out k hlt
      injection hvt with ha0 _ hc0
      subst ha0
      subst hc0
      have hxL : ts[k] ∈ L := HTD.out.1.mem_iff.1 (List.getElem_mem hlt)
      have HTK : Hid (ts.take (k + 1) = ts.take k ++ [ts[k]]) := List.take_succ_eq_append_getElem hlt
      obtain ⟨x, hx⟩ : ∃ x, x = ts[k] := ⟨_, rfl⟩
      rw [← hx] at c0 c1 c2 c3 hxL HTK
      have d0 := (HB.out.cell (p := ⟨g, k * 4, none⟩) hgl).trans c0
      have d1 := (HB.out.cell (p := ⟨g, k * 4 + 1, none⟩) hgl).trans c1
      have d2 := (HB.out.cell (p := ⟨g, k * 4 + 2, none⟩) hgl).trans c2
      have d3 := (HB.out.cell (p := ⟨g, k * 4 + 3, none⟩) hgl).trans c3
      clear hx c0 c1 c2 c3
      have HOG : Hid (OwnG w B x.pg x.u1 x.u2 x.u3) := (HC.out.2.2.1 x hxL).1.1
      have HSM : Hid (SmP x.pg) := (HC.out.2.2.1 x hxL).2.2
      obtain ⟨d1', m1, o1, hu1⟩ := own_sl1 HOG.out
      obtain ⟨d2', m2, o2, hu2⟩ := own_sl2 HOG.out
      obtain ⟨d3', m3, o3, hu3⟩ := own_sl3 HOG.out
      have HLK : Hid (∀ W, CatAt W B C M L → (Instr.lookup 66 (.map (some M)) (.agg #[.string x.pg.nm, .int .i64 x.pg.a, .int .i64 x.pg.b, .int .i64 x.pg.c]) false).run Tryz.prog W = .ok (.agg #[.string x.pg.nm, .int .i64 x.pg.a, .int .i64 x.pg.b, .int .i64 x.pg.c, .slice d1' m1 o1, .slice d2' m2 o2, .slice d3' m3 o3]) W) := fun W hW => by
        have e := look_one hW hxL
        rw [cvV, hu1, hu2, hu3] at e
        exact e
      have HCQ : Hid (∀ W, Below w2.heap.size w2 W → Calls Tryz.prog 34 #[.agg #[.string x.pg.nm, .int .i64 x.pg.a, .int .i64 x.pg.b, .int .i64 x.pg.c, .slice d1' m1 o1, .slice d2' m2 o2, .slice d3' m3 o3]] W fun e w' => ∃ u1 u2 u3, e = .returned (.agg #[.string x.pg.nm, .int .i64 x.pg.a, .int .i64 x.pg.b, .int .i64 x.pg.c, u1, u2, u3]) ∧ OwnG w' W.heap.size x.pg u1 u2 u3 ∧ Below W.heap.size W w') := fun W hb => by
        have e := HCP.out W x.pg _ _ _ ((HOG.out.below HB2.out).below hb).at HSM.out
        rw [hu1, hu2, hu3] at e
        exact e
      clear hu1 hu2 hu3 hxL
      have HKD : Hid (∀ a b, (((Below w2.heap.size w2 a ∧ CatAt a B C M L) ∧ OwnA a w2.heap.size (.slice ao xs.length co) xs) ∧ (a.cell? ⟨wr.heap.size, 0, none⟩ = some (.string x.pg.nm) ∧ a.cell? ⟨wr.heap.size, 1, none⟩ = some (.int .i64 x.pg.a) ∧ a.cell? ⟨wr.heap.size, 2, none⟩ = some (.int .i64 x.pg.b) ∧ a.cell? ⟨wr.heap.size, 3, none⟩ = some (.int .i64 x.pg.c) ∧ wr.heap.size < a.heap.size)) → Below a.heap.size a b → ((Below w2.heap.size w2 b ∧ CatAt b B C M L) ∧ OwnA b w2.heap.size (.slice ao xs.length co) xs) ∧ (b.cell? ⟨wr.heap.size, 0, none⟩ = some (.string x.pg.nm) ∧ b.cell? ⟨wr.heap.size, 1, none⟩ = some (.int .i64 x.pg.a) ∧ b.cell? ⟨wr.heap.size, 2, none⟩ = some (.int .i64 x.pg.b) ∧ b.cell? ⟨wr.heap.size, 3, none⟩ = some (.int .i64 x.pg.c) ∧ wr.heap.size < b.heap.size)) := fun a b hx hab => ⟨⟨⟨below_then hx.1.1.1 hab, hx.1.1.2.below hab⟩, hx.1.2.below hab⟩, (hab.cell (p := ⟨wr.heap.size, 0, none⟩) hx.2.2.2.2.2).trans hx.2.1, (hab.cell (p := ⟨wr.heap.size, 1, none⟩) hx.2.2.2.2.2).trans hx.2.2.1, (hab.cell (p := ⟨wr.heap.size, 2, none⟩) hx.2.2.2.2.2).trans hx.2.2.2.1, (hab.cell (p := ⟨wr.heap.size, 3, none⟩) hx.2.2.2.2.2).trans hx.2.2.2.2.1, Nat.lt_of_lt_of_le hx.2.2.2.2.2 hab.size⟩
      have HO1 : Hid (((Below w2.heap.size w2 (wr.alloc (.cells #[.string x.pg.nm, .int .i64 x.pg.a, .int .i64 x.pg.b, .int .i64 x.pg.c] 56)).drew ∧ CatAt (wr.alloc (.cells #[.string x.pg.nm, .int .i64 x.pg.a, .int .i64 x.pg.b, .int .i64 x.pg.c] 56)).drew B C M L) ∧ OwnA (wr.alloc (.cells #[.string x.pg.nm, .int .i64 x.pg.a, .int .i64 x.pg.b, .int .i64 x.pg.c] 56)).drew w2.heap.size (.slice ao xs.length co) xs) ∧ ((wr.alloc (.cells #[.string x.pg.nm, .int .i64 x.pg.a, .int .i64 x.pg.b, .int .i64 x.pg.c] 56)).drew.cell? ⟨wr.heap.size, 0, none⟩ = some (.string x.pg.nm) ∧ (wr.alloc (.cells #[.string x.pg.nm, .int .i64 x.pg.a, .int .i64 x.pg.b, .int .i64 x.pg.c] 56)).drew.cell? ⟨wr.heap.size, 1, none⟩ = some (.int .i64 x.pg.a) ∧ (wr.alloc (.cells #[.string x.pg.nm, .int .i64 x.pg.a, .int .i64 x.pg.b, .int .i64 x.pg.c] 56)).drew.cell? ⟨wr.heap.size, 2, none⟩ = some (.int .i64 x.pg.b) ∧ (wr.alloc (.cells #[.string x.pg.nm, .int .i64 x.pg.a, .int .i64 x.pg.b, .int .i64 x.pg.c] 56)).drew.cell? ⟨wr.heap.size, 3, none⟩ = some (.int .i64 x.pg.c) ∧ wr.heap.size < (wr.alloc (.cells #[.string x.pg.nm, .int .i64 x.pg.a, .int .i64 x.pg.b, .int .i64 x.pg.c] 56)).drew.heap.size)) := HKD.out _ _ (⟨⟨⟨below_then HB.out (boxB _ _), HC2.out.below (below_then HB.out (boxB _ _))⟩, HOA.out.below (boxB _ _)⟩, by simp, by simp, by simp, by simp, by simp⟩ : ((Below w2.heap.size w2 (wr.alloc (.cells #[.string x.pg.nm, .int .i64 x.pg.a, .int .i64 x.pg.b, .int .i64 x.pg.c] 56)) ∧ CatAt (wr.alloc (.cells #[.string x.pg.nm, .int .i64 x.pg.a, .int .i64 x.pg.b, .int .i64 x.pg.c] 56)) B C M L) ∧ OwnA (wr.alloc (.cells #[.string x.pg.nm, .int .i64 x.pg.a, .int .i64 x.pg.b, .int .i64 x.pg.c] 56)) w2.heap.size (.slice ao xs.length co) xs) ∧ ((wr.alloc (.cells #[.string x.pg.nm, .int .i64 x.pg.a, .int .i64 x.pg.b, .int .i64 x.pg.c] 56)).cell? ⟨wr.heap.size, 0, none⟩ = some (.string x.pg.nm) ∧ (wr.alloc (.cells #[.string x.pg.nm, .int .i64 x.pg.a, .int .i64 x.pg.b, .int .i64 x.pg.c] 56)).cell? ⟨wr.heap.size, 1, none⟩ = some (.int .i64 x.pg.a) ∧ (wr.alloc (.cells #[.string x.pg.nm, .int .i64 x.pg.a, .int .i64 x.pg.b, .int .i64 x.pg.c] 56)).cell? ⟨wr.heap.size, 2, none⟩ = some (.int .i64 x.pg.b) ∧ (wr.alloc (.cells #[.string x.pg.nm, .int .i64 x.pg.a, .int .i64 x.pg.b, .int .i64 x.pg.c] 56)).cell? ⟨wr.heap.size, 3, none⟩ = some (.int .i64 x.pg.c) ∧ wr.heap.size < (wr.alloc (.cells #[.string x.pg.nm, .int .i64 x.pg.a, .int .i64 x.pg.b, .int .i64 x.pg.c] 56)).heap.size)) (Below.refl _ _).drew
      have HFN : Hid (∀ (w5 w6 : World) (v1 : Value) p1 q1 r1 p2 q2 r2 p3 q3 r3, (((Below w2.heap.size w2 w5 ∧ CatAt w5 B C M L) ∧ OwnA w5 w2.heap.size (.slice ao xs.length co) xs) ∧ (w5.cell? ⟨wr.heap.size, 0, none⟩ = some (.string x.pg.nm) ∧ w5.cell? ⟨wr.heap.size, 1, none⟩ = some (.int .i64 x.pg.a) ∧ w5.cell? ⟨wr.heap.size, 2, none⟩ = some (.int .i64 x.pg.b) ∧ w5.cell? ⟨wr.heap.size, 3, none⟩ = some (.int .i64 x.pg.c) ∧ wr.heap.size < w5.heap.size)) → OwnG w5 w2.heap.size x.pg (.slice p1 q1 r1) (.slice p2 q2 r2) (.slice p3 q3 r3) → w6.ownsRow w2.heap.size 34 7 v1 (xs.length + 1) (xs.flatMap encG ++ #[.string x.pg.nm, .int .i64 x.pg.a, .int .i64 x.pg.b, .int .i64 x.pg.c, .slice p1 q1 r1, .slice p2 q2 r2, .slice p3 q3 r3].toList) → w5.grownBy w6 (Value.slice ao xs.length co).ownBlock → OwnA w6 w2.heap.size v1 (xs ++ [⟨x.pg, .slice p1 q1 r1, .slice p2 q2 r2, .slice p3 q3 r3⟩]) ∧ (xs ++ [(⟨x.pg, .slice p1 q1 r1, .slice p2 q2 r2, .slice p3 q3 r3⟩ : CV)]).map (·.pg) = (ts.take (k + 1)).map (·.pg) ∧ Below w2.heap.size w2 w6) := fun w5 w6 v1 p1 q1 r1 p2 q2 r2 p3 q3 r3 hk hog ho hg => ⟨OwnA.snoc hk.1.2 (x := ⟨x.pg, .slice p1 q1 r1, .slice p2 q2 r2, .slice p3 q3 r3⟩) hog ho hg, by rw [HTK.out, List.map_append, List.map_append, HXS.out]; rfl, hk.1.1.1.grown hg hk.1.1.1.size (fun j hj => (World.ownsRow.lt hk.1.2.1 j hj).1)⟩
      obtain ⟨b0, b1, b2, b3, _⟩ := HO1.out.2
      have kc := HO1.out.1.1.2.1.1
      have lk := HLK.out _ HO1.out.1.1.2
      go_wp2_with fail
      generalize (wr.alloc (.cells #[.string x.pg.nm, .int .i64 x.pg.a, .int .i64 x.pg.b, .int .i64 x.pg.c] 56)) = W1 at *
      go_region_held3 (fun w' => w'.cell? ⟨C, 0, none⟩ = some (.map (some M)) ∧ w'.cell? ⟨wr.heap.size, 0, none⟩ = some (.string x.pg.nm) ∧ w'.cell? ⟨wr.heap.size, 1, none⟩ = some (.int .i64 x.pg.a) ∧ w'.cell? ⟨wr.heap.size, 2, none⟩ = some (.int .i64 x.pg.b) ∧ w'.cell? ⟨wr.heap.size, 3, none⟩ = some (.int .i64 x.pg.c)) (go_keep) (first
        | (go_at_call 34; refine (HCQ.out _ HO1.out.1.1.1).mono ?_; rintro e w5 ⟨u1, u2, u3, rfl, ho, hb⟩; have HO5 := hide3 (HKD.out _ _ HO1.out hb); have HG5 := hide3 (ho.base HO1.out.1.1.1.size); obtain ⟨p1, q1, r1, hs1⟩ := own_sl1 ho; obtain ⟨p2, q2, r2, hs2⟩ := own_sl2 ho; obtain ⟨p3, q3, r3, hs3⟩ := own_sl3 ho; subst hs1; subst hs2; subst hs3; obtain ⟨y0, y1, y2, y3, hy⟩ := HO5.out.2; have yc := HO5.out.1.1.2.1.1; have hB5 : w2.heap.size ≤ w5.heap.size := HO5.out.1.1.1.size; have HNE : Hid (some wr.heap.size ≠ (Value.slice ao xs.length co).ownBlock) := (fun e => by have := (World.ownsRow.lt HOA.out.1 _ e.symm).2; omega); have HNC : Hid (some C ≠ (Value.slice ao xs.length co).ownBlock) := (fun e => by have := (World.ownsRow.lt HOA.out.1 _ e.symm).1; have := HC2.out.1.2.1; omega); clear ho hb)
        | (refine step_own (B := w2.heap.size) (M := w5.heap.size) (wx := w5) (v := .slice ao xs.length co) infoPg Tryz.underlying22 rfl (by decide) (by decide) rfl (.tmp 17) (.tmp 25) rfl rfl HO5.out.1.2.1 hB5 #[.string x.pg.nm, .int .i64 x.pg.a, .int .i64 x.pg.b, .int .i64 x.pg.c, .slice p1 q1 r1, .slice p2 q2 r2, .slice p3 q3 r3] rfl (by simp [Value.oneCell']) rfl rfl (by omega) ?_; intro v1 w6 ho hgr hat; have HP := hide3 (HFN.out _ _ _ _ _ _ _ _ _ _ _ _ HO5.out HG5.out ho (grown_pre (boxB _ _) hgr)); obtain ⟨g7, cap7, hv7⟩ := HP.out.1.len; subst hv7; have z0 := (grown_pre (boxB _ _) hgr).cell y0 HNE.out; have z1 := (grown_pre (boxB _ _) hgr).cell y1 HNE.out; have z2 := (grown_pre (boxB _ _) hgr).cell y2 HNE.out; have z3 := (grown_pre (boxB _ _) hgr).cell y3 HNE.out; have zc := (grown_pre (boxB _ _) hgr).cell yc HNC.out; clear ho hgr hat))
      all_goals go_wp2
      all_goals exact ⟨⟨k + 1, _, by omega, by go_num, HP.out.2.1, by first | exact HP.out.1 | (have e := HP.out.1; rw [List.length_append] at e; exact e), HP.out.2.2⟩, by simp [intOf]; omega⟩
    · obtain rfl : k = ts.length := by omega
      have hki : ¬ ((ts.length : Int) < (ts.length : Int)) := by omega
      have HXT : Hid (xs.map (·.pg) = ts.map (·.pg)) := by
        unfold Hid
        rw [HXS.out, List.take_length]
      clear HXS
      go_wp2
      go_ret
      exact ⟨_, rfl, xs, ts, HTD.out, HXT.out, HOA.out.base HB2.out.size, below_then HB2.out HB.out⟩
end Go.Proofs.YthlipnnlgkmhcaaGreatDoor
namespace Go.Proofs.YthlipnnlgkmhcaaGreatDoor
open Go.RowKit Go.Maps Go.WideMaps
set_option maxRecDepth 100000

theorem bxV_new (W : World) (a b c : Int) : BxAt (W.alloc (.cells #[.int .i64 a, .int .i64 b, .int .i64 c] 31)) ⟨W.heap.size, .int .i64 a, .int .i64 b, .int .i64 c⟩ := ⟨by simp, by simp, by simp, by simp⟩
/-- The package of known. -/
def aP : Pg := ⟨⟨#[97]⟩, 1, 0, 0, [], [], []⟩
theorem aP_once : onceB aP = true := by
  unfold onceB onceL
  exact @decide_eq_true _ (Classical.propDecidable _) List.nodup_nil
theorem aP_text : textP aP = [112, 97, 99, 107, 97, 103, 101, 32, 97, 32, 49, 46, 48, 46, 48, 10] := by
  unfold textP listT
  rw [show aP.d = [] from rfl, show aP.p = [] from rfl, show aP.o = [] from rfl]
  unfold lineB
  rw [show textV aP.a aP.b aP.c = ⟨#[49, 46, 48, 46, 48]⟩ by decide +kernel]
  rfl
theorem aP_w : writtenB aP = true := by
  unfold writtenB soundB
  rw [aP_once, aP_text]
  decide +kernel
theorem aP_key : KeyOk aP.nm aP.a aP.b aP.c := ⟨by decide, by unfold I64; decide, by unfold I64; decide, by unfold I64; decide⟩
theorem aP_at (w : World) : PgAt w aP (.slice none 0 0) (.slice none 0 0) (.slice none 0 0) := ⟨⟨none, 0, rfl, Nat.le_refl _, Or.inl rfl⟩, ⟨none, 0, rfl, Nat.le_refl _, Or.inl rfl⟩, ⟨none, 0, rfl, Nat.le_refl _, Or.inl rfl⟩⟩
theorem aP_cat (u1 u2 u3 : Value) : catC [⟨aP, u1, u2, u3⟩] aP.nm aP.a aP.b aP.c = some ⟨aP, u1, u2, u3⟩ := by
  unfold catC isAt
  rw [List.find?_cons, decide_eq_true ⟨rfl, rfl, rfl, rfl⟩]
theorem aP_told {u1 u2 u3 : Value} {ts : List Vn} (h : Told [⟨aP, u1, u2, u3⟩] ⟨#[97]⟩ ts) : ts = [⟨1, 0, 0⟩] := by
  have e : verL ⟨#[97]⟩ [⟨aP, u1, u2, u3⟩] = [⟨1, 0, 0⟩] := by
    unfold verL
    rw [List.filter_cons, if_pos (show isNm ⟨#[97]⟩ ⟨aP, u1, u2, u3⟩ = true from decide_eq_true rfl)]
    rfl
  have := h.1
  rw [e] at this
  exact List.perm_singleton.1 this
theorem all_in : inB (allR.map spR) ⟨1, 0, 0⟩ = true := by decide +kernel
theorem aP_cand {u1 u2 u3 : Value} {ts : List Vn} (h : Told [⟨aP, u1, u2, u3⟩] ⟨#[97]⟩ ts) : candV (allR.map spR) ⟨#[97]⟩ [] ts = [⟨1, 0, 0⟩] := by
  rw [aP_told h]
  unfold candV fstV othV
  simp [all_in, pinB, cntP]
theorem own_one {w : World} {B : Nat} {v : Value} {x : Vn} (h : OwnV w B v [x]) : ∃ g cap, v = .slice (some ⟨g, 0, none⟩) 1 cap ∧ BxAt w ⟨g, .int .i64 x.a, .int .i64 x.b, .int .i64 x.c⟩ := by
  obtain ⟨g, _, hg, ⟨cap, e⟩, c0, c1, c2⟩ := h.cells 0 (by simp)
  exact ⟨g, cap, e, by simpa using c0, by simpa using c1, by simpa using c2, hg⟩
theorem cat_one {w : World} {B C M : Nat} {P : Pg} {L : List CV} {u1 u2 u3 : Value} (hp : L.Perm [⟨P, u1, u2, u3⟩]) (h : CatAt w B C M L) : CatAt w B C M [⟨P, u1, u2, u3⟩] := by
  rw [← List.perm_singleton.1 hp]
  exact h

set_option maxHeartbeats 6400000 in
theorem known_ct {w : World} (he : Env w) (hf : FL w) : Calls Tryz.prog 9 #[] w fun e w' => e = .returned (.bool true) ∧ Below w.heap.size w w' := by
  have HNW : Hid (Calls Tryz.prog 8 #[] w fun e w' => e = .returned (.pointer (some ⟨w.heap.size + 1, 0, none⟩)) ∧ w' = ((w.alloc (.map #[] 0)).alloc (.cells #[.map (some w.heap.size)] 68))) := new_any w
  have HB0 : Hid (Below w.heap.size w (((w.alloc (.map #[] 0)).alloc (.cells #[.map (some w.heap.size)] 68)).alloc (.cells #[.int .i64 1, .int .i64 0, .int .i64 0] 31))) := (boxB2 w (.map #[] 0) (.cells #[.map (some w.heap.size)] 68)).trans ((boxB _ _).mono (by simp; omega))
  have HPT : Hid (Calls Tryz.prog 11 #[.pointer (some ⟨w.heap.size + 1, 0, none⟩), .agg #[.string ⟨#[97]⟩, .int .i64 1, .int .i64 0, .int .i64 0, .slice none 0 0, .slice none 0 0, .slice none 0 0]] (((w.alloc (.map #[] 0)).alloc (.cells #[.map (some w.heap.size)] 68)).alloc (.cells #[.int .i64 1, .int .i64 0, .int .i64 0] 31)) fun e w' => e = .returned (.int .i64 0) ∧ ∃ u1 u2 u3 L', L'.Perm [⟨aP, u1, u2, u3⟩] ∧ CatAt w' w.heap.size (w.heap.size + 1) w.heap.size L' ∧ (((w.alloc (.map #[] 0)).alloc (.cells #[.map (some w.heap.size)] 68)).alloc (.cells #[.int .i64 1, .int .i64 0, .int .i64 0] 31)).grownBy w' (some w.heap.size)) :=
    put_ok (P := aP) ((CatAt.new w w.heap.size).below (boxB _ _)) (aP_at _) (he.below HB0.out) (hf.below HB0.out) HB0.out.size aP_key aP_w rfl (by decide)
  have HGT : Hid (∀ W u1 u2 u3, CatAt W w.heap.size (w.heap.size + 1) w.heap.size [⟨aP, u1, u2, u3⟩] → Calls Tryz.prog 14 #[.pointer (some ⟨w.heap.size + 1, 0, none⟩), .string ⟨#[97]⟩, .agg #[.int .i64 1, .int .i64 0, .int .i64 0]] W fun e w' => ∃ v1 v2 v3, e = .returned (.tuple #[.agg #[.string ⟨#[97]⟩, .int .i64 1, .int .i64 0, .int .i64 0, v1, v2, v3], .bool true]) ∧ OwnG w' W.heap.size aP v1 v2 v3 ∧ Below W.heap.size W w') := fun W u1 u2 u3 hc => get_some (P := aP) hc (aP_cat _ _ _)
  have HAL : Hid (∀ W, Calls Tryz.prog 30 #[] W fun e w' => ∃ v, e = .returned v ∧ SpansR w' v allR ∧ Below W.heap.size W w') := rAll_rg
  have HCD : Hid (∀ W u1 u2 u3 v, CatAt W w.heap.size (w.heap.size + 1) w.heap.size [⟨aP, u1, u2, u3⟩] → SpansR W v allR → Calls Tryz.prog 20 #[.pointer (some ⟨w.heap.size + 1, 0, none⟩), .string ⟨#[97]⟩, v, .slice none 0 0] W fun e w' => ∃ g cap, e = .returned (.slice (some ⟨g, 0, none⟩) 1 cap) ∧ BxAt w' ⟨g, .int .i64 1, .int .i64 0, .int .i64 0⟩ ∧ Below W.heap.size W w') := fun W u1 u2 u3 v hc hv => by
    refine (cands_any hc (by simp) ⟨#[97]⟩ hv.at (ps := []) ⟨none, 0, rfl, Nat.le_refl _, Or.inl rfl⟩ (by decide) (fun p hp => by cases hp)).mono ?_
    rintro e w' ⟨v', ts, rfl, ht, ho, hb⟩
    rw [aP_cand ht] at ho
    obtain ⟨g, cap, e, hbx⟩ := own_one ho
    exact ⟨g, cap, by rw [e], hbx, hb⟩
  have HAA : Hid (∀ W u1 u2 u3, CatAt W w.heap.size (w.heap.size + 1) w.heap.size [⟨aP, u1, u2, u3⟩] → Calls Tryz.prog 23 #[.pointer (some ⟨w.heap.size + 1, 0, none⟩)] W fun e w' => ∃ a c, e = .returned (.slice a 1 c) ∧ Below W.heap.size W w') := fun W u1 u2 u3 hc => by
    refine (all_any hc (by simp)).mono ?_
    rintro e w' ⟨v, rfl, xs, ts, ht, hx, ho, hb⟩
    obtain ⟨a, c, e⟩ := ho.len
    have hl : xs.length = 1 := by
      have h1 := congrArg List.length hx
      rw [List.length_map, List.length_map, ht.1.length_eq] at h1
      exact h1
    rw [hl] at e
    exact ⟨a, c, by rw [e], hb⟩
  have HBX : Hid (BxAt (((w.alloc (.map #[] 0)).alloc (.cells #[.map (some w.heap.size)] 68)).alloc (.cells #[.int .i64 1, .int .i64 0, .int .i64 0] 31)) ⟨w.heap.size + 2, .int .i64 1, .int .i64 0, .int .i64 0⟩) := by
    have e : ((w.alloc (.map #[] 0)).alloc (.cells #[.map (some w.heap.size)] 68)).heap.size = w.heap.size + 2 := by simp
    have q : BxAt (((w.alloc (.map #[] 0)).alloc (.cells #[.map (some w.heap.size)] 68)).alloc (.cells #[.int .i64 1, .int .i64 0, .int .i64 0] 31)) ⟨((w.alloc (.map #[] 0)).alloc (.cells #[.map (some w.heap.size)] 68)).heap.size, .int .i64 1, .int .i64 0, .int .i64 0⟩ := bxV_new _ _ _ _
    rw [e] at q
    exact q
  have hev := eqlV 1 0 0 1 0 0
  have hgv := guardV
  rw [decide_eq_true ⟨rfl, rfl, rfl⟩] at hev
  clear he hf
  go_enter Tryz.func9, Tryz.ntmps9
  go_wp2_with (first
    | (go_at_call 8; refine HNW.out.mono ?_; rintro e w1 ⟨rfl, rfl⟩; clear HNW)
    | (go_at_call 11; refine HPT.out.mono ?_; rintro e w3 ⟨rfl, u1, u2, u3, L', hp, hc, hg⟩; have HK3 : Hid ((CatAt w3 w.heap.size (w.heap.size + 1) w.heap.size [⟨aP, u1, u2, u3⟩] ∧ Below w.heap.size w w3) ∧ BxAt w3 ⟨w.heap.size + 2, .int .i64 1, .int .i64 0, .int .i64 0⟩) := ⟨⟨cat_one hp hc, HB0.out.grown hg HB0.out.size (fun j hj => by cases hj; exact Nat.le_refl _)⟩, (World.cell?_of_block (a := ⟨w.heap.size + 2, 0, none⟩) (hg.block (w.heap.size + 2) (by simp) (fun q => by have := Option.some.inj q; omega))).trans HBX.out.1, (World.cell?_of_block (a := ⟨w.heap.size + 2, 1, none⟩) (hg.block (w.heap.size + 2) (by simp) (fun q => by have := Option.some.inj q; omega))).trans HBX.out.2.1, (World.cell?_of_block (a := ⟨w.heap.size + 2, 2, none⟩) (hg.block (w.heap.size + 2) (by simp) (fun q => by have := Option.some.inj q; omega))).trans HBX.out.2.2.1, Nat.lt_of_lt_of_le HBX.out.2.2.2 hg.size⟩; clear hp hc hg HPT HBX; obtain ⟨k0, k1, k2, _⟩ := HK3.out.2)
    | (go_at_call 14; refine (HGT.out _ _ _ _ HK3.out.1.1).mono ?_; rintro e w4 ⟨v1, v2, v3, rfl, ho, hb⟩; obtain ⟨p1, q1, r1, hs1⟩ := own_sl1 ho; obtain ⟨p2, q2, r2, hs2⟩ := own_sl2 ho; obtain ⟨p3, q3, r3, hs3⟩ := own_sl3 ho; subst hs1; subst hs2; subst hs3; have HKD : Hid (∀ a b, ((CatAt a w.heap.size (w.heap.size + 1) w.heap.size [⟨aP, u1, u2, u3⟩] ∧ Below w.heap.size w a) ∧ BxAt a ⟨w.heap.size + 2, .int .i64 1, .int .i64 0, .int .i64 0⟩) → Below a.heap.size a b → (CatAt b w.heap.size (w.heap.size + 1) w.heap.size [⟨aP, u1, u2, u3⟩] ∧ Below w.heap.size w b) ∧ BxAt b ⟨w.heap.size + 2, .int .i64 1, .int .i64 0, .int .i64 0⟩) := (fun a b hx hab => ⟨⟨hx.1.1.below hab, below_then hx.1.2 hab⟩, keepV3 _ _ _ hx.2 hab⟩); have HK4 := hide3 (HKD.out _ _ (HKD.out _ _ HK3.out hb) (boxB w4 (.cells #[.string ⟨#[97]⟩, .int .i64 1, .int .i64 0, .int .i64 0, .slice p1 q1 r1, .slice p2 q2 r2, .slice p3 q3 r3] 34))); have e0 : (w4.alloc (.cells #[.string ⟨#[97]⟩, .int .i64 1, .int .i64 0, .int .i64 0, .slice p1 q1 r1, .slice p2 q2 r2, .slice p3 q3 r3] 34)).cell? ⟨w4.heap.size, 0, none⟩ = some (.string ⟨#[97]⟩) := (by simp); have el : w4.heap.size < (w4.alloc (.cells #[.string ⟨#[97]⟩, .int .i64 1, .int .i64 0, .int .i64 0, .slice p1 q1 r1, .slice p2 q2 r2, .slice p3 q3 r3] 34)).heap.size := (by simp); have HE4 : Hid ((((CatAt (w4.alloc (.cells #[.string ⟨#[97]⟩, .int .i64 1, .int .i64 0, .int .i64 0, .slice p1 q1 r1, .slice p2 q2 r2, .slice p3 q3 r3] 34)) w.heap.size (w.heap.size + 1) w.heap.size [⟨aP, u1, u2, u3⟩] ∧ Below w.heap.size w (w4.alloc (.cells #[.string ⟨#[97]⟩, .int .i64 1, .int .i64 0, .int .i64 0, .slice p1 q1 r1, .slice p2 q2 r2, .slice p3 q3 r3] 34))) ∧ BxAt (w4.alloc (.cells #[.string ⟨#[97]⟩, .int .i64 1, .int .i64 0, .int .i64 0, .slice p1 q1 r1, .slice p2 q2 r2, .slice p3 q3 r3] 34)) ⟨w.heap.size + 2, .int .i64 1, .int .i64 0, .int .i64 0⟩) ∧ ((w4.alloc (.cells #[.string ⟨#[97]⟩, .int .i64 1, .int .i64 0, .int .i64 0, .slice p1 q1 r1, .slice p2 q2 r2, .slice p3 q3 r3] 34)).cell? ⟨w4.heap.size, 0, none⟩ = some (.string ⟨#[97]⟩) ∧ w4.heap.size < (w4.alloc (.cells #[.string ⟨#[97]⟩, .int .i64 1, .int .i64 0, .int .i64 0, .slice p1 q1 r1, .slice p2 q2 r2, .slice p3 q3 r3] 34)).heap.size))) := ⟨HK4.out, e0, el⟩; clear ho hb k0 k1 k2 el HK3 HGT)
    | (go_at_call 30; refine (HAL.out _).mono ?_; rintro e w5 ⟨va, rfl, hsp, hb⟩; have HED : Hid (∀ a b, ((((CatAt a w.heap.size (w.heap.size + 1) w.heap.size [⟨aP, u1, u2, u3⟩] ∧ Below w.heap.size w a) ∧ BxAt a ⟨w.heap.size + 2, .int .i64 1, .int .i64 0, .int .i64 0⟩) ∧ (a.cell? ⟨w4.heap.size, 0, none⟩ = some (.string ⟨#[97]⟩) ∧ w4.heap.size < a.heap.size))) → Below a.heap.size a b → (((CatAt b w.heap.size (w.heap.size + 1) w.heap.size [⟨aP, u1, u2, u3⟩] ∧ Below w.heap.size w b) ∧ BxAt b ⟨w.heap.size + 2, .int .i64 1, .int .i64 0, .int .i64 0⟩) ∧ (b.cell? ⟨w4.heap.size, 0, none⟩ = some (.string ⟨#[97]⟩) ∧ w4.heap.size < b.heap.size))) := (fun a b hx hab => ⟨HKD.out _ _ hx.1 hab, (hab.cell (p := ⟨w4.heap.size, 0, none⟩) hx.2.2).trans hx.2.1, Nat.lt_of_lt_of_le hx.2.2 hab.size⟩); have HE5 := hide3 (HED.out _ _ HE4.out hb); have HSP := hide3 hsp; clear hsp hb e0)
    | (go_at_call 20; refine (HCD.out _ _ _ _ _ HE5.out.1.1.1 HSP.out).mono ?_; rintro e w6 ⟨g, cap, rfl, hbx, hb⟩; have HE6 := hide3 (HED.out _ _ HE5.out hb); have HBL := hide3 hbx; clear hbx hb))
  obtain ⟨j0, j1, j2, hjl⟩ := HBL.out
  obtain ⟨⟨_, k0, k1, k2, hkl⟩, e0, hel⟩ := HE6.out
  have hi1 : (0 : Int) < 1 := by decide
  go_region_held3 (fun w' => w'.cell? ⟨w4.heap.size, 0, none⟩ = some (.string ⟨#[97]⟩) ∧ w'.cell? ⟨g, 0, none⟩ = some (.int .i64 1) ∧ w'.cell? ⟨g, 1, none⟩ = some (.int .i64 0) ∧ w'.cell? ⟨g, 2, none⟩ = some (.int .i64 0) ∧ w'.cell? ⟨w.heap.size + 2, 0, none⟩ = some (.int .i64 1) ∧ w'.cell? ⟨w.heap.size + 2, 1, none⟩ = some (.int .i64 0) ∧ w'.cell? ⟨w.heap.size + 2, 2, none⟩ = some (.int .i64 0)) (go_keep) (first
    | (go_at_call 23; refine (HAA.out _ _ _ _ (HE6.out.1.1.1.below (Below.refl _ _).drew)).mono ?_; rintro e w7 ⟨aa, ca, rfl, hb⟩; have HB7 : Hid (Below w.heap.size w w7) := below_then HE6.out.1.1.2 (below_then (Below.refl _ _).drew hb); have hq := below_then (Below.refl w6.heap.size w6).drew hb; have f0 := (hq.cell (p := ⟨w4.heap.size, 0, none⟩) hel).trans e0; have g0 := (hq.cell (p := ⟨g, 0, none⟩) hjl).trans j0; have g1 := (hq.cell (p := ⟨g, 1, none⟩) hjl).trans j1; have g2 := (hq.cell (p := ⟨g, 2, none⟩) hjl).trans j2; have h0 := (hq.cell (p := ⟨w.heap.size + 2, 0, none⟩) hkl).trans k0; have h1 := (hq.cell (p := ⟨w.heap.size + 2, 1, none⟩) hkl).trans k1; have h2 := (hq.cell (p := ⟨w.heap.size + 2, 2, none⟩) hkl).trans k2; clear hb hq))
  all_goals go_wp2
  all_goals go_ret
  all_goals exact ⟨rfl, HB7.out⟩
end Go.Proofs.YthlipnnlgkmhcaaGreatDoor
namespace Go.Proofs.YthlipnnlgkmhcaaGreatDoor
open Go.RowKit Go.Maps Go.WideMaps
set_option maxRecDepth 100000

/-- A name at the version of a rank. -/
def pgN (s : ByteArray) (n : Int) : Pg := ⟨s, atA n, atB n, atC n, [], [], []⟩
theorem bare_written {s : ByteArray} {a b c x y z : Int} (h : writtenB ⟨s, a, b, c, [], [], []⟩ = true) (hm : mayV x y z = true) : writtenB ⟨s, x, y, z, [], [], []⟩ = true := by
  unfold writtenB soundB at h ⊢
  simp only [Bool.and_eq_true, decide_eq_true_eq] at h ⊢
  obtain ⟨⟨⟨⟨hn, _⟩, hl⟩, ho⟩, _⟩ := h
  refine ⟨⟨⟨⟨hn, hm⟩, hl⟩, ho⟩, ?_⟩
  have h1 : s.data.toList.length ≤ 16 := by
    unfold Sc.nameA at hn
    simp only [Bool.and_eq_true, decide_eq_true_eq] at hn
    exact hn.2
  have h2 : (textV x y z).data.toList.length ≤ 11 := by
    have := text_size x y z
    rw [Array.length_toList]
    exact this
  unfold textP listT lineB
  simp only [List.flatMap_nil, List.append_nil, List.length_append, List.length_cons, List.length_nil]
  have h3 : (⟨#[112, 97, 99, 107, 97, 103, 101]⟩ : ByteArray).data.toList.length = 7 := rfl
  omega
theorem bare_name {s : ByteArray} {a b c : Int} (h : writtenB ⟨s, a, b, c, [], [], []⟩ = true) : s.size ≤ 16 := by
  unfold writtenB soundB at h
  simp only [Bool.and_eq_true, decide_eq_true_eq] at h
  have hn := h.1.1.1.1
  unfold Sc.nameA at hn
  simp only [Bool.and_eq_true, decide_eq_true_eq] at hn
  have e : s.size = s.data.toList.length := by rw [Array.length_toList]; rfl
  rw [e]
  exact hn.2
theorem small_i64 {a : Int} (h0 : 0 ≤ a) (h1 : a ≤ 999) : I64 a := WalkArith.wf_i64 (by omega)
theorem may_i64 {a b c : Int} (h : mayV a b c = true) : I64 a ∧ I64 b ∧ I64 c := by
  unfold mayV partB at h
  simp only [Bool.and_eq_true, decide_eq_true_eq] at h
  exact ⟨small_i64 h.1.1.1 h.1.1.2, small_i64 h.1.2.1 h.1.2.2, small_i64 h.2.1 h.2.2⟩
theorem has_in {n : Int} (h0 : 0 ≤ n) (h1 : n < 1000000000) : hasV n = true := by
  unfold hasV
  rw [decide_eq_true h0, decide_eq_true h1]
  rfl
theorem pgN_key {s : ByteArray} {n : Int} (hs : s.size ≤ 16) (hn : hasV n = true) : KeyOk (pgN s n).nm (pgN s n).a (pgN s n).b (pgN s n).c := by
  obtain ⟨h1, h2, h3⟩ := may_i64 (may_at hn).1
  exact ⟨by show s.size ≤ maxLen; unfold maxLen; omega, h1, h2, h3⟩
/-- k versions of a name, from a rank on. -/
def Filled (s : ByteArray) (n : Int) (k : Nat) (L : List CV) : Prop := (L.map (·.pg)).Perm ((List.range k).map fun j : Nat => pgN s (n + (j : Int)))
theorem Filled.len {s : ByteArray} {n : Int} {k : Nat} {L : List CV} (h : Filled s n k L) : L.length = k := by
  have := h.length_eq
  rw [List.length_map, List.length_map, List.length_range] at this
  exact this
theorem Filled.mem {s : ByteArray} {n : Int} {k : Nat} {L : List CV} (h : Filled s n k L) {x : CV} (hx : x ∈ L) : ∃ j, j < k ∧ x.pg = pgN s (n + j) := by
  have := h.mem_iff.1 (List.mem_map_of_mem (f := (·.pg)) hx)
  obtain ⟨j, hj, e⟩ := List.mem_map.1 this
  exact ⟨j, List.mem_range.1 hj, e.symm⟩
theorem Filled.none {s : ByteArray} {n : Int} {k : Nat} {L : List CV} (h : Filled s n k L) (h0 : 0 ≤ n) {i : Nat} (hk : k ≤ i) (h1 : n + i < 1000000000) : catC L s (atA (n + i)) (atB (n + i)) (atC (n + i)) = none := by
  unfold catC
  rw [List.find?_eq_none]
  intro x hx q
  obtain ⟨j, hj, e⟩ := h.mem hx
  have hq : x.pg.nm = s ∧ x.pg.a = atA (n + i) ∧ x.pg.b = atB (n + i) ∧ x.pg.c = atC (n + i) := of_decide_eq_true q
  rw [e] at hq
  have r1 := (may_at (has_in (n := n + j) (by omega) (by omega))).2
  have r2 := (may_at (has_in (n := n + i) (by omega) h1)).2
  have e2 : rankV (atA (n + j)) (atB (n + j)) (atC (n + j)) = rankV (atA (n + i)) (atB (n + i)) (atC (n + i)) := by
    have q1 : atA (n + j) = atA (n + i) := hq.2.1
    have q2 : atB (n + j) = atB (n + i) := hq.2.2.1
    have q3 : atC (n + j) = atC (n + i) := hq.2.2.2
    rw [q1, q2, q3]
  rw [r1, r2] at e2
  omega
theorem Filled.some {s : ByteArray} {n : Int} {k : Nat} {L : List CV} (h : Filled s n k L) {j : Nat} (hj : j < k) : ∃ x, catC L s (atA (n + j)) (atB (n + j)) (atC (n + j)) = some x := by
  have hm : pgN s (n + j) ∈ L.map (·.pg) := h.mem_iff.2 (List.mem_map.2 ⟨j, List.mem_range.2 hj, rfl⟩)
  obtain ⟨x, hx, e⟩ := List.mem_map.1 hm
  cases hc : catC L s (atA (n + j)) (atB (n + j)) (atC (n + j)) with
  | some y => exact ⟨y, rfl⟩
  | none =>
    refine absurd ?_ (List.find?_eq_none.1 hc x hx)
    unfold isAt
    rw [decide_eq_true_eq, e]
    exact ⟨rfl, rfl, rfl, rfl⟩
theorem Filled.put {s : ByteArray} {n : Int} {k : Nat} {L L' : List CV} (h : Filled s n k L) {u1 u2 u3 : Value} (hp : L'.Perm (⟨pgN s (n + k), u1, u2, u3⟩ :: L)) : Filled s n (k + 1) L' := by
  unfold Filled
  refine (hp.map (·.pg)).trans ?_
  rw [List.map_cons, List.range_succ, List.map_append]
  refine (List.Perm.cons _ h).trans ?_
  exact (List.perm_append_singleton _ _).symm
theorem Filled.vers {s : ByteArray} {n : Int} {k : Nat} {L : List CV} (h : Filled s n k L) : (verL s L).length = k := by
  unfold verL
  rw [List.length_map, List.filter_eq_self.2, h.len]
  intro x hx
  obtain ⟨j, _, e⟩ := h.mem hx
  unfold isNm
  rw [decide_eq_true_eq, e]
  rfl
/-- A catalog is as it was where something else is written over that is no row of it. -/
theorem own_over {w w' : World} {B N : Nat} {e t : TypeId} {z : Nat} {v : Value} {n : Nat} {xs : List Value} {cs : Array Value} {fr : Nat × Nat} (h : w.ownsRow B e z v n xs) (hN : w.heap[N]? = some (.cells cs t fr)) (hne : t ≠ e) (hg : w.grownBy w' (some N)) : w'.ownsRow B e z v n xs :=
  World.ownsRow.kept h hg (row_other h hN (fun _ q => hne (Obj.cells.inj q).2.1))
theorem OwnG.over {w w' : World} {B N : Nat} {P : Pg} {v1 v2 v3 : Value} {cs : Array Value} {fr : Nat × Nat} {t : TypeId} (h : OwnG w B P v1 v2 v3) (hN : w.heap[N]? = some (.cells cs t fr)) (h1 : t ≠ 73) (h2 : t ≠ 75) (hg : w.grownBy w' (some N)) : OwnG w' B P v1 v2 v3 := by
  obtain ⟨q1, q2, q3, ⟨d1, m1⟩, ⟨d2, m2⟩, d3, m3⟩ := h
  exact ⟨q1, q2, q3, ⟨⟨own_over d1.1 hN h1 hg, fun p hp => own_over (d1.2 p hp) hN h2 hg⟩, m1⟩, ⟨⟨own_over d2.1 hN h1 hg, fun p hp => own_over (d2.2 p hp) hN h2 hg⟩, m2⟩, ⟨own_over d3.1 hN h1 hg, fun p hp => own_over (d3.2 p hp) hN h2 hg⟩, m3⟩
theorem CatAt.over {w w' : World} {B C M N : Nat} {L : List CV} {cs : Array Value} {fr : Nat × Nat} {t : TypeId} (h : CatAt w B C M L) (hN : w.heap[N]? = some (.cells cs t fr)) (h1 : t ≠ 73) (h2 : t ≠ 75) (hC : N ≠ C) (hg : w.grownBy w' (some N)) : CatAt w' B C M L := by
  obtain ⟨⟨a1, a2, a3⟩, a4, a5, a6⟩ := h
  have hM : some M ≠ some N := fun e => by
    obtain rfl := Option.some.inj e
    obtain ⟨es, cl, hm, _⟩ := a4
    rw [hm] at hN
    cases hN
  refine ⟨⟨?_, Nat.lt_of_lt_of_le a2 hg.size, a3⟩, a4.kept hg hM, fun x hx => ⟨⟨(a5 x hx).1.1.over hN h1 h2 hg, (a5 x hx).1.2⟩, (a5 x hx).2⟩, a6⟩
  rw [World.cell?_of_block (a := ⟨C, 0, none⟩) (hg.block C a2 fun q => hC (Option.some.inj q).symm)]
  exact a1
end Go.Proofs.YthlipnnlgkmhcaaGreatDoor
namespace Go.Proofs.YthlipnnlgkmhcaaGreatDoor
open Go.RowKit
set_option maxRecDepth 100000

set_option maxHeartbeats 1600000 in
theorem rSpans_walk (A B : List Sp) (hAB : A.length = B.length) (hsz : A.length ≤ 9223372036854775807) (ga oa ca gb ob cb : Nat) (w : World) (hga : ga < w.heap.size) (hgb : gb < w.heap.size) (hla : ∀ i (h : i < A.length), SpAt w ga (oa + i * 6) A[i]) (hlb : ∀ i (h : i < B.length), SpAt w gb (ob + i * 6) B[i]) :
    Calls Tryz.prog 62 #[.slice (some ⟨ga, oa, none⟩) A.length ca, .slice (some ⟨gb, ob, none⟩) B.length cb] w fun e w' => e = .returned (.bool (eqB A B)) ∧ Below w.heap.size w w' := by
  have HL : Hid (∀ w1, Below w.heap.size w w1 → ∀ i (h : i < A.length) (h2 : i < B.length), SpIn w1 ga (oa + i * 6) A[i] ∧ SpIn w1 gb (ob + i * 6) B[i]) := fun w1 hb i hi hi2 => ⟨⟨(hla i hi).below hb hga, Nat.lt_of_lt_of_le hga hb.size⟩, ⟨(hlb i hi2).below hb hgb, Nat.lt_of_lt_of_le hgb hb.size⟩⟩
  have HAB := hide3 hAB
  clear hla hlb
  rw [← hAB]
  clear hAB
  go_enter Tryz.func62, Tryz.ntmps62
  go_wp2_with fail
  go_loopw [5] (fun i wr => ∃ k : Nat, k ≤ A.length ∧ i = .int .i64 k ∧ Below w.heap.size w wr ∧ ∀ j (h : j < k) (h1 : j < A.length) (h2 : j < B.length), A[j] = B[j]) (fun i _ => A.length - (intOf i).toNat)
  case atStart => exact ⟨0, Nat.zero_le _, rfl, Below.refl _ _, fun j h => by omega⟩
  case round =>
    obtain ⟨k, hk, rfl, hb, hall⟩ := hrel
    have HALL := hide3 hall
    have HB := hide3 hb
    clear hall
    by_cases hlt : k < A.length
    · have hltB : k < B.length := HAB.out ▸ hlt
      have HO : Hid (Below w.heap.size w wr ∧ SpIn wr ga (oa + k * 6) A[k] ∧ SpIn wr gb (ob + k * 6) B[k]) := ⟨hb, HL.out wr hb k hlt hltB⟩
      have HK : Hid (KeepP fun w1 => Below w.heap.size w w1 ∧ SpIn w1 ga (oa + k * 6) A[k] ∧ SpIn w1 gb (ob + k * 6) B[k]) := (keepBelow w).and ((keepSp _ _ _).and (keepSp _ _ _))
      have HNE : Hid (eqS A[k] B[k] = false → eqB A B = false) := fun h => eqB_no fun e => by subst e; rw [(eqS_iff).2 rfl] at h; cases h
      have HST : Hid (eqS A[k] B[k] = true → ∀ j (h : j < k + 1) (h1 : j < A.length) (h2 : j < B.length), A[j] = B[j]) := fun h j hj h1 h2 => by
        rcases Nat.lt_or_ge j k with hjk | hjk
        · exact HALL.out j hjk h1 h2
        · obtain rfl : j = k := by omega
          exact eqS_iff.1 h
      generalize A[k] = s at *
      generalize B[k] = t at *
      obtain ⟨a, b, c, x, y, z⟩ := s
      obtain ⟨a', b', c', x', y', z'⟩ := t
      have he := neqSp2 a b c x y z a' b' c' x' y' z'
      have hgd := guardSp
      cases hq : eqS ⟨a, b, c, x, y, z⟩ ⟨a', b', c', x', y', z'⟩
      · have HR := hide3 (HNE.out hq)
        rw [hq] at he
        clear hb HNE HST HALL
        go_wp2_with fail
        refine wp_region_keep HK.out (by kernel_rfl) (by kernel_rfl) (by first | exact HO.out | exact HK.out.drew HO.out) ?_
        intro C hin hout
        have HIN := hide3 hin
        have HOUT := hide3 hout
        clear hin hout HO
        repeat
          (with_reducible refine wpQuiet_step (fun K hK => ?_)
           go_simp
           first
             | (refine hK _ ?_; clear hK K)
             | (apply Exists.intro; refine ⟨fun w1 hC => ?_, hK _ ?_⟩; (focus ((first | (exact rfl) | (obtain ⟨hb1, ⟨⟨p0, p1, p2, p3, p4, p5⟩, p6⟩, ⟨⟨q0, q1, q2, q3, q4, q5⟩, q6⟩⟩ := HOUT.out w1 hC; clear hC; go_simp; first | done | exact rfl)); done)); clear hK K))
        refine wpQuiet_nil ?_
        intro wn hC
        have HO := hide3 (HOUT.out _ hC)
        clear hC HIN HOUT C
        obtain ⟨hb1, ⟨⟨p0, p1, p2, p3, p4, p5⟩, p6⟩, ⟨⟨q0, q1, q2, q3, q4, q5⟩, q6⟩⟩ := HO.out
        go_wp2
        go_ret
        exact ⟨ret_bool HR.out.symm, HO.out.1⟩
      · have HR := hide3 (HST.out hq)
        rw [hq] at he
        clear hb HNE HST HALL
        go_wp2_with fail
        refine wp_region_keep HK.out (by kernel_rfl) (by kernel_rfl) (by first | exact HO.out | exact HK.out.drew HO.out) ?_
        intro C hin hout
        have HIN := hide3 hin
        have HOUT := hide3 hout
        clear hin hout HO
        repeat
          (with_reducible refine wpQuiet_step (fun K hK => ?_)
           go_simp
           first
             | (refine hK _ ?_; clear hK K)
             | (apply Exists.intro; refine ⟨fun w1 hC => ?_, hK _ ?_⟩; (focus ((first | (exact rfl) | (obtain ⟨hb1, ⟨⟨p0, p1, p2, p3, p4, p5⟩, p6⟩, ⟨⟨q0, q1, q2, q3, q4, q5⟩, q6⟩⟩ := HOUT.out w1 hC; clear hC; go_simp; first | done | exact rfl)); done)); clear hK K))
        refine wpQuiet_nil ?_
        intro wn hC
        have HO := hide3 (HOUT.out _ hC)
        clear hC HIN HOUT C
        obtain ⟨hb1, ⟨⟨p0, p1, p2, p3, p4, p5⟩, p6⟩, ⟨⟨q0, q1, q2, q3, q4, q5⟩, q6⟩⟩ := HO.out
        go_wp2
        exact ⟨⟨k + 1, by omega, by go_num, HO.out.1, HR.out⟩, by simp [intOf]; omega⟩
    · have hke : k = A.length := by omega
      subst hke
      have HR : Hid (eqB A B = true) := eqB_yes (List.ext_getElem HAB.out fun j h1 h2 => HALL.out j h1 h1 h2)
      clear hb
      go_wp2
      go_ret
      exact ⟨ret_bool HR.out.symm, HB.out⟩

theorem rSpans_nil (ad bd : Option Addr) (ca cb : Nat) (w : World) :
    Calls Tryz.prog 62 #[.slice ad 0 ca, .slice bd 0 cb] w fun e w' => e = .returned (.bool true) ∧ Below w.heap.size w w' := by
  go_enter Tryz.func62, Tryz.ntmps62
  go_wp2_with fail
  go_loop [5] (fun i => i = .int .i64 0) (fun _ => 0)
  case atStart => rfl
  case round =>
    subst hrel
    go_wp2
    go_ret
    exact ⟨rfl, Below.refl _ _⟩

theorem rSpans_len (ad bd : Option Addr) (n m ca cb : Nat) (h : n ≠ m) (w : World) :
    Calls Tryz.prog 62 #[.slice ad n ca, .slice bd m cb] w fun e w' => e = .returned (.bool false) ∧ Below w.heap.size w w' := by
  have hn : ((n : Int) = (m : Int)) = False := by simp; omega
  go_enter Tryz.func62, Tryz.ntmps62
  go_wp2
  go_ret
  exact ⟨rfl, Below.refl _ _⟩

theorem rSpans_any {A B : List Sp} {va vb : Value} {w : World} (ha : SpansAt w va A) (hb : SpansAt w vb B) (hsz : A.length ≤ 9223372036854775807) :
    Calls Tryz.prog 62 #[va, vb] w fun e w' => e = .returned (.bool (eqB A B)) ∧ Below w.heap.size w w' := by
  obtain ⟨ad, ca, rfl, hl⟩ := ha
  obtain ⟨bd, cb, rfl, hm⟩ := hb
  by_cases hn : A.length = B.length
  · rcases hl with rfl | ⟨ga, oa, rfl, hga, hla⟩
    · obtain rfl : B = [] := List.eq_nil_of_length_eq_zero (by simpa using hn.symm)
      rw [eqB_yes rfl]
      exact rSpans_nil _ _ _ _ w
    · rcases hm with rfl | ⟨gb, ob, rfl, hgb, hlb⟩
      · obtain rfl : A = [] := List.eq_nil_of_length_eq_zero (by simpa using hn)
        rw [eqB_yes rfl]
        exact rSpans_nil _ _ _ _ w
      · exact rSpans_walk A B hn hsz ga oa ca gb ob cb w hga hgb hla hlb
  · rw [eqB_no fun e => hn (by rw [e])]
    exact rSpans_len _ _ _ _ _ _ hn w

set_option maxHeartbeats 3200000 in
theorem rDeps_walk (A B : List Dp) (hAB : A.length = B.length) (hsz : A.length ≤ 9223372036854775807) (ga oa ca gb ob cb : Nat) (w : World) (hla : ∀ i (h : i < A.length), ∃ u, DpIn w ga (oa + i * 2) A[i] u) (hlb : ∀ i (h : i < B.length), ∃ u, DpIn w gb (ob + i * 2) B[i] u) :
    Calls Tryz.prog 36 #[.slice (some ⟨ga, oa, none⟩) A.length ca, .slice (some ⟨gb, ob, none⟩) B.length cb] w fun e w' => e = .returned (.bool (eqB A B)) ∧ Below w.heap.size w w' := by
  have HL : Hid (∀ w1, Below w.heap.size w w1 → ∀ i (h : i < A.length) (h2 : i < B.length), (∃ u, DpIn w1 ga (oa + i * 2) A[i] u) ∧ ∃ u, DpIn w1 gb (ob + i * 2) B[i] u) := fun w1 hb i hi hi2 => ⟨(hla i hi).imp fun u h => h.below hb, (hlb i hi2).imp fun u h => h.below hb⟩
  have HAB := hide3 hAB
  clear hla hlb
  rw [← hAB]
  clear hAB
  go_enter Tryz.func36, Tryz.ntmps36
  go_wp2_with fail
  go_loopw [5] (fun i wr => ∃ k : Nat, k ≤ A.length ∧ i = .int .i64 k ∧ Below w.heap.size w wr ∧ ∀ j (h : j < k) (h1 : j < A.length) (h2 : j < B.length), A[j] = B[j]) (fun i _ => A.length - (intOf i).toNat)
  case atStart => exact ⟨0, Nat.zero_le _, rfl, Below.refl _ _, fun j h => by omega⟩
  case round =>
    obtain ⟨k, hk, rfl, hb, hall⟩ := hrel
    have HALL := hide3 hall
    have HB := hide3 hb
    clear hall
    by_cases hlt : k < A.length
    · have hltB : k < B.length := HAB.out ▸ hlt
      obtain ⟨⟨u, hu⟩, ⟨v, hv⟩⟩ := HL.out wr hb k hlt hltB
      have HO : Hid (Below w.heap.size w wr ∧ DpIn wr ga (oa + k * 2) A[k] u ∧ DpIn wr gb (ob + k * 2) B[k] v) := ⟨hb, hu, hv⟩
      have HK : Hid (KeepP fun w1 => Below w.heap.size w w1 ∧ DpIn w1 ga (oa + k * 2) A[k] u ∧ DpIn w1 gb (ob + k * 2) B[k] v) := (keepBelow w).and ((keepDp _ _ _ _).and (keepDp _ _ _ _))
      have HC : Hid (∀ w1, (Below w.heap.size w w1 ∧ DpIn w1 ga (oa + k * 2) A[k] u ∧ DpIn w1 gb (ob + k * 2) B[k] v) → Calls Tryz.prog 62 #[u, v] w1 fun x w' => x = .returned (.bool (eqB A[k].rg B[k].rg)) ∧ Below w1.heap.size w1 w') := fun w1 h => rSpans_any h.2.1.2.2.1.1.1 h.2.2.2.2.1.1.1 h.2.1.2.2.1.2
      have HNE : Hid (A[k] ≠ B[k] → eqB A B = false) := fun h => eqB_no fun e => by subst e; exact h rfl
      have HST : Hid (A[k] = B[k] → ∀ j (h : j < k + 1) (h1 : j < A.length) (h2 : j < B.length), A[j] = B[j]) := fun h j hj h1 h2 => by
        rcases Nat.lt_or_ge j k with hjk | hjk
        · exact HALL.out j hjk h1 h2
        · obtain rfl : j = k := by omega
          exact h
      obtain ⟨au, cu, rfl⟩ := hu.2.2.1.1.1.sl
      obtain ⟨av, cv, rfl⟩ := hv.2.2.1.1.1.sl
      clear hu hv
      generalize A[k] = d at *
      generalize B[k] = e at *
      obtain ⟨n, r⟩ := d
      obtain ⟨m, q⟩ := e
      simp only at *
      by_cases hn : n = m
      · subst hn
        have hq : (n.toList == n.toList) = true := by simp
        cases hr : eqB r q
        · have HR := hide3 (HNE.out fun e => by injection e with _ e2; rw [eqB_yes e2] at hr; cases hr)
          rw [hr] at HC
          clear hb HNE HST HALL hr
          go_wp2_with fail
          refine wp_region_keep HK.out (by kernel_rfl) (by kernel_rfl) (by first | exact HO.out | exact HK.out.drew HO.out) ?_
          intro C hin hout
          have HIN := hide3 hin
          have HOUT := hide3 hout
          clear hin hout HO
          repeat
            (with_reducible refine wpQuiet_step (fun K hK => ?_)
             go_simp
             first
               | (refine hK _ ?_; clear hK K)
               | (apply Exists.intro; refine ⟨fun w1 hC => ?_, hK _ ?_⟩; (focus ((first | (go_at_call 62; with_reducible exact callC' HIN.out HOUT.out HK.out HC.out w1 hC) | (exact rfl) | (obtain ⟨hb1, ⟨p0, p1, ph, p3⟩, ⟨q0, q1, qh, q3⟩⟩ := HOUT.out w1 hC; clear hC; go_simp; first | done | exact rfl)); done)); clear hK K))
          refine wpQuiet_nil ?_
          intro wn hC
          have HO := hide3 (HOUT.out _ hC)
          clear hC HIN HOUT C
          obtain ⟨hb1, ⟨p0, p1, ph, p3⟩, ⟨q0, q1, qh, q3⟩⟩ := HO.out
          go_wp2
          go_ret
          exact ⟨ret_bool HR.out.symm, HO.out.1⟩
        · have HR := hide3 (HST.out (by rw [eqB_iff.1 hr]))
          rw [hr] at HC
          clear hb HNE HST HALL hr
          go_wp2_with fail
          refine wp_region_keep HK.out (by kernel_rfl) (by kernel_rfl) (by first | exact HO.out | exact HK.out.drew HO.out) ?_
          intro C hin hout
          have HIN := hide3 hin
          have HOUT := hide3 hout
          clear hin hout HO
          repeat
            (with_reducible refine wpQuiet_step (fun K hK => ?_)
             go_simp
             first
               | (refine hK _ ?_; clear hK K)
               | (apply Exists.intro; refine ⟨fun w1 hC => ?_, hK _ ?_⟩; (focus ((first | (go_at_call 62; with_reducible exact callC' HIN.out HOUT.out HK.out HC.out w1 hC) | (exact rfl) | (obtain ⟨hb1, ⟨p0, p1, ph, p3⟩, ⟨q0, q1, qh, q3⟩⟩ := HOUT.out w1 hC; clear hC; go_simp; first | done | exact rfl)); done)); clear hK K))
          refine wpQuiet_nil ?_
          intro wn hC
          have HO := hide3 (HOUT.out _ hC)
          clear hC HIN HOUT C
          obtain ⟨hb1, ⟨p0, p1, ph, p3⟩, ⟨q0, q1, qh, q3⟩⟩ := HO.out
          go_wp2
          exact ⟨⟨k + 1, by omega, by go_num, HO.out.1, HR.out⟩, by simp [intOf]; omega⟩
      · have HR := hide3 (HNE.out fun e => hn (by injection e))
        have hq : (n.toList == m.toList) = false := beq_eq_false_iff_ne.2 fun e => hn (bytes_same e)
        clear hb HNE HST HALL HC
        go_wp2_with fail
        refine wp_region_keep HK.out (by kernel_rfl) (by kernel_rfl) (by first | exact HO.out | exact HK.out.drew HO.out) ?_
        intro C hin hout
        have HIN := hide3 hin
        have HOUT := hide3 hout
        clear hin hout HO
        repeat
          (with_reducible refine wpQuiet_step (fun K hK => ?_)
           go_simp
           first
             | (refine hK _ ?_; clear hK K)
             | (apply Exists.intro; refine ⟨fun w1 hC => ?_, hK _ ?_⟩; (focus ((first | (exact rfl) | (obtain ⟨hb1, ⟨p0, p1, ph, p3⟩, ⟨q0, q1, qh, q3⟩⟩ := HOUT.out w1 hC; clear hC; go_simp; first | done | exact rfl)); done)); clear hK K))
        refine wpQuiet_nil ?_
        intro wn hC
        have HO := hide3 (HOUT.out _ hC)
        clear hC HIN HOUT C
        obtain ⟨hb1, ⟨p0, p1, ph, p3⟩, ⟨q0, q1, qh, q3⟩⟩ := HO.out
        go_wp2
        go_ret
        exact ⟨ret_bool HR.out.symm, HO.out.1⟩
    · have hke : k = A.length := by omega
      subst hke
      have HR : Hid (eqB A B = true) := eqB_yes (List.ext_getElem HAB.out fun j h1 h2 => HALL.out j h1 h1 h2)
      clear hb
      go_wp2
      go_ret
      exact ⟨ret_bool HR.out.symm, HB.out⟩

theorem rDeps_nil (ad bd : Option Addr) (ca cb : Nat) (w : World) :
    Calls Tryz.prog 36 #[.slice ad 0 ca, .slice bd 0 cb] w fun e w' => e = .returned (.bool true) ∧ Below w.heap.size w w' := by
  go_enter Tryz.func36, Tryz.ntmps36
  go_wp2_with fail
  go_loop [5] (fun i => i = .int .i64 0) (fun _ => 0)
  case atStart => rfl
  case round =>
    subst hrel
    go_wp2
    go_ret
    exact ⟨rfl, Below.refl _ _⟩

theorem rDeps_len (ad bd : Option Addr) (n m ca cb : Nat) (h : n ≠ m) (w : World) :
    Calls Tryz.prog 36 #[.slice ad n ca, .slice bd m cb] w fun e w' => e = .returned (.bool false) ∧ Below w.heap.size w w' := by
  have hn : ((n : Int) = (m : Int)) = False := by simp; omega
  go_enter Tryz.func36, Tryz.ntmps36
  go_wp2
  go_ret
  exact ⟨rfl, Below.refl _ _⟩

theorem rDeps_any {A B : List Dp} {va vb : Value} {w : World} (ha : DepsAt w va A) (hb : DepsAt w vb B) (hsz : A.length ≤ 9223372036854775807) :
    Calls Tryz.prog 36 #[va, vb] w fun e w' => e = .returned (.bool (eqB A B)) ∧ Below w.heap.size w w' := by
  obtain ⟨ad, ca, rfl, _, hl⟩ := ha
  obtain ⟨bd, cb, rfl, _, hm⟩ := hb
  by_cases hn : A.length = B.length
  · rcases hl with rfl | ⟨ga, oa, rfl, hga, hla⟩
    · obtain rfl : B = [] := List.eq_nil_of_length_eq_zero (by simpa using hn.symm)
      rw [eqB_yes rfl]
      exact rDeps_nil _ _ _ _ w
    · rcases hm with rfl | ⟨gb, ob, rfl, hgb, hlb⟩
      · obtain rfl : A = [] := List.eq_nil_of_length_eq_zero (by simpa using hn)
        rw [eqB_yes rfl]
        exact rDeps_nil _ _ _ _ w
      · exact rDeps_walk A B hn hsz ga oa ca gb ob cb w hla hlb
  · rw [eqB_no fun e => hn (by rw [e])]
    exact rDeps_len _ _ _ _ _ _ hn w
end Go.Proofs.YthlipnnlgkmhcaaGreatDoor
