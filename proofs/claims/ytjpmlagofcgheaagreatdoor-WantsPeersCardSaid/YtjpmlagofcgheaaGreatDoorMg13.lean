/- Ct17, Ct18, Ct19, Ct21, RwC, laid in one text. -/
import Derived.Test.YtjpmlagofcgheaaGreatDoorMg12
namespace Go.Proofs.YtjpmlagofcgheaaGreatDoor
open Go.RowKit Go.Maps Go.WideMaps
set_option maxRecDepth 100000

theorem infoPg : (Tryz.prog.info? 34).map (fun i => (i.zero, i.size, i.bytes)) = some (some (.agg #[.string ⟨#[]⟩, .int .i64 0, .int .i64 0, .int .i64 0, .slice none 0 0, .slice none 0 0, .slice none 0 0]), 7, 112) := by kernel_rfl
def encG (x : CV) : List Value := [.string x.pg.nm, .int .i64 x.pg.a, .int .i64 x.pg.b, .int .i64 x.pg.c, x.u1, x.u2, x.u3]
/-- Packages in a row of one's own. -/
def OwnA (w : World) (B : Nat) (v : Value) (xs : List CV) : Prop := w.ownsRow B 34 7 v xs.length (xs.flatMap encG) ∧ ∀ x ∈ xs, OwnG w B x.pg x.u1 x.u2 x.u3
theorem OwnA.nil (w : World) (B : Nat) : OwnA w B (.slice none 0 0) [] := ⟨⟨rfl, Or.inl ⟨rfl, rfl⟩⟩, fun x hx => by cases hx⟩
theorem OwnA.len {w : World} {B : Nat} {v : Value} {xs : List CV} (h : OwnA w B v xs) : ∃ ad cap, v = .slice ad xs.length cap := by
  rcases h.1.2 with ⟨rfl, hn⟩ | ⟨g, cap, cur, rfl, _⟩
  · exact ⟨none, 0, by rw [hn]⟩
  · exact ⟨_, _, rfl⟩
theorem OwnA.below {w w' : World} {B : Nat} {v : Value} {xs : List CV} (h : OwnA w B v xs) (hb : Below w.heap.size w w') : OwnA w' B v xs := ⟨own_below h.1 hb, fun x hx => (h.2 x hx).below hb⟩
theorem OwnA.base {w : World} {B B' : Nat} {v : Value} {xs : List CV} (h : OwnA w B v xs) (hB : B' ≤ B) : OwnA w B' v xs := ⟨own_base h.1 hB, fun x hx => (h.2 x hx).base hB⟩
theorem OwnD.kept {w w' : World} {B B' : Nat} {v v' : Value} {ps : List (Dp × Value)} {n' : Nat} {ys : List Value} (h : OwnD w B v ps) (hr : w.ownsRow B' 34 7 v' n' ys) (hg : w.grownBy w' v'.ownBlock) : OwnD w' B v ps := ⟨World.ownsRow.kept h.1 hg (own_apart h.1 hr (by decide)), fun p hp => World.ownsRow.kept (h.2 p hp) hg (own_apart (h.2 p hp) hr (by decide))⟩
theorem OwnG.kept {w w' : World} {B B' : Nat} {P : Pg} {v1 v2 v3 v' : Value} {n' : Nat} {ys : List Value} (h : OwnG w B P v1 v2 v3) (hr : w.ownsRow B' 34 7 v' n' ys) (hg : w.grownBy w' v'.ownBlock) : OwnG w' B P v1 v2 v3 := by
  obtain ⟨q1, q2, q3, ⟨d1, m1⟩, ⟨d2, m2⟩, d3, m3⟩ := h
  exact ⟨q1, q2, q3, ⟨d1.kept hr hg, m1⟩, ⟨d2.kept hr hg, m2⟩, d3.kept hr hg, m3⟩
theorem OwnA.snoc {W w1 : World} {B : Nat} {vo v1 : Value} {xs : List CV} {x : CV} (h : OwnA W B vo xs) (hx : OwnG W B x.pg x.u1 x.u2 x.u3) (ho : w1.ownsRow B 34 7 v1 (xs.length + 1) (xs.flatMap encG ++ encG x)) (hg : W.grownBy w1 vo.ownBlock) : OwnA w1 B v1 (xs ++ [x]) := by
  refine ⟨?_, fun y hy => ?_⟩
  · have q1 : (xs ++ [x]).length = xs.length + 1 := by simp
    have q2 : (xs ++ [x]).flatMap encG = xs.flatMap encG ++ encG x := by simp
    rw [q1, q2]
    exact ho
  · rcases List.mem_append.1 hy with hy | hy
    · exact (h.2 y hy).kept h.1 hg
    · obtain rfl := List.mem_singleton.1 hy
      exact hx.kept h.1 hg
theorem cat_self {L : List CV} (hP : L.Pairwise fun x y => keyC x ≠ keyC y) {x : CV} (hx : x ∈ L) : catC L x.pg.nm x.pg.a x.pg.b x.pg.c = some x := by
  unfold catC
  cases hf : L.find? (isAt x.pg.nm x.pg.a x.pg.b x.pg.c) with
  | none => exact absurd (decide_eq_true ⟨rfl, rfl, rfl, rfl⟩) (List.find?_eq_none.1 hf x hx)
  | some y =>
    have hy := List.mem_of_find?_eq_some hf
    have hp : y.pg.nm = x.pg.nm ∧ y.pg.a = x.pg.a ∧ y.pg.b = x.pg.b ∧ y.pg.c = x.pg.c := by
      have q := List.find?_some hf
      exact of_decide_eq_true q
    have hk : keyC y = keyC x := by unfold keyC; rw [hp.1, hp.2.1, hp.2.2.1, hp.2.2.2]
    by_cases e : y = x
    · rw [e]
    · obtain ⟨i, hi, rfl⟩ := List.getElem_of_mem hx
      obtain ⟨j, hj, rfl⟩ := List.getElem_of_mem hy
      rw [List.pairwise_iff_getElem] at hP
      rcases Nat.lt_trichotomy i j with h | h | h
      · exact absurd hk.symm (hP i j hi hj h)
      · subst h; exact absurd rfl e
      · exact absurd hk (hP j i hj hi h)
theorem encC_at (l : List CV) (i : Nat) (h : i < l.length) : (l.flatMap encC)[i * 4]? = some (.string l[i].pg.nm) ∧ (l.flatMap encC)[i * 4 + 1]? = some (.int .i64 l[i].pg.a) ∧ (l.flatMap encC)[i * 4 + 2]? = some (.int .i64 l[i].pg.b) ∧ (l.flatMap encC)[i * 4 + 3]? = some (.int .i64 l[i].pg.c) := by
  haveI : Inhabited CV := ⟨l[i]⟩
  have h0 := flatMap_get encC 4 (fun _ => rfl) l i 0 h (by decide)
  have h1 := flatMap_get encC 4 (fun _ => rfl) l i 1 h (by decide)
  have h2 := flatMap_get encC 4 (fun _ => rfl) l i 2 h (by decide)
  have h3 := flatMap_get encC 4 (fun _ => rfl) l i 3 h (by decide)
  rw [getElem!_pos l i h] at h0 h1 h2 h3
  exact ⟨h0, h1, h2, h3⟩
theorem pins_cells {w : World} {B : Nat} {v : Value} {ts : List CV} (h : w.ownsRow B 58 4 v ts.length (ts.flatMap encC)) (i : Nat) (hi : i < ts.length) : ∃ g cap, g < w.heap.size ∧ v = .slice (some ⟨g, 0, none⟩) ts.length cap ∧ w.cell? ⟨g, i * 4, none⟩ = some (.string ts[i].pg.nm) ∧ w.cell? ⟨g, i * 4 + 1, none⟩ = some (.int .i64 ts[i].pg.a) ∧ w.cell? ⟨g, i * 4 + 2, none⟩ = some (.int .i64 ts[i].pg.b) ∧ w.cell? ⟨g, i * 4 + 3, none⟩ = some (.int .i64 ts[i].pg.c) := by
  rcases h.2 with ⟨_, hn⟩ | ⟨g, cap, cur, rfl, hB, hgg, _, _, _, ht⟩
  · omega
  · obtain ⟨e0, e1, e2, e3⟩ := encC_at ts i hi
    have q : ∀ j, ∀ u, (ts.flatMap encC)[j]? = some u → w.cell? ⟨g, j, none⟩ = some u := fun j u hj => by
      have e : w.cell? ((⟨g, 0, none⟩ : Addr).add j) = some u := World.news_of_block hgg j u (by
        rw [← ht] at hj
        by_cases h : j < ts.length * 4
        · rw [List.getElem?_take_of_lt h] at hj
          exact hj
        · rw [List.getElem?_take_eq_none (by omega)] at hj
          cases hj)
      have e2 : (⟨g, 0, none⟩ : Addr).add j = ⟨g, j, none⟩ := by unfold Addr.add; split <;> simp_all
      rw [e2] at e
      exact e
    exact ⟨g, cap, (Array.getElem?_eq_some_iff.1 hgg).1, rfl, q _ _ e0, q _ _ e1, q _ _ e2, q _ _ e3⟩
theorem look_one {w : World} {B C M : Nat} {L : List CV} (h : CatAt w B C M L) {x : CV} (hx : x ∈ L) : (Instr.lookup 72 (.map (some M)) (.agg #[.string x.pg.nm, .int .i64 x.pg.a, .int .i64 x.pg.b, .int .i64 x.pg.c]) false).run Tryz.prog w = .ok (cvV x) w := by
  have hk := h.keys x hx
  obtain ⟨v, ps, h1, h2⟩ := h.2.1.lookup keyedPin Tryz.underlying72 (zeroPg w) (zd := .held zPg) (zp := []) rfl (keyOf_pin hk.1 hk.2.1 hk.2.2.1 hk.2.2.2)
  rw [key_at h.keys hk, cat_self h.2.2.2 hx] at h2
  have e := heldR_inv h2
  unfold pinV at h1
  rw [h1, e]

/-- What All answers. -/
def AllQ (L : List CV) (w : World) (v : Value) (w' : World) : Prop := ∃ xs ts, ToldA L ts ∧ xs.map (·.pg) = ts.map (·.pg) ∧ OwnA w' w.heap.size v xs ∧ Below w.heap.size w w'

set_option maxHeartbeats 12800000 in
theorem all_any {w : World} {B C M : Nat} {L : List CV} (h : CatAt w B C M L) (hlen : L.length ≤ 1000000) : Calls Tryz.prog 22 #[.pointer (some ⟨C, 0, none⟩)] w fun e w' => ∃ v, e = .returned v ∧ AllQ L w v w' := by
  have kc := h.1.1
  have HC := hide3 h
  have HKM : Hid (∀ W, Calls Tryz.prog 46 #[.map (some M)] W fun e w' => e = .returned (.func (.func 82) #[] #[.pointer (some ⟨W.heap.size, 0, none⟩)]) ∧ w' = W.alloc (.cells #[.map (some M)] 72)) := keys_made _
  have HSF : Hid (Calls Tryz.prog 45 #[.func (.func 82) #[] #[.pointer (some ⟨w.heap.size, 0, none⟩)], .func (.func 47) #[] #[]] (w.alloc (.cells #[.map (some M)] 72)) fun e w' => ∃ (v : Value) (ts : List CV), e = .returned v ∧ ToldA L ts ∧ w'.ownsRow (w.alloc (.cells #[.map (some M)] 72)).heap.size 58 4 v ts.length (ts.flatMap encC) ∧ Below (w.alloc (.cells #[.map (some M)] 72)).heap.size (w.alloc (.cells #[.map (some M)] 72)) w') := sortedC hlen w.heap.size M L.length h.keys h.2.2.2 _ (by simp) (by simp) (ownsMapH_below h.2.1 (boxB _ _))
  have HCP : Hid (∀ (W : World) (P : Pg) (v1 v2 v3 : Value), PgAt W P v1 v2 v3 → SmP P → Calls Tryz.prog 35 #[.agg #[.string P.nm, .int .i64 P.a, .int .i64 P.b, .int .i64 P.c, v1, v2, v3]] W fun e w' => ∃ u1 u2 u3, e = .returned (.agg #[.string P.nm, .int .i64 P.a, .int .i64 P.b, .int .i64 P.c, u1, u2, u3]) ∧ OwnG w' W.heap.size P u1 u2 u3 ∧ Below W.heap.size W w') := fun W P v1 v2 v3 hp hs => copied_any hp hs
  clear h
  go_enter Tryz.func22, Tryz.ntmps22
  go_wp2_with (first
    | (go_at_call 46; refine (HKM.out _).mono ?_; rintro e w1 ⟨rfl, rfl⟩; clear HKM)
    | (go_at_call 45; refine HSF.out.mono ?_; rintro e w2 ⟨vt, ts, rfl, htd, hot, hb⟩; have HTD := hide3 htd; have HOT := hide3 hot; have HB2 := hide3 (below_then (boxB _ _) hb); obtain ⟨a0, k0, hvt⟩ : ∃ a k, vt = .slice a ts.length k := (by rcases hot.2 with ⟨e, hn⟩ | ⟨g, cap, cur, e, _⟩; exact ⟨none, 0, by rw [hn]; exact e⟩; exact ⟨_, _, e⟩); subst hvt; clear htd hot hb HSF))
  have htl : ts.length ≤ 1000000 := by have := HTD.out.1.length_eq; omega
  have HC2 := hide3 (HC.out.below HB2.out)
  have HPW := hide3 HC.out.2.2.2
  clear kc
  go_loopw [3, 13] (fun vo vi wr => ∃ (k : Nat) (xs : List CV), k ≤ ts.length ∧ vi = .int .i64 k ∧ xs.map (·.pg) = (ts.take k).map (·.pg) ∧ OwnA wr w2.heap.size vo xs ∧ Below w2.heap.size w2 wr) (fun _ vi _ => ts.length - (intOf vi).toNat)
  case atStart => exact ⟨0, [], Nat.zero_le _, rfl, rfl, OwnA.nil _ _, Below.refl _ _⟩
  case round =>
    obtain ⟨k, xs, hk, rfl, hxs, hoa, hb⟩ := hrel
    have HXS := hide3 hxs
    have HOA := hide3 hoa
    have HB := hide3 hb
    obtain ⟨ao, co, rfl⟩ := hoa.len
    have hxl : xs.length ≤ 1000000 := by
      have := congrArg List.length hxs
      rw [List.length_map, List.length_map, List.length_take] at this
      omega
    clear hxs hoa hb
    by_cases hlt : k < ts.length
    · have hki : (k : Int) < (ts.length : Int) := by omega
      obtain ⟨g, cap, hgl, hvt, c0, c1, c2, c3⟩ := pins_cells HOT.out k hlt
      injection hvt with ha0 _ hc0
      subst ha0
      subst hc0
      have hxL : ts[k] ∈ L := HTD.out.1.mem_iff.1 (List.getElem_mem hlt)
      have HTK : Hid (ts.take (k + 1) = ts.take k ++ [ts[k]]) := List.take_succ_eq_append_getElem hlt
      obtain ⟨x, hx⟩ : ∃ x, x = ts[k] := ⟨_, rfl⟩
      rw [← hx] at c0 c1 c2 c3 hxL HTK
      have d0 := (HB.out.cell (p := ⟨g, k * 4, none⟩) hgl).trans c0
      have d1 := (HB.out.cell (p := ⟨g, k * 4 + 1, none⟩) hgl).trans c1
      have d2 := (HB.out.cell (p := ⟨g, k * 4 + 2, none⟩) hgl).trans c2
      have d3 := (HB.out.cell (p := ⟨g, k * 4 + 3, none⟩) hgl).trans c3
      clear hx c0 c1 c2 c3
      have HOG : Hid (OwnG w B x.pg x.u1 x.u2 x.u3) := (HC.out.2.2.1 x hxL).1.1
      have HSM : Hid (SmP x.pg) := (HC.out.2.2.1 x hxL).2.2
      obtain ⟨d1', m1, o1, hu1⟩ := own_sl1 HOG.out
      obtain ⟨d2', m2, o2, hu2⟩ := own_sl2 HOG.out
      obtain ⟨d3', m3, o3, hu3⟩ := own_sl3 HOG.out
      have HLK : Hid (∀ W, CatAt W B C M L → (Instr.lookup 72 (.map (some M)) (.agg #[.string x.pg.nm, .int .i64 x.pg.a, .int .i64 x.pg.b, .int .i64 x.pg.c]) false).run Tryz.prog W = .ok (.agg #[.string x.pg.nm, .int .i64 x.pg.a, .int .i64 x.pg.b, .int .i64 x.pg.c, .slice d1' m1 o1, .slice d2' m2 o2, .slice d3' m3 o3]) W) := fun W hW => by
        have e := look_one hW hxL
        rw [cvV, hu1, hu2, hu3] at e
        exact e
      have HCQ : Hid (∀ W, Below w2.heap.size w2 W → Calls Tryz.prog 35 #[.agg #[.string x.pg.nm, .int .i64 x.pg.a, .int .i64 x.pg.b, .int .i64 x.pg.c, .slice d1' m1 o1, .slice d2' m2 o2, .slice d3' m3 o3]] W fun e w' => ∃ u1 u2 u3, e = .returned (.agg #[.string x.pg.nm, .int .i64 x.pg.a, .int .i64 x.pg.b, .int .i64 x.pg.c, u1, u2, u3]) ∧ OwnG w' W.heap.size x.pg u1 u2 u3 ∧ Below W.heap.size W w') := fun W hb => by
        have e := HCP.out W x.pg _ _ _ ((HOG.out.below HB2.out).below hb).at HSM.out
        rw [hu1, hu2, hu3] at e
        exact e
      clear hu1 hu2 hu3 hxL
      have HKD : Hid (∀ a b, (((Below w2.heap.size w2 a ∧ CatAt a B C M L) ∧ OwnA a w2.heap.size (.slice ao xs.length co) xs) ∧ (a.cell? ⟨wr.heap.size, 0, none⟩ = some (.string x.pg.nm) ∧ a.cell? ⟨wr.heap.size, 1, none⟩ = some (.int .i64 x.pg.a) ∧ a.cell? ⟨wr.heap.size, 2, none⟩ = some (.int .i64 x.pg.b) ∧ a.cell? ⟨wr.heap.size, 3, none⟩ = some (.int .i64 x.pg.c) ∧ wr.heap.size < a.heap.size)) → Below a.heap.size a b → ((Below w2.heap.size w2 b ∧ CatAt b B C M L) ∧ OwnA b w2.heap.size (.slice ao xs.length co) xs) ∧ (b.cell? ⟨wr.heap.size, 0, none⟩ = some (.string x.pg.nm) ∧ b.cell? ⟨wr.heap.size, 1, none⟩ = some (.int .i64 x.pg.a) ∧ b.cell? ⟨wr.heap.size, 2, none⟩ = some (.int .i64 x.pg.b) ∧ b.cell? ⟨wr.heap.size, 3, none⟩ = some (.int .i64 x.pg.c) ∧ wr.heap.size < b.heap.size)) := fun a b hx hab => ⟨⟨⟨below_then hx.1.1.1 hab, hx.1.1.2.below hab⟩, hx.1.2.below hab⟩, (hab.cell (p := ⟨wr.heap.size, 0, none⟩) hx.2.2.2.2.2).trans hx.2.1, (hab.cell (p := ⟨wr.heap.size, 1, none⟩) hx.2.2.2.2.2).trans hx.2.2.1, (hab.cell (p := ⟨wr.heap.size, 2, none⟩) hx.2.2.2.2.2).trans hx.2.2.2.1, (hab.cell (p := ⟨wr.heap.size, 3, none⟩) hx.2.2.2.2.2).trans hx.2.2.2.2.1, Nat.lt_of_lt_of_le hx.2.2.2.2.2 hab.size⟩
      have HO1 : Hid (((Below w2.heap.size w2 (wr.alloc (.cells #[.string x.pg.nm, .int .i64 x.pg.a, .int .i64 x.pg.b, .int .i64 x.pg.c] 58)).drew ∧ CatAt (wr.alloc (.cells #[.string x.pg.nm, .int .i64 x.pg.a, .int .i64 x.pg.b, .int .i64 x.pg.c] 58)).drew B C M L) ∧ OwnA (wr.alloc (.cells #[.string x.pg.nm, .int .i64 x.pg.a, .int .i64 x.pg.b, .int .i64 x.pg.c] 58)).drew w2.heap.size (.slice ao xs.length co) xs) ∧ ((wr.alloc (.cells #[.string x.pg.nm, .int .i64 x.pg.a, .int .i64 x.pg.b, .int .i64 x.pg.c] 58)).drew.cell? ⟨wr.heap.size, 0, none⟩ = some (.string x.pg.nm) ∧ (wr.alloc (.cells #[.string x.pg.nm, .int .i64 x.pg.a, .int .i64 x.pg.b, .int .i64 x.pg.c] 58)).drew.cell? ⟨wr.heap.size, 1, none⟩ = some (.int .i64 x.pg.a) ∧ (wr.alloc (.cells #[.string x.pg.nm, .int .i64 x.pg.a, .int .i64 x.pg.b, .int .i64 x.pg.c] 58)).drew.cell? ⟨wr.heap.size, 2, none⟩ = some (.int .i64 x.pg.b) ∧ (wr.alloc (.cells #[.string x.pg.nm, .int .i64 x.pg.a, .int .i64 x.pg.b, .int .i64 x.pg.c] 58)).drew.cell? ⟨wr.heap.size, 3, none⟩ = some (.int .i64 x.pg.c) ∧ wr.heap.size < (wr.alloc (.cells #[.string x.pg.nm, .int .i64 x.pg.a, .int .i64 x.pg.b, .int .i64 x.pg.c] 58)).drew.heap.size)) := HKD.out _ _ (⟨⟨⟨below_then HB.out (boxB _ _), HC2.out.below (below_then HB.out (boxB _ _))⟩, HOA.out.below (boxB _ _)⟩, by simp, by simp, by simp, by simp, by simp⟩ : ((Below w2.heap.size w2 (wr.alloc (.cells #[.string x.pg.nm, .int .i64 x.pg.a, .int .i64 x.pg.b, .int .i64 x.pg.c] 58)) ∧ CatAt (wr.alloc (.cells #[.string x.pg.nm, .int .i64 x.pg.a, .int .i64 x.pg.b, .int .i64 x.pg.c] 58)) B C M L) ∧ OwnA (wr.alloc (.cells #[.string x.pg.nm, .int .i64 x.pg.a, .int .i64 x.pg.b, .int .i64 x.pg.c] 58)) w2.heap.size (.slice ao xs.length co) xs) ∧ ((wr.alloc (.cells #[.string x.pg.nm, .int .i64 x.pg.a, .int .i64 x.pg.b, .int .i64 x.pg.c] 58)).cell? ⟨wr.heap.size, 0, none⟩ = some (.string x.pg.nm) ∧ (wr.alloc (.cells #[.string x.pg.nm, .int .i64 x.pg.a, .int .i64 x.pg.b, .int .i64 x.pg.c] 58)).cell? ⟨wr.heap.size, 1, none⟩ = some (.int .i64 x.pg.a) ∧ (wr.alloc (.cells #[.string x.pg.nm, .int .i64 x.pg.a, .int .i64 x.pg.b, .int .i64 x.pg.c] 58)).cell? ⟨wr.heap.size, 2, none⟩ = some (.int .i64 x.pg.b) ∧ (wr.alloc (.cells #[.string x.pg.nm, .int .i64 x.pg.a, .int .i64 x.pg.b, .int .i64 x.pg.c] 58)).cell? ⟨wr.heap.size, 3, none⟩ = some (.int .i64 x.pg.c) ∧ wr.heap.size < (wr.alloc (.cells #[.string x.pg.nm, .int .i64 x.pg.a, .int .i64 x.pg.b, .int .i64 x.pg.c] 58)).heap.size)) (Below.refl _ _).drew
      have HFN : Hid (∀ (w5 w6 : World) (v1 : Value) p1 q1 r1 p2 q2 r2 p3 q3 r3, (((Below w2.heap.size w2 w5 ∧ CatAt w5 B C M L) ∧ OwnA w5 w2.heap.size (.slice ao xs.length co) xs) ∧ (w5.cell? ⟨wr.heap.size, 0, none⟩ = some (.string x.pg.nm) ∧ w5.cell? ⟨wr.heap.size, 1, none⟩ = some (.int .i64 x.pg.a) ∧ w5.cell? ⟨wr.heap.size, 2, none⟩ = some (.int .i64 x.pg.b) ∧ w5.cell? ⟨wr.heap.size, 3, none⟩ = some (.int .i64 x.pg.c) ∧ wr.heap.size < w5.heap.size)) → OwnG w5 w2.heap.size x.pg (.slice p1 q1 r1) (.slice p2 q2 r2) (.slice p3 q3 r3) → w6.ownsRow w2.heap.size 34 7 v1 (xs.length + 1) (xs.flatMap encG ++ #[.string x.pg.nm, .int .i64 x.pg.a, .int .i64 x.pg.b, .int .i64 x.pg.c, .slice p1 q1 r1, .slice p2 q2 r2, .slice p3 q3 r3].toList) → w5.grownBy w6 (Value.slice ao xs.length co).ownBlock → OwnA w6 w2.heap.size v1 (xs ++ [⟨x.pg, .slice p1 q1 r1, .slice p2 q2 r2, .slice p3 q3 r3⟩]) ∧ (xs ++ [(⟨x.pg, .slice p1 q1 r1, .slice p2 q2 r2, .slice p3 q3 r3⟩ : CV)]).map (·.pg) = (ts.take (k + 1)).map (·.pg) ∧ Below w2.heap.size w2 w6) := fun w5 w6 v1 p1 q1 r1 p2 q2 r2 p3 q3 r3 hk hog ho hg => ⟨OwnA.snoc hk.1.2 (x := ⟨x.pg, .slice p1 q1 r1, .slice p2 q2 r2, .slice p3 q3 r3⟩) hog ho hg, by rw [HTK.out, List.map_append, List.map_append, HXS.out]; rfl, hk.1.1.1.grown hg hk.1.1.1.size (fun j hj => (World.ownsRow.lt hk.1.2.1 j hj).1)⟩
      obtain ⟨b0, b1, b2, b3, _⟩ := HO1.out.2
      have kc := HO1.out.1.1.2.1.1
      have lk := HLK.out _ HO1.out.1.1.2
      go_wp2_with fail
      generalize (wr.alloc (.cells #[.string x.pg.nm, .int .i64 x.pg.a, .int .i64 x.pg.b, .int .i64 x.pg.c] 58)) = W1 at *
      go_region_held3 (fun w' => w'.cell? ⟨C, 0, none⟩ = some (.map (some M)) ∧ w'.cell? ⟨wr.heap.size, 0, none⟩ = some (.string x.pg.nm) ∧ w'.cell? ⟨wr.heap.size, 1, none⟩ = some (.int .i64 x.pg.a) ∧ w'.cell? ⟨wr.heap.size, 2, none⟩ = some (.int .i64 x.pg.b) ∧ w'.cell? ⟨wr.heap.size, 3, none⟩ = some (.int .i64 x.pg.c)) (go_keep) (first
        | (go_at_call 35; refine (HCQ.out _ HO1.out.1.1.1).mono ?_; rintro e w5 ⟨u1, u2, u3, rfl, ho, hb⟩; have HO5 := hide3 (HKD.out _ _ HO1.out hb); have HG5 := hide3 (ho.base HO1.out.1.1.1.size); obtain ⟨p1, q1, r1, hs1⟩ := own_sl1 ho; obtain ⟨p2, q2, r2, hs2⟩ := own_sl2 ho; obtain ⟨p3, q3, r3, hs3⟩ := own_sl3 ho; subst hs1; subst hs2; subst hs3; obtain ⟨y0, y1, y2, y3, hy⟩ := HO5.out.2; have yc := HO5.out.1.1.2.1.1; have hB5 : w2.heap.size ≤ w5.heap.size := HO5.out.1.1.1.size; have HNE : Hid (some wr.heap.size ≠ (Value.slice ao xs.length co).ownBlock) := (fun e => by have := (World.ownsRow.lt HOA.out.1 _ e.symm).2; omega); have HNC : Hid (some C ≠ (Value.slice ao xs.length co).ownBlock) := (fun e => by have := (World.ownsRow.lt HOA.out.1 _ e.symm).1; have := HC2.out.1.2.1; omega); clear ho hb)
        | (refine step_own (B := w2.heap.size) (M := w5.heap.size) (wx := w5) (v := .slice ao xs.length co) infoPg Tryz.underlying22 rfl (by decide) (by decide) rfl (.tmp 17) (.tmp 25) rfl rfl HO5.out.1.2.1 hB5 #[.string x.pg.nm, .int .i64 x.pg.a, .int .i64 x.pg.b, .int .i64 x.pg.c, .slice p1 q1 r1, .slice p2 q2 r2, .slice p3 q3 r3] rfl (by simp [Value.oneCell']) rfl rfl (by omega) ?_; intro v1 w6 ho hgr hat; have HP := hide3 (HFN.out _ _ _ _ _ _ _ _ _ _ _ _ HO5.out HG5.out ho (grown_pre (boxB _ _) hgr)); obtain ⟨g7, cap7, hv7⟩ := HP.out.1.len; subst hv7; have z0 := (grown_pre (boxB _ _) hgr).cell y0 HNE.out; have z1 := (grown_pre (boxB _ _) hgr).cell y1 HNE.out; have z2 := (grown_pre (boxB _ _) hgr).cell y2 HNE.out; have z3 := (grown_pre (boxB _ _) hgr).cell y3 HNE.out; have zc := (grown_pre (boxB _ _) hgr).cell yc HNC.out; clear ho hgr hat))
      all_goals go_wp2
      all_goals exact ⟨⟨k + 1, _, by omega, by go_num, HP.out.2.1, by first | exact HP.out.1 | (have e := HP.out.1; rw [List.length_append] at e; exact e), HP.out.2.2⟩, by simp [intOf]; omega⟩
    · obtain rfl : k = ts.length := by omega
      have hki : ¬ ((ts.length : Int) < (ts.length : Int)) := by omega
      have HXT : Hid (xs.map (·.pg) = ts.map (·.pg)) := by
        unfold Hid
        rw [HXS.out, List.take_length]
      clear HXS
      go_wp2
      go_ret
      exact ⟨_, rfl, xs, ts, HTD.out, HXT.out, HOA.out.base HB2.out.size, below_then HB2.out HB.out⟩
end Go.Proofs.YtjpmlagofcgheaaGreatDoor
namespace Go.Proofs.YtjpmlagofcgheaaGreatDoor
open Go.RowKit Go.Maps Go.WideMaps
set_option maxRecDepth 100000

theorem bxV_new (W : World) (a b c : Int) : BxAt (W.alloc (.cells #[.int .i64 a, .int .i64 b, .int .i64 c] 31)) ⟨W.heap.size, .int .i64 a, .int .i64 b, .int .i64 c⟩ := ⟨by simp, by simp, by simp, by simp⟩
/-- The package of known. -/
def aP : Pg := ⟨⟨#[97]⟩, 1, 0, 0, [], [], []⟩
theorem aP_once : onceB aP = true := by
  unfold onceB onceL
  exact @decide_eq_true _ (Classical.propDecidable _) List.nodup_nil
theorem aP_text : textP aP = [112, 97, 99, 107, 97, 103, 101, 32, 97, 32, 49, 46, 48, 46, 48, 10] := by
  unfold textP listT
  rw [show aP.d = [] from rfl, show aP.p = [] from rfl, show aP.o = [] from rfl]
  unfold lineB
  rw [show textV aP.a aP.b aP.c = ⟨#[49, 46, 48, 46, 48]⟩ by decide +kernel]
  rfl
theorem aP_w : writtenB aP = true := by
  unfold writtenB soundB
  rw [aP_once, aP_text]
  decide +kernel
theorem aP_key : KeyOk aP.nm aP.a aP.b aP.c := ⟨by decide, by unfold I64; decide, by unfold I64; decide, by unfold I64; decide⟩
theorem aP_at (w : World) : PgAt w aP (.slice none 0 0) (.slice none 0 0) (.slice none 0 0) := ⟨⟨none, 0, rfl, Nat.le_refl _, Or.inl rfl⟩, ⟨none, 0, rfl, Nat.le_refl _, Or.inl rfl⟩, ⟨none, 0, rfl, Nat.le_refl _, Or.inl rfl⟩⟩
theorem aP_cat (u1 u2 u3 : Value) : catC [⟨aP, u1, u2, u3⟩] aP.nm aP.a aP.b aP.c = some ⟨aP, u1, u2, u3⟩ := by
  unfold catC isAt
  rw [List.find?_cons, decide_eq_true ⟨rfl, rfl, rfl, rfl⟩]
theorem aP_told {u1 u2 u3 : Value} {ts : List Vn} (h : Told [⟨aP, u1, u2, u3⟩] ⟨#[97]⟩ ts) : ts = [⟨1, 0, 0⟩] := by
  have e : verL ⟨#[97]⟩ [⟨aP, u1, u2, u3⟩] = [⟨1, 0, 0⟩] := by
    unfold verL
    rw [List.filter_cons, if_pos (show isNm ⟨#[97]⟩ ⟨aP, u1, u2, u3⟩ = true from decide_eq_true rfl)]
    rfl
  have := h.1
  rw [e] at this
  exact List.perm_singleton.1 this
theorem all_in : inB (allR.map spR) ⟨1, 0, 0⟩ = true := by decide +kernel
theorem aP_cand {u1 u2 u3 : Value} {ts : List Vn} (h : Told [⟨aP, u1, u2, u3⟩] ⟨#[97]⟩ ts) : candV (allR.map spR) ⟨#[97]⟩ [] ts = [⟨1, 0, 0⟩] := by
  rw [aP_told h]
  unfold candV fstV othV
  simp [all_in, pinB, cntP]
theorem own_one {w : World} {B : Nat} {v : Value} {x : Vn} (h : OwnV w B v [x]) : ∃ g cap, v = .slice (some ⟨g, 0, none⟩) 1 cap ∧ BxAt w ⟨g, .int .i64 x.a, .int .i64 x.b, .int .i64 x.c⟩ := by
  obtain ⟨g, _, hg, ⟨cap, e⟩, c0, c1, c2⟩ := h.cells 0 (by simp)
  exact ⟨g, cap, e, by simpa using c0, by simpa using c1, by simpa using c2, hg⟩
theorem cat_one {w : World} {B C M : Nat} {P : Pg} {L : List CV} {u1 u2 u3 : Value} (hp : L.Perm [⟨P, u1, u2, u3⟩]) (h : CatAt w B C M L) : CatAt w B C M [⟨P, u1, u2, u3⟩] := by
  rw [← List.perm_singleton.1 hp]
  exact h

set_option maxHeartbeats 6400000 in
theorem known_ct {w : World} (he : Env w) (hf : FL w) : Calls Tryz.prog 8 #[] w fun e w' => e = .returned (.bool true) ∧ Below w.heap.size w w' := by
  have HNW : Hid (Calls Tryz.prog 7 #[] w fun e w' => e = .returned (.pointer (some ⟨w.heap.size + 1, 0, none⟩)) ∧ w' = ((w.alloc (.map #[] 0)).alloc (.cells #[.map (some w.heap.size)] 74))) := new_any w
  have HB0 : Hid (Below w.heap.size w (((w.alloc (.map #[] 0)).alloc (.cells #[.map (some w.heap.size)] 74)).alloc (.cells #[.int .i64 1, .int .i64 0, .int .i64 0] 31))) := (boxB2 w (.map #[] 0) (.cells #[.map (some w.heap.size)] 74)).trans ((boxB _ _).mono (by simp; omega))
  have HPT : Hid (Calls Tryz.prog 10 #[.pointer (some ⟨w.heap.size + 1, 0, none⟩), .agg #[.string ⟨#[97]⟩, .int .i64 1, .int .i64 0, .int .i64 0, .slice none 0 0, .slice none 0 0, .slice none 0 0]] (((w.alloc (.map #[] 0)).alloc (.cells #[.map (some w.heap.size)] 74)).alloc (.cells #[.int .i64 1, .int .i64 0, .int .i64 0] 31)) fun e w' => e = .returned (.int .i64 0) ∧ ∃ u1 u2 u3 L', L'.Perm [⟨aP, u1, u2, u3⟩] ∧ CatAt w' w.heap.size (w.heap.size + 1) w.heap.size L' ∧ (((w.alloc (.map #[] 0)).alloc (.cells #[.map (some w.heap.size)] 74)).alloc (.cells #[.int .i64 1, .int .i64 0, .int .i64 0] 31)).grownBy w' (some w.heap.size)) :=
    put_ok (P := aP) ((CatAt.new w w.heap.size).below (boxB _ _)) (aP_at _) (he.below HB0.out) (hf.below HB0.out) HB0.out.size aP_key aP_w rfl (by decide)
  have HGT : Hid (∀ W u1 u2 u3, CatAt W w.heap.size (w.heap.size + 1) w.heap.size [⟨aP, u1, u2, u3⟩] → Calls Tryz.prog 13 #[.pointer (some ⟨w.heap.size + 1, 0, none⟩), .string ⟨#[97]⟩, .agg #[.int .i64 1, .int .i64 0, .int .i64 0]] W fun e w' => ∃ v1 v2 v3, e = .returned (.tuple #[.agg #[.string ⟨#[97]⟩, .int .i64 1, .int .i64 0, .int .i64 0, v1, v2, v3], .bool true]) ∧ OwnG w' W.heap.size aP v1 v2 v3 ∧ Below W.heap.size W w') := fun W u1 u2 u3 hc => get_some (P := aP) hc (aP_cat _ _ _)
  have HAL : Hid (∀ W, Calls Tryz.prog 31 #[] W fun e w' => ∃ v, e = .returned v ∧ SpansR w' v allR ∧ Below W.heap.size W w') := rAll_rg
  have HCD : Hid (∀ W u1 u2 u3 v, CatAt W w.heap.size (w.heap.size + 1) w.heap.size [⟨aP, u1, u2, u3⟩] → SpansR W v allR → Calls Tryz.prog 19 #[.pointer (some ⟨w.heap.size + 1, 0, none⟩), .string ⟨#[97]⟩, v, .slice none 0 0] W fun e w' => ∃ g cap, e = .returned (.slice (some ⟨g, 0, none⟩) 1 cap) ∧ BxAt w' ⟨g, .int .i64 1, .int .i64 0, .int .i64 0⟩ ∧ Below W.heap.size W w') := fun W u1 u2 u3 v hc hv => by
    refine (cands_any hc (by simp) ⟨#[97]⟩ hv.at (ps := []) ⟨none, 0, rfl, Nat.le_refl _, Or.inl rfl⟩ (by decide) (fun p hp => by cases hp)).mono ?_
    rintro e w' ⟨v', ts, rfl, ht, ho, hb⟩
    rw [aP_cand ht] at ho
    obtain ⟨g, cap, e, hbx⟩ := own_one ho
    exact ⟨g, cap, by rw [e], hbx, hb⟩
  have HAA : Hid (∀ W u1 u2 u3, CatAt W w.heap.size (w.heap.size + 1) w.heap.size [⟨aP, u1, u2, u3⟩] → Calls Tryz.prog 22 #[.pointer (some ⟨w.heap.size + 1, 0, none⟩)] W fun e w' => ∃ a c, e = .returned (.slice a 1 c) ∧ Below W.heap.size W w') := fun W u1 u2 u3 hc => by
    refine (all_any hc (by simp)).mono ?_
    rintro e w' ⟨v, rfl, xs, ts, ht, hx, ho, hb⟩
    obtain ⟨a, c, e⟩ := ho.len
    have hl : xs.length = 1 := by
      have h1 := congrArg List.length hx
      rw [List.length_map, List.length_map, ht.1.length_eq] at h1
      exact h1
    rw [hl] at e
    exact ⟨a, c, by rw [e], hb⟩
  have HBX : Hid (BxAt (((w.alloc (.map #[] 0)).alloc (.cells #[.map (some w.heap.size)] 74)).alloc (.cells #[.int .i64 1, .int .i64 0, .int .i64 0] 31)) ⟨w.heap.size + 2, .int .i64 1, .int .i64 0, .int .i64 0⟩) := by
    have e : ((w.alloc (.map #[] 0)).alloc (.cells #[.map (some w.heap.size)] 74)).heap.size = w.heap.size + 2 := by simp
    have q : BxAt (((w.alloc (.map #[] 0)).alloc (.cells #[.map (some w.heap.size)] 74)).alloc (.cells #[.int .i64 1, .int .i64 0, .int .i64 0] 31)) ⟨((w.alloc (.map #[] 0)).alloc (.cells #[.map (some w.heap.size)] 74)).heap.size, .int .i64 1, .int .i64 0, .int .i64 0⟩ := bxV_new _ _ _ _
    rw [e] at q
    exact q
  have hev := eqlV 1 0 0 1 0 0
  have hgv := guardV
  rw [decide_eq_true ⟨rfl, rfl, rfl⟩] at hev
  clear he hf
  go_enter Tryz.func8, Tryz.ntmps8
  go_wp2_with (first
    | (go_at_call 7; refine HNW.out.mono ?_; rintro e w1 ⟨rfl, rfl⟩; clear HNW)
    | (go_at_call 10; refine HPT.out.mono ?_; rintro e w3 ⟨rfl, u1, u2, u3, L', hp, hc, hg⟩; have HK3 : Hid ((CatAt w3 w.heap.size (w.heap.size + 1) w.heap.size [⟨aP, u1, u2, u3⟩] ∧ Below w.heap.size w w3) ∧ BxAt w3 ⟨w.heap.size + 2, .int .i64 1, .int .i64 0, .int .i64 0⟩) := ⟨⟨cat_one hp hc, HB0.out.grown hg HB0.out.size (fun j hj => by cases hj; exact Nat.le_refl _)⟩, (World.cell?_of_block (a := ⟨w.heap.size + 2, 0, none⟩) (hg.block (w.heap.size + 2) (by simp) (fun q => by have := Option.some.inj q; omega))).trans HBX.out.1, (World.cell?_of_block (a := ⟨w.heap.size + 2, 1, none⟩) (hg.block (w.heap.size + 2) (by simp) (fun q => by have := Option.some.inj q; omega))).trans HBX.out.2.1, (World.cell?_of_block (a := ⟨w.heap.size + 2, 2, none⟩) (hg.block (w.heap.size + 2) (by simp) (fun q => by have := Option.some.inj q; omega))).trans HBX.out.2.2.1, Nat.lt_of_lt_of_le HBX.out.2.2.2 hg.size⟩; clear hp hc hg HPT HBX; obtain ⟨k0, k1, k2, _⟩ := HK3.out.2)
    | (go_at_call 13; refine (HGT.out _ _ _ _ HK3.out.1.1).mono ?_; rintro e w4 ⟨v1, v2, v3, rfl, ho, hb⟩; obtain ⟨p1, q1, r1, hs1⟩ := own_sl1 ho; obtain ⟨p2, q2, r2, hs2⟩ := own_sl2 ho; obtain ⟨p3, q3, r3, hs3⟩ := own_sl3 ho; subst hs1; subst hs2; subst hs3; have HKD : Hid (∀ a b, ((CatAt a w.heap.size (w.heap.size + 1) w.heap.size [⟨aP, u1, u2, u3⟩] ∧ Below w.heap.size w a) ∧ BxAt a ⟨w.heap.size + 2, .int .i64 1, .int .i64 0, .int .i64 0⟩) → Below a.heap.size a b → (CatAt b w.heap.size (w.heap.size + 1) w.heap.size [⟨aP, u1, u2, u3⟩] ∧ Below w.heap.size w b) ∧ BxAt b ⟨w.heap.size + 2, .int .i64 1, .int .i64 0, .int .i64 0⟩) := (fun a b hx hab => ⟨⟨hx.1.1.below hab, below_then hx.1.2 hab⟩, keepV3 _ _ _ hx.2 hab⟩); have HK4 := hide3 (HKD.out _ _ (HKD.out _ _ HK3.out hb) (boxB w4 (.cells #[.string ⟨#[97]⟩, .int .i64 1, .int .i64 0, .int .i64 0, .slice p1 q1 r1, .slice p2 q2 r2, .slice p3 q3 r3] 34))); have e0 : (w4.alloc (.cells #[.string ⟨#[97]⟩, .int .i64 1, .int .i64 0, .int .i64 0, .slice p1 q1 r1, .slice p2 q2 r2, .slice p3 q3 r3] 34)).cell? ⟨w4.heap.size, 0, none⟩ = some (.string ⟨#[97]⟩) := (by simp); have el : w4.heap.size < (w4.alloc (.cells #[.string ⟨#[97]⟩, .int .i64 1, .int .i64 0, .int .i64 0, .slice p1 q1 r1, .slice p2 q2 r2, .slice p3 q3 r3] 34)).heap.size := (by simp); have HE4 : Hid ((((CatAt (w4.alloc (.cells #[.string ⟨#[97]⟩, .int .i64 1, .int .i64 0, .int .i64 0, .slice p1 q1 r1, .slice p2 q2 r2, .slice p3 q3 r3] 34)) w.heap.size (w.heap.size + 1) w.heap.size [⟨aP, u1, u2, u3⟩] ∧ Below w.heap.size w (w4.alloc (.cells #[.string ⟨#[97]⟩, .int .i64 1, .int .i64 0, .int .i64 0, .slice p1 q1 r1, .slice p2 q2 r2, .slice p3 q3 r3] 34))) ∧ BxAt (w4.alloc (.cells #[.string ⟨#[97]⟩, .int .i64 1, .int .i64 0, .int .i64 0, .slice p1 q1 r1, .slice p2 q2 r2, .slice p3 q3 r3] 34)) ⟨w.heap.size + 2, .int .i64 1, .int .i64 0, .int .i64 0⟩) ∧ ((w4.alloc (.cells #[.string ⟨#[97]⟩, .int .i64 1, .int .i64 0, .int .i64 0, .slice p1 q1 r1, .slice p2 q2 r2, .slice p3 q3 r3] 34)).cell? ⟨w4.heap.size, 0, none⟩ = some (.string ⟨#[97]⟩) ∧ w4.heap.size < (w4.alloc (.cells #[.string ⟨#[97]⟩, .int .i64 1, .int .i64 0, .int .i64 0, .slice p1 q1 r1, .slice p2 q2 r2, .slice p3 q3 r3] 34)).heap.size))) := ⟨HK4.out, e0, el⟩; clear ho hb k0 k1 k2 el HK3 HGT)
    | (go_at_call 31; refine (HAL.out _).mono ?_; rintro e w5 ⟨va, rfl, hsp, hb⟩; have HED : Hid (∀ a b, ((((CatAt a w.heap.size (w.heap.size + 1) w.heap.size [⟨aP, u1, u2, u3⟩] ∧ Below w.heap.size w a) ∧ BxAt a ⟨w.heap.size + 2, .int .i64 1, .int .i64 0, .int .i64 0⟩) ∧ (a.cell? ⟨w4.heap.size, 0, none⟩ = some (.string ⟨#[97]⟩) ∧ w4.heap.size < a.heap.size))) → Below a.heap.size a b → (((CatAt b w.heap.size (w.heap.size + 1) w.heap.size [⟨aP, u1, u2, u3⟩] ∧ Below w.heap.size w b) ∧ BxAt b ⟨w.heap.size + 2, .int .i64 1, .int .i64 0, .int .i64 0⟩) ∧ (b.cell? ⟨w4.heap.size, 0, none⟩ = some (.string ⟨#[97]⟩) ∧ w4.heap.size < b.heap.size))) := (fun a b hx hab => ⟨HKD.out _ _ hx.1 hab, (hab.cell (p := ⟨w4.heap.size, 0, none⟩) hx.2.2).trans hx.2.1, Nat.lt_of_lt_of_le hx.2.2 hab.size⟩); have HE5 := hide3 (HED.out _ _ HE4.out hb); have HSP := hide3 hsp; clear hsp hb e0)
    | (go_at_call 19; refine (HCD.out _ _ _ _ _ HE5.out.1.1.1 HSP.out).mono ?_; rintro e w6 ⟨g, cap, rfl, hbx, hb⟩; have HE6 := hide3 (HED.out _ _ HE5.out hb); have HBL := hide3 hbx; clear hbx hb))
  obtain ⟨j0, j1, j2, hjl⟩ := HBL.out
  obtain ⟨⟨_, k0, k1, k2, hkl⟩, e0, hel⟩ := HE6.out
  have hi1 : (0 : Int) < 1 := by decide
  go_region_held3 (fun w' => w'.cell? ⟨w4.heap.size, 0, none⟩ = some (.string ⟨#[97]⟩) ∧ w'.cell? ⟨g, 0, none⟩ = some (.int .i64 1) ∧ w'.cell? ⟨g, 1, none⟩ = some (.int .i64 0) ∧ w'.cell? ⟨g, 2, none⟩ = some (.int .i64 0) ∧ w'.cell? ⟨w.heap.size + 2, 0, none⟩ = some (.int .i64 1) ∧ w'.cell? ⟨w.heap.size + 2, 1, none⟩ = some (.int .i64 0) ∧ w'.cell? ⟨w.heap.size + 2, 2, none⟩ = some (.int .i64 0)) (go_keep) (first
    | (go_at_call 22; refine (HAA.out _ _ _ _ (HE6.out.1.1.1.below (Below.refl _ _).drew)).mono ?_; rintro e w7 ⟨aa, ca, rfl, hb⟩; have HB7 : Hid (Below w.heap.size w w7) := below_then HE6.out.1.1.2 (below_then (Below.refl _ _).drew hb); have hq := below_then (Below.refl w6.heap.size w6).drew hb; have f0 := (hq.cell (p := ⟨w4.heap.size, 0, none⟩) hel).trans e0; have g0 := (hq.cell (p := ⟨g, 0, none⟩) hjl).trans j0; have g1 := (hq.cell (p := ⟨g, 1, none⟩) hjl).trans j1; have g2 := (hq.cell (p := ⟨g, 2, none⟩) hjl).trans j2; have h0 := (hq.cell (p := ⟨w.heap.size + 2, 0, none⟩) hkl).trans k0; have h1 := (hq.cell (p := ⟨w.heap.size + 2, 1, none⟩) hkl).trans k1; have h2 := (hq.cell (p := ⟨w.heap.size + 2, 2, none⟩) hkl).trans k2; clear hb hq))
  all_goals go_wp2
  all_goals go_ret
  all_goals exact ⟨rfl, HB7.out⟩
end Go.Proofs.YtjpmlagofcgheaaGreatDoor
namespace Go.Proofs.YtjpmlagofcgheaaGreatDoor
open Go.RowKit Go.Maps Go.WideMaps
set_option maxRecDepth 100000

/-- A name at the version of a rank. -/
def pgN (s : ByteArray) (n : Int) : Pg := ⟨s, atA n, atB n, atC n, [], [], []⟩
theorem bare_written {s : ByteArray} {a b c x y z : Int} (h : writtenB ⟨s, a, b, c, [], [], []⟩ = true) (hm : mayV x y z = true) : writtenB ⟨s, x, y, z, [], [], []⟩ = true := by
  unfold writtenB soundB at h ⊢
  simp only [Bool.and_eq_true, decide_eq_true_eq] at h ⊢
  obtain ⟨⟨⟨⟨hn, _⟩, hl⟩, ho⟩, _⟩ := h
  refine ⟨⟨⟨⟨hn, hm⟩, hl⟩, ho⟩, ?_⟩
  have h1 : s.data.toList.length ≤ 16 := by
    unfold Sc.nameA at hn
    simp only [Bool.and_eq_true, decide_eq_true_eq] at hn
    exact hn.2
  have h2 : (textV x y z).data.toList.length ≤ 11 := by
    have := text_size x y z
    rw [Array.length_toList]
    exact this
  unfold textP listT lineB
  simp only [List.flatMap_nil, List.append_nil, List.length_append, List.length_cons, List.length_nil]
  have h3 : (⟨#[112, 97, 99, 107, 97, 103, 101]⟩ : ByteArray).data.toList.length = 7 := rfl
  omega
theorem bare_name {s : ByteArray} {a b c : Int} (h : writtenB ⟨s, a, b, c, [], [], []⟩ = true) : s.size ≤ 16 := by
  unfold writtenB soundB at h
  simp only [Bool.and_eq_true, decide_eq_true_eq] at h
  have hn := h.1.1.1.1
  unfold Sc.nameA at hn
  simp only [Bool.and_eq_true, decide_eq_true_eq] at hn
  have e : s.size = s.data.toList.length := by rw [Array.length_toList]; rfl
  rw [e]
  exact hn.2
theorem small_i64 {a : Int} (h0 : 0 ≤ a) (h1 : a ≤ 999) : I64 a := WalkArith.wf_i64 (by omega)
theorem may_i64 {a b c : Int} (h : mayV a b c = true) : I64 a ∧ I64 b ∧ I64 c := by
  unfold mayV partB at h
  simp only [Bool.and_eq_true, decide_eq_true_eq] at h
  exact ⟨small_i64 h.1.1.1 h.1.1.2, small_i64 h.1.2.1 h.1.2.2, small_i64 h.2.1 h.2.2⟩
theorem has_in {n : Int} (h0 : 0 ≤ n) (h1 : n < 1000000000) : hasV n = true := by
  unfold hasV
  rw [decide_eq_true h0, decide_eq_true h1]
  rfl
theorem pgN_key {s : ByteArray} {n : Int} (hs : s.size ≤ 16) (hn : hasV n = true) : KeyOk (pgN s n).nm (pgN s n).a (pgN s n).b (pgN s n).c := by
  obtain ⟨h1, h2, h3⟩ := may_i64 (may_at hn).1
  exact ⟨by show s.size ≤ maxLen; unfold maxLen; omega, h1, h2, h3⟩
/-- k versions of a name, from a rank on. -/
def Filled (s : ByteArray) (n : Int) (k : Nat) (L : List CV) : Prop := (L.map (·.pg)).Perm ((List.range k).map fun j : Nat => pgN s (n + (j : Int)))
theorem Filled.len {s : ByteArray} {n : Int} {k : Nat} {L : List CV} (h : Filled s n k L) : L.length = k := by
  have := h.length_eq
  rw [List.length_map, List.length_map, List.length_range] at this
  exact this
theorem Filled.mem {s : ByteArray} {n : Int} {k : Nat} {L : List CV} (h : Filled s n k L) {x : CV} (hx : x ∈ L) : ∃ j, j < k ∧ x.pg = pgN s (n + j) := by
  have := h.mem_iff.1 (List.mem_map_of_mem (f := (·.pg)) hx)
  obtain ⟨j, hj, e⟩ := List.mem_map.1 this
  exact ⟨j, List.mem_range.1 hj, e.symm⟩
theorem Filled.none {s : ByteArray} {n : Int} {k : Nat} {L : List CV} (h : Filled s n k L) (h0 : 0 ≤ n) {i : Nat} (hk : k ≤ i) (h1 : n + i < 1000000000) : catC L s (atA (n + i)) (atB (n + i)) (atC (n + i)) = none := by
  unfold catC
  rw [List.find?_eq_none]
  intro x hx q
  obtain ⟨j, hj, e⟩ := h.mem hx
  have hq : x.pg.nm = s ∧ x.pg.a = atA (n + i) ∧ x.pg.b = atB (n + i) ∧ x.pg.c = atC (n + i) := of_decide_eq_true q
  rw [e] at hq
  have r1 := (may_at (has_in (n := n + j) (by omega) (by omega))).2
  have r2 := (may_at (has_in (n := n + i) (by omega) h1)).2
  have e2 : rankV (atA (n + j)) (atB (n + j)) (atC (n + j)) = rankV (atA (n + i)) (atB (n + i)) (atC (n + i)) := by
    have q1 : atA (n + j) = atA (n + i) := hq.2.1
    have q2 : atB (n + j) = atB (n + i) := hq.2.2.1
    have q3 : atC (n + j) = atC (n + i) := hq.2.2.2
    rw [q1, q2, q3]
  rw [r1, r2] at e2
  omega
theorem Filled.some {s : ByteArray} {n : Int} {k : Nat} {L : List CV} (h : Filled s n k L) {j : Nat} (hj : j < k) : ∃ x, catC L s (atA (n + j)) (atB (n + j)) (atC (n + j)) = some x := by
  have hm : pgN s (n + j) ∈ L.map (·.pg) := h.mem_iff.2 (List.mem_map.2 ⟨j, List.mem_range.2 hj, rfl⟩)
  obtain ⟨x, hx, e⟩ := List.mem_map.1 hm
  cases hc : catC L s (atA (n + j)) (atB (n + j)) (atC (n + j)) with
  | some y => exact ⟨y, rfl⟩
  | none =>
    refine absurd ?_ (List.find?_eq_none.1 hc x hx)
    unfold isAt
    rw [decide_eq_true_eq, e]
    exact ⟨rfl, rfl, rfl, rfl⟩
theorem Filled.put {s : ByteArray} {n : Int} {k : Nat} {L L' : List CV} (h : Filled s n k L) {u1 u2 u3 : Value} (hp : L'.Perm (⟨pgN s (n + k), u1, u2, u3⟩ :: L)) : Filled s n (k + 1) L' := by
  unfold Filled
  refine (hp.map (·.pg)).trans ?_
  rw [List.map_cons, List.range_succ, List.map_append]
  refine (List.Perm.cons _ h).trans ?_
  exact (List.perm_append_singleton _ _).symm
theorem Filled.vers {s : ByteArray} {n : Int} {k : Nat} {L : List CV} (h : Filled s n k L) : (verL s L).length = k := by
  unfold verL
  rw [List.length_map, List.filter_eq_self.2, h.len]
  intro x hx
  obtain ⟨j, _, e⟩ := h.mem hx
  unfold isNm
  rw [decide_eq_true_eq, e]
  rfl
/-- A catalog is as it was where something else is written over that is no row of it. -/
theorem own_over {w w' : World} {B N : Nat} {e t : TypeId} {z : Nat} {v : Value} {n : Nat} {xs : List Value} {cs : Array Value} {fr : Nat × Nat} (h : w.ownsRow B e z v n xs) (hN : w.heap[N]? = some (.cells cs t fr)) (hne : t ≠ e) (hg : w.grownBy w' (some N)) : w'.ownsRow B e z v n xs :=
  World.ownsRow.kept h hg (row_other h hN (fun _ q => hne (Obj.cells.inj q).2.1))
theorem OwnG.over {w w' : World} {B N : Nat} {P : Pg} {v1 v2 v3 : Value} {cs : Array Value} {fr : Nat × Nat} {t : TypeId} (h : OwnG w B P v1 v2 v3) (hN : w.heap[N]? = some (.cells cs t fr)) (h1 : t ≠ 70) (h2 : t ≠ 80) (hg : w.grownBy w' (some N)) : OwnG w' B P v1 v2 v3 := by
  obtain ⟨q1, q2, q3, ⟨d1, m1⟩, ⟨d2, m2⟩, d3, m3⟩ := h
  exact ⟨q1, q2, q3, ⟨⟨own_over d1.1 hN h1 hg, fun p hp => own_over (d1.2 p hp) hN h2 hg⟩, m1⟩, ⟨⟨own_over d2.1 hN h1 hg, fun p hp => own_over (d2.2 p hp) hN h2 hg⟩, m2⟩, ⟨own_over d3.1 hN h1 hg, fun p hp => own_over (d3.2 p hp) hN h2 hg⟩, m3⟩
theorem CatAt.over {w w' : World} {B C M N : Nat} {L : List CV} {cs : Array Value} {fr : Nat × Nat} {t : TypeId} (h : CatAt w B C M L) (hN : w.heap[N]? = some (.cells cs t fr)) (h1 : t ≠ 70) (h2 : t ≠ 80) (hC : N ≠ C) (hg : w.grownBy w' (some N)) : CatAt w' B C M L := by
  obtain ⟨⟨a1, a2, a3⟩, a4, a5, a6⟩ := h
  have hM : some M ≠ some N := fun e => by
    obtain rfl := Option.some.inj e
    obtain ⟨es, cl, hm, _⟩ := a4
    rw [hm] at hN
    cases hN
  refine ⟨⟨?_, Nat.lt_of_lt_of_le a2 hg.size, a3⟩, a4.kept hg hM, fun x hx => ⟨⟨(a5 x hx).1.1.over hN h1 h2 hg, (a5 x hx).1.2⟩, (a5 x hx).2⟩, a6⟩
  rw [World.cell?_of_block (a := ⟨C, 0, none⟩) (hg.block C a2 fun q => hC (Option.some.inj q).symm)]
  exact a1
end Go.Proofs.YtjpmlagofcgheaaGreatDoor
namespace Go.Proofs.YtjpmlagofcgheaaGreatDoor
open Go.RowKit Go.Maps Go.WideMaps
set_option maxRecDepth 100000

theorem written_key {P : Pg} (h : writtenB P = true) : KeyOk P.nm P.a P.b P.c := by
  have hs := (small_written h).1
  unfold writtenB soundB at h
  simp only [Bool.and_eq_true] at h
  obtain ⟨h1, h2, h3⟩ := may_i64 h.1.1.1.2
  exact ⟨by unfold maxLen; omega, h1, h2, h3⟩
theorem below_any {w w' : World} {M : Nat} (h : Below w.heap.size w w') : w.grownBy w' (some M) := ⟨h.os, h.tape, h.output, h.size, fun k hk _ => h.block k hk⟩
/-- A package is put in, whatever it is. -/
theorem put_any {w : World} {B C M : Nat} {L : List CV} (h : CatAt w B C M L) (hB : B ≤ w.heap.size) (hl : L.length ≤ 128) {P : Pg} {v1 v2 v3 : Value} (hp : PgAt w P v1 v2 v3) (he : Env w) (hf : FL w) :
    Calls Tryz.prog 10 #[.pointer (some ⟨C, 0, none⟩), .agg #[.string P.nm, .int .i64 P.a, .int .i64 P.b, .int .i64 P.c, v1, v2, v3]] w fun e w' => ∃ r L', e = .returned (.int .i64 r) ∧ CatAt w' B C M L' ∧ L'.length ≤ 128 ∧ w.grownBy w' (some M) := by
  cases hw : writtenB P
  · refine (put_no h hp he hf hw).mono ?_
    rintro e w' ⟨rfl, hb⟩
    exact ⟨_, L, rfl, h.below hb, hl, below_any hb⟩
  · cases hx : catC L P.nm P.a P.b P.c with
    | some x =>
      refine (put_there h hp he hf (written_key hw) hw hx).mono ?_
      rintro e w' ⟨rfl, hb⟩
      exact ⟨_, L, rfl, h.below hb, hl, below_any hb⟩
    | none =>
      by_cases hn : L.length < 128
      · refine (put_ok h hp he hf hB (written_key hw) hw hx hn).mono ?_
        rintro e w' ⟨rfl, u1, u2, u3, L', hp', hc, hg⟩
        refine ⟨_, L', rfl, hc, ?_, hg⟩
        rw [hp'.length_eq, List.length_cons]
        omega
      · refine (put_full h hp he hf (written_key hw) hw hx (by omega)).mono ?_
        rintro e w' ⟨rfl, hb⟩
        exact ⟨_, L, rfl, h.below hb, hl, below_any hb⟩
/-- A package at a place; packages. -/
def PgIn (w : World) (g o : Nat) (P : Pg) (v1 v2 v3 : Value) : Prop := (w.cell? ⟨g, o, none⟩ = some (.string P.nm) ∧ w.cell? ⟨g, o + 1, none⟩ = some (.int .i64 P.a) ∧ w.cell? ⟨g, o + 2, none⟩ = some (.int .i64 P.b) ∧ w.cell? ⟨g, o + 3, none⟩ = some (.int .i64 P.c) ∧ w.cell? ⟨g, o + 4, none⟩ = some v1 ∧ w.cell? ⟨g, o + 5, none⟩ = some v2 ∧ w.cell? ⟨g, o + 6, none⟩ = some v3) ∧ PgAt w P v1 v2 v3 ∧ g < w.heap.size
theorem PgIn.below {w w' : World} {g o : Nat} {P : Pg} {v1 v2 v3 : Value} (h : PgIn w g o P v1 v2 v3) (hb : Below w.heap.size w w') : PgIn w' g o P v1 v2 v3 := by
  obtain ⟨⟨h0, h1, h2, h3, h4, h5, h6⟩, hp, hg⟩ := h
  have q : ∀ i, w'.cell? ⟨g, i, none⟩ = w.cell? ⟨g, i, none⟩ := fun i => hb.cell (p := ⟨g, i, none⟩) hg
  exact ⟨⟨by rw [q]; exact h0, by rw [q]; exact h1, by rw [q]; exact h2, by rw [q]; exact h3, by rw [q]; exact h4, by rw [q]; exact h5, by rw [q]; exact h6⟩, hp.below hb, Nat.lt_of_lt_of_le hg hb.size⟩
def PgsAt (w : World) (v : Value) (L : List Pg) : Prop := ∃ ad cap, v = .slice ad L.length cap ∧ L.length ≤ cap ∧ (L = [] ∨ ∃ g o, ad = some ⟨g, o, none⟩ ∧ ∀ i (h : i < L.length), ∃ v1 v2 v3, PgIn w g (o + i * 7) L[i] v1 v2 v3)
theorem PgsAt.below {w w' : World} {v : Value} {L : List Pg} (h : PgsAt w v L) (hb : Below w.heap.size w w') : PgsAt w' v L := by
  obtain ⟨ad, cap, hv, hc, hl⟩ := h
  refine ⟨ad, cap, hv, hc, hl.imp id ?_⟩
  rintro ⟨g, o, ha, hs⟩
  exact ⟨g, o, ha, fun i hi => by obtain ⟨v1, v2, v3, h⟩ := hs i hi; exact ⟨v1, v2, v3, h.below hb⟩⟩
theorem PgsAt.sl {w : World} {v : Value} {L : List Pg} (h : PgsAt w v L) : ∃ ad cap, v = .slice ad L.length cap ∧ ∀ i (_ : i < L.length), ∃ g o, ad = some ⟨g, o, none⟩ ∧ ∃ v1 v2 v3, PgIn w g (o + i * 7) L[i] v1 v2 v3 := by
  obtain ⟨ad, cap, hv, _, hl⟩ := h
  refine ⟨ad, cap, hv, fun i hi => ?_⟩
  rcases hl with rfl | ⟨g, o, ha, hs⟩
  · cases hi
  · exact ⟨g, o, ha, hs i hi⟩
end Go.Proofs.YtjpmlagofcgheaaGreatDoor
namespace Go.Proofs.YtjpmlagofcgheaaGreatDoor
open Go.ChangeShapes Go.WideShapes Go.ChangeAt Go.RowKit
set_option maxRecDepth 100000

theorem cellsPinC : Tryz.prog.cellsOf 58 = 4 := by kernel_rfl
theorem cellsPinsC : Tryz.prog.cellsOf 40 = 1 := by kernel_rfl
theorem cellsPkgs : Tryz.prog.cellsOf 22 = 1 := by kernel_rfl
theorem intsW {H : Type} {enc : TypeId × Value → H} {W : World} {base : Nat} {spare : Nat → Bool} {held : Bool} {n : Nat} {cs : List Value} {x : DataW H × List MemPlace} (h : DataW.trod enc Tryz.prog W base spare held n 31 cs = some x) :
    ∃ a b c, (cs[0]? = some (.int .i64 a) ∧ cs[1]? = some (.int .i64 b) ∧ cs[2]? = some (.int .i64 c)) ∧ I64 a ∧ I64 b ∧ I64 c := by
  have hs : Tryz.prog.underlying 31 = some (.struct (Tryz.prog.fieldsOf 31)) := by kernel_rfl
  obtain ⟨xs, n', _, hx, _, hxl, hf⟩ := DataW.trod_struct hs h
  have hfz : (Tryz.prog.fieldsOf 31).size = 3 := by kernel_rfl
  have ints : ∀ i off, ((Tryz.prog.fieldsOf 31)[i]?).map (fun f => (f.type, f.offset)) = some (3, off) → i < 3 → ∃ k, cs[off]? = some (.int .i64 k) ∧ I64 k := by
    intro i off hfd hi
    obtain ⟨f, h1, h2, h3⟩ := field_at hfd
    have hr := hf i f h1
    rw [h2, h3, cellsInt, List.getElem?_eq_getElem (by omega : i < xs.length)] at hr
    obtain ⟨k, e1, e2, wk⟩ := DataW.trod_int Tryz.underlying3 hr
    exact ⟨k, take_one e1, wk⟩
  obtain ⟨a, a0, wa⟩ := ints 0 0 (by kernel_rfl) (by decide)
  obtain ⟨b, a1, wb⟩ := ints 1 1 (by kernel_rfl) (by decide)
  obtain ⟨c, a2, wc⟩ := ints 2 2 (by kernel_rfl) (by decide)
  exact ⟨a, b, c, ⟨a0, a1, a2⟩, wa, wb, wc⟩

/-- A pin whose numbers fit. -/
def PnOk (p : Pn) : Prop := I64 p.a ∧ I64 p.b ∧ I64 p.c
theorem pin_read {H : Type} {enc : TypeId × Value → H} {W : World} {base : Nat} {held : Bool} {n : Nat} {g o : Nat} {cs : List Value} {x : DataW H × List MemPlace} (hc : W.cells? base ⟨g, o, none⟩ 4 = some cs) (h : DataW.trod enc Tryz.prog W base (fun _ => true) held n 58 cs = some x) : ∃ d : Pn, PnIn W g o d ∧ PnOk d := by
  have hs : Tryz.prog.underlying 58 = some (.struct (Tryz.prog.fieldsOf 58)) := by kernel_rfl
  obtain ⟨xs, n', _, _, _, hxl, hf⟩ := DataW.trod_struct hs h
  have hsz : (Tryz.prog.fieldsOf 58).size = 2 := by kernel_rfl
  obtain ⟨_, hcl, hq⟩ := World.cells?_some hc
  obtain ⟨f0, i0, t0, o0⟩ := field_at (fs := Tryz.prog.fieldsOf 58) (i := 0) (ty := 9) (off := 0) (by kernel_rfl)
  obtain ⟨f1, i1, t1, o1⟩ := field_at (fs := Tryz.prog.fieldsOf 58) (i := 1) (ty := 31) (off := 1) (by kernel_rfl)
  have r0 := hf 0 f0 i0
  have r1 := hf 1 f1 i1
  rw [t0, o0, cellsStrD, List.getElem?_eq_getElem (by omega : 0 < xs.length)] at r0
  rw [t1, o1, cellsVer, List.getElem?_eq_getElem (by omega : 1 < xs.length)] at r1
  obtain ⟨s, e0, _, hs0⟩ := DataW.trod_string Tryz.underlying9 r0
  obtain ⟨a, b, c, ⟨ea, eb, ec⟩, wa, wb, wc⟩ := intsW r1
  have ka : ((cs.drop 1).take 3)[0]? = some (.int .i64 a) := ea
  have kb : ((cs.drop 1).take 3)[1]? = some (.int .i64 b) := eb
  have kc : ((cs.drop 1).take 3)[2]? = some (.int .i64 c) := ec
  have q0 := hq 0 (by decide)
  have q1 := hq 1 (by decide)
  have q2 := hq 2 (by decide)
  have q3 := hq 3 (by decide)
  have ad : ∀ i, (⟨g, o, none⟩ : Addr).add i = ⟨g, o + i, none⟩ := fun i => by unfold Addr.add; split <;> simp_all
  simp at ka kb kc
  rw [ad, take1 e0] at q0
  rw [ad, ka] at q1
  rw [ad, kb] at q2
  rw [ad, kc] at q3
  exact ⟨⟨s, a, b, c⟩, ⟨⟨q0, q1, q2, q3⟩, cell_in q0⟩, wa, wb, wc⟩
theorem pins_cs {H : Type} {enc : TypeId × Value → H} {W : World} {base fuel : Nat} {held : Bool} {cs : List Value} {x : DataW H × List MemPlace} (h : DataW.trod enc Tryz.prog W base (fun _ => true) held fuel 40 cs = some x) :
    ∃ v L, cs = [v] ∧ PinsAt W v L ∧ L.length ≤ 9223372036854775807 ∧ ∀ d ∈ L, PnOk d := by
  rcases Go.Deep.open_slice Tryz.underlying40 h with ⟨rfl, _⟩ | ⟨ad, len, cap, m, n, D, Pl, rfl, _, hl, hcm, hm, hx, hel⟩
  · exact ⟨_, [], rfl, ⟨none, 0, rfl, Nat.le_refl _, Or.inl rfl⟩, by simp, (fun d hd => by cases hd)⟩
  · have hz : len ≤ 9223372036854775807 := by unfold maxLen at hcm; omega
    rcases Nat.eq_zero_or_pos len with h0 | h0
    · subst h0
      exact ⟨_, [], rfl, ⟨_, _, rfl, Nat.zero_le _, Or.inl rfl⟩, by simp, (fun d hd => by cases hd)⟩
    · have hmm : len ≤ m := by rw [hm]; simp; exact hl
      rw [cellsPinC] at hel
      obtain ⟨g, off, spot⟩ := ad
      obtain ⟨cs0, hc0, _⟩ := hel 0 (by omega)
      obtain ⟨_, hln, hq⟩ := World.cells?_some hc0
      have hcell := hq 0 (by decide)
      rw [List.getElem?_eq_getElem (by omega : 0 < cs0.length)] at hcell
      have hspot : spot = none := by simpa [Addr.add] using World.cell?_spot hcell
      subst hspot
      have ad2 : ∀ o i, (⟨g, o, none⟩ : Addr).add i = ⟨g, o + i, none⟩ := fun o i => by unfold Addr.add; split <;> simp_all
      obtain ⟨L, hL, hP⟩ := list_any (P := fun i (d : Pn) => PnIn W g (off + i * 4) d ∧ PnOk d) (n := len) fun i hi => by
        obtain ⟨cs, hc, ht⟩ := hel i (by omega)
        rw [ad2] at hc
        exact pin_read hc ht
      subst hL
      refine ⟨_, L, rfl, ⟨_, _, rfl, hl, Or.inr ⟨g, off, rfl, ?_, fun i hi => (hP i hi).1⟩⟩, hz, ?_⟩
      · have := cell_in hcell
        rw [ad2, ad2] at this; exact this
      · intro d hd
        obtain ⟨i, hi, rfl⟩ := List.getElem_of_mem hd
        exact (hP i hi).2

/-- A package that came in is not too great. -/
def PgOk (P : Pg) : Prop := (P.d.length ≤ 9223372036854775807 ∧ P.p.length ≤ 9223372036854775807 ∧ P.o.length ≤ 9223372036854775807) ∧ (P.nm.size ≤ 9223372036854775807 ∧ (∀ d ∈ P.d, d.nm.size ≤ 9223372036854775807) ∧ (∀ d ∈ P.p, d.nm.size ≤ 9223372036854775807) ∧ ∀ d ∈ P.o, d.nm.size ≤ 9223372036854775807) ∧ I64 P.a ∧ I64 P.b ∧ I64 P.c
theorem pkg_read {H : Type} {enc : TypeId × Value → H} {W : World} {base : Nat} {held : Bool} {n : Nat} {g o : Nat} {cs : List Value} {x : DataW H × List MemPlace} (hc : W.cells? base ⟨g, o, none⟩ 7 = some cs) (h : DataW.trod enc Tryz.prog W base (fun _ => true) held n 34 cs = some x) : ∃ P : Pg, (∃ v1 v2 v3, PgIn W g o P v1 v2 v3) ∧ PgOk P := by
  have hs : Tryz.prog.underlying 34 = some (.struct (Tryz.prog.fieldsOf 34)) := by kernel_rfl
  obtain ⟨xs, n', _, _, _, hxl, hf⟩ := DataW.trod_struct hs h
  have hfz : (Tryz.prog.fieldsOf 34).size = 5 := by kernel_rfl
  obtain ⟨_, hcl, hq⟩ := World.cells?_some hc
  obtain ⟨f0, i0, t0, o0⟩ := field_at (fs := Tryz.prog.fieldsOf 34) (i := 0) (ty := 9) (off := 0) (by kernel_rfl)
  obtain ⟨f1, i1, t1, o1⟩ := field_at (fs := Tryz.prog.fieldsOf 34) (i := 1) (ty := 31) (off := 1) (by kernel_rfl)
  obtain ⟨f2, i2, t2, o2⟩ := field_at (fs := Tryz.prog.fieldsOf 34) (i := 2) (ty := 32) (off := 4) (by kernel_rfl)
  obtain ⟨f3, i3, t3, o3⟩ := field_at (fs := Tryz.prog.fieldsOf 34) (i := 3) (ty := 32) (off := 5) (by kernel_rfl)
  obtain ⟨f4, i4, t4, o4⟩ := field_at (fs := Tryz.prog.fieldsOf 34) (i := 4) (ty := 32) (off := 6) (by kernel_rfl)
  have r0 := hf 0 f0 i0
  have r1 := hf 1 f1 i1
  have r2 := hf 2 f2 i2
  have r3 := hf 3 f3 i3
  have r4 := hf 4 f4 i4
  rw [t0, o0, cellsStrD, List.getElem?_eq_getElem (by omega : 0 < xs.length)] at r0
  rw [t1, o1, cellsVer, List.getElem?_eq_getElem (by omega : 1 < xs.length)] at r1
  rw [t2, o2, cellsDeps, List.getElem?_eq_getElem (by omega : 2 < xs.length)] at r2
  rw [t3, o3, cellsDeps, List.getElem?_eq_getElem (by omega : 3 < xs.length)] at r3
  rw [t4, o4, cellsDeps, List.getElem?_eq_getElem (by omega : 4 < xs.length)] at r4
  obtain ⟨s, e0, _, hs0⟩ := DataW.trod_string Tryz.underlying9 r0
  obtain ⟨a, b, c, ⟨ea, eb, ec⟩, wa, wb, wc⟩ := intsW r1
  obtain ⟨v1, L1, e2, h1, z1, m1⟩ := deps_cs r2
  obtain ⟨v2, L2, e3, h2, z2, m2⟩ := deps_cs r3
  obtain ⟨v3, L3, e4, h3, z3, m3⟩ := deps_cs r4
  have ka : ((cs.drop 1).take 3)[0]? = some (.int .i64 a) := ea
  have kb : ((cs.drop 1).take 3)[1]? = some (.int .i64 b) := eb
  have kc : ((cs.drop 1).take 3)[2]? = some (.int .i64 c) := ec
  simp at ka kb kc
  have ad : ∀ i, (⟨g, o, none⟩ : Addr).add i = ⟨g, o + i, none⟩ := fun i => by unfold Addr.add; split <;> simp_all
  have q0 := hq 0 (by decide)
  have q1 := hq 1 (by decide)
  have q2 := hq 2 (by decide)
  have q3 := hq 3 (by decide)
  have q4 := hq 4 (by decide)
  have q5 := hq 5 (by decide)
  have q6 := hq 6 (by decide)
  rw [ad, take1 e0] at q0
  rw [ad, ka] at q1
  rw [ad, kb] at q2
  rw [ad, kc] at q3
  rw [ad, take1 e2] at q4
  rw [ad, take1 e3] at q5
  rw [ad, take1 e4] at q6
  exact ⟨⟨s, a, b, c, L1, L2, L3⟩, ⟨v1, v2, v3, ⟨q0, q1, q2, q3, q4, q5, q6⟩, ⟨h1, h2, h3⟩, cell_in q0⟩, ⟨z1, z2, z3⟩, ⟨by unfold maxLen at hs0; exact hs0, m1, m2, m3⟩, wa, wb, wc⟩
/-- Packages that came in. -/
theorem pkgs_cs {H : Type} {enc : TypeId × Value → H} {W : World} {base fuel : Nat} {held : Bool} {cs : List Value} {x : DataW H × List MemPlace} (h : DataW.trod enc Tryz.prog W base (fun _ => true) held fuel 22 cs = some x) :
    ∃ v L, cs = [v] ∧ PgsAt W v L ∧ L.length ≤ 9223372036854775807 ∧ ∀ P ∈ L, PgOk P := by
  rcases Go.Deep.open_slice Tryz.underlying22 h with ⟨rfl, _⟩ | ⟨ad, len, cap, m, n, D, Pl, rfl, _, hl, hcm, hm, hx, hel⟩
  · exact ⟨_, [], rfl, ⟨none, 0, rfl, Nat.le_refl _, Or.inl rfl⟩, by simp, (fun d hd => by cases hd)⟩
  · have hz : len ≤ 9223372036854775807 := by unfold maxLen at hcm; omega
    rcases Nat.eq_zero_or_pos len with h0 | h0
    · subst h0
      exact ⟨_, [], rfl, ⟨_, _, rfl, Nat.zero_le _, Or.inl rfl⟩, by simp, (fun d hd => by cases hd)⟩
    · have hmm : len ≤ m := by rw [hm]; simp; exact hl
      rw [cellsPkg] at hel
      obtain ⟨g, off, spot⟩ := ad
      obtain ⟨cs0, hc0, _⟩ := hel 0 (by omega)
      obtain ⟨_, hln, hq⟩ := World.cells?_some hc0
      have hcell := hq 0 (by decide)
      rw [List.getElem?_eq_getElem (by omega : 0 < cs0.length)] at hcell
      have hspot : spot = none := by simpa [Addr.add] using World.cell?_spot hcell
      subst hspot
      have ad2 : ∀ o i, (⟨g, o, none⟩ : Addr).add i = ⟨g, o + i, none⟩ := fun o i => by unfold Addr.add; split <;> simp_all
      obtain ⟨L, hL, hP⟩ := list_any (P := fun i (d : Pg) => (∃ v1 v2 v3, PgIn W g (off + i * 7) d v1 v2 v3) ∧ PgOk d) (n := len) fun i hi => by
        obtain ⟨cs, hc, ht⟩ := hel i (by omega)
        rw [ad2] at hc
        exact pkg_read hc ht
      subst hL
      refine ⟨_, L, rfl, ⟨_, _, rfl, hl, Or.inr ⟨g, off, rfl, fun i hi => (hP i hi).1⟩⟩, hz, ?_⟩
      intro d hd
      obtain ⟨i, hi, rfl⟩ := List.getElem_of_mem hd
      exact (hP i hi).2
theorem open_pkgs {H : Type} {enc : TypeId × Value → H} {W : World} {base b0 : Nat} {held : Bool} {v : Value} {d : DataW H} {p : List MemPlace} (hv : Value.okWide Tryz.prog W .any b0 22 v) (h : DataW.Trod enc Tryz.prog W base (fun _ => true) held 22 v d p) :
    ∃ L, PgsAt W v L ∧ L.length ≤ 9223372036854775807 ∧ ∀ P ∈ L, PgOk P := by
  obtain ⟨ad, len, cap, rfl⟩ := okWide_slice Tryz.underlying22 hv
  obtain ⟨fuel, hf⟩ := h
  obtain ⟨v, L, e, h1, h2⟩ := pkgs_cs (x := (d, p)) hf
  have e2 : Value.slice ad len cap = v := by simpa [Value.cells] using e
  subst e2
  exact ⟨L, h1, h2⟩

theorem cellsAsk : Tryz.prog.cellsOf 42 = 6 := by kernel_rfl
theorem list6 {α : Type} {l : List α} (h : l.length = 6) : ∃ a b c d e f, l = [a, b, c, d, e, f] := by
  match l, h with
  | [a, b, c, d, e, f], _ => exact ⟨a, b, c, d, e, f, rfl⟩
/-- A question that came in. -/
theorem open_ask {H : Type} {enc : TypeId × Value → H} {W : World} {base b0 : Nat} {held : Bool} {v : Value} {d : DataW H} {p : List MemPlace} (hv : Value.okWide Tryz.prog W .any b0 42 v) (h : DataW.Trod enc Tryz.prog W base (fun _ => true) held 42 v d p) :
    ∃ (s : ByteArray) (a b c : Int) (vl vp : Value) (R : List Sp) (ps : List Pn), v = .agg #[.string s, .int .i64 a, .int .i64 b, .int .i64 c, vl, vp] ∧ SpansC W vl R ∧ PinsAt W vp ps ∧ (s.size ≤ 9223372036854775807 ∧ R.length ≤ 9223372036854775807 ∧ ps.length ≤ 9223372036854775807) ∧ (∀ q ∈ ps, PnOk q) ∧ I64 a ∧ I64 b ∧ I64 c := by
  have hs : Tryz.prog.underlying 42 = some (.struct (Tryz.prog.fieldsOf 42)) := by kernel_rfl
  obtain ⟨cs, rfl, hsz⟩ := okWide_struct hs hv
  obtain ⟨n, h⟩ := h
  obtain ⟨xs, n', _, _, _, hxl, hf⟩ := DataW.trod_struct hs h
  have hfz : (Tryz.prog.fieldsOf 42).size = 4 := by kernel_rfl
  rw [cellsAsk] at hsz
  obtain ⟨f0, i0, t0, o0⟩ := field_at (fs := Tryz.prog.fieldsOf 42) (i := 0) (ty := 9) (off := 0) (by kernel_rfl)
  obtain ⟨f1, i1, t1, o1⟩ := field_at (fs := Tryz.prog.fieldsOf 42) (i := 1) (ty := 31) (off := 1) (by kernel_rfl)
  obtain ⟨f2, i2, t2, o2⟩ := field_at (fs := Tryz.prog.fieldsOf 42) (i := 2) (ty := 39) (off := 4) (by kernel_rfl)
  obtain ⟨f3, i3, t3, o3⟩ := field_at (fs := Tryz.prog.fieldsOf 42) (i := 3) (ty := 40) (off := 5) (by kernel_rfl)
  have r0 := hf 0 f0 i0
  have r1 := hf 1 f1 i1
  have r2 := hf 2 f2 i2
  have r3 := hf 3 f3 i3
  rw [t0, o0, cellsStrD, List.getElem?_eq_getElem (by omega : 0 < xs.length)] at r0
  rw [t1, o1, cellsVer, List.getElem?_eq_getElem (by omega : 1 < xs.length)] at r1
  rw [t2, o2, cellsSps, List.getElem?_eq_getElem (by omega : 2 < xs.length)] at r2
  rw [t3, o3, cellsPinsC, List.getElem?_eq_getElem (by omega : 3 < xs.length)] at r3
  obtain ⟨s, e0, _, hs0⟩ := DataW.trod_string Tryz.underlying9 r0
  obtain ⟨a, b, c, ⟨ea, eb, ec⟩, wa, wb, wc⟩ := intsW r1
  obtain ⟨v1, L1, e2, h1, z1⟩ := spans_cs r2
  obtain ⟨v2, L2, e3, h2, z2, m2⟩ := pins_cs r3
  have k0 : cs.toList[0]? = some (.string s) := take1 e0
  have k2 : cs.toList[4]? = some v1 := take1 e2
  have k3 : cs.toList[5]? = some v2 := take1 e3
  have ka : ((cs.toList.drop 1).take 3)[0]? = some (.int .i64 a) := ea
  have kb : ((cs.toList.drop 1).take 3)[1]? = some (.int .i64 b) := eb
  have kc : ((cs.toList.drop 1).take 3)[2]? = some (.int .i64 c) := ec
  obtain ⟨l⟩ := cs
  obtain ⟨x0, x1, x2, x3, x4, x5, rfl⟩ := list6 (l := l) (by simpa using hsz)
  simp at k0 k2 k3 ka kb kc
  subst k0 k2 k3 ka kb kc
  exact ⟨s, a, b, c, _, _, L1, L2, rfl, h1, h2, ⟨by unfold maxLen at hs0; exact hs0, z1, z2⟩, m2, wa, wb, wc⟩
end Go.Proofs.YtjpmlagofcgheaaGreatDoor
