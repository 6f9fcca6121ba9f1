/- Wh4, Wb2, We2, laid in one text. -/
import Derived.Test.YtbjbhgkbnegfgaaGreatDoorMg26
namespace Go.Proofs.YtbjbhgkbnegfgaaGreatDoor
open Go.RowKit Go.Maps Go.WideMaps
set_option maxRecDepth 100000

/-- Under way: what stands from the i-th place on is as it was. -/
def LsQ (w0 w : World) (B Bb : Nat) (va vb : Value) (Y Z : List Wt) (n i : Nat) (wr : World) : Prop := ((∃ cs : List Value, wr.ownsRow B 69 3 va n cs ∧ ∀ j, i * 3 ≤ j → cs[j]? = (Y.flatMap encW)[j]?) ∧ RowO wr Bb vb Z) ∧ (∀ (j : Nat) (x : Wt) (L : List Sp), i ≤ j → Y[j]? = some x → OwnS w B x.rs L → OwnS wr B x.rs L) ∧ Below w0.heap.size w0 wr
theorem keepLs (w0 w : World) (B Bb : Nat) (va vb : Value) (Y Z : List Wt) (n i : Nat) : KeepP (LsQ w0 w B Bb va vb Y Z n i) := fun p q h hb => by
  obtain ⟨⟨⟨cs, h1, h2⟩, h3⟩, h4, h5⟩ := h
  exact ⟨⟨⟨cs, own_below h1 hb, h2⟩, h3.below hb⟩, fun j x L hj hx hL => (h4 j x L hj hx hL).below hb, below_then h5 hb⟩
/-- A range is written over: what stands behind stays. -/
theorem LsQ.range {w0 w : World} {B Bb : Nat} {va vb : Value} {Y Z : List Wt} {n i : Nat} {wr w1 : World} (h : LsQ w0 w B Bb va vb Y Z n i wr) {x : Wt} (hx : Y[i]? = some x) (ha : Y.Pairwise ApartR) (hB : w0.heap.size ≤ B) {m : Nat} {cr : List Value} (hr : wr.ownsRow B 64 6 x.rs m cr) (hg : wr.grownBy w1 x.rs.ownBlock) : ((∃ cs : List Value, w1.ownsRow B 69 3 va n cs ∧ ∀ j, i * 3 ≤ j → cs[j]? = (Y.flatMap encW)[j]?) ∧ RowO w1 Bb vb Z) ∧ (∀ (j : Nat) (x : Wt) (L : List Sp), i + 1 ≤ j → Y[j]? = some x → OwnS w B x.rs L → OwnS w1 B x.rs L) ∧ Below w0.heap.size w0 w1 := by
  obtain ⟨⟨⟨cs, h1, h2⟩, h3⟩, h4, h5⟩ := h
  refine ⟨⟨⟨cs, own_of h1 fun g hgv => hg.block g (World.ownsRow.lt h1 g hgv).2 fun q => own_ne h1 hr (by decide) hgv q.symm, h2⟩, h3.grown hg fun g hgv q => own_ne h3 hr (by decide) hgv q.symm⟩, fun j y L hj hy hL => ?_, h5.trans (below_grown hg (fun g e => Nat.le_trans hB (World.ownsRow.lt hr g e).1) h5.size)⟩
  have hq := h4 j y L (by omega) hy hL
  refine hq.of_block fun g hgu => hg.block g (hq.lt hgu).1 fun q => ?_
  obtain ⟨hi, rfl⟩ := List.getElem?_eq_some_iff.1 hx
  obtain ⟨hj', rfl⟩ := List.getElem?_eq_some_iff.1 hy
  exact List.pairwise_iff_getElem.1 ha i j hi hj' (by omega) g q.symm hgu
/-- The same, once the i-th range is given up. -/
def LsR (w0 w : World) (B Bb : Nat) (va vb : Value) (Y Z : List Wt) (n i : Nat) (wr : World) : Prop := ((∃ cs : List Value, wr.ownsRow B 69 3 va n cs ∧ ∀ j, i * 3 ≤ j → cs[j]? = (Y.flatMap encW)[j]?) ∧ RowO wr Bb vb Z) ∧ (∀ (j : Nat) (x : Wt) (L : List Sp), i + 1 ≤ j → Y[j]? = some x → OwnS w B x.rs L → OwnS wr B x.rs L) ∧ Below w0.heap.size w0 wr
theorem LsQ.give {w0 w : World} {B Bb : Nat} {va vb : Value} {Y Z : List Wt} {n i : Nat} {wr : World} (h : LsQ w0 w B Bb va vb Y Z n i wr) : LsR w0 w B Bb va vb Y Z n i wr := ⟨h.1, fun j x L hj => h.2.1 j x L (by omega), h.2.2⟩
theorem LsR.range {w0 w : World} {B Bb : Nat} {va vb : Value} {Y Z : List Wt} {n i : Nat} {wr w1 : World} (h : LsR w0 w B Bb va vb Y Z n i wr) {x : Wt} (hx : Y[i]? = some x) (ha : Y.Pairwise ApartR) (hB : w0.heap.size ≤ B) {m : Nat} {cr : List Value} (hr : wr.ownsRow B 64 6 x.rs m cr) (hg : wr.grownBy w1 x.rs.ownBlock) : LsR w0 w B Bb va vb Y Z n i w1 := by
  obtain ⟨⟨⟨cs, h1, h2⟩, h3⟩, h4, h5⟩ := h
  refine ⟨⟨⟨cs, own_of h1 fun g hgv => hg.block g (World.ownsRow.lt h1 g hgv).2 fun q => own_ne h1 hr (by decide) hgv q.symm, h2⟩, h3.grown hg fun g hgv q => own_ne h3 hr (by decide) hgv q.symm⟩, fun j y L hj hy hL => ?_, h5.trans (below_grown hg (fun g e => Nat.le_trans hB (World.ownsRow.lt hr g e).1) h5.size)⟩
  have hq := h4 j y L hj hy hL
  refine hq.of_block fun g hgu => hg.block g (hq.lt hgu).1 fun q => ?_
  obtain ⟨hi, rfl⟩ := List.getElem?_eq_some_iff.1 hx
  obtain ⟨hj', rfl⟩ := List.getElem?_eq_some_iff.1 hy
  exact List.pairwise_iff_getElem.1 ha i j hi hj' (by omega) g q.symm hgu
/-- The name is written over. -/
theorem LsR.name {w0 w : World} {B Bb : Nat} {vb : Value} {Y Z : List Wt} {n i ga ca : Nat} {wr : World} (h : LsR w0 w B Bb (.slice (some ⟨ga, 0, none⟩) n ca) vb Y Z n i wr) (hB : w0.heap.size ≤ B) (hab : ga < Bb) (u : Value) : LsQ w0 w B Bb (.slice (some ⟨ga, 0, none⟩) n ca) vb Y Z n (i + 1) (wr.setCell ⟨ga, i * 3, none⟩ u) := by
  obtain ⟨⟨⟨cs, h1, h2⟩, h3⟩, h4, h5⟩ := h
  obtain ⟨s1, s2⟩ := h1.stored (i * 3) u
  refine ⟨⟨⟨_, s1, fun j hj => ?_⟩, h3.grown s2 fun g hgv q => ?_⟩, fun j y L hj hy hL => ?_, h5.trans (below_grown s2 (fun g e => Nat.le_trans hB (World.ownsRow.lt h1 g e).1) h5.size)⟩
  · rw [List.getElem?_set_ne (by omega)]
    exact h2 j (by omega)
  · cases q
    have := (World.ownsRow.lt h3 _ hgv).1
    omega
  · have hq := h4 j y L hj hy hL
    exact hq.of_block fun g hgu => s2.block g (hq.lt hgu).1 fun q => own_ne hq h1 (by decide) hgu q.symm

theorem span_over {w : World} {B n gr cr k : Nat} {cs : List Value} (h : w.ownsRow B 64 6 (.slice (some ⟨gr, 0, none⟩) n cr) n cs) : (∃ cs', ((((((w.setCell ⟨gr, k * 6, none⟩ (.int .i64 (-1))).setCell ⟨gr, k * 6 + 1, none⟩ (.int .i64 0)).setCell ⟨gr, k * 6 + 2, none⟩ (.int .i64 0)).setCell ⟨gr, k * 6 + 3, none⟩ (.int .i64 0)).setCell ⟨gr, k * 6 + 4, none⟩ (.int .i64 0)).setCell ⟨gr, k * 6 + 5, none⟩ (.int .i64 0)).ownsRow B 64 6 (.slice (some ⟨gr, 0, none⟩) n cr) n cs') ∧ w.grownBy ((((((w.setCell ⟨gr, k * 6, none⟩ (.int .i64 (-1))).setCell ⟨gr, k * 6 + 1, none⟩ (.int .i64 0)).setCell ⟨gr, k * 6 + 2, none⟩ (.int .i64 0)).setCell ⟨gr, k * 6 + 3, none⟩ (.int .i64 0)).setCell ⟨gr, k * 6 + 4, none⟩ (.int .i64 0)).setCell ⟨gr, k * 6 + 5, none⟩ (.int .i64 0)) (some gr) := by
  obtain ⟨a1, b1⟩ := h.stored (k * 6) (.int .i64 (-1))
  obtain ⟨a2, b2⟩ := a1.stored (k * 6 + 1) (.int .i64 0)
  obtain ⟨a3, b3⟩ := a2.stored (k * 6 + 2) (.int .i64 0)
  obtain ⟨a4, b4⟩ := a3.stored (k * 6 + 3) (.int .i64 0)
  obtain ⟨a5, b5⟩ := a4.stored (k * 6 + 4) (.int .i64 0)
  obtain ⟨a6, b6⟩ := a5.stored (k * 6 + 5) (.int .i64 0)
  exact ⟨⟨_, a6⟩, ((((b1.trans b2).trans b3).trans b4).trans b5).trans b6⟩

/-- Both tellings say the same, place by place. -/
theorem doc_match {O : List Dp} {E : List (Dp × Int)} {w0 w w' : World} {B Bb : Nat} {va vb : Value} {Y Z : List Wt} (h : ToldW O E w B va Y) (h' : DocT O E w0 w' Bb vb Z) : Y.length = Z.length ∧ ∀ (i : Nat) (x y : Wt), Y[i]? = some x → Z[i]? = some y → ∃ d : Dp, x.nm = d.nm ∧ y.nm = d.nm ∧ x.kd = y.kd ∧ OwnS w B x.rs (rangeD O d) ∧ SpansC w0 y.rs (rangeD O d) := by
  have hz : (Z.map (·.tg)).Pairwise (ltPl E) := by
    rw [List.pairwise_map]
    refine h'.2.1.imp_of_mem fun {a b} ha hb hab => ?_
    obtain ⟨e, h1, h2, _⟩ := h'.2.2.2 a ha
    obtain ⟨f, h3, h4, _⟩ := h'.2.2.2 b hb
    refine ⟨e, f, h1, h3, ?_⟩
    rcases hab with q | ⟨q1, q2⟩
    · exact Or.inl (h2 ▸ h4 ▸ q)
    · exact Or.inr ⟨h2 ▸ h4 ▸ q1, q2⟩
  have ht : Y.map (·.tg) = Z.map (·.tg) := perm_sorted (ltPl_asym E) (h.2.2.1.trans h'.2.2.1.symm) h.sorted hz
  refine ⟨by have e := congrArg List.length ht; rw [List.length_map, List.length_map] at e; exact e, fun i x y hx hy => ?_⟩
  obtain ⟨e, h1, h2, h3, h4⟩ := h.part.2 x (List.mem_of_getElem? hx)
  obtain ⟨f, g1, g2, g3, g4⟩ := h'.2.2.2 y (List.mem_of_getElem? hy)
  have e1 : x.tg = y.tg := by
    have q := congrArg (fun l : List Nat => l[i]?) ht
    simp only [List.getElem?_map, hx, hy] at q
    exact Option.some.inj q
  rw [e1, g1] at h1
  cases h1
  exact ⟨e.1, h2, g2, h3.trans g3.symm, h4, g4⟩

set_option maxHeartbeats 25600000 in
theorem wlists_any {O : List Dp} {E : List (Dp × Int)} {w0 w : World} {B Bb : Nat} {va vb : Value} {Y Z : List Wt} (hb0 : Below w0.heap.size w0 w) (hB : w0.heap.size ≤ B) (h : ToldW O E w B va Y) (hab : ∀ g, va.ownBlock = some g → g < Bb) (h' : DocT O E w0 w Bb vb Z) (hl : Y.length ≤ 100000000) : Calls Tryz.prog 27 #[va, vb] w fun e w' => e = .returned (.bool true) ∧ Below w0.heap.size w0 w' := by
  obtain ⟨hlz, hmt⟩ := doc_match h h'
  have hap : Y.Pairwise ApartR := by
    have e := h.1.2.2
    unfold withR at e
    rw [List.pairwise_map] at e
    exact e
  obtain ⟨n, hn⟩ : ∃ n, n = Y.length := ⟨_, rfl⟩
  have HLS : Hid (LsQ w0 w B Bb va vb Y Z n 0 w) := ⟨⟨⟨Y.flatMap encW, by rw [hn]; exact h.row, fun _ _ => rfl⟩, h'.1.1⟩, fun j x L _ _ hL => hL, hb0⟩
  have HRB : Hid (RowO w Bb vb Z) := h'.1.1
  have HMT := hide3 hmt
  have HAP := hide3 hap
  have HLN : Hid (Y.length = n ∧ Z.length = n) := ⟨hn.symm, by rw [← hlz, hn]⟩
  have hnb : n ≤ 100000000 := by omega
  obtain ⟨aa, ca, rfl⟩ := h.row.len
  obtain ⟨ab, cb, rfl⟩ := h'.1.1.len
  rw [← hlz, ← hn] at HLS HRB
  have HAB : Hid (∀ ga, aa = some ⟨ga, 0, none⟩ → ga < Bb) := fun ga e => hab ga (by rw [e]; rfl)
  rw [← hlz, ← hn]
  clear h h' hap hmt hab hb0 hlz hn hl
  go_enter Tryz.func27, Tryz.ntmps27
  go_wp2_with fail
  go_loopw [5, 6] (fun vs vi wr => ∃ i : Nat, i ≤ n ∧ vi = .int .i64 i ∧ vs = .bool true ∧ LsQ w0 w B Bb (.slice aa n ca) (.slice ab n cb) Y Z n i wr) (fun _ vi _ => n - (intOf vi).toNat)
  case atStart => exact ⟨0, Nat.zero_le _, rfl, rfl, HLS.out⟩
  case round =>
    obtain ⟨i, hi, rfl, rfl, hls⟩ := hrel
    have HL := hide3 hls
    clear hls HLS
    by_cases hlt : i < n
    · have hli : (i : Int) < (n : Int) := by omega
      obtain ⟨x, hx⟩ : ∃ x, Y[i]? = some x := ⟨_, List.getElem?_eq_getElem (by rw [HLN.out.1]; exact hlt)⟩
      obtain ⟨y, hy⟩ : ∃ y, Z[i]? = some y := ⟨_, List.getElem?_eq_getElem (by rw [HLN.out.2]; exact hlt)⟩
      obtain ⟨d, hd1, hd2, hd3, hd4, hd5⟩ := HMT.out i x y hx hy
      obtain ⟨ga, hga⟩ : ∃ ga, aa = some ⟨ga, 0, none⟩ := by
        obtain ⟨⟨⟨cs, h1, _⟩, _⟩, _⟩ := HL.out
        obtain ⟨ga, ka, hv, _⟩ := World.ownsRow.form h1 (by omega)
        injection hv with hv1 _ _
        exact ⟨ga, hv1⟩
      obtain ⟨gb, hgb⟩ : ∃ gb, ab = some ⟨gb, 0, none⟩ := by
        obtain ⟨⟨_, h3⟩, _⟩ := HL.out
        unfold RowO at h3
        rw [HLN.out.2] at h3
        obtain ⟨gb, kb, hv, _⟩ := World.ownsRow.form h3 (by omega)
        injection hv with hv1 _ _
        exact ⟨gb, hv1⟩
      have hab := HAB.out ga hga
      subst hga hgb
      obtain ⟨⟨⟨cs, r1, r2⟩, r3⟩, r4, r5⟩ := HL.out
      obtain ⟨n0, n1, n2⟩ := encW_at Y i x hx
      have c0 := (World.ownsRow.cellAt r1 (i * 3) (by omega)).trans ((r2 _ (by omega)).trans n0)
      have c1 := (World.ownsRow.cellAt r1 (i * 3 + 1) (by omega)).trans ((r2 _ (by omega)).trans n1)
      have c2 := (World.ownsRow.cellAt r1 (i * 3 + 2) (by omega)).trans ((r2 _ (by omega)).trans n2)
      have hgla := (World.ownsRow.lt r1 ga rfl).2
      have HRZ : Hid (RowW wr Bb gb n cb Z) := ⟨HLN.out.2, by unfold RowO at r3; rw [HLN.out.2] at r3; exact r3⟩
      obtain ⟨e0, e1, e2⟩ := HRZ.out.cells hy
      have hglb := HRZ.out.lt.2
      rw [hd1] at c0
      rw [hd2] at e0
      rw [← hd3] at e1
      have HSA : Hid (OwnS wr B x.rs (rangeD O d)) := r4 i x _ (Nat.le_refl _) hx hd4
      have HSP : Hid (∀ X, (LsQ w0 w B Bb (.slice (some ⟨ga, 0, none⟩) n ca) (.slice (some ⟨gb, 0, none⟩) n cb) Y Z n i X ∧ OwnS X B x.rs (rangeD O d) ∧ Sc.CellK X ga (i * 3) (.string d.nm) ∧ Sc.CellK X ga (i * 3 + 1) (.int .i64 x.kd) ∧ Sc.CellK X ga (i * 3 + 2) (.slice x.ad x.ln x.cp) ∧ Sc.CellK X gb (i * 3) (.string d.nm) ∧ Sc.CellK X gb (i * 3 + 1) (.int .i64 x.kd) ∧ Sc.CellK X gb (i * 3 + 2) (.slice y.ad y.ln y.cp)) → Calls Tryz.prog 36 #[.slice x.ad x.ln x.cp, .slice y.ad y.ln y.cp] X fun e w' => e = .returned (.bool true) ∧ Below X.heap.size X w') := fun X hX => by
        have e := rSpans_any (w := X) (va := x.rs) (vb := y.rs) hX.2.1.at.1.1 (hd5.below hX.1.2.2).1 hX.2.1.at.2
        rw [eqB_yes rfl] at e
        exact e
      have HXY := hide3 hx
      have HK : Hid (KeepP fun w1 => LsQ w0 w B Bb (.slice (some ⟨ga, 0, none⟩) n ca) (.slice (some ⟨gb, 0, none⟩) n cb) Y Z n i w1 ∧ OwnS w1 B x.rs (rangeD O d) ∧ Sc.CellK w1 ga (i * 3) (.string d.nm) ∧ Sc.CellK w1 ga (i * 3 + 1) (.int .i64 x.kd) ∧ Sc.CellK w1 ga (i * 3 + 2) (.slice x.ad x.ln x.cp) ∧ Sc.CellK w1 gb (i * 3) (.string d.nm) ∧ Sc.CellK w1 gb (i * 3 + 1) (.int .i64 x.kd) ∧ Sc.CellK w1 gb (i * 3 + 2) (.slice y.ad y.ln y.cp)) := KeepP.and (keepLs _ _ _ _ _ _ _ _ _ _) (KeepP.and (fun p q h hpq => h.below hpq) (KeepP.and (keepCk _ _ _) (KeepP.and (keepCk _ _ _) (KeepP.and (keepCk _ _ _) (KeepP.and (keepCk _ _ _) (KeepP.and (keepCk _ _ _) (keepCk _ _ _)))))))
      have HO : Hid (LsQ w0 w B Bb (.slice (some ⟨ga, 0, none⟩) n ca) (.slice (some ⟨gb, 0, none⟩) n cb) Y Z n i wr ∧ OwnS wr B x.rs (rangeD O d) ∧ Sc.CellK wr ga (i * 3) (.string d.nm) ∧ Sc.CellK wr ga (i * 3 + 1) (.int .i64 x.kd) ∧ Sc.CellK wr ga (i * 3 + 2) (.slice x.ad x.ln x.cp) ∧ Sc.CellK wr gb (i * 3) (.string d.nm) ∧ Sc.CellK wr gb (i * 3 + 1) (.int .i64 x.kd) ∧ Sc.CellK wr gb (i * 3 + 2) (.slice y.ad y.ln y.cp)) := ⟨HL.out, HSA.out, ⟨c0, hgla⟩, ⟨c1, hgla⟩, ⟨c2, hgla⟩, ⟨e0, hglb⟩, ⟨e1, hglb⟩, ⟨e2, hglb⟩⟩
      clear hd1 hd2 hd3 hd4 hd5 hx hy r1 r2 r3 r4 r5 n0 n1 n2 hgla hglb HRZ HSA HL c0 c1 c2 e0 e1 e2
      go_wp2_with fail
      refine wp_region_keep HK.out (by kernel_rfl) (by kernel_rfl) (by first | exact HO.out | exact HK.out.drew HO.out) ?_
      intro C hin hout
      have HIN := hide3 hin
      have HOUT := hide3 hout
      clear hin hout HO
      repeat
        (with_reducible refine wpQuiet_step (fun K hK => ?_)
         go_simp
         first
           | (refine hK _ ?_; clear hK K)
           | (apply Exists.intro; refine ⟨fun w1 hC => ?_, hK _ ?_⟩; (focus ((first | (go_at_call 36; with_reducible exact callC' HIN.out HOUT.out HK.out HSP.out w1 hC) | (exact rfl) | (obtain ⟨hls, hos, ⟨c0, hg1⟩, ⟨c1, _⟩, ⟨c2, _⟩, ⟨e0, hg2⟩, ⟨e1, _⟩, ⟨e2, _⟩⟩ := HOUT.out w1 hC; clear hC; go_simp; first | done | exact rfl)); done)); clear hK K))
      refine wpQuiet_nil ?_
      intro w11 hC
      have HO := hide3 (HOUT.out _ hC)
      clear hC HIN HOUT C
      obtain ⟨hls, hos, ⟨c0, hg1⟩, ⟨c1, _⟩, ⟨c2, _⟩, ⟨e0, hg2⟩, ⟨e1, _⟩, ⟨e2, _⟩⟩ := HO.out
      have HGV := hide3 hls.give
      obtain ⟨m, hm⟩ : ∃ m, m = x.ln := ⟨_, rfl⟩
      have HOS : Hid (∃ cs, w11.ownsRow B 64 6 (.slice x.ad m x.cp) m cs) := by
        have e := hos
        obtain ⟨ad9, cap9, hv9, _⟩ := hos.sp
        have e2 : x.ln = (rangeD O d).length := by
          unfold Wt.rs at hv9
          injection hv9
        rw [hm, e2]
        have e3 : Value.slice x.ad (rangeD O d).length x.cp = x.rs := by unfold Wt.rs; rw [e2]
        rw [e3]
        exact ⟨_, e⟩
      have hmb : m ≤ 9223372036854775807 := by
        obtain ⟨_, e⟩ := hos.at
        obtain ⟨ad9, cap9, hv9, _⟩ := hos.sp
        unfold Wt.rs at hv9
        injection hv9 with _ e2 _
        omega
      clear hls hos HK HO HSP c0 c1 e0 e1 e2 hg1 hg2
      rw [← hm] at c2
      go_wp2_with fail
      go_loopw [7] (fun vk wq => ∃ k : Nat, k ≤ m ∧ vk = .int .i64 k ∧ LsR w0 w B Bb (.slice (some ⟨ga, 0, none⟩) n ca) (.slice (some ⟨gb, 0, none⟩) n cb) Y Z n i wq ∧ ∃ cs, wq.ownsRow B 64 6 (.slice x.ad m x.cp) m cs) (fun vk _ => m - (intOf vk).toNat)
      case atStart => exact ⟨0, Nat.zero_le _, rfl, HGV.out, HOS.out⟩
      case round =>
        obtain ⟨k, hk, rfl, hlr, hor⟩ := hrel
        have HLR := hide3 hlr
        have HOR := hide3 hor
        clear hlr hor HGV HOS c2
        have c2 : wr.cell? ⟨ga, i * 3 + 2, none⟩ = some (.slice x.ad m x.cp) := by
          obtain ⟨⟨⟨cs, r1, r2⟩, _⟩, _⟩ := HLR.out
          rw [hm]
          exact (World.ownsRow.cellAt r1 (i * 3 + 2) (by omega)).trans ((r2 _ (by omega)).trans (encW_at Y i x HXY.out).2.2)
        by_cases hkl : k < m
        · have hki : (k : Int) < (m : Int) := by omega
          obtain ⟨cr, hcr⟩ := HOR.out
          obtain ⟨gr, kr, hv, _⟩ := World.ownsRow.form hcr (by omega)
          injection hv with hv1 _ hv2
          have HFN : Hid (LsR w0 w B Bb (.slice (some ⟨ga, 0, none⟩) n ca) (.slice (some ⟨gb, 0, none⟩) n cb) Y Z n i ((((((wr.setCell ⟨gr, k * 6, none⟩ (.int .i64 (-1))).setCell ⟨gr, k * 6 + 1, none⟩ (.int .i64 0)).setCell ⟨gr, k * 6 + 2, none⟩ (.int .i64 0)).setCell ⟨gr, k * 6 + 3, none⟩ (.int .i64 0)).setCell ⟨gr, k * 6 + 4, none⟩ (.int .i64 0)).setCell ⟨gr, k * 6 + 5, none⟩ (.int .i64 0)) ∧ ∃ cs, ((((((wr.setCell ⟨gr, k * 6, none⟩ (.int .i64 (-1))).setCell ⟨gr, k * 6 + 1, none⟩ (.int .i64 0)).setCell ⟨gr, k * 6 + 2, none⟩ (.int .i64 0)).setCell ⟨gr, k * 6 + 3, none⟩ (.int .i64 0)).setCell ⟨gr, k * 6 + 4, none⟩ (.int .i64 0)).setCell ⟨gr, k * 6 + 5, none⟩ (.int .i64 0)).ownsRow B 64 6 (.slice x.ad m x.cp) m cs) := by
            rw [hv1] at hcr
            obtain ⟨⟨cs', q1⟩, q2⟩ := span_over (k := k) hcr
            refine ⟨HLR.out.range (x := x) HXY.out HAP.out hB (m := m) (cr := cr) ?_ ?_, cs', by rw [hv1]; exact q1⟩
            · have e : x.rs = .slice (some ⟨gr, 0, none⟩) m x.cp := by unfold Wt.rs; rw [hv1, hm]
              rw [e]
              exact hcr
            · have e : x.rs.ownBlock = some gr := by unfold Wt.rs; rw [hv1]; rfl
              rw [e]
              exact q2
          have hfr := fun i => World.ownsRow.frozenAt (hv1 ▸ hcr) i
          have HCX : Hid (∀ r, r < m * 6 → ∃ u, wr.cell? ⟨gr, r, none⟩ = some u) := fun r hr => by
            have e := World.ownsRow.cellAt (hv1 ▸ hcr) r hr
            have hlen := hcr.1
            exact ⟨_, e.trans (List.getElem?_eq_getElem (by omega))⟩
          obtain ⟨z0, f0⟩ := HCX.out (k * 6) (by omega)
          obtain ⟨z1, f1⟩ := HCX.out (k * 6 + 1) (by omega)
          obtain ⟨z2, f2⟩ := HCX.out (k * 6 + 2) (by omega)
          obtain ⟨z3, f3⟩ := HCX.out (k * 6 + 3) (by omega)
          obtain ⟨z4, f4⟩ := HCX.out (k * 6 + 4) (by omega)
          obtain ⟨z5, f5⟩ := HCX.out (k * 6 + 5) (by omega)
          rw [hv1] at c2 HFN
          clear hcr HOR HLR HCX
          go_wp2_with fail
          clear c2 hfr f0 f1 f2 f3 f4 f5
          rw [hv1]
          exact ⟨⟨k + 1, by omega, by go_num, HFN.out.1, HFN.out.2⟩, by simp [intOf]; omega⟩
        · obtain rfl : k = m := by omega
          have hki : ¬ (k : Int) < (k : Int) := by omega
          have HFN := hide3 (HLR.out.name hB hab (.string ⟨#[63]⟩))
          have hfr : ∀ i, wr.frozen? ⟨ga, i, none⟩ = false := by
            obtain ⟨⟨⟨cs, r1, _⟩, _⟩, _⟩ := HLR.out
            exact fun i => World.ownsRow.frozenAt r1 i
          obtain ⟨z0, f0⟩ : ∃ u, wr.cell? ⟨ga, i * 3, none⟩ = some u := by
            obtain ⟨⟨⟨cs, r1, r2⟩, _⟩, _⟩ := HLR.out
            exact ⟨_, (World.ownsRow.cellAt r1 (i * 3) (by omega)).trans ((r2 _ (by omega)).trans (encW_at Y i x HXY.out).1)⟩
          clear HLR HOR
          go_wp2_with fail
          exact ⟨⟨i + 1, by omega, by go_num, rfl, HFN.out⟩, by simp [intOf]; omega⟩
    · obtain rfl : i = n := by omega
      have hli : ¬ (i : Int) < (i : Int) := by omega
      go_wp2_with fail
      go_ret
      exact ⟨rfl, HL.out.2.2⟩
end Go.Proofs.YtbjbhgkbnegfgaaGreatDoor
namespace Go.Proofs.YtbjbhgkbnegfgaaGreatDoor
open Go.RowKit Go.Maps Go.WideMaps
set_option maxRecDepth 100000

theorem rowD_at {w : World} {B : Nat} {v : Value} {ps : List (Dp × Value)} (h : w.ownsRow B 62 2 v ps.length (dpCells ps)) (hs : ∀ p ∈ ps, SpansC w p.2 p.1.rg ∧ p.1.rg.length ≤ 9223372036854775807) : DepsAt w v (ps.map (·.1)) := by
  have h0 := h
  rcases h.2 with ⟨rfl, hn⟩ | ⟨g, cap, cur, rfl, hB, hg, hc, hm, _⟩
  · have : ps = [] := List.eq_nil_of_length_eq_zero hn
    subst this
    exact ⟨none, 0, rfl, Nat.le_refl _, Or.inl rfl⟩
  · have hlt := (Array.getElem?_eq_some_iff.1 hg).1
    refine ⟨_, cap, by rw [List.length_map], by rw [List.length_map]; exact hc, Or.inr ⟨g, 0, rfl, hlt, fun i hi => ?_⟩⟩
    have hi' : i < ps.length := by simpa using hi
    have c0 := World.ownsRow.cellAt h0 (i * 2) (by omega)
    have c1 := World.ownsRow.cellAt h0 (i * 2 + 1) (by omega)
    rw [(dpCells_at ps i hi').1] at c0
    rw [(dpCells_at ps i hi').2] at c1
    refine ⟨ps[i].2, ?_⟩
    rw [List.getElem_map, Nat.zero_add]
    exact ⟨c0, c1, hs _ (List.getElem_mem hi'), hlt⟩
/-- A package's peers in their ranges. -/
def peersD (O : List Dp) (ds : List Dp) : List Dp := ds.map fun d => ⟨d.nm, rangeD O d⟩
/-- They lie there, in a row of one's own, their ranges where they lay. -/
def PeersAt (wb w w' : World) (v : Value) (O ds : List Dp) : Prop := ∃ us, w'.ownsRow w.heap.size 62 2 v us.length (dpCells us) ∧ (∀ q ∈ us, SpansC wb q.2 q.1.rg ∧ q.1.rg.length ≤ 9223372036854775807) ∧ us.map (·.1) = peersD O ds

set_option maxHeartbeats 12800000 in
theorem rpeers_any {wb w : World} (hbb : Below wb.heap.size wb w) {O : List Dp} {x1 x2 x3 : Option Addr} {y1 y2 y3 z1 z2 z3 : Nat} {v4 : Value} (h : DepsAt wb v4 O) (hlen : O.length ≤ 9223372036854775807) {ds : List Dp} (nm : ByteArray) (a b c : Int) {p1 p2 p3 : Option Addr} {q1 r1 r2 q3 r3 : Nat} (hp : DepsAt wb (.slice p2 ds.length r2) ds) (hl : ds.length ≤ 1000) : Calls Tryz.prog 34 #[.agg #[.string nm, .int .i64 a, .int .i64 b, .int .i64 c, .slice p1 q1 r1, .slice p2 ds.length r2, .slice p3 q3 r3], .agg #[.slice x1 y1 z1, .slice x2 y2 z2, .slice x3 y3 z3, v4]] w fun e w' => ∃ v, e = .returned v ∧ PeersAt wb w w' v O ds ∧ Below w.heap.size w w' := by
  obtain ⟨ad, cap, rfl, hcap, _⟩ := h.el
  have HO := hide3 h
  have HEL : Hid (∀ k (_ : k < ds.length), ∃ g o, p2 = some ⟨g, o, none⟩ ∧ ∃ au nu cu, DpIn wb g (o + k * 2) ds[k] (.slice au nu cu)) := by
    obtain ⟨ad', cap', e, _, hel⟩ := hp.el
    injection e with e1 _ _
    subst e1
    exact hel
  have HB0 : Hid (Below w.heap.size w ((w.alloc (.cells #[.string nm, .int .i64 a, .int .i64 b, .int .i64 c, .slice p1 q1 r1, .slice p2 ds.length r2, .slice p3 q3 r3] 34)).alloc (.cells #[.slice x1 y1 z1, .slice x2 y2 z2, .slice x3 y3 z3, .slice ad O.length cap] 54))) := boxB2 _ _ _
  have b0 : ((w.alloc (.cells #[.string nm, .int .i64 a, .int .i64 b, .int .i64 c, .slice p1 q1 r1, .slice p2 ds.length r2, .slice p3 q3 r3] 34)).alloc (.cells #[.slice x1 y1 z1, .slice x2 y2 z2, .slice x3 y3 z3, .slice ad O.length cap] 54)).cell? ⟨w.heap.size, 5, none⟩ = some (.slice p2 ds.length r2) := by simp
  have b1 : ((w.alloc (.cells #[.string nm, .int .i64 a, .int .i64 b, .int .i64 c, .slice p1 q1 r1, .slice p2 ds.length r2, .slice p3 q3 r3] 34)).alloc (.cells #[.slice x1 y1 z1, .slice x2 y2 z2, .slice x3 y3 z3, .slice ad O.length cap] 54)).cell? ⟨w.heap.size + 1, 0, none⟩ = some (.slice x1 y1 z1) := (new_cell (by simp) rfl).1
  have b2 : ((w.alloc (.cells #[.string nm, .int .i64 a, .int .i64 b, .int .i64 c, .slice p1 q1 r1, .slice p2 ds.length r2, .slice p3 q3 r3] 34)).alloc (.cells #[.slice x1 y1 z1, .slice x2 y2 z2, .slice x3 y3 z3, .slice ad O.length cap] 54)).cell? ⟨w.heap.size + 1, 1, none⟩ = some (.slice x2 y2 z2) := (new_cell (by simp) rfl).1
  have b3 : ((w.alloc (.cells #[.string nm, .int .i64 a, .int .i64 b, .int .i64 c, .slice p1 q1 r1, .slice p2 ds.length r2, .slice p3 q3 r3] 34)).alloc (.cells #[.slice x1 y1 z1, .slice x2 y2 z2, .slice x3 y3 z3, .slice ad O.length cap] 54)).cell? ⟨w.heap.size + 1, 2, none⟩ = some (.slice x3 y3 z3) := (new_cell (by simp) rfl).1
  have b4 : ((w.alloc (.cells #[.string nm, .int .i64 a, .int .i64 b, .int .i64 c, .slice p1 q1 r1, .slice p2 ds.length r2, .slice p3 q3 r3] 34)).alloc (.cells #[.slice x1 y1 z1, .slice x2 y2 z2, .slice x3 y3 z3, .slice ad O.length cap] 54)).cell? ⟨w.heap.size + 1, 3, none⟩ = some (.slice ad O.length cap) := (new_cell (by simp) rfl).1
  have hz0 : w.heap.size < ((w.alloc (.cells #[.string nm, .int .i64 a, .int .i64 b, .int .i64 c, .slice p1 q1 r1, .slice p2 ds.length r2, .slice p3 q3 r3] 34)).alloc (.cells #[.slice x1 y1 z1, .slice x2 y2 z2, .slice x3 y3 z3, .slice ad O.length cap] 54)).heap.size := by simp; omega
  have hz1 : w.heap.size + 1 < ((w.alloc (.cells #[.string nm, .int .i64 a, .int .i64 b, .int .i64 c, .slice p1 q1 r1, .slice p2 ds.length r2, .slice p3 q3 r3] 34)).alloc (.cells #[.slice x1 y1 z1, .slice x2 y2 z2, .slice x3 y3 z3, .slice ad O.length cap] 54)).heap.size := by simp
  clear h hp
  go_enter Tryz.func34, Tryz.ntmps34
  go_wp2_with fail
  generalize ((w.alloc (.cells #[.string nm, .int .i64 a, .int .i64 b, .int .i64 c, .slice p1 q1 r1, .slice p2 ds.length r2, .slice p3 q3 r3] 34)).alloc (.cells #[.slice x1 y1 z1, .slice x2 y2 z2, .slice x3 y3 z3, .slice ad O.length cap] 54)) = W at *
  have hz2 := hz1
  have hz3 := hz1
  have hz4 := hz1
  go_loopw [5, 6] (fun vo vi wr => ∃ (k : Nat) (ps : List (Dp × Value)), k ≤ ds.length ∧ vi = .int .i64 k ∧ wr.ownsRow W.heap.size 62 2 vo ps.length (dpCells ps) ∧ (∀ q ∈ ps, SpansC wb q.2 q.1.rg ∧ q.1.rg.length ≤ 9223372036854775807) ∧ ps.map (·.1) = peersD O (ds.take k) ∧ Below W.heap.size W wr) (fun _ vi _ => ds.length - (intOf vi).toNat)
  case atStart => exact ⟨0, [], Nat.zero_le _, rfl, ⟨rfl, Or.inl ⟨rfl, rfl⟩⟩, fun q hq => (by cases hq), rfl, Below.refl _ _⟩
  case round =>
    obtain ⟨k, ps, hk, rfl, how, hsp, hps, hb⟩ := hrel
    have HOW := hide3 how
    have HSP := hide3 hsp
    have HPS := hide3 hps
    have HB := hide3 hb
    have HBW : Hid (Below w.heap.size w wr) := below_then HB0.out hb
    have HBB : Hid (Below wb.heap.size wb wr) := hbb.trans (HBW.out.mono hbb.size)
    obtain ⟨ao, co, hvo⟩ := own_len how
    have hpl : ps.length = k := by have := congrArg List.length hps; rw [List.length_map] at this; unfold peersD at this; rw [List.length_map, List.length_take] at this; omega
    rw [hpl] at hvo
    subst hvo
    have HPL := hide3 hpl
    have a0 := (hb.cell (p := ⟨w.heap.size, 5, none⟩) hz0).trans b0
    have a1 := (hb.cell (p := ⟨w.heap.size + 1, 0, none⟩) hz1).trans b1
    have a2 := (hb.cell (p := ⟨w.heap.size + 1, 1, none⟩) hz1).trans b2
    have a3 := (hb.cell (p := ⟨w.heap.size + 1, 2, none⟩) hz1).trans b3
    have a4 := (hb.cell (p := ⟨w.heap.size + 1, 3, none⟩) hz1).trans b4
    clear how hsp hps hb hpl b0 b1 b2 b3 b4
    by_cases hlt : k < ds.length
    · have hki : (k : Int) < (ds.length : Int) := by omega
      obtain ⟨g, o, rfl, au, nu, cu, e0, e1, hsd, hg⟩ := HEL.out k hlt
      have a5 := (HBB.out.cell (p := ⟨g, o + k * 2, none⟩) hg).trans e0
      have a6 := (HBB.out.cell (p := ⟨g, o + k * 2 + 1, none⟩) hg).trans e1
      have HTK : Hid (peersD O (ds.take (k + 1)) = peersD O (ds.take k) ++ [⟨ds[k].nm, rangeD O ds[k]⟩]) := by
        unfold Hid peersD
        rw [List.take_succ_eq_append_getElem hlt, List.map_append]
        rfl
      have hgW : g < W.heap.size := Nat.lt_of_lt_of_le hg (Nat.le_trans hbb.size HB0.out.size)
      have hz5 := hgW
      have hz6 := hgW
      have HSD := hide3 hsd
      generalize ds[k] = d at *
      clear e0 e1 hsd
      have HRG : Hid (∀ w1, Below wb.heap.size wb w1 → Calls Tryz.prog 37 #[.agg #[.slice x1 y1 z1, .slice x2 y2 z2, .slice x3 y3 z3, .slice ad O.length cap], .agg #[.string d.nm, .slice au nu cu]] w1 fun e w' => ∃ a1 b1 c1, e = .returned (.slice a1 b1 c1) ∧ (SpansC wb (.slice a1 b1 c1) (rangeD O d) ∧ (rangeD O d).length ≤ 9223372036854775807) ∧ Below w1.heap.size w1 w') := fun w1 hb => by
        refine (rrange_any hb HO.out hlen d HSD.out.1 HSD.out.2).mono ?_
        rintro e w' ⟨a1, b1, c1, rfl, h1, h2, h3⟩
        exact ⟨a1, b1, c1, rfl, ⟨h1, h2⟩, h3⟩
      have HNE : Hid (∀ q, q < W.heap.size → some q ≠ (Value.slice ao k co).ownBlock) := fun q hq e => by have := (World.ownsRow.lt HOW.out q e.symm).1; omega
      go_wp2_with fail
      go_region_held3 (fun w' => w'.cell? ⟨w.heap.size, 5, none⟩ = some (.slice (some ⟨g, o, none⟩) ds.length r2) ∧ w'.cell? ⟨w.heap.size + 1, 0, none⟩ = some (.slice x1 y1 z1) ∧ w'.cell? ⟨w.heap.size + 1, 1, none⟩ = some (.slice x2 y2 z2) ∧ w'.cell? ⟨w.heap.size + 1, 2, none⟩ = some (.slice x3 y3 z3) ∧ w'.cell? ⟨w.heap.size + 1, 3, none⟩ = some (.slice ad O.length cap) ∧ w'.cell? ⟨g, o + k * 2, none⟩ = some (.string d.nm) ∧ w'.cell? ⟨g, o + k * 2 + 1, none⟩ = some (.slice au nu cu)) (go_keep) (first
        | (go_at_call 37; refine (HRG.out _ HBB.out.drew).mono ?_; rintro e w5 ⟨a9, b9, c9, rfl, hv5, hb5⟩; have HV5 := hide3 hv5; have HB5 : Hid (Below W.heap.size W w5) := below_then HB.out.drew hb5; have HW5 : Hid (Below wr.heap.size wr w5) := below_then (Below.refl _ _).drew hb5; have t0 := (HW5.out.cell (p := ⟨w.heap.size, 5, none⟩) (Nat.lt_of_lt_of_le hz0 HB.out.size)).trans a0; have t1 := (HW5.out.cell (p := ⟨w.heap.size + 1, 0, none⟩) (Nat.lt_of_lt_of_le hz1 HB.out.size)).trans a1; have t2 := (HW5.out.cell (p := ⟨w.heap.size + 1, 1, none⟩) (Nat.lt_of_lt_of_le hz2 HB.out.size)).trans a2; have t3 := (HW5.out.cell (p := ⟨w.heap.size + 1, 2, none⟩) (Nat.lt_of_lt_of_le hz3 HB.out.size)).trans a3; have t4 := (HW5.out.cell (p := ⟨w.heap.size + 1, 3, none⟩) (Nat.lt_of_lt_of_le hz4 HB.out.size)).trans a4; have t5 := (HW5.out.cell (p := ⟨g, o + k * 2, none⟩) (Nat.lt_of_lt_of_le hz5 HB.out.size)).trans a5; have t6 := (HW5.out.cell (p := ⟨g, o + k * 2 + 1, none⟩) (Nat.lt_of_lt_of_le hz6 HB.out.size)).trans a6; have hB5 : W.heap.size ≤ w5.heap.size := HB5.out.size; have HO5 := hide3 (own_below HOW.out HW5.out); clear hb5 hv5)
        | (refine step_own (B := W.heap.size) (M := w5.heap.size) (wx := w5) (v := .slice ao k co) (n := ps.length) infoDp Tryz.underlying32 rfl (by decide) (by decide) rfl (.tmp 14) (.tmp 29) rfl rfl HO5.out hB5 #[.string d.nm, .slice a9 b9 c9] rfl (by simp [Value.oneCell']) rfl rfl (by have := HPL.out; omega) ?_; intro v1 w7 ho hgr hat; obtain ⟨g7, cap7, rfl⟩ := own_len ho; have HO7 := hide3 ho; have HB7 : Hid (Below W.heap.size W w7) := HB5.out.grown (grown_pre (boxB _ _) hgr) HB5.out.size (fun q hq => (World.ownsRow.lt HO5.out q hq).1); have s0 := (grown_pre (boxB _ _) hgr).cell t0 (HNE.out _ hz0); have s1 := (grown_pre (boxB _ _) hgr).cell t1 (HNE.out _ hz1); have s2 := (grown_pre (boxB _ _) hgr).cell t2 (HNE.out _ hz2); have s3 := (grown_pre (boxB _ _) hgr).cell t3 (HNE.out _ hz3); have s4 := (grown_pre (boxB _ _) hgr).cell t4 (HNE.out _ hz4); have s5 := (grown_pre (boxB _ _) hgr).cell t5 (HNE.out _ hz5); have s6 := (grown_pre (boxB _ _) hgr).cell t6 (HNE.out _ hz6); clear ho hgr hat))
      all_goals go_wp2_with fail
      all_goals refine ⟨⟨k + 1, ps ++ [(⟨d.nm, rangeD O d⟩, .slice a9 b9 c9)], by omega, by go_num, ?_, ?_, ?_, HB7.out⟩, by simp [intOf]; omega⟩
      · rw [dpCells_snoc, List.length_append]
        exact HO7.out
      · intro q hq
        rcases List.mem_append.1 hq with hq | hq
        · exact HSP.out q hq
        · obtain rfl := List.mem_singleton.1 hq
          exact HV5.out
      · rw [List.map_append, HPS.out, HTK.out]
        rfl
    · obtain rfl : k = ds.length := by omega
      have hki : ¬ ((ds.length : Int) < (ds.length : Int)) := by omega
      have HPD : Hid (ps.map (·.1) = peersD O ds) := by
        unfold Hid
        rw [HPS.out, List.take_length]
      have HOE : Hid (wr.ownsRow w.heap.size 62 2 (.slice ao ds.length co) ps.length (dpCells ps)) := own_base HOW.out HB0.out.size
      go_wp2_with fail
      go_ret
      exact ⟨_, rfl, ⟨ps, HOE.out, HSP.out, HPD.out⟩, HBW.out⟩
end Go.Proofs.YtbjbhgkbnegfgaaGreatDoor
namespace Go.Proofs.YtbjbhgkbnegfgaaGreatDoor
open Go.RowKit Go.Maps Go.WideMaps
set_option maxRecDepth 100000

set_option maxHeartbeats 12800000 in
theorem peers_any {w : World} {O : List Dp} {x1 x2 x3 : Option Addr} {y1 y2 y3 z1 z2 z3 : Nat} {v4 : Value} (h : DepsAt w v4 O) (hlen : O.length ≤ 9223372036854775807) (hn : ∀ d ∈ O, d.nm.size ≤ 9223372036854775807) {ds : List Dp} (nm : ByteArray) (a b c : Int) {p1 p2 p3 : Option Addr} {q1 r1 r2 q3 r3 : Nat} (hp : DepsAt w (.slice p2 ds.length r2) ds) (hfit : FitP O ds) : Calls Tryz.prog 32 #[.agg #[.string nm, .int .i64 a, .int .i64 b, .int .i64 c, .slice p1 q1 r1, .slice p2 ds.length r2, .slice p3 q3 r3], .agg #[.slice x1 y1 z1, .slice x2 y2 z2, .slice x3 y3 z3, v4]] w fun e w' => ∃ v, e = .returned v ∧ ∃ ps, OwnD w' w.heap.size v ps ∧ ps.map (·.1) = peersD O ds ∧ Below w.heap.size w w' := by
  obtain ⟨ad, cap, rfl, hcap, _⟩ := h.el
  have HB0 : Hid (Below w.heap.size w ((w.alloc (.cells #[.string nm, .int .i64 a, .int .i64 b, .int .i64 c, .slice p1 q1 r1, .slice p2 ds.length r2, .slice p3 q3 r3] 34)).alloc (.cells #[.slice x1 y1 z1, .slice x2 y2 z2, .slice x3 y3 z3, .slice ad O.length cap] 54))) := boxB2 _ _ _
  have HOV : Hid (Calls Tryz.prog 71 #[.agg #[.slice x1 y1 z1, .slice x2 y2 z2, .slice x3 y3 z3, .slice ad O.length cap]] ((w.alloc (.cells #[.string nm, .int .i64 a, .int .i64 b, .int .i64 c, .slice p1 q1 r1, .slice p2 ds.length r2, .slice p3 q3 r3] 34)).alloc (.cells #[.slice x1 y1 z1, .slice x2 y2 z2, .slice x3 y3 z3, .slice ad O.length cap] 54)) fun e w' => ∃ M, e = .returned (.agg #[.slice ad O.length cap, .map (some M)]) ∧ (∃ n, SmAt w' M n (.int .i64 0) (firstI O)) ∧ Below ((w.alloc (.cells #[.string nm, .int .i64 a, .int .i64 b, .int .i64 c, .slice p1 q1 r1, .slice p2 ds.length r2, .slice p3 q3 r3] 34)).alloc (.cells #[.slice x1 y1 z1, .slice x2 y2 z2, .slice x3 y3 z3, .slice ad O.length cap] 54)).heap.size ((w.alloc (.cells #[.string nm, .int .i64 a, .int .i64 b, .int .i64 c, .slice p1 q1 r1, .slice p2 ds.length r2, .slice p3 q3 r3] 34)).alloc (.cells #[.slice x1 y1 z1, .slice x2 y2 z2, .slice x3 y3 z3, .slice ad O.length cap] 54)) w') := (ovs_any (h.below HB0.out) hlen hn).mono fun e w' ⟨h1, h2, h3⟩ => ⟨_, h1, h2, h3⟩
  have HOW := hide3 h
  have HDS := hide3 hp
  have HFD := hide3 hfit.2
  have hfl := hfit.1
  have HCL : Hid (∀ (W : World) (u : Value) (R : List Sp), SpansC W u R → R.length * 48 ≤ 140737488355328 → Calls Tryz.prog 76 #[u] W fun e w' => ∃ v', e = .returned v' ∧ OwnS w' W.heap.size v' R ∧ Below W.heap.size W w') := fun W u R hu hr => cloneS_big hu hr
  have HSC : Hid (∀ (s : ByteArray) (W : World), s.size ≤ 281474976710656 → Calls Tryz.prog 75 #[.string s] W fun e w' => e = .returned (.string s) ∧ Below W.heap.size W w') := fun s W hs => strClone_any s hs W
  have b0 : ((w.alloc (.cells #[.string nm, .int .i64 a, .int .i64 b, .int .i64 c, .slice p1 q1 r1, .slice p2 ds.length r2, .slice p3 q3 r3] 34)).alloc (.cells #[.slice x1 y1 z1, .slice x2 y2 z2, .slice x3 y3 z3, .slice ad O.length cap] 54)).cell? ⟨w.heap.size, 5, none⟩ = some (.slice p2 ds.length r2) := by simp
  have hbl0 : w.heap.size < ((w.alloc (.cells #[.string nm, .int .i64 a, .int .i64 b, .int .i64 c, .slice p1 q1 r1, .slice p2 ds.length r2, .slice p3 q3 r3] 34)).alloc (.cells #[.slice x1 y1 z1, .slice x2 y2 z2, .slice x3 y3 z3, .slice ad O.length cap] 54)).heap.size := by simp; omega
  clear h hp hfit hn
  go_enter Tryz.func32, Tryz.ntmps32
  go_upto_region 1 with fail
  have e0 : ((w.alloc (.cells #[.string nm, .int .i64 a, .int .i64 b, .int .i64 c, .slice p1 q1 r1, .slice p2 ds.length r2, .slice p3 q3 r3] 34)).alloc (.cells #[.slice x1 y1 z1, .slice x2 y2 z2, .slice x3 y3 z3, .slice ad O.length cap] 54)).cell? ⟨w.heap.size + 1, 0, none⟩ = some (.slice x1 y1 z1) := (new_cell (by simp) rfl).1
  have e1 : ((w.alloc (.cells #[.string nm, .int .i64 a, .int .i64 b, .int .i64 c, .slice p1 q1 r1, .slice p2 ds.length r2, .slice p3 q3 r3] 34)).alloc (.cells #[.slice x1 y1 z1, .slice x2 y2 z2, .slice x3 y3 z3, .slice ad O.length cap] 54)).cell? ⟨w.heap.size + 1, 1, none⟩ = some (.slice x2 y2 z2) := (new_cell (by simp) rfl).1
  have e2 : ((w.alloc (.cells #[.string nm, .int .i64 a, .int .i64 b, .int .i64 c, .slice p1 q1 r1, .slice p2 ds.length r2, .slice p3 q3 r3] 34)).alloc (.cells #[.slice x1 y1 z1, .slice x2 y2 z2, .slice x3 y3 z3, .slice ad O.length cap] 54)).cell? ⟨w.heap.size + 1, 2, none⟩ = some (.slice x3 y3 z3) := (new_cell (by simp) rfl).1
  have e3 : ((w.alloc (.cells #[.string nm, .int .i64 a, .int .i64 b, .int .i64 c, .slice p1 q1 r1, .slice p2 ds.length r2, .slice p3 q3 r3] 34)).alloc (.cells #[.slice x1 y1 z1, .slice x2 y2 z2, .slice x3 y3 z3, .slice ad O.length cap] 54)).cell? ⟨w.heap.size + 1, 3, none⟩ = some (.slice ad O.length cap) := (new_cell (by simp) rfl).1
  generalize ((w.alloc (.cells #[.string nm, .int .i64 a, .int .i64 b, .int .i64 c, .slice p1 q1 r1, .slice p2 ds.length r2, .slice p3 q3 r3] 34)).alloc (.cells #[.slice x1 y1 z1, .slice x2 y2 z2, .slice x3 y3 z3, .slice ad O.length cap] 54)) = WA at *
  go_upto_region 2 with (go_at_call 71; refine HOV.out.mono ?_; rintro e w1 ⟨M, rfl, ⟨n, hsm⟩, hb1⟩; have HSM := hide3 hsm; have HB1 := hide3 hb1; clear hsm hb1)
  have HWW : Hid (Below WA.heap.size WA (w1.alloc (.cells #[.slice ad O.length cap, .map (some M)] 117))) := below_then HB1.out (boxB _ _)
  have b1 := (HWW.out.cell (p := ⟨w.heap.size, 5, none⟩) hbl0).trans b0
  have HSW : Hid (SmAt (w1.alloc (.cells #[.slice ad O.length cap, .map (some M)] 117)) M n (.int .i64 0) (firstI O)) := HSM.out.below (boxB _ _)
  have k0 : (w1.alloc (.cells #[.slice ad O.length cap, .map (some M)] 117)).cell? ⟨w1.heap.size, 0, none⟩ = some (.slice ad O.length cap) := by simp
  have k1 : (w1.alloc (.cells #[.slice ad O.length cap, .map (some M)] 117)).cell? ⟨w1.heap.size, 1, none⟩ = some (.map (some M)) := by simp
  have hkl : w1.heap.size < (w1.alloc (.cells #[.slice ad O.length cap, .map (some M)] 117)).heap.size := by simp
  have HOV2 : Hid (Below w.heap.size w (w1.alloc (.cells #[.slice ad O.length cap, .map (some M)] 117))) := below_then HB0.out HWW.out
  obtain ⟨KB, hKB⟩ : ∃ k, k = w1.heap.size := ⟨_, rfl⟩
  rw [← hKB] at k0 k1 hkl
  rw [← hKB]
  generalize (w1.alloc (.cells #[.slice ad O.length cap, .map (some M)] 117)) = W at *
  clear hKB e0 e1 e2 e3 b0 HOV HB0
  go_wp2_with fail
  have HEL : Hid (∀ k (_ : k < ds.length), ∃ g o, p2 = some ⟨g, o, none⟩ ∧ ∃ au nu cu, DpIn W g (o + k * 2) ds[k] (.slice au nu cu)) := by
    obtain ⟨ad', cap', e, _, hel⟩ := (HDS.out.below HOV2.out).el
    injection e with e1 _ _
    subst e1
    exact hel
  have HDO : Hid (DepsAt W (.slice ad O.length cap) O) := HOW.out.below HOV2.out
  go_loopw [6, 14] (fun vo vi wr => ∃ (k : Nat) (ps : List (Dp × Value)), k ≤ ds.length ∧ vi = .int .i64 k ∧ OwnD wr W.heap.size vo ps ∧ ps.map (·.1) = peersD O (ds.take k) ∧ Below W.heap.size W wr) (fun _ vi _ => ds.length - (intOf vi).toNat)
  case atStart => exact ⟨0, [], Nat.zero_le _, rfl, OwnD.nil _ _, rfl, Below.refl _ _⟩
  case round =>
    obtain ⟨k, ps, hk, rfl, hod, hps, hb⟩ := hrel
    obtain ⟨ao, co, rfl⟩ := hod.len
    have HBR := hide3 hb
    have HOD := hide3 hod
    have HPS := hide3 hps
    have hpl : ps.length = k := by have := congrArg List.length hps; unfold peersD at this; rw [List.length_map, List.length_map, List.length_take] at this; omega
    have hpz : ps.length ≤ 100000000 := by omega
    clear hb hod hps hpl
    by_cases hlt : k < ds.length
    · have hki : (k : Int) < (ds.length : Int) := by omega
      obtain ⟨g, o, rfl, au, nu, cu, c0, c1, hsp, hg⟩ := HEL.out k hlt
      obtain ⟨hz1, hz2⟩ := HFD.out _ (List.getElem_mem hlt)
      have HTK : Hid (peersD O (ds.take (k + 1)) = peersD O (ds.take k) ++ [⟨ds[k].nm, rangeD O ds[k]⟩]) := by
        unfold Hid peersD
        rw [List.take_succ_eq_append_getElem hlt, List.map_append]
        rfl
      obtain ⟨d, hd⟩ : ∃ d, d = ds[k] := ⟨_, rfl⟩
      rw [← hd] at c0 hsp hz1 hz2 HTK
      have d0 := (HBR.out.cell (p := ⟨g, o + k * 2, none⟩) hg).trans c0
      have d1 := (HBR.out.cell (p := ⟨g, o + k * 2 + 1, none⟩) hg).trans c1
      have HDL : Hid (d.rg.length ≤ 9223372036854775807 ∧ d.nm.size ≤ 9223372036854775807) := ⟨hsp.2, by omega⟩
      have HKD : Hid (KeepP fun X => ((Below W.heap.size W X ∧ OwnD X W.heap.size (.slice ao ps.length co) ps) ∧ (SmAt X M n (.int .i64 0) (firstI O) ∧ DepsAt X (.slice ad O.length cap) O)) ∧ SpansC X (.slice au nu cu) d.rg) := fun p q hx hpq => ⟨⟨⟨below_then hx.1.1.1 hpq, hx.1.1.2.below hpq⟩, hx.1.2.1.below hpq, hx.1.2.2.below hpq⟩, hx.2.below hpq⟩
      have HO0 : Hid (((Below W.heap.size W wr ∧ OwnD wr W.heap.size (.slice ao ps.length co) ps) ∧ (SmAt wr M n (.int .i64 0) (firstI O) ∧ DepsAt wr (.slice ad O.length cap) O)) ∧ SpansC wr (.slice au nu cu) d.rg) := ⟨⟨⟨HBR.out, HOD.out⟩, HSW.out.below HBR.out, HDO.out.below HBR.out⟩, hsp.1.below HBR.out⟩
      have HO : Hid (((Below W.heap.size W (wr.alloc (.cells #[.string d.nm, .slice au nu cu] 62)).drew ∧ OwnD (wr.alloc (.cells #[.string d.nm, .slice au nu cu] 62)).drew W.heap.size (.slice ao ps.length co) ps) ∧ (SmAt (wr.alloc (.cells #[.string d.nm, .slice au nu cu] 62)).drew M n (.int .i64 0) (firstI O) ∧ DepsAt (wr.alloc (.cells #[.string d.nm, .slice au nu cu] 62)).drew (.slice ad O.length cap) O)) ∧ SpansC (wr.alloc (.cells #[.string d.nm, .slice au nu cu] 62)).drew (.slice au nu cu) d.rg) := HKD.out _ _ (HKD.out _ _ HO0.out (boxB _ _)) (Below.refl _ _).drew
      have hkr : KB < wr.heap.size := Nat.lt_of_lt_of_le hkl HBR.out.size
      have HBX : Hid (∀ X, Below (wr.alloc (.cells #[.string d.nm, .slice au nu cu] 62)).heap.size (wr.alloc (.cells #[.string d.nm, .slice au nu cu] 62)) X → X.cell? ⟨wr.heap.size, 0, none⟩ = some (.string d.nm) ∧ X.cell? ⟨wr.heap.size, 1, none⟩ = some (.slice au nu cu) ∧ X.cell? ⟨KB, 0, none⟩ = some (.slice ad O.length cap) ∧ X.cell? ⟨KB, 1, none⟩ = some (.map (some M))) := fun X hb => by
        have hq : Below W.heap.size W X := below_then (below_then HBR.out (boxB _ _)) hb
        exact ⟨(hb.cell (p := ⟨wr.heap.size, 0, none⟩) (by simp)).trans (by simp), (hb.cell (p := ⟨wr.heap.size, 1, none⟩) (by simp)).trans (by simp), (hq.cell (p := ⟨KB, 0, none⟩) hkl).trans k0, (hq.cell (p := ⟨KB, 1, none⟩) hkl).trans k1⟩
      have HBB : Hid (Below (wr.alloc (.cells #[.string d.nm, .slice au nu cu] 62)).heap.size (wr.alloc (.cells #[.string d.nm, .slice au nu cu] 62)) (wr.alloc (.cells #[.string d.nm, .slice au nu cu] 62)).drew) := (Below.refl _ _).drew
      have m0 := (HBR.out.cell (p := ⟨KB, 0, none⟩) hkl).trans k0
      have m1 := (HBR.out.cell (p := ⟨KB, 1, none⟩) hkl).trans k1
      have hle : W.heap.size ≤ wr.heap.size := HBR.out.size
      have HNE : Hid (∀ q, (q = wr.heap.size ∨ q = KB) → some q ≠ (Value.slice ao ps.length co).ownBlock) := fun q hq e => by
        have := HOD.out.1.lt _ e.symm
        omega
      have HRO : Hid (∀ X, (((Below W.heap.size W X ∧ OwnD X W.heap.size (.slice ao ps.length co) ps) ∧ (SmAt X M n (.int .i64 0) (firstI O) ∧ DepsAt X (.slice ad O.length cap) O)) ∧ SpansC X (.slice au nu cu) d.rg) → Calls Tryz.prog 77 #[.agg #[.slice ad O.length cap, .map (some M)], .agg #[.string d.nm, .slice au nu cu]] X fun e w' => ∃ a9 b9 c9, e = .returned (.slice a9 b9 c9) ∧ SpansC w' (.slice a9 b9 c9) (rangeD O d) ∧ Below X.heap.size X w') := fun X hx => (range_any hx.1.2.2 hx.1.2.1 d hx.2 HDL.out.1 HDL.out.2).mono fun e w' hq => by
        obtain ⟨v, h1, h2, h3, h4⟩ := hq
        have h2' := h2
        obtain ⟨⟨a9, c9, rfl, _⟩, _⟩ := h2
        exact ⟨a9, _, c9, h1, h2', h4⟩
      have HFIN : Hid (∀ (w6 w7 : World) (vs v1 : Value), (((Below W.heap.size W w6 ∧ OwnD w6 W.heap.size (.slice ao ps.length co) ps) ∧ (SmAt w6 M n (.int .i64 0) (firstI O) ∧ DepsAt w6 (.slice ad O.length cap) O)) ∧ SpansC w6 (.slice au nu cu) d.rg) → OwnS w6 W.heap.size vs (rangeD O d) → w7.ownsRow W.heap.size 62 2 v1 (ps.length + 1) (dpCells ps ++ [.string d.nm, vs]) → w6.grownBy w7 (Value.slice ao ps.length co).ownBlock → OwnD w7 W.heap.size v1 (ps ++ [(Dp.mk d.nm (rangeD O d), vs)]) ∧ (ps ++ [(Dp.mk d.nm (rangeD O d), vs)]).map (·.1) = peersD O (ds.take (k + 1)) ∧ Below W.heap.size W w7) := fun w6 w7 vs v1 h6 hs ho hg => ⟨OwnD.snoc (d := Dp.mk d.nm (rangeD O d)) h6.1.1.2 hs ho hg, by rw [List.map_append, HPS.out, HTK.out]; rfl, h6.1.1.1.trans (below_grown hg (fun g e => (h6.1.1.2.1.lt g e).1) h6.1.1.1.size)⟩
      clear hcap hd
      go_wp2_with fail
      go_region_held3 (fun w' => w'.cell? ⟨wr.heap.size, 0, none⟩ = some (.string d.nm) ∧ w'.cell? ⟨wr.heap.size, 1, none⟩ = some (.slice au nu cu) ∧ w'.cell? ⟨KB, 0, none⟩ = some (.slice ad O.length cap) ∧ w'.cell? ⟨KB, 1, none⟩ = some (.map (some M))) (go_keep) (first
        | (refine step_own (B := W.heap.size) (M := w7.heap.size) (wx := w7) (v := .slice ao ps.length co) infoDp Tryz.underlying32 rfl (by decide) (by decide) rfl (.tmp 18) (.tmp 27) rfl rfl HO7.out.1.1.2.1 hB7 #[.string d.nm, .slice a7 n7 c7] rfl (by simp [Value.oneCell']) rfl rfl (by omega) ?_; intro v1 w8 ho hgr hat; obtain ⟨g8, cap8, rfl, _⟩ := ho.form (by omega); have HP := hide3 (HFIN.out _ _ _ _ HO7.out HS7.out ho (grown_pre (boxB _ _) hgr)); have z0 := (grown_pre (boxB _ _) hgr).cell y0 (HNE.out _ (Or.inl rfl)); have z1 := (grown_pre (boxB _ _) hgr).cell y1 (HNE.out _ (Or.inl rfl)); have z2 := (grown_pre (boxB _ _) hgr).cell y2 (HNE.out _ (Or.inr rfl)); have z3 := (grown_pre (boxB _ _) hgr).cell y3 (HNE.out _ (Or.inr rfl)); clear ho hgr hat)
        | (go_at_call 76; refine (HCL.out _ _ _ HV6.out hz2).mono ?_; rintro e w7 ⟨vs, rfl, hos, hb7⟩; have HB7 := hide3 (below_then HB6.out hb7); have HO7 := hide3 (HKD.out _ _ HO6.out hb7); obtain ⟨y0, y1, y2, y3⟩ := HBX.out _ HB7.out; have HS7 : Hid (OwnS w7 W.heap.size vs (rangeD O d)) := hos.base HO6.out.1.1.1.size; obtain ⟨a7, c7, hvs, _, _⟩ := hos.sp; obtain ⟨n7, hn7⟩ : ∃ n, n = (rangeD O d).length := ⟨_, rfl⟩; rw [← hn7] at hvs; subst hvs; have hB7 : W.heap.size ≤ w7.heap.size := HO7.out.1.1.1.size; clear hb7 hos hn7)
        | (go_at_call 77; refine (HRO.out _ HO5.out).mono ?_; rintro e w6 ⟨a9, b9, c9, rfl, hv6, hb6⟩; have HV6 := hide3 hv6; have HB6 := hide3 (below_then HB5.out hb6); have HO6 := hide3 (HKD.out _ _ HO5.out hb6); obtain ⟨t0, t1, t2, t3⟩ := HBX.out _ HB6.out; clear hb6 hv6)
        | (go_at_call 75; refine (HSC.out _ _ hz1).mono ?_; rintro e w5 ⟨rfl, hb5⟩; have HB5 := hide3 (below_then HBB.out hb5); have HO5 := hide3 (HKD.out _ _ HO.out hb5); obtain ⟨x0, x1, x2, x3⟩ := HBX.out _ HB5.out; clear hb5))
      all_goals go_wp2
      all_goals exact ⟨⟨k + 1, _, by omega, by go_num, HP.out.1, HP.out.2.1, HP.out.2.2⟩, by simp [intOf]; omega⟩
    · obtain rfl : k = ds.length := by omega
      have HPL : Hid (ps.map (·.1) = peersD O ds) := by
        unfold Hid
        rw [HPS.out, List.take_length]
      have hki : ¬ ((ds.length : Int) < (ds.length : Int)) := by omega
      clear HPS
      go_wp2
      go_ret
      exact ⟨_, rfl, ps, HOD.out.base HOV2.out.size, HPL.out, below_then HOV2.out HBR.out⟩
end Go.Proofs.YtbjbhgkbnegfgaaGreatDoor
