/- Dd5, laid in one text. -/
import Derived.Test.YtpaoimhebheaeaaGreatDoorMg04
namespace Go.Proofs.YtpaoimhebheaeaaGreatDoor.Dk
open Go.RowKit Go.Maps
set_option maxRecDepth 100000

set_option maxHeartbeats 2000000 in
theorem put_walk {B : Nat} {w : World} {e g cap : Nat} {rv : Value} {fs : List Fl} {rs : List (Int × ByteArray × ByteArray)} {left : Int} (h : IsRef B w e (.slice (some ⟨g, 0, none⟩) fs.length cap) rv fs rs left) (fp : ByteArray) (fc : Bool) (ft : ByteArray) (gone : Bool) (hlen : fs.length < 2199023255552) :
    Calls Tryz.prog 54 #[.pointer (some ⟨e, 0, none⟩), .agg #[.string fp, .bool fc, .string ft], .bool gone] w fun e' w' => e' = .returned (.tuple #[]) ∧
      ∃ lv' w1, w1.ownsRow (w.heap.size + 1) 83 3 lv' (putD fs (fp, fc, ft) gone).length (fileCells (putD fs (fp, fc, ft) gone)) ∧ Below w.heap.size w w1 ∧ w' = w1.setCell ⟨e, 0, none⟩ lv' := by
  obtain ⟨i0, hi, hz0, hz1, hz2⟩ := info_parts infoFile
  have c0 := h.c0
  have f0 := h.f0
  have le := h.lt
  have HL := hide3 h.lrow
  have HH := hide3 h
  clear h
  have HFX : Hid (∀ wr, Below (w.heap.size + 1) (w.alloc (.cells #[.string fp, .bool fc, .string ft] 83)) wr → wr.cell? ⟨e, 0, none⟩ = some (.slice (some ⟨g, 0, none⟩) fs.length cap) ∧ wr.frozen? ⟨e, 0, none⟩ = false ∧
      wr.cell? ⟨w.heap.size, 0, none⟩ = some (.string fp) ∧ wr.cell? ⟨w.heap.size, 1, none⟩ = some (.bool fc) ∧ wr.cell? ⟨w.heap.size, 2, none⟩ = some (.string ft) ∧
      ∀ k (hk : k < fs.length), wr.cell? ⟨g, k * 3, none⟩ = some (.string fs[k].1) ∧ wr.cell? ⟨g, k * 3 + 1, none⟩ = some (.bool fs[k].2.1) ∧ wr.cell? ⟨g, k * 3 + 1 + 1, none⟩ = some (.string fs[k].2.2)) := by
    intro wr hb
    have hg : fs.length ≠ 0 → g < w.heap.size := fun _ => (row_lt HL.out (k := g) rfl).1
    have q : ∀ b o, b < w.heap.size → wr.cell? ⟨b, o, none⟩ = w.cell? ⟨b, o, none⟩ := fun b o hb' => by
      rw [hb.cell (p := ⟨b, o, none⟩) (by simp only; omega), (alloc_below w _).cell (p := ⟨b, o, none⟩) hb']
    have qf : wr.frozen? ⟨e, 0, none⟩ = false := by
      rw [hb.frozen (p := ⟨e, 0, none⟩) (by simp only; omega), (alloc_below w _).frozen (p := ⟨e, 0, none⟩) le]; exact f0
    have qn : ∀ o, wr.cell? ⟨w.heap.size, o, none⟩ = (#[Value.string fp, .bool fc, .string ft])[o]? := fun o => by
      rw [hb.cell (p := ⟨w.heap.size, o, none⟩) (by simp only; omega), World.cell?_alloc_new]
    refine ⟨by rw [q e 0 le]; exact c0, qf, by rw [qn]; rfl, by rw [qn]; rfl, by rw [qn]; rfl, fun k hk => ?_⟩
    obtain ⟨a0, a1, a2⟩ := file_cells HL.out k hk
    have hgl := hg (by omega)
    exact ⟨by rw [q g _ hgl]; exact a0, by rw [q g _ hgl]; exact a1, by rw [q g _ hgl]; exact a2⟩
  clear HH HL c0 f0
  go_enter Tryz.func54, Tryz.ntmps54
  obtain ⟨c0, _, _⟩ := HFX.out _ (Below.refl _ _)
  go_wp2_with fail
  go_loopw [6, 7, 8] (fun v dn i wr => ∃ k : Nat, k ≤ fs.length ∧ i = .int .i64 k ∧ dn = .bool (putTo (fs.take k) (fp, fc, ft) gone).2 ∧
      wr.ownsRow (w.heap.size + 1) 83 3 v (putTo (fs.take k) (fp, fc, ft) gone).1.length (fileCells (putTo (fs.take k) (fp, fc, ft) gone).1) ∧ Below (w.heap.size + 1) (w.alloc (.cells #[.string fp, .bool fc, .string ft] 83)) wr ∧ (putTo (fs.take k) (fp, fc, ft) gone).1.length ≤ k + 1 ∧ ((putTo (fs.take k) (fp, fc, ft) gone).2 = false → (putTo (fs.take k) (fp, fc, ft) gone).1.length ≤ k))
    (fun _ _ i _ => fs.length - (intOf i).toNat)
  case atStart => exact ⟨0, Nat.zero_le _, rfl, rfl, ⟨rfl, Or.inl ⟨rfl, rfl⟩⟩, Below.refl _ _, by simp [putTo], fun _ => by simp [putTo]⟩
  case round =>
    obtain ⟨k, hk, rfl, rfl, hrow, hb, hol, hof⟩ := hrel
    obtain ⟨o0, d0, hst⟩ : ∃ o d, putTo (fs.take k) (fp, fc, ft) gone = (o, d) := ⟨_, _, rfl⟩
    rw [hst] at hrow hol hof
    obtain ⟨c1, c2, b0, b1, b2, hfx⟩ := HFX.out wr hb
    by_cases hlt : k < fs.length
    · have HNX : Hid (putTo (fs.take (k + 1)) (fp, fc, ft) gone = putStep (fp, fc, ft) (o0, d0) fs[k]) := by unfold Hid; rw [putTo_snoc fs _ _ k hlt, hst]
      obtain ⟨a0, a1, a2⟩ := hfx k hlt
      have HROW := hide3 hrow
      have HB := hide3 hb
      rw [hst]
      simp only at hol hof
      have HOF := hide3 hof
      clear hof
      obtain ⟨xp, xc, xt, hx⟩ : ∃ xp xc xt, fs[k] = (xp, xc, xt) := ⟨_, _, _, rfl⟩
      have HX := hide3 hx
      rw [hx] at HNX a0 a1 a2
      simp only at a0 a1 a2
      clear hfx hrow hb hst c0 hx
      have tok1 : True := trivial
      have tok2 : True := trivial
      have RW : Hid (∀ (wr : World) (v : Value) (o : List Fl), wr.ownsRow (w.heap.size + 1) 83 3 v o.length (fileCells o) → ∀ nq O, ((wr.drewN nq).alloc O).ownsRow (w.heap.size + 1) 83 3 v o.length (fileCells o)) := fun wr v o h nq O => (show (wr.drewN nq).ownsRow (w.heap.size + 1) 83 3 v o.length (fileCells o) from h).alloc O
      have NW : Hid (∀ (wr : World) (nq : Nat) (a : ByteArray) (b : Bool) (c : ByteArray) j u, [Value.string a, .bool b, .string c][j]? = some u → ((wr.drewN nq).alloc (.cells #[.string a, .bool b, .string c] 83)).cell? ((⟨wr.heap.size, 0, none⟩ : Addr).add j) = some u) := fun wr nq a b c =>
        World.news_of_block (cs := #[.string a, .bool b, .string c]) (t := 83) (fr := (0, 0)) (by
          show (wr.heap.push _)[wr.heap.size]? = _
          rw [Array.getElem?_push, if_pos rfl])
      have SZ : Hid (∀ wr, Below (w.heap.size + 1) (w.alloc (.cells #[.string fp, .bool fc, .string ft] 83)) wr → ∀ nq O, w.heap.size + 1 ≤ ((wr.drewN nq).alloc O).heap.size) := fun wr hb nq O => by
        have := hb.size
        simp at this ⊢; omega
      have GW : Hid (∀ wr, Below (w.heap.size + 1) (w.alloc (.cells #[.string fp, .bool fc, .string ft] 83)) wr → ∀ (v : Value) (n : Nat) (xs : List Value), wr.ownsRow (w.heap.size + 1) 83 3 v n xs → ∀ nq O w1, ((wr.drewN nq).alloc O).grownBy w1 v.ownBlock → Below (w.heap.size + 1) (w.alloc (.cells #[.string fp, .bool fc, .string ft] 83)) w1) := fun wr hb v n xs hr nq O w1 hg =>
        ((below_drewN hb nq).alloc (by have := hb.size; simp at this ⊢; omega) O).grown hg (by have := hb.size; simp at this ⊢; omega) (fun j hj => (row_lt hr hj).2)
      cases hle : Op.bytesLess xp.toList fp.toList
      · have hle' : (!Op.bytesLess xp.toList fp.toList) = true := by rw [hle]; rfl
        cases d0
        · cases heq : (xp.toList == fp.toList)
          · have hne : (xp.toList != fp.toList) = true := by rw [bne, heq]; rfl
            go_wp2_with fail
            go_quiet (fail)
            go_wp2_with (first | (at_builtin; have _t := tok1; refine wpList_append_own _ rfl _ _ 22 rfl (w.heap.size + 1) 83 i0 (.agg #[.string ByteArray.empty, .bool false, .string ByteArray.empty]) 3 40 Tryz.underlying22 hi hz0 hz1 hz2 rfl (by decide) _ _ _ rfl (RW.out wr _ _ HROW.out _ (.cells #[.string fp, .bool fc, .string ft] 83)) ⟨wr.heap.size, 0, none⟩ 1 1 [.string fp, .bool fc, .string ft] rfl rfl (NW.out wr _ fp fc ft) (by simp [Value.oneCell']) (by unfold maxLen; omega) (by omega) (SZ.out wr HB.out _ _) ?_; intro v1 w1 hown1 hg1 _; have HB1 := hide3 (GW.out wr HB.out _ _ _ HROW.out _ _ w1 hg1); have HOWN1 : Hid (w1.ownsRow (w.heap.size + 1) 83 3 v1 (o0 ++ [((fp, fc, ft) : Fl)]).length (fileCells (o0 ++ [((fp, fc, ft) : Fl)]))) := (by unfold Hid; rw [fileCells_snoc, List.length_append]; exact hown1); obtain ⟨c1', c2', b0', b1', b2', hfx'⟩ := HFX.out w1 HB1.out; obtain ⟨a0', a1', a2'⟩ := hfx' k hlt; rw [HX.out] at a0' a1' a2'; simp only at a0' a1' a2'; clear tok1 hown1 hg1 hfx' c1 c2 b0 b1 b2 a0 a1 a2) | fail)
            go_quiet (fail)
            go_wp2_with (first | (at_builtin; have _t := tok2; refine wpList_append_own _ rfl _ _ 22 rfl (w.heap.size + 1) 83 i0 (.agg #[.string ByteArray.empty, .bool false, .string ByteArray.empty]) 3 40 Tryz.underlying22 hi hz0 hz1 hz2 rfl (by decide) _ _ _ rfl (RW.out w1 _ _ HOWN1.out _ (.cells #[.string xp, .bool xc, .string xt] 83)) ⟨w1.heap.size, 0, none⟩ 1 1 [.string xp, .bool xc, .string xt] rfl rfl (NW.out w1 _ xp xc xt) (by simp [Value.oneCell']) (by unfold maxLen; rw [List.length_append]; simp only [List.length_cons, List.length_nil]; omega) (by rw [List.length_append]; simp only [List.length_cons, List.length_nil]; omega) (SZ.out w1 HB1.out _ _) ?_; intro v2 w2 hown2 hg2 _; have HB2 := hide3 (GW.out w1 HB1.out _ _ _ HOWN1.out _ _ w2 hg2); clear tok2; go_frame) | fail)
            have HS : putTo (fs.take (k + 1)) (fp, fc, ft) gone = (o0 ++ [((fp, fc, ft) : Fl)] ++ [((xp, xc, xt) : Fl)], true) := by rw [HNX.out]; simp [putStep, hle, heq]
            have ho2 := HOF.out
            refine ⟨⟨k + 1, by omega, by go_num, by rw [HS], ?_, ?_, ?_, ?_⟩, by simp [intOf]; omega⟩
            · rw [HS, fileCells_snoc, List.length_append]; exact hown2
            · exact HB2.out
            · rw [HS]; simp; have := ho2 trivial; omega
            · rw [HS]; intro h; cases h
          · have hne : (xp.toList != fp.toList) = false := by rw [bne, heq]; rfl
            go_wp2_with fail
            go_quiet (fail)
            go_wp2_with (first | (at_builtin; have _t := tok1; refine wpList_append_own _ rfl _ _ 22 rfl (w.heap.size + 1) 83 i0 (.agg #[.string ByteArray.empty, .bool false, .string ByteArray.empty]) 3 40 Tryz.underlying22 hi hz0 hz1 hz2 rfl (by decide) _ _ _ rfl (RW.out wr _ _ HROW.out _ (.cells #[.string fp, .bool fc, .string ft] 83)) ⟨wr.heap.size, 0, none⟩ 1 1 [.string fp, .bool fc, .string ft] rfl rfl (NW.out wr _ fp fc ft) (by simp [Value.oneCell']) (by unfold maxLen; omega) (by omega) (SZ.out wr HB.out _ _) ?_; intro v1 w1 hown1 hg1 _; have HB1 := hide3 (GW.out wr HB.out _ _ _ HROW.out _ _ w1 hg1); have HOWN1 : Hid (w1.ownsRow (w.heap.size + 1) 83 3 v1 (o0 ++ [((fp, fc, ft) : Fl)]).length (fileCells (o0 ++ [((fp, fc, ft) : Fl)]))) := (by unfold Hid; rw [fileCells_snoc, List.length_append]; exact hown1); obtain ⟨c1', c2', b0', b1', b2', hfx'⟩ := HFX.out w1 HB1.out; obtain ⟨a0', a1', a2'⟩ := hfx' k hlt; rw [HX.out] at a0' a1' a2'; simp only at a0' a1' a2'; clear tok1 hown1 hg1 hfx' c1 c2 b0 b1 b2 a0 a1 a2) | fail)
            go_quiet (fail)
            go_wp2_with fail
            have HS : putTo (fs.take (k + 1)) (fp, fc, ft) gone = (o0 ++ [((fp, fc, ft) : Fl)], true) := by rw [HNX.out]; simp [putStep, hle, heq]
            have ho2 := HOF.out
            refine ⟨⟨k + 1, by omega, by go_num, by rw [HS], ?_, ?_, ?_, ?_⟩, by simp [intOf]; omega⟩
            · rw [HS]; exact HOWN1.out
            · exact below_drewN HB1.out _
            · rw [HS]; simp; have := ho2 trivial; omega
            · rw [HS]; intro h; cases h
        · cases heq : (xp.toList == fp.toList)
          · have hne : (xp.toList != fp.toList) = true := by rw [bne, heq]; rfl
            go_wp2_with fail
            go_quiet (fail)
            go_wp2_with fail
            go_quiet (fail)
            go_wp2_with (first | (at_builtin; have _t := tok2; refine wpList_append_own _ rfl _ _ 22 rfl (w.heap.size + 1) 83 i0 (.agg #[.string ByteArray.empty, .bool false, .string ByteArray.empty]) 3 40 Tryz.underlying22 hi hz0 hz1 hz2 rfl (by decide) _ _ _ rfl (RW.out wr _ _ HROW.out _ (.cells #[.string xp, .bool xc, .string xt] 83)) ⟨wr.heap.size, 0, none⟩ 1 1 [.string xp, .bool xc, .string xt] rfl rfl (NW.out wr _ xp xc xt) (by simp [Value.oneCell']) (by unfold maxLen; omega) (by omega) (SZ.out wr HB.out _ _) ?_; intro v2 w2 hown2 hg2 _; have HB2 := hide3 (GW.out wr HB.out _ _ _ HROW.out _ _ w2 hg2); clear tok2; go_frame) | fail)
            have HS : putTo (fs.take (k + 1)) (fp, fc, ft) gone = (o0 ++ [((xp, xc, xt) : Fl)], true) := by rw [HNX.out]; simp [putStep, hle, heq]
            have ho2 := HOF.out
            refine ⟨⟨k + 1, by omega, by go_num, by rw [HS], ?_, ?_, ?_, ?_⟩, by simp [intOf]; omega⟩
            · rw [HS, fileCells_snoc, List.length_append]; exact hown2
            · exact HB2.out
            · rw [HS]; simp; omega
            · rw [HS]; intro h; cases h
          · have hne : (xp.toList != fp.toList) = false := by rw [bne, heq]; rfl
            go_wp2_with fail
            go_quiet (fail)
            go_wp2_with fail
            go_quiet (fail)
            go_wp2_with fail
            have HS : putTo (fs.take (k + 1)) (fp, fc, ft) gone = (o0, true) := by rw [HNX.out]; simp [putStep, hle, heq]
            have ho2 := HOF.out
            refine ⟨⟨k + 1, by omega, by go_num, by rw [HS], ?_, ?_, ?_, ?_⟩, by simp [intOf]; omega⟩
            · rw [HS]; exact HROW.out
            · exact below_drewN HB.out _
            · rw [HS]; simp; omega
            · rw [HS]; intro h; cases h
      · have hle' : (!Op.bytesLess xp.toList fp.toList) = false := by rw [hle]; rfl
        cases heq : (xp.toList == fp.toList)
        · have hne : (xp.toList != fp.toList) = true := by rw [bne, heq]; rfl
          go_wp2_with fail
          go_quiet (fail)
          go_wp2_with fail
          go_quiet (fail)
          go_wp2_with (first | (at_builtin; have _t := tok2; refine wpList_append_own _ rfl _ _ 22 rfl (w.heap.size + 1) 83 i0 (.agg #[.string ByteArray.empty, .bool false, .string ByteArray.empty]) 3 40 Tryz.underlying22 hi hz0 hz1 hz2 rfl (by decide) _ _ _ rfl (RW.out wr _ _ HROW.out _ (.cells #[.string xp, .bool xc, .string xt] 83)) ⟨wr.heap.size, 0, none⟩ 1 1 [.string xp, .bool xc, .string xt] rfl rfl (NW.out wr _ xp xc xt) (by simp [Value.oneCell']) (by unfold maxLen; omega) (by omega) (SZ.out wr HB.out _ _) ?_; intro v2 w2 hown2 hg2 _; have HB2 := hide3 (GW.out wr HB.out _ _ _ HROW.out _ _ w2 hg2); clear tok2; go_frame) | fail)
          have HS : putTo (fs.take (k + 1)) (fp, fc, ft) gone = (o0 ++ [((xp, xc, xt) : Fl)], d0) := by rw [HNX.out]; simp [putStep, hle, heq]
          have ho2 := HOF.out
          refine ⟨⟨k + 1, by omega, by go_num, by rw [HS], ?_, ?_, ?_, ?_⟩, by simp [intOf]; omega⟩
          · rw [HS, fileCells_snoc, List.length_append]; exact hown2
          · exact HB2.out
          · rw [HS]; simp; omega
          · rw [HS]; intro h; have := ho2 h; simp; omega
        · have hne : (xp.toList != fp.toList) = false := by rw [bne, heq]; rfl
          go_wp2_with fail
          go_quiet (fail)
          go_wp2_with fail
          go_quiet (fail)
          go_wp2_with fail
          have HS : putTo (fs.take (k + 1)) (fp, fc, ft) gone = (o0, d0) := by rw [HNX.out]; simp [putStep, hle, heq]
          have ho2 := HOF.out
          refine ⟨⟨k + 1, by omega, by go_num, by rw [HS], ?_, ?_, ?_, ?_⟩, by simp [intOf]; omega⟩
          · rw [HS]; exact HROW.out
          · exact below_drewN HB.out _
          · rw [HS]; simp; omega
          · rw [HS]; intro h; have := ho2 h; show o0.length ≤ k + 1; omega
    · have hke : k = fs.length := by omega
      subst hke
      have HST : Hid (putTo fs (fp, fc, ft) gone = (o0, d0)) := by unfold Hid; rw [← hst, List.take_length]
      simp only at hrow
      have HROW := hide3 hrow
      have HB := hide3 hb
      rw [hst]
      simp only at hol
      clear hfx hrow hb hst c0 hof
      have HBW : Hid (Below w.heap.size w wr) := (alloc_below w _).trans (HB.out.mono (Nat.le_succ _))
      cases d0
      · have HPD : Hid (putD fs (fp, fc, ft) gone = o0 ++ [((fp, fc, ft) : Fl)]) := by unfold Hid putD; rw [HST.out]; rfl
        have tok1 : True := trivial
        have NW : Hid (∀ j u, [Value.string fp, .bool fc, .string ft][j]? = some u → (wr.alloc (.cells #[.string fp, .bool fc, .string ft] 83)).cell? ((⟨wr.heap.size, 0, none⟩ : Addr).add j) = some u) :=
          World.news_of_block (cs := #[.string fp, .bool fc, .string ft]) (t := 83) (fr := (0, 0)) (by
            show (wr.heap.push _)[wr.heap.size]? = _
            rw [Array.getElem?_push, if_pos rfl])
        have hwz : w.heap.size + 1 ≤ wr.heap.size := by have := HB.out.size; simp at this; omega
        have SZ : Hid (w.heap.size + 1 ≤ (wr.alloc (.cells #[.string fp, .bool fc, .string ft] 83)).heap.size) := by unfold Hid; simp; omega
        have GW : Hid (∀ w1, (wr.alloc (.cells #[.string fp, .bool fc, .string ft] 83)).grownBy w1 u6.ownBlock → Below (w.heap.size + 1) (w.alloc (.cells #[.string fp, .bool fc, .string ft] 83)) w1) := fun w1 hg =>
          (HB.out.alloc hwz _).grown hg SZ.out (fun j hj => (row_lt HROW.out hj).2)
        clear hwz
        go_wp2_with (first | (at_builtin; have _t := tok1; (refine wpList_append_own _ rfl _ _ 22 rfl (w.heap.size + 1) 83 i0 (.agg #[.string ByteArray.empty, .bool false, .string ByteArray.empty]) 3 40 Tryz.underlying22 hi hz0 hz1 hz2 rfl (by decide) _ _ _ rfl (HROW.out.alloc _) ⟨wr.heap.size, 0, none⟩ 1 1 [.string fp, .bool fc, .string ft] rfl rfl NW.out (by simp [Value.oneCell']) (by unfold maxLen; omega) (by omega) SZ.out ?_); intro v1 w1 hown1 hg1 _; obtain ⟨gv, cv, hv1⟩ := own_form hown1 (by omega); rw [hv1] at hown1 ⊢; have HB1 := hide3 (GW.out w1 hg1); obtain ⟨c1', c2', _⟩ := HFX.out w1 HB1.out; have HOWN1 := hide3 hown1; clear tok1 hown1 hg1 c1 c2 b0 b1 b2 hv1) | fail)
        go_end0
        refine ⟨rfl, _, w1, ?_, (alloc_below w _).trans (HB1.out.mono (Nat.le_succ _)), rfl⟩
        rw [HPD.out, fileCells_snoc, List.length_append]
        exact HOWN1.out
      · have HPD : Hid (putD fs (fp, fc, ft) gone = o0) := by unfold Hid putD; rw [HST.out]; rfl
        have hsh : ∃ ao co, u6 = .slice ao o0.length co := by
          rcases HROW.out.2 with ⟨hv, h0⟩ | ⟨gg, cc, _, hv, _⟩
          · exact ⟨none, 0, by rw [hv, h0]⟩
          · exact ⟨_, _, hv⟩
        obtain ⟨ao, co, hv⟩ := hsh
        rw [hv] at HROW ⊢
        clear hv
        go_wp2
        go_end0
        refine ⟨rfl, _, wr, ?_, HBW.out, rfl⟩
        rw [HPD.out]
        exact HROW.out

theorem less_before : ∀ (a b : List UInt8), Op.bytesLess a b = bytesBefore a b
  | [], [] => rfl
  | [], _ :: _ => rfl
  | _ :: _, [] => rfl
  | a :: r, b :: s => by
    have ih := less_before r s
    unfold Op.bytesLess bytesBefore
    rw [ih]

def lessF (x f : Fl) : Bool := bytesBefore x.1.data.toList f.1.data.toList
theorem lessF_eq (x f : Fl) : Op.bytesLess x.1.toList f.1.toList = lessF x f := by rw [less_before, toList_data, toList_data]; rfl

/-- Put among files in their order. -/
def insF : List Fl → Fl → List Fl
  | [], f => [f]
  | x :: r, f => if lessF x f = true then x :: insF r f else if (x.1.toList == f.1.toList) = true then f :: r.filter (fun y => !(y.1.toList == f.1.toList)) else f :: x :: r.filter (fun y => !(y.1.toList == f.1.toList))

theorem step_true (f x : Fl) (o : List Fl) : putStep f (o, true) x = (if (x.1.toList == f.1.toList) = true then (o, true) else (o ++ [x], true)) := by
  unfold putStep
  simp only [Bool.not_true, Bool.and_false, Bool.false_eq_true, if_false]

theorem step_less (f x : Fl) (o : List Fl) (h : lessF x f = true) : putStep f (o, false) x = (o ++ [x], false) := by
  have hne : (x.1.toList == f.1.toList) = false := by
    rw [Bool.eq_false_iff]; intro e
    unfold lessF at h
    rw [beq_bytes.1 e, WideAt.bytes_irrefl] at h; cases h
  unfold putStep
  rw [lessF_eq, h, hne]; rfl

theorem step_ins (f x : Fl) (o : List Fl) (h : lessF x f = false) : putStep f (o, false) x = (if (x.1.toList == f.1.toList) = true then (o ++ [f], true) else (o ++ [f] ++ [x], true)) := by
  unfold putStep
  rw [lessF_eq, h]; rfl

theorem fold_true (f : Fl) : ∀ (fs o : List Fl), fs.foldl (putStep f) (o, true) = (o ++ fs.filter (fun y => !(y.1.toList == f.1.toList)), true)
  | [], o => by simp
  | x :: r, o => by
    rw [List.foldl_cons, step_true]
    by_cases h : (x.1.toList == f.1.toList) = true
    · rw [if_pos h, fold_true f r o]
      simp [h]
    · rw [if_neg h, fold_true f r (o ++ [x])]
      simp [h]

def endF (f : Fl) (st : List Fl × Bool) : List Fl := if st.2 = true then st.1 else st.1 ++ [f]

theorem fold_false (f : Fl) : ∀ (fs o : List Fl), endF f (fs.foldl (putStep f) (o, false)) = o ++ insF fs f
  | [], o => rfl
  | x :: r, o => by
    rw [List.foldl_cons]
    unfold insF
    by_cases h : lessF x f = true
    · rw [step_less f x o h, fold_false f r (o ++ [x]), if_pos h]
      simp
    · rw [Bool.not_eq_true] at h
      rw [step_ins f x o h]
      have hn : ¬ lessF x f = true := by rw [h]; decide
      by_cases h2 : (x.1.toList == f.1.toList) = true
      · rw [if_neg hn, if_pos h2, if_pos h2, fold_true]
        unfold endF; simp
      · rw [if_neg hn, if_neg h2, if_neg h2, fold_true]
        unfold endF; simp

theorem putD_ins (fs : List Fl) (f : Fl) : putD fs f false = insF fs f := by
  have := fold_false f fs []
  unfold endF at this
  unfold putD putTo
  simpa using this
theorem putD_del (fs : List Fl) (f : Fl) : putD fs f true = fs.filter (fun y => !(y.1.toList == f.1.toList)) := by
  unfold putD putTo
  rw [fold_true]; simp

theorem mem_filterF (fs : List Fl) (f y : Fl) : y ∈ fs.filter (fun y => !(y.1.toList == f.1.toList)) ↔ y ∈ fs ∧ y.1 ≠ f.1 := by
  rw [List.mem_filter]
  constructor
  · rintro ⟨h1, h2⟩
    refine ⟨h1, fun e => ?_⟩
    rw [e] at h2; simp at h2
  · rintro ⟨h1, h2⟩
    refine ⟨h1, ?_⟩
    rw [Bool.not_eq_true', Bool.eq_false_iff]
    exact fun e => h2 (beq_bytes.1 e)

theorem less_ne {x f : Fl} (h : lessF x f = true) : x.1 ≠ f.1 := by
  intro e; unfold lessF at h; rw [e, WideAt.bytes_irrefl] at h; cases h

theorem mem_ins (f y : Fl) : ∀ fs : List Fl, y ∈ insF fs f ↔ y = f ∨ (y ∈ fs ∧ y.1 ≠ f.1)
  | [] => by simp [insF]
  | x :: r => by
    unfold insF
    by_cases h : lessF x f = true
    · rw [if_pos h, List.mem_cons, mem_ins f y r, List.mem_cons]
      constructor
      · rintro (rfl | h1 | ⟨h1, h2⟩)
        · exact Or.inr ⟨Or.inl rfl, less_ne h⟩
        · exact Or.inl h1
        · exact Or.inr ⟨Or.inr h1, h2⟩
      · rintro (h1 | ⟨h1 | h1, h2⟩)
        · exact Or.inr (Or.inl h1)
        · exact Or.inl h1
        · exact Or.inr (Or.inr ⟨h1, h2⟩)
    · rw [if_neg h]
      by_cases h2 : (x.1.toList == f.1.toList) = true
      · rw [if_pos h2, List.mem_cons, mem_filterF, List.mem_cons]
        have ex := beq_bytes.1 h2
        constructor
        · rintro (h1 | ⟨h1, h3⟩)
          · exact Or.inl h1
          · exact Or.inr ⟨Or.inr h1, h3⟩
        · rintro (h1 | ⟨rfl | h1, h3⟩)
          · exact Or.inl h1
          · exact absurd ex h3
          · exact Or.inr ⟨h1, h3⟩
      · rw [if_neg h2, List.mem_cons, List.mem_cons, mem_filterF, List.mem_cons]
        constructor
        · rintro (h1 | rfl | ⟨h1, h3⟩)
          · exact Or.inl h1
          · exact Or.inr ⟨Or.inl rfl, fun e => h2 (beq_bytes.2 e)⟩
          · exact Or.inr ⟨Or.inr h1, h3⟩
        · rintro (h1 | ⟨h1 | h1, h3⟩)
          · exact Or.inl h1
          · exact Or.inr (Or.inl h1)
          · exact Or.inr (Or.inr ⟨h1, h3⟩)

theorem rising_ins (f : Fl) : ∀ fs : List Fl, Rising fs → Rising (insF fs f)
  | [], _ => by unfold insF Rising; simp
  | x :: r, h => by
    unfold Rising at h
    rw [List.pairwise_cons] at h
    obtain ⟨h1, h2⟩ := h
    unfold insF
    by_cases hl : lessF x f = true
    · rw [if_pos hl]
      unfold Rising
      rw [List.pairwise_cons]
      refine ⟨fun y hy => ?_, rising_ins f r h2⟩
      rcases (mem_ins f y r).1 hy with rfl | ⟨hy, _⟩
      · exact hl
      · exact h1 y hy
    · rw [if_neg hl]
      by_cases h3 : (x.1.toList == f.1.toList) = true
      · rw [if_pos h3]
        unfold Rising
        rw [List.pairwise_cons]
        refine ⟨fun y hy => ?_, h2.filter _⟩
        rw [← beq_bytes.1 h3]
        exact h1 y ((List.mem_filter.1 hy).1)
      · rw [if_neg h3]
        have hfx : bytesBefore f.1.data.toList x.1.data.toList = true := by
          rcases WideAt.bytes_total x.1.data.toList f.1.data.toList (fun e => h3 (beq_bytes.2 (bytes_eq e))) with q | q
          · exact absurd q hl
          · exact q
        unfold Rising
        rw [List.pairwise_cons, List.pairwise_cons]
        refine ⟨fun y hy => ?_, fun y hy => h1 y ((List.mem_filter.1 hy).1), h2.filter _⟩
        rcases List.mem_cons.1 hy with rfl | hy
        · exact hfx
        · exact WideShapes.bytes_trans _ _ _ hfx (h1 y ((List.mem_filter.1 hy).1))

theorem eq_of_rising {l₁ l₂ : List Fl} (h1 : Rising l₁) (h2 : Rising l₂) (hm : ∀ y, y ∈ l₁ ↔ y ∈ l₂) : l₁ = l₂ := by
  have hp : l₁.Perm l₂ := (List.perm_ext_iff_of_nodup (distinct h1) (distinct h2)).2 hm
  unfold Rising at h1 h2
  exact List.Perm.eq_of_pairwise (le := fun (x y : Fl) => bytesBefore x.1.data.toList y.1.data.toList = true) (fun a b _ _ k1 k2 => by rw [before_asymm k1] at k2; cases k2) h1 h2 hp

theorem put_files {D : DataW Unit} (hD : Good D) {s : ByteArray} {c : Bool} {t : ByteArray} (hm : IsMap D) (hP : Good (D.put (keyD s) (itemD c t))) : putD (filesD D) (s, c, t) false = filesD (D.put (keyD s) (itemD c t)) := by
  rw [putD_ins]
  refine eq_of_rising (rising_ins _ _ hD.rise) hP.rise fun y => ?_
  rw [mem_ins, hP.mem y, hD.mem y]
  by_cases e : y.1 = s
  · rw [e, has_put_same hm (isKey s), atKey_put_same hm (isKey s)]
    constructor
    · rintro (rfl | ⟨_, h⟩)
      · exact ⟨rfl, rfl⟩
      · exact absurd rfl h
    · rintro ⟨_, h⟩
      left
      unfold itemD at h
      simp only [DataW.agg.injEq, List.cons.injEq, DataW.lit.injEq, Lit.bool.injEq, Lit.string.injEq, and_true] at h
      obtain ⟨ys, yc, yt⟩ := y
      simp only at e h
      rw [e, h.1, bytes_eq h.2]
  · have hk : keyD y.1 ≠ keyD s := fun h => e (keyD_inj h)
    rw [has_put_other hk, atKey_put_other hk]
    constructor
    · rintro (rfl | ⟨h, _⟩)
      · exact absurd rfl e
      · exact h
    · exact fun h => Or.inr ⟨h, e⟩

theorem del_files {D : DataW Unit} (hD : Good D) {f : Fl} (hP : Good (D.del (keyD f.1))) : putD (filesD D) f true = filesD (D.del (keyD f.1)) := by
  rw [putD_del]
  refine eq_of_rising (List.Pairwise.filter _ hD.rise) hP.rise fun y => ?_
  rw [mem_filterF, hP.mem y, hD.mem y]
  by_cases e : y.1 = f.1
  · rw [e, has_del_same]
    constructor
    · rintro ⟨_, h⟩; exact absurd rfl h
    · rintro ⟨h, _⟩; cases h
  · have hk : keyD y.1 ≠ keyD f.1 := fun h => e (keyD_inj h)
    rw [has_del_other hk, atKey_del_other hk]
    exact ⟨fun h => h.1, fun h => ⟨h, e⟩⟩

set_option maxHeartbeats 1000000 in
theorem put_nil {w : World} {e : Nat} (c0 : w.cell? ⟨e, 0, none⟩ = some (.slice none 0 0)) (f0 : w.frozen? ⟨e, 0, none⟩ = false) (fp : ByteArray) (fc : Bool) (ft : ByteArray) (gone : Bool) :
    Calls Tryz.prog 54 #[.pointer (some ⟨e, 0, none⟩), .agg #[.string fp, .bool fc, .string ft], .bool gone] w fun e' w' => e' = .returned (.tuple #[]) ∧
      ∃ lv' w1, w1.ownsRow (w.heap.size + 1) 83 3 lv' (putD [] (fp, fc, ft) gone).length (fileCells (putD [] (fp, fc, ft) gone)) ∧ Below w.heap.size w w1 ∧ w' = w1.setCell ⟨e, 0, none⟩ lv' := by
  obtain ⟨i0, hi, hz0, hz1, hz2⟩ := info_parts infoFile
  have le : e < w.heap.size := cell_lt c0
  have hbx := alloc_below w (.cells #[.string fp, .bool fc, .string ft] 83)
  have k0 : (w.alloc (.cells #[.string fp, .bool fc, .string ft] 83)).cell? ⟨e, 0, none⟩ = some (.slice none 0 0) := cell_below c0 hbx
  have k1 : (w.alloc (.cells #[.string fp, .bool fc, .string ft] 83)).frozen? ⟨e, 0, none⟩ = false := by rw [hbx.frozen (p := ⟨e, 0, none⟩) le]; exact f0
  have HBX := hide3 hbx
  have HSW : Hid ((w.setCell ⟨e, 0, none⟩ (.slice none 0 0)).alloc (.cells #[.string fp, .bool fc, .string ft] 83) = (w.alloc (.cells #[.string fp, .bool fc, .string ft] 83)).setCell ⟨e, 0, none⟩ (.slice none 0 0)) := by
    unfold Hid
    rw [World.setCell_alloc_past]
    exact le
  clear hbx
  cases gone
  · have NW : Hid (∀ j u, [Value.string fp, .bool fc, .string ft][j]? = some u → ((w.alloc (.cells #[.string fp, .bool fc, .string ft] 83)).alloc (.cells #[.string fp, .bool fc, .string ft] 83)).cell? ((⟨w.heap.size + 1, 0, none⟩ : Addr).add j) = some u) :=
      World.news_of_block (cs := #[.string fp, .bool fc, .string ft]) (t := 83) (fr := (0, 0)) (by
        show ((w.heap.push _).push _)[w.heap.size + 1]? = _
        rw [Array.getElem?_push, if_pos (by simp)])
    have HFX : Hid (∀ w1, ((w.alloc (.cells #[.string fp, .bool fc, .string ft] 83)).alloc (.cells #[.string fp, .bool fc, .string ft] 83)).grownBy w1 none → w1.cell? ⟨e, 0, none⟩ = some (.slice none 0 0) ∧ w1.frozen? ⟨e, 0, none⟩ = false ∧ Below w.heap.size w w1) := by
      intro w1 hg
      have hb : Below w.heap.size w w1 := ((HBX.out.alloc (by simp) _).grown hg (by simp; omega) (fun j hj => by cases hj))
      exact ⟨by rw [hb.cell (p := ⟨e, 0, none⟩) le]; exact c0, by rw [hb.frozen (p := ⟨e, 0, none⟩) le]; exact f0, hb⟩
    go_enter Tryz.func54, Tryz.ntmps54
    go_wp2_with fail
    go_loop [6, 7, 8] (fun v d i => v = .slice none 0 0 ∧ d = .bool false ∧ i = .int .i64 0) (fun _ _ _ => 0)
    case atStart => exact ⟨rfl, rfl, rfl⟩
    case round =>
      obtain ⟨rfl, rfl, rfl⟩ := hrel
      have tok1 : True := trivial
      go_wp2_with (first | (at_builtin; have _t := tok1; refine wpList_append_own _ rfl _ _ 22 rfl (w.heap.size + 1) 83 i0 (.agg #[.string ByteArray.empty, .bool false, .string ByteArray.empty]) 3 40 Tryz.underlying22 hi hz0 hz1 hz2 rfl (by decide) (.slice none 0 0) 0 [] rfl ⟨rfl, Or.inl ⟨rfl, rfl⟩⟩ ⟨w.heap.size + 1, 0, none⟩ 1 1 [.string fp, .bool fc, .string ft] rfl rfl NW.out (by simp [Value.oneCell']) (by decide) (by decide) (by simp) ?_; intro v1 w1 hown1 hg1 _; obtain ⟨gv, cv, hv1⟩ := own_form hown1 (by decide); rw [hv1] at hown1 ⊢; obtain ⟨m0, m1, hb1⟩ := HFX.out w1 hg1; have HOWN1 := hide3 hown1; clear tok1 hown1 hg1 hv1) | fail)
      go_end0
      exact ⟨rfl, _, w1, HOWN1.out, hb1, rfl⟩
  · go_enter Tryz.func54, Tryz.ntmps54
    go_wp2_with fail
    go_loop [6, 7, 8] (fun v d i => v = .slice none 0 0 ∧ d = .bool true ∧ i = .int .i64 0) (fun _ _ _ => 0)
    case atStart => exact ⟨rfl, rfl, rfl⟩
    case round =>
      obtain ⟨rfl, rfl, rfl⟩ := hrel
      go_wp2
      go_end0
      exact ⟨rfl, _, _, ⟨rfl, Or.inl ⟨rfl, rfl⟩⟩, HBX.out, HSW.out⟩

/-- Behind put. -/
def AfterR (B : Nat) (w w' : World) (e : Nat) (lv rv : Value) (fs : List Fl) (rs : List (Int × ByteArray × ByteArray)) (left : Int) : Prop :=
  ∃ lv' rv', IsRef B w' e lv' rv' fs rs left ∧ Upd (FootR e lv rv) w w' ∧ (∀ j, FootR e lv' rv' j → FootR e lv rv j ∨ w.heap.size ≤ j)

theorem put_any {B : Nat} {w : World} {e : Nat} {lv rv : Value} {fs : List Fl} {rs : List (Int × ByteArray × ByteArray)} {left : Int} (h : IsRef B w e lv rv fs rs left) (fp : ByteArray) (fc : Bool) (ft : ByteArray) (gone : Bool) (hlen : fs.length < 2199023255552) (hB : B ≤ w.heap.size) :
    Calls Tryz.prog 54 #[.pointer (some ⟨e, 0, none⟩), .agg #[.string fp, .bool fc, .string ft], .bool gone] w fun e' w' => e' = .returned (.tuple #[]) ∧ AfterR B w w' e lv rv (putD fs (fp, fc, ft) gone) rs left := by
  have hw : Calls Tryz.prog 54 #[.pointer (some ⟨e, 0, none⟩), .agg #[.string fp, .bool fc, .string ft], .bool gone] w fun e' w' => e' = .returned (.tuple #[]) ∧
      ∃ lv' w1, w1.ownsRow (w.heap.size + 1) 83 3 lv' (putD fs (fp, fc, ft) gone).length (fileCells (putD fs (fp, fc, ft) gone)) ∧ Below w.heap.size w w1 ∧ w' = w1.setCell ⟨e, 0, none⟩ lv' := by
    rcases h.lrow.2 with ⟨rfl, h0⟩ | ⟨g, cap, cur, rfl, _, _, _, _, _, _⟩
    · have hf : fs = [] := List.eq_nil_of_length_eq_zero h0
      rw [hf]
      exact put_nil h.c0 h.f0 fp fc ft gone
    · exact put_walk h fp fc ft gone hlen
  refine hw.mono ?_
  rintro e' w' ⟨rfl, lv', w1, hown, hb, rfl⟩
  have h1 := h.below hb
  have hlt : ∀ j, lv'.ownBlock = some j → w.heap.size < j := fun j hj => by have := (row_lt hown hj).2; omega
  have hne : lv'.ownBlock ≠ some e := fun hj => by have := hlt e hj; have := h.lt; omega
  have hu := Upd.setCell w1 ⟨e, 0, none⟩ lv'
  refine ⟨rfl, lv', rv, ?_, (Upd.of_below hb).trans hu (fun j _ hj => Or.inl hj), fun j hj => ?_⟩
  · have o1 : (w1.setCell ⟨e, 0, none⟩ lv').cell? ⟨e, 1, none⟩ = w1.cell? ⟨e, 1, none⟩ := World.cell?_setCell_other _ _ _ _ (by simp)
    have o2 : (w1.setCell ⟨e, 0, none⟩ lv').cell? ⟨e, 2, none⟩ = w1.cell? ⟨e, 2, none⟩ := World.cell?_setCell_other _ _ _ _ (by simp)
    have hl : w1.ownsRow B 83 3 lv' (putD fs (fp, fc, ft) gone).length (fileCells (putD fs (fp, fc, ft) gone)) := by
      refine ⟨hown.1, ?_⟩
      rcases hown.2 with hv | ⟨g, cap, cur, hv, hg, r⟩
      · exact Or.inl hv
      · exact Or.inr ⟨g, cap, cur, hv, by omega, r⟩
    exact { c0 := World.cell?_setCell_same _ _ _ h1.c0, c1 := by rw [o1]; exact h1.c1, c2 := by rw [o2]; exact h1.c2, f0 := by rw [World.frozen?_setCell]; exact h1.f0, f1 := by rw [World.frozen?_setCell]; exact h1.f1, f2 := by rw [World.frozen?_setCell]; exact h1.f2,
            lrow := ownsRow_upd hl hu (fun k hk hk' => hne (by rw [hk]; exact congrArg some hk')), rrow := ownsRow_upd h1.rrow hu (fun k hk hk' => h1.re (by rw [hk]; exact congrArg some hk')),
            le := hne, re := h.re, be := h.be, lt := by have := h.lt; have := hb.size; simp [World.setCell]; omega }
  · rcases hj with rfl | hj | hj
    · exact Or.inl (Or.inl rfl)
    · exact Or.inr (Nat.le_of_lt (hlt j hj))
    · exact Or.inl (Or.inr (Or.inr hj))

set_option maxHeartbeats 400000 in
theorem rNew_walk (w : World) : Calls Tryz.prog 51 #[] w fun e w' => e = .returned (.pointer (some ⟨w.heap.size, 0, none⟩)) ∧ w' = w.alloc (.cells #[.slice none 0 0, .slice none 0 0, .int .i64 (-1)] 49) := by
  go_enter Tryz.func51, Tryz.ntmps51
  go_wp2
  go_ret
  exact ⟨rfl, rfl⟩

theorem rnew_is {w : World} {B : Nat} (hB : B ≤ w.heap.size) : IsRef B (w.alloc (.cells #[.slice none 0 0, .slice none 0 0, .int .i64 (-1)] 49)) w.heap.size (.slice none 0 0) (.slice none 0 0) [] [] (-1) := by
  have fz : ∀ i, (w.alloc (.cells #[.slice none 0 0, .slice none 0 0, .int .i64 (-1)] 49)).frozen? ⟨w.heap.size, i, none⟩ = false := by
    intro i
    have e : (w.alloc (.cells #[.slice none 0 0, .slice none 0 0, .int .i64 (-1)] 49)).heap[w.heap.size]? = some (.cells #[.slice none 0 0, .slice none 0 0, .int .i64 (-1)] 49 (0, 0)) := by
      show (w.heap.push _)[w.heap.size]? = _
      rw [Array.getElem?_push, if_pos rfl]
    unfold World.frozen?
    simp only [e]
    simp
  exact { c0 := by rw [World.cell?_alloc_new]; rfl, c1 := by rw [World.cell?_alloc_new]; rfl, c2 := by rw [World.cell?_alloc_new]; rfl, f0 := fz 0, f1 := fz 1, f2 := fz 2,
          lrow := ⟨rfl, Or.inl ⟨rfl, rfl⟩⟩, rrow := ⟨rfl, Or.inl ⟨rfl, rfl⟩⟩, le := by simp [Value.ownBlock], re := by simp [Value.ownBlock], be := hB, lt := by simp }

set_option maxHeartbeats 400000 in
theorem rDown_any {B : Nat} {w : World} {e : Nat} {lv rv : Value} {fs : List Fl} {rs : List (Int × ByteArray × ByteArray)} {left : Int} (h : IsRef B w e lv rv fs rs left) :
    Calls Tryz.prog 40 #[.pointer (some ⟨e, 0, none⟩)] w fun e w' => e = .returned (.bool (left == 0)) ∧ w' = w := by
  have c2 := h.c2
  clear h
  go_enter Tryz.func40, Tryz.ntmps40
  go_wp2
  go_ret
  exact ⟨rfl, rfl⟩

set_option maxHeartbeats 400000 in
theorem may_any {B : Nat} {w : World} {e : Nat} {lv rv : Value} {fs : List Fl} {rs : List (Int × ByteArray × ByteArray)} {left : Int} (h : IsRef B w e lv rv fs rs left) (s : ByteArray) (hs : s.size ≤ maxLen) :
    Calls Tryz.prog 76 #[.pointer (some ⟨e, 0, none⟩), .string s] w fun e w' => e = .returned (.int .i64 (writeD left [s])) ∧ w' = w := by
  have c2 := h.c2
  have hp := rPath_any s w hs
  have HW : Hid (writeD left [s] = if (left == 0) = true then 15 else if okPath s = true then 0 else 10) := by unfold Hid writeD; simp
  clear h hs
  generalize okPath s = b at *
  by_cases h0 : (left == 0) = true
  · go_enter Tryz.func76, Tryz.ntmps76
    go_wp2_with (go_at_call 52; refine hp.mono ?_; rintro e w' ⟨rfl, rfl⟩)
    go_ret
    exact ⟨ret_int (by rw [HW.out, if_pos h0]), rfl⟩
  · rw [Bool.not_eq_true] at h0
    cases b
    · go_enter Tryz.func76, Tryz.ntmps76
      go_wp2_with (go_at_call 52; refine hp.mono ?_; rintro e w' ⟨rfl, rfl⟩)
      go_ret
      exact ⟨ret_int (by rw [HW.out, h0]; rfl), rfl⟩
    · go_enter Tryz.func76, Tryz.ntmps76
      go_wp2_with (go_at_call 52; refine hp.mono ?_; rintro e w' ⟨rfl, rfl⟩)
      go_ret
      exact ⟨ret_int (by rw [HW.out, h0]; rfl), rfl⟩

set_option maxHeartbeats 400000 in
theorem home_any {B : Nat} {w : World} {e : Nat} {lv rv : Value} {D : DataW Unit} {rs : List (Int × ByteArray × ByteArray)} {left : Int} (h : IsRef B w e lv rv (filesD D) rs left) (hD : Good D) (s : ByteArray) (hlen : (filesD D).length ≤ 2199023255552) (hs : okPath s = true) :
    Calls Tryz.prog 77 #[.pointer (some ⟨e, 0, none⟩), .string s] w fun e w' => e = .returned (.int .i64 (parentD D s)) ∧ w' = w := by
  have hp := rParent_any s w (okPath_size hs) (okPath_parts hs).2
  have hk := rKind_any h hD (parentOf s) hlen
  have HP : Hid (parentD D s = if (kindD D (parentOf s) == 0) = true then 12 else if (kindD D (parentOf s) == 1) = true then 13 else 0) := by unfold Hid parentD; rfl
  clear h
  generalize kindD D (parentOf s) = k at *
  generalize parentOf s = q at *
  by_cases h0 : (k == 0) = true
  · go_enter Tryz.func77, Tryz.ntmps77
    go_wp2_with (first
      | (go_at_call 55; refine hp.mono ?_; rintro e w' ⟨rfl, rfl⟩)
      | (go_at_call 32; refine hk.mono ?_; rintro e w' ⟨rfl, rfl⟩))
    go_ret
    exact ⟨ret_int (by rw [HP.out, if_pos h0]), rfl⟩
  · rw [Bool.not_eq_true] at h0
    by_cases h1 : (k == 1) = true
    · go_enter Tryz.func77, Tryz.ntmps77
      go_wp2_with (first
        | (go_at_call 55; refine hp.mono ?_; rintro e w' ⟨rfl, rfl⟩)
        | (go_at_call 32; refine hk.mono ?_; rintro e w' ⟨rfl, rfl⟩))
      go_ret
      exact ⟨ret_int (by rw [HP.out, if_neg (by rw [h0]; decide), if_pos h1]), rfl⟩
    · rw [Bool.not_eq_true] at h1
      go_enter Tryz.func77, Tryz.ntmps77
      go_wp2_with (first
        | (go_at_call 55; refine hp.mono ?_; rintro e w' ⟨rfl, rfl⟩)
        | (go_at_call 32; refine hk.mono ?_; rintro e w' ⟨rfl, rfl⟩))
      go_ret
      exact ⟨ret_int (by rw [HP.out, if_neg (by rw [h0]; decide), if_neg (by rw [h1]; decide)]), rfl⟩

theorem infoRawR : (Tryz.prog.info? 52).map (fun i => (i.zero, i.size, i.bytes)) = some (some (.agg #[.int .i64 0, .string ByteArray.empty, .string ByteArray.empty]), 3, 40) := by kernel_rfl

def leftNext (l : Int) : Int := if 0 < l then l - 1 else l

set_option maxHeartbeats 1000000 in
theorem noted_walk {B : Nat} {w : World} {e : Nat} {lv rv : Value} {fs : List Fl} {rs : List (Int × ByteArray × ByteArray)} {left : Int} (h : IsRef B w e lv rv fs rs left) (k : Int) (p t : ByteArray) (hlen : rs.length < 2199023255552) (hl0 : -1 ≤ left) (hl1 : left ≤ 9223372036854775807) (hB : B ≤ w.heap.size) :
    Calls Tryz.prog 78 #[.pointer (some ⟨e, 0, none⟩), .int .i64 k, .string p, .string t] w fun e' w' => e' = .returned (.int .i64 0) ∧
      ∃ g cap w1, w1.ownsRow B 52 3 (.slice (some ⟨g, 0, none⟩) (rs.length + 1) cap) (rs.length + 1) (rawCells rs ++ [.int .i64 k, .string p, .string t]) ∧
        (w.alloc (rawObj k p t)).grownBy w1 rv.ownBlock ∧ (rv.ownBlock = some g ∨ g = w.heap.size + 1) ∧ g < w1.heap.size ∧
        (w' = (w1.setCell ⟨e, 1, none⟩ (.slice (some ⟨g, 0, none⟩) (rs.length + 1) cap)) ∧ left ≤ 0 ∨
         w' = (w1.setCell ⟨e, 1, none⟩ (.slice (some ⟨g, 0, none⟩) (rs.length + 1) cap)).setCell ⟨e, 2, none⟩ (.int .i64 (left - 1)) ∧ 0 < left) := by
  obtain ⟨i0, hi, hz0, hz1, hz2⟩ := info_parts infoRawR
  have c1 := h.c1
  have f1 := h.f1
  have hbx := alloc_below w (rawObj k p t)
  have HR : Hid ((w.alloc (rawObj k p t)).ownsRow B 52 3 rv rs.length (rawCells rs)) := ownsRow_upd h.rrow (Upd.of_below (F := fun _ => False) hbx) (fun _ _ f => f)
  have HN : Hid (∀ j u, [Value.int .i64 k, .string p, .string t][j]? = some u → (w.alloc (rawObj k p t)).cell? ((⟨w.heap.size, 0, none⟩ : Addr).add j) = some u) := World.news_of_block (cs := #[.int .i64 k, .string p, .string t]) (t := 52) (fr := (0, 0)) (by
        show (w.heap.push _)[w.heap.size]? = _
        rw [Array.getElem?_push, if_pos rfl]; rfl)
  have HF : Hid (∀ w1, (w.alloc (rawObj k p t)).grownBy w1 rv.ownBlock → w1.cell? ⟨e, 1, none⟩ = some rv ∧ w1.frozen? ⟨e, 1, none⟩ = false ∧ w1.cell? ⟨e, 2, none⟩ = some (.int .i64 left) ∧ w1.frozen? ⟨e, 2, none⟩ = false) := by
    intro w1 hg
    have q1 := grown_far hg (Nat.lt_of_lt_of_le h.lt hbx.size) h.re 1
    have q2 := grown_far hg (Nat.lt_of_lt_of_le h.lt hbx.size) h.re 2
    have p1 := hbx.cell (p := ⟨e, 1, none⟩) h.lt
    have p2 := hbx.cell (p := ⟨e, 2, none⟩) h.lt
    have p3 := hbx.frozen (p := ⟨e, 1, none⟩) h.lt
    have p4 := hbx.frozen (p := ⟨e, 2, none⟩) h.lt
    exact ⟨by rw [q1.1, p1]; exact h.c1, by rw [q1.2, p3]; exact h.f1, by rw [q2.1, p2]; exact h.c2, by rw [q2.2, p4]; exact h.f2⟩
  clear h hbx
  by_cases h0 : 0 < left
  · go_enter Tryz.func78, Tryz.ntmps78
    go_wp2_with (first | (at_builtin; refine wpList_append_lies _ rfl _ _ 43 rfl B 52 i0 (.agg #[.int .i64 0, .string ByteArray.empty, .string ByteArray.empty]) 3 40 Tryz.underlying43 hi hz0 hz1 hz2 rfl (by decide) rv rs.length (rawCells rs) rfl HR.out ⟨w.heap.size, 0, none⟩ 1 1 [.int .i64 k, .string p, .string t] rfl rfl HN.out (by simp [Value.oneCell']) (by decide) (by unfold maxLen; omega) (by omega) (by simp; omega) (w.heap.size + 1) (by simp) ?_; intro g cap w1 hown hgrow hat hlt; obtain ⟨k1, k2, k3, k4⟩ := HF.out _ hgrow) | fail)
    go_ret
    exact ⟨rfl, g, cap, w1, hown, hgrow, hat, hlt, Or.inr ⟨rfl, h0⟩⟩
  · go_enter Tryz.func78, Tryz.ntmps78
    go_wp2_with (first | (at_builtin; refine wpList_append_lies _ rfl _ _ 43 rfl B 52 i0 (.agg #[.int .i64 0, .string ByteArray.empty, .string ByteArray.empty]) 3 40 Tryz.underlying43 hi hz0 hz1 hz2 rfl (by decide) rv rs.length (rawCells rs) rfl HR.out ⟨w.heap.size, 0, none⟩ 1 1 [.int .i64 k, .string p, .string t] rfl rfl HN.out (by simp [Value.oneCell']) (by decide) (by unfold maxLen; omega) (by omega) (by simp; omega) (w.heap.size + 1) (by simp) ?_; intro g cap w1 hown hgrow hat hlt; obtain ⟨k1, k2, k3, k4⟩ := HF.out _ hgrow) | fail)
    go_ret
    exact ⟨rfl, g, cap, w1, hown, hgrow, hat, hlt, Or.inl rfl⟩

theorem IsRef.setLeft {B : Nat} {w : World} {e : Nat} {lv rv : Value} {fs : List Fl} {rs : List (Int × ByteArray × ByteArray)} {left : Int} (h : IsRef B w e lv rv fs rs left) (l : Int) : IsRef B (w.setCell ⟨e, 2, none⟩ (.int .i64 l)) e lv rv fs rs l := by
  have o0 : (w.setCell ⟨e, 2, none⟩ (.int .i64 l)).cell? ⟨e, 0, none⟩ = w.cell? ⟨e, 0, none⟩ := World.cell?_setCell_other _ _ _ _ (by simp)
  have o1 : (w.setCell ⟨e, 2, none⟩ (.int .i64 l)).cell? ⟨e, 1, none⟩ = w.cell? ⟨e, 1, none⟩ := World.cell?_setCell_other _ _ _ _ (by simp)
  have hu := Upd.setCell w ⟨e, 2, none⟩ (.int .i64 l)
  exact { c0 := by rw [o0]; exact h.c0, c1 := by rw [o1]; exact h.c1, c2 := World.cell?_setCell_same _ _ _ h.c2, f0 := by rw [World.frozen?_setCell]; exact h.f0, f1 := by rw [World.frozen?_setCell]; exact h.f1, f2 := by rw [World.frozen?_setCell]; exact h.f2,
          lrow := ownsRow_upd h.lrow hu (fun k hk hk' => h.le (by rw [hk]; exact congrArg some hk')), rrow := ownsRow_upd h.rrow hu (fun k hk hk' => h.re (by rw [hk]; exact congrArg some hk')),
          le := h.le, re := h.re, be := h.be, lt := by simp [World.setCell]; exact h.lt }

/-- The two rows lie apart: the one holds files, the other one raw writes. -/
theorem IsRef.apart {B : Nat} {w : World} {e : Nat} {lv rv : Value} {fs : List Fl} {rs : List (Int × ByteArray × ByteArray)} {left : Int} (h : IsRef B w e lv rv fs rs left) {j : Nat} (hl : lv.ownBlock = some j) (hr : rv.ownBlock = some j) : False := by
  rcases h.lrow.2 with ⟨rfl, _⟩ | ⟨g, cap, cur, rfl, _, hb, _⟩
  · cases hl
  · cases hl
    rcases h.rrow.2 with ⟨rfl, _⟩ | ⟨g', cap', cur', rfl, _, hb', _⟩
    · cases hr
    · have : g' = g := by simpa [Value.ownBlock] using hr
      subst this
      rw [hb] at hb'
      have := Option.some.inj hb'
      simp at this
end Go.Proofs.YtpaoimhebheaeaaGreatDoor.Dk
