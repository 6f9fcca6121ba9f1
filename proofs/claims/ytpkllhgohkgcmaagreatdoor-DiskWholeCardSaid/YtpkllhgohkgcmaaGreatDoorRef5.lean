/- The reference's put: the walk. -/
import Derived.Test.YtpkllhgohkgcmaaGreatDoorRef4
namespace Go.Proofs.YtpkllhgohkgcmaaGreatDoor
open Go.RowKit Go.Maps
set_option maxRecDepth 100000

/-- One step of put. -/
def putStep (f : Fl) (st : List Fl × Bool) (x : Fl) : List Fl × Bool :=
  if (!(Op.bytesLess x.1.toList f.1.toList) && !st.2) = true then (if (x.1.toList == f.1.toList) = true then (st.1 ++ [f], true) else (st.1 ++ [f] ++ [x], true))
  else (if (x.1.toList == f.1.toList) = true then (st.1, st.2) else (st.1 ++ [x], st.2))
/-- put: something is at a path, whatever was (gone: nothing is). -/
def putTo (fs : List Fl) (f : Fl) (gone : Bool) : List Fl × Bool := fs.foldl (putStep f) ([], gone)
def putD (fs : List Fl) (f : Fl) (gone : Bool) : List Fl := if (putTo fs f gone).2 = true then (putTo fs f gone).1 else (putTo fs f gone).1 ++ [f]

theorem putTo_snoc (fs : List Fl) (f : Fl) (gone : Bool) (k : Nat) (hk : k < fs.length) : putTo (fs.take (k + 1)) f gone = putStep f (putTo (fs.take k) f gone) fs[k] := by
  unfold putTo
  rw [List.take_succ_eq_append_getElem hk, List.foldl_append]; rfl

theorem own_form {w : World} {B : Nat} {e : TypeId} {size n : Nat} {v : Value} {xs : List Value} (h : w.ownsRow B e size v n xs) (hn : 0 < n) : ∃ g cap, v = .slice (some ⟨g, 0, none⟩) n cap := by
  obtain ⟨g, cap, hv, _⟩ := h.form hn
  exact ⟨g, cap, hv⟩

set_option maxHeartbeats 2000000 in
theorem put_walk {B : Nat} {w : World} {e g cap : Nat} {rv : Value} {fs : List Fl} {rs : List (Int × ByteArray × ByteArray)} {left : Int} (h : IsRef B w e (.slice (some ⟨g, 0, none⟩) fs.length cap) rv fs rs left) (fp : ByteArray) (fc : Bool) (ft : ByteArray) (gone : Bool) (hlen : fs.length < 2199023255552) :
    Calls Tryz.prog 45 #[.pointer (some ⟨e, 0, none⟩), .agg #[.string fp, .bool fc, .string ft], .bool gone] w fun e' w' => e' = .returned (.tuple #[]) ∧
      ∃ lv' w1, w1.ownsRow (w.heap.size + 1) 49 3 lv' (putD fs (fp, fc, ft) gone).length (fileCells (putD fs (fp, fc, ft) gone)) ∧ Below w.heap.size w w1 ∧ w' = w1.setCell ⟨e, 0, none⟩ lv' := by
  obtain ⟨i0, hi, hz0, hz1, hz2⟩ := info_parts infoFile
  have c0 := h.c0
  have f0 := h.f0
  have le := h.lt
  have HL := hide3 h.lrow
  have HH := hide3 h
  clear h
  have HFX : Hid (∀ wr, Below (w.heap.size + 1) (w.alloc (.cells #[.string fp, .bool fc, .string ft] 49)) wr → wr.cell? ⟨e, 0, none⟩ = some (.slice (some ⟨g, 0, none⟩) fs.length cap) ∧ wr.frozen? ⟨e, 0, none⟩ = false ∧
      wr.cell? ⟨w.heap.size, 0, none⟩ = some (.string fp) ∧ wr.cell? ⟨w.heap.size, 1, none⟩ = some (.bool fc) ∧ wr.cell? ⟨w.heap.size, 2, none⟩ = some (.string ft) ∧
      ∀ k (hk : k < fs.length), wr.cell? ⟨g, k * 3, none⟩ = some (.string fs[k].1) ∧ wr.cell? ⟨g, k * 3 + 1, none⟩ = some (.bool fs[k].2.1) ∧ wr.cell? ⟨g, k * 3 + 1 + 1, none⟩ = some (.string fs[k].2.2)) := by
    intro wr hb
    have hg : fs.length ≠ 0 → g < w.heap.size := fun _ => (row_lt HL.out (k := g) rfl).1
    have q : ∀ b o, b < w.heap.size → wr.cell? ⟨b, o, none⟩ = w.cell? ⟨b, o, none⟩ := fun b o hb' => by
      rw [hb.cell (p := ⟨b, o, none⟩) (by simp only; omega), (alloc_below w _).cell (p := ⟨b, o, none⟩) hb']
    have qf : wr.frozen? ⟨e, 0, none⟩ = false := by
      rw [hb.frozen (p := ⟨e, 0, none⟩) (by simp only; omega), (alloc_below w _).frozen (p := ⟨e, 0, none⟩) le]; exact f0
    have qn : ∀ o, wr.cell? ⟨w.heap.size, o, none⟩ = (#[Value.string fp, .bool fc, .string ft])[o]? := fun o => by
      rw [hb.cell (p := ⟨w.heap.size, o, none⟩) (by simp only; omega), World.cell?_alloc_new]
    refine ⟨by rw [q e 0 le]; exact c0, qf, by rw [qn]; rfl, by rw [qn]; rfl, by rw [qn]; rfl, fun k hk => ?_⟩
    obtain ⟨a0, a1, a2⟩ := file_cells HL.out k hk
    have hgl := hg (by omega)
    exact ⟨by rw [q g _ hgl]; exact a0, by rw [q g _ hgl]; exact a1, by rw [q g _ hgl]; exact a2⟩
  clear HH HL c0 f0
  go_enter Tryz.func45, Tryz.ntmps45
  obtain ⟨c0, _, _⟩ := HFX.out _ (Below.refl _ _)
  go_wp2_with fail
  go_loopw [6, 7, 8] (fun v dn i wr => ∃ k : Nat, k ≤ fs.length ∧ i = .int .i64 k ∧ dn = .bool (putTo (fs.take k) (fp, fc, ft) gone).2 ∧
      wr.ownsRow (w.heap.size + 1) 49 3 v (putTo (fs.take k) (fp, fc, ft) gone).1.length (fileCells (putTo (fs.take k) (fp, fc, ft) gone).1) ∧ Below (w.heap.size + 1) (w.alloc (.cells #[.string fp, .bool fc, .string ft] 49)) wr ∧ (putTo (fs.take k) (fp, fc, ft) gone).1.length ≤ k + 1 ∧ ((putTo (fs.take k) (fp, fc, ft) gone).2 = false → (putTo (fs.take k) (fp, fc, ft) gone).1.length ≤ k))
    (fun _ _ i _ => fs.length - (intOf i).toNat)
  case atStart => exact ⟨0, Nat.zero_le _, rfl, rfl, ⟨rfl, Or.inl ⟨rfl, rfl⟩⟩, Below.refl _ _, by simp [putTo], fun _ => by simp [putTo]⟩
  case round =>
    obtain ⟨k, hk, rfl, rfl, hrow, hb, hol, hof⟩ := hrel
    obtain ⟨o0, d0, hst⟩ : ∃ o d, putTo (fs.take k) (fp, fc, ft) gone = (o, d) := ⟨_, _, rfl⟩
    rw [hst] at hrow hol hof
    obtain ⟨c1, c2, b0, b1, b2, hfx⟩ := HFX.out wr hb
    by_cases hlt : k < fs.length
    · have HNX : Hid (putTo (fs.take (k + 1)) (fp, fc, ft) gone = putStep (fp, fc, ft) (o0, d0) fs[k]) := by unfold Hid; rw [putTo_snoc fs _ _ k hlt, hst]
      obtain ⟨a0, a1, a2⟩ := hfx k hlt
      have HROW := hide3 hrow
      have HB := hide3 hb
      rw [hst]
      simp only at hol hof
      have HOF := hide3 hof
      clear hof
      obtain ⟨xp, xc, xt, hx⟩ : ∃ xp xc xt, fs[k] = (xp, xc, xt) := ⟨_, _, _, rfl⟩
      have HX := hide3 hx
      rw [hx] at HNX a0 a1 a2
      simp only at a0 a1 a2
      clear hfx hrow hb hst c0 hx
      have tok1 : True := trivial
      have tok2 : True := trivial
      have RW : Hid (∀ (wr : World) (v : Value) (o : List Fl), wr.ownsRow (w.heap.size + 1) 49 3 v o.length (fileCells o) → ∀ nq O, ((wr.drewN nq).alloc O).ownsRow (w.heap.size + 1) 49 3 v o.length (fileCells o)) := fun wr v o h nq O => (show (wr.drewN nq).ownsRow (w.heap.size + 1) 49 3 v o.length (fileCells o) from h).alloc O
      have NW : Hid (∀ (wr : World) (nq : Nat) (a : ByteArray) (b : Bool) (c : ByteArray) j u, [Value.string a, .bool b, .string c][j]? = some u → ((wr.drewN nq).alloc (.cells #[.string a, .bool b, .string c] 49)).cell? ((⟨wr.heap.size, 0, none⟩ : Addr).add j) = some u) := fun wr nq a b c =>
        World.news_of_block (cs := #[.string a, .bool b, .string c]) (t := 49) (fr := (0, 0)) (by
          show (wr.heap.push _)[wr.heap.size]? = _
          rw [Array.getElem?_push, if_pos rfl])
      have SZ : Hid (∀ wr, Below (w.heap.size + 1) (w.alloc (.cells #[.string fp, .bool fc, .string ft] 49)) wr → ∀ nq O, w.heap.size + 1 ≤ ((wr.drewN nq).alloc O).heap.size) := fun wr hb nq O => by
        have := hb.size
        simp at this ⊢; omega
      have GW : Hid (∀ wr, Below (w.heap.size + 1) (w.alloc (.cells #[.string fp, .bool fc, .string ft] 49)) wr → ∀ (v : Value) (n : Nat) (xs : List Value), wr.ownsRow (w.heap.size + 1) 49 3 v n xs → ∀ nq O w1, ((wr.drewN nq).alloc O).grownBy w1 v.ownBlock → Below (w.heap.size + 1) (w.alloc (.cells #[.string fp, .bool fc, .string ft] 49)) w1) := fun wr hb v n xs hr nq O w1 hg =>
        ((below_drewN hb nq).alloc (by have := hb.size; simp at this ⊢; omega) O).grown hg (by have := hb.size; simp at this ⊢; omega) (fun j hj => (row_lt hr hj).2)
      cases hle : Op.bytesLess xp.toList fp.toList
      · have hle' : (!Op.bytesLess xp.toList fp.toList) = true := by rw [hle]; rfl
        cases d0
        · cases heq : (xp.toList == fp.toList)
          · have hne : (xp.toList != fp.toList) = true := by rw [bne, heq]; rfl
            go_wp2_with fail
            go_quiet (fail)
            go_wp2_with (first | (at_builtin; have _t := tok1; refine wpList_append_own _ rfl _ _ 33 rfl (w.heap.size + 1) 49 i0 (.agg #[.string ByteArray.empty, .bool false, .string ByteArray.empty]) 3 40 Tryz.underlying33 hi hz0 hz1 hz2 rfl (by decide) _ _ _ rfl (RW.out wr _ _ HROW.out _ (.cells #[.string fp, .bool fc, .string ft] 49)) ⟨wr.heap.size, 0, none⟩ 1 1 [.string fp, .bool fc, .string ft] rfl rfl (NW.out wr _ fp fc ft) (by simp [Value.oneCell']) (by unfold maxLen; omega) (by omega) (SZ.out wr HB.out _ _) ?_; intro v1 w1 hown1 hg1 _; have HB1 := hide3 (GW.out wr HB.out _ _ _ HROW.out _ _ w1 hg1); have HOWN1 : Hid (w1.ownsRow (w.heap.size + 1) 49 3 v1 (o0 ++ [((fp, fc, ft) : Fl)]).length (fileCells (o0 ++ [((fp, fc, ft) : Fl)]))) := (by unfold Hid; rw [fileCells_snoc, List.length_append]; exact hown1); obtain ⟨c1', c2', b0', b1', b2', hfx'⟩ := HFX.out w1 HB1.out; obtain ⟨a0', a1', a2'⟩ := hfx' k hlt; rw [HX.out] at a0' a1' a2'; simp only at a0' a1' a2'; clear tok1 hown1 hg1 hfx' c1 c2 b0 b1 b2 a0 a1 a2) | fail)
            go_quiet (fail)
            go_wp2_with (first | (at_builtin; have _t := tok2; refine wpList_append_own _ rfl _ _ 33 rfl (w.heap.size + 1) 49 i0 (.agg #[.string ByteArray.empty, .bool false, .string ByteArray.empty]) 3 40 Tryz.underlying33 hi hz0 hz1 hz2 rfl (by decide) _ _ _ rfl (RW.out w1 _ _ HOWN1.out _ (.cells #[.string xp, .bool xc, .string xt] 49)) ⟨w1.heap.size, 0, none⟩ 1 1 [.string xp, .bool xc, .string xt] rfl rfl (NW.out w1 _ xp xc xt) (by simp [Value.oneCell']) (by unfold maxLen; rw [List.length_append]; simp only [List.length_cons, List.length_nil]; omega) (by rw [List.length_append]; simp only [List.length_cons, List.length_nil]; omega) (SZ.out w1 HB1.out _ _) ?_; intro v2 w2 hown2 hg2 _; have HB2 := hide3 (GW.out w1 HB1.out _ _ _ HOWN1.out _ _ w2 hg2); clear tok2; go_frame) | fail)
            have HS : putTo (fs.take (k + 1)) (fp, fc, ft) gone = (o0 ++ [((fp, fc, ft) : Fl)] ++ [((xp, xc, xt) : Fl)], true) := by rw [HNX.out]; simp [putStep, hle, heq]
            have ho2 := HOF.out
            refine ⟨⟨k + 1, by omega, by go_num, by rw [HS], ?_, ?_, ?_, ?_⟩, by simp [intOf]; omega⟩
            · rw [HS, fileCells_snoc, List.length_append]; exact hown2
            · exact HB2.out
            · rw [HS]; simp; have := ho2 trivial; omega
            · rw [HS]; intro h; cases h
          · have hne : (xp.toList != fp.toList) = false := by rw [bne, heq]; rfl
            go_wp2_with fail
            go_quiet (fail)
            go_wp2_with (first | (at_builtin; have _t := tok1; refine wpList_append_own _ rfl _ _ 33 rfl (w.heap.size + 1) 49 i0 (.agg #[.string ByteArray.empty, .bool false, .string ByteArray.empty]) 3 40 Tryz.underlying33 hi hz0 hz1 hz2 rfl (by decide) _ _ _ rfl (RW.out wr _ _ HROW.out _ (.cells #[.string fp, .bool fc, .string ft] 49)) ⟨wr.heap.size, 0, none⟩ 1 1 [.string fp, .bool fc, .string ft] rfl rfl (NW.out wr _ fp fc ft) (by simp [Value.oneCell']) (by unfold maxLen; omega) (by omega) (SZ.out wr HB.out _ _) ?_; intro v1 w1 hown1 hg1 _; have HB1 := hide3 (GW.out wr HB.out _ _ _ HROW.out _ _ w1 hg1); have HOWN1 : Hid (w1.ownsRow (w.heap.size + 1) 49 3 v1 (o0 ++ [((fp, fc, ft) : Fl)]).length (fileCells (o0 ++ [((fp, fc, ft) : Fl)]))) := (by unfold Hid; rw [fileCells_snoc, List.length_append]; exact hown1); obtain ⟨c1', c2', b0', b1', b2', hfx'⟩ := HFX.out w1 HB1.out; obtain ⟨a0', a1', a2'⟩ := hfx' k hlt; rw [HX.out] at a0' a1' a2'; simp only at a0' a1' a2'; clear tok1 hown1 hg1 hfx' c1 c2 b0 b1 b2 a0 a1 a2) | fail)
            go_quiet (fail)
            go_wp2_with fail
            have HS : putTo (fs.take (k + 1)) (fp, fc, ft) gone = (o0 ++ [((fp, fc, ft) : Fl)], true) := by rw [HNX.out]; simp [putStep, hle, heq]
            have ho2 := HOF.out
            refine ⟨⟨k + 1, by omega, by go_num, by rw [HS], ?_, ?_, ?_, ?_⟩, by simp [intOf]; omega⟩
            · rw [HS]; exact HOWN1.out
            · exact below_drewN HB1.out _
            · rw [HS]; simp; have := ho2 trivial; omega
            · rw [HS]; intro h; cases h
        · cases heq : (xp.toList == fp.toList)
          · have hne : (xp.toList != fp.toList) = true := by rw [bne, heq]; rfl
            go_wp2_with fail
            go_quiet (fail)
            go_wp2_with fail
            go_quiet (fail)
            go_wp2_with (first | (at_builtin; have _t := tok2; refine wpList_append_own _ rfl _ _ 33 rfl (w.heap.size + 1) 49 i0 (.agg #[.string ByteArray.empty, .bool false, .string ByteArray.empty]) 3 40 Tryz.underlying33 hi hz0 hz1 hz2 rfl (by decide) _ _ _ rfl (RW.out wr _ _ HROW.out _ (.cells #[.string xp, .bool xc, .string xt] 49)) ⟨wr.heap.size, 0, none⟩ 1 1 [.string xp, .bool xc, .string xt] rfl rfl (NW.out wr _ xp xc xt) (by simp [Value.oneCell']) (by unfold maxLen; omega) (by omega) (SZ.out wr HB.out _ _) ?_; intro v2 w2 hown2 hg2 _; have HB2 := hide3 (GW.out wr HB.out _ _ _ HROW.out _ _ w2 hg2); clear tok2; go_frame) | fail)
            have HS : putTo (fs.take (k + 1)) (fp, fc, ft) gone = (o0 ++ [((xp, xc, xt) : Fl)], true) := by rw [HNX.out]; simp [putStep, hle, heq]
            have ho2 := HOF.out
            refine ⟨⟨k + 1, by omega, by go_num, by rw [HS], ?_, ?_, ?_, ?_⟩, by simp [intOf]; omega⟩
            · rw [HS, fileCells_snoc, List.length_append]; exact hown2
            · exact HB2.out
            · rw [HS]; simp; omega
            · rw [HS]; intro h; cases h
          · have hne : (xp.toList != fp.toList) = false := by rw [bne, heq]; rfl
            go_wp2_with fail
            go_quiet (fail)
            go_wp2_with fail
            go_quiet (fail)
            go_wp2_with fail
            have HS : putTo (fs.take (k + 1)) (fp, fc, ft) gone = (o0, true) := by rw [HNX.out]; simp [putStep, hle, heq]
            have ho2 := HOF.out
            refine ⟨⟨k + 1, by omega, by go_num, by rw [HS], ?_, ?_, ?_, ?_⟩, by simp [intOf]; omega⟩
            · rw [HS]; exact HROW.out
            · exact below_drewN HB.out _
            · rw [HS]; simp; omega
            · rw [HS]; intro h; cases h
      · have hle' : (!Op.bytesLess xp.toList fp.toList) = false := by rw [hle]; rfl
        cases heq : (xp.toList == fp.toList)
        · have hne : (xp.toList != fp.toList) = true := by rw [bne, heq]; rfl
          go_wp2_with fail
          go_quiet (fail)
          go_wp2_with fail
          go_quiet (fail)
          go_wp2_with (first | (at_builtin; have _t := tok2; refine wpList_append_own _ rfl _ _ 33 rfl (w.heap.size + 1) 49 i0 (.agg #[.string ByteArray.empty, .bool false, .string ByteArray.empty]) 3 40 Tryz.underlying33 hi hz0 hz1 hz2 rfl (by decide) _ _ _ rfl (RW.out wr _ _ HROW.out _ (.cells #[.string xp, .bool xc, .string xt] 49)) ⟨wr.heap.size, 0, none⟩ 1 1 [.string xp, .bool xc, .string xt] rfl rfl (NW.out wr _ xp xc xt) (by simp [Value.oneCell']) (by unfold maxLen; omega) (by omega) (SZ.out wr HB.out _ _) ?_; intro v2 w2 hown2 hg2 _; have HB2 := hide3 (GW.out wr HB.out _ _ _ HROW.out _ _ w2 hg2); clear tok2; go_frame) | fail)
          have HS : putTo (fs.take (k + 1)) (fp, fc, ft) gone = (o0 ++ [((xp, xc, xt) : Fl)], d0) := by rw [HNX.out]; simp [putStep, hle, heq]
          have ho2 := HOF.out
          refine ⟨⟨k + 1, by omega, by go_num, by rw [HS], ?_, ?_, ?_, ?_⟩, by simp [intOf]; omega⟩
          · rw [HS, fileCells_snoc, List.length_append]; exact hown2
          · exact HB2.out
          · rw [HS]; simp; omega
          · rw [HS]; intro h; have := ho2 h; simp; omega
        · have hne : (xp.toList != fp.toList) = false := by rw [bne, heq]; rfl
          go_wp2_with fail
          go_quiet (fail)
          go_wp2_with fail
          go_quiet (fail)
          go_wp2_with fail
          have HS : putTo (fs.take (k + 1)) (fp, fc, ft) gone = (o0, d0) := by rw [HNX.out]; simp [putStep, hle, heq]
          have ho2 := HOF.out
          refine ⟨⟨k + 1, by omega, by go_num, by rw [HS], ?_, ?_, ?_, ?_⟩, by simp [intOf]; omega⟩
          · rw [HS]; exact HROW.out
          · exact below_drewN HB.out _
          · rw [HS]; simp; omega
          · rw [HS]; intro h; have := ho2 h; show o0.length ≤ k + 1; omega
    · have hke : k = fs.length := by omega
      subst hke
      have HST : Hid (putTo fs (fp, fc, ft) gone = (o0, d0)) := by unfold Hid; rw [← hst, List.take_length]
      simp only at hrow
      have HROW := hide3 hrow
      have HB := hide3 hb
      rw [hst]
      simp only at hol
      clear hfx hrow hb hst c0 hof
      have HBW : Hid (Below w.heap.size w wr) := (alloc_below w _).trans (HB.out.mono (Nat.le_succ _))
      cases d0
      · have HPD : Hid (putD fs (fp, fc, ft) gone = o0 ++ [((fp, fc, ft) : Fl)]) := by unfold Hid putD; rw [HST.out]; rfl
        have tok1 : True := trivial
        have NW : Hid (∀ j u, [Value.string fp, .bool fc, .string ft][j]? = some u → (wr.alloc (.cells #[.string fp, .bool fc, .string ft] 49)).cell? ((⟨wr.heap.size, 0, none⟩ : Addr).add j) = some u) :=
          World.news_of_block (cs := #[.string fp, .bool fc, .string ft]) (t := 49) (fr := (0, 0)) (by
            show (wr.heap.push _)[wr.heap.size]? = _
            rw [Array.getElem?_push, if_pos rfl])
        have hwz : w.heap.size + 1 ≤ wr.heap.size := by have := HB.out.size; simp at this; omega
        have SZ : Hid (w.heap.size + 1 ≤ (wr.alloc (.cells #[.string fp, .bool fc, .string ft] 49)).heap.size) := by unfold Hid; simp; omega
        have GW : Hid (∀ w1, (wr.alloc (.cells #[.string fp, .bool fc, .string ft] 49)).grownBy w1 u6.ownBlock → Below (w.heap.size + 1) (w.alloc (.cells #[.string fp, .bool fc, .string ft] 49)) w1) := fun w1 hg =>
          (HB.out.alloc hwz _).grown hg SZ.out (fun j hj => (row_lt HROW.out hj).2)
        clear hwz
        go_wp2_with (first | (at_builtin; have _t := tok1; (refine wpList_append_own _ rfl _ _ 33 rfl (w.heap.size + 1) 49 i0 (.agg #[.string ByteArray.empty, .bool false, .string ByteArray.empty]) 3 40 Tryz.underlying33 hi hz0 hz1 hz2 rfl (by decide) _ _ _ rfl (HROW.out.alloc _) ⟨wr.heap.size, 0, none⟩ 1 1 [.string fp, .bool fc, .string ft] rfl rfl NW.out (by simp [Value.oneCell']) (by unfold maxLen; omega) (by omega) SZ.out ?_); intro v1 w1 hown1 hg1 _; obtain ⟨gv, cv, hv1⟩ := own_form hown1 (by omega); rw [hv1] at hown1 ⊢; have HB1 := hide3 (GW.out w1 hg1); obtain ⟨c1', c2', _⟩ := HFX.out w1 HB1.out; have HOWN1 := hide3 hown1; clear tok1 hown1 hg1 c1 c2 b0 b1 b2 hv1) | fail)
        go_end0
        refine ⟨rfl, _, w1, ?_, (alloc_below w _).trans (HB1.out.mono (Nat.le_succ _)), rfl⟩
        rw [HPD.out, fileCells_snoc, List.length_append]
        exact HOWN1.out
      · have HPD : Hid (putD fs (fp, fc, ft) gone = o0) := by unfold Hid putD; rw [HST.out]; rfl
        have hsh : ∃ ao co, u6 = .slice ao o0.length co := by
          rcases HROW.out.2 with ⟨hv, h0⟩ | ⟨gg, cc, _, hv, _⟩
          · exact ⟨none, 0, by rw [hv, h0]⟩
          · exact ⟨_, _, hv⟩
        obtain ⟨ao, co, hv⟩ := hsh
        rw [hv] at HROW ⊢
        clear hv
        go_wp2
        go_end0
        refine ⟨rfl, _, wr, ?_, HBW.out, rfl⟩
        rw [HPD.out]
        exact HROW.out

end Go.Proofs.YtpkllhgohkgcmaaGreatDoor
