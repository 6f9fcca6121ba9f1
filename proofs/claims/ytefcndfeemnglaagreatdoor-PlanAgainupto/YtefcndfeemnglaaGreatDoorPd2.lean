/- Package plan: a deed as words. Conditions: sizes. -/
import Derived.Test.YtefcndfeemnglaaGreatDoorPd1
namespace Go.Proofs.YtefcndfeemnglaaGreatDoor
open Go.RowKit Go.Maps Go.WideMaps Go.WideElems Dk
set_option maxRecDepth 100000

theorem ownW_new {w : World} {B : Nat} (ws : List Sc.Bs) (cs : Array Value) (hcs : cs.toList = Sc.strs ws) (hB : B ≤ w.heap.size) (h0 : ws.length ≤ maxLen) : Sc.OwnW (w.alloc (.cells cs 9)) B (.slice (some ⟨w.heap.size, 0, none⟩) ws.length ws.length) ws := by
  have hblk : (w.alloc (.cells cs 9)).heap[w.heap.size]? = some (.cells cs 9 (0, 0)) := by
    show (w.heap.push _)[w.heap.size]? = _
    rw [Array.getElem?_push, if_pos rfl]
  have hcl : cs.size = ws.length := by
    have := congrArg List.length hcs
    rw [Sc.strs_length] at this
    simpa using this
  refine ⟨by rw [Sc.strs_length]; simp, Or.inr ⟨w.heap.size, ws.length, cs, rfl, hB, hblk, Nat.le_refl _, ?_⟩⟩
  exact ⟨h0, by rw [hcl]; simp, by rw [hcs, List.take_of_length_le (by rw [Sc.strs_length]; omega)]⟩

/-- A word more. -/
theorem wp_word {B : Nat} {wx : World} {v : Value} {ws : List Sc.Bs} {ops : Array Oper} {rest : List Oper} {o : Oper} {f : Act} {Q : Exit → Act → World → Prop}
    (hgd : o.guard = none) (s t : Operand) (ho : o.op = .call { callee := .builtin .append, args := #[s, t], argTypes := #[58, 58] }) (hs : f.eval s = v)
    (hown : Sc.OwnW wx B v ws) (hB : B ≤ wx.heap.size) (x : ByteArray) {M : Nat} (hM : wx.heap.size = M) (hx : f.eval t = .slice (some ⟨M, 0, none⟩) 1 1) (hlen : ws.length ≤ 1000000000)
    (h : ∀ v1 w1, Sc.OwnW w1 B v1 (ws ++ [x.data.toList]) → wx.grownBy w1 v.ownBlock → wpList Tryz.prog ops Q rest (f.put o.dst v1) w1) :
    wpList Tryz.prog ops Q (o :: rest) f (wx.alloc (.cells #[.string x] 9)) := by
  subst hM
  obtain ⟨i0, hi, hz0, hz1, hz2⟩ := info_parts Sc.infoStr
  refine wpList_append_own _ hgd s t 58 ho B 9 i0 _ 1 16 Tryz.underlying58 hi hz0 hz1 hz2 rfl (by decide) v ws.length _ hs (World.ownsRow.alloc hown _) ⟨wx.heap.size, 0, none⟩ 1 1 [.string x] hx rfl (World.news_of_block (cs := #[.string x]) (t := 9) (fr := (0, 0)) (by show (wx.heap.push _)[wx.heap.size]? = _; rw [Array.getElem?_push, if_pos rfl])) (by simp [Value.oneCell']) (by unfold maxLen; omega) (by omega) (by simp; omega) ?_
  intro v1 w1 h1 h2 _
  refine h v1 w1 ?_ (grown_pre ((Below.refl _ _).alloc (Nat.le_refl _) _) h2)
  unfold Sc.OwnW
  rw [List.length_append, Sc.strs_snoc, Sc.ba_of]
  exact h1
/-- A line more. -/
theorem wp_line {w0 wx : World} {vl vw : Value} {ps : List (Value × List Sc.Bs)} {ws : List Sc.Bs} {ops : Array Oper} {rest : List Oper} {o : Oper} {f : Act} {Q : Exit → Act → World → Prop}
    (hgd : o.guard = none) (s t : Operand) (ho : o.op = .call { callee := .builtin .append, args := #[s, t], argTypes := #[66, 66] }) (hs : f.eval s = vl)
    (hst : Sc.St w0 vl vw ps ws wx) (hne : ws ≠ []) {M : Nat} (hM : wx.heap.size = M) (hx : f.eval t = .slice (some ⟨M, 0, none⟩) 1 1) (hlen : ps.length ≤ 1000000000)
    (h : ∀ v1 w1, Sc.St w0 v1 (.slice none 0 0) (ps ++ [(vw, ws)]) [] w1 → wpList Tryz.prog ops Q rest (f.put o.dst v1) w1) :
    wpList Tryz.prog ops Q (o :: rest) f (wx.alloc (.cells #[vw] 58)) := by
  subst hM
  obtain ⟨i0, hi, hz0, hz1, hz2⟩ := info_parts Sc.infoStrs
  have hst2 := hst.below (Sc.boxB wx (.cells #[vw] 58))
  have hsz := hst2.2.2.2.2.size
  obtain ⟨gv, hgv⟩ := hst.2.1.block hne
  have h1c : vw.oneCell' = true := by
    rcases hst.2.1.2 with ⟨e, _⟩ | ⟨g, cap, cur, e, _⟩ <;> (rw [e]; rfl)
  refine wpList_append_own_at _ hgd s t 66 ho w0.heap.size 58 i0 _ 1 24 Tryz.underlying66 hi hz0 hz1 hz2 rfl (by decide) vl ps.length _ hs hst2.1.1 ⟨wx.heap.size, 0, none⟩ 1 1 [vw] hx rfl (World.news_of_block (cs := #[vw]) (t := 58) (fr := (0, 0)) (by show (wx.heap.push _)[wx.heap.size]? = _; rw [Array.getElem?_push, if_pos rfl])) (by simpa using h1c) (by unfold maxLen; omega) (by omega) hsz ?_
  intro v1 w1 h1 h2 _ h4
  exact h v1 w1 (hst2.line hne h1 h2 h4)

set_option maxHeartbeats 4000000 in
theorem lineOf_any (d : De) (h1 : 1 ≤ d.kd) (h4 : d.kd ≤ 4) (hz : d.da.size ≤ 100000000) (w : World) :
    Calls Tryz.prog 28 #[.agg #[.int .i64 d.kd, .string d.pa, .string d.da]] w fun e w' => ∃ v, e = .returned v ∧ Sc.OwnW w' w.heap.size v (lineW d) ∧ Below w.heap.size w w' := by
  obtain ⟨k, p, t⟩ := d
  simp only at *
  have HW : Hid (∀ w1, Calls Tryz.prog 44 #[.int .i64 k] w1 fun e w' => e = .returned (.string (wordP k)) ∧ w' = w1) := fun w1 => by
    have := wordOf_any k w1
    rw [wordO_is h1 h4] at this
    exact this
  have HD : Hid (∀ w1, Calls Tryz.prog 45 #[.string t] w1 fun e w' => e = .returned (.string (hexT t)) ∧ Below w1.heap.size w1 w') := fun w1 => digitsOf_any t w1 hz
  have HL : Hid ((k = 4 → lineW ⟨k, p, t⟩ = [(wordP k).data.toList, p.data.toList, (hexT t).data.toList]) ∧ (k ≠ 4 → lineW ⟨k, p, t⟩ = [(wordP k).data.toList, p.data.toList])) := ⟨fun h => by unfold lineW; simp [h], fun h => by unfold lineW; simp [h]⟩
  generalize lineW ⟨k, p, t⟩ = L at *
  obtain ⟨W0, hW0⟩ : ∃ W0, W0 = w.alloc (.cells #[.int .i64 k, .string p, .string t] 32) := ⟨_, rfl⟩
  have HX : Hid (Below w.heap.size w W0) := by rw [hW0]; exact (Below.refl _ _).alloc (Nat.le_refl _) _
  obtain ⟨x0, x1, x2, x3⟩ : BxDe W0 w.heap.size k p t := by rw [hW0]; exact bxDe_new _ _ _ _
  generalize wordP k = wd at *
  generalize hexT t = ht at *
  cases hk : (k == 4)
  · have HL2 : Hid (L = [wd.data.toList, p.data.toList]) := HL.out.2 (fun e => by rw [e] at hk; cases hk)
    go_enter Tryz.func28, Tryz.ntmps28
    go_wp2_with fail
    rw [← hW0]
    clear hW0
    go_region_held3 (fun w' => w'.cell? ⟨w.heap.size, 0, none⟩ = some (.int .i64 k) ∧ w'.cell? ⟨w.heap.size, 1, none⟩ = some (.string p)) (go_keep) (first | (go_at_call 44; refine (HW.out _).mono ?_; rintro e w5 ⟨rfl, hw5⟩; subst hw5))
    obtain ⟨W1, hW1⟩ : ∃ W1, W1 = (W0.alloc (.cells #[.string wd, .string p] 9)).drew := ⟨_, rfl⟩
    have HBW : Hid (Below W0.heap.size W0 W1) := by rw [hW1]; exact ((Below.refl _ _).alloc (Nat.le_refl _) _).drew
    have HOW : Hid (Sc.OwnW W1 w.heap.size (.slice (some ⟨W0.heap.size, 0, none⟩) 2 2) [wd.data.toList, p.data.toList]) := by
      rw [hW1]
      exact (ownW_new (w := W0) [wd.data.toList, p.data.toList] #[.string wd, .string p] (by simp [Sc.strs, Sc.ba_of]) HX.out.size (by unfold maxLen; simp)).below (Below.refl _ _).drew
    have y0 := (HBW.out.cell (p := ⟨w.heap.size, 0, none⟩) x3).trans x0
    rw [← hW1]
    clear hW1 x0 x1 x2
    go_wp2_with fail
    go_ret
    exact ⟨_, rfl, by rw [HL2.out]; exact HOW.out, HX.out.trans (HBW.out.mono HX.out.size)⟩
  · have HL2 : Hid (L = [wd.data.toList, p.data.toList] ++ [ht.data.toList]) := HL.out.1 (beq_iff_eq.1 hk)
    go_enter Tryz.func28, Tryz.ntmps28
    go_wp2_with fail
    rw [← hW0]
    clear hW0
    go_region_held3 (fun w' => w'.cell? ⟨w.heap.size, 0, none⟩ = some (.int .i64 k) ∧ w'.cell? ⟨w.heap.size, 1, none⟩ = some (.string p)) (go_keep) (first | (go_at_call 44; refine (HW.out _).mono ?_; rintro e w5 ⟨rfl, hw5⟩; subst hw5))
    obtain ⟨W1, hW1⟩ : ∃ W1, W1 = (W0.alloc (.cells #[.string wd, .string p] 9)).drew := ⟨_, rfl⟩
    have HBW : Hid (Below W0.heap.size W0 W1) := by rw [hW1]; exact ((Below.refl _ _).alloc (Nat.le_refl _) _).drew
    have HOW : Hid (Sc.OwnW W1 w.heap.size (.slice (some ⟨W0.heap.size, 0, none⟩) 2 2) [wd.data.toList, p.data.toList]) := by
      rw [hW1]
      exact (ownW_new (w := W0) [wd.data.toList, p.data.toList] #[.string wd, .string p] (by simp [Sc.strs, Sc.ba_of]) HX.out.size (by unfold maxLen; simp)).below (Below.refl _ _).drew
    have y0 := (HBW.out.cell (p := ⟨w.heap.size, 0, none⟩) x3).trans x0
    have y2 := (HBW.out.cell (p := ⟨w.heap.size, 2, none⟩) x3).trans x2
    have HBA : Hid (Below w.heap.size w W1) := HX.out.trans (HBW.out.mono HX.out.size)
    rw [← hW1]
    clear hW1 x0 x1 x2
    go_wp2_with (first
      | (go_at_call 45; refine (HD.out _).mono ?_; rintro e w2 ⟨rfl, hb2⟩; have HO2 := hide3 (HOW.out.below hb2); have HB2 : Hid (Below w.heap.size w w2) := HBA.out.trans (hb2.mono HBA.out.size); clear hb2)
      | (at_builtin; refine wp_word (B := w.heap.size) (wx := w2) (v := .slice (some ⟨W0.heap.size, 0, none⟩) 2 2) (ws := [wd.data.toList, p.data.toList]) rfl (.tmp 13) (.tmp 17) rfl rfl HO2.out HB2.out.size ht rfl rfl (by simp) ?_; intro v3 w3 ho3 hg3; have HO3 := hide3 ho3; have HB3 : Hid (Below w.heap.size w w3) := HB2.out.grown hg3 HB2.out.size (fun q hq => (World.ownsRow.lt HO2.out q hq).1); clear ho3 hg3))
    go_ret
    exact ⟨_, rfl, by rw [HL2.out]; exact HO3.out, HB3.out⟩
end Go.Proofs.YtefcndfeemnglaaGreatDoor
