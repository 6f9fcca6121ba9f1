/- comings of package delta: what comes, in whatever order the map is gone through. Conditions: sizes. -/
import Derived.Test.YtcpmfhalphoppaaDoorDx4
import Derived.Laws.StructEq
namespace Go.Proofs.YtcpmfhalphoppaaDoor
open Go.RowKit Go.Maps Go.WideMaps Go.WideElems Dk
set_option maxRecDepth 100000

theorem step_de {B : Nat} {wx : World} {v : Value} {ds : List De} {ops : Array Oper} {o : Oper} {f : Act} {K : Act → World → Prop} {Q : Exit → Act → World → Prop} {E : Prop}
    (hgd : o.guard = none) (s t : Operand) (ho : o.op = .call { callee := .builtin .append, args := #[s, t], argTypes := #[23, 23] }) (hs : f.eval s = v)
    (hown : OwnDe wx B v ds) (hB : B ≤ wx.heap.size) (x : De) {M : Nat} (hM : wx.heap.size = M) (hx : f.eval t = .slice (some ⟨M, 0, none⟩) 1 1) (hlen : ds.length ≤ 1000000000)
    (h : ∀ v1 w1, OwnDe w1 B v1 (ds ++ [x]) → wx.grownBy w1 v.ownBlock → K (f.put o.dst v1) w1) :
    if Region.wanted o (yielded ops f.tmps) = true then Oper.wp Tryd.prog o f (wx.alloc (.cells #[.int .i64 x.kd, .string x.pa, .string x.da] 33)) K Q else E := by
  have hw : Region.wanted o (yielded ops f.tmps) = true := by simp [Region.wanted, hgd]
  rw [if_pos hw]
  subst hM
  obtain ⟨i0, hi, hz0, hz1, hz2⟩ := info_parts infoDe
  obtain ⟨v1, w1, hr, hown1, hg1, _, _⟩ := run_append_own_at (P := Tryd.prog) (wx.alloc (.cells #[.int .i64 x.kd, .string x.pa, .string x.da] 33)) B 23 o.type 33 i0 _ 3 40 Tryd.underlying23 hi hz0 hz1 hz2 rfl (by decide) v ds.length _ (World.ownsRow.alloc hown _) ⟨wx.heap.size, 0, none⟩ 1 1 [.int .i64 x.kd, .string x.pa, .string x.da] rfl
    (news_deed wx x.kd x.pa x.da) (by simp [Value.oneCell']) (by unfold maxLen; omega) (by omega) (by simp; omega)
  unfold Oper.wp execOp
  simp only [ho, resolve, invoke, builtin, Sem.run_bind, Sem.run_pure, Result.andThen_ok, List.map_toArray, List.map_cons, List.map_nil, hs, hx, hr]
  exact h v1 w1 (OwnDe.snoc hown1) (grown_pre ((Below.refl _ _).alloc (Nat.le_refl _) _) hg1)

theorem eqInFi (p : ByteArray) (c : Bool) (t : ByteArray) (p' : ByteArray) (c' : Bool) (t' : ByteArray) (w : World) : (Op.equalIn 10000 31 (.agg #[.string p, .bool c, .string t]) (.agg #[.string p', .bool c', .string t'])).run Tryd.prog w = .ok (decide (p.toList = p'.toList) && (decide (c = c') && decide (t.toList = t'.toList))) w := by
  have u3 := Tryd.underlying4
  have a3 := Tryd.isAgg4
  have z3 := Tryd.sizeOf4
  have u9 := Tryd.underlying9
  have a9 := Tryd.isAgg9
  have z9 := Tryd.sizeOf9
  rw [show (10000 : Nat) = 9999 + 1 from rfl, run_equalIn_agg w 9999 31 _ _ (by kernel_rfl) (by kernel_rfl)]
  simp only [Program.fieldsOf, Tryd.underlying31]
  by_cases h1 : p.toList = p'.toList
  · by_cases h2 : c = c'
    · subst h2
      by_cases h3 : t.toList = t'.toList
      · simp only [h1, h3, decide_true, Bool.and_true]; go_simp
      · simp only [h1, h3, decide_true, decide_false, Bool.and_false]; go_simp
    · simp only [h1, h2, decide_true, decide_false, Bool.and_false, Bool.false_and]; go_simp
  · simp only [h1, decide_false, Bool.false_and]; go_simp
theorem neqFi (p : ByteArray) (c : Bool) (t : ByteArray) (p' : ByteArray) (c' : Bool) (t' : ByteArray) (w : World) : (binOp .neq 31 (.agg #[.string p, .bool c, .string t]) (.agg #[.string p', .bool c', .string t'])).run Tryd.prog w = .ok (.bool (!(decide (p.toList = p'.toList) && (decide (c = c') && decide (t.toList = t'.toList))))) w := by
  rw [run_neq_struct, eqInFi]; rfl

set_option maxHeartbeats 8000000 in
theorem comings_any {w : World} {m1 n1 m2 n2 : Nat} {D1 D2 : DataW Value} {V U : List Fl} (h1 : MapAt w m1 n1 D1 U) (h2 : MapAt w m2 n2 D2 V) (hap : Apart U) (hsz : ∀ x ∈ V, x.1.size ≤ 4096 ∧ x.2.2.size ≤ 281474976710656) (hn : V.length ≤ 1048576)
    (hdU : ∀ x ∈ U, x.2.1 = true → x.2.2 = ByteArray.empty) (hdV : ∀ x ∈ V, x.2.1 = true → x.2.2 = ByteArray.empty) (hne : ∀ x ∈ V, x.1 ≠ ByteArray.empty) :
    Calls Tryd.prog 13 #[.map (some m1), .map (some m2)] w fun e w' => ∃ v X, e = .returned v ∧ X.Perm V ∧ OwnDe w' w.heap.size v (lC U X) ∧ Below w.heap.size w w' := by
  have HDU := hide3 hdU
  have HDV := hide3 hdV
  have HNE := hide3 hne
  have HGD := fun op x y xs ys w => guardFile op x y xs ys w
  clear hdU hdV hne
  obtain ⟨i0, hi, hz0, hz1, hz2⟩ := info_parts infoDe
  have HO : Hid (w.ownsMap Tryd.prog 9 hldR m2 n2 D2) := h2.1
  have HMF : Hid (MapF D2 (V.map fi)) := h2.2
  have HOT : Hid (MapAt w m1 n1 D1 U) := h1
  have HSZ := hide3 hsz
  have HAP := hide3 hap
  have HME0 : Hid (m2 < w.heap.size) := h2.1.lt
  clear h1 h2 hsz hap
  go_enter Tryd.func13, Tryd.ntmps13
  go_wp2_with (at_range; refine wpList_range_own _ rfl _ 35 rfl 9 31 keyedF Tryd.underlying35 _ m2 n2 _ rfl HO.out ?_; intro w0 hrg0 hg0 hs0; have HS0 : Hid (w0.heap.size = w.heap.size + 1) := hs0; clear hs0)
  go_frame
  go_loopw [5] (fun v wr => ∃ (left : Lit → Bool) (cnt : Nat) (X Y : List Fl), wr.ranges Tryd.prog 9 hldR m2 w.heap.size n2 D2 left cnt ∧ GoneF (V.map fi) (X.map fi) (Y.map fi) left ∧ OwnDe wr (w.heap.size + 1) v (lC U X) ∧ Below w.heap.size w wr ∧ w.heap.size + 1 ≤ wr.heap.size)
    (fun _ wr => wr.rangeLeft m2 w.heap.size)
  case atStart =>
    exact ⟨_, _, [], V, hrg0, GoneF.start HMF.out, OwnDe.nil _ _, (Below.refl _ _).grown hg0 (Nat.le_refl _) (fun j hj => by cases hj), Nat.le_of_eq HS0.out.symm⟩
  case round =>
    obtain ⟨left, cnt, X, Y, hrg, hgn, hrow, hb, hsz1⟩ := hrel
    have HR := hide3 hrg
    have HG := hide3 hgn
    have HRW := hide3 hrow
    have HB := hide3 hb
    have hXV := gone_len hgn
    have hXl := lC_len U X
    clear hrg hgn hrow hb
    go_wp2_with (at_next; refine wpList_next_ranges _ rfl _ rfl 9 keyedF hldR (α := Value) (β := Value) id id (fun key kl hk => ⟨key, rfl⟩) (fun v y hv => ⟨v, rfl⟩) m2 w.heap.size n2 _ _ _ rfl HR.out ?_ ?_)
    · intro hc0 hl0
      have HP : Hid (X.Perm V) := perm_fi (HG.out.done hl0)
      clear hc0 hl0
      go_wp2
      go_ret
      exact ⟨_, X, rfl, HP.out, HRW.out.base (Nat.le_succ _), HB.out⟩
    · intro key val kl yd yp w2 cnt2 hkey hlk hv hat hrg2 hlt hg2 hs2 hen
      obtain ⟨xx, hxU, rfl⟩ := HG.out.2.2 kl hlk
      obtain ⟨x, hxY, rfl⟩ := List.mem_map.1 hxU
      have hxL : x ∈ V := by
        obtain ⟨z, hz, ez⟩ := List.mem_map.1 (HG.out.1.mem_iff.1 (List.mem_append_right _ hxU))
        exact fi_inj ez ▸ hz
      obtain ⟨q, rfl, eq, _⟩ := keyOf_inv hkey
      obtain rfl : q = x.1 := (keyF_inj eq).symm
      have hvx : val = filC (fi x) := by
        have q := hat (.held val)
        rw [(HMF.out.has (fi x) (List.mem_map.2 ⟨x, hxL, rfl⟩)).2] at q
        unfold hldR at hv
        simp only [Option.some.injEq, Prod.mk.injEq] at hv
        rw [← hv.1] at q
        injection q with q
        exact q.symm
      subst hvx
      obtain ⟨U', hC'⟩ := HG.out.step HMF.out.dist hxU
      obtain ⟨X2, Y2, eX, eY⟩ := of_fi hC'.1
      have HG' : Hid (GoneF (V.map fi) ((X ++ [x]).map fi) (Y2.map fi) (fun z => left z && !z.sameKey (keyF (fi x).pa))) := by
        unfold Hid
        rw [← eY, List.map_append]
        exact hC'
      have HR2 := hide3 hrg2
      have HB2 : Hid (Below w.heap.size w w2) := HB.out.grown hg2 HB.out.size (fun j hj => by cases hj; exact Nat.le_refl _)
      have HV2 : Hid (OwnDe w2 (w.heap.size + 1) u5 (lC U X)) := HRW.out.grown hg2 (fun k hk e => by have := (HRW.out.lt hk).2; have := Option.some.inj e; omega)
      have HMS : Hid (∀ w5 row, w2.grownBy w5 row → some m2 ≠ row → some w.heap.size ≠ row → w5.rangeLeft m2 w.heap.size < wr.rangeLeft m2 w.heap.size) := fun w5 row hg h1 h2 => by rw [(HR2.out.kept hg h1 h2).left_eq, HR.out.left_eq]; exact hlt
      have hle2 : w.heap.size + 1 ≤ w2.heap.size := by have := HR2.out.lt; omega
      have HPZ : Hid (x.1.size ≤ 4096 ∧ x.2.2.size ≤ 281474976710656) := HSZ.out x hxL
      have HYN : Hid (0 < Y.length) := List.length_pos_of_mem hxY
      have hYN := HYN.out
      clear hkey hlk hv hat hrg2 hlt hg2 hs2 hC' hxU eX eY eq hxY hXl
      have hXl := lC_len U X
      unfold filC fi at hen
      simp only at hen
      have HMT : Hid (∀ W, Below w.heap.size w W → MapAt W m1 n1 D1 U) := fun W hb => HOT.out.below hb
      have HX : Hid (Below w2.heap.size w2 (w2.alloc (.cells #[.string x.1, .bool x.2.1, .string x.2.2] 31))) := (Below.refl _ _).alloc (Nat.le_refl _) _
      have hpm : x.1.size ≤ maxLen := by have := HPZ.out.1; unfold maxLen; omega
      have HGI : Hid ((wC U x = true → lC U (X ++ [x]) = lC U X ++ [dC x]) ∧ (wC U x = false → lC U (X ++ [x]) = lC U X)) := ⟨fun h => by rw [lC_snoc, if_pos h], fun h => by rw [lC_snoc, if_neg (by rw [h]; decide), List.append_nil]⟩
      have HCL : Hid (∀ W, Calls Tryd.prog 25 #[.string x.1] W fun e w' => e = .returned (.string x.1) ∧ Below W.heap.size W w') := fun W => strClone_any _ (by have := HPZ.out.1; omega) W
      have HCT : Hid (∀ W, Calls Tryd.prog 25 #[.string x.2.2] W fun e w' => e = .returned (.string x.2.2) ∧ Below W.heap.size W w') := fun W => strClone_any _ HPZ.out.2 W
      have HKO : Hid (∀ W, Calls Tryd.prog 24 #[.agg #[.string x.1, .bool x.2.1, .string x.2.2], .int .i64 4, .int .i64 3] W fun e w' => e = .returned (.int .i64 (dC x).kd) ∧ Below W.heap.size W w') := fun W => kindOf_any x.1 x.2.1 x.2.2 4 3 W
      have HFN : Hid (∀ W, Below (w2.alloc (.cells #[.string x.1, .bool x.2.1, .string x.2.2] 31)).heap.size (w2.alloc (.cells #[.string x.1, .bool x.2.1, .string x.2.2] 31)) W → W.cell? ⟨w2.heap.size, 0, none⟩ = some (.string x.1) ∧ W.cell? ⟨w2.heap.size, 1, none⟩ = some (.bool x.2.1) ∧ W.cell? ⟨w2.heap.size, 2, none⟩ = some (.string x.2.2)) := fun W => file_new w2 W x.1 x.2.1 x.2.2
      have HDC : Hid (dC x = ⟨(dC x).kd, x.1, x.2.2⟩) := rfl
      have HEQ : Hid (∀ z : Fl, z ∈ U → z.1 = x.1 → (wC U x = false ∧ (decide (z.1.toList = x.1.toList) && (decide (z.2.1 = x.2.1) && decide (z.2.2.toList = x.2.2.toList))) = true) ∨ (wC U x = true ∧ (decide (z.1.toList = x.1.toList) && (decide (z.2.1 = x.2.1) && decide (z.2.2.toList = x.2.2.toList))) = false)) := fun z hz ez => by
        unfold wC
        rw [← ez, atL_mem HAP.out hz, told_kd]
        have e1 := HDU.out z hz
        have e2 := HDV.out x hxL
        obtain ⟨zp, zc, zt⟩ := z
        obtain ⟨xp, xc, xt⟩ := x
        simp only at e1 e2 ⊢
        unfold toldF kdF
        cases zc <;> cases xc
        · by_cases q : zt.toList = xt.toList
          · left; simp [q]
          · right; simp [q]
        · right; simp
        · right; simp
        · left; simp [e1 rfl, e2 rfl]
      have HWN : Hid ((∀ z ∈ U, z.1 ≠ x.1) → wC U x = true) := fun h => by unfold wC kdF; rw [atL_none h]; cases x.2.1 <;> rfl
      have hX1 : decide ((⟨#[]⟩ : ByteArray).toList = x.1.toList) = false := by
        rw [decide_eq_false_iff_not]
        intro e
        exact HNE.out x hxL (beq_bytes.1 (beq_iff_eq.2 e)).symm
      have HCE : Hid (∀ W, (w2.alloc (.cells #[.string x.1, .bool x.2.1, .string x.2.2] 31)).grownBy W u5.ownBlock → W.cell? ⟨w2.heap.size, 0, none⟩ = some (.string x.1) ∧ W.cell? ⟨w2.heap.size, 1, none⟩ = some (.bool x.2.1) ∧ W.cell? ⟨w2.heap.size, 2, none⟩ = some (.string x.2.2)) := fun W hg => by
        have hne2 : some w2.heap.size ≠ u5.ownBlock := fun e => by have := (HV2.out.lt e.symm).1; omega
        obtain ⟨q0, q1, q2⟩ := HFN.out _ (Below.refl _ _)
        refine ⟨?_, ?_, ?_⟩
        · exact (World.cell?_of_block (a := ⟨w2.heap.size, 0, none⟩) (hg.block w2.heap.size (by simp) hne2)).trans q0
        · exact (World.cell?_of_block (a := ⟨w2.heap.size, 1, none⟩) (hg.block w2.heap.size (by simp) hne2)).trans q1
        · exact (World.cell?_of_block (a := ⟨w2.heap.size, 2, none⟩) (hg.block w2.heap.size (by simp) hne2)).trans q2
      rcases atL_cases HAP.out x.1 with ⟨y, hyU, ey, eat⟩ | ⟨hno, eat⟩
      · obtain ⟨l1, l2⟩ := look_yes (HMT.out _ (HB2.out.trans (HX.out.mono HB2.out.size))) hyU (by rw [ey]; exact hpm)
        rw [ey] at l1 l2
        have hq := fun w => neqFi x.1 y.2.1 y.2.2 x.1 x.2.1 x.2.2 w
        have he := HEQ.out y hyU ey
        rw [ey] at he
        clear l1 eat hyU ey hX1
        generalize (decide (x.1.toList = x.1.toList) && (decide (y.2.1 = x.2.1) && decide (y.2.2.toList = x.2.2.toList))) = bb at *
        rcases he with ⟨hwc, rfl⟩ | ⟨hwc, rfl⟩
        · have HLG : Hid (lC U (X ++ [x]) = lC U X) := HGI.out.2 hwc
          have HBZ := hide3 HX.out
          clear hwc HGI HEQ HWN HMT HX HDC HKO HCL HCT HFN HCE
          generalize y.2.1 = yc at *
          generalize y.2.2 = yt at *
          go_wp2_with fail
          exact ⟨⟨_, cnt2, X ++ [x], Y2, HR2.out.kept (below_grown HBZ.out) (by simp) (by simp), HG'.out, by rw [HLG.out]; exact HV2.out.below HBZ.out, HB2.out.trans (HBZ.out.mono HB2.out.size), Nat.le_trans hle2 HBZ.out.size⟩, HMS.out _ _ (below_grown HBZ.out) (by simp) (by simp)⟩
        · generalize y.2.1 = yc at *
          generalize y.2.2 = yt at *
          have HLG : Hid (lC U (X ++ [x]) = lC U X ++ [⟨(dC x).kd, x.1, x.2.2⟩]) := HGI.out.1 hwc
          clear hwc HGI HEQ HWN HMT
          generalize (dC x).kd = K at *
          obtain ⟨p, c, t⟩ := x
          simp only at *
          obtain ⟨x0, x1, x2⟩ := HFN.out _ ((Below.refl _ _).drew)
          have HA0 : Hid (Below (w2.alloc (.cells #[.string p, .bool c, .string t] 31)).heap.size (w2.alloc (.cells #[.string p, .bool c, .string t] 31)) (w2.alloc (.cells #[.string p, .bool c, .string t] 31)).drew) := (Below.refl _ _).drew
          go_wp2_with fail
          go_region_held3 (fun w' => w'.cell? ⟨w2.heap.size, 0, none⟩ = some (.string p) ∧ w'.cell? ⟨w2.heap.size, 1, none⟩ = some (.bool c) ∧ w'.cell? ⟨w2.heap.size, 2, none⟩ = some (.string t)) (go_keep) (first
            | (refine step_de (B := w.heap.size + 1) (M := w7.heap.size) (wx := w7) (v := u5) (ds := lC U X) rfl (.tmp 20) (.tmp 29) rfl rfl HO7.out hB7 ⟨K, p, t⟩ rfl rfl (by omega) ?_; intro v8 w8 ho hgr; have HO8 := hide3 ho; have HG7 := hide3 (grown_pre HB7.out hgr); have t0 := (HCE.out w8 (grown_pre HB7.out hgr)).1; have t1 := (HCE.out w8 (grown_pre HB7.out hgr)).2.1; have t2 := (HCE.out w8 (grown_pre HB7.out hgr)).2.2; clear ho hgr)
            | (have _t := HB6; go_at_call 25; refine (HCT.out _).mono ?_; rintro e w7 ⟨rfl, hb7⟩; have HB7 := hide3 (HB6.out.trans (hb7.mono HB6.out.size)); obtain ⟨z0, z1, z2⟩ := HFN.out _ HB7.out; have HO7 := hide3 (HV2.out.below (HX.out.trans (HB7.out.mono HX.out.size))); have hB7 : w.heap.size + 1 ≤ w7.heap.size := Nat.le_trans hle2 (Nat.le_trans HX.out.size HB7.out.size); clear hb7)
            | (have _t := HB5; go_at_call 25; refine (HCL.out _).mono ?_; rintro e w6 ⟨rfl, hb6⟩; have HB6 := hide3 (HB5.out.trans (hb6.mono HB5.out.size)); obtain ⟨y0, y1, y2⟩ := HFN.out _ HB6.out; clear hb6)
            | (go_at_call 24; refine (HKO.out _).mono ?_; rintro e w5 ⟨rfl, hb5⟩; have HB5 := hide3 (HA0.out.trans (hb5.mono HA0.out.size)); obtain ⟨v0, v1, v2⟩ := HFN.out _ HB5.out; clear hb5))
          all_goals go_wp2
          all_goals have HG8 := hide3 (grown_pre HX.out HG7.out)
          all_goals have hr1 : some m2 ≠ u5.ownBlock := fun e => by have := (HV2.out.lt e.symm).2; have := HME0.out; omega
          all_goals have hr2 : some w.heap.size ≠ u5.ownBlock := fun e => by have := (HV2.out.lt e.symm).2; omega
          all_goals exact ⟨⟨_, cnt2, X ++ [(p, c, t)], Y2, HR2.out.kept HG8.out hr1 hr2, HG'.out, by rw [HLG.out]; exact HO8.out, HB2.out.grown HG8.out HB2.out.size (fun k hk => by have := (HV2.out.lt hk).2; omega), Nat.le_trans hle2 HG8.out.size⟩, HMS.out _ _ HG8.out hr1 hr2⟩
      · obtain ⟨l1, l2⟩ := look_no (HMT.out _ (HB2.out.trans (HX.out.mono HB2.out.size))) hno hpm
        have hq := fun w => neqFi ⟨#[]⟩ false ⟨#[]⟩ x.1 x.2.1 x.2.2 w
        rw [hX1, Bool.false_and] at hq
        have hwc := HWN.out hno
        clear l1 eat hno hX1
        have HLG : Hid (lC U (X ++ [x]) = lC U X ++ [⟨(dC x).kd, x.1, x.2.2⟩]) := HGI.out.1 hwc
        clear hwc HGI HEQ HWN HMT
        generalize (dC x).kd = K at *
        obtain ⟨p, c, t⟩ := x
        simp only at *
        obtain ⟨x0, x1, x2⟩ := HFN.out _ ((Below.refl _ _).drew)
        have HA0 : Hid (Below (w2.alloc (.cells #[.string p, .bool c, .string t] 31)).heap.size (w2.alloc (.cells #[.string p, .bool c, .string t] 31)) (w2.alloc (.cells #[.string p, .bool c, .string t] 31)).drew) := (Below.refl _ _).drew
        go_wp2_with fail
        go_region_held3 (fun w' => w'.cell? ⟨w2.heap.size, 0, none⟩ = some (.string p) ∧ w'.cell? ⟨w2.heap.size, 1, none⟩ = some (.bool c) ∧ w'.cell? ⟨w2.heap.size, 2, none⟩ = some (.string t)) (go_keep) (first
          | (refine step_de (B := w.heap.size + 1) (M := w7.heap.size) (wx := w7) (v := u5) (ds := lC U X) rfl (.tmp 20) (.tmp 29) rfl rfl HO7.out hB7 ⟨K, p, t⟩ rfl rfl (by omega) ?_; intro v8 w8 ho hgr; have HO8 := hide3 ho; have HG7 := hide3 (grown_pre HB7.out hgr); have t0 := (HCE.out w8 (grown_pre HB7.out hgr)).1; have t1 := (HCE.out w8 (grown_pre HB7.out hgr)).2.1; have t2 := (HCE.out w8 (grown_pre HB7.out hgr)).2.2; clear ho hgr)
          | (have _t := HB6; go_at_call 25; refine (HCT.out _).mono ?_; rintro e w7 ⟨rfl, hb7⟩; have HB7 := hide3 (HB6.out.trans (hb7.mono HB6.out.size)); obtain ⟨z0, z1, z2⟩ := HFN.out _ HB7.out; have HO7 := hide3 (HV2.out.below (HX.out.trans (HB7.out.mono HX.out.size))); have hB7 : w.heap.size + 1 ≤ w7.heap.size := Nat.le_trans hle2 (Nat.le_trans HX.out.size HB7.out.size); clear hb7)
          | (have _t := HB5; go_at_call 25; refine (HCL.out _).mono ?_; rintro e w6 ⟨rfl, hb6⟩; have HB6 := hide3 (HB5.out.trans (hb6.mono HB5.out.size)); obtain ⟨y0, y1, y2⟩ := HFN.out _ HB6.out; clear hb6)
          | (go_at_call 24; refine (HKO.out _).mono ?_; rintro e w5 ⟨rfl, hb5⟩; have HB5 := hide3 (HA0.out.trans (hb5.mono HA0.out.size)); obtain ⟨v0, v1, v2⟩ := HFN.out _ HB5.out; clear hb5))
        all_goals go_wp2
        all_goals have HG8 := hide3 (grown_pre HX.out HG7.out)
        all_goals have hr1 : some m2 ≠ u5.ownBlock := fun e => by have := (HV2.out.lt e.symm).2; have := HME0.out; omega
        all_goals have hr2 : some w.heap.size ≠ u5.ownBlock := fun e => by have := (HV2.out.lt e.symm).2; omega
        all_goals exact ⟨⟨_, cnt2, X ++ [(p, c, t)], Y2, HR2.out.kept HG8.out hr1 hr2, HG'.out, by rw [HLG.out]; exact HO8.out, HB2.out.grown HG8.out HB2.out.size (fun k hk => by have := (HV2.out.lt hk).2; omega), Nat.le_trans hle2 HG8.out.size⟩, HMS.out _ _ HG8.out hr1 hr2⟩
end Go.Proofs.YtcpmfhalphoppaaDoor
