/- Ct26, Rc2, laid in one text. -/
import Derived.Test.YtjpmlagofcgheaaGreatDoorMg21
namespace Go.Proofs.YtjpmlagofcgheaaGreatDoor
open Go.RowKit Go.Maps Go.WideMaps
set_option maxRecDepth 100000

theorem isPn_eq (s : ByteArray) (x : Vn) (p : Pn) : isPn s x p = eqPn p ⟨s, x.a, x.b, x.c⟩ := by
  rw [Bool.eq_iff_iff, eqPn_iff]
  unfold isPn
  rw [decide_eq_true_eq]
  obtain ⟨n, a, b, c⟩ := p
  simp

end Go.Proofs.YtjpmlagofcgheaaGreatDoor
namespace Go.Proofs.YtjpmlagofcgheaaGreatDoor
open Go.RowKit Go.Maps Go.WideMaps
set_option maxRecDepth 100000

theorem cat_at {R : List CV} {s : ByteArray} {a b c : Int} {i : Nat} (hi : i < R.length) (h : isAt s a b c R[i] = true) (hb : ∀ j (hj : j < R.length), j < i → isAt s a b c R[j] = false) : catC R s a b c = some R[i] := by
  unfold catC
  rw [List.find?_eq_some_iff_getElem]
  refine ⟨h, i, hi, rfl, fun j hj => ?_⟩
  rw [hb j (by omega) hj]
  rfl
theorem cat_not {R : List CV} {s : ByteArray} {a b c : Int} (hb : ∀ j (hj : j < R.length), j < R.length → isAt s a b c R[j] = false) : catC R s a b c = none := by
  unfold catC
  rw [List.find?_eq_none]
  intro x hx
  obtain ⟨j, hj, rfl⟩ := List.getElem_of_mem hx
  rw [hb j hj hj]
  decide

set_option maxHeartbeats 6400000 in
theorem rget_any {w0 w : World} {E : Nat} {R : List CV} (h : RcAt w0 w E R) (s : ByteArray) (a b c : Int) : Calls Tryz.prog 14 #[.pointer (some ⟨E, 0, none⟩), .string s, .agg #[.int .i64 a, .int .i64 b, .int .i64 c]] w fun e w' => e = .returned (.tuple #[gotV R s a b c, .bool (catC R s a b c).isSome]) ∧ Below w.heap.size w w' := by
  have hE := h.lt
  obtain ⟨⟨v, hv, ho⟩, hR, _, hl⟩ := h
  have e0 : w.cell? ⟨E, 0, none⟩ = some v := by simp [World.cell?, hv]
  obtain ⟨av, cv, rfl⟩ := own_len ho
  have HO := hide3 ho
  have HR : Hid (∀ x ∈ R, (∃ a n c, x.u1 = .slice a n c) ∧ (∃ a n c, x.u2 = .slice a n c) ∧ ∃ a n c, x.u3 = .slice a n c) := fun x hx => pg_slices (hR x hx).1
  clear ho hv hR
  have HW : Hid (Below w.heap.size w ((w.alloc (.cells #[.int .i64 a, .int .i64 b, .int .i64 c] 31)).alloc (.cells #[.string ⟨#[]⟩, .int .i64 0, .int .i64 0, .int .i64 0, .slice none 0 0, .slice none 0 0, .slice none 0 0] 34))) := boxB2 _ _ _
  have c0 : ((w.alloc (.cells #[.int .i64 a, .int .i64 b, .int .i64 c] 31)).alloc (.cells #[.string ⟨#[]⟩, .int .i64 0, .int .i64 0, .int .i64 0, .slice none 0 0, .slice none 0 0, .slice none 0 0] 34)).cell? ⟨w.heap.size, 0, none⟩ = some (.int .i64 a) := by simp
  have c1 : ((w.alloc (.cells #[.int .i64 a, .int .i64 b, .int .i64 c] 31)).alloc (.cells #[.string ⟨#[]⟩, .int .i64 0, .int .i64 0, .int .i64 0, .slice none 0 0, .slice none 0 0, .slice none 0 0] 34)).cell? ⟨w.heap.size, 1, none⟩ = some (.int .i64 b) := by simp
  have c2 : ((w.alloc (.cells #[.int .i64 a, .int .i64 b, .int .i64 c] 31)).alloc (.cells #[.string ⟨#[]⟩, .int .i64 0, .int .i64 0, .int .i64 0, .slice none 0 0, .slice none 0 0, .slice none 0 0] 34)).cell? ⟨w.heap.size, 2, none⟩ = some (.int .i64 c) := by simp
  have BR := hide3 (BxPF.new (w := w.alloc (.cells #[.int .i64 a, .int .i64 b, .int .i64 c] 31)) (N := w.heap.size + 1) (by simp) ⟨#[]⟩ 0 0 0 (.slice none 0 0) (.slice none 0 0) (.slice none 0 0))
  have hlt0 : w.heap.size < ((w.alloc (.cells #[.int .i64 a, .int .i64 b, .int .i64 c] 31)).alloc (.cells #[.string ⟨#[]⟩, .int .i64 0, .int .i64 0, .int .i64 0, .slice none 0 0, .slice none 0 0, .slice none 0 0] 34)).heap.size := by simp; omega
  have HFIN : Hid (∀ W2 (v : Value) (q : Bool), Below w.heap.size w W2 → v = gotV R s a b c → q = (catC R s a b c).isSome → ∀ u0 u1 u2 u3 u4 u5 u6, Ending.returned (.tuple #[v, .bool q]) = .returned (.tuple #[gotV R s a b c, .bool (catC R s a b c).isSome]) ∧ Below w.heap.size w (((((((W2.setCell ⟨w.heap.size + 1, 0, none⟩ u0).setCell ⟨w.heap.size + 1, 1, none⟩ u1).setCell ⟨w.heap.size + 1, 2, none⟩ u2).setCell ⟨w.heap.size + 1, 3, none⟩ u3).setCell ⟨w.heap.size + 1, 4, none⟩ u4).setCell ⟨w.heap.size + 1, 5, none⟩ u5).setCell ⟨w.heap.size + 1, 6, none⟩ u6)) := fun W2 v q hb h1 h2 u0 u1 u2 u3 u4 u5 u6 => ⟨by rw [h1, h2], below_set7 (by omega) hb⟩
  have hgv := guardV
  go_enter Tryz.func14, Tryz.ntmps14
  go_wp2_with fail
  generalize ((w.alloc (.cells #[.int .i64 a, .int .i64 b, .int .i64 c] 31)).alloc (.cells #[.string ⟨#[]⟩, .int .i64 0, .int .i64 0, .int .i64 0, .slice none 0 0, .slice none 0 0, .slice none 0 0] 34)) = W at *
  go_loopw [8] (fun vi wr => ∃ i : Nat, i ≤ R.length ∧ vi = .int .i64 i ∧ Below W.heap.size W wr ∧ ∀ j (hj : j < R.length), j < i → isAt s a b c R[j] = false) (fun vi _ => R.length - (intOf vi).toNat)
  case atStart => exact ⟨0, Nat.zero_le _, rfl, Below.refl _ _, fun j hj h => by omega⟩
  case round =>
    obtain ⟨i, hi, rfl, hbw, hno⟩ := hrel
    have HB := hide3 hbw
    have HNO := hide3 hno
    have HBW : Hid (Below w.heap.size w wr) := below_then HW.out hbw
    have HBR := hide3 (keepBxPF _ _ _ _ _ _ _ _ _ _ BR.out hbw)
    have d0 := (hbw.cell (p := ⟨w.heap.size, 0, none⟩) hlt0).trans c0
    have d1 := (hbw.cell (p := ⟨w.heap.size, 1, none⟩) hlt0).trans c1
    have d2 := (hbw.cell (p := ⟨w.heap.size, 2, none⟩) hlt0).trans c2
    have f0 := (HBW.out.cell (p := ⟨E, 0, none⟩) hE).trans e0
    clear hbw hno c0 c1 c2 e0
    by_cases hlt : i < R.length
    · have hki : (i : Int) < (R.length : Int) := by omega
      obtain ⟨g, cap, _, hg, hvv, hcap, hcells⟩ := rc_cells HO.out (by omega)
      injection hvv with hq1 _ hq2
      subst hq1
      subst hq2
      obtain ⟨p0, p1, p2, p3, p4, p5, p6⟩ := (hcells i hlt).below HBW.out hg
      obtain ⟨⟨a1, n1, k1, q1⟩, ⟨a2, n2, k2, q2⟩, a3, n3, k3, q3⟩ := HR.out _ (List.getElem_mem hlt)
      have HYES : Hid (isAt s a b c R[i] = true → catC R s a b c = some R[i]) := fun h => cat_at hlt h HNO.out
      have HNXT : Hid (isAt s a b c R[i] = false → ∀ j (hj : j < R.length), j < i + 1 → isAt s a b c R[j] = false) := fun h j hj hji => by
        by_cases e : j = i
        · subst e; exact h
        · exact HNO.out j hj (by omega)
      have HCV : Hid (cvV R[i] = .agg #[.string R[i].pg.nm, .int .i64 R[i].pg.a, .int .i64 R[i].pg.b, .int .i64 R[i].pg.c, .slice a1 n1 k1, .slice a2 n2 k2, .slice a3 n3 k3]) := by
        unfold Hid cvV
        rw [q1, q2, q3]
      rw [q1] at p4
      rw [q2] at p5
      rw [q3] at p6
      clear hcells q1 q2 q3
      generalize R[i] = x at *
      by_cases hnm : x.pg.nm = s
      · have hev := eqlV x.pg.a x.pg.b x.pg.c a b c
        by_cases hxy : x.pg.a = a ∧ x.pg.b = b ∧ x.pg.c = c
        · rw [decide_eq_true hxy] at hev
          have HX := hide3 (HYES.out (decide_eq_true ⟨hnm, hxy.1, hxy.2.1, hxy.2.2⟩))
          rw [hnm] at p0 HCV
          clear hnm hxy HNXT HYES
          obtain ⟨⟨r0, r1, r2, r3, r4, r5, r6, r7⟩, hfz⟩ := HBR.out
          have f0' := hfz 0 (by decide)
          have f1' := hfz 1 (by decide)
          have f2' := hfz 2 (by decide)
          have f3' := hfz 3 (by decide)
          have f4' := hfz 4 (by decide)
          have f5' := hfz 5 (by decide)
          have f6' := hfz 6 (by decide)
          clear hfz
          generalize x.pg.a = xa at *
          generalize x.pg.b = xb at *
          generalize x.pg.c = xc at *
          have s7 := fun (m : Nat) u0 u1 u2 u3 u4 u5 u6 => set7 (w := wr.drewN m) (N := w.heap.size + 1) (by simpa using r0) (by simpa using r1) (by simpa using r2) (by simpa using r3) (by simpa using r4) (by simpa using r5) (by simpa using r6) u0 u1 u2 u3 u4 u5 u6
          go_wp2_with fail
          go_quiet (fail)
          go_wp2_with fail
          all_goals try simp only [Exit.inBlock, Exit.then]
          refine bodyPost_ret (by simp [results, Tryz.results14, s7, go_sem]; try rfl) rfl ?_
          exact HFIN.out _ _ _ (Go.Proofs.YtjpmlagofcgheaaGreatDoor.Below.drewN HBW.out _) (by rw [gotV, HX.out]; exact HCV.out.symm) (by rw [HX.out]; rfl) _ _ _ _ _ _ _
        · have HX := hide3 (HNXT.out (decide_eq_false fun q => hxy q.2))
          rw [decide_eq_false hxy] at hev
          rw [hnm] at p0
          clear hnm hxy HNXT HYES
          go_wp2_with fail
          go_quiet (fail)
          go_wp2_with fail
          exact ⟨⟨i + 1, by omega, by go_num, Go.Proofs.YtjpmlagofcgheaaGreatDoor.Below.drewN HB.out _, HX.out⟩, by simp [intOf]; omega⟩
      · have HX := hide3 (HNXT.out (decide_eq_false fun q => hnm q.1))
        have hne : (x.pg.nm.toList == s.toList) = false := by
          rw [beq_eq_false_iff_ne]
          exact fun e => hnm (bytes_same e)
        clear hnm HNXT HYES
        generalize x.pg.nm = n at *
        go_wp2_with fail
        go_quiet (fail)
        go_wp2_with fail
        exact ⟨⟨i + 1, by omega, by go_num, Go.Proofs.YtjpmlagofcgheaaGreatDoor.Below.drewN HB.out _, HX.out⟩, by simp [intOf]; omega⟩
    · obtain rfl : i = R.length := by omega
      have hki : ¬ ((R.length : Int) < (R.length : Int)) := by omega
      have HX : Hid (catC R s a b c = none) := cat_not HNO.out
      obtain ⟨⟨r0, r1, r2, r3, r4, r5, r6, r7⟩, hfz⟩ := HBR.out
      have f0' := hfz 0 (by decide)
      have f1' := hfz 1 (by decide)
      have f2' := hfz 2 (by decide)
      have f3' := hfz 3 (by decide)
      have f4' := hfz 4 (by decide)
      have f5' := hfz 5 (by decide)
      have f6' := hfz 6 (by decide)
      clear hfz
      have s7 := fun u0 u1 u2 u3 u4 u5 u6 => set7 r0 r1 r2 r3 r4 r5 r6 u0 u1 u2 u3 u4 u5 u6
      go_wp2_with fail
      all_goals try simp only [Exit.inBlock, Exit.then]
      refine bodyPost_ret (by simp [results, Tryz.results14, s7, go_sem]; try rfl) rfl ?_
      exact HFIN.out _ _ _ HBW.out (by rw [gotV, HX.out]; rfl) (by rw [HX.out]; rfl) _ _ _ _ _ _ _

set_option maxHeartbeats 3200000 in
theorem rahead_any (x y : CV) {a1 a2 a3 b1 b2 b3 : Option Addr} {n1 n2 n3 m1 m2 m3 c1 c2 c3 d1 d2 d3 : Nat} (w : World) (hx : x.pg.nm.size ≤ 9223372036854775807) : Calls Tryz.prog 37 #[.agg #[.string x.pg.nm, .int .i64 x.pg.a, .int .i64 x.pg.b, .int .i64 x.pg.c, .slice a1 n1 c1, .slice a2 n2 c2, .slice a3 n3 c3], .agg #[.string y.pg.nm, .int .i64 y.pg.a, .int .i64 y.pg.b, .int .i64 y.pg.c, .slice b1 m1 d1, .slice b2 m2 d2, .slice b3 m3 d3]] w fun e w' => e = .returned (.bool (ahC x y)) ∧ Below w.heap.size w w' := by
  have HL : Hid (∀ w1, Calls Tryz.prog 28 #[.string x.pg.nm, .string y.pg.nm] w1 fun e w' => e = .returned (.bool (ltS x.pg.nm y.pg.nm)) ∧ Below w1.heap.size w1 w') := fun w1 => rLess5_any _ _ w1 hx
  have HC : Hid (∀ w1, Calls Tryz.prog 73 #[.agg #[.int .i64 x.pg.a, .int .i64 x.pg.b, .int .i64 x.pg.c], .agg #[.int .i64 y.pg.a, .int .i64 y.pg.b, .int .i64 y.pg.c]] w1 fun e w' => e = .returned (.int .i64 (cmpV x.pg.a x.pg.b x.pg.c y.pg.a y.pg.b y.pg.c)) ∧ Below w1.heap.size w1 w') := fun w1 => rCompare_any _ _ _ _ _ _ w1
  have HG : Hid (decide (0 < cmpV x.pg.a x.pg.b x.pg.c y.pg.a y.pg.b y.pg.c) = gtV (verC x) (verC y)) := by
    unfold Hid gtV verC cmpV
    rw [Bool.eq_iff_iff, decide_eq_true_eq, decide_eq_true_eq]
    simp only
    repeat' split
    all_goals omega
  by_cases hn : x.pg.nm = y.pg.nm
  · have HA : Hid (ahC x y = gtV (verC x) (verC y)) := by unfold Hid ahC; rw [if_pos hn]
    rw [hn]
    clear HL hn hx
    generalize cmpV x.pg.a x.pg.b x.pg.c y.pg.a y.pg.b y.pg.c = k at *
    go_enter Tryz.func37, Tryz.ntmps37
    go_wp2_with (go_at_call 73; refine (HC.out _).mono ?_; rintro e w1 ⟨rfl, hb⟩)
    all_goals go_ret
    all_goals exact ⟨by first | exact ret_bool (by rw [HA.out, ← HG.out]) | (rw [HA.out, ← HG.out]; simp_all), below_then (boxB2 _ _ _) hb⟩
  · have HA : Hid (ahC x y = ltS x.pg.nm y.pg.nm) := by unfold Hid ahC; rw [if_neg hn]
    have hne : (x.pg.nm.toList == y.pg.nm.toList) = false := by
      rw [beq_eq_false_iff_ne]
      exact fun e => hn (bytes_same e)
    clear HC HG hn hx
    generalize ltS x.pg.nm y.pg.nm = k at *
    generalize x.pg.nm = n at *
    generalize y.pg.nm = m at *
    go_enter Tryz.func37, Tryz.ntmps37
    go_wp2_with (go_at_call 28; refine (HL.out _).mono ?_; rintro e w1 ⟨rfl, hb⟩)
    go_ret
    exact ⟨ret_bool HA.out.symm, below_then (boxB2 _ _ _) hb⟩
end Go.Proofs.YtjpmlagofcgheaaGreatDoor
