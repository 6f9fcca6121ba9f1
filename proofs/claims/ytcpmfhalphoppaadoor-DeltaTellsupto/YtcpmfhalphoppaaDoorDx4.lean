/- goings of package delta: what goes, in whatever order the map is gone through. Conditions: sizes. -/
import Derived.Test.YtcpmfhalphoppaaDoorDx3
namespace Go.Proofs.YtcpmfhalphoppaaDoor
open Go.RowKit Go.Maps Go.WideMaps Go.WideElems Dk
set_option maxRecDepth 100000

theorem below_grown {w w' : World} (h : Below w.heap.size w w') : w.grownBy w' none := ⟨h.os, h.tape, h.output, h.size, fun k hk _ => h.block k hk⟩
theorem grown_pre {a b c : World} {row : Option Nat} (h : Below a.heap.size a b) (hg : b.grownBy c row) : a.grownBy c row :=
  ⟨hg.os.trans h.os, hg.tape.trans h.tape, hg.output.trans h.output, Nat.le_trans h.size hg.size, fun k hk hn => (hg.block k (Nat.lt_of_lt_of_le hk h.size) hn).trans (h.block k hk)⟩
theorem OwnDe.lt {w : World} {B : Nat} {v : Value} {ds : List De} (h : OwnDe w B v ds) {k : Nat} (hk : v.ownBlock = some k) : k < w.heap.size ∧ B ≤ k := row_lt h hk
theorem OwnDe.grown {w w' : World} {B : Nat} {v : Value} {ds : List De} (h : OwnDe w B v ds) {row : Option Nat} (hg : w.grownBy w' row) (hr : ∀ k, v.ownBlock = some k → row ≠ some k) : OwnDe w' B v ds := by
  refine World.ownsRow.kept h hg ?_
  cases hv : v.ownBlock with
  | none => exact .inl rfl
  | some k => exact .inr fun e => hr k hv e.symm
theorem OwnDe.below {w w' : World} {B : Nat} {v : Value} {ds : List De} (h : OwnDe w B v ds) (hb : Below w.heap.size w w') : OwnDe w' B v ds := h.grown (below_grown hb) (fun _ _ e => by cases e)
theorem OwnDe.base {w : World} {B C : Nat} {v : Value} {ds : List De} (h : OwnDe w B v ds) (hb : C ≤ B) : OwnDe w C v ds := by
  obtain ⟨h1, h2⟩ := h
  refine ⟨h1, ?_⟩
  rcases h2 with h2 | ⟨g', cap', cur', hv, hb', r⟩
  · exact Or.inl h2
  · exact Or.inr ⟨g', cap', cur', hv, Nat.le_trans hb hb', r⟩
theorem OwnDe.snoc {w : World} {B : Nat} {v : Value} {ds : List De} {x : De} (h : w.ownsRow B 33 3 v (ds.length + 1) (ds.flatMap encE ++ [.int .i64 x.kd, .string x.pa, .string x.da])) : OwnDe w B v (ds ++ [x]) := by
  unfold OwnDe
  rw [List.length_append, List.flatMap_append]
  simpa [encE] using h
theorem lG_len (M l : List Fl) : (lG M l).length ≤ l.length := by unfold lG; rw [List.length_map]; exact List.length_filter_le _ _
theorem lC_len (M l : List Fl) : (lC M l).length ≤ l.length := by unfold lC; rw [List.length_map]; exact List.length_filter_le _ _
theorem news_deed (w : World) (k : Int) (p t : ByteArray) : ∀ j u, [Value.int .i64 k, .string p, .string t][j]? = some u → (w.alloc (.cells #[.int .i64 k, .string p, .string t] 33)).cell? ((⟨w.heap.size, 0, none⟩ : Addr).add j) = some u :=
  World.news_of_block (cs := #[.int .i64 k, .string p, .string t]) (t := 33) (fr := (0, 0)) (by show (w.heap.push _)[w.heap.size]? = _; rw [Array.getElem?_push, if_pos rfl])
theorem gone_len {L X Y : List Fl} {left : Lit → Bool} (h : GoneF (L.map fi) (X.map fi) (Y.map fi) left) : X.length + Y.length = L.length := by
  have := h.1.length_eq
  simpa using this

set_option maxHeartbeats 8000000 in
theorem goings_any {w : World} {m1 n1 m2 n2 : Nat} {D1 D2 : DataW Value} {V U : List Fl} (h1 : MapAt w m1 n1 D1 V) (h2 : MapAt w m2 n2 D2 U) (hap : Apart U) (hsz : ∀ x ∈ V, x.1.size ≤ 4096 ∧ x.2.2.size ≤ 281474976710656) (hn : V.length ≤ 1048576) :
    Calls Tryd.prog 12 #[.map (some m1), .map (some m2)] w fun e w' => ∃ v X, e = .returned v ∧ X.Perm V ∧ OwnDe w' w.heap.size v (lG U X) ∧ Below w.heap.size w w' := by
  obtain ⟨i0, hi, hz0, hz1, hz2⟩ := info_parts infoDe
  have HO : Hid (w.ownsMap Tryd.prog 9 hldR m1 n1 D1) := h1.1
  have HMF : Hid (MapF D1 (V.map fi)) := h1.2
  have HOT : Hid (MapAt w m2 n2 D2 U) := h2
  have HSZ := hide3 hsz
  have HAP := hide3 hap
  have HME0 : Hid (m1 < w.heap.size) := h1.1.lt
  clear h1 h2 hsz hap
  go_enter Tryd.func12, Tryd.ntmps12
  go_wp2_with (at_range; refine wpList_range_own _ rfl _ 35 rfl 9 31 keyedF Tryd.underlying35 _ m1 n1 _ rfl HO.out ?_; intro w0 hrg0 hg0 hs0; have HS0 : Hid (w0.heap.size = w.heap.size + 1) := hs0; clear hs0)
  go_frame
  go_loopw [5] (fun v wr => ∃ (left : Lit → Bool) (cnt : Nat) (X Y : List Fl), wr.ranges Tryd.prog 9 hldR m1 w.heap.size n1 D1 left cnt ∧ GoneF (V.map fi) (X.map fi) (Y.map fi) left ∧ OwnDe wr (w.heap.size + 1) v (lG U X) ∧ Below w.heap.size w wr ∧ w.heap.size + 1 ≤ wr.heap.size)
    (fun _ wr => wr.rangeLeft m1 w.heap.size)
  case atStart =>
    exact ⟨_, _, [], V, hrg0, GoneF.start HMF.out, OwnDe.nil _ _, (Below.refl _ _).grown hg0 (Nat.le_refl _) (fun j hj => by cases hj), Nat.le_of_eq HS0.out.symm⟩
  case round =>
    obtain ⟨left, cnt, X, Y, hrg, hgn, hrow, hb, hsz1⟩ := hrel
    have HR := hide3 hrg
    have HG := hide3 hgn
    have HRW := hide3 hrow
    have HB := hide3 hb
    have hXV := gone_len hgn
    have hXl := lG_len U X
    clear hrg hgn hrow hb
    go_wp2_with (at_next; refine wpList_next_ranges _ rfl _ rfl 9 keyedF hldR (α := Value) (β := Value) id id (fun key kl hk => ⟨key, rfl⟩) (fun v y hv => ⟨v, rfl⟩) m1 w.heap.size n1 _ _ _ rfl HR.out ?_ ?_)
    · intro hc0 hl0
      have HP : Hid (X.Perm V) := perm_fi (HG.out.done hl0)
      clear hc0 hl0
      go_wp2
      go_ret
      exact ⟨_, X, rfl, HP.out, HRW.out.base (Nat.le_succ _), HB.out⟩
    · intro key val kl yd yp w2 cnt2 hkey hlk hv hat hrg2 hlt hg2 hs2 hen
      obtain ⟨xx, hxU, rfl⟩ := HG.out.2.2 kl hlk
      obtain ⟨x, hxY, rfl⟩ := List.mem_map.1 hxU
      have hxL : x ∈ V := by
        obtain ⟨z, hz, ez⟩ := List.mem_map.1 (HG.out.1.mem_iff.1 (List.mem_append_right _ hxU))
        exact fi_inj ez ▸ hz
      obtain ⟨q, rfl, eq, _⟩ := keyOf_inv hkey
      obtain rfl : q = x.1 := (keyF_inj eq).symm
      have hvx : val = filC (fi x) := by
        have q := hat (.held val)
        rw [(HMF.out.has (fi x) (List.mem_map.2 ⟨x, hxL, rfl⟩)).2] at q
        unfold hldR at hv
        simp only [Option.some.injEq, Prod.mk.injEq] at hv
        rw [← hv.1] at q
        injection q with q
        exact q.symm
      subst hvx
      obtain ⟨U', hC'⟩ := HG.out.step HMF.out.dist hxU
      obtain ⟨X2, Y2, eX, eY⟩ := of_fi hC'.1
      have HG' : Hid (GoneF (V.map fi) ((X ++ [x]).map fi) (Y2.map fi) (fun z => left z && !z.sameKey (keyF (fi x).pa))) := by
        unfold Hid
        rw [← eY, List.map_append]
        exact hC'
      have HR2 := hide3 hrg2
      have HB2 : Hid (Below w.heap.size w w2) := HB.out.grown hg2 HB.out.size (fun j hj => by cases hj; exact Nat.le_refl _)
      have HV2 : Hid (OwnDe w2 (w.heap.size + 1) u5 (lG U X)) := HRW.out.grown hg2 (fun k hk e => by have := (HRW.out.lt hk).2; have := Option.some.inj e; omega)
      have HMS : Hid (∀ w5 row, w2.grownBy w5 row → some m1 ≠ row → some w.heap.size ≠ row → w5.rangeLeft m1 w.heap.size < wr.rangeLeft m1 w.heap.size) := fun w5 row hg h1 h2 => by rw [(HR2.out.kept hg h1 h2).left_eq, HR.out.left_eq]; exact hlt
      have hle2 : w.heap.size + 1 ≤ w2.heap.size := by have := HR2.out.lt; omega
      have HPZ : Hid (x.1.size ≤ 4096 ∧ x.2.2.size ≤ 281474976710656) := HSZ.out x hxL
      have HYN : Hid (0 < Y.length) := List.length_pos_of_mem hxY
      have hYN := HYN.out
      clear hkey hlk hv hat hrg2 hlt hg2 hs2 hC' hxU eX eY eq hxY hXl
      have hXl := lG_len U X
      unfold filC fi at hen
      simp only at hen
      have HMT : Hid (∀ W, Below w.heap.size w W → MapAt W m2 n2 D2 U) := fun W hb => HOT.out.below hb
      have HX : Hid (Below w2.heap.size w2 (w2.alloc (.cells #[.string x.1, .bool x.2.1, .string x.2.2] 31))) := (Below.refl _ _).alloc (Nat.le_refl _) _
      have hpm : x.1.size ≤ maxLen := by have := HPZ.out.1; unfold maxLen; omega
      have HGI : Hid ((wG U x = true → lG U (X ++ [x]) = lG U X ++ [dG x]) ∧ (wG U x = false → lG U (X ++ [x]) = lG U X)) := ⟨fun h => by rw [lG_snoc, if_pos h], fun h => by rw [lG_snoc, if_neg (by rw [h]; decide), List.append_nil]⟩
      have HDG : Hid (dG x = ⟨if x.2.1 = true then 2 else 1, x.1, ⟨#[]⟩⟩) := rfl
      have HCL : Hid (∀ W, Calls Tryd.prog 25 #[.string x.1] W fun e w' => e = .returned (.string x.1) ∧ Below W.heap.size W w') := fun W => strClone_any _ (by have := HPZ.out.1; omega) W
      rcases atL_cases HAP.out x.1 with ⟨y, hyU, ey, eat⟩ | ⟨hno, eat⟩
      · obtain ⟨l1, l2⟩ := look_yes (HMT.out _ (HB2.out.trans (HX.out.mono HB2.out.size))) hyU (by rw [ey]; exact hpm)
        rw [ey] at l1 l2
        have HWE : Hid (wG U x = !((if y.2.1 = true then (2 : Int) else 1) == (if x.2.1 = true then (2 : Int) else 1))) := by unfold Hid wG; rw [eat, told_kd]; rfl
        clear l2 eat hyU
        obtain ⟨yp1, yc, yt⟩ := y
        obtain ⟨p, c, t⟩ := x
        simp only at l1 HWE HDG HGI HX HCL hen ey
        clear ey
        cases c <;> cases yc
        · have HLG : Hid (lG U (X ++ [(p, false, t)]) = lG U X) := by
            have h1 : wG U (p, false, t) = false := by rw [HWE.out]; rfl
            exact HGI.out.2 h1
          clear HWE HGI
          have HX4 : Hid (Below w2.heap.size w2 ((w2.alloc (.cells #[.string p, .bool false, .string t] 31)).alloc (.cells #[.string p, .bool false, .string yt] 31))) := HX.out.trans (((Below.refl _ _).alloc (Nat.le_refl _) _).mono HX.out.size)
          have HBZ := hide3 HX4.out
          clear HX HMT HDG HCL HX4
          go_wp2_with fail
          exact ⟨⟨_, cnt2, X ++ [(p, false, t)], Y2, HR2.out.kept (below_grown HBZ.out) (by simp) (by simp), HG'.out, by rw [HLG.out]; exact HV2.out.below HBZ.out, HB2.out.trans (HBZ.out.mono HB2.out.size), Nat.le_trans hle2 HBZ.out.size⟩, HMS.out _ _ (below_grown HBZ.out) (by simp) (by simp)⟩
        · have HLG : Hid (lG U (X ++ [(p, false, t)]) = lG U X ++ [⟨1, p, ⟨#[]⟩⟩]) := by
            have h1 : wG U (p, false, t) = true := by rw [HWE.out]; rfl
            exact HGI.out.1 h1
          clear HWE HGI
          have HX4 : Hid (Below w2.heap.size w2 ((w2.alloc (.cells #[.string p, .bool false, .string t] 31)).alloc (.cells #[.string p, .bool true, .string yt] 31))) := HX.out.trans (((Below.refl _ _).alloc (Nat.le_refl _) _).mono HX.out.size)
          have HKO : Hid (Calls Tryd.prog 24 #[.agg #[.string p, .bool false, .string t], .int .i64 1, .int .i64 2] ((w2.alloc (.cells #[.string p, .bool false, .string t] 31)).alloc (.cells #[.string p, .bool true, .string yt] 31)) fun e w' => e = .returned (.int .i64 1) ∧ Below ((w2.alloc (.cells #[.string p, .bool false, .string t] 31)).alloc (.cells #[.string p, .bool true, .string yt] 31)).heap.size ((w2.alloc (.cells #[.string p, .bool false, .string t] 31)).alloc (.cells #[.string p, .bool true, .string yt] 31)) w') := kindOf_any p false t 1 2 _
          clear HX HMT
          go_wp2_with (first
            | (go_at_call 24; refine HKO.out.mono ?_; rintro e w5 ⟨rfl, hb5⟩; have HB5 := hide3 (HX4.out.trans (hb5.mono HX4.out.size)); clear hb5)
            | (go_at_call 25; refine (HCL.out _).mono ?_; rintro e w6 ⟨rfl, hb6⟩; have HB6 := hide3 (HB5.out.trans (hb6.mono HB5.out.size)); have HRW6 := hide3 (HV2.out.below HB6.out); have HS6 := hide3 (Nat.le_trans hle2 HB6.out.size); clear hb6)
            | (at_builtin; refine wpList_append_own _ rfl _ _ 23 rfl (w.heap.size + 1) 33 i0 (.agg #[.int .i64 0, .string ⟨#[]⟩, .string ⟨#[]⟩]) 3 40 Tryd.underlying23 hi hz0 hz1 hz2 rfl (by decide) _ _ _ rfl (World.ownsRow.alloc HRW6.out _) ⟨w6.heap.size, 0, none⟩ 1 1 [.int .i64 1, .string p, .string ⟨#[]⟩] rfl rfl (news_deed w6 1 p ⟨#[]⟩) (by simp [Value.oneCell']) (by unfold maxLen; omega) (by omega) (by have := HS6.out; simp; omega) ?_; intro v' w7 hown' hg7 hnil7; have HO7 : Hid (OwnDe w7 (w.heap.size + 1) v' (lG U X ++ [⟨1, p, ⟨#[]⟩⟩])) := OwnDe.snoc hown'; have HG7 : Hid (w2.grownBy w7 u5.ownBlock) := grown_pre (HB6.out.trans (((Below.refl _ _).alloc (Nat.le_refl _) _).mono HB6.out.size)) hg7; clear hown' hg7 hnil7; go_frame))
          have hr1 : some m1 ≠ u5.ownBlock := fun e => by have := (HV2.out.lt e.symm).2; have := HME0.out; omega
          have hr2 : some w.heap.size ≠ u5.ownBlock := fun e => by have := (HV2.out.lt e.symm).2; omega
          exact ⟨⟨_, cnt2, X ++ [(p, false, t)], Y2, HR2.out.kept HG7.out hr1 hr2, HG'.out, by rw [HLG.out]; exact HO7.out, HB2.out.grown HG7.out HB2.out.size (fun k hk => by have := (HV2.out.lt hk).2; omega), Nat.le_trans hle2 HG7.out.size⟩, HMS.out _ _ HG7.out hr1 hr2⟩
        · have HLG : Hid (lG U (X ++ [(p, true, t)]) = lG U X ++ [⟨2, p, ⟨#[]⟩⟩]) := by
            have h1 : wG U (p, true, t) = true := by rw [HWE.out]; rfl
            exact HGI.out.1 h1
          clear HWE HGI
          have HX4 : Hid (Below w2.heap.size w2 ((w2.alloc (.cells #[.string p, .bool true, .string t] 31)).alloc (.cells #[.string p, .bool false, .string yt] 31))) := HX.out.trans (((Below.refl _ _).alloc (Nat.le_refl _) _).mono HX.out.size)
          have HKO : Hid (Calls Tryd.prog 24 #[.agg #[.string p, .bool true, .string t], .int .i64 1, .int .i64 2] ((w2.alloc (.cells #[.string p, .bool true, .string t] 31)).alloc (.cells #[.string p, .bool false, .string yt] 31)) fun e w' => e = .returned (.int .i64 2) ∧ Below ((w2.alloc (.cells #[.string p, .bool true, .string t] 31)).alloc (.cells #[.string p, .bool false, .string yt] 31)).heap.size ((w2.alloc (.cells #[.string p, .bool true, .string t] 31)).alloc (.cells #[.string p, .bool false, .string yt] 31)) w') := kindOf_any p true t 1 2 _
          clear HX HMT
          go_wp2_with (first
            | (go_at_call 24; refine HKO.out.mono ?_; rintro e w5 ⟨rfl, hb5⟩; have HB5 := hide3 (HX4.out.trans (hb5.mono HX4.out.size)); clear hb5)
            | (go_at_call 25; refine (HCL.out _).mono ?_; rintro e w6 ⟨rfl, hb6⟩; have HB6 := hide3 (HB5.out.trans (hb6.mono HB5.out.size)); have HRW6 := hide3 (HV2.out.below HB6.out); have HS6 := hide3 (Nat.le_trans hle2 HB6.out.size); clear hb6)
            | (at_builtin; refine wpList_append_own _ rfl _ _ 23 rfl (w.heap.size + 1) 33 i0 (.agg #[.int .i64 0, .string ⟨#[]⟩, .string ⟨#[]⟩]) 3 40 Tryd.underlying23 hi hz0 hz1 hz2 rfl (by decide) _ _ _ rfl (World.ownsRow.alloc HRW6.out _) ⟨w6.heap.size, 0, none⟩ 1 1 [.int .i64 2, .string p, .string ⟨#[]⟩] rfl rfl (news_deed w6 2 p ⟨#[]⟩) (by simp [Value.oneCell']) (by unfold maxLen; omega) (by omega) (by have := HS6.out; simp; omega) ?_; intro v' w7 hown' hg7 hnil7; have HO7 : Hid (OwnDe w7 (w.heap.size + 1) v' (lG U X ++ [⟨2, p, ⟨#[]⟩⟩])) := OwnDe.snoc hown'; have HG7 : Hid (w2.grownBy w7 u5.ownBlock) := grown_pre (HB6.out.trans (((Below.refl _ _).alloc (Nat.le_refl _) _).mono HB6.out.size)) hg7; clear hown' hg7 hnil7; go_frame))
          have hr1 : some m1 ≠ u5.ownBlock := fun e => by have := (HV2.out.lt e.symm).2; have := HME0.out; omega
          have hr2 : some w.heap.size ≠ u5.ownBlock := fun e => by have := (HV2.out.lt e.symm).2; omega
          exact ⟨⟨_, cnt2, X ++ [(p, true, t)], Y2, HR2.out.kept HG7.out hr1 hr2, HG'.out, by rw [HLG.out]; exact HO7.out, HB2.out.grown HG7.out HB2.out.size (fun k hk => by have := (HV2.out.lt hk).2; omega), Nat.le_trans hle2 HG7.out.size⟩, HMS.out _ _ HG7.out hr1 hr2⟩
        · have HLG : Hid (lG U (X ++ [(p, true, t)]) = lG U X) := by
            have h1 : wG U (p, true, t) = false := by rw [HWE.out]; rfl
            exact HGI.out.2 h1
          clear HWE HGI
          have HX4 : Hid (Below w2.heap.size w2 ((w2.alloc (.cells #[.string p, .bool true, .string t] 31)).alloc (.cells #[.string p, .bool true, .string yt] 31))) := HX.out.trans (((Below.refl _ _).alloc (Nat.le_refl _) _).mono HX.out.size)
          have HBZ := hide3 HX4.out
          clear HX HMT HDG HCL HX4
          go_wp2_with fail
          exact ⟨⟨_, cnt2, X ++ [(p, true, t)], Y2, HR2.out.kept (below_grown HBZ.out) (by simp) (by simp), HG'.out, by rw [HLG.out]; exact HV2.out.below HBZ.out, HB2.out.trans (HBZ.out.mono HB2.out.size), Nat.le_trans hle2 HBZ.out.size⟩, HMS.out _ _ (below_grown HBZ.out) (by simp) (by simp)⟩
      · obtain ⟨l1, l2⟩ := look_no (HMT.out _ (HB2.out.trans (HX.out.mono HB2.out.size))) hno hpm
        have HWE : Hid (wG U x = true) := by unfold Hid wG kdF; rw [eat]; cases x.2.1 <;> rfl
        clear l2 eat hno
        obtain ⟨p, c, t⟩ := x
        simp only at l1 HWE HDG HGI HX HCL hen
        cases c
        · have HLG : Hid (lG U (X ++ [(p, false, t)]) = lG U X ++ [⟨1, p, ⟨#[]⟩⟩]) := HGI.out.1 HWE.out
          clear HWE HGI
          have HX4 : Hid (Below w2.heap.size w2 ((w2.alloc (.cells #[.string p, .bool false, .string t] 31)).alloc (.cells #[.string ⟨#[]⟩, .bool false, .string ⟨#[]⟩] 31))) := HX.out.trans (((Below.refl _ _).alloc (Nat.le_refl _) _).mono HX.out.size)
          have HKO : Hid (Calls Tryd.prog 24 #[.agg #[.string p, .bool false, .string t], .int .i64 1, .int .i64 2] ((w2.alloc (.cells #[.string p, .bool false, .string t] 31)).alloc (.cells #[.string ⟨#[]⟩, .bool false, .string ⟨#[]⟩] 31)) fun e w' => e = .returned (.int .i64 1) ∧ Below ((w2.alloc (.cells #[.string p, .bool false, .string t] 31)).alloc (.cells #[.string ⟨#[]⟩, .bool false, .string ⟨#[]⟩] 31)).heap.size ((w2.alloc (.cells #[.string p, .bool false, .string t] 31)).alloc (.cells #[.string ⟨#[]⟩, .bool false, .string ⟨#[]⟩] 31)) w') := kindOf_any p false t 1 2 _
          clear HX HMT
          go_wp2_with (first
            | (go_at_call 24; refine HKO.out.mono ?_; rintro e w5 ⟨rfl, hb5⟩; have HB5 := hide3 (HX4.out.trans (hb5.mono HX4.out.size)); clear hb5)
            | (go_at_call 25; refine (HCL.out _).mono ?_; rintro e w6 ⟨rfl, hb6⟩; have HB6 := hide3 (HB5.out.trans (hb6.mono HB5.out.size)); have HRW6 := hide3 (HV2.out.below HB6.out); have HS6 := hide3 (Nat.le_trans hle2 HB6.out.size); clear hb6)
            | (at_builtin; refine wpList_append_own _ rfl _ _ 23 rfl (w.heap.size + 1) 33 i0 (.agg #[.int .i64 0, .string ⟨#[]⟩, .string ⟨#[]⟩]) 3 40 Tryd.underlying23 hi hz0 hz1 hz2 rfl (by decide) _ _ _ rfl (World.ownsRow.alloc HRW6.out _) ⟨w6.heap.size, 0, none⟩ 1 1 [.int .i64 1, .string p, .string ⟨#[]⟩] rfl rfl (news_deed w6 1 p ⟨#[]⟩) (by simp [Value.oneCell']) (by unfold maxLen; omega) (by omega) (by have := HS6.out; simp; omega) ?_; intro v' w7 hown' hg7 hnil7; have HO7 : Hid (OwnDe w7 (w.heap.size + 1) v' (lG U X ++ [⟨1, p, ⟨#[]⟩⟩])) := OwnDe.snoc hown'; have HG7 : Hid (w2.grownBy w7 u5.ownBlock) := grown_pre (HB6.out.trans (((Below.refl _ _).alloc (Nat.le_refl _) _).mono HB6.out.size)) hg7; clear hown' hg7 hnil7; go_frame))
          have hr1 : some m1 ≠ u5.ownBlock := fun e => by have := (HV2.out.lt e.symm).2; have := HME0.out; omega
          have hr2 : some w.heap.size ≠ u5.ownBlock := fun e => by have := (HV2.out.lt e.symm).2; omega
          exact ⟨⟨_, cnt2, X ++ [(p, false, t)], Y2, HR2.out.kept HG7.out hr1 hr2, HG'.out, by rw [HLG.out]; exact HO7.out, HB2.out.grown HG7.out HB2.out.size (fun k hk => by have := (HV2.out.lt hk).2; omega), Nat.le_trans hle2 HG7.out.size⟩, HMS.out _ _ HG7.out hr1 hr2⟩
        · have HLG : Hid (lG U (X ++ [(p, true, t)]) = lG U X ++ [⟨2, p, ⟨#[]⟩⟩]) := HGI.out.1 HWE.out
          clear HWE HGI
          have HX4 : Hid (Below w2.heap.size w2 ((w2.alloc (.cells #[.string p, .bool true, .string t] 31)).alloc (.cells #[.string ⟨#[]⟩, .bool false, .string ⟨#[]⟩] 31))) := HX.out.trans (((Below.refl _ _).alloc (Nat.le_refl _) _).mono HX.out.size)
          have HKO : Hid (Calls Tryd.prog 24 #[.agg #[.string p, .bool true, .string t], .int .i64 1, .int .i64 2] ((w2.alloc (.cells #[.string p, .bool true, .string t] 31)).alloc (.cells #[.string ⟨#[]⟩, .bool false, .string ⟨#[]⟩] 31)) fun e w' => e = .returned (.int .i64 2) ∧ Below ((w2.alloc (.cells #[.string p, .bool true, .string t] 31)).alloc (.cells #[.string ⟨#[]⟩, .bool false, .string ⟨#[]⟩] 31)).heap.size ((w2.alloc (.cells #[.string p, .bool true, .string t] 31)).alloc (.cells #[.string ⟨#[]⟩, .bool false, .string ⟨#[]⟩] 31)) w') := kindOf_any p true t 1 2 _
          clear HX HMT
          go_wp2_with (first
            | (go_at_call 24; refine HKO.out.mono ?_; rintro e w5 ⟨rfl, hb5⟩; have HB5 := hide3 (HX4.out.trans (hb5.mono HX4.out.size)); clear hb5)
            | (go_at_call 25; refine (HCL.out _).mono ?_; rintro e w6 ⟨rfl, hb6⟩; have HB6 := hide3 (HB5.out.trans (hb6.mono HB5.out.size)); have HRW6 := hide3 (HV2.out.below HB6.out); have HS6 := hide3 (Nat.le_trans hle2 HB6.out.size); clear hb6)
            | (at_builtin; refine wpList_append_own _ rfl _ _ 23 rfl (w.heap.size + 1) 33 i0 (.agg #[.int .i64 0, .string ⟨#[]⟩, .string ⟨#[]⟩]) 3 40 Tryd.underlying23 hi hz0 hz1 hz2 rfl (by decide) _ _ _ rfl (World.ownsRow.alloc HRW6.out _) ⟨w6.heap.size, 0, none⟩ 1 1 [.int .i64 2, .string p, .string ⟨#[]⟩] rfl rfl (news_deed w6 2 p ⟨#[]⟩) (by simp [Value.oneCell']) (by unfold maxLen; omega) (by omega) (by have := HS6.out; simp; omega) ?_; intro v' w7 hown' hg7 hnil7; have HO7 : Hid (OwnDe w7 (w.heap.size + 1) v' (lG U X ++ [⟨2, p, ⟨#[]⟩⟩])) := OwnDe.snoc hown'; have HG7 : Hid (w2.grownBy w7 u5.ownBlock) := grown_pre (HB6.out.trans (((Below.refl _ _).alloc (Nat.le_refl _) _).mono HB6.out.size)) hg7; clear hown' hg7 hnil7; go_frame))
          have hr1 : some m1 ≠ u5.ownBlock := fun e => by have := (HV2.out.lt e.symm).2; have := HME0.out; omega
          have hr2 : some w.heap.size ≠ u5.ownBlock := fun e => by have := (HV2.out.lt e.symm).2; omega
          exact ⟨⟨_, cnt2, X ++ [(p, true, t)], Y2, HR2.out.kept HG7.out hr1 hr2, HG'.out, by rw [HLG.out]; exact HO7.out, HB2.out.grown HG7.out HB2.out.size (fun k hk => by have := (HV2.out.lt hk).2; omega), Nat.le_trans hle2 HG7.out.size⟩, HMS.out _ _ HG7.out hr1 hr2⟩
end Go.Proofs.YtcpmfhalphoppaaDoor
