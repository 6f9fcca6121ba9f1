/- Dx4, Dx5, Dx5b, Py2, laid in one text. -/
import Derived.Laws.StructEq
import Derived.Deep.Light
import Derived.Test.YtpaoimhebheaeaaGreatDoorMg08
namespace Go.Proofs.YtpaoimhebheaeaaGreatDoor
open Go.RowKit Go.Maps Go.WideMaps Go.WideElems Dk
set_option maxRecDepth 100000

theorem below_grown {w w' : World} (h : Below w.heap.size w w') : w.grownBy w' none := ⟨h.os, h.tape, h.output, h.size, fun k hk _ => h.block k hk⟩

theorem grown_pre {a b c : World} {row : Option Nat} (h : Below a.heap.size a b) (hg : b.grownBy c row) : a.grownBy c row :=
  ⟨hg.os.trans h.os, hg.tape.trans h.tape, hg.output.trans h.output, Nat.le_trans h.size hg.size, fun k hk hn => (hg.block k (Nat.lt_of_lt_of_le hk h.size) hn).trans (h.block k hk)⟩

theorem OwnDe.lt {w : World} {B : Nat} {v : Value} {ds : List De} (h : OwnDe w B v ds) {k : Nat} (hk : v.ownBlock = some k) : k < w.heap.size ∧ B ≤ k := row_lt h hk

theorem OwnDe.grown {w w' : World} {B : Nat} {v : Value} {ds : List De} (h : OwnDe w B v ds) {row : Option Nat} (hg : w.grownBy w' row) (hr : ∀ k, v.ownBlock = some k → row ≠ some k) : OwnDe w' B v ds := by
  refine World.ownsRow.kept h hg ?_
  cases hv : v.ownBlock with
  | none => exact .inl rfl
  | some k => exact .inr fun e => hr k hv e.symm

theorem OwnDe.below {w w' : World} {B : Nat} {v : Value} {ds : List De} (h : OwnDe w B v ds) (hb : Below w.heap.size w w') : OwnDe w' B v ds := h.grown (below_grown hb) (fun _ _ e => by cases e)

theorem OwnDe.base {w : World} {B C : Nat} {v : Value} {ds : List De} (h : OwnDe w B v ds) (hb : C ≤ B) : OwnDe w C v ds := by
  obtain ⟨h1, h2⟩ := h
  refine ⟨h1, ?_⟩
  rcases h2 with h2 | ⟨g', cap', cur', hv, hb', r⟩
  · exact Or.inl h2
  · exact Or.inr ⟨g', cap', cur', hv, Nat.le_trans hb hb', r⟩

theorem OwnDe.snoc {w : World} {B : Nat} {v : Value} {ds : List De} {x : De} (h : w.ownsRow B 54 3 v (ds.length + 1) (ds.flatMap encE ++ [.int .i64 x.kd, .string x.pa, .string x.da])) : OwnDe w B v (ds ++ [x]) := by
  unfold OwnDe
  rw [List.length_append, List.flatMap_append]
  simpa [encE] using h

theorem lG_len (M l : List Fl) : (lG M l).length ≤ l.length := by unfold lG; rw [List.length_map]; exact List.length_filter_le _ _

theorem lC_len (M l : List Fl) : (lC M l).length ≤ l.length := by unfold lC; rw [List.length_map]; exact List.length_filter_le _ _

theorem news_deed (w : World) (k : Int) (p t : ByteArray) : ∀ j u, [Value.int .i64 k, .string p, .string t][j]? = some u → (w.alloc (.cells #[.int .i64 k, .string p, .string t] 54)).cell? ((⟨w.heap.size, 0, none⟩ : Addr).add j) = some u :=
  World.news_of_block (cs := #[.int .i64 k, .string p, .string t]) (t := 54) (fr := (0, 0)) (by show (w.heap.push _)[w.heap.size]? = _; rw [Array.getElem?_push, if_pos rfl])

theorem gone_len {L X Y : List Fl} {left : Lit → Bool} (h : GoneF (L.map fi) (X.map fi) (Y.map fi) left) : X.length + Y.length = L.length := by
  have := h.1.length_eq
  simpa using this

set_option maxHeartbeats 8000000 in
theorem goings_any {w : World} {m1 n1 m2 n2 : Nat} {D1 D2 : DataW Value} {V U : List Fl} (h1 : MapAt w m1 n1 D1 V) (h2 : MapAt w m2 n2 D2 U) (hap : Apart U) (hsz : ∀ x ∈ V, x.1.size ≤ 4096 ∧ x.2.2.size ≤ 281474976710656) (hn : V.length ≤ 1048576) :
    Calls Tryz.prog 49 #[.map (some m1), .map (some m2)] w fun e w' => ∃ v X, e = .returned v ∧ X.Perm V ∧ OwnDe w' w.heap.size v (lG U X) ∧ Below w.heap.size w w' := by
  obtain ⟨i0, hi, hz0, hz1, hz2⟩ := info_parts infoDe
  have HO : Hid (w.ownsMap Tryz.prog 9 hldR m1 n1 D1) := h1.1
  have HMF : Hid (MapF D1 (V.map fi)) := h1.2
  have HOT : Hid (MapAt w m2 n2 D2 U) := h2
  have HSZ := hide3 hsz
  have HAP := hide3 hap
  have HME0 : Hid (m1 < w.heap.size) := h1.1.lt
  clear h1 h2 hsz hap
  go_enter Tryz.func49, Tryz.ntmps49
  go_wp2_with (at_range; refine wpList_range_own _ rfl _ 75 rfl 9 83 keyedF Tryz.underlying75 _ m1 n1 _ rfl HO.out ?_; intro w0 hrg0 hg0 hs0; have HS0 : Hid (w0.heap.size = w.heap.size + 1) := hs0; clear hs0)
  go_frame
  go_loopw [5] (fun v wr => ∃ (left : Lit → Bool) (cnt : Nat) (X Y : List Fl), wr.ranges Tryz.prog 9 hldR m1 w.heap.size n1 D1 left cnt ∧ GoneF (V.map fi) (X.map fi) (Y.map fi) left ∧ OwnDe wr (w.heap.size + 1) v (lG U X) ∧ Below w.heap.size w wr ∧ w.heap.size + 1 ≤ wr.heap.size)
    (fun _ wr => wr.rangeLeft m1 w.heap.size)
  case atStart =>
    exact ⟨_, _, [], V, hrg0, GoneF.start HMF.out, OwnDe.nil _ _, (Below.refl _ _).grown hg0 (Nat.le_refl _) (fun j hj => by cases hj), Nat.le_of_eq HS0.out.symm⟩
  case round =>
    obtain ⟨left, cnt, X, Y, hrg, hgn, hrow, hb, hsz1⟩ := hrel
    have HR := hide3 hrg
    have HG := hide3 hgn
    have HRW := hide3 hrow
    have HB := hide3 hb
    have hXV := gone_len hgn
    have hXl := lG_len U X
    clear hrg hgn hrow hb
    go_wp2_with (at_next; refine wpList_next_ranges _ rfl _ rfl 9 keyedF hldR (α := Value) (β := Value) id id (fun key kl hk => ⟨key, rfl⟩) (fun v y hv => ⟨v, rfl⟩) m1 w.heap.size n1 _ _ _ rfl HR.out ?_ ?_)
    · intro hc0 hl0
      have HP : Hid (X.Perm V) := perm_fi (HG.out.done hl0)
      clear hc0 hl0
      go_wp2
      go_ret
      exact ⟨_, X, rfl, HP.out, HRW.out.base (Nat.le_succ _), HB.out⟩
    · intro key val kl yd yp w2 cnt2 hkey hlk hv hat hrg2 hlt hg2 hs2 hen
      obtain ⟨xx, hxU, rfl⟩ := HG.out.2.2 kl hlk
      obtain ⟨x, hxY, rfl⟩ := List.mem_map.1 hxU
      have hxL : x ∈ V := by
        obtain ⟨z, hz, ez⟩ := List.mem_map.1 (HG.out.1.mem_iff.1 (List.mem_append_right _ hxU))
        exact fi_inj ez ▸ hz
      obtain ⟨q, rfl, eq, _⟩ := keyOf_inv hkey
      obtain rfl : q = x.1 := (keyF_inj eq).symm
      have hvx : val = filC (fi x) := by
        have q := hat (.held val)
        rw [(HMF.out.has (fi x) (List.mem_map.2 ⟨x, hxL, rfl⟩)).2] at q
        unfold hldR at hv
        simp only [Option.some.injEq, Prod.mk.injEq] at hv
        rw [← hv.1] at q
        injection q with q
        exact q.symm
      subst hvx
      obtain ⟨U', hC'⟩ := HG.out.step HMF.out.dist hxU
      obtain ⟨X2, Y2, eX, eY⟩ := of_fi hC'.1
      have HG' : Hid (GoneF (V.map fi) ((X ++ [x]).map fi) (Y2.map fi) (fun z => left z && !z.sameKey (keyF (fi x).pa))) := by
        unfold Hid
        rw [← eY, List.map_append]
        exact hC'
      have HR2 := hide3 hrg2
      have HB2 : Hid (Below w.heap.size w w2) := HB.out.grown hg2 HB.out.size (fun j hj => by cases hj; exact Nat.le_refl _)
      have HV2 : Hid (OwnDe w2 (w.heap.size + 1) u5 (lG U X)) := HRW.out.grown hg2 (fun k hk e => by have := (HRW.out.lt hk).2; have := Option.some.inj e; omega)
      have HMS : Hid (∀ w5 row, w2.grownBy w5 row → some m1 ≠ row → some w.heap.size ≠ row → w5.rangeLeft m1 w.heap.size < wr.rangeLeft m1 w.heap.size) := fun w5 row hg h1 h2 => by rw [(HR2.out.kept hg h1 h2).left_eq, HR.out.left_eq]; exact hlt
      have hle2 : w.heap.size + 1 ≤ w2.heap.size := by have := HR2.out.lt; omega
      have HPZ : Hid (x.1.size ≤ 4096 ∧ x.2.2.size ≤ 281474976710656) := HSZ.out x hxL
      have HYN : Hid (0 < Y.length) := List.length_pos_of_mem hxY
      have hYN := HYN.out
      clear hkey hlk hv hat hrg2 hlt hg2 hs2 hC' hxU eX eY eq hxY hXl
      have hXl := lG_len U X
      unfold filC fi at hen
      simp only at hen
      have HMT : Hid (∀ W, Below w.heap.size w W → MapAt W m2 n2 D2 U) := fun W hb => HOT.out.below hb
      have HX : Hid (Below w2.heap.size w2 (w2.alloc (.cells #[.string x.1, .bool x.2.1, .string x.2.2] 83))) := (Below.refl _ _).alloc (Nat.le_refl _) _
      have hpm : x.1.size ≤ maxLen := by have := HPZ.out.1; unfold maxLen; omega
      have HGI : Hid ((wG U x = true → lG U (X ++ [x]) = lG U X ++ [dG x]) ∧ (wG U x = false → lG U (X ++ [x]) = lG U X)) := ⟨fun h => by rw [lG_snoc, if_pos h], fun h => by rw [lG_snoc, if_neg (by rw [h]; decide), List.append_nil]⟩
      have HDG : Hid (dG x = ⟨if x.2.1 = true then 2 else 1, x.1, ⟨#[]⟩⟩) := rfl
      have HCL : Hid (∀ W, Calls Tryz.prog 90 #[.string x.1] W fun e w' => e = .returned (.string x.1) ∧ Below W.heap.size W w') := fun W => strClone_any _ (by have := HPZ.out.1; omega) W
      rcases atL_cases HAP.out x.1 with ⟨y, hyU, ey, eat⟩ | ⟨hno, eat⟩
      · obtain ⟨l1, l2⟩ := look_yes (HMT.out _ (HB2.out.trans (HX.out.mono HB2.out.size))) hyU (by rw [ey]; exact hpm)
        rw [ey] at l1 l2
        have HWE : Hid (wG U x = !((if y.2.1 = true then (2 : Int) else 1) == (if x.2.1 = true then (2 : Int) else 1))) := by unfold Hid wG; rw [eat, told_kd]; rfl
        clear l2 eat hyU
        obtain ⟨yp1, yc, yt⟩ := y
        obtain ⟨p, c, t⟩ := x
        simp only at l1 HWE HDG HGI HX HCL hen ey
        clear ey
        cases c <;> cases yc
        · have HLG : Hid (lG U (X ++ [(p, false, t)]) = lG U X) := by
            have h1 : wG U (p, false, t) = false := by rw [HWE.out]; rfl
            exact HGI.out.2 h1
          clear HWE HGI
          have HX4 : Hid (Below w2.heap.size w2 ((w2.alloc (.cells #[.string p, .bool false, .string t] 83)).alloc (.cells #[.string p, .bool false, .string yt] 83))) := HX.out.trans (((Below.refl _ _).alloc (Nat.le_refl _) _).mono HX.out.size)
          have HBZ := hide3 HX4.out
          clear HX HMT HDG HCL HX4
          go_wp2_with fail
          exact ⟨⟨_, cnt2, X ++ [(p, false, t)], Y2, HR2.out.kept (below_grown HBZ.out) (by simp) (by simp), HG'.out, by rw [HLG.out]; exact HV2.out.below HBZ.out, HB2.out.trans (HBZ.out.mono HB2.out.size), Nat.le_trans hle2 HBZ.out.size⟩, HMS.out _ _ (below_grown HBZ.out) (by simp) (by simp)⟩
        · have HLG : Hid (lG U (X ++ [(p, false, t)]) = lG U X ++ [⟨1, p, ⟨#[]⟩⟩]) := by
            have h1 : wG U (p, false, t) = true := by rw [HWE.out]; rfl
            exact HGI.out.1 h1
          clear HWE HGI
          have HX4 : Hid (Below w2.heap.size w2 ((w2.alloc (.cells #[.string p, .bool false, .string t] 83)).alloc (.cells #[.string p, .bool true, .string yt] 83))) := HX.out.trans (((Below.refl _ _).alloc (Nat.le_refl _) _).mono HX.out.size)
          have HKO : Hid (Calls Tryz.prog 89 #[.agg #[.string p, .bool false, .string t], .int .i64 1, .int .i64 2] ((w2.alloc (.cells #[.string p, .bool false, .string t] 83)).alloc (.cells #[.string p, .bool true, .string yt] 83)) fun e w' => e = .returned (.int .i64 1) ∧ Below ((w2.alloc (.cells #[.string p, .bool false, .string t] 83)).alloc (.cells #[.string p, .bool true, .string yt] 83)).heap.size ((w2.alloc (.cells #[.string p, .bool false, .string t] 83)).alloc (.cells #[.string p, .bool true, .string yt] 83)) w') := kindOf_any p false t 1 2 _
          clear HX HMT
          go_wp2_with (first
            | (go_at_call 89; refine HKO.out.mono ?_; rintro e w5 ⟨rfl, hb5⟩; have HB5 := hide3 (HX4.out.trans (hb5.mono HX4.out.size)); clear hb5)
            | (go_at_call 90; refine (HCL.out _).mono ?_; rintro e w6 ⟨rfl, hb6⟩; have HB6 := hide3 (HB5.out.trans (hb6.mono HB5.out.size)); have HRW6 := hide3 (HV2.out.below HB6.out); have HS6 := hide3 (Nat.le_trans hle2 HB6.out.size); clear hb6)
            | (at_builtin; refine wpList_append_own _ rfl _ _ 23 rfl (w.heap.size + 1) 54 i0 (.agg #[.int .i64 0, .string ⟨#[]⟩, .string ⟨#[]⟩]) 3 40 Tryz.underlying23 hi hz0 hz1 hz2 rfl (by decide) _ _ _ rfl (World.ownsRow.alloc HRW6.out _) ⟨w6.heap.size, 0, none⟩ 1 1 [.int .i64 1, .string p, .string ⟨#[]⟩] rfl rfl (news_deed w6 1 p ⟨#[]⟩) (by simp [Value.oneCell']) (by unfold maxLen; omega) (by omega) (by have := HS6.out; simp; omega) ?_; intro v' w7 hown' hg7 hnil7; have HO7 : Hid (OwnDe w7 (w.heap.size + 1) v' (lG U X ++ [⟨1, p, ⟨#[]⟩⟩])) := OwnDe.snoc hown'; have HG7 : Hid (w2.grownBy w7 u5.ownBlock) := grown_pre (HB6.out.trans (((Below.refl _ _).alloc (Nat.le_refl _) _).mono HB6.out.size)) hg7; clear hown' hg7 hnil7; go_frame))
          have hr1 : some m1 ≠ u5.ownBlock := fun e => by have := (HV2.out.lt e.symm).2; have := HME0.out; omega
          have hr2 : some w.heap.size ≠ u5.ownBlock := fun e => by have := (HV2.out.lt e.symm).2; omega
          exact ⟨⟨_, cnt2, X ++ [(p, false, t)], Y2, HR2.out.kept HG7.out hr1 hr2, HG'.out, by rw [HLG.out]; exact HO7.out, HB2.out.grown HG7.out HB2.out.size (fun k hk => by have := (HV2.out.lt hk).2; omega), Nat.le_trans hle2 HG7.out.size⟩, HMS.out _ _ HG7.out hr1 hr2⟩
        · have HLG : Hid (lG U (X ++ [(p, true, t)]) = lG U X ++ [⟨2, p, ⟨#[]⟩⟩]) := by
            have h1 : wG U (p, true, t) = true := by rw [HWE.out]; rfl
            exact HGI.out.1 h1
          clear HWE HGI
          have HX4 : Hid (Below w2.heap.size w2 ((w2.alloc (.cells #[.string p, .bool true, .string t] 83)).alloc (.cells #[.string p, .bool false, .string yt] 83))) := HX.out.trans (((Below.refl _ _).alloc (Nat.le_refl _) _).mono HX.out.size)
          have HKO : Hid (Calls Tryz.prog 89 #[.agg #[.string p, .bool true, .string t], .int .i64 1, .int .i64 2] ((w2.alloc (.cells #[.string p, .bool true, .string t] 83)).alloc (.cells #[.string p, .bool false, .string yt] 83)) fun e w' => e = .returned (.int .i64 2) ∧ Below ((w2.alloc (.cells #[.string p, .bool true, .string t] 83)).alloc (.cells #[.string p, .bool false, .string yt] 83)).heap.size ((w2.alloc (.cells #[.string p, .bool true, .string t] 83)).alloc (.cells #[.string p, .bool false, .string yt] 83)) w') := kindOf_any p true t 1 2 _
          clear HX HMT
          go_wp2_with (first
            | (go_at_call 89; refine HKO.out.mono ?_; rintro e w5 ⟨rfl, hb5⟩; have HB5 := hide3 (HX4.out.trans (hb5.mono HX4.out.size)); clear hb5)
            | (go_at_call 90; refine (HCL.out _).mono ?_; rintro e w6 ⟨rfl, hb6⟩; have HB6 := hide3 (HB5.out.trans (hb6.mono HB5.out.size)); have HRW6 := hide3 (HV2.out.below HB6.out); have HS6 := hide3 (Nat.le_trans hle2 HB6.out.size); clear hb6)
            | (at_builtin; refine wpList_append_own _ rfl _ _ 23 rfl (w.heap.size + 1) 54 i0 (.agg #[.int .i64 0, .string ⟨#[]⟩, .string ⟨#[]⟩]) 3 40 Tryz.underlying23 hi hz0 hz1 hz2 rfl (by decide) _ _ _ rfl (World.ownsRow.alloc HRW6.out _) ⟨w6.heap.size, 0, none⟩ 1 1 [.int .i64 2, .string p, .string ⟨#[]⟩] rfl rfl (news_deed w6 2 p ⟨#[]⟩) (by simp [Value.oneCell']) (by unfold maxLen; omega) (by omega) (by have := HS6.out; simp; omega) ?_; intro v' w7 hown' hg7 hnil7; have HO7 : Hid (OwnDe w7 (w.heap.size + 1) v' (lG U X ++ [⟨2, p, ⟨#[]⟩⟩])) := OwnDe.snoc hown'; have HG7 : Hid (w2.grownBy w7 u5.ownBlock) := grown_pre (HB6.out.trans (((Below.refl _ _).alloc (Nat.le_refl _) _).mono HB6.out.size)) hg7; clear hown' hg7 hnil7; go_frame))
          have hr1 : some m1 ≠ u5.ownBlock := fun e => by have := (HV2.out.lt e.symm).2; have := HME0.out; omega
          have hr2 : some w.heap.size ≠ u5.ownBlock := fun e => by have := (HV2.out.lt e.symm).2; omega
          exact ⟨⟨_, cnt2, X ++ [(p, true, t)], Y2, HR2.out.kept HG7.out hr1 hr2, HG'.out, by rw [HLG.out]; exact HO7.out, HB2.out.grown HG7.out HB2.out.size (fun k hk => by have := (HV2.out.lt hk).2; omega), Nat.le_trans hle2 HG7.out.size⟩, HMS.out _ _ HG7.out hr1 hr2⟩
        · have HLG : Hid (lG U (X ++ [(p, true, t)]) = lG U X) := by
            have h1 : wG U (p, true, t) = false := by rw [HWE.out]; rfl
            exact HGI.out.2 h1
          clear HWE HGI
          have HX4 : Hid (Below w2.heap.size w2 ((w2.alloc (.cells #[.string p, .bool true, .string t] 83)).alloc (.cells #[.string p, .bool true, .string yt] 83))) := HX.out.trans (((Below.refl _ _).alloc (Nat.le_refl _) _).mono HX.out.size)
          have HBZ := hide3 HX4.out
          clear HX HMT HDG HCL HX4
          go_wp2_with fail
          exact ⟨⟨_, cnt2, X ++ [(p, true, t)], Y2, HR2.out.kept (below_grown HBZ.out) (by simp) (by simp), HG'.out, by rw [HLG.out]; exact HV2.out.below HBZ.out, HB2.out.trans (HBZ.out.mono HB2.out.size), Nat.le_trans hle2 HBZ.out.size⟩, HMS.out _ _ (below_grown HBZ.out) (by simp) (by simp)⟩
      · obtain ⟨l1, l2⟩ := look_no (HMT.out _ (HB2.out.trans (HX.out.mono HB2.out.size))) hno hpm
        have HWE : Hid (wG U x = true) := by unfold Hid wG kdF; rw [eat]; cases x.2.1 <;> rfl
        clear l2 eat hno
        obtain ⟨p, c, t⟩ := x
        simp only at l1 HWE HDG HGI HX HCL hen
        cases c
        · have HLG : Hid (lG U (X ++ [(p, false, t)]) = lG U X ++ [⟨1, p, ⟨#[]⟩⟩]) := HGI.out.1 HWE.out
          clear HWE HGI
          have HX4 : Hid (Below w2.heap.size w2 ((w2.alloc (.cells #[.string p, .bool false, .string t] 83)).alloc (.cells #[.string ⟨#[]⟩, .bool false, .string ⟨#[]⟩] 83))) := HX.out.trans (((Below.refl _ _).alloc (Nat.le_refl _) _).mono HX.out.size)
          have HKO : Hid (Calls Tryz.prog 89 #[.agg #[.string p, .bool false, .string t], .int .i64 1, .int .i64 2] ((w2.alloc (.cells #[.string p, .bool false, .string t] 83)).alloc (.cells #[.string ⟨#[]⟩, .bool false, .string ⟨#[]⟩] 83)) fun e w' => e = .returned (.int .i64 1) ∧ Below ((w2.alloc (.cells #[.string p, .bool false, .string t] 83)).alloc (.cells #[.string ⟨#[]⟩, .bool false, .string ⟨#[]⟩] 83)).heap.size ((w2.alloc (.cells #[.string p, .bool false, .string t] 83)).alloc (.cells #[.string ⟨#[]⟩, .bool false, .string ⟨#[]⟩] 83)) w') := kindOf_any p false t 1 2 _
          clear HX HMT
          go_wp2_with (first
            | (go_at_call 89; refine HKO.out.mono ?_; rintro e w5 ⟨rfl, hb5⟩; have HB5 := hide3 (HX4.out.trans (hb5.mono HX4.out.size)); clear hb5)
            | (go_at_call 90; refine (HCL.out _).mono ?_; rintro e w6 ⟨rfl, hb6⟩; have HB6 := hide3 (HB5.out.trans (hb6.mono HB5.out.size)); have HRW6 := hide3 (HV2.out.below HB6.out); have HS6 := hide3 (Nat.le_trans hle2 HB6.out.size); clear hb6)
            | (at_builtin; refine wpList_append_own _ rfl _ _ 23 rfl (w.heap.size + 1) 54 i0 (.agg #[.int .i64 0, .string ⟨#[]⟩, .string ⟨#[]⟩]) 3 40 Tryz.underlying23 hi hz0 hz1 hz2 rfl (by decide) _ _ _ rfl (World.ownsRow.alloc HRW6.out _) ⟨w6.heap.size, 0, none⟩ 1 1 [.int .i64 1, .string p, .string ⟨#[]⟩] rfl rfl (news_deed w6 1 p ⟨#[]⟩) (by simp [Value.oneCell']) (by unfold maxLen; omega) (by omega) (by have := HS6.out; simp; omega) ?_; intro v' w7 hown' hg7 hnil7; have HO7 : Hid (OwnDe w7 (w.heap.size + 1) v' (lG U X ++ [⟨1, p, ⟨#[]⟩⟩])) := OwnDe.snoc hown'; have HG7 : Hid (w2.grownBy w7 u5.ownBlock) := grown_pre (HB6.out.trans (((Below.refl _ _).alloc (Nat.le_refl _) _).mono HB6.out.size)) hg7; clear hown' hg7 hnil7; go_frame))
          have hr1 : some m1 ≠ u5.ownBlock := fun e => by have := (HV2.out.lt e.symm).2; have := HME0.out; omega
          have hr2 : some w.heap.size ≠ u5.ownBlock := fun e => by have := (HV2.out.lt e.symm).2; omega
          exact ⟨⟨_, cnt2, X ++ [(p, false, t)], Y2, HR2.out.kept HG7.out hr1 hr2, HG'.out, by rw [HLG.out]; exact HO7.out, HB2.out.grown HG7.out HB2.out.size (fun k hk => by have := (HV2.out.lt hk).2; omega), Nat.le_trans hle2 HG7.out.size⟩, HMS.out _ _ HG7.out hr1 hr2⟩
        · have HLG : Hid (lG U (X ++ [(p, true, t)]) = lG U X ++ [⟨2, p, ⟨#[]⟩⟩]) := HGI.out.1 HWE.out
          clear HWE HGI
          have HX4 : Hid (Below w2.heap.size w2 ((w2.alloc (.cells #[.string p, .bool true, .string t] 83)).alloc (.cells #[.string ⟨#[]⟩, .bool false, .string ⟨#[]⟩] 83))) := HX.out.trans (((Below.refl _ _).alloc (Nat.le_refl _) _).mono HX.out.size)
          have HKO : Hid (Calls Tryz.prog 89 #[.agg #[.string p, .bool true, .string t], .int .i64 1, .int .i64 2] ((w2.alloc (.cells #[.string p, .bool true, .string t] 83)).alloc (.cells #[.string ⟨#[]⟩, .bool false, .string ⟨#[]⟩] 83)) fun e w' => e = .returned (.int .i64 2) ∧ Below ((w2.alloc (.cells #[.string p, .bool true, .string t] 83)).alloc (.cells #[.string ⟨#[]⟩, .bool false, .string ⟨#[]⟩] 83)).heap.size ((w2.alloc (.cells #[.string p, .bool true, .string t] 83)).alloc (.cells #[.string ⟨#[]⟩, .bool false, .string ⟨#[]⟩] 83)) w') := kindOf_any p true t 1 2 _
          clear HX HMT
          go_wp2_with (first
            | (go_at_call 89; refine HKO.out.mono ?_; rintro e w5 ⟨rfl, hb5⟩; have HB5 := hide3 (HX4.out.trans (hb5.mono HX4.out.size)); clear hb5)
            | (go_at_call 90; refine (HCL.out _).mono ?_; rintro e w6 ⟨rfl, hb6⟩; have HB6 := hide3 (HB5.out.trans (hb6.mono HB5.out.size)); have HRW6 := hide3 (HV2.out.below HB6.out); have HS6 := hide3 (Nat.le_trans hle2 HB6.out.size); clear hb6)
            | (at_builtin; refine wpList_append_own _ rfl _ _ 23 rfl (w.heap.size + 1) 54 i0 (.agg #[.int .i64 0, .string ⟨#[]⟩, .string ⟨#[]⟩]) 3 40 Tryz.underlying23 hi hz0 hz1 hz2 rfl (by decide) _ _ _ rfl (World.ownsRow.alloc HRW6.out _) ⟨w6.heap.size, 0, none⟩ 1 1 [.int .i64 2, .string p, .string ⟨#[]⟩] rfl rfl (news_deed w6 2 p ⟨#[]⟩) (by simp [Value.oneCell']) (by unfold maxLen; omega) (by omega) (by have := HS6.out; simp; omega) ?_; intro v' w7 hown' hg7 hnil7; have HO7 : Hid (OwnDe w7 (w.heap.size + 1) v' (lG U X ++ [⟨2, p, ⟨#[]⟩⟩])) := OwnDe.snoc hown'; have HG7 : Hid (w2.grownBy w7 u5.ownBlock) := grown_pre (HB6.out.trans (((Below.refl _ _).alloc (Nat.le_refl _) _).mono HB6.out.size)) hg7; clear hown' hg7 hnil7; go_frame))
          have hr1 : some m1 ≠ u5.ownBlock := fun e => by have := (HV2.out.lt e.symm).2; have := HME0.out; omega
          have hr2 : some w.heap.size ≠ u5.ownBlock := fun e => by have := (HV2.out.lt e.symm).2; omega
          exact ⟨⟨_, cnt2, X ++ [(p, true, t)], Y2, HR2.out.kept HG7.out hr1 hr2, HG'.out, by rw [HLG.out]; exact HO7.out, HB2.out.grown HG7.out HB2.out.size (fun k hk => by have := (HV2.out.lt hk).2; omega), Nat.le_trans hle2 HG7.out.size⟩, HMS.out _ _ HG7.out hr1 hr2⟩
end Go.Proofs.YtpaoimhebheaeaaGreatDoor
namespace Go.Proofs.YtpaoimhebheaeaaGreatDoor
open Go.RowKit Go.Maps Go.WideMaps Go.WideElems Dk
set_option maxRecDepth 100000

theorem step_de {B : Nat} {wx : World} {v : Value} {ds : List De} {ops : Array Oper} {o : Oper} {f : Act} {K : Act → World → Prop} {Q : Exit → Act → World → Prop} {E : Prop}
    (hgd : o.guard = none) (s t : Operand) (ho : o.op = .call { callee := .builtin .append, args := #[s, t], argTypes := #[23, 23] }) (hs : f.eval s = v)
    (hown : OwnDe wx B v ds) (hB : B ≤ wx.heap.size) (x : De) {M : Nat} (hM : wx.heap.size = M) (hx : f.eval t = .slice (some ⟨M, 0, none⟩) 1 1) (hlen : ds.length ≤ 1000000000)
    (h : ∀ v1 w1, OwnDe w1 B v1 (ds ++ [x]) → wx.grownBy w1 v.ownBlock → K (f.put o.dst v1) w1) :
    if Region.wanted o (yielded ops f.tmps) = true then Oper.wp Tryz.prog o f (wx.alloc (.cells #[.int .i64 x.kd, .string x.pa, .string x.da] 54)) K Q else E := by
  have hw : Region.wanted o (yielded ops f.tmps) = true := by simp [Region.wanted, hgd]
  rw [if_pos hw]
  subst hM
  obtain ⟨i0, hi, hz0, hz1, hz2⟩ := info_parts infoDe
  obtain ⟨v1, w1, hr, hown1, hg1, _, _⟩ := run_append_own_at (P := Tryz.prog) (wx.alloc (.cells #[.int .i64 x.kd, .string x.pa, .string x.da] 54)) B 23 o.type 54 i0 _ 3 40 Tryz.underlying23 hi hz0 hz1 hz2 rfl (by decide) v ds.length _ (World.ownsRow.alloc hown _) ⟨wx.heap.size, 0, none⟩ 1 1 [.int .i64 x.kd, .string x.pa, .string x.da] rfl
    (news_deed wx x.kd x.pa x.da) (by simp [Value.oneCell']) (by unfold maxLen; omega) (by omega) (by simp; omega)
  unfold Oper.wp execOp
  simp only [ho, resolve, invoke, builtin, Sem.run_bind, Sem.run_pure, Result.andThen_ok, List.map_toArray, List.map_cons, List.map_nil, hs, hx, hr]
  exact h v1 w1 (OwnDe.snoc hown1) (grown_pre ((Below.refl _ _).alloc (Nat.le_refl _) _) hg1)

theorem eqInFi (p : ByteArray) (c : Bool) (t : ByteArray) (p' : ByteArray) (c' : Bool) (t' : ByteArray) (w : World) : (Op.equalIn 10000 83 (.agg #[.string p, .bool c, .string t]) (.agg #[.string p', .bool c', .string t'])).run Tryz.prog w = .ok (decide (p.toList = p'.toList) && (decide (c = c') && decide (t.toList = t'.toList))) w := by
  have u3 := Tryz.underlying4
  have a3 := Tryz.isAgg4
  have z3 := Tryz.sizeOf4
  have u9 := Tryz.underlying9
  have a9 := Tryz.isAgg9
  have z9 := Tryz.sizeOf9
  rw [show (10000 : Nat) = 9999 + 1 from rfl, run_equalIn_agg w 9999 83 _ _ (by kernel_rfl) (by kernel_rfl)]
  simp only [Program.fieldsOf, Tryz.underlying83]
  by_cases h1 : p.toList = p'.toList
  · by_cases h2 : c = c'
    · subst h2
      by_cases h3 : t.toList = t'.toList
      · simp only [h1, h3, decide_true, Bool.and_true]; go_simp
      · simp only [h1, h3, decide_true, decide_false, Bool.and_false]; go_simp
    · simp only [h1, h2, decide_true, decide_false, Bool.and_false, Bool.false_and]; go_simp
  · simp only [h1, decide_false, Bool.false_and]; go_simp
theorem neqFi (p : ByteArray) (c : Bool) (t : ByteArray) (p' : ByteArray) (c' : Bool) (t' : ByteArray) (w : World) : (binOp .neq 83 (.agg #[.string p, .bool c, .string t]) (.agg #[.string p', .bool c', .string t'])).run Tryz.prog w = .ok (.bool (!(decide (p.toList = p'.toList) && (decide (c = c') && decide (t.toList = t'.toList))))) w := by
  rw [run_neq_struct, eqInFi]; rfl

set_option maxHeartbeats 8000000 in
theorem comings_any {w : World} {m1 n1 m2 n2 : Nat} {D1 D2 : DataW Value} {V U : List Fl} (h1 : MapAt w m1 n1 D1 U) (h2 : MapAt w m2 n2 D2 V) (hap : Apart U) (hsz : ∀ x ∈ V, x.1.size ≤ 4096 ∧ x.2.2.size ≤ 281474976710656) (hn : V.length ≤ 1048576)
    (hdU : ∀ x ∈ U, x.2.1 = true → x.2.2 = ByteArray.empty) (hdV : ∀ x ∈ V, x.2.1 = true → x.2.2 = ByteArray.empty) (hne : ∀ x ∈ V, x.1 ≠ ByteArray.empty) :
    Calls Tryz.prog 50 #[.map (some m1), .map (some m2)] w fun e w' => ∃ v X, e = .returned v ∧ X.Perm V ∧ OwnDe w' w.heap.size v (lC U X) ∧ Below w.heap.size w w' := by
  have HDU := hide3 hdU
  have HDV := hide3 hdV
  have HNE := hide3 hne
  have HGD := fun op x y xs ys w => guardFile op x y xs ys w
  clear hdU hdV hne
  obtain ⟨i0, hi, hz0, hz1, hz2⟩ := info_parts infoDe
  have HO : Hid (w.ownsMap Tryz.prog 9 hldR m2 n2 D2) := h2.1
  have HMF : Hid (MapF D2 (V.map fi)) := h2.2
  have HOT : Hid (MapAt w m1 n1 D1 U) := h1
  have HSZ := hide3 hsz
  have HAP := hide3 hap
  have HME0 : Hid (m2 < w.heap.size) := h2.1.lt
  clear h1 h2 hsz hap
  go_enter Tryz.func50, Tryz.ntmps50
  go_wp2_with (at_range; refine wpList_range_own _ rfl _ 75 rfl 9 83 keyedF Tryz.underlying75 _ m2 n2 _ rfl HO.out ?_; intro w0 hrg0 hg0 hs0; have HS0 : Hid (w0.heap.size = w.heap.size + 1) := hs0; clear hs0)
  go_frame
  go_loopw [5] (fun v wr => ∃ (left : Lit → Bool) (cnt : Nat) (X Y : List Fl), wr.ranges Tryz.prog 9 hldR m2 w.heap.size n2 D2 left cnt ∧ GoneF (V.map fi) (X.map fi) (Y.map fi) left ∧ OwnDe wr (w.heap.size + 1) v (lC U X) ∧ Below w.heap.size w wr ∧ w.heap.size + 1 ≤ wr.heap.size)
    (fun _ wr => wr.rangeLeft m2 w.heap.size)
  case atStart =>
    exact ⟨_, _, [], V, hrg0, GoneF.start HMF.out, OwnDe.nil _ _, (Below.refl _ _).grown hg0 (Nat.le_refl _) (fun j hj => by cases hj), Nat.le_of_eq HS0.out.symm⟩
  case round =>
    obtain ⟨left, cnt, X, Y, hrg, hgn, hrow, hb, hsz1⟩ := hrel
    have HR := hide3 hrg
    have HG := hide3 hgn
    have HRW := hide3 hrow
    have HB := hide3 hb
    have hXV := gone_len hgn
    have hXl := lC_len U X
    clear hrg hgn hrow hb
    go_wp2_with (at_next; refine wpList_next_ranges _ rfl _ rfl 9 keyedF hldR (α := Value) (β := Value) id id (fun key kl hk => ⟨key, rfl⟩) (fun v y hv => ⟨v, rfl⟩) m2 w.heap.size n2 _ _ _ rfl HR.out ?_ ?_)
    · intro hc0 hl0
      have HP : Hid (X.Perm V) := perm_fi (HG.out.done hl0)
      clear hc0 hl0
      go_wp2
      go_ret
      exact ⟨_, X, rfl, HP.out, HRW.out.base (Nat.le_succ _), HB.out⟩
    · intro key val kl yd yp w2 cnt2 hkey hlk hv hat hrg2 hlt hg2 hs2 hen
      obtain ⟨xx, hxU, rfl⟩ := HG.out.2.2 kl hlk
      obtain ⟨x, hxY, rfl⟩ := List.mem_map.1 hxU
      have hxL : x ∈ V := by
        obtain ⟨z, hz, ez⟩ := List.mem_map.1 (HG.out.1.mem_iff.1 (List.mem_append_right _ hxU))
        exact fi_inj ez ▸ hz
      obtain ⟨q, rfl, eq, _⟩ := keyOf_inv hkey
      obtain rfl : q = x.1 := (keyF_inj eq).symm
      have hvx : val = filC (fi x) := by
        have q := hat (.held val)
        rw [(HMF.out.has (fi x) (List.mem_map.2 ⟨x, hxL, rfl⟩)).2] at q
        unfold hldR at hv
        simp only [Option.some.injEq, Prod.mk.injEq] at hv
        rw [← hv.1] at q
        injection q with q
        exact q.symm
      subst hvx
      obtain ⟨U', hC'⟩ := HG.out.step HMF.out.dist hxU
      obtain ⟨X2, Y2, eX, eY⟩ := of_fi hC'.1
      have HG' : Hid (GoneF (V.map fi) ((X ++ [x]).map fi) (Y2.map fi) (fun z => left z && !z.sameKey (keyF (fi x).pa))) := by
        unfold Hid
        rw [← eY, List.map_append]
        exact hC'
      have HR2 := hide3 hrg2
      have HB2 : Hid (Below w.heap.size w w2) := HB.out.grown hg2 HB.out.size (fun j hj => by cases hj; exact Nat.le_refl _)
      have HV2 : Hid (OwnDe w2 (w.heap.size + 1) u5 (lC U X)) := HRW.out.grown hg2 (fun k hk e => by have := (HRW.out.lt hk).2; have := Option.some.inj e; omega)
      have HMS : Hid (∀ w5 row, w2.grownBy w5 row → some m2 ≠ row → some w.heap.size ≠ row → w5.rangeLeft m2 w.heap.size < wr.rangeLeft m2 w.heap.size) := fun w5 row hg h1 h2 => by rw [(HR2.out.kept hg h1 h2).left_eq, HR.out.left_eq]; exact hlt
      have hle2 : w.heap.size + 1 ≤ w2.heap.size := by have := HR2.out.lt; omega
      have HPZ : Hid (x.1.size ≤ 4096 ∧ x.2.2.size ≤ 281474976710656) := HSZ.out x hxL
      have HYN : Hid (0 < Y.length) := List.length_pos_of_mem hxY
      have hYN := HYN.out
      clear hkey hlk hv hat hrg2 hlt hg2 hs2 hC' hxU eX eY eq hxY hXl
      have hXl := lC_len U X
      unfold filC fi at hen
      simp only at hen
      have HMT : Hid (∀ W, Below w.heap.size w W → MapAt W m1 n1 D1 U) := fun W hb => HOT.out.below hb
      have HX : Hid (Below w2.heap.size w2 (w2.alloc (.cells #[.string x.1, .bool x.2.1, .string x.2.2] 83))) := (Below.refl _ _).alloc (Nat.le_refl _) _
      have hpm : x.1.size ≤ maxLen := by have := HPZ.out.1; unfold maxLen; omega
      have HGI : Hid ((wC U x = true → lC U (X ++ [x]) = lC U X ++ [dC x]) ∧ (wC U x = false → lC U (X ++ [x]) = lC U X)) := ⟨fun h => by rw [lC_snoc, if_pos h], fun h => by rw [lC_snoc, if_neg (by rw [h]; decide), List.append_nil]⟩
      have HCL : Hid (∀ W, Calls Tryz.prog 90 #[.string x.1] W fun e w' => e = .returned (.string x.1) ∧ Below W.heap.size W w') := fun W => strClone_any _ (by have := HPZ.out.1; omega) W
      have HCT : Hid (∀ W, Calls Tryz.prog 90 #[.string x.2.2] W fun e w' => e = .returned (.string x.2.2) ∧ Below W.heap.size W w') := fun W => strClone_any _ HPZ.out.2 W
      have HKO : Hid (∀ W, Calls Tryz.prog 89 #[.agg #[.string x.1, .bool x.2.1, .string x.2.2], .int .i64 4, .int .i64 3] W fun e w' => e = .returned (.int .i64 (dC x).kd) ∧ Below W.heap.size W w') := fun W => kindOf_any x.1 x.2.1 x.2.2 4 3 W
      have HFN : Hid (∀ W, Below (w2.alloc (.cells #[.string x.1, .bool x.2.1, .string x.2.2] 83)).heap.size (w2.alloc (.cells #[.string x.1, .bool x.2.1, .string x.2.2] 83)) W → W.cell? ⟨w2.heap.size, 0, none⟩ = some (.string x.1) ∧ W.cell? ⟨w2.heap.size, 1, none⟩ = some (.bool x.2.1) ∧ W.cell? ⟨w2.heap.size, 2, none⟩ = some (.string x.2.2)) := fun W => file_new w2 W x.1 x.2.1 x.2.2
      have HDC : Hid (dC x = ⟨(dC x).kd, x.1, x.2.2⟩) := rfl
      have HEQ : Hid (∀ z : Fl, z ∈ U → z.1 = x.1 → (wC U x = false ∧ (decide (z.1.toList = x.1.toList) && (decide (z.2.1 = x.2.1) && decide (z.2.2.toList = x.2.2.toList))) = true) ∨ (wC U x = true ∧ (decide (z.1.toList = x.1.toList) && (decide (z.2.1 = x.2.1) && decide (z.2.2.toList = x.2.2.toList))) = false)) := fun z hz ez => by
        unfold wC
        rw [← ez, atL_mem HAP.out hz, told_kd]
        have e1 := HDU.out z hz
        have e2 := HDV.out x hxL
        obtain ⟨zp, zc, zt⟩ := z
        obtain ⟨xp, xc, xt⟩ := x
        simp only at e1 e2 ⊢
        unfold toldF kdF
        cases zc <;> cases xc
        · by_cases q : zt.toList = xt.toList
          · left; simp [q]
          · right; simp [q]
        · right; simp
        · right; simp
        · left; simp [e1 rfl, e2 rfl]
      have HWN : Hid ((∀ z ∈ U, z.1 ≠ x.1) → wC U x = true) := fun h => by unfold wC kdF; rw [atL_none h]; cases x.2.1 <;> rfl
      have hX1 : decide ((⟨#[]⟩ : ByteArray).toList = x.1.toList) = false := by
        rw [decide_eq_false_iff_not]
        intro e
        exact HNE.out x hxL (beq_bytes.1 (beq_iff_eq.2 e)).symm
      have HCE : Hid (∀ W, (w2.alloc (.cells #[.string x.1, .bool x.2.1, .string x.2.2] 83)).grownBy W u5.ownBlock → W.cell? ⟨w2.heap.size, 0, none⟩ = some (.string x.1) ∧ W.cell? ⟨w2.heap.size, 1, none⟩ = some (.bool x.2.1) ∧ W.cell? ⟨w2.heap.size, 2, none⟩ = some (.string x.2.2)) := fun W hg => by
        have hne2 : some w2.heap.size ≠ u5.ownBlock := fun e => by have := (HV2.out.lt e.symm).1; omega
        obtain ⟨q0, q1, q2⟩ := HFN.out _ (Below.refl _ _)
        refine ⟨?_, ?_, ?_⟩
        · exact (World.cell?_of_block (a := ⟨w2.heap.size, 0, none⟩) (hg.block w2.heap.size (by simp) hne2)).trans q0
        · exact (World.cell?_of_block (a := ⟨w2.heap.size, 1, none⟩) (hg.block w2.heap.size (by simp) hne2)).trans q1
        · exact (World.cell?_of_block (a := ⟨w2.heap.size, 2, none⟩) (hg.block w2.heap.size (by simp) hne2)).trans q2
      rcases atL_cases HAP.out x.1 with ⟨y, hyU, ey, eat⟩ | ⟨hno, eat⟩
      · obtain ⟨l1, l2⟩ := look_yes (HMT.out _ (HB2.out.trans (HX.out.mono HB2.out.size))) hyU (by rw [ey]; exact hpm)
        rw [ey] at l1 l2
        have hq := fun w => neqFi x.1 y.2.1 y.2.2 x.1 x.2.1 x.2.2 w
        have he := HEQ.out y hyU ey
        rw [ey] at he
        clear l1 eat hyU ey hX1
        generalize (decide (x.1.toList = x.1.toList) && (decide (y.2.1 = x.2.1) && decide (y.2.2.toList = x.2.2.toList))) = bb at *
        rcases he with ⟨hwc, rfl⟩ | ⟨hwc, rfl⟩
        · have HLG : Hid (lC U (X ++ [x]) = lC U X) := HGI.out.2 hwc
          have HBZ := hide3 HX.out
          clear hwc HGI HEQ HWN HMT HX HDC HKO HCL HCT HFN HCE
          generalize y.2.1 = yc at *
          generalize y.2.2 = yt at *
          go_wp2_with fail
          exact ⟨⟨_, cnt2, X ++ [x], Y2, HR2.out.kept (below_grown HBZ.out) (by simp) (by simp), HG'.out, by rw [HLG.out]; exact HV2.out.below HBZ.out, HB2.out.trans (HBZ.out.mono HB2.out.size), Nat.le_trans hle2 HBZ.out.size⟩, HMS.out _ _ (below_grown HBZ.out) (by simp) (by simp)⟩
        · generalize y.2.1 = yc at *
          generalize y.2.2 = yt at *
          have HLG : Hid (lC U (X ++ [x]) = lC U X ++ [⟨(dC x).kd, x.1, x.2.2⟩]) := HGI.out.1 hwc
          clear hwc HGI HEQ HWN HMT
          generalize (dC x).kd = K at *
          obtain ⟨p, c, t⟩ := x
          simp only at *
          obtain ⟨x0, x1, x2⟩ := HFN.out _ ((Below.refl _ _).drew)
          have HA0 : Hid (Below (w2.alloc (.cells #[.string p, .bool c, .string t] 83)).heap.size (w2.alloc (.cells #[.string p, .bool c, .string t] 83)) (w2.alloc (.cells #[.string p, .bool c, .string t] 83)).drew) := (Below.refl _ _).drew
          go_wp2_with fail
          go_region_held3 (fun w' => w'.cell? ⟨w2.heap.size, 0, none⟩ = some (.string p) ∧ w'.cell? ⟨w2.heap.size, 1, none⟩ = some (.bool c) ∧ w'.cell? ⟨w2.heap.size, 2, none⟩ = some (.string t)) (go_keep) (first
            | (refine step_de (B := w.heap.size + 1) (M := w7.heap.size) (wx := w7) (v := u5) (ds := lC U X) rfl (.tmp 20) (.tmp 29) rfl rfl HO7.out hB7 ⟨K, p, t⟩ rfl rfl (by omega) ?_; intro v8 w8 ho hgr; have HO8 := hide3 ho; have HG7 := hide3 (grown_pre HB7.out hgr); have t0 := (HCE.out w8 (grown_pre HB7.out hgr)).1; have t1 := (HCE.out w8 (grown_pre HB7.out hgr)).2.1; have t2 := (HCE.out w8 (grown_pre HB7.out hgr)).2.2; clear ho hgr)
            | (have _t := HB6; go_at_call 90; refine (HCT.out _).mono ?_; rintro e w7 ⟨rfl, hb7⟩; have HB7 := hide3 (HB6.out.trans (hb7.mono HB6.out.size)); obtain ⟨z0, z1, z2⟩ := HFN.out _ HB7.out; have HO7 := hide3 (HV2.out.below (HX.out.trans (HB7.out.mono HX.out.size))); have hB7 : w.heap.size + 1 ≤ w7.heap.size := Nat.le_trans hle2 (Nat.le_trans HX.out.size HB7.out.size); clear hb7)
            | (have _t := HB5; go_at_call 90; refine (HCL.out _).mono ?_; rintro e w6 ⟨rfl, hb6⟩; have HB6 := hide3 (HB5.out.trans (hb6.mono HB5.out.size)); obtain ⟨y0, y1, y2⟩ := HFN.out _ HB6.out; clear hb6)
            | (go_at_call 89; refine (HKO.out _).mono ?_; rintro e w5 ⟨rfl, hb5⟩; have HB5 := hide3 (HA0.out.trans (hb5.mono HA0.out.size)); obtain ⟨v0, v1, v2⟩ := HFN.out _ HB5.out; clear hb5))
          all_goals go_wp2
          all_goals have HG8 := hide3 (grown_pre HX.out HG7.out)
          all_goals have hr1 : some m2 ≠ u5.ownBlock := fun e => by have := (HV2.out.lt e.symm).2; have := HME0.out; omega
          all_goals have hr2 : some w.heap.size ≠ u5.ownBlock := fun e => by have := (HV2.out.lt e.symm).2; omega
          all_goals exact ⟨⟨_, cnt2, X ++ [(p, c, t)], Y2, HR2.out.kept HG8.out hr1 hr2, HG'.out, by rw [HLG.out]; exact HO8.out, HB2.out.grown HG8.out HB2.out.size (fun k hk => by have := (HV2.out.lt hk).2; omega), Nat.le_trans hle2 HG8.out.size⟩, HMS.out _ _ HG8.out hr1 hr2⟩
      · obtain ⟨l1, l2⟩ := look_no (HMT.out _ (HB2.out.trans (HX.out.mono HB2.out.size))) hno hpm
        have hq := fun w => neqFi ⟨#[]⟩ false ⟨#[]⟩ x.1 x.2.1 x.2.2 w
        rw [hX1, Bool.false_and] at hq
        have hwc := HWN.out hno
        clear l1 eat hno hX1
        have HLG : Hid (lC U (X ++ [x]) = lC U X ++ [⟨(dC x).kd, x.1, x.2.2⟩]) := HGI.out.1 hwc
        clear hwc HGI HEQ HWN HMT
        generalize (dC x).kd = K at *
        obtain ⟨p, c, t⟩ := x
        simp only at *
        obtain ⟨x0, x1, x2⟩ := HFN.out _ ((Below.refl _ _).drew)
        have HA0 : Hid (Below (w2.alloc (.cells #[.string p, .bool c, .string t] 83)).heap.size (w2.alloc (.cells #[.string p, .bool c, .string t] 83)) (w2.alloc (.cells #[.string p, .bool c, .string t] 83)).drew) := (Below.refl _ _).drew
        go_wp2_with fail
        go_region_held3 (fun w' => w'.cell? ⟨w2.heap.size, 0, none⟩ = some (.string p) ∧ w'.cell? ⟨w2.heap.size, 1, none⟩ = some (.bool c) ∧ w'.cell? ⟨w2.heap.size, 2, none⟩ = some (.string t)) (go_keep) (first
          | (refine step_de (B := w.heap.size + 1) (M := w7.heap.size) (wx := w7) (v := u5) (ds := lC U X) rfl (.tmp 20) (.tmp 29) rfl rfl HO7.out hB7 ⟨K, p, t⟩ rfl rfl (by omega) ?_; intro v8 w8 ho hgr; have HO8 := hide3 ho; have HG7 := hide3 (grown_pre HB7.out hgr); have t0 := (HCE.out w8 (grown_pre HB7.out hgr)).1; have t1 := (HCE.out w8 (grown_pre HB7.out hgr)).2.1; have t2 := (HCE.out w8 (grown_pre HB7.out hgr)).2.2; clear ho hgr)
          | (have _t := HB6; go_at_call 90; refine (HCT.out _).mono ?_; rintro e w7 ⟨rfl, hb7⟩; have HB7 := hide3 (HB6.out.trans (hb7.mono HB6.out.size)); obtain ⟨z0, z1, z2⟩ := HFN.out _ HB7.out; have HO7 := hide3 (HV2.out.below (HX.out.trans (HB7.out.mono HX.out.size))); have hB7 : w.heap.size + 1 ≤ w7.heap.size := Nat.le_trans hle2 (Nat.le_trans HX.out.size HB7.out.size); clear hb7)
          | (have _t := HB5; go_at_call 90; refine (HCL.out _).mono ?_; rintro e w6 ⟨rfl, hb6⟩; have HB6 := hide3 (HB5.out.trans (hb6.mono HB5.out.size)); obtain ⟨y0, y1, y2⟩ := HFN.out _ HB6.out; clear hb6)
          | (go_at_call 89; refine (HKO.out _).mono ?_; rintro e w5 ⟨rfl, hb5⟩; have HB5 := hide3 (HA0.out.trans (hb5.mono HA0.out.size)); obtain ⟨v0, v1, v2⟩ := HFN.out _ HB5.out; clear hb5))
        all_goals go_wp2
        all_goals have HG8 := hide3 (grown_pre HX.out HG7.out)
        all_goals have hr1 : some m2 ≠ u5.ownBlock := fun e => by have := (HV2.out.lt e.symm).2; have := HME0.out; omega
        all_goals have hr2 : some w.heap.size ≠ u5.ownBlock := fun e => by have := (HV2.out.lt e.symm).2; omega
        all_goals exact ⟨⟨_, cnt2, X ++ [(p, c, t)], Y2, HR2.out.kept HG8.out hr1 hr2, HG'.out, by rw [HLG.out]; exact HO8.out, HB2.out.grown HG8.out HB2.out.size (fun k hk => by have := (HV2.out.lt hk).2; omega), Nat.le_trans hle2 HG8.out.size⟩, HMS.out _ _ HG8.out hr1 hr2⟩
end Go.Proofs.YtpaoimhebheaeaaGreatDoor
namespace Go.Proofs.YtpaoimhebheaeaaGreatDoor
open Go.RowKit Go.Maps Go.WideMaps Go.WideElems Dk
set_option maxRecDepth 100000

theorem OwnDe.sl {w : World} {B : Nat} {v : Value} {ds : List De} (h : OwnDe w B v ds) : ∃ ad cap, v = .slice ad ds.length cap ∧ ds.length ≤ cap := by
  rcases h.2 with ⟨rfl, hn⟩ | ⟨g, cap, cur, rfl, _, _, hc, _⟩
  · exact ⟨none, 0, by rw [hn], by omega⟩
  · exact ⟨_, cap, rfl, hc⟩

/-- Deeds lie there, wherever. -/
def DesAt (w : World) (ad : Option Addr) (ds : List De) : Prop := (ds = [] ∧ ad = none) ∨ ∃ g off, ad = some ⟨g, off, none⟩ ∧ ∀ j u, (ds.flatMap encE)[j]? = some u → w.cell? ((⟨g, off, none⟩ : Addr).add j) = some u

theorem OwnDe.des {w : World} {B : Nat} {ad : Option Addr} {n cap : Nat} {ds : List De} (h : OwnDe w B (.slice ad n cap) ds) : DesAt w ad ds := by
  have h0 := h
  rcases h.2 with ⟨e, hn⟩ | ⟨g, cap', cur, e, _⟩
  · cases e
    exact Or.inl ⟨List.eq_nil_of_length_eq_zero hn, rfl⟩
  · cases e
    exact Or.inr ⟨g, 0, rfl, fun j u hj => by
      have := row_cells h0 j u hj
      rw [← this]
      congr 1
      unfold Addr.add
      simp
      exact fun e => e.symm⟩

theorem OwnDe.cells {w : World} {B g n cap : Nat} {ds : List De} (h : OwnDe w B (.slice (some ⟨g, 0, none⟩) n cap) ds) (k : Nat) (hk : k < ds.length) :
    w.cell? ⟨g, k * 3, none⟩ = some (.int .i64 ds[k].kd) ∧ w.cell? ⟨g, k * 3 + 1, none⟩ = some (.string ds[k].pa) ∧ w.cell? ⟨g, k * 3 + 1 + 1, none⟩ = some (.string ds[k].da) := by
  have hg : ∀ (l : List De) (k : Nat) (hk : k < l.length), (l.flatMap encE)[k * 3]? = some (.int .i64 l[k].kd) ∧ (l.flatMap encE)[k * 3 + 1]? = some (.string l[k].pa) ∧ (l.flatMap encE)[k * 3 + 1 + 1]? = some (.string l[k].da) := by
    intro l
    induction l with
    | nil => intro k hk; cases hk
    | cons x r ih =>
      intro k hk
      cases k with
      | zero => simp [encE]
      | succ k =>
        have := ih k (by simpa using hk)
        rw [List.flatMap_cons]
        have e : ∀ j, (encE x ++ r.flatMap encE)[j + 3]? = (r.flatMap encE)[j]? := fun j => by
          rw [List.getElem?_append_right (by simp [encE])]
          simp [encE]
        rw [show (k + 1) * 3 = k * 3 + 3 by omega, show k * 3 + 3 + 1 = k * 3 + 1 + 3 by omega, show k * 3 + 1 + 3 + 1 = k * 3 + 1 + 1 + 3 by omega, e, e, e]
        simpa using this
  obtain ⟨h0, h1, h2⟩ := hg ds k hk
  obtain ⟨ad, cap2, hv, _⟩ := h.sl
  cases hv
  exact ⟨row_cells h _ _ h0, row_cells h _ _ h1, row_cells h _ _ h2⟩

theorem OwnDe.some {w : World} {B : Nat} {v : Value} {ds : List De} (h : OwnDe w B v ds) (h0 : 0 < ds.length) : ∃ g cap, v = .slice (some ⟨g, 0, none⟩) ds.length cap ∧ g < w.heap.size ∧ B ≤ g := by
  rcases h.2 with ⟨rfl, hn⟩ | ⟨g, cap, cur, rfl, hb, hg, hc, _⟩
  · omega
  · exact ⟨g, cap, rfl, (Array.getElem?_eq_some_iff.1 hg).1, hb⟩

theorem wp_deL {B : Nat} {wx : World} {v : Value} {ds : List De} {ops : Array Oper} {rest : List Oper} {o : Oper} {f : Act} {Q : Exit → Act → World → Prop}
    (hgd : o.guard = none) (s t : Operand) (ho : o.op = .call { callee := .builtin .append, args := #[s, t], argTypes := #[23, 23] }) (hs : f.eval s = v)
    (hown : OwnDe wx B v ds) (hB : B ≤ wx.heap.size) (x : De) {M : Nat} (hM : wx.heap.size = M) (hx : f.eval t = .slice (some ⟨M, 0, none⟩) 1 1) (hlen : ds.length ≤ 1000000000)
    (h : ∀ v1 w1, OwnDe w1 B v1 (ds ++ [x]) → wx.grownBy w1 v.ownBlock → wpList Tryz.prog ops Q rest (f.put o.dst v1) w1) :
    wpList Tryz.prog ops Q (o :: rest) f (wx.alloc (.cells #[.int .i64 x.kd, .string x.pa, .string x.da] 54)) := by
  subst hM
  obtain ⟨i0, hi, hz0, hz1, hz2⟩ := info_parts infoDe
  refine wpList_append_own _ hgd s t 23 ho B 54 i0 _ 3 40 Tryz.underlying23 hi hz0 hz1 hz2 rfl (by decide) v ds.length _ hs (World.ownsRow.alloc hown _) ⟨wx.heap.size, 0, none⟩ 1 1 [.int .i64 x.kd, .string x.pa, .string x.da] hx rfl (news_deed wx x.kd x.pa x.da) (by simp [Value.oneCell']) (by unfold maxLen; omega) (by omega) (by simp; omega) ?_
  intro v1 w1 h1 h2 _
  exact h v1 w1 (OwnDe.snoc h1) (grown_pre ((Below.refl _ _).alloc (Nat.le_refl _) _) h2)
end Go.Proofs.YtpaoimhebheaeaaGreatDoor
namespace Go.Proofs.YtpaoimhebheaeaaGreatDoor
open Go.RowKit Dk
set_option maxRecDepth 100000

set_option maxHeartbeats 4000000 in
theorem pPart_any (s : ByteArray) (w : World) (hs : s.size ≤ maxLen) :
    Calls Tryz.prog 143 #[.string s] w fun e w' => e = .returned (.bool (partB s.data.toList)) ∧ w' = w := by
  unfold maxLen at hs
  have HP : Hid (s.data.toList.all partByteB = true → partB s.data.toList = (!(s.toList == []) && decide (s.size ≤ 24) && !(s.toList == [46]) && !(s.toList == [46, 46]))) := fun h => by
    unfold partB
    rw [h, Bool.and_true, toList_data, size_list]
    have : (s.size == 0) = (s.data.toList == []) := by
      rw [← size_list]
      cases s.data.toList <;> rfl
    rw [this]
  have HN : Hid (s.data.toList.all partByteB = false → partB s.data.toList = false) := fun h => by unfold partB; rw [h, Bool.and_false]
  generalize partB s.data.toList = pb at *
  go_enter Tryz.func143, Tryz.ntmps143
  go_wp2_with fail
  go_loop [3] (fun i => ∃ k : Nat, k ≤ s.size ∧ i = .int .i64 k ∧ ∀ j (hj : j < k) (hj' : j < s.size), partByteB s[j] = true) (fun i => s.size - (intOf i).toNat)
  case atStart => exact ⟨0, Nat.zero_le _, rfl, fun j hj => absurd hj (Nat.not_lt_zero _)⟩
  case round =>
    obtain ⟨k, hk, rfl, hall⟩ := hrel
    have HA : Hid (∀ j (hj : j < k) (hj' : j < s.size), partByteB s[j] = true) := hall
    clear hall
    by_cases hlt : k < s.size
    · go_wp2
      all_goals first
        | (have hb : partByteB s[k] = true := by
             go_light
             clear HP HA HN
             unfold partByteB
             first
               | (simp_all; done)
               | (simp_all; omega)
           refine ⟨⟨k + 1, by omega, by go_num, fun j hj hj' => ?_⟩, by simp [intOf]; omega⟩
           by_cases e : j = k
           · subst e; exact hb
           · exact HA.out j (by omega) hj')
        | (have hb : partByteB s[k] = false := by
             go_light
             clear HP HA HN
             unfold partByteB
             first
               | (simp_all; done)
               | (simp_all; omega)
           go_ret
           exact ⟨ret_bool (HN.out (all_not k hlt hb)).symm, rfl⟩)
    · have HQ := hide3 (HP.out (all_get (fun j hj => HA.out j (by rw [size_list] at hj; omega) hj)))
      clear HP HN HA
      cases h0 : (s.toList == [])
      · by_cases h24 : s.size ≤ 24
        · have h24d : decide ((s.size : Int) ≤ 24) = true := decide_eq_true (by omega)
          cases h1 : (s.toList == [46])
          · cases h2 : (s.toList == [46, 46])
            · have HR : Hid (pb = true) := by unfold Hid; rw [HQ.out, h0, h1, h2, decide_eq_true h24]; rfl
              clear HQ
              go_wp2
              go_ret
              exact ⟨ret_bool HR.out.symm, rfl⟩
            · have HR : Hid (pb = false) := by unfold Hid; rw [HQ.out, h2]; simp
              clear HQ
              go_wp2
              go_ret
              exact ⟨ret_bool HR.out.symm, rfl⟩
          · have HR : Hid (pb = false) := by unfold Hid; rw [HQ.out, h1]; simp
            clear HQ
            go_wp2
            go_ret
            exact ⟨ret_bool HR.out.symm, rfl⟩
        · have h24d : decide ((s.size : Int) ≤ 24) = false := decide_eq_false (by omega)
          have HR : Hid (pb = false) := by unfold Hid; rw [HQ.out, decide_eq_false h24]; simp
          clear HQ
          go_wp2
          go_ret
          exact ⟨ret_bool HR.out.symm, rfl⟩
      · have HR : Hid (pb = false) := by unfold Hid; rw [HQ.out, h0]; simp
        clear HQ
        go_wp2
        go_ret
        exact ⟨ret_bool HR.out.symm, rfl⟩

/-- begins. -/
def begB (s t : ByteArray) : Bool := decide (t.size ≤ s.size) && (s.extract 0 t.size).toList == t.toList

set_option maxHeartbeats 800000 in
theorem begins_any (s t : ByteArray) (w : World) :
    Calls Tryz.prog 109 #[.string s, .string t] w fun e w' => e = .returned (.bool (begB s t)) ∧ w' = w := by
  by_cases h : t.size ≤ s.size
  · have hi : (t.size : Int) ≤ (s.size : Int) := by omega
    have hd : decide ((t.size : Int) ≤ (s.size : Int)) = true := decide_eq_true hi
    have HR : Hid (begB s t = ((s.extract 0 t.size).toList == t.toList)) := by unfold Hid begB; rw [decide_eq_true h]; rfl
    go_enter Tryz.func109, Tryz.ntmps109
    go_wp2
    go_ret
    exact ⟨ret_bool HR.out.symm, rfl⟩
  · have hi : ¬ (t.size : Int) ≤ (s.size : Int) := by omega
    have hd : decide ((t.size : Int) ≤ (s.size : Int)) = false := decide_eq_false hi
    have HR : Hid (begB s t = false) := by unfold Hid begB; rw [decide_eq_false h]; rfl
    go_enter Tryz.func109, Tryz.ntmps109
    go_wp2
    go_ret
    exact ⟨ret_bool HR.out.symm, rfl⟩

/-- May two deeds have one path? -/
def pairB (a b : Int) : Bool := (a == 1 && b == 3) || (a == 2 && b == 4)

set_option maxHeartbeats 800000 in
theorem pair_any (a b : Int) (w : World) : Calls Tryz.prog 110 #[.int .i64 a, .int .i64 b] w fun e w' => e = .returned (.bool (pairB a b)) ∧ w' = w := by
  have HR : Hid (pairB a b = ((a == 1 && b == 3) || (a == 2 && b == 4))) := rfl
  generalize pairB a b = r at *
  cases h1 : (a == 1) <;> cases h2 : (b == 3) <;> cases h3 : (a == 2) <;> cases h4 : (b == 4)
  all_goals
    rw [h1, h2, h3, h4] at HR
    go_enter Tryz.func110, Tryz.ntmps110
    go_wp2
    go_ret
    exact ⟨ret_bool (by rw [HR.out]; rfl), rfl⟩

theorem path_rest {s : ByteArray} (h1 : 1 ≤ s.size) (h2 : s.size ≤ 4096) : okPath s = ((s[0] == 47) && restOk [] (s.data.toList.drop 1)) := by
  have hhd : s.data.toList.head? = some s[0] := by
    rw [List.head?_eq_getElem?, List.getElem?_eq_getElem (by rw [size_list]; exact h1)]; rfl
  rw [okPath_rest, hhd, decide_eq_true h2]
  by_cases h : 2 ≤ s.size
  · rw [decide_eq_true h]; simp
  · rw [decide_eq_false h]
    have : s.data.toList.drop 1 = [] := List.drop_eq_nil_of_le (by rw [size_list]; omega)
    rw [this, restOk_nil]
    have hp : partB [] = false := rfl
    rw [hp]; simp

set_option maxHeartbeats 4000000 in
theorem pPath_any (s : ByteArray) (w : World) (hs : s.size ≤ maxLen) :
    Calls Tryz.prog 108 #[.string s] w fun e w' => e = .returned (.bool (okPath s)) ∧ w' = w := by
  unfold maxLen at hs
  cases he : (s.toList == [])
  · have hpos : 0 < s.size := by
      rw [← size_list]
      rw [toList_data] at he
      cases hl : s.data.toList with
      | nil => rw [hl] at he; cases he
      | cons a t => simp
    by_cases h2 : s[0] = 47
    · have hn : ((s[0].toNat : Int) != 47) = false := by rw [h2]; rfl
      by_cases h0 : 4096 < s.size
      · have h0i : (4096 : Int) < (s.size : Int) := by omega
        have HP : Hid (okPath s = false) := by
          unfold Hid; rw [okPath_rest]
          have : decide (s.size ≤ 4096) = false := by simp; omega
          rw [this]; simp
        clear h2
        go_enter Tryz.func108, Tryz.ntmps108
        go_wp2
        go_ret
        exact ⟨ret_bool HP.out.symm, rfl⟩
      have h0i : ¬ (4096 : Int) < (s.size : Int) := by omega
      have i0 : s.size ≤ 4096 := by omega
      have HR2 : Hid (okPath s = restOk [] (s.data.toList.drop 1)) := by unfold Hid; rw [path_rest hpos i0, h2]; simp
      clear h2
      go_enter Tryz.func108, Tryz.ntmps108
      go_wp2_with fail
      go_loop [3, 4] (fun f i => ∃ a k : Nat, f = .int .i64 a ∧ i = .int .i64 k ∧ 1 ≤ a ∧ ((k ≤ s.size ∧ a ≤ k ∧ restOk (s.extract a k).data.toList (s.data.toList.drop k) = restOk [] (s.data.toList.drop 1)) ∨ (k = s.size + 1 ∧ restOk [] (s.data.toList.drop 1) = true))) (fun _ i => s.size + 2 - (intOf i).toNat)
      case atStart => exact ⟨1, 1, rfl, rfl, Nat.le_refl _, Or.inl ⟨by omega, Nat.le_refl _, by rw [extract_list]; simp⟩⟩
      case round =>
        obtain ⟨a, k, rfl, rfl, ha1, hor⟩ := hrel
        rcases hor with ⟨hk, hak, hinv⟩ | ⟨hk, hR⟩
        · have HI : Hid (restOk (s.extract a k).data.toList (s.data.toList.drop k) = restOk [] (s.data.toList.drop 1)) := hinv
          clear hinv
          have hpt := pPart_any (s.extract a k) w (by rw [ByteArray.size_extract]; unfold maxLen; omega)
          obtain ⟨pb, hpb⟩ : ∃ pb, pb = partB (s.extract a k).data.toList := ⟨_, rfl⟩
          rw [← hpb] at hpt
          have HPT : Hid (Calls Tryz.prog 143 #[.string (s.extract a k)] w fun e w' => e = .returned (.bool pb) ∧ w' = w) := hpt
          have HPB : Hid (pb = partB (s.extract a k).data.toList) := hpb
          clear hpt hpb
          have hle : (k : Int) ≤ (s.size : Int) := by omega
          by_cases hlt : k < s.size
          · have hne : ((k : Int) == (s.size : Int)) = false := by rw [beq_eq_false_iff_ne]; omega
            by_cases hc : s[k] = 47
            · have hcn : ((s[k].toNat : Int) == 47) = true := by rw [hc]; rfl
              have HJ : Hid (restOk [] (s.data.toList.drop 1) = (partB (s.extract a k).data.toList && restOk [] (s.data.toList.drop (k + 1)))) := by
                unfold Hid; rw [← HI.out, drop_cons s k hlt, hc, restOk_slash]
              clear hc
              cases pb
              · go_wp2_with (go_at_call 143; refine HPT.out.mono ?_; rintro e w' ⟨rfl, rfl⟩)
                go_ret
                exact ⟨ret_bool (by rw [HR2.out, HJ.out, ← HPB.out]; rfl), rfl⟩
              · go_wp2_with (go_at_call 143; refine HPT.out.mono ?_; rintro e w' ⟨rfl, rfl⟩)
                refine ⟨⟨k + 1, k + 1, by go_num, by go_num, by omega, Or.inl ⟨by omega, Nat.le_refl _, ?_⟩⟩, by simp [intOf]; omega⟩
                rw [HJ.out, ← HPB.out, extract_list]; simp
            · have hcn : ((s[k].toNat : Int) == 47) = false := by
                rw [beq_eq_false_iff_ne]
                intro e
                exact hc (UInt8.toNat_inj.1 (by have : s[k].toNat = 47 := by omega
                                                rw [this]; rfl))
              have HJ : Hid (restOk (s.extract a (k + 1)).data.toList (s.data.toList.drop (k + 1)) = restOk [] (s.data.toList.drop 1)) := by
                unfold Hid; rw [← HI.out, drop_cons s k hlt, restOk_other _ _ _ hc, Dk.take_snoc s a k hlt hak]
              clear hc
              go_wp2_with fail
              refine ⟨⟨a, k + 1, rfl, by go_num, ha1, Or.inl ⟨by omega, by omega, HJ.out⟩⟩, by simp [intOf]; omega⟩
          · have hke : k = s.size := by omega
            have HJ : Hid (restOk [] (s.data.toList.drop 1) = partB (s.extract a k).data.toList) := by
              unfold Hid; rw [← HI.out, List.drop_eq_nil_of_le (by rw [size_list]; omega), restOk_nil]
            have hne : ((k : Int) == (s.size : Int)) = true := by rw [beq_iff_eq]; omega
            have HKE : Hid (k = s.size) := hke
            clear hke
            cases pb
            · go_wp2_with (go_at_call 143; refine HPT.out.mono ?_; rintro e w' ⟨rfl, rfl⟩)
              go_ret
              exact ⟨ret_bool (by rw [HR2.out, HJ.out, ← HPB.out]), rfl⟩
            · go_wp2_with (go_at_call 143; refine HPT.out.mono ?_; rintro e w' ⟨rfl, rfl⟩)
              refine ⟨⟨k + 1, k + 1, by go_num, by go_num, by omega, Or.inr ⟨by rw [HKE.out], by rw [HJ.out, ← HPB.out]⟩⟩, by simp [intOf]; have := HKE.out; omega⟩
        · have hle : ¬ (k : Int) ≤ (s.size : Int) := by omega
          have hgt : (s.size : Int) < k := by omega
          have HRR : Hid (restOk [] (s.data.toList.drop 1) = true) := hR
          clear hk hR
          go_wp2
          go_ret
          exact ⟨ret_bool (by rw [HR2.out, HRR.out]), rfl⟩
    · have hn : ((s[0].toNat : Int) != 47) = true := by
        rw [bne_iff_ne]
        intro e
        exact h2 (UInt8.toNat_inj.1 (by have : s[0].toNat = 47 := by omega
                                        rw [this]; rfl))
      have HR2 : Hid (okPath s = false) := by
        unfold Hid
        by_cases i0 : s.size ≤ 4096
        · rw [path_rest hpos i0, beq_eq_false_iff_ne.2 h2]; rfl
        · rw [okPath_rest, decide_eq_false i0]; simp
      clear h2
      go_enter Tryz.func108, Tryz.ntmps108
      go_wp2
      go_ret
      exact ⟨ret_bool HR2.out.symm, rfl⟩
  · have HR2 : Hid (okPath s = false) := by
      unfold Hid
      rw [okPath_rest]
      have : s.size = 0 := by
        rw [toList_data, beq_iff_eq] at he
        rw [← size_list, he]; rfl
      rw [this]; rfl
    go_enter Tryz.func108, Tryz.ntmps108
    go_wp2
    go_ret
    exact ⟨ret_bool HR2.out.symm, rfl⟩
end Go.Proofs.YtpaoimhebheaeaaGreatDoor
