/- The law's does and can of package halyardlaw17, on a disk. Conditions: sizes. -/
import Derived.Test.YtefcndfeemnglaaGreatDoorPh1
import Derived.Test.YtefcndfeemnglaaGreatDoorDdL
namespace Go.Proofs.YtefcndfeemnglaaGreatDoor
open Go.RowKit Go.Maps Go.WideMaps Go.WideElems Dk
set_option maxRecDepth 100000

theorem fitP_below {B : Nat} {w w1 : World} {d mb n : Nat} {rv : Value} {x : Ab} {m : Int} (h : Fit B w d mb n rv x m) (hb : Below w.heap.size w w1) : Fit B w1 d mb n rv x m :=
  { disk := h.disk.below hb, max := (hb.cell (p := ⟨0, 0, none⟩) (cell_lt h.max)).trans h.max, room := h.room, len := h.len, lo := h.lo, hi := h.hi, base := Nat.le_trans h.base hb.size }
theorem after_pre {B : Nat} {w w1 w' : World} {d mb n : Nat} {rv : Value} {x' : Ab} (hb : Below w.heap.size w w1) (h : After B w1 w' d mb n rv x') : After B w w' d mb n rv x' := by
  obtain ⟨n', rv', h1, h2, h3, h4⟩ := h
  exact ⟨n', rv', h1, h2, (Upd.of_below hb).trans h3 (fun _ _ q => q), fun j hj => (h4 j hj).imp id (fun q => Nat.le_trans hb.size q)⟩
theorem wr_zero {s : ByteArray} (h : okPath s = true) : (writeD (-1) [s] != 0) = false := by unfold writeD; simp [h]
theorem rem_is {D : DataW Unit} {rs : List (Int × ByteArray × ByteArray)} {p : ByteArray} (hok : okPath p = true) (hk : (kindD D p == 0) = false) : ∃ rs', rs'.length ≤ rs.length + 1 ∧ (removeD ⟨D, rs, -1⟩ p).2 = ⟨if (kindD D p == 2 && usedD D p) = true then D else D.del (keyD p), rs', -1⟩ := by
  unfold removeD
  simp only
  rw [if_neg (by rw [wr_zero hok]; decide), if_neg (by rw [hk]; decide)]
  by_cases h : (kindD D p == 2 && usedD D p) = true
  · rw [if_pos h, if_pos h]; exact ⟨rs, Nat.le_succ _, rfl⟩
  · rw [if_neg h, if_neg h]; exact ⟨rs ++ [(4, p, ByteArray.empty)], by simp, rfl⟩
theorem mk_is {D : DataW Unit} {rs : List (Int × ByteArray × ByteArray)} {p : ByteArray} (hok : okPath p = true) (hk : (kindD D p == 0) = true) : ∃ rs', rs'.length ≤ rs.length + 1 ∧ (mkdirD ⟨D, rs, -1⟩ p).2 = ⟨if (parentD D p != 0) = true then D else D.put (keyD p) (itemD true ByteArray.empty), rs', -1⟩ := by
  unfold mkdirD
  simp only
  rw [if_neg (by rw [wr_zero hok]; decide)]
  by_cases h : (parentD D p != 0) = true
  · rw [if_pos h, if_pos h]; exact ⟨rs, Nat.le_succ _, rfl⟩
  · have hk2 : ¬ (kindD D p != 0) = true := by unfold bne; rw [hk]; decide
    rw [if_neg h, if_neg h, if_neg hk2]; exact ⟨rs ++ [(1, p, ByteArray.empty)], by simp, rfl⟩
theorem wrt_is {D : DataW Unit} {rs : List (Int × ByteArray × ByteArray)} {p t : ByteArray} (hok : okPath p = true) : ∃ rs', rs'.length ≤ rs.length + 1 ∧ (writeFD ⟨D, rs, -1⟩ p t).2 = ⟨if (fileD D p != 0) = true then D else D.put (keyD p) (itemD false t), rs', -1⟩ := by
  unfold writeFD
  simp only
  rw [if_neg (by rw [wr_zero hok]; decide)]
  by_cases h : (fileD D p != 0) = true
  · rw [if_pos h, if_pos h]; exact ⟨rs, Nat.le_succ _, rfl⟩
  · rw [if_neg h, if_neg h]; exact ⟨rs ++ [(2, p, ByteArray.empty)], by simp, rfl⟩
/-- What does leaves. -/
def DoQ (B : Nat) (w : World) (d mb n : Nat) (rv : Value) (E : DataW Unit) (k : Nat) (e : Ending) (w' : World) : Prop := e = .returned (.tuple #[]) ∧ ∃ rs', rs'.length ≤ k ∧ After B w w' d mb n rv ⟨E, rs', -1⟩

set_option maxHeartbeats 4000000 in
theorem does17_any {B : Nat} {w : World} {d mb n : Nat} {rv : Value} {D : DataW Unit} {rs : List (Int × ByteArray × ByteArray)} {m : Int} (h : Fit B w d mb n rv ⟨D, rs, -1⟩ m) (x : De) (hx : OkX x) (ht : x.da.size ≤ maxLen) :
    Calls Tryz.prog 8 #[.pointer (some ⟨d, 0, none⟩), .agg #[.int .i64 x.kd, .string x.pa, .string x.da]] w (DoQ B w d mb n rv (dD D x) (rs.length + 1)) := by
  obtain ⟨k, p, t⟩ := x
  obtain ⟨lo, hi, hp⟩ := hx
  simp only at lo hi hp ht ⊢
  have hps := okPath_size hp
  have HF := hide3 h
  have HX : Hid (Below w.heap.size w (w.alloc (.cells #[.int .i64 k, .string p, .string t] 32))) := (Below.refl _ _).alloc (Nat.le_refl _) _
  have HBX : Hid (∀ W, Below (w.alloc (.cells #[.int .i64 k, .string p, .string t] 32)).heap.size (w.alloc (.cells #[.int .i64 k, .string p, .string t] 32)) W → BxDe W w.heap.size k p t) := fun W hb => keepBxDe _ _ _ _ _ _ (bxDe_new _ _ _ _) hb
  have HK : Hid (∀ W, Below w.heap.size w W → Calls Tryz.prog 9 #[.pointer (some ⟨d, 0, none⟩), .string p] W fun e w' => e = .returned (.int .i64 (kindD D p)) ∧ Below W.heap.size W w') := fun W hb => Kind_any (h.disk.below hb) p hps
  have HS : Hid (∀ W, Below w.heap.size w W → DoQ B w d mb n rv D (rs.length + 1) (.returned (.tuple #[])) W) := fun W hb => ⟨rfl, rs, Nat.le_succ _, After.same HF.out.disk hb⟩
  have HR : Hid ((kindD D p == 0) = false → ∀ W, Below w.heap.size w W → Calls Tryz.prog 22 #[.pointer (some ⟨d, 0, none⟩), .string p] W fun e w' => ∃ c : Int, e = .returned (.int .i64 c) ∧ DoQ B w d mb n rv (if (kindD D p == 2 && usedD D p) = true then D else D.del (keyD p)) (rs.length + 1) (.returned (.tuple #[])) w') := fun hk W hb => by
    obtain ⟨rs', h1, h2⟩ := rem_is (rs := rs) hp hk
    refine (Remove_any (fitP_below HF.out hb) p).mono ?_
    rintro e w' ⟨rfl, ha⟩
    rw [h2] at ha
    exact ⟨_, rfl, rfl, rs', h1, after_pre hb ha⟩
  have HM : Hid ((kindD D p == 0) = true → ∀ W, Below w.heap.size w W → Calls Tryz.prog 23 #[.pointer (some ⟨d, 0, none⟩), .string p] W fun e w' => ∃ c : Int, e = .returned (.int .i64 c) ∧ DoQ B w d mb n rv (if (parentD D p != 0) = true then D else D.put (keyD p) (itemD true ByteArray.empty)) (rs.length + 1) (.returned (.tuple #[])) w') := fun hk W hb => by
    obtain ⟨rs', h1, h2⟩ := mk_is (rs := rs) hp hk
    refine (Mkdir_any (fitP_below HF.out hb) p).mono ?_
    rintro e w' ⟨rfl, ha⟩
    rw [h2] at ha
    exact ⟨_, rfl, rfl, rs', h1, after_pre hb ha⟩
  have HW : Hid (∀ W, Below w.heap.size w W → Calls Tryz.prog 24 #[.pointer (some ⟨d, 0, none⟩), .string p, .string t] W fun e w' => ∃ c : Int, e = .returned (.int .i64 c) ∧ DoQ B w d mb n rv (if (fileD D p != 0) = true then D else D.put (keyD p) (itemD false t)) (rs.length + 1) (.returned (.tuple #[])) w') := fun W hb => by
    obtain ⟨rs', h1, h2⟩ := wrt_is (rs := rs) (t := t) hp (D := D)
    refine (Write_any (fitP_below HF.out hb) p t ht).mono ?_
    rintro e w' ⟨rfl, ha⟩
    rw [h2] at ha
    exact ⟨_, rfl, rfl, rs', h1, after_pre hb ha⟩
  have HDD : Hid (dD D ⟨k, p, t⟩ = (if (k == 1) = true then (if (kindD D p == 1) = true then D.del (keyD p) else D)
  else if (k == 2) = true then (if (kindD D p == 2) = true then (if usedD D p = true then D else D.del (keyD p)) else D)
  else if (k == 3) = true then (if (kindD D p == 0) = true then (if (parentD D p != 0) = true then D else D.put (keyD p) (itemD true ByteArray.empty)) else D)
  else if (fileD D p != 0) = true then D else D.put (keyD p) (itemD false t))) := rfl
  generalize dD D ⟨k, p, t⟩ = E at *
  clear h ht hps hp HF
  by_cases h1 : k = 1
  · subst h1
    rw [if_pos b11] at HDD
    clear HM HW
    cases hk1 : (kindD D p == 1)
    · rw [hk1, if_neg (by decide)] at HDD
      rw [HDD.out]
      clear HDD HR
      generalize kindD D p = kk at *
      go_enter Tryz.func8, Tryz.ntmps8
      go_wp2_with (go_at_call 9; refine (HK.out _ HX.out).mono ?_; rintro e w1 ⟨rfl, hb1⟩; have HB1 : Hid (Below w.heap.size w w1) := HX.out.trans (hb1.mono HX.out.size); clear hb1)
      go_end0
      exact HS.out _ HB1.out
    · have hk0 : (kindD D p == 0) = false := by rw [beq_iff_eq.1 hk1]; rfl
      have hk2 : (kindD D p == 2) = false := by rw [beq_iff_eq.1 hk1]; rfl
      rw [hk1, if_pos rfl] at HDD
      have HR2 := hide3 (HR.out hk0)
      rw [hk2, Bool.false_and, if_neg (by decide), ← HDD.out] at HR2
      clear HDD HR hk0 hk2
      generalize kindD D p = kk at *
      go_enter Tryz.func8, Tryz.ntmps8
      go_wp2_with (first
        | (go_at_call 22; refine (HR2.out _ HB1.out).mono ?_; rintro e w2 ⟨c2, rfl, hq2⟩; have HQ2 := hide3 hq2; clear hq2)
        | (go_at_call 9; refine (HK.out _ HX.out).mono ?_; rintro e w1 ⟨rfl, hb1⟩; have HB1 : Hid (Below w.heap.size w w1) := HX.out.trans (hb1.mono HX.out.size); obtain ⟨y0, y1, y2, y3⟩ := HBX.out w1 hb1; clear hb1))
      go_end0
      exact HQ2.out
  · have k1 : (k == 1) = false := beq_eq_false_iff_ne.2 h1
    rw [if_neg (by rw [k1]; decide)] at HDD
    by_cases h2 : k = 2
    · subst h2
      rw [if_pos b22] at HDD
      clear HM HW
      cases hk2 : (kindD D p == 2)
      · rw [hk2, if_neg (by decide)] at HDD
        rw [HDD.out]
        clear HDD HR h1
        generalize kindD D p = kk at *
        go_enter Tryz.func8, Tryz.ntmps8
        go_wp2_with (go_at_call 9; refine (HK.out _ HX.out).mono ?_; rintro e w1 ⟨rfl, hb1⟩; have HB1 : Hid (Below w.heap.size w w1) := HX.out.trans (hb1.mono HX.out.size); clear hb1)
        go_end0
        exact HS.out _ HB1.out
      · have hk0 : (kindD D p == 0) = false := by rw [beq_iff_eq.1 hk2]; rfl
        rw [hk2, if_pos rfl] at HDD
        have HR2 := hide3 (HR.out hk0)
        rw [hk2, Bool.true_and, ← HDD.out] at HR2
        clear HDD HR hk0 h1
        generalize kindD D p = kk at *
        go_enter Tryz.func8, Tryz.ntmps8
        go_wp2_with (first
          | (go_at_call 22; refine (HR2.out _ HB1.out).mono ?_; rintro e w2 ⟨c2, rfl, hq2⟩; have HQ2 := hide3 hq2; clear hq2)
          | (go_at_call 9; refine (HK.out _ HX.out).mono ?_; rintro e w1 ⟨rfl, hb1⟩; have HB1 : Hid (Below w.heap.size w w1) := HX.out.trans (hb1.mono HX.out.size); obtain ⟨y0, y1, y2, y3⟩ := HBX.out w1 hb1; clear hb1))
        go_end0
        exact HQ2.out
    · have k2 : (k == 2) = false := beq_eq_false_iff_ne.2 h2
      rw [if_neg (by rw [k2]; decide)] at HDD
      by_cases h3 : k = 3
      · subst h3
        rw [if_pos b33] at HDD
        clear HR HW
        cases hk0 : (kindD D p == 0)
        · rw [hk0, if_neg (by decide)] at HDD
          rw [HDD.out]
          clear HDD HM h1 h2
          generalize kindD D p = kk at *
          go_enter Tryz.func8, Tryz.ntmps8
          go_wp2_with (go_at_call 9; refine (HK.out _ HX.out).mono ?_; rintro e w1 ⟨rfl, hb1⟩; have HB1 : Hid (Below w.heap.size w w1) := HX.out.trans (hb1.mono HX.out.size); clear hb1)
          go_end0
          exact HS.out _ HB1.out
        · rw [hk0, if_pos rfl] at HDD
          have HR2 := hide3 (HM.out hk0)
          rw [← HDD.out] at HR2
          clear HDD HM h1 h2
          generalize kindD D p = kk at *
          go_enter Tryz.func8, Tryz.ntmps8
          go_wp2_with (first
            | (go_at_call 23; refine (HR2.out _ HB1.out).mono ?_; rintro e w2 ⟨c2, rfl, hq2⟩; have HQ2 := hide3 hq2; clear hq2)
            | (go_at_call 9; refine (HK.out _ HX.out).mono ?_; rintro e w1 ⟨rfl, hb1⟩; have HB1 : Hid (Below w.heap.size w w1) := HX.out.trans (hb1.mono HX.out.size); obtain ⟨y0, y1, y2, y3⟩ := HBX.out w1 hb1; clear hb1))
          go_end0
          exact HQ2.out
      · obtain rfl : k = 4 := by omega
        rw [if_neg b43] at HDD
        have HR2 := hide3 HW.out
        rw [← HDD.out] at HR2
        clear HDD HM HR HW h1 h2 h3
        go_enter Tryz.func8, Tryz.ntmps8
        go_wp2_with (go_at_call 24; refine (HR2.out _ HX.out).mono ?_; rintro e w2 ⟨c2, rfl, hq2⟩; have HQ2 := hide3 hq2; clear hq2)
        go_end0
        exact HQ2.out
theorem list_used {D : DataW Unit} (hP : Plain D) {p : ByteArray} (hok : okPath p = true) (hk : (kindD D p == 2) = true) : ((listT D p).length == 0) = !usedD D p := by
  have hk2 := beq_iff_eq.1 hk
  have hpb : pathB p = true := by unfold okPath at hok; rw [Bool.and_eq_true] at hok; exact hok.1
  have he : listE D p = 0 := by unfold listE; rw [if_pos hpb, hk2]; rfl
  have hl : (listT D p).length = (kidsD D p).length := by unfold listT; rw [he, if_pos (show ((0 : Int) == 0) = true from rfl)]; unfold namesD; rw [List.length_map]
  rw [hl]
  cases hu : usedD D p
  · have : kidsD D p = [] := by
      cases hq : kidsD D p with
      | nil => rfl
      | cons f r =>
        have hf : f ∈ kidsD D p := by rw [hq]; exact List.mem_cons_self
        obtain ⟨h1, h2⟩ := mem_kids.1 hf
        have := (used_iff hP.strKeys p).2 ⟨f.1, ((hP.good.mem f).1 h1).1, h2⟩
        rw [hu] at this
        cases this
    rw [this]
    rfl
  · obtain ⟨y, hy, e⟩ := (used_iff hP.strKeys p).1 hu
    obtain ⟨f, hf, rfl⟩ := (has_mem hP y).1 hy
    have : f ∈ kidsD D p := mem_kids.2 ⟨hf, e⟩
    have h0 := List.length_pos_of_mem this
    simp only [Bool.not_true, beq_eq_false_iff_ne]
    omega

set_option maxHeartbeats 4000000 in
theorem can17_any {B : Nat} {w : World} {d mb n : Nat} {rv : Value} {D : DataW Unit} {rs : List (Int × ByteArray × ByteArray)} {m : Int} (h : Fit B w d mb n rv ⟨D, rs, -1⟩ m) (hP : Plain D) (x : De) (hx : OkX x) :
    Calls Tryz.prog 7 #[.pointer (some ⟨d, 0, none⟩), .agg #[.int .i64 x.kd, .string x.pa, .string x.da]] w fun e w' => e = .returned (.bool (canD D x)) ∧ Below w.heap.size w w' := by
  obtain ⟨k, p, t⟩ := x
  obtain ⟨lo, hi, hp⟩ := hx
  simp only at lo hi hp ⊢
  have hps := okPath_size hp
  have HX : Hid (Below w.heap.size w (w.alloc (.cells #[.int .i64 k, .string p, .string t] 32))) := (Below.refl _ _).alloc (Nat.le_refl _) _
  have HBX : Hid (∀ W, Below (w.alloc (.cells #[.int .i64 k, .string p, .string t] 32)).heap.size (w.alloc (.cells #[.int .i64 k, .string p, .string t] 32)) W → BxDe W w.heap.size k p t) := fun W hb => keepBxDe _ _ _ _ _ _ (bxDe_new _ _ _ _) hb
  have HK : Hid (∀ W, Below w.heap.size w W → Calls Tryz.prog 9 #[.pointer (some ⟨d, 0, none⟩), .string p] W fun e w' => e = .returned (.int .i64 (kindD D p)) ∧ Below W.heap.size W w') := fun W hb => Kind_any (h.disk.below hb) p hps
  have HL : Hid (∀ W, Below w.heap.size w W → Calls Tryz.prog 21 #[.pointer (some ⟨d, 0, none⟩), .string p] W fun e w' => ∃ ao cap c, e = .returned (.tuple #[.slice ao (listT D p).length cap, .int .i64 c]) ∧ Below W.heap.size W w') := fun W hb => by
    refine (List_any (h.disk.below hb) p m ((hb.cell (p := ⟨0, 0, none⟩) (cell_lt h.max)).trans h.max) hps (Nat.le_of_lt h.room)).mono ?_
    rintro e w' ⟨ao, cap, rfl, _, hb2⟩
    exact ⟨ao, cap, _, rfl, hb2⟩
  have HLU := hide3 (list_used hP hp)
  have HDD : Hid (canD D ⟨k, p, t⟩ = (if (k == 1) = true then kindD D p == 1
  else if (k == 2) = true then (kindD D p == 2 && !usedD D p)
  else if (k == 3) = true then kindD D p == 0
  else kindD D p != 2)) := rfl
  generalize canD D ⟨k, p, t⟩ = E at *
  generalize (listT D p).length = ln at *
  generalize kindD D p = kk at *
  clear h hps hp hP
  by_cases h1 : k = 1
  · subst h1
    rw [if_pos b11] at HDD
    rw [HDD.out]
    clear HL HLU HDD
    go_enter Tryz.func7, Tryz.ntmps7
    go_wp2_with (go_at_call 9; refine (HK.out _ HX.out).mono ?_; rintro e w1 ⟨rfl, hb1⟩; have HB1 : Hid (Below w.heap.size w w1) := HX.out.trans (hb1.mono HX.out.size); obtain ⟨y0, y1, y2, y3⟩ := HBX.out w1 hb1; clear hb1)
    go_ret
    exact ⟨rfl, HB1.out⟩
  · have k1 : (k == 1) = false := beq_eq_false_iff_ne.2 h1
    rw [if_neg (by rw [k1]; decide)] at HDD
    by_cases h2 : k = 2
    · subst h2
      rw [if_pos b22] at HDD
      cases hk2 : (kk == 2)
      · rw [HDD.out, hk2, Bool.false_and]
        clear HDD HLU h1
        go_enter Tryz.func7, Tryz.ntmps7
        go_wp2_with (first
          | (go_at_call 21; refine (HL.out _ HB1.out).mono ?_; rintro e w2 ⟨a2, c2, z2, rfl, hb2⟩; have HB2 : Hid (Below w.heap.size w w2) := HB1.out.trans (hb2.mono HB1.out.size); clear hb2)
          | (go_at_call 9; refine (HK.out _ HX.out).mono ?_; rintro e w1 ⟨rfl, hb1⟩; have HB1 : Hid (Below w.heap.size w w1) := HX.out.trans (hb1.mono HX.out.size); obtain ⟨y0, y1, y2, y3⟩ := HBX.out w1 hb1; clear hb1))
        go_ret
        exact ⟨rfl, HB2.out⟩
      · rw [HDD.out, hk2, Bool.true_and, ← HLU.out hk2]
        have hcast : ((ln : Int) == 0) = (ln == 0) := by
          rw [Bool.eq_iff_iff, beq_iff_eq, beq_iff_eq]
          omega
        rw [← hcast]
        clear HDD HLU h1 hcast
        go_enter Tryz.func7, Tryz.ntmps7
        go_wp2_with (first
          | (go_at_call 21; refine (HL.out _ HB1.out).mono ?_; rintro e w2 ⟨a2, c2, z2, rfl, hb2⟩; have HB2 : Hid (Below w.heap.size w w2) := HB1.out.trans (hb2.mono HB1.out.size); clear hb2)
          | (go_at_call 9; refine (HK.out _ HX.out).mono ?_; rintro e w1 ⟨rfl, hb1⟩; have HB1 : Hid (Below w.heap.size w w1) := HX.out.trans (hb1.mono HX.out.size); obtain ⟨y0, y1, y2, y3⟩ := HBX.out w1 hb1; clear hb1))
        go_ret
        exact ⟨rfl, HB2.out⟩
    · have k2 : (k == 2) = false := beq_eq_false_iff_ne.2 h2
      rw [if_neg (by rw [k2]; decide)] at HDD
      by_cases h3 : k = 3
      · subst h3
        rw [if_pos b33] at HDD
        rw [HDD.out]
        clear HL HLU HDD h1 h2
        go_enter Tryz.func7, Tryz.ntmps7
        go_wp2_with (go_at_call 9; refine (HK.out _ HX.out).mono ?_; rintro e w1 ⟨rfl, hb1⟩; have HB1 : Hid (Below w.heap.size w w1) := HX.out.trans (hb1.mono HX.out.size); obtain ⟨y0, y1, y2, y3⟩ := HBX.out w1 hb1; clear hb1)
        go_ret
        exact ⟨rfl, HB1.out⟩
      · have k3 : (k == 3) = false := beq_eq_false_iff_ne.2 h3
        rw [if_neg (by rw [k3]; decide)] at HDD
        rw [HDD.out]
        clear HL HLU HDD h1 h2 h3
        go_enter Tryz.func7, Tryz.ntmps7
        go_wp2_with (go_at_call 9; refine (HK.out _ HX.out).mono ?_; rintro e w1 ⟨rfl, hb1⟩; have HB1 : Hid (Below w.heap.size w w1) := HX.out.trans (hb1.mono HX.out.size); obtain ⟨y0, y1, y2, y3⟩ := HBX.out w1 hb1; clear hb1)
        go_ret
        exact ⟨rfl, HB1.out⟩
end Go.Proofs.YtefcndfeemnglaaGreatDoor
