/- Jk2, Jk0, Pd1, Pd2, Pd3, Pe1, laid in one text. -/
import Derived.Test.YtpaoimhebheaeaaGreatDoorProg
import Derived.ScopeJumps
import Derived.WalkMore
import Derived.Test.YtpaoimhebheaeaaGreatDoorPlI
import Derived.Test.YtpaoimhebheaeaaGreatDoorMg17
namespace Go.Proofs.YtpaoimhebheaeaaGreatDoor
open Go.RowKit Go.Maps Go.WideMaps Go.WideElems Dk
set_option maxRecDepth 100000

set_option maxHeartbeats 8000000 in
theorem pdo_any {B : Nat} {w : World} {d mb n : Nat} {rv : Value} {x : Ab} {m : Int} {kk : Nat} (h : PrgK B w d mb n rv x m kk) (hkk : kk + 1 < 2199023255552) (dd : De) (hs : dd.pa.size ≤ maxLen) (hd : dd.da.size ≤ maxLen) :
    Calls Tryz.prog 66 #[.pointer (some ⟨d, 0, none⟩), .agg #[.int .i64 dd.kd, .string dd.pa, .string dd.da]] w fun e' w' => e' = .returned (.int .i64 (doA x dd).1) ∧ PrgT B w d mb rv (doA x dd).2 m (kk + 1) w' := by
  obtain ⟨k, p, t⟩ := dd
  simp only at hs hd ⊢
  have HX : Hid (Below w.heap.size w (w.alloc (.cells #[.int .i64 k, .string p, .string t] 54))) := (Below.refl _ _).alloc (Nat.le_refl _) _
  have HBX : Hid (∀ W, Below (w.alloc (.cells #[.int .i64 k, .string p, .string t] 54)).heap.size (w.alloc (.cells #[.int .i64 k, .string p, .string t] 54)) W → BxDe W w.heap.size k p t) := fun W hb => keepBxDe _ _ _ _ _ _ (bxDe_new _ _ _ _) hb
  have HK : Hid (∀ W, Below w.heap.size w W → Calls Tryz.prog 22 #[.pointer (some ⟨d, 0, none⟩), .string p] W fun e' w' => e' = .returned (.int .i64 (kindD x.D p)) ∧ Below W.heap.size W w') := fun W hb => pKind (h.below hb) p hs
  have HRD : Hid (∀ W, Below w.heap.size w W → Calls Tryz.prog 27 #[.pointer (some ⟨d, 0, none⟩), .string p] W fun e' w' => e' = .returned (.tuple #[.string (readT x.D p), .int .i64 (readE x.D p)]) ∧ Below W.heap.size W w') := fun W hb => Read_any (h.below hb).disk p m (h.below hb).max hs
  have HR : Hid (∀ W, Below w.heap.size w W → Calls Tryz.prog 71 #[.pointer (some ⟨d, 0, none⟩), .string p] W fun e' w' => e' = .returned (.int .i64 (removeD x p).1) ∧ PrgT B w d mb rv (removeD x p).2 m (kk + 1) w') := fun W hb => (pRem (h.below hb) hkk p).mono fun _ _ q => ⟨q.1, q.2.pre hb⟩
  have HM : Hid (∀ W, Below w.heap.size w W → Calls Tryz.prog 68 #[.pointer (some ⟨d, 0, none⟩), .string p] W fun e' w' => e' = .returned (.int .i64 (mkdirD x p).1) ∧ PrgT B w d mb rv (mkdirD x p).2 m (kk + 1) w') := fun W hb => (pMk (h.below hb) hkk p).mono fun _ _ q => ⟨q.1, q.2.pre hb⟩
  have HW : Hid (∀ W, Below w.heap.size w W → Calls Tryz.prog 69 #[.pointer (some ⟨d, 0, none⟩), .string p, .string t] W fun e' w' => e' = .returned (.int .i64 (writeFD x p t).1) ∧ PrgT B w d mb rv (writeFD x p t).2 m (kk + 1) w') := fun W hb => (pWt (h.below hb) hkk p t hd).mono fun _ _ q => ⟨q.1, q.2.pre hb⟩
  have HS : Hid (∀ W, Below w.heap.size w W → PrgT B w d mb rv x m (kk + 1) W) := fun W hb => (h.away hb).more (Nat.le_succ _)
  have HDD : Hid (doA x ⟨k, p, t⟩ = (if (k == 1 && kindD x.D p == 1) = true then removeD x p
  else if (k == 2 && kindD x.D p == 2) = true then removeD x p
  else if (k == 3 && kindD x.D p == 0) = true then mkdirD x p
  else if (k == 4) = true then (if (readE x.D p != 0 || (readT x.D p).toList != t.toList) = true then writeFD x p t else (0, x))
  else (0, x))) := rfl
  generalize doA x ⟨k, p, t⟩ = E at *
  clear h hs hd
  generalize kindD x.D p = kp at *
  generalize readE x.D p = re at *
  generalize readT x.D p = rt at *
  by_cases h1 : k = 1
  · subst h1
    rw [show ((1 : Int) == 1 && kp == 1) = (kp == 1) from rfl, show ((1 : Int) == 2 && kp == 2) = false from rfl, show ((1 : Int) == 3 && kp == 0) = false from rfl, show ((1 : Int) == 4) = false from rfl, if_neg (show ¬ false = true by decide), if_neg (show ¬ false = true by decide), if_neg (show ¬ false = true by decide)] at HDD
    skip
    cases hk : (kp == 1)
    · rw [hk, if_neg (by decide)] at HDD
      rw [HDD.out]
      clear HDD HR HM HW HRD
      go_enter Tryz.func66, Tryz.ntmps66
      go_wp2_with (go_at_call 22; refine (HK.out _ HX.out).mono ?_; rintro e1 w1 ⟨rfl, hb1⟩; have HB1 : Hid (Below w.heap.size w w1) := HX.out.trans (hb1.mono HX.out.size); obtain ⟨y0, y1, y2, y3⟩ := HBX.out w1 hb1; have HA1 := hide3 hb1; clear hb1)
      go_ret
      exact ⟨rfl, HS.out _ HB1.out⟩
    · rw [hk, if_pos rfl] at HDD
      rw [HDD.out]
      clear HDD HRD
      go_enter Tryz.func66, Tryz.ntmps66
      go_wp2_with (first
        | (go_at_call 71; refine (HR.out _ HB1.out).mono ?_; rintro e2 w2 ⟨rfl, hq2⟩; have HQ2 := hide3 hq2; clear hq2)
        | (go_at_call 22; refine (HK.out _ HX.out).mono ?_; rintro e1 w1 ⟨rfl, hb1⟩; have HB1 : Hid (Below w.heap.size w w1) := HX.out.trans (hb1.mono HX.out.size); obtain ⟨y0, y1, y2, y3⟩ := HBX.out w1 hb1; have HA1 := hide3 hb1; clear hb1))
      go_ret
      exact ⟨rfl, HQ2.out⟩
  · have k1 : (k == 1) = false := beq_eq_false_iff_ne.2 h1
    rw [k1, Bool.false_and, if_neg (show ¬ false = true by decide)] at HDD
    by_cases h2 : k = 2
    · subst h2
      rw [show ((2 : Int) == 2 && kp == 2) = (kp == 2) from rfl, show ((2 : Int) == 3 && kp == 0) = false from rfl, show ((2 : Int) == 4) = false from rfl, if_neg (show ¬ false = true by decide), if_neg (show ¬ false = true by decide)] at HDD
      clear h1
      cases hk : (kp == 2)
      · rw [hk, if_neg (by decide)] at HDD
        rw [HDD.out]
        clear HDD HR HM HW HRD
        go_enter Tryz.func66, Tryz.ntmps66
        go_wp2_with (go_at_call 22; refine (HK.out _ HX.out).mono ?_; rintro e1 w1 ⟨rfl, hb1⟩; have HB1 : Hid (Below w.heap.size w w1) := HX.out.trans (hb1.mono HX.out.size); obtain ⟨y0, y1, y2, y3⟩ := HBX.out w1 hb1; have HA1 := hide3 hb1; clear hb1)
        go_ret
        exact ⟨rfl, HS.out _ HB1.out⟩
      · rw [hk, if_pos rfl] at HDD
        rw [HDD.out]
        clear HDD HRD
        go_enter Tryz.func66, Tryz.ntmps66
        go_wp2_with (first
          | (go_at_call 71; refine (HR.out _ HB1.out).mono ?_; rintro e2 w2 ⟨rfl, hq2⟩; have HQ2 := hide3 hq2; clear hq2)
          | (go_at_call 22; refine (HK.out _ HX.out).mono ?_; rintro e1 w1 ⟨rfl, hb1⟩; have HB1 : Hid (Below w.heap.size w w1) := HX.out.trans (hb1.mono HX.out.size); obtain ⟨y0, y1, y2, y3⟩ := HBX.out w1 hb1; have HA1 := hide3 hb1; clear hb1))
        go_ret
        exact ⟨rfl, HQ2.out⟩
    · have k2 : (k == 2) = false := beq_eq_false_iff_ne.2 h2
      rw [k2, Bool.false_and, if_neg (show ¬ false = true by decide)] at HDD
      by_cases h3 : k = 3
      · subst h3
        rw [show ((3 : Int) == 3 && kp == 0) = (kp == 0) from rfl, show ((3 : Int) == 4) = false from rfl, if_neg (show ¬ false = true by decide)] at HDD
        clear h1 h2
        cases hk : (kp == 0)
        · rw [hk, if_neg (by decide)] at HDD
          rw [HDD.out]
          clear HDD HR HM HW HRD
          go_enter Tryz.func66, Tryz.ntmps66
          go_wp2_with (go_at_call 22; refine (HK.out _ HX.out).mono ?_; rintro e1 w1 ⟨rfl, hb1⟩; have HB1 : Hid (Below w.heap.size w w1) := HX.out.trans (hb1.mono HX.out.size); obtain ⟨y0, y1, y2, y3⟩ := HBX.out w1 hb1; have HA1 := hide3 hb1; clear hb1)
          go_ret
          exact ⟨rfl, HS.out _ HB1.out⟩
        · rw [hk, if_pos rfl] at HDD
          rw [HDD.out]
          clear HDD HRD
          go_enter Tryz.func66, Tryz.ntmps66
          go_wp2_with (first
            | (go_at_call 68; refine (HM.out _ HB1.out).mono ?_; rintro e2 w2 ⟨rfl, hq2⟩; have HQ2 := hide3 hq2; clear hq2)
            | (go_at_call 22; refine (HK.out _ HX.out).mono ?_; rintro e1 w1 ⟨rfl, hb1⟩; have HB1 : Hid (Below w.heap.size w w1) := HX.out.trans (hb1.mono HX.out.size); obtain ⟨y0, y1, y2, y3⟩ := HBX.out w1 hb1; have HA1 := hide3 hb1; clear hb1))
          go_ret
          exact ⟨rfl, HQ2.out⟩
      · have k3 : (k == 3) = false := beq_eq_false_iff_ne.2 h3
        rw [k3, Bool.false_and, if_neg (show ¬ false = true by decide)] at HDD
        by_cases h4 : k = 4
        · subst h4
          rw [if_pos (show ((4 : Int) == 4) = true from rfl)] at HDD
          clear h1 h2 h3 HR HM
          cases hre : (re != 0)
          · cases hrq : (rt.toList == t.toList)
            rotate_left
            · have hrt : (rt.toList != t.toList) = false := by unfold bne; rw [hrq]; rfl
              rw [hre, hrt, Bool.or_false, if_neg (by decide)] at HDD
              rw [HDD.out]
              clear HDD HW
              go_enter Tryz.func66, Tryz.ntmps66
              go_wp2_with (first
                | (go_at_call 27; refine (HRD.out _ HB1.out).mono ?_; rintro e2 w2 ⟨rfl, hb2⟩; have HB2 : Hid (Below w.heap.size w w2) := HB1.out.trans (hb2.mono HB1.out.size); obtain ⟨z0, z1, z2, z3⟩ := HBX.out w2 (HA1.out.trans (hb2.mono HA1.out.size)); clear hb2)
                | (go_at_call 22; refine (HK.out _ HX.out).mono ?_; rintro e1 w1 ⟨rfl, hb1⟩; have HB1 : Hid (Below w.heap.size w w1) := HX.out.trans (hb1.mono HX.out.size); obtain ⟨y0, y1, y2, y3⟩ := HBX.out w1 hb1; have HA1 := hide3 hb1; clear hb1))
              go_ret
              exact ⟨rfl, HS.out _ HB2.out⟩
            · have hrt : (rt.toList != t.toList) = true := by unfold bne; rw [hrq]; rfl
              rw [hre, hrt, Bool.or_true, if_pos rfl] at HDD
              rw [HDD.out]
              clear HDD
              go_enter Tryz.func66, Tryz.ntmps66
              go_wp2_with (first
                | (go_at_call 69; refine (HW.out _ HB2.out).mono ?_; rintro e3 w3 ⟨rfl, hq3⟩; have HQ3 := hide3 hq3; clear hq3)
                | (go_at_call 27; refine (HRD.out _ HB1.out).mono ?_; rintro e2 w2 ⟨rfl, hb2⟩; have HB2 : Hid (Below w.heap.size w w2) := HB1.out.trans (hb2.mono HB1.out.size); obtain ⟨z0, z1, z2, z3⟩ := HBX.out w2 (HA1.out.trans (hb2.mono HA1.out.size)); clear hb2)
                | (go_at_call 22; refine (HK.out _ HX.out).mono ?_; rintro e1 w1 ⟨rfl, hb1⟩; have HB1 : Hid (Below w.heap.size w w1) := HX.out.trans (hb1.mono HX.out.size); obtain ⟨y0, y1, y2, y3⟩ := HBX.out w1 hb1; have HA1 := hide3 hb1; clear hb1))
              go_ret
              exact ⟨rfl, HQ3.out⟩
          · rw [hre, Bool.true_or, if_pos rfl] at HDD
            rw [HDD.out]
            clear HDD
            go_enter Tryz.func66, Tryz.ntmps66
            go_wp2_with (first
              | (go_at_call 69; refine (HW.out _ HB2.out).mono ?_; rintro e3 w3 ⟨rfl, hq3⟩; have HQ3 := hide3 hq3; clear hq3)
              | (go_at_call 27; refine (HRD.out _ HB1.out).mono ?_; rintro e2 w2 ⟨rfl, hb2⟩; have HB2 : Hid (Below w.heap.size w w2) := HB1.out.trans (hb2.mono HB1.out.size); obtain ⟨z0, z1, z2, z3⟩ := HBX.out w2 (HA1.out.trans (hb2.mono HA1.out.size)); clear hb2)
              | (go_at_call 22; refine (HK.out _ HX.out).mono ?_; rintro e1 w1 ⟨rfl, hb1⟩; have HB1 : Hid (Below w.heap.size w w1) := HX.out.trans (hb1.mono HX.out.size); obtain ⟨y0, y1, y2, y3⟩ := HBX.out w1 hb1; have HA1 := hide3 hb1; clear hb1))
            go_ret
            exact ⟨rfl, HQ3.out⟩
        · have k4 : (k == 4) = false := beq_eq_false_iff_ne.2 h4
          rw [k4, if_neg (show ¬ false = true by decide)] at HDD
          clear h1 h2 h3 h4
          rw [HDD.out]
          clear HDD HR HM HW HRD
          go_enter Tryz.func66, Tryz.ntmps66
          go_wp2_with (go_at_call 22; refine (HK.out _ HX.out).mono ?_; rintro e1 w1 ⟨rfl, hb1⟩; have HB1 : Hid (Below w.heap.size w w1) := HX.out.trans (hb1.mono HX.out.size); obtain ⟨y0, y1, y2, y3⟩ := HBX.out w1 hb1; have HA1 := hide3 hb1; clear hb1)
          go_ret
          exact ⟨rfl, HS.out _ HB1.out⟩
/-- Does the program find what a deed must find? -/
def findsP (D : DataW Unit) (d : De) : Bool :=
  if (d.kd == 1) = true then kindD D d.pa == 1
  else if (d.kd == 2) = true then kindD D d.pa == 2
  else if (d.kd == 3) = true then kindD D d.pa == 0
  else kindD D d.pa != 2

set_option maxHeartbeats 4000000 in
theorem pfinds_any {B : Nat} {w : World} {d mb n : Nat} {rv : Value} {x : Ab} {m : Int} {kk : Nat} (h : PrgK B w d mb n rv x m kk) (dd : De) (hs : dd.pa.size ≤ maxLen) :
    Calls Tryz.prog 65 #[.pointer (some ⟨d, 0, none⟩), .agg #[.int .i64 dd.kd, .string dd.pa, .string dd.da]] w fun e' w' => e' = .returned (.bool (findsP x.D dd)) ∧ Below w.heap.size w w' := by
  obtain ⟨k, p, t⟩ := dd
  simp only at hs ⊢
  have HX : Hid (Below w.heap.size w (w.alloc (.cells #[.int .i64 k, .string p, .string t] 54))) := (Below.refl _ _).alloc (Nat.le_refl _) _
  have HBX : Hid (∀ W, Below (w.alloc (.cells #[.int .i64 k, .string p, .string t] 54)).heap.size (w.alloc (.cells #[.int .i64 k, .string p, .string t] 54)) W → BxDe W w.heap.size k p t) := fun W hb => keepBxDe _ _ _ _ _ _ (bxDe_new _ _ _ _) hb
  have HK : Hid (∀ W, Below w.heap.size w W → Calls Tryz.prog 22 #[.pointer (some ⟨d, 0, none⟩), .string p] W fun e' w' => e' = .returned (.int .i64 (kindD x.D p)) ∧ Below W.heap.size W w') := fun W hb => pKind (h.below hb) p hs
  have HDD : Hid (findsP x.D ⟨k, p, t⟩ = (if (k == 1) = true then kindD x.D p == 1
  else if (k == 2) = true then kindD x.D p == 2
  else if (k == 3) = true then kindD x.D p == 0
  else kindD x.D p != 2)) := rfl
  generalize findsP x.D ⟨k, p, t⟩ = E at *
  clear h hs
  generalize kindD x.D p = kp at *
  by_cases h1 : k = 1
  · subst h1
    rw [if_pos b11] at HDD
    rw [HDD.out]
    clear HDD
    go_enter Tryz.func65, Tryz.ntmps65
    go_wp2_with (go_at_call 22; refine (HK.out _ HX.out).mono ?_; rintro e1 w1 ⟨rfl, hb1⟩; have HB1 : Hid (Below w.heap.size w w1) := HX.out.trans (hb1.mono HX.out.size); obtain ⟨y0, y1, y2, y3⟩ := HBX.out w1 hb1; have HA1 := hide3 hb1; clear hb1)
    go_ret
    exact ⟨rfl, HB1.out⟩
  · have k1 : (k == 1) = false := beq_eq_false_iff_ne.2 h1
    rw [if_neg (by rw [k1]; decide)] at HDD
    by_cases h2 : k = 2
    · subst h2
      rw [if_pos b22] at HDD
      rw [HDD.out]
      clear HDD h1
      go_enter Tryz.func65, Tryz.ntmps65
      go_wp2_with (go_at_call 22; refine (HK.out _ HX.out).mono ?_; rintro e1 w1 ⟨rfl, hb1⟩; have HB1 : Hid (Below w.heap.size w w1) := HX.out.trans (hb1.mono HX.out.size); obtain ⟨y0, y1, y2, y3⟩ := HBX.out w1 hb1; have HA1 := hide3 hb1; clear hb1)
      go_ret
      exact ⟨rfl, HB1.out⟩
    · have k2 : (k == 2) = false := beq_eq_false_iff_ne.2 h2
      rw [if_neg (by rw [k2]; decide)] at HDD
      by_cases h3 : k = 3
      · subst h3
        rw [if_pos b33] at HDD
        rw [HDD.out]
        clear HDD h1 h2
        go_enter Tryz.func65, Tryz.ntmps65
        go_wp2_with (go_at_call 22; refine (HK.out _ HX.out).mono ?_; rintro e1 w1 ⟨rfl, hb1⟩; have HB1 : Hid (Below w.heap.size w w1) := HX.out.trans (hb1.mono HX.out.size); obtain ⟨y0, y1, y2, y3⟩ := HBX.out w1 hb1; have HA1 := hide3 hb1; clear hb1)
        go_ret
        exact ⟨rfl, HB1.out⟩
      · have k3 : (k == 3) = false := beq_eq_false_iff_ne.2 h3
        rw [if_neg (by rw [k3]; decide)] at HDD
        rw [HDD.out]
        clear HDD h1 h2 h3
        go_enter Tryz.func65, Tryz.ntmps65
        go_wp2_with (go_at_call 22; refine (HK.out _ HX.out).mono ?_; rintro e1 w1 ⟨rfl, hb1⟩; have HB1 : Hid (Below w.heap.size w w1) := HX.out.trans (hb1.mono HX.out.size); obtain ⟨y0, y1, y2, y3⟩ := HBX.out w1 hb1; have HA1 := hide3 hb1; clear hb1)
        go_ret
        exact ⟨rfl, HB1.out⟩
end Go.Proofs.YtpaoimhebheaeaaGreatDoor
namespace Go.Proofs.YtpaoimhebheaeaaGreatDoor
set_option maxRecDepth 100000

/-- As Q; by a goto to label l: what is behind the label. -/
def jumpF (P : Program) (l : Nat) (rest : Code) (Q : Exit → Act → World → Prop) : Exit → Act → World → Prop
  | .goto l', a, w => l' = l ∧ rest.wp P (Exit.jump l (fun _ _ => False) Q) a w
  | e, a, w => Q e a w
theorem wp_scope_fwd {P : Program} {a : Act} {w : World} {Q : Exit → Act → World → Prop} {c rest : Code} (l : Nat) (hf : findLabel c l = some rest) (first : c.wp P (jumpF P l rest Q) a w) : (Code.scope c).wp P Q a w := by
  refine wp_scope_jumps l (fun a w => rest.wp P (Exit.jump l (fun _ _ => False) Q) a w) (fun _ _ => 0) hf ?_ fun a w h b k cs => ?_
  · intro b k cs
    obtain ⟨e, a', w', hq, harr⟩ := first b k cs
    refine ⟨e, a', w', ?_, harr⟩
    cases e <;> exact hq
  · obtain ⟨e, a', w', hq, harr⟩ := h b k cs
    refine ⟨e, a', w', ?_, harr⟩
    cases e with
    | goto l' => exact hq.2.elim
    | _ => exact hq
theorem jumpF_ret {P : Program} {l : Nat} {rest : Code} {Q : Exit → Act → World → Prop} {a : Act} {w : World} : jumpF P l rest Q .ret a w = Q .ret a w := rfl
theorem jumpF_normal {P : Program} {l : Nat} {rest : Code} {Q : Exit → Act → World → Prop} {a : Act} {w : World} : jumpF P l rest Q .normal a w = Q .normal a w := rfl
theorem jumpF_goto {P : Program} {l : Nat} {rest : Code} {Q : Exit → Act → World → Prop} {a : Act} {w : World} : jumpF P l rest Q (.goto l) a w = rest.wp P (Exit.jump l (fun _ _ => False) Q) a w := by
  show (l = l ∧ _) = _
  simp
theorem jump_ret {l : Nat} {J : Act → World → Prop} {Q : Exit → Act → World → Prop} {a : Act} {w : World} : Exit.jump l J Q .ret a w = Q .ret a w := rfl
theorem jump_normal {l : Nat} {J : Act → World → Prop} {Q : Exit → Act → World → Prop} {a : Act} {w : World} : Exit.jump l J Q .normal a w = Q .normal a w := rfl
end Go.Proofs.YtpaoimhebheaeaaGreatDoor
namespace Go.Proofs.YtpaoimhebheaeaaGreatDoor
open Go.RowKit Go.Maps Go.WideMaps Go.WideElems Dk
set_option maxRecDepth 100000

/-- The program's word of a kind. -/
def wordO (k : Int) : ByteArray := if (k == 1) = true then ⟨#[117, 110, 108, 105, 110, 107]⟩ else if (k == 2) = true then ⟨#[114, 109, 100, 105, 114]⟩ else if (k == 3) = true then ⟨#[109, 107, 100, 105, 114]⟩ else if (k == 4) = true then ⟨#[112, 117, 116]⟩ else ⟨#[]⟩
theorem wordO_is {k : Int} (h1 : 1 ≤ k) (h4 : k ≤ 4) : wordO k = wordP k := by
  obtain rfl | rfl | rfl | rfl : k = 1 ∨ k = 2 ∨ k = 3 ∨ k = 4 := by omega
  all_goals rfl
theorem wordOf_any (k : Int) (w : World) : Calls Tryz.prog 136 #[.int .i64 k] w fun e w' => e = .returned (.string (wordO k)) ∧ w' = w := by
  unfold wordO
  cases h1 : (k == 1)
  · cases h2 : (k == 2)
    · cases h3 : (k == 3)
      · cases h4 : (k == 4)
        all_goals
          go_enter Tryz.func136, Tryz.ntmps136
          go_wp2
          go_ret
          exact ⟨rfl, rfl⟩
      · go_enter Tryz.func136, Tryz.ntmps136
        go_wp2
        go_ret
        exact ⟨rfl, rfl⟩
    · go_enter Tryz.func136, Tryz.ntmps136
      go_wp2
      go_ret
      exact ⟨rfl, rfl⟩
  · go_enter Tryz.func136, Tryz.ntmps136
    go_wp2
    go_ret
    exact ⟨rfl, rfl⟩

theorem shr_all : ∀ n, n < 256 → (n >>> 4 = n / 16 ∧ n &&& 15 = n % 16) := by decide +kernel
set_option maxHeartbeats 4000000 in
theorem digitsOf_any (s : ByteArray) (w : World) (hs : s.size ≤ 100000000) : Calls Tryz.prog 137 #[.string s] w fun e w' => e = .returned (.string (hexT s)) ∧ Below w.heap.size w w' := by
  cases he : (s.toList == [])
  · have HT : Hid (hexT s = Sc.ba (hexL s.data.toList)) := by unfold Hid hexT; rw [he]; rfl
    have hds : 16 ≤ hexD.size := by decide
    obtain ⟨D, hD⟩ : ∃ D, D = hexD := ⟨_, rfl⟩
    have HN := hide3 (Sc.Bld.new w)
    have HE0 : Hid (Below w.heap.size w (w.alloc (.cells #[.pointer none, .slice none 0 0] 153))) := (Below.refl _ _).alloc (Nat.le_refl _) _
    go_enter Tryz.func137, Tryz.ntmps137
    go_wp2_with fail
    rw [show (⟨#[48, 49, 50, 51, 52, 53, 54, 55, 56, 57, 97, 98, 99, 100, 101, 102]⟩ : ByteArray) = D from hD.symm]
    have HDG2 : Hid (∀ n (h : n < D.size), n < 16 → hexN n = D[n]) := fun n h h16 => by subst hD; exact hexN_at h16
    have hDs : 16 ≤ D.size := by rw [hD]; exact hds
    clear hD hds
    go_loopw [9] (fun v9 wr => ∃ k : Nat, k ≤ s.size ∧ v9 = .int .i64 k ∧ Sc.Bld w.heap.size w.heap.size (hexL (s.data.toList.take k)) wr ∧ Below w.heap.size w wr) (fun v9 _ => s.size - (intOf v9).toNat)
    case atStart => exact ⟨0, Nat.zero_le _, rfl, HN.out, HE0.out⟩
    case round =>
      obtain ⟨k, hk, rfl, ho, hb⟩ := hrel
      have HO := hide3 ho
      have HB := hide3 hb
      have hLn : (hexL (s.data.toList.take k)).length ≤ 200000000 := by rw [hexL_len, List.length_take]; omega
      clear ho hb HN HE0
      by_cases hlt : k < s.size
      · have HTK : Hid (hexL (s.data.toList.take (k + 1)) = hexL (s.data.toList.take k) ++ [hexN (s[k].toNat / 16), hexN (s[k].toNat % 16)]) := by
          unfold Hid
          rw [List.take_succ_eq_append_getElem (by rw [size_list]; exact hlt), hexL_snoc]
          rfl
        have hx : s[k].toNat < 256 := s[k].toNat_lt
        have b1 : s[k].toNat / 16 < D.size := by omega
        have b2 : s[k].toNat % 16 < D.size := by omega
        rw [HDG2.out _ b1 (by omega), HDG2.out _ b2 (by omega)] at HTK
        have hki : (k : Int) < (s.size : Int) := by omega
        generalize hexL (s.data.toList.take k) = old at *
        go_wp2_with (first
          | (have _t := HO1; go_at_call 141; refine (Sc.putByte _ HO1.out (by rw [List.length_append]; simp; omega) HB1.out.size).mono ?_; rintro e w2 ⟨rfl, ho2, hb2⟩; have HO2 := hide3 ho2; have HB2 := hide3 (HB1.out.trans hb2); clear ho2 hb2)
          | (go_at_call 141; refine (Sc.putByte _ HO.out (by omega) HB.out.size).mono ?_; rintro e w1 ⟨rfl, ho1, hb1⟩; have HO1 := hide3 ho1; have HB1 := hide3 (HB.out.trans hb1); clear ho1 hb1))
        refine ⟨⟨k + 1, by omega, by go_num, ?_, HB2.out⟩, by simp [intOf]; omega⟩
        rw [HTK.out]
        have := HO2.out
        rw [List.append_assoc] at this
        exact this
      · obtain rfl : k = s.size := by omega
        have hfull : s.data.toList.take s.size = s.data.toList := List.take_of_length_le (by rw [size_list]; exact Nat.le_refl _)
        rw [hfull] at HO
        have HS := hide3 (Tryz.Builder_String_any w.heap.size w.heap.size _ wr HO.out HB.out.size)
        rw [show (⟨(hexL s.data.toList).toArray⟩ : ByteArray) = hexT s from HT.out.symm] at HS
        go_wp2_with (go_at_call 142; refine HS.out.mono ?_; rintro e w1 ⟨rfl, hb1⟩; have HB1 := hide3 (HB.out.trans hb1); clear hb1)
        go_ret
        exact ⟨rfl, HB1.out⟩
  · have HT : Hid (hexT s = ⟨#[45]⟩) := by unfold Hid hexT; rw [he]; rfl
    rw [HT.out]
    go_enter Tryz.func137, Tryz.ntmps137
    go_wp2
    go_ret
    exact ⟨rfl, Below.refl _ _⟩
end Go.Proofs.YtpaoimhebheaeaaGreatDoor
namespace Go.Proofs.YtpaoimhebheaeaaGreatDoor
open Go.RowKit Go.Maps Go.WideMaps Go.WideElems Dk
set_option maxRecDepth 100000

theorem ownW_new {w : World} {B : Nat} (ws : List Sc.Bs) (cs : Array Value) (hcs : cs.toList = Sc.strs ws) (hB : B ≤ w.heap.size) (h0 : ws.length ≤ maxLen) : Sc.OwnW (w.alloc (.cells cs 9)) B (.slice (some ⟨w.heap.size, 0, none⟩) ws.length ws.length) ws := by
  have hblk : (w.alloc (.cells cs 9)).heap[w.heap.size]? = some (.cells cs 9 (0, 0)) := by
    show (w.heap.push _)[w.heap.size]? = _
    rw [Array.getElem?_push, if_pos rfl]
  have hcl : cs.size = ws.length := by
    have := congrArg List.length hcs
    rw [Sc.strs_length] at this
    simpa using this
  refine ⟨by rw [Sc.strs_length]; simp, Or.inr ⟨w.heap.size, ws.length, cs, rfl, hB, hblk, Nat.le_refl _, ?_⟩⟩
  exact ⟨h0, by rw [hcl]; simp, by rw [hcs, List.take_of_length_le (by rw [Sc.strs_length]; omega)]⟩

/-- A word more. -/
theorem wp_word {B : Nat} {wx : World} {v : Value} {ws : List Sc.Bs} {ops : Array Oper} {rest : List Oper} {o : Oper} {f : Act} {Q : Exit → Act → World → Prop}
    (hgd : o.guard = none) (s t : Operand) (ho : o.op = .call { callee := .builtin .append, args := #[s, t], argTypes := #[71, 71] }) (hs : f.eval s = v)
    (hown : Sc.OwnW wx B v ws) (hB : B ≤ wx.heap.size) (x : ByteArray) {M : Nat} (hM : wx.heap.size = M) (hx : f.eval t = .slice (some ⟨M, 0, none⟩) 1 1) (hlen : ws.length ≤ 1000000000)
    (h : ∀ v1 w1, Sc.OwnW w1 B v1 (ws ++ [x.data.toList]) → wx.grownBy w1 v.ownBlock → wpList Tryz.prog ops Q rest (f.put o.dst v1) w1) :
    wpList Tryz.prog ops Q (o :: rest) f (wx.alloc (.cells #[.string x] 9)) := by
  subst hM
  obtain ⟨i0, hi, hz0, hz1, hz2⟩ := info_parts Sc.infoStr
  refine wpList_append_own _ hgd s t 71 ho B 9 i0 _ 1 16 Tryz.underlying71 hi hz0 hz1 hz2 rfl (by decide) v ws.length _ hs (World.ownsRow.alloc hown _) ⟨wx.heap.size, 0, none⟩ 1 1 [.string x] hx rfl (World.news_of_block (cs := #[.string x]) (t := 9) (fr := (0, 0)) (by show (wx.heap.push _)[wx.heap.size]? = _; rw [Array.getElem?_push, if_pos rfl])) (by simp [Value.oneCell']) (by unfold maxLen; omega) (by omega) (by simp; omega) ?_
  intro v1 w1 h1 h2 _
  refine h v1 w1 ?_ (grown_pre ((Below.refl _ _).alloc (Nat.le_refl _) _) h2)
  unfold Sc.OwnW
  rw [List.length_append, Sc.strs_snoc, Sc.ba_of]
  exact h1
/-- A line more. -/
theorem wp_line {w0 wx : World} {vl vw : Value} {ps : List (Value × List Sc.Bs)} {ws : List Sc.Bs} {ops : Array Oper} {rest : List Oper} {o : Oper} {f : Act} {Q : Exit → Act → World → Prop}
    (hgd : o.guard = none) (s t : Operand) (ho : o.op = .call { callee := .builtin .append, args := #[s, t], argTypes := #[101, 101] }) (hs : f.eval s = vl)
    (hst : Sc.St w0 vl vw ps ws wx) (hne : ws ≠ []) {M : Nat} (hM : wx.heap.size = M) (hx : f.eval t = .slice (some ⟨M, 0, none⟩) 1 1) (hlen : ps.length ≤ 1000000000)
    (h : ∀ v1 w1, Sc.St w0 v1 (.slice none 0 0) (ps ++ [(vw, ws)]) [] w1 → wpList Tryz.prog ops Q rest (f.put o.dst v1) w1) :
    wpList Tryz.prog ops Q (o :: rest) f (wx.alloc (.cells #[vw] 71)) := by
  subst hM
  obtain ⟨i0, hi, hz0, hz1, hz2⟩ := info_parts Sc.infoStrs
  have hst2 := hst.below (Sc.boxB wx (.cells #[vw] 71))
  have hsz := hst2.2.2.2.2.size
  obtain ⟨gv, hgv⟩ := hst.2.1.block hne
  have h1c : vw.oneCell' = true := by
    rcases hst.2.1.2 with ⟨e, _⟩ | ⟨g, cap, cur, e, _⟩ <;> (rw [e]; rfl)
  refine wpList_append_own_at _ hgd s t 101 ho w0.heap.size 71 i0 _ 1 24 Tryz.underlying101 hi hz0 hz1 hz2 rfl (by decide) vl ps.length _ hs hst2.1.1 ⟨wx.heap.size, 0, none⟩ 1 1 [vw] hx rfl (World.news_of_block (cs := #[vw]) (t := 71) (fr := (0, 0)) (by show (wx.heap.push _)[wx.heap.size]? = _; rw [Array.getElem?_push, if_pos rfl])) (by simpa using h1c) (by unfold maxLen; omega) (by omega) hsz ?_
  intro v1 w1 h1 h2 _ h4
  exact h v1 w1 (hst2.line hne h1 h2 h4)

set_option maxHeartbeats 4000000 in
theorem lineOf_any (d : De) (h1 : 1 ≤ d.kd) (h4 : d.kd ≤ 4) (hz : d.da.size ≤ 100000000) (w : World) :
    Calls Tryz.prog 102 #[.agg #[.int .i64 d.kd, .string d.pa, .string d.da]] w fun e w' => ∃ v, e = .returned v ∧ Sc.OwnW w' w.heap.size v (lineW d) ∧ Below w.heap.size w w' := by
  obtain ⟨k, p, t⟩ := d
  simp only at *
  have HW : Hid (∀ w1, Calls Tryz.prog 136 #[.int .i64 k] w1 fun e w' => e = .returned (.string (wordP k)) ∧ w' = w1) := fun w1 => by
    have := wordOf_any k w1
    rw [wordO_is h1 h4] at this
    exact this
  have HD : Hid (∀ w1, Calls Tryz.prog 137 #[.string t] w1 fun e w' => e = .returned (.string (hexT t)) ∧ Below w1.heap.size w1 w') := fun w1 => digitsOf_any t w1 hz
  have HL : Hid ((k = 4 → lineW ⟨k, p, t⟩ = [(wordP k).data.toList, p.data.toList, (hexT t).data.toList]) ∧ (k ≠ 4 → lineW ⟨k, p, t⟩ = [(wordP k).data.toList, p.data.toList])) := ⟨fun h => by unfold lineW; simp [h], fun h => by unfold lineW; simp [h]⟩
  generalize lineW ⟨k, p, t⟩ = L at *
  obtain ⟨W0, hW0⟩ : ∃ W0, W0 = w.alloc (.cells #[.int .i64 k, .string p, .string t] 54) := ⟨_, rfl⟩
  have HX : Hid (Below w.heap.size w W0) := by rw [hW0]; exact (Below.refl _ _).alloc (Nat.le_refl _) _
  obtain ⟨x0, x1, x2, x3⟩ : BxDe W0 w.heap.size k p t := by rw [hW0]; exact bxDe_new _ _ _ _
  generalize wordP k = wd at *
  generalize hexT t = ht at *
  cases hk : (k == 4)
  · have HL2 : Hid (L = [wd.data.toList, p.data.toList]) := HL.out.2 (fun e => by rw [e] at hk; cases hk)
    go_enter Tryz.func102, Tryz.ntmps102
    go_wp2_with fail
    rw [← hW0]
    clear hW0
    go_region_held3 (fun w' => w'.cell? ⟨w.heap.size, 0, none⟩ = some (.int .i64 k) ∧ w'.cell? ⟨w.heap.size, 1, none⟩ = some (.string p)) (go_keep) (first | (go_at_call 136; refine (HW.out _).mono ?_; rintro e w5 ⟨rfl, hw5⟩; subst hw5))
    obtain ⟨W1, hW1⟩ : ∃ W1, W1 = (W0.alloc (.cells #[.string wd, .string p] 9)).drew := ⟨_, rfl⟩
    have HBW : Hid (Below W0.heap.size W0 W1) := by rw [hW1]; exact ((Below.refl _ _).alloc (Nat.le_refl _) _).drew
    have HOW : Hid (Sc.OwnW W1 w.heap.size (.slice (some ⟨W0.heap.size, 0, none⟩) 2 2) [wd.data.toList, p.data.toList]) := by
      rw [hW1]
      exact (ownW_new (w := W0) [wd.data.toList, p.data.toList] #[.string wd, .string p] (by simp [Sc.strs, Sc.ba_of]) HX.out.size (by unfold maxLen; simp)).below (Below.refl _ _).drew
    have y0 := (HBW.out.cell (p := ⟨w.heap.size, 0, none⟩) x3).trans x0
    rw [← hW1]
    clear hW1 x0 x1 x2
    go_wp2_with fail
    go_ret
    exact ⟨_, rfl, by rw [HL2.out]; exact HOW.out, HX.out.trans (HBW.out.mono HX.out.size)⟩
  · have HL2 : Hid (L = [wd.data.toList, p.data.toList] ++ [ht.data.toList]) := HL.out.1 (beq_iff_eq.1 hk)
    go_enter Tryz.func102, Tryz.ntmps102
    go_wp2_with fail
    rw [← hW0]
    clear hW0
    go_region_held3 (fun w' => w'.cell? ⟨w.heap.size, 0, none⟩ = some (.int .i64 k) ∧ w'.cell? ⟨w.heap.size, 1, none⟩ = some (.string p)) (go_keep) (first | (go_at_call 136; refine (HW.out _).mono ?_; rintro e w5 ⟨rfl, hw5⟩; subst hw5))
    obtain ⟨W1, hW1⟩ : ∃ W1, W1 = (W0.alloc (.cells #[.string wd, .string p] 9)).drew := ⟨_, rfl⟩
    have HBW : Hid (Below W0.heap.size W0 W1) := by rw [hW1]; exact ((Below.refl _ _).alloc (Nat.le_refl _) _).drew
    have HOW : Hid (Sc.OwnW W1 w.heap.size (.slice (some ⟨W0.heap.size, 0, none⟩) 2 2) [wd.data.toList, p.data.toList]) := by
      rw [hW1]
      exact (ownW_new (w := W0) [wd.data.toList, p.data.toList] #[.string wd, .string p] (by simp [Sc.strs, Sc.ba_of]) HX.out.size (by unfold maxLen; simp)).below (Below.refl _ _).drew
    have y0 := (HBW.out.cell (p := ⟨w.heap.size, 0, none⟩) x3).trans x0
    have y2 := (HBW.out.cell (p := ⟨w.heap.size, 2, none⟩) x3).trans x2
    have HBA : Hid (Below w.heap.size w W1) := HX.out.trans (HBW.out.mono HX.out.size)
    rw [← hW1]
    clear hW1 x0 x1 x2
    go_wp2_with (first
      | (go_at_call 137; refine (HD.out _).mono ?_; rintro e w2 ⟨rfl, hb2⟩; have HO2 := hide3 (HOW.out.below hb2); have HB2 : Hid (Below w.heap.size w w2) := HBA.out.trans (hb2.mono HBA.out.size); clear hb2)
      | (at_builtin; refine wp_word (B := w.heap.size) (wx := w2) (v := .slice (some ⟨W0.heap.size, 0, none⟩) 2 2) (ws := [wd.data.toList, p.data.toList]) rfl (.tmp 13) (.tmp 17) rfl rfl HO2.out HB2.out.size ht rfl rfl (by simp) ?_; intro v3 w3 ho3 hg3; have HO3 := hide3 ho3; have HB3 : Hid (Below w.heap.size w w3) := HB2.out.grown hg3 HB2.out.size (fun q hq => (World.ownsRow.lt HO2.out q hq).1); clear ho3 hg3))
    go_ret
    exact ⟨_, rfl, by rw [HL2.out]; exact HO3.out, HB3.out⟩
end Go.Proofs.YtpaoimhebheaeaaGreatDoor
namespace Go.Proofs.YtpaoimhebheaeaaGreatDoor
open Go.RowKit Go.Maps Go.WideMaps Go.WideElems Dk
set_option maxRecDepth 100000

theorem ownW_base {w : World} {B C : Nat} {v : Value} {ws : List Sc.Bs} (h : Sc.OwnW w B v ws) (hb : C ≤ B) : Sc.OwnW w C v ws := by
  obtain ⟨h1, h2⟩ := h
  refine ⟨h1, ?_⟩
  rcases h2 with h2 | ⟨g', cap', cur', hv, hb', r⟩
  · exact Or.inl h2
  · exact Or.inr ⟨g', cap', cur', hv, Nat.le_trans hb hb', r⟩
theorem ownW_form {w : World} {B : Nat} {v : Value} {ws : List Sc.Bs} (h : Sc.OwnW w B v ws) (hne : ws ≠ []) : ∃ g cap, v = .slice (some ⟨g, 0, none⟩) ws.length cap := by
  rcases h.2 with ⟨_, hn⟩ | ⟨g, cap, cur, rfl, _⟩
  · exact absurd (List.eq_nil_of_length_eq_zero hn) hne
  · exact ⟨g, cap, rfl⟩
/-- A line that is new beside those that are there. -/
theorem st_with {w0 wx w2 : World} {vl v : Value} {ps : List (Value × List Sc.Bs)} {ws : List Sc.Bs} (h : Sc.St w0 vl (.slice none 0 0) ps [] wx) (hb : Below wx.heap.size wx w2) (ho : Sc.OwnW w2 wx.heap.size v ws) : Sc.St w0 vl v ps ws w2 := by
  have hs := h.2.2.2.2.size
  refine ⟨h.1.below hb, ownW_base ho hs, fun p hp e => ?_, ?_, h.2.2.2.2.trans (hb.mono hs)⟩
  · have hx := h.1.2.1 p hp
    obtain ⟨g, hg⟩ := hx.1.block hx.2
    have h1 := (World.ownsRow.lt hx.1 g hg).2
    rw [hg] at e
    have h2 := (World.ownsRow.lt ho g e).1
    omega
  · cases hv : v.ownBlock with
    | none => exact Or.inl rfl
    | some g =>
      refine Or.inr fun e => ?_
      have h1 := (World.ownsRow.lt h.1.1 g e.symm).2
      have h2 := (World.ownsRow.lt ho g hv).1
      omega
theorem st_plan (w w1 : World) (hb : Below w.heap.size w w1) : Sc.St w (.slice (some ⟨w1.heap.size + 1, 0, none⟩) 1 1) (.slice none 0 0) [(.slice (some ⟨w1.heap.size, 0, none⟩) 1 1, [bsP])] [] ((w1.alloc (.cells #[.string ⟨#[112, 108, 97, 110]⟩] 9)).alloc (.cells #[.slice (some ⟨w1.heap.size, 0, none⟩) 1 1] 71)) := by
  have hs := hb.size
  have hb2 : Below w1.heap.size w1 (w1.alloc (.cells #[.string ⟨#[112, 108, 97, 110]⟩] 9)) := Sc.boxB _ _
  have hb3 : Below (w1.alloc (.cells #[.string ⟨#[112, 108, 97, 110]⟩] 9)).heap.size (w1.alloc (.cells #[.string ⟨#[112, 108, 97, 110]⟩] 9)) ((w1.alloc (.cells #[.string ⟨#[112, 108, 97, 110]⟩] 9)).alloc (.cells #[.slice (some ⟨w1.heap.size, 0, none⟩) 1 1] 71)) := Sc.boxB _ _
  have hsz : (w1.alloc (.cells #[.string ⟨#[112, 108, 97, 110]⟩] 9)).heap.size = w1.heap.size + 1 := by simp
  have how := (ownW_new (w := w1) [bsP] #[.string ⟨#[112, 108, 97, 110]⟩] (by simp [Sc.strs, Sc.ba, bsP]) hs (by unfold maxLen; simp)).below hb3
  have hblk : ((w1.alloc (.cells #[.string ⟨#[112, 108, 97, 110]⟩] 9)).alloc (.cells #[.slice (some ⟨w1.heap.size, 0, none⟩) 1 1] 71)).heap[w1.heap.size + 1]? = some (.cells #[.slice (some ⟨w1.heap.size, 0, none⟩) 1 1] 71 (0, 0)) := by
    show ((w1.alloc (.cells #[.string ⟨#[112, 108, 97, 110]⟩] 9)).heap.push _)[w1.heap.size + 1]? = _
    rw [Array.getElem?_push, if_pos hsz.symm]
  refine ⟨⟨⟨by simp, Or.inr ⟨w1.heap.size + 1, 1, _, rfl, by omega, hblk, Nat.le_refl _, by unfold maxLen; omega, by simp, by simp⟩⟩, fun p hp => ?_, by simp, fun p hp => ?_, fun e => by cases e⟩, Sc.OwnW.nil _ _, fun p hp => ?_, Or.inl rfl, hb.trans ((hb2.trans (hb3.mono hb2.size)).mono hs)⟩
  · rw [List.mem_singleton.1 hp]
    exact ⟨how, by simp⟩
  · rw [List.mem_singleton.1 hp]
    simp [Value.ownBlock]
  · rw [List.mem_singleton.1 hp]
    simp [Value.ownBlock]

open Classical in
/-- What Print answers. -/
noncomputable def prnT (l : List De) : ByteArray := if Plan l then textD l else ⟨#[]⟩
open Classical in
noncomputable def prnE (l : List De) : Int := if Plan l then 0 else 44
theorem prn_yes {l : List De} (h : Plan l) : prnT l = textD l ∧ prnE l = 0 := by unfold prnT prnE; rw [if_pos h, if_pos h]; exact ⟨rfl, rfl⟩
theorem prn_no {l : List De} (h : ¬ Plan l) : prnT l = ⟨#[]⟩ ∧ prnE l = 44 := by unfold prnT prnE; rw [if_neg h, if_neg h]; exact ⟨rfl, rfl⟩
theorem Check_is (l : List De) (a : Option Addr) (cap : Nat) (m : Int) (w : World) (hm : w.cell? ⟨0, 0, none⟩ = some (.int .i64 m)) (hlen : l.length ≤ 8388608) (hc : IsDes w a l) (hz : ∀ d ∈ l, d.pa.size ≤ maxLen) :
    Calls Tryz.prog 64 #[.slice a l.length cap] w fun e w' => e = .returned (.int .i64 (prnE l)) ∧ Below w.heap.size w w' := by
  refine (Check_any l a cap m w hm hlen hc hz).mono ?_
  rintro e w' ⟨⟨r, rfl, h | h⟩, hb⟩
  · exact ⟨by rw [(prn_yes h.1).2, h.2], hb⟩
  · exact ⟨by rw [(prn_no h.1).2, h.2], hb⟩

set_option maxHeartbeats 8000000 in
theorem Print_any (l : List De) (a : Option Addr) (cap : Nat) (m : Int) (w : World) (hm : w.cell? ⟨0, 0, none⟩ = some (.int .i64 m)) (hlen : l.length ≤ 8388608) (hc : IsDes w a l) (hz : ∀ d ∈ l, d.pa.size ≤ maxLen ∧ d.da.size ≤ 100000000) (hsz : (textD l).size ≤ 4194304) :
    Calls Tryz.prog 67 #[.slice a l.length cap] w fun e w' => e = .returned (.tuple #[.string (prnT l), .int .i64 (prnE l)]) ∧ Below w.heap.size w w' := by
  have HCH := hide3 (Check_is l a cap m w hm hlen hc fun d hd => (hz d hd).1)
  by_cases hp : Plan l
  · obtain ⟨e1, e2⟩ := prn_yes hp
    rw [e2] at HCH
    rw [e1, e2]
    have HP := hide3 hp.parts
    have HC := hide3 hc
    have HZ := hide3 hz
    have HJ : Hid (∀ w1 v, Sc.LinesAt w1 v (linesP l) → Calls Tryz.prog 103 #[v] w1 fun e w' => e = .returned (.tuple #[.string (textD l), .int .i64 0]) ∧ Below w1.heap.size w1 w') := fun w1 v hv => by
      have := Sc.Join_any (by rw [← textD_list]; show (textD l).size ≤ _; exact hsz) hv
      obtain ⟨j1, j2⟩ := Sc.joi_yes hp.lines
      rw [j1, j2, textD_ba] at this
      exact this
    clear hc hz hp e1 e2 hm hsz
    go_enter Tryz.func67, Tryz.ntmps67
    go_wp2_with (go_at_call 64; refine HCH.out.mono ?_; rintro e w1 ⟨rfl, hb1⟩; have HST := hide3 (st_plan w w1 hb1); clear hb1)
    obtain ⟨W1, hW1⟩ : ∃ W1, W1 = ((w1.alloc (.cells #[.string ⟨#[112, 108, 97, 110]⟩] 9)).alloc (.cells #[.slice (some ⟨w1.heap.size, 0, none⟩) 1 1] 71)) := ⟨_, rfl⟩
    rw [← hW1] at HST
    rw [← hW1]
    clear hW1 HCH
    go_loopw [5, 17] (fun v5 i wr => ∃ (k : Nat) (ps : List (Value × List Sc.Bs)), k ≤ l.length ∧ i = .int .i64 k ∧ Sc.St w v5 (.slice none 0 0) ps [] wr ∧ ps.map (·.2) = linesP (l.take k)) (fun _ i _ => l.length - (intOf i).toNat)
    case atStart => exact ⟨0, _, Nat.zero_le _, rfl, HST.out, rfl⟩
    case round =>
      obtain ⟨k, ps, hk, rfl, hst, hps⟩ := hrel
      have HS := hide3 hst
      have HPS := hide3 hps
      have HPL : Hid (ps.length = k + 1) := by
        have h1 := congrArg List.length hps
        have h2 : (linesP (l.take k)).length = k + 1 := by unfold linesP; rw [List.length_cons, List.length_map, List.length_take]; omega
        rw [List.length_map, h2] at h1
        exact h1
      clear hst hps HST
      obtain ⟨ad5, cap5, rfl⟩ := HS.out.1.len
      by_cases hlt : k < l.length
      · obtain ⟨g, off, rfl, hg, hcs⟩ : ∃ g off, a = some ⟨g, off, none⟩ ∧ g < w.heap.size ∧ DesIn w g off l := by
          rcases HC.out with h | h
          · rw [h] at hlt; exact absurd hlt (Nat.not_lt_zero _)
          · exact h
        have HB : Hid (Below w.heap.size w wr) := HS.out.2.2.2.2
        obtain ⟨b0, b1, b2⟩ : wr.cell? ⟨g, off + k * 3, none⟩ = some (.int .i64 l[k].kd) ∧ wr.cell? ⟨g, off + k * 3 + 1, none⟩ = some (.string l[k].pa) ∧ wr.cell? ⟨g, off + k * 3 + 1 + 1, none⟩ = some (.string l[k].da) := by
          obtain ⟨a0, a1, a2⟩ := hcs k hlt
          exact ⟨(HB.out.cell (p := ⟨g, off + k * 3, none⟩) hg).trans a0, (HB.out.cell (p := ⟨g, off + k * 3 + 1, none⟩) hg).trans a1, (HB.out.cell (p := ⟨g, off + k * 3 + 1 + 1, none⟩) hg).trans a2⟩
        have hki : (k : Int) < (l.length : Int) := by omega
        have hk0 : (0 : Int) ≤ (k : Int) := by omega
        have HPK := hide3 (HP.out l[k] (List.getElem_mem hlt))
        have HLN : Hid (∀ w1, Calls Tryz.prog 102 #[.agg #[.int .i64 l[k].kd, .string l[k].pa, .string l[k].da]] w1 fun e w' => ∃ v, e = .returned v ∧ Sc.OwnW w' w1.heap.size v (lineW l[k]) ∧ Below w1.heap.size w1 w') := fun w1 => lineOf_any l[k] HPK.out.1 HPK.out.2.1 (HZ.out l[k] (List.getElem_mem hlt)).2 w1
        have HNE : Hid (lineW l[k] ≠ []) := by unfold Hid lineW; simp
        have HTK : Hid (∀ v : Value, (ps ++ [(v, lineW l[k])]).map (·.2) = linesP (l.take (k + 1))) := fun v => by
          rw [List.map_append, HPS.out, List.take_succ_eq_append_getElem hlt]
          unfold linesP
          rw [List.map_append]
          rfl
        generalize lineW l[k] = L at *
        generalize l[k].kd = kd at *
        generalize l[k].pa = p at *
        generalize l[k].da = t at *
        have HSB : Hid (Sc.St w (.slice ad5 ps.length cap5) (.slice none 0 0) ps [] (wr.alloc (.cells #[.int .i64 kd, .string p, .string t] 54))) := HS.out.below (Sc.boxB _ _)
        clear hcs HS HB HPK HP HZ HC
        go_wp2_with (first
          | (go_at_call 102; refine (HLN.out _).mono ?_; rintro e w2 ⟨v2, rfl, ho2, hb2⟩; have HS2 := hide3 (st_with HSB.out hb2 ho2); obtain ⟨g2, c2, rfl⟩ := ownW_form ho2 HNE.out; clear hb2 ho2)
          | (at_builtin; refine wp_line (w0 := w) (wx := w2) (vl := .slice ad5 ps.length cap5) (vw := .slice (some ⟨g2, 0, none⟩) L.length c2) (ps := ps) (ws := L) rfl (.tmp 21) (.tmp 24) rfl rfl HS2.out HNE.out rfl rfl (by have := HPL.out; omega) ?_; intro v3 w3 hs3; have HS3 := hide3 hs3; clear hs3))
        exact ⟨⟨k + 1, _, by omega, by go_num, HS3.out, HTK.out _⟩, by simp [intOf]; omega⟩
      · have hki : ¬ ((k : Int) < (l.length : Int)) := by omega
        have HLA : Hid (Sc.LinesAt wr (.slice ad5 ps.length cap5) (linesP l)) := by
          have := HS.out.1.at
          rw [HPS.out, List.take_of_length_le (by omega)] at this
          exact this
        have HB : Hid (Below w.heap.size w wr) := HS.out.2.2.2.2
        go_wp2_with (go_at_call 103; refine (HJ.out _ _ HLA.out).mono ?_; rintro e w2 ⟨rfl, hb2⟩; have HB2 : Hid (Below w.heap.size w w2) := HB.out.trans (hb2.mono HB.out.size); clear hb2)
        go_ret2
        exact ⟨rfl, HB2.out⟩
  · obtain ⟨e1, e2⟩ := prn_no hp
    rw [e2] at HCH
    rw [e1, e2]
    clear hp e1 e2
    go_enter Tryz.func67, Tryz.ntmps67
    go_wp2_with (go_at_call 64; refine HCH.out.mono ?_; rintro e w1 ⟨rfl, hb1⟩; have HB1 := hide3 hb1; clear hb1)
    go_ret2
    exact ⟨rfl, HB1.out⟩
end Go.Proofs.YtpaoimhebheaeaaGreatDoor
namespace Go.Proofs.YtpaoimhebheaeaaGreatDoor
open Go.RowKit Go.Maps Go.WideMaps Go.WideElems Dk
open Sc (KeepP keepBelow callC callC' wp_region_keep)
set_option maxRecDepth 100000

theorem word_eq {k : Nat} (h1 : 1 ≤ k) (h4 : k ≤ 4) {s : ByteArray} (h : ((wordP k).toList == s.toList) = true) : kindW s.data.toList = k := by
  rw [← toList_data, ← beq_iff_eq.1 h, toList_data]
  exact kindW_word (by omega) (by omega)
theorem word_none {s : ByteArray} (h : ∀ j : Nat, 1 ≤ j → j ≤ 4 → ((wordP j).toList == s.toList) = false) : kindW s.data.toList = 0 := by
  by_cases q : kindW s.data.toList = 0
  · exact q
  · obtain ⟨h1, h2, h3⟩ := word_kind q
    have := h (kindW s.data.toList).toNat (by omega) (by omega)
    rw [show (((kindW s.data.toList).toNat : Nat) : Int) = kindW s.data.toList by omega, toList_data, ← h1, toList_data] at this
    simp at this

theorem plKind_any (s : ByteArray) (w : World) : Calls Tryz.prog 146 #[.string s] w fun e w' => e = .returned (.int .i64 (kindW s.data.toList)) ∧ w' = w := by
  have HY : Hid (∀ k : Nat, 1 ≤ k → k ≤ 4 → ((wordP k).toList == s.toList) = true → kindW s.data.toList = k) := fun k h1 h4 h => word_eq h1 h4 h
  have HN := hide3 (word_none (s := s))
  have HW : Hid (∀ (k : Nat) w1, 1 ≤ k → k ≤ 4 → Calls Tryz.prog 136 #[.int .i64 (k : Int)] w1 fun e w' => e = .returned (.string (wordP k)) ∧ w' = w1) := fun k w1 h1 h4 => by
    have := wordOf_any (k : Int) w1
    rw [wordO_is (by omega) (by omega)] at this
    exact this
  generalize kindW s.data.toList = r at *
  go_enter Tryz.func146, Tryz.ntmps146
  go_wp2_with fail
  go_loop [3] (fun i => ∃ k : Nat, 1 ≤ k ∧ k ≤ 5 ∧ i = .int .i64 k ∧ ∀ j : Nat, 1 ≤ j → j < k → ((wordP j).toList == s.toList) = false) (fun i => 5 - (intOf i).toNat)
  case atStart => exact ⟨1, Nat.le_refl _, by omega, rfl, fun j h1 h2 => by omega⟩
  case round =>
    obtain ⟨k, h1, h5, rfl, hall⟩ := hrel
    have HA := hide3 hall
    clear hall
    by_cases h4 : k ≤ 4
    · have HWK := hide3 (fun w1 => HW.out k w1 h1 h4)
      have HYK := hide3 (HY.out k h1 h4)
      have HST : Hid (((wordP k).toList == s.toList) = false → ∀ j : Nat, 1 ≤ j → j < k + 1 → ((wordP j).toList == s.toList) = false) := fun h j hj hjk => by
        by_cases e : j = k
        · subst e; exact h
        · exact HA.out j hj (by omega)
      have hki : (k : Int) ≤ 4 := by omega
      generalize wordP k = wd at *
      cases hq : (wd.toList == s.toList)
      · go_wp2_with (go_at_call 136; refine (HWK.out _).mono ?_; rintro e w1 ⟨rfl, rfl⟩)
        exact ⟨⟨k + 1, by omega, by omega, by go_num, HST.out hq⟩, by simp [intOf]; omega⟩
      · have HR := hide3 (HYK.out hq)
        go_wp2_with (go_at_call 136; refine (HWK.out _).mono ?_; rintro e w1 ⟨rfl, rfl⟩)
        go_ret
        exact ⟨ret_int HR.out.symm, rfl⟩
    · have hki : ¬ ((k : Int) ≤ 4) := by omega
      have HR : Hid (r = 0) := HN.out fun j h1 h4 => HA.out j h1 (by omega)
      go_wp2_with fail
      go_ret
      exact ⟨ret_int HR.out.symm, rfl⟩

/-- What a word's bytes are told as. -/
def bytO (w : Sc.Bs) : ByteArray := match bytW w with
  | some y => Sc.ba y
  | none => ⟨#[]⟩
theorem idx_all : ∀ n, n < 256 → Lib.indexByte hexD.data.toList (UInt8.ofNat n) = if isHx (UInt8.ofNat n) = true then (digN n : Int) else -1 := by decide +kernel
theorem idx_is (b : UInt8) : Lib.indexByte hexD.data.toList ((b.toNat : Int).toNat.toUInt8) = if isHx b = true then (digN b.toNat : Int) else -1 := by
  have := idx_all b.toNat (by have := b.toNat_lt; omega)
  rw [UInt8.ofNat_toNat] at this
  rw [← this]
  congr 1
  simp
theorem byt_dash {s : ByteArray} (h : (s.toList == [45]) = true) : bytO s.data.toList = ⟨#[]⟩ ∧ (bytW s.data.toList).isSome = true := by
  have h2 : bytW s.data.toList = some [] := by unfold bytW; rw [if_pos (by rw [← toList_data]; exact beq_iff_eq.1 h)]
  unfold bytO
  rw [h2]
  exact ⟨rfl, rfl⟩
theorem byt_no {s : ByteArray} (h : (s.toList == [45]) = false) (h2 : ¬ (s.data.toList.length % 2 = 0 ∧ s.data.toList.all isHx = true)) : bytO s.data.toList = ⟨#[]⟩ ∧ (bytW s.data.toList).isSome = false := by
  have h3 : bytW s.data.toList = none := by unfold bytW; rw [if_neg (fun e => by rw [← toList_data] at e; rw [e] at h; cases h), if_neg h2]
  unfold bytO
  rw [h3]
  exact ⟨rfl, rfl⟩
theorem byt_yes {s : ByteArray} (h : (s.toList == [45]) = false) (h2 : s.data.toList.length % 2 = 0 ∧ s.data.toList.all isHx = true) : bytO s.data.toList = Sc.ba (dataL s.data.toList) ∧ (bytW s.data.toList).isSome = true := by
  have h3 : bytW s.data.toList = some (dataL s.data.toList) := by unfold bytW; rw [if_neg (fun e => by rw [← toList_data] at e; rw [e] at h; cases h), if_pos h2]
  unfold bytO
  rw [h3]
  exact ⟨rfl, rfl⟩
theorem bits_all : ∀ a, a < 16 → ∀ b, b < 16 → bits BinOp.or IntKind.i64 ((a : Nat) * 16 : Int) ((b : Nat) : Int) % 256 = ((UInt8.ofNat (16 * a + b)).toNat : Int) := by decide +kernel

set_option maxHeartbeats 4000000 in
theorem bytesOf_any (s : ByteArray) (w : World) (hs : s.size ≤ 1000000000) : Calls Tryz.prog 147 #[.string s] w fun e w' => e = .returned (.tuple #[.string (bytO s.data.toList), .bool (bytW s.data.toList).isSome]) ∧ Below w.heap.size w w' := by
  cases h45 : (s.toList == [45])
  · have HYE := hide3 (byt_yes h45)
    have HNO := hide3 (byt_no h45)
    generalize bytO s.data.toList = r at *
    generalize (bytW s.data.toList).isSome = b at *
    by_cases h2 : s.size % 2 = 0
    · have h2i : (IntKind.i64.wrap ((s.size : Int).tmod 2) != 0) = false := by
        have : (s.size : Int).tmod 2 = 0 := by rw [Int.tmod_eq_emod_of_nonneg (by omega)]; omega
        rw [this]; rfl
      have h2j : (s.size : Int) % 2 = 0 := by omega
      have HN := hide3 (Sc.Bld.new w)
      have HE0 : Hid (Below w.heap.size w (w.alloc (.cells #[.pointer none, .slice none 0 0] 153))) := (Below.refl _ _).alloc (Nat.le_refl _) _
      go_enter Tryz.func147, Tryz.ntmps147
      go_wp2_with fail
      go_loopw [5] (fun v5 wr => ∃ a k : Nat, v5 = .int .i64 a ∧ a = 2 * k ∧ a ≤ s.size ∧ Sc.Bld w.heap.size w.heap.size (dataL (s.data.toList.take a)) wr ∧ Below w.heap.size w wr ∧ ∀ j (hj : j < s.data.toList.length), j < a → isHx s.data.toList[j] = true) (fun v5 _ => s.size - (intOf v5).toNat)
      case atStart => exact ⟨0, 0, rfl, rfl, Nat.zero_le _, HN.out, HE0.out, fun j _ h => by omega⟩
      case round =>
        obtain ⟨a, k, rfl, hak, hle, ho, hb, hall⟩ := hrel
        have HAK := hide3 hak
        have HO := hide3 ho
        have HB := hide3 hb
        have HA := hide3 hall
        clear hak ho hb hall
        by_cases hlt : a < s.size
        · obtain ⟨c, hc⟩ : ∃ c : Nat, c = a + 1 := ⟨_, rfl⟩
          have HC := hide3 hc
          have hcl : c < s.size := by have := HAK.out; omega
          have hw1 : IntKind.i64.wrap ((a : Int) + 1) = (c : Int) := by rw [hc, IntKind.wrap_i64]; omega
          have hai : (a : Int) < (s.size : Int) := by omega
          have hci : (c : Int) < (s.size : Int) := by omega
          have hTK : isHx s[a] = true → isHx s[c] = true → dataL (s.data.toList.take (a + 2)) = dataL (s.data.toList.take a) ++ [UInt8.ofNat (16 * digN s[a].toNat + digN s[c].toNat)] := fun _ _ => by
            have hk := HAK.out
            subst hc
            subst hk
            have h := dataL_take (l := s.data.toList) (k := k) (by rw [size_list]; omega)
            rw [show 2 * (k + 1) = 2 * k + 2 by omega] at h
            exact h
          have HI : Hid (∀ (x : UInt8) w1, Calls Tryz.prog 178 #[.string ⟨#[48, 49, 50, 51, 52, 53, 54, 55, 56, 57, 97, 98, 99, 100, 101, 102]⟩, .int .u8 (x.toNat : Int)] w1 fun e w' => e = .returned (.int .i64 (if isHx x = true then (digN x.toNat : Int) else -1)) ∧ Below w1.heap.size w1 w') := fun x w1 => by
            have := Tryz.strings_IndexByte hexD (x.toNat : Int) w1
            rw [idx_is] at this
            exact this.mono fun e w' h => ⟨h.1, by rw [h.2]; exact Below.refl _ _⟩
          have HLS : Hid (isHx s[a] = true → isHx s[c] = true → ∀ j (hj : j < s.data.toList.length), j < a + 2 → isHx s.data.toList[j] = true) := fun h1 h2 j hj hja => by
            by_cases e : j = a
            · subst e; exact h1
            · by_cases e2 : j = c
              · subst e2; exact h2
              · exact HA.out j hj (by omega)
          have HFL : Hid (isHx s[a] = false ∨ isHx s[c] = false → ¬ (s.data.toList.length % 2 = 0 ∧ s.data.toList.all isHx = true)) := fun h q => by
            have q2 := List.all_eq_true.1 q.2
            rcases h with h | h
            · have := q2 s[a] (List.getElem_mem (by rw [size_list]; exact hlt))
              rw [h] at this; cases this
            · have := q2 s[c] (List.getElem_mem (by rw [size_list]; exact hcl))
              rw [h] at this; cases this
          have HTK := hide3 hTK
          have hd1 := digN_lt s[a].toNat
          have hd2 := digN_lt s[c].toNat
          have HLN : Hid ((dataL (s.data.toList.take a)).length ≤ 1000000000) := by
            have hk := HAK.out
            have := dataL_len k (s.data.toList.take a) (by rw [List.length_take, size_list]; omega)
            unfold Hid
            omega
          clear hc hTK HYE h2i h2j
          generalize hx1 : s[a] = x1 at *
          generalize hx2 : s[c] = x2 at *
          generalize dataL (s.data.toList.take a) = old at *
          have HK : Hid (KeepP fun w1 => Below w.heap.size w w1 ∧ Sc.Bld w.heap.size w.heap.size old w1) := (keepBelow w).and (fun _ _ h hb => h.below hb)
          have HO : Hid (Below w.heap.size w wr ∧ Sc.Bld w.heap.size w.heap.size old wr) := ⟨HB.out, HO.out⟩
          have HI1 := hide3 (HI.out x1)
          have HI2 := hide3 (HI.out x2)
          clear HN HE0 HI HB HA
          cases hh1 : isHx x1
          · obtain ⟨e1, e2⟩ := HNO.out (HFL.out (Or.inl hh1))
            subst e1 e2
            rw [hh1] at HI1
            simp only [Bool.false_eq_true, if_false] at HI1
            generalize (if isHx x2 = true then (digN x2.toNat : Int) else -1) = i2 at *
            clear HNO HFL HTK HLS hh1
            go_wp2_with fail
            refine wp_region_keep HK.out (by kernel_rfl) (by kernel_rfl) (by first | exact HO.out | exact HK.out.drew HO.out) ?_
            intro C hin hout
            have HIN := hide3 hin
            have HOUT := hide3 hout
            clear hin hout HO
            repeat
              (with_reducible refine wpQuiet_step (fun K hK => ?_)
               go_simp
               first
                 | (refine hK _ ?_; clear hK K)
                 | (apply Exists.intro; refine ⟨fun w1 hC => ?_, hK _ ?_⟩; (focus ((first | (go_at_call 178; with_reducible exact callC HIN.out HOUT.out HK.out HI1.out w1 hC) | (go_at_call 178; with_reducible exact callC HIN.out HOUT.out HK.out HI2.out w1 hC) | (exact rfl) | (obtain ⟨hb1, hbl⟩ := HOUT.out w1 hC; clear hC; go_simp; first | done | exact rfl)); done)); clear hK K))
            refine wpQuiet_nil ?_
            intro wn hC
            have HO := hide3 (HOUT.out _ hC)
            clear hC HIN HOUT C
            obtain ⟨hb1, hbl⟩ := HO.out
            go_wp2_with fail
            go_ret2
            exact ⟨rfl, HO.out.1⟩
          · cases hh2 : isHx x2
            · obtain ⟨e1, e2⟩ := HNO.out (HFL.out (Or.inr hh2))
              subst e1 e2
              rw [hh1] at HI1
              rw [hh2] at HI2
              simp only [Bool.false_eq_true, if_false, if_true] at HI1 HI2
              generalize digN x1.toNat = d1 at *
              clear HNO HFL HTK HLS hh1 hh2
              go_wp2_with fail
              refine wp_region_keep HK.out (by kernel_rfl) (by kernel_rfl) (by first | exact HO.out | exact HK.out.drew HO.out) ?_
              intro C hin hout
              have HIN := hide3 hin
              have HOUT := hide3 hout
              clear hin hout HO
              repeat
                (with_reducible refine wpQuiet_step (fun K hK => ?_)
                 go_simp
                 first
                   | (refine hK _ ?_; clear hK K)
                   | (apply Exists.intro; refine ⟨fun w1 hC => ?_, hK _ ?_⟩; (focus ((first | (go_at_call 178; with_reducible exact callC HIN.out HOUT.out HK.out HI1.out w1 hC) | (go_at_call 178; with_reducible exact callC HIN.out HOUT.out HK.out HI2.out w1 hC) | (exact rfl) | (obtain ⟨hb1, hbl⟩ := HOUT.out w1 hC; clear hC; go_simp; first | done | exact rfl)); done)); clear hK K))
              refine wpQuiet_nil ?_
              intro wn hC
              have HO := hide3 (HOUT.out _ hC)
              clear hC HIN HOUT C
              obtain ⟨hb1, hbl⟩ := HO.out
              go_wp2_with fail
              go_ret2
              exact ⟨rfl, HO.out.1⟩
            · have HTK2 := hide3 (HTK.out hh1 hh2)
              have HLS2 := hide3 (HLS.out hh1 hh2)
              rw [hh1] at HI1
              rw [hh2] at HI2
              simp only [if_true] at HI1 HI2
              generalize digN x1.toNat = d1 at *
              generalize digN x2.toNat = d2 at *
              clear HNO HFL HTK HLS hh1 hh2
              go_wp2_with fail
              refine wp_region_keep HK.out (by kernel_rfl) (by kernel_rfl) (by first | exact HO.out | exact HK.out.drew HO.out) ?_
              intro C hin hout
              have HIN := hide3 hin
              have HOUT := hide3 hout
              clear hin hout HO
              repeat
                (with_reducible refine wpQuiet_step (fun K hK => ?_)
                 go_simp
                 first
                   | (refine hK _ ?_; clear hK K)
                   | (apply Exists.intro; refine ⟨fun w1 hC => ?_, hK _ ?_⟩; (focus ((first | (go_at_call 178; with_reducible exact callC HIN.out HOUT.out HK.out HI1.out w1 hC) | (go_at_call 178; with_reducible exact callC HIN.out HOUT.out HK.out HI2.out w1 hC) | (exact rfl) | (obtain ⟨hb1, hbl⟩ := HOUT.out w1 hC; clear hC; go_simp; first | done | exact rfl)); done)); clear hK K))
              refine wpQuiet_nil ?_
              intro wn hC
              have HO := hide3 (HOUT.out _ hC)
              clear hC HIN HOUT C
              obtain ⟨hb1, hbl⟩ := HO.out
              have hbt := bits_all d1 hd1 d2 hd2
              generalize UInt8.ofNat (16 * d1 + d2) = y at *
              go_wp2_with (go_at_call 141; refine (Sc.putByte y HO.out.2 (by have := HLN.out; omega) HO.out.1.size).mono ?_; rintro e w2 ⟨rfl, ho2, hb2⟩; have HO2 := hide3 ho2; have HB2 := hide3 (HO.out.1.trans hb2); clear ho2 hb2)
              exact ⟨⟨a + 2, k + 1, by go_num, by have := HAK.out; omega, by have := HC.out; omega, by rw [HTK2.out]; exact HO2.out, HB2.out, HLS2.out⟩, by simp [intOf]; omega⟩
        · obtain rfl : a = s.size := by omega
          have hfull : s.data.toList.take s.size = s.data.toList := List.take_of_length_le (by rw [size_list]; exact Nat.le_refl _)
          obtain ⟨e1, e2⟩ := HYE.out ⟨by rw [size_list]; exact h2, all_get fun j hj => HA.out j hj (by rw [size_list] at hj; exact hj)⟩
          subst e1 e2
          rw [hfull] at HO
          have HS := hide3 (Tryz.Builder_String_any w.heap.size w.heap.size _ wr HO.out HB.out.size)
          clear HYE HNO HN HE0
          go_wp2_with (go_at_call 142; refine HS.out.mono ?_; rintro e w1 ⟨rfl, hb1⟩; have HB1 := hide3 (HB.out.trans hb1); clear hb1)
          go_ret2
          exact ⟨rfl, HB1.out⟩
    · have h2i : (IntKind.i64.wrap ((s.size : Int).tmod 2) != 0) = true := by
        have : (s.size : Int).tmod 2 = 1 := by rw [Int.tmod_eq_emod_of_nonneg (by omega)]; omega
        rw [this]; rfl
      have h2j : (s.size : Int) % 2 = 1 := by omega
      obtain ⟨e1, e2⟩ := HNO.out (fun q => h2 (by rw [size_list] at q; exact q.1))
      subst e1 e2
      go_enter Tryz.func147, Tryz.ntmps147
      go_wp2_with fail
      go_ret2
      exact ⟨rfl, Below.refl _ _⟩
  · obtain ⟨e1, e2⟩ := byt_dash h45
    rw [e1, e2]
    clear e1 e2
    go_enter Tryz.func147, Tryz.ntmps147
    go_wp2
    go_ret2
    exact ⟨rfl, Below.refl _ _⟩
end Go.Proofs.YtpaoimhebheaeaaGreatDoor
