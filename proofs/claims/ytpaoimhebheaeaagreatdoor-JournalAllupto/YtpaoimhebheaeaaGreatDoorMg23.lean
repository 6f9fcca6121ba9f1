/- Jk3, Jk4, Jq2, Jk5, laid in one text. -/
import Derived.Test.YtpaoimhebheaeaaGreatDoorMg22
namespace Go.Proofs.YtpaoimhebheaeaaGreatDoor
open Go.RowKit Go.Maps Go.WideMaps Go.WideElems Dk
set_option maxRecDepth 100000

/-- Paths go, one behind the other. -/
def remA : List ByteArray → Ab → Int × Ab
  | [], x => (0, x)
  | s :: r, x => if ((remIf x s).1 != 0) = true then remIf x s else remA r (remIf x s).2
theorem remA_snoc (l : List ByteArray) (s : ByteArray) (x : Ab) : remA (l ++ [s]) x = if ((remA l x).1 != 0) = true then remA l x else remIf (remA l x).2 s := by
  induction l generalizing x with
  | nil =>
    show (if ((remIf x s).1 != 0) = true then remIf x s else (0, (remIf x s).2)) = (if ((0 : Int) != 0) = true then ((0 : Int), x) else remIf x s)
    rw [if_neg (show ¬ ((0 : Int) != 0) = true by decide)]
    split
    · rfl
    · rename_i h
      have h0 : (remIf x s).1 = 0 := bne_eq_false_iff_eq.1 (Bool.eq_false_iff.2 h)
      show (0, (remIf x s).2) = remIf x s
      rw [← h0]
  | cons a r ih =>
    show (if ((remIf x a).1 != 0) = true then remIf x a else remA (r ++ [s]) (remIf x a).2) = if ((if ((remIf x a).1 != 0) = true then remIf x a else remA r (remIf x a).2).1 != 0) = true then (if ((remIf x a).1 != 0) = true then remIf x a else remA r (remIf x a).2) else remIf (if ((remIf x a).1 != 0) = true then remIf x a else remA r (remIf x a).2).2 s
    by_cases h : ((remIf x a).1 != 0) = true
    · rw [if_pos h, if_pos h, if_pos h]
    · rw [if_neg h, if_neg h, ih]
theorem remA_app (a b : List ByteArray) (x : Ab) : remA (a ++ b) x = if ((remA a x).1 != 0) = true then remA a x else remA b (remA a x).2 := by
  induction a generalizing x with
  | nil =>
    show remA b x = (if ((0 : Int) != 0) = true then ((0 : Int), x) else remA b x)
    rw [if_neg (show ¬ ((0 : Int) != 0) = true by decide)]
  | cons d r ih =>
    have e1 : remA (d :: r ++ b) x = if ((remIf x d).1 != 0) = true then remIf x d else remA (r ++ b) (remIf x d).2 := rfl
    have e2 : remA (d :: r) x = if ((remIf x d).1 != 0) = true then remIf x d else remA r (remIf x d).2 := rfl
    rw [e1, e2]
    by_cases h : ((remIf x d).1 != 0) = true
    · rw [if_pos h, if_pos h, if_pos h]
    · rw [if_neg h, if_neg h, ih]
theorem remA_stop {l : List ByteArray} {i : Nat} (hi : i < l.length) {x : Ab} (h0 : (remA (l.take i) x).1 = 0) (h1 : ((remIf (remA (l.take i) x).2 l[i]).1 != 0) = true) : remA l x = remIf (remA (l.take i) x).2 l[i] := by
  have e : l = l.take i ++ l[i] :: l.drop (i + 1) := by rw [← List.drop_eq_getElem_cons hi, List.take_append_drop]
  conv => lhs; rw [e]
  rw [remA_app, if_neg (by rw [h0]; decide)]
  show (if ((remIf (remA (l.take i) x).2 l[i]).1 != 0) = true then remIf (remA (l.take i) x).2 l[i] else _) = _
  rw [if_pos h1]
theorem remA_next {l : List ByteArray} {i : Nat} (hi : i < l.length) {x : Ab} (h0 : (remA (l.take i) x).1 = 0) : remA (l.take (i + 1)) x = remIf (remA (l.take i) x).2 l[i] := by
  rw [List.take_succ_eq_append_getElem hi, remA_snoc, if_neg (by rw [h0]; decide)]
/-- The journal's paths, in the order in which they go. -/
def j3 : List ByteArray := [pP, pN, jn]
theorem fin_rem (l : List De) (x : Ab) : finA l x = if ((runA l x).1 != 0) = true then runA l x else remA j3 (runA l x).2 := by
  unfold finA
  split
  · rfl
  · show _ = (if ((remIf (runA l x).2 pP).1 != 0) = true then remIf (runA l x).2 pP else if ((remIf (remIf (runA l x).2 pP).2 pN).1 != 0) = true then remIf (remIf (runA l x).2 pP).2 pN else if ((remIf (remIf (remIf (runA l x).2 pP).2 pN).2 jn).1 != 0) = true then remIf (remIf (remIf (runA l x).2 pP).2 pN).2 jn else (0, (remIf (remIf (remIf (runA l x).2 pP).2 pN).2 jn).2))
    split
    · rfl
    · split
      · rfl
      · split
        · rfl
        · rename_i h
          have h0 : (remIf (remIf (remIf (runA l x).2 pP).2 pN).2 jn).1 = 0 := bne_eq_false_iff_eq.1 (Bool.eq_false_iff.2 h)
          rw [← h0]
theorem j3_size : ∀ s ∈ j3, s.size ≤ maxLen := by decide
theorem PrgT.rem {B : Nat} {w w1 : World} {d mb : Nat} {rv : Value} {y : Ab} {m : Int} {k : Nat} (ht : PrgT B w d mb rv y m k w1) (hk : k + 1 < 2199023255552) (s : ByteArray) : Calls Tryz.prog 71 #[.pointer (some ⟨d, 0, none⟩), .string s] w1 fun e' w' => e' = .returned (.int .i64 (removeD y s).1) ∧ PrgT B w d mb rv (removeD y s).2 m (k + 1) w' := ht.call fun _ _ h => pRem h hk s
theorem PrgT.doD {B : Nat} {w w1 : World} {d mb : Nat} {rv : Value} {y : Ab} {m : Int} {k : Nat} (ht : PrgT B w d mb rv y m k w1) (hk : k + 1 < 2199023255552) (dd : De) (hs : dd.pa.size ≤ maxLen) (hd : dd.da.size ≤ maxLen) : Calls Tryz.prog 66 #[.pointer (some ⟨d, 0, none⟩), .agg #[.int .i64 dd.kd, .string dd.pa, .string dd.da]] w1 fun e' w' => e' = .returned (.int .i64 (doA y dd).1) ∧ PrgT B w d mb rv (doA y dd).2 m (k + 1) w' := ht.call fun _ _ h => pdo_any h hk dd hs hd

set_option maxHeartbeats 16000000 in
theorem fin_P {B : Nat} {w : World} {d mb n : Nat} {rv : Value} {x : Ab} {m : Int} {k : Nat} (h : PrgK B w d mb n rv x m k) (l : List De) (a : Option Addr) (cap : Nat) (hd : ∀ W, Upd (Foot d mb rv) w W → IsDes W a l) (hz : ∀ d ∈ l, d.pa.size ≤ maxLen ∧ d.da.size ≤ maxLen) (hk : k + l.length + 4 < 2199023255552) :
    Calls Tryz.prog 31 #[.pointer (some ⟨d, 0, none⟩), .slice a l.length cap] w fun e' w' => e' = .returned (.int .i64 (finA l x).1) ∧ PrgT B w d mb rv (finA l x).2 m (k + l.length + 3) w' := by
  have HD := hide3 hd
  have HZ := hide3 hz
  have HH := hide3 h
  have HE := hide3 (fin_rem l x)
  clear hd hz h
  go_enter Tryz.func31, Tryz.ntmps31
  go_wp2_with fail
  refine wp_scope_fwd 0 rfl ?_
  go_wp2_with fail
  go_loopw [5, 12] (fun v5 v12 wr => ∃ i : Nat, i ≤ l.length ∧ v12 = .int .i64 i ∧ v5 = .int .i64 0 ∧ (runA (l.take i) x).1 = 0 ∧ PrgT B w d mb rv (runA (l.take i) x).2 m (k + i) wr) (fun _ v12 _ => l.length - (intOf v12).toNat)
  case atStart => exact ⟨0, Nat.zero_le _, rfl, rfl, rfl, PrgT.refl HH.out⟩
  case round =>
    obtain ⟨i, hi, rfl, rfl, h0, ht⟩ := hrel
    have H0 := hide3 h0
    have HT := hide3 ht
    clear h0 ht
    by_cases hlt : i < l.length
    · obtain ⟨g, off, rfl, hg, hcs⟩ : ∃ g off, a = some ⟨g, off, none⟩ ∧ g < wr.heap.size ∧ DesIn wr g off l := by
        rcases HD.out wr HT.out.upd with q | q
        · rw [q] at hlt; exact absurd hlt (Nat.not_lt_zero _)
        · exact q
      obtain ⟨b0, b1, b2⟩ := hcs i hlt
      have HDO : Hid (∀ W, PrgT B w d mb rv (runA (l.take i) x).2 m (k + i) W → Calls Tryz.prog 66 #[.pointer (some ⟨d, 0, none⟩), .agg #[.int .i64 l[i].kd, .string l[i].pa, .string l[i].da]] W fun e' w' => e' = .returned (.int .i64 (doA (runA (l.take i) x).2 l[i]).1) ∧ PrgT B w d mb rv (doA (runA (l.take i) x).2 l[i]).2 m (k + i + 1) w') := fun W hT => hT.doD (by omega) l[i] (HZ.out l[i] (List.getElem_mem hlt)).1 (HZ.out l[i] (List.getElem_mem hlt)).2
      have HAL : Hid (PrgT B w d mb rv (runA (l.take i) x).2 m (k + i) (wr.alloc (.cells #[.int .i64 l[i].kd, .string l[i].pa, .string l[i].da] 54))) := HT.out.below ((Below.refl _ _).alloc (Nat.le_refl _) _)
      have HST := hide3 (runA_stop hlt H0.out)
      have HNX := hide3 (runA_next hlt H0.out)
      have hii : (i : Int) < (l.length : Int) := by omega
      have hi0 : (0 : Int) ≤ (i : Int) := by omega
      clear hcs
      generalize doA (runA (l.take i) x).2 l[i] = Y at *
      generalize l[i].kd = kd at *
      generalize l[i].pa = p at *
      generalize l[i].da = t at *
      obtain ⟨c, y⟩ := Y
      simp only at HDO HST HNX
      have HDA := hide3 (HDO.out _ HAL.out)
      clear HDO HAL
      cases hc : (c != 0)
      · have hc0 : c = 0 := bne_eq_false_iff_eq.1 hc
        have HC0 := hide3 hc0
        subst hc0
        go_wp2_with (go_at_call 66; refine HDA.out.mono ?_; rintro e1 w1 ⟨rfl, ht1⟩; have HT1 := hide3 ht1; clear ht1)
        exact ⟨⟨i + 1, by omega, by go_num, rfl, by rw [HNX.out], by rw [HNX.out]; exact HT1.out⟩, by simp [intOf]; omega⟩
      · have HRN := hide3 (HST.out hc)
        rw [HRN.out, if_pos hc] at HE
        clear HST HNX HRN
        go_wp2_with (go_at_call 66; refine HDA.out.mono ?_; rintro e1 w1 ⟨rfl, ht1⟩; have HT1 := hide3 ht1; clear ht1)
        refine wp_goto ?_
        refine And.intro (rfl : (0 : Nat) = 0) ?_
        go_wp2_with fail
        rw [jump_ret]
        go_ret
        rw [HE.out]
        exact ⟨rfl, HT1.out.more (by omega)⟩
    · obtain rfl : i = l.length := by omega
      have hii : ¬ ((l.length : Int) < (l.length : Int)) := by omega
      rw [List.take_length] at HT H0
      rw [if_neg (by rw [H0.out]; decide)] at HE
      obtain ⟨WR, rfl⟩ : ∃ q, q = wr := ⟨wr, rfl⟩
      clear HD HZ HH H0 hi
      generalize (runA l x).2 = y0 at *
      go_wp2_with fail
      generalize hW2 : WR.alloc (.cells #[.string ⟨#[47, 106, 111, 117, 114, 110, 97, 108, 47, 112, 108, 97, 110]⟩, .string ⟨#[47, 106, 111, 117, 114, 110, 97, 108, 47, 112, 108, 97, 110, 46, 110, 101, 119]⟩, .string ⟨#[47, 106, 111, 117, 114, 110, 97, 108]⟩] 9) = W2
      have HB2 : Hid (Below WR.heap.size WR W2) := by rw [← hW2]; exact (Below.refl _ _).alloc (Nat.le_refl _) _
      obtain ⟨n1, rv1, hp1, hu1, hj1⟩ := HT.out
      have HCL : Hid (∀ W, Upd (Foot d mb rv1) W2 W → ∀ i (hi : i < 3), W.cell? ⟨WR.heap.size, i, none⟩ = some (.string (j3[i]'hi))) := fun W hu i hi => by
        have hsz : WR.heap.size < W2.heap.size := by
          rw [← hW2]
          show WR.heap.size < (WR.heap.push _).size
          rw [Array.size_push]
          exact Nat.lt_succ_self _
        rw [World.cell?_of_block (w := W2) (hu.block _ hsz fun f => absurd (hp1.disk.foot_lt f).1 (Nat.lt_irrefl _)), ← hW2, World.cell?_alloc_new]
        rcases (by omega : i = 0 ∨ i = 1 ∨ i = 2) with rfl | rfl | rfl <;> rfl
      have HP2 : Hid (PrgK B W2 d mb n1 rv1 y0 m (k + l.length)) := hp1.below HB2.out
      have HFI : Hid (∀ y k' W, PrgT B W2 d mb rv1 y m k' W → PrgT B w d mb rv y m k' W) := fun y k' W ht => (ht.pre HB2.out).step hu1 hj1
      clear hp1 hu1 hj1 hW2 HT
      go_loopw [5, 24] (fun v5 v24 wr => ∃ i : Nat, i ≤ 3 ∧ v24 = .int .i64 i ∧ v5 = .int .i64 0 ∧ (remA (j3.take i) y0).1 = 0 ∧ PrgT B W2 d mb rv1 (remA (j3.take i) y0).2 m (k + l.length + i) wr) (fun _ v24 _ => 3 - (intOf v24).toNat)
      case atStart => exact ⟨0, Nat.zero_le _, rfl, rfl, rfl, PrgT.refl HP2.out⟩
      case round =>
        obtain ⟨i, hi, rfl, rfl, h0, ht⟩ := hrel
        have H0 := hide3 h0
        have HT := hide3 ht
        clear h0 ht
        by_cases hlt : i < 3
        · have b0 := HCL.out wr HT.out.upd i hlt
          have HKI := hide3 (HT.out.kind (j3[i]'hlt) (j3_size _ (List.getElem_mem hlt)))
          have HRM : Hid (∀ W, PrgT B W2 d mb rv1 (remA (j3.take i) y0).2 m (k + l.length + i) W → Calls Tryz.prog 71 #[.pointer (some ⟨d, 0, none⟩), .string (j3[i]'hlt)] W fun e' w' => e' = .returned (.int .i64 (removeD (remA (j3.take i) y0).2 (j3[i]'hlt)).1) ∧ PrgT B W2 d mb rv1 (removeD (remA (j3.take i) y0).2 (j3[i]'hlt)).2 m (k + l.length + i + 1) w') := fun W hT => hT.rem (by omega) _
          have HST := hide3 (remA_stop (l := j3) hlt H0.out)
          have HNX := hide3 (remA_next (l := j3) hlt H0.out)
          have HIF : Hid (remIf (remA (j3.take i) y0).2 (j3[i]'hlt) = if (kindD (remA (j3.take i) y0).2.D (j3[i]'hlt) == 0) = true then (0, (remA (j3.take i) y0).2) else removeD (remA (j3.take i) y0).2 (j3[i]'hlt)) := rfl
          have hii : (i : Int) < 3 := by omega
          have hi0 : (0 : Int) ≤ (i : Int) := by omega
          rw [HIF.out] at HST HNX
          generalize removeD (remA (j3.take i) y0).2 (j3[i]'hlt) = Y at *
          generalize kindD (remA (j3.take i) y0).2.D (j3[i]'hlt) = kk at *
          generalize j3[i]'hlt = s at *
          obtain ⟨c, y⟩ := Y
          simp only at HRM HST HNX
          clear HIF
          cases hkk : (kk == 0)
          · rw [hkk, if_neg (by decide)] at HST HNX
            cases hc : (c != 0)
            · have hc0 : c = 0 := bne_eq_false_iff_eq.1 hc
              subst hc0
              go_wp2_with (first
                | (go_at_call 71; refine (HRM.out _ HT1.out).mono ?_; rintro e2 w2 ⟨rfl, ht2⟩; have HT2 := hide3 ht2; clear ht2)
                | (go_at_call 22; refine HKI.out.mono ?_; rintro e1 w1 ⟨rfl, ht1⟩; have HT1 := hide3 ht1; clear ht1))
              exact ⟨⟨i + 1, by omega, by go_num, rfl, by rw [HNX.out], by rw [HNX.out]; exact HT2.out⟩, by simp [intOf]; omega⟩
            · rw [HST.out hc] at HE
              clear HST HNX
              go_wp2_with (first
                | (go_at_call 71; refine (HRM.out _ HT1.out).mono ?_; rintro e2 w2 ⟨rfl, ht2⟩; have HT2 := hide3 ht2; clear ht2)
                | (go_at_call 22; refine HKI.out.mono ?_; rintro e1 w1 ⟨rfl, ht1⟩; have HT1 := hide3 ht1; clear ht1))
              refine wp_goto ?_
              refine And.intro (rfl : (0 : Nat) = 0) ?_
              go_wp2_with fail
              rw [jump_ret]
              go_ret
              rw [HE.out]
              exact ⟨rfl, (HFI.out _ _ _ HT2.out).more (by omega)⟩
          · rw [hkk, if_pos rfl] at HNX
            clear HST HRM
            go_wp2_with (go_at_call 22; refine HKI.out.mono ?_; rintro e1 w1 ⟨rfl, ht1⟩; have HT1 := hide3 ht1; clear ht1)
            exact ⟨⟨i + 1, by omega, by go_num, rfl, by rw [HNX.out], by rw [HNX.out]; exact HT1.out.more (by omega)⟩, by simp [intOf]; omega⟩
        · obtain rfl : i = 3 := by omega
          rw [show j3.take 3 = j3 from rfl] at HT H0
          go_wp2_with fail
          go_step3
          go_wp2_with fail
          rw [jumpF_ret]
          go_ret
          rw [HE.out, H0.out]
          exact ⟨rfl, HFI.out _ _ _ HT.out⟩
end Go.Proofs.YtpaoimhebheaeaaGreatDoor
namespace Go.Proofs.YtpaoimhebheaeaaGreatDoor
open Go.RowKit Go.Maps Go.WideMaps Go.WideElems Dk
set_option maxRecDepth 100000

theorem put_dir {x : Ab} {p t : ByteArray} (h : kindD x.D p = 2) : ((writeFD x p t).1 == 0) = false := by
  unfold writeFD
  split
  · rename_i q
    exact beq_eq_false_iff_ne.2 (bne_iff_ne.1 q)
  · have hf : (fileD x.D p != 0) = true := by
      unfold fileD
      split
      · assumption
      · rw [h]; rfl
    rw [if_pos hf]
    exact beq_eq_false_iff_ne.2 (bne_iff_ne.1 hf)
theorem finds_eq {x : Ab} {d : De} (h1 : 1 ≤ d.kd) (h4 : d.kd ≤ 4) : (findsB x.D d && ((doA x d).1 == 0)) = (findsP x.D d && ((doA x d).1 == 0)) := by
  obtain ⟨k, p, t⟩ := d
  simp only at h1 h4
  rcases (by omega : k = 1 ∨ k = 2 ∨ k = 3 ∨ k = 4) with rfl | rfl | rfl | rfl
  · have e : findsB x.D ⟨1, p, t⟩ = findsP x.D ⟨1, p, t⟩ := by
      show (!((((1 : Int) == 1) && kindD x.D p != 1) || (((1 : Int) == 2) && kindD x.D p != 2) || (((1 : Int) == 3) && kindD x.D p != 0))) = (kindD x.D p == 1)
      unfold bne
      cases kindD x.D p == 1 <;> simp
    rw [e]
  · have e : findsB x.D ⟨2, p, t⟩ = findsP x.D ⟨2, p, t⟩ := by
      show (!((((2 : Int) == 1) && kindD x.D p != 1) || (((2 : Int) == 2) && kindD x.D p != 2) || (((2 : Int) == 3) && kindD x.D p != 0))) = (kindD x.D p == 2)
      unfold bne
      cases kindD x.D p == 2 <;> simp
    rw [e]
  · have e : findsB x.D ⟨3, p, t⟩ = findsP x.D ⟨3, p, t⟩ := by
      show (!((((3 : Int) == 1) && kindD x.D p != 1) || (((3 : Int) == 2) && kindD x.D p != 2) || (((3 : Int) == 3) && kindD x.D p != 0))) = (kindD x.D p == 0)
      unfold bne
      cases kindD x.D p == 0 <;> simp
    rw [e]
  · have e1 : findsB x.D ⟨4, p, t⟩ = true := rfl
    have e2 : findsP x.D ⟨4, p, t⟩ = (kindD x.D p != 2) := rfl
    rw [e1, e2]
    by_cases hk : kindD x.D p = 2
    · have hr : readE x.D p ≠ 0 := fun e => (read_kind e).2 hk
      have hd : doA x ⟨4, p, t⟩ = writeFD x p t := by
        show (if (readE x.D p != 0 || (readT x.D p).toList != t.toList) = true then writeFD x p t else (0, x)) = _
        rw [if_pos (by rw [bne_iff_ne.2 hr]; rfl)]
      rw [hd, put_dir hk, Bool.and_false, Bool.and_false]
    · rw [bne_iff_ne.2 hk]
theorem loads_plainJ {fs : List Fl} (h : Loads fs) : Plain (loadD fs) := plain_load fs fun f hf => by
  obtain ⟨i, hi, rfl⟩ := List.getElem_of_mem hf
  exact okF_path (h.1 i hi).1
theorem load_self {x : Ab} (hf : Fine x) (he : DirE x.D) : Loads (filesD x.D) ∧ loadD (filesD x.D) = x.D := by
  have hl := loads_all hf.pl.good hf.so he
  have hp := loads_plainJ hl
  exact ⟨hl, plain_eq hp hf.pl fun y => by rw [files_load hf.pl.good hp.good]⟩

set_option maxHeartbeats 16000000 in
theorem can_P {B : Nat} {w : World} {d mb n : Nat} {rv : Value} {x : Ab} {m : Int} {k : Nat} (h : PrgK B w d mb n rv x m k) (l : List De) (a : Option Addr) (cap : Nat) (hd : IsDes w a l) (hz : ∀ d ∈ l, d.pa.size ≤ maxLen ∧ d.da.size ≤ maxLen) (hl : l.length ≤ 8388608) (hk : k + l.length + 2 < 2199023255552) :
    Calls Tryz.prog 29 #[.pointer (some ⟨d, 0, none⟩), .slice a l.length cap] w fun e' w' => e' = .returned (.bool (canR l x)) ∧ Below w.heap.size w w' := by
  have HDW : Hid (∀ W, Below w.heap.size w W → IsDes W a l) := fun W hb => hd.below hb
  have HZ := hide3 hz
  have HCH := hide3 (Check_is l a cap m w h.max hl hd fun d hd => (hz d hd).1)
  by_cases hp : Plan l
  · rw [(prn_yes hp).2] at HCH
    obtain ⟨hls, hle⟩ := load_self h.fine h.de
    have hfl : (filesD x.D).length ≤ k := Nat.le_trans (files_facts h.disk.own).2.1 h.lf
    have HAL : Hid (∀ W, Below w.heap.size w W → Calls Tryz.prog 24 #[.pointer (some ⟨d, 0, none⟩)] W fun e w' => ∃ ao cap, e = .returned (.slice ao (filesD x.D).length cap) ∧ w'.ownsRow W.heap.size 83 3 (.slice ao (filesD x.D).length cap) (filesD x.D).length (fileCells (filesD x.D)) ∧ Below W.heap.size W w') := fun W hb => All_any (h.below hb).disk (by have := h.lf; omega)
    obtain ⟨x0, hx0⟩ : ∃ x0 : Ab, x0 = ⟨x.D, [], -1⟩ := ⟨_, rfl⟩
    have HLO : Hid (∀ W ao cp, Below w.heap.size w W → IsFiles W ao (filesD x.D) → Calls Tryz.prog 26 #[.slice ao (filesD x.D).length cp] W fun e w' => e = .returned (.tuple #[.pointer (some ⟨W.heap.size + 1, 0, none⟩), .int .i64 0]) ∧ Below W.heap.size W w' ∧ ∃ n', PrgK W.heap.size w' (W.heap.size + 1) W.heap.size n' (.slice none 0 0) x0 m k) := fun W ao cp hb hff => by
      refine (Load_any (filesD x.D) ao cp m W (h.below hb).max (by omega) hff (files_size h.disk)).mono ?_
      rintro e w' ⟨hb2, q | q⟩
      · obtain ⟨_, rfl, n', hn', hdk⟩ := q
        rw [hle, ← hx0] at hdk
        refine ⟨rfl, hb2, n', hdk, ?_, ?_, by omega, ?_, ((hb.trans (hb2.mono hb.size)).cell (p := ⟨0, 0, none⟩) (cell_lt h.max)).trans h.max, hb2.size, Nat.lt_of_lt_of_le h.zero (Nat.le_trans h.base hb.size)⟩
        · rw [hx0]; exact ⟨h.fine.pl, h.fine.so, by simp, by simp⟩
        · rw [hx0]; exact h.de
        · rw [hx0]; exact Nat.zero_le _
      · exact absurd hls q.1
    have HCR : Hid (canR l x = canA l x0) := by rw [hx0]; exact canR_yes hp
    have HPP := hide3 hp.parts
    clear h hd hz hp hls hle hx0
    generalize filesD x.D = fl at *
    go_enter Tryz.func29, Tryz.ntmps29
    go_wp2_with fail
    refine wp_scope_fwd 0 rfl ?_
    go_wp2_with (first
      | (go_at_call 26; have _t := HF2; refine (HLO.out _ _ _ HB2.out HF2.out).mono ?_; rintro e3 w3 ⟨rfl, hb3, n3, hp3⟩; have HB3 : Hid (Below w.heap.size w w3) := HB2.out.trans (hb3.mono HB2.out.size); have HP3 := hide3 hp3; clear hb3 hp3)
      | (go_at_call 24; have _t := HB1; refine (HAL.out _ HB1.out).mono ?_; rintro e2 w2 ⟨ao2, cp2, rfl, hr2, hb2⟩; have HB2 : Hid (Below w.heap.size w w2) := HB1.out.trans (hb2.mono HB1.out.size); have HF2 := hide3 (files_row hr2); clear hr2 hb2)
      | (go_at_call 64; refine HCH.out.mono ?_; rintro e1 w1 ⟨rfl, hb1⟩; have HB1 := hide3 hb1; clear hb1))
    clear HB1 HF2 HCH HAL HLO
    go_loopw [22] (fun v22 wr => ∃ i : Nat, i ≤ l.length ∧ v22 = .int .i64 i ∧ canA (l.take i) x0 = true ∧ PrgT w2.heap.size w3 (w2.heap.size + 1) w2.heap.size (.slice none 0 0) (runA (l.take i) x0).2 m (k + i) wr) (fun v22 _ => l.length - (intOf v22).toNat)
    case atStart => exact ⟨0, Nat.zero_le _, rfl, rfl, PrgT.refl HP3.out⟩
    case round =>
      obtain ⟨i, hi, rfl, hca, ht⟩ := hrel
      have HCA := hide3 hca
      have HT := hide3 ht
      have HBT : Hid (∀ y k' W, PrgT w2.heap.size w3 (w2.heap.size + 1) w2.heap.size (.slice none 0 0) y m k' W → Below w.heap.size w W) := fun y k' W ht => HB3.out.trans ((PrgT.bel HP3.out ht).mono HB2.out.size)
      have HBR : Hid (Below w.heap.size w wr) := HBT.out _ _ _ ht
      clear hca ht
      by_cases hlt : i < l.length
      · obtain ⟨g, off, rfl, hg, hcs⟩ : ∃ g off, a = some ⟨g, off, none⟩ ∧ g < wr.heap.size ∧ DesIn wr g off l := by
          rcases HDW.out wr HBR.out with q | q
          · rw [q] at hlt; exact absurd hlt (Nat.not_lt_zero _)
          · exact q
        obtain ⟨b0, b1, b2⟩ := hcs i hlt
        have hzi := HZ.out l[i] (List.getElem_mem hlt)
        have hpi := HPP.out l[i] (List.getElem_mem hlt)
        have HFN : Hid (∀ W, PrgT w2.heap.size w3 (w2.heap.size + 1) w2.heap.size (.slice none 0 0) (runA (l.take i) x0).2 m (k + i) W → Calls Tryz.prog 65 #[.pointer (some ⟨w2.heap.size + 1, 0, none⟩), .agg #[.int .i64 l[i].kd, .string l[i].pa, .string l[i].da]] W fun e' w' => e' = .returned (.bool (findsP (runA (l.take i) x0).2.D l[i])) ∧ Below W.heap.size W w' ∧ PrgT w2.heap.size w3 (w2.heap.size + 1) w2.heap.size (.slice none 0 0) (runA (l.take i) x0).2 m (k + i) w') := fun W hT => by
          have hT2 := hT
          obtain ⟨n1, rv1, hp1, _⟩ := hT
          exact (pfinds_any hp1 l[i] hzi.1).mono fun _ _ q => ⟨q.1, q.2, hT2.below q.2⟩
        have HDO : Hid (∀ W, PrgT w2.heap.size w3 (w2.heap.size + 1) w2.heap.size (.slice none 0 0) (runA (l.take i) x0).2 m (k + i) W → Calls Tryz.prog 66 #[.pointer (some ⟨w2.heap.size + 1, 0, none⟩), .agg #[.int .i64 l[i].kd, .string l[i].pa, .string l[i].da]] W fun e' w' => e' = .returned (.int .i64 (doA (runA (l.take i) x0).2 l[i]).1) ∧ PrgT w2.heap.size w3 (w2.heap.size + 1) w2.heap.size (.slice none 0 0) (doA (runA (l.take i) x0).2 l[i]).2 m (k + i + 1) w') := fun W hT => hT.doD (by omega) l[i] hzi.1 hzi.2
        have HAL : Hid (PrgT w2.heap.size w3 (w2.heap.size + 1) w2.heap.size (.slice none 0 0) (runA (l.take i) x0).2 m (k + i) (wr.alloc (.cells #[.int .i64 l[i].kd, .string l[i].pa, .string l[i].da] 54))) := HT.out.below ((Below.refl _ _).alloc (Nat.le_refl _) _)
        have HBX : Hid (∀ W, Below (wr.alloc (.cells #[.int .i64 l[i].kd, .string l[i].pa, .string l[i].da] 54)).heap.size (wr.alloc (.cells #[.int .i64 l[i].kd, .string l[i].pa, .string l[i].da] 54)) W → BxDe W wr.heap.size l[i].kd l[i].pa l[i].da) := fun W hb => keepBxDe _ _ _ _ _ _ (bxDe_new _ _ _ _) hb
        have HST := hide3 (canA_step hlt HCA.out)
        rw [finds_eq (x := (runA (l.take i) x0).2) hpi.1 hpi.2.1] at HST
        have HNX := hide3 (runA_next hlt (canA_run _ HCA.out))
        have HNO : Hid (canA (l.take (i + 1)) x0 = false → canR l x = false) := fun q => by rw [HCR.out]; exact canA_no q
        have hii : (i : Int) < (l.length : Int) := by omega
        have hi0 : (0 : Int) ≤ (i : Int) := by omega
        clear hcs HCA hzi hpi
        generalize doA (runA (l.take i) x0).2 l[i] = Y at *
        generalize findsP (runA (l.take i) x0).2.D l[i] = fb at *
        generalize l[i].kd = kd at *
        generalize l[i].pa = p at *
        generalize l[i].da = t at *
        obtain ⟨c, y⟩ := Y
        simp only at HDO HST HNX
        have HFA := hide3 (HFN.out _ HAL.out)
        clear HFN HAL
        cases fb
        · have HFF : Hid (canR l x = false) := HNO.out (by rw [HST.out]; rfl)
          clear HST HNX HNO HCR HDO
          go_wp2_with (go_at_call 65; refine HFA.out.mono ?_; rintro e4 w4 ⟨rfl, hb4, ht4⟩; have HT4 := hide3 ht4; obtain ⟨y0, y1, y2, y3⟩ := HBX.out w4 hb4; clear hb4 ht4)
          refine wp_goto ?_
          refine And.intro (rfl : (0 : Nat) = 0) ?_
          go_wp2_with fail
          rw [jump_ret]
          go_ret
          rw [HFF.out]
          exact ⟨rfl, HBT.out _ _ _ HT4.out⟩
        · cases hc : (c == 0)
          · have hcn : (c != 0) = true := by unfold bne; rw [hc]; rfl
            have HFF : Hid (canR l x = false) := HNO.out (by rw [HST.out, hc, Bool.and_false])
            clear HST HNX HNO HCR
            go_wp2_with (first
              | (go_at_call 66; have _t := HT4; refine (HDO.out _ HT4.out).mono ?_; rintro e5 w5 ⟨rfl, ht5⟩; have HT5 := hide3 ht5; clear ht5)
              | (go_at_call 65; refine HFA.out.mono ?_; rintro e4 w4 ⟨rfl, hb4, ht4⟩; have HT4 := hide3 ht4; obtain ⟨y0, y1, y2, y3⟩ := HBX.out w4 hb4; clear hb4 ht4))
            refine wp_goto ?_
            refine And.intro (rfl : (0 : Nat) = 0) ?_
            go_wp2_with fail
            rw [jump_ret]
            go_ret
            rw [HFF.out]
            exact ⟨rfl, HBT.out _ _ _ HT5.out⟩
          · have hcn : (c != 0) = false := by unfold bne; rw [hc]; rfl
            have HFT : Hid (canA (l.take (i + 1)) x0 = true) := by unfold Hid; rw [HST.out, hc]; rfl
            clear HST HNO HCR
            go_wp2_with (first
              | (go_at_call 66; have _t := HT4; refine (HDO.out _ HT4.out).mono ?_; rintro e5 w5 ⟨rfl, ht5⟩; have HT5 := hide3 ht5; clear ht5)
              | (go_at_call 65; refine HFA.out.mono ?_; rintro e4 w4 ⟨rfl, hb4, ht4⟩; have HT4 := hide3 ht4; obtain ⟨y0, y1, y2, y3⟩ := HBX.out w4 hb4; clear hb4 ht4))
            exact ⟨⟨i + 1, by omega, by go_num, HFT.out, by rw [HNX.out]; exact HT5.out⟩, by simp [intOf]; omega⟩
      · obtain rfl : i = l.length := by omega
        have hii : ¬ ((l.length : Int) < (l.length : Int)) := by omega
        have HCT : Hid (canR l x = true) := by unfold Hid; rw [HCR.out]; have := HCA.out; rw [List.take_length] at this; exact this
        go_wp2_with fail
        rw [jumpF_ret]
        go_ret
        rw [HCT.out]
        exact ⟨rfl, HBR.out⟩
  · rw [(prn_no hp).2] at HCH
    rw [canR_no hp]
    clear hp h hd
    go_enter Tryz.func29, Tryz.ntmps29
    go_wp2_with fail
    refine wp_scope_fwd 0 rfl ?_
    go_wp2_with (go_at_call 64; refine HCH.out.mono ?_; rintro e1 w1 ⟨rfl, hb1⟩; have HB1 := hide3 hb1; clear hb1)
    rw [jumpF_ret]
    go_ret
    exact ⟨rfl, HB1.out⟩
end Go.Proofs.YtpaoimhebheaeaaGreatDoor
namespace Go.Proofs.YtpaoimhebheaeaaGreatDoor
open Go.RowKit Go.Maps Go.WideMaps Go.WideElems Dk
set_option maxRecDepth 100000

theorem key_lit (s : ByteArray) : WideAt.IsKeyLit (keyD s) := trivial
theorem kind_put_same {D : DataW Unit} (hP : Plain D) {s : ByteArray} (c : Bool) (t : ByteArray) (hr : (s.toList == [47]) = false) : kindD (D.put (keyD s) (itemD c t)) s = if c = true then 2 else 1 := by
  unfold kindD
  rw [if_neg (by rw [hr]; decide), has_put_same hP.isMap (key_lit s), if_pos rfl, atKey_put_same hP.isMap (key_lit s), itDir_mk]
theorem kind_del_same {D : DataW Unit} {s : ByteArray} (hr : (s.toList == [47]) = false) : kindD (D.del (keyD s)) s = 0 := kind_none hr has_del_same
theorem read_put_same {D : DataW Unit} (hP : Plain D) {s : ByteArray} (t : ByteArray) (hok : okPath s = true) : readT (D.put (keyD s) (itemD false t)) s = t := by
  have hk := kind_put_same hP false t (root_not hok)
  have hb : pathB s = true := by unfold okPath at hok; rw [Bool.and_eq_true] at hok; exact hok.1
  have he : readE (D.put (keyD s) (itemD false t)) s = 0 := by
    unfold readE
    rw [if_pos hb, hk]
    rfl
  unfold readT
  rw [he, if_pos (show ((0 : Int) == 0) = true from rfl), atKey_put_same hP.isMap (key_lit s), itData_mk, bytes_mk]
theorem ite_one {c : Prop} [Decidable c] {a : Int} {x : Ab} {b : Int × Ab} (h : (if c then (a, x) else b).1 = 0) (ha : c → a ≠ 0) : ¬ c := fun q => ha q (by rw [if_pos q] at h; exact h)
theorem ne_of_bne {a : Int} (h : (a != 0) = true) : a ≠ 0 := bne_iff_ne.1 h
/-- A directory that was made. -/
theorem mk_done {x : Ab} (hf : Fine x) {s : ByteArray} (h : (mkdirD x s).1 = 0) : x.left ≠ 0 ∧ kindD x.D s = 0 ∧ (mkdirD x s).2 = noteAb { D := x.D.put (keyD s) (itemD true ByteArray.empty), rs := x.rs, left := x.left } (1, s, ByteArray.empty) ∧ kindD (mkdirD x s).2.D s = 2 := by
  unfold mkdirD at h ⊢
  have h1 := ite_one h ne_of_bne
  rw [if_neg h1] at h ⊢
  have h2 := ite_one h ne_of_bne
  rw [if_neg h2] at h ⊢
  have h3 := ite_one h fun _ => by decide
  rw [if_neg h3]
  refine ⟨fun e => h1 ?_, bne_eq_false_iff_eq.1 (Bool.eq_false_iff.2 h3), rfl, kind_put_same hf.pl _ _ (root_not (wr_ok h1))⟩
  unfold writeD
  rw [e]
  rfl
/-- A file that was written. -/
theorem wt_done {x : Ab} (hf : Fine x) {s t : ByteArray} (h : (writeFD x s t).1 = 0) : x.left ≠ 0 ∧ (writeFD x s t).2 = noteAb { D := x.D.put (keyD s) (itemD false t), rs := x.rs, left := x.left } (2, s, ByteArray.empty) ∧ kindD (writeFD x s t).2.D s = 1 ∧ readT (writeFD x s t).2.D s = t := by
  unfold writeFD at h ⊢
  have h1 := ite_one h ne_of_bne
  rw [if_neg h1] at h ⊢
  have h2 := ite_one h ne_of_bne
  rw [if_neg h2]
  refine ⟨fun e => h1 ?_, rfl, kind_put_same hf.pl _ _ (root_not (wr_ok h1)), read_put_same hf.pl t (wr_ok h1)⟩
  unfold writeD
  rw [e]
  rfl
/-- What was removed. -/
theorem rem_done {x : Ab} {s : ByteArray} (h : (removeD x s).1 = 0) : x.left ≠ 0 ∧ (removeD x s).2 = noteAb { D := x.D.del (keyD s), rs := x.rs, left := x.left } (4, s, ByteArray.empty) ∧ kindD (removeD x s).2.D s = 0 := by
  unfold removeD at h ⊢
  have h1 := ite_one h ne_of_bne
  rw [if_neg h1] at h ⊢
  have h2 := ite_one h fun _ => by decide
  rw [if_neg h2] at h ⊢
  have h3 := ite_one h fun _ => by decide
  rw [if_neg h3]
  refine ⟨fun e => h1 ?_, rfl, kind_del_same (root_not (wr_ok h1))⟩
  unfold writeD
  rw [e]
  rfl
/-- A file that was renamed. -/
theorem ren_done {x : Ab} (hf : Fine x) {s t : ByteArray} (hst : s ≠ t) (h : (renameD x s t).1 = 0) : x.left ≠ 0 ∧ (renameD x s t).2 = noteAb { D := (x.D.del (keyD s)).put (keyD t) (itemD false (readT x.D s)), rs := x.rs, left := x.left } (3, s, t) ∧ kindD (renameD x s t).2.D t = 1 ∧ readT (renameD x s t).2.D t = readT x.D s ∧ kindD (renameD x s t).2.D s = 0 := by
  unfold renameD at h ⊢
  have h1 := ite_one h ne_of_bne
  rw [if_neg h1] at h ⊢
  have h2 := ite_one h ne_of_bne
  rw [if_neg h2] at h ⊢
  have h3 := ite_one h ne_of_bne
  rw [if_neg h3]
  have hok := writeD_ok (Bool.eq_false_iff.2 h1)
  simp only [List.all_cons, List.all_nil, Bool.and_true, Bool.and_eq_true] at hok
  refine ⟨fun e => h1 ?_, rfl, kind_put_same (hf.pl.del _) _ _ (root_not hok.2), read_put_same (hf.pl.del _) _ hok.2, (kind_put_other hst).trans (kind_del_same (root_not hok.1))⟩
  unfold writeD
  rw [e]
  rfl
/-- A raw write that fails changes nothing. -/
theorem rem_fail {x : Ab} {s : ByteArray} (h : (removeD x s).1 ≠ 0) : (removeD x s).2 = x := by
  unfold removeD at h ⊢
  split
  · rfl
  · rename_i h1
    rw [if_neg h1] at h
    split
    · rfl
    · rename_i h2
      rw [if_neg h2] at h
      split
      · rfl
      · rename_i h3
        rw [if_neg h3] at h
        exact absurd rfl h
/-- The first three raw writes. -/
def wr3 (l : List De) (x : Ab) : Int × Ab :=
  if ((mkdirD x jn).1 != 0) = true then mkdirD x jn
  else if ((writeFD (mkdirD x jn).2 pN (textD l)).1 != 0) = true then writeFD (mkdirD x jn).2 pN (textD l)
  else renameD (writeFD (mkdirD x jn).2 pN (textD l)).2 pN pP
theorem writ_wr3 (l : List De) (x : Ab) : writA l x = if ((wr3 l x).1 != 0) = true then wr3 l x else endA l (wr3 l x).2 := by
  unfold writA wr3
  by_cases h1 : ((mkdirD x jn).1 != 0) = true
  · rw [if_pos h1, if_pos h1, if_pos h1]
  · rw [if_neg h1, if_neg h1]
    by_cases h2 : ((writeFD (mkdirD x jn).2 pN (textD l)).1 != 0) = true
    · rw [if_pos h2, if_pos h2, if_pos h2]
    · rw [if_neg h2, if_neg h2]
/-- Behind the three the plan is there. -/
theorem wr3_done {l : List De} {x : Ab} (hf : Fine x) (h : (wr3 l x).1 = 0) : Fine (wr3 l x).2 ∧ kindD (wr3 l x).2.D jn = 2 ∧ kindD (wr3 l x).2.D pP = 1 ∧ kindD (wr3 l x).2.D pN = 0 ∧ readT (wr3 l x).2.D pP = textD l ∧ (wr3 l x).2.rs = x.rs ++ [(1, jn, ByteArray.empty), (2, pN, ByteArray.empty), (3, pN, pP)] := by
  unfold wr3 at h ⊢
  have h1 : ¬ ((mkdirD x jn).1 != 0) = true := fun q => by rw [if_pos q] at h; exact ne_of_bne q h
  rw [if_neg h1] at h ⊢
  have h2 : ¬ ((writeFD (mkdirD x jn).2 pN (textD l)).1 != 0) = true := fun q => by rw [if_pos q] at h; exact ne_of_bne q h
  rw [if_neg h2] at h ⊢
  obtain ⟨_, _, a1, a2⟩ := mk_done hf (bne_eq_false_iff_eq.1 (Bool.eq_false_iff.2 h1))
  have f1 := (mk_fine hf jn).1
  obtain ⟨_, b1, b2, b3⟩ := wt_done f1 (bne_eq_false_iff_eq.1 (Bool.eq_false_iff.2 h2))
  have f2 := (wt_fine f1 pN (textD l)).1
  obtain ⟨_, c1, c2, c3, c4⟩ := ren_done f2 pN_pP h
  refine ⟨(ren_fine f2 pN pP).1, ?_, c2, c4, by rw [c3, b3], ?_⟩
  · rw [(tch_ren _ pN pP).kind jn fun q => q.elim jn_pN jn_pP, (tch_wt _ pN (textD l)).kind jn jn_pN, a2]
  · rw [c1, b1, a1]
    simp [noteAb]
end Go.Proofs.YtpaoimhebheaeaaGreatDoor
namespace Go.Proofs.YtpaoimhebheaeaaGreatDoor
open Go.RowKit Go.Maps Go.WideMaps Go.WideElems Dk
set_option maxRecDepth 100000

set_option maxHeartbeats 8000000 in
theorem write_P {B : Nat} {w : World} {d mb n : Nat} {rv : Value} {x : Ab} {m : Int} {k : Nat} (h : PrgK B w d mb n rv x m k) (l : List De) (a : Option Addr) (cap : Nat) (hp : Plan l) (hd : IsDes w a l) (hz : ∀ d ∈ l, d.pa.size ≤ maxLen ∧ d.da.size ≤ 100000000) (hsz : (textD l).size ≤ 4194304) (hl : l.length ≤ 8388608) (hk : k + 4 < 2199023255552) :
    Calls Tryz.prog 30 #[.pointer (some ⟨d, 0, none⟩), .slice a l.length cap] w fun e' w' => e' = .returned (.int .i64 (wr3 l x).1) ∧ PrgT B w d mb rv (wr3 l x).2 m (k + 3) w' := by
  have HPR := hide3 (Print_any l a cap m w h.max hl hd hz hsz)
  rw [(prn_yes hp).1, (prn_yes hp).2] at HPR
  have HM : Hid (∀ W, Below w.heap.size w W → Calls Tryz.prog 68 #[.pointer (some ⟨d, 0, none⟩), .string ⟨#[47, 106, 111, 117, 114, 110, 97, 108]⟩] W fun e' w' => e' = .returned (.int .i64 (mkdirD x jn).1) ∧ PrgT B w d mb rv (mkdirD x jn).2 m (k + 1) w') := fun W hb => (h.away hb).call fun _ _ h => pMk h (by omega) jn
  have HW : Hid (∀ W, PrgT B w d mb rv (mkdirD x jn).2 m (k + 1) W → Calls Tryz.prog 69 #[.pointer (some ⟨d, 0, none⟩), .string ⟨#[47, 106, 111, 117, 114, 110, 97, 108, 47, 112, 108, 97, 110, 46, 110, 101, 119]⟩, .string (textD l)] W fun e' w' => e' = .returned (.int .i64 (writeFD (mkdirD x jn).2 pN (textD l)).1) ∧ PrgT B w d mb rv (writeFD (mkdirD x jn).2 pN (textD l)).2 m (k + 2) w') := fun W ht => ht.call fun _ _ h => pWt h (by omega) pN (textD l) (by unfold maxLen; omega)
  have HRN : Hid (∀ W, PrgT B w d mb rv (writeFD (mkdirD x jn).2 pN (textD l)).2 m (k + 2) W → Calls Tryz.prog 70 #[.pointer (some ⟨d, 0, none⟩), .string ⟨#[47, 106, 111, 117, 114, 110, 97, 108, 47, 112, 108, 97, 110, 46, 110, 101, 119]⟩, .string ⟨#[47, 106, 111, 117, 114, 110, 97, 108, 47, 112, 108, 97, 110]⟩] W fun e' w' => e' = .returned (.int .i64 (renameD (writeFD (mkdirD x jn).2 pN (textD l)).2 pN pP).1) ∧ PrgT B w d mb rv (renameD (writeFD (mkdirD x jn).2 pN (textD l)).2 pN pP).2 m (k + 3) w') := fun W ht => ht.call fun _ _ h => pRen h (by omega) pN pP
  have HWA : Hid (wr3 l x = (if ((mkdirD x jn).1 != 0) = true then mkdirD x jn
  else if ((writeFD (mkdirD x jn).2 pN (textD l)).1 != 0) = true then writeFD (mkdirD x jn).2 pN (textD l)
  else renameD (writeFD (mkdirD x jn).2 pN (textD l)).2 pN pP)) := rfl
  clear h hd hz hsz hp
  generalize renameD (writeFD (mkdirD x jn).2 pN (textD l)).2 pN pP = Y3 at *
  generalize writeFD (mkdirD x jn).2 pN (textD l) = Y2 at *
  generalize mkdirD x jn = Y1 at *
  generalize textD l = T at *
  generalize wr3 l x = G at *
  obtain ⟨c1, y1⟩ := Y1
  obtain ⟨c2, y2⟩ := Y2
  obtain ⟨c3, y3⟩ := Y3
  simp only at HWA HM HW HRN
  cases h1 : (c1 != 0)
  · rw [h1, if_neg (by decide)] at HWA
    cases h2 : (c2 != 0)
    · rw [h2, if_neg (by decide)] at HWA
      rw [HWA.out]
      clear HWA
      go_enter Tryz.func30, Tryz.ntmps30
      go_wp2_with (first
        | (go_at_call 70; have _t := HT4; refine (HRN.out _ HT4.out).mono ?_; rintro e5 w5 ⟨rfl, ht5⟩; have HT5 := hide3 ht5; clear ht5)
        | (go_at_call 69; have _t := HT3; refine (HW.out _ HT3.out).mono ?_; rintro e4 w4 ⟨rfl, ht4⟩; have HT4 := hide3 ht4; clear ht4)
        | (go_at_call 68; have _t := HB2; refine (HM.out _ HB2.out).mono ?_; rintro e3 w3 ⟨rfl, ht3⟩; have HT3 := hide3 ht3; clear ht3)
        | (go_at_call 67; refine HPR.out.mono ?_; rintro e2 w2 ⟨rfl, hb2⟩; have HB2 := hide3 hb2; clear hb2))
      go_ret
      exact ⟨rfl, HT5.out⟩
    · rw [h2, if_pos rfl] at HWA
      rw [HWA.out]
      clear HWA
      go_enter Tryz.func30, Tryz.ntmps30
      go_wp2_with (first
        | (go_at_call 69; have _t := HT3; refine (HW.out _ HT3.out).mono ?_; rintro e4 w4 ⟨rfl, ht4⟩; have HT4 := hide3 ht4; clear ht4)
        | (go_at_call 68; have _t := HB2; refine (HM.out _ HB2.out).mono ?_; rintro e3 w3 ⟨rfl, ht3⟩; have HT3 := hide3 ht3; clear ht3)
        | (go_at_call 67; refine HPR.out.mono ?_; rintro e2 w2 ⟨rfl, hb2⟩; have HB2 := hide3 hb2; clear hb2))
      go_ret
      exact ⟨rfl, HT4.out.more (by omega)⟩
  · rw [h1, if_pos rfl] at HWA
    rw [HWA.out]
    clear HWA
    go_enter Tryz.func30, Tryz.ntmps30
    go_wp2_with (first
      | (go_at_call 68; have _t := HB2; refine (HM.out _ HB2.out).mono ?_; rintro e3 w3 ⟨rfl, ht3⟩; have HT3 := hide3 ht3; clear ht3)
      | (go_at_call 67; refine HPR.out.mono ?_; rintro e2 w2 ⟨rfl, hb2⟩; have HB2 := hide3 hb2; clear hb2))
    go_ret
    exact ⟨rfl, HT3.out.more (by omega)⟩

set_option maxHeartbeats 8000000 in
theorem commit_P {B : Nat} {w : World} {d mb n : Nat} {rv : Value} {x : Ab} {m : Int} {k : Nat} (h : PrgK B w d mb n rv x m k) (l : List De) (a : Option Addr) (cap : Nat) (hd : ∀ W, Upd (Foot d mb rv) w W → IsDes W a l) (hz : ∀ d ∈ l, d.pa.size ≤ maxLen ∧ d.da.size ≤ 100000000) (hsz : (textD l).size ≤ 4194304) (hl : l.length ≤ 8388608) (hk : k + l.length + 8 < 2199023255552) :
    Calls Tryz.prog 12 #[.pointer (some ⟨d, 0, none⟩), .slice a l.length cap] w fun e' w' => e' = .returned (.int .i64 (commitA l x).1) ∧ PrgT B w d mb rv (commitA l x).2 m (k + l.length + 6) w' := by
  have hz2 : ∀ d ∈ l, d.pa.size ≤ maxLen ∧ d.da.size ≤ maxLen := fun d q => ⟨(hz d q).1, Nat.le_trans (hz d q).2 (by decide)⟩
  have HDN : Hid (Calls Tryz.prog 28 #[.pointer (some ⟨d, 0, none⟩)] w fun e w' => e = .returned (.bool (x.left == 0)) ∧ w' = w) := Down_any h.disk
  have HK : Hid (Calls Tryz.prog 22 #[.pointer (some ⟨d, 0, none⟩), .string ⟨#[47, 106, 111, 117, 114, 110, 97, 108]⟩] w fun e' w' => e' = .returned (.int .i64 (kindD x.D jn)) ∧ Below w.heap.size w w') := pKind h jn (by decide)
  have HCN : Hid (∀ W, Below w.heap.size w W → Calls Tryz.prog 29 #[.pointer (some ⟨d, 0, none⟩), .slice a l.length cap] W fun e' w' => e' = .returned (.bool (canR l x)) ∧ Below W.heap.size W w') := fun W hb => can_P (h.below hb) l a cap (hd W (Upd.of_below hb)) hz2 hl (by omega)
  have HWR : Hid (canR l x = true → ∀ W, Below w.heap.size w W → Calls Tryz.prog 30 #[.pointer (some ⟨d, 0, none⟩), .slice a l.length cap] W fun e' w' => e' = .returned (.int .i64 (wr3 l x).1) ∧ PrgT B w d mb rv (wr3 l x).2 m (k + 3) w') := fun hc W hb => by
    have hp : Plan l := by
      by_cases hp : Plan l
      · exact hp
      · rw [canR_no hp] at hc; cases hc
    exact (h.away hb).callu fun _ _ h1 hu => write_P h1 l a cap hp (hd W (hu W (Upd.refl _ _))) hz hsz hl (by omega)
  have HFN : Hid (canR l x = true → (wr3 l x).1 = 0 → ∀ W, PrgT B w d mb rv (wr3 l x).2 m (k + 3) W → Calls Tryz.prog 31 #[.pointer (some ⟨d, 0, none⟩), .slice a l.length cap] W fun e' w' => e' = .returned (.int .i64 (endA l (wr3 l x).2).1) ∧ PrgT B w d mb rv (endA l (wr3 l x).2).2 m (k + l.length + 6) w') := fun hc h0 W ht => by
    have hp : Plan l := by
      by_cases hp : Plan l
      · exact hp
      · rw [canR_no hp] at hc; cases hc
    obtain ⟨_, k1, k2, k3, _⟩ := wr3_done h.fine h0
    rw [← fin_end hp k1 (by rw [k2]; decide) (by rw [k3]; decide)]
    exact ht.callu fun _ _ h1 hu => (fin_P h1 l a cap (fun W2 hb => hd W2 (hu W2 hb)) hz2 (by omega)).mono fun _ _ q => ⟨q.1, q.2.more (by omega)⟩
  have HSM : Hid (∀ W, Below w.heap.size w W → PrgT B w d mb rv x m (k + l.length + 6) W) := fun W hb => (h.away hb).more (by omega)
  have HCA : Hid (commitA l x = (if (x.left == 0) = true then (15, x)
  else if (kindD x.D jn != 0) = true then (11, x)
  else if canR l x = false then (44, x)
  else if (l.length == 0) = true then (0, x)
  else writA l x)) := rfl
  have HWA := hide3 (writ_wr3 l x)
  clear h hd hz hz2 hsz
  generalize endA l (wr3 l x).2 = Y4 at *
  generalize wr3 l x = Y3 at *
  generalize writA l x = Y2 at *
  generalize commitA l x = G at *
  generalize kindD x.D jn = kk at *
  generalize canR l x = cr at *
  obtain ⟨c3, y3⟩ := Y3
  simp only at HWR HFN HWA
  cases hl0 : (x.left == 0)
  · rw [hl0, if_neg (by decide)] at HCA
    rw [hl0] at HDN
    cases hkk : (kk != 0)
    · rw [hkk, if_neg (by decide)] at HCA
      cases cr
      · rw [if_pos rfl] at HCA
        rw [HCA.out]
        clear HCA HWA HWR HFN
        go_enter Tryz.func12, Tryz.ntmps12
        go_wp2_with (first
          | (go_at_call 29; have _t := HB1; refine (HCN.out _ HB1.out).mono ?_; rintro e2 w2 ⟨rfl, hb2⟩; have HB2 := hide3 (HB1.out.trans (hb2.mono HB1.out.size)); clear hb2)
          | (go_at_call 22; refine HK.out.mono ?_; rintro e1 w1 ⟨rfl, hb1⟩; have HB1 := hide3 hb1; clear hb1)
          | (go_at_call 28; refine HDN.out.mono ?_; rintro e0 w0 ⟨rfl, rfl⟩))
        go_ret
        exact ⟨rfl, HSM.out _ HB2.out⟩
      · rw [if_neg (by decide)] at HCA
        cases hn : (l.length == 0)
        · have hni : ((l.length : Int) == 0) = false := beq_eq_false_iff_ne.2 (by have := beq_eq_false_iff_ne.1 hn; omega)
          rw [hn, if_neg (by decide), HWA.out] at HCA
          have HW2 := hide3 (HWR.out rfl)
          clear HWA hn HWR
          cases h3 : (c3 != 0)
          · rw [h3, if_neg (by decide)] at HCA
            have HF2 := hide3 (HFN.out rfl (bne_eq_false_iff_eq.1 h3))
            rw [HCA.out]
            clear HCA HFN
            go_enter Tryz.func12, Tryz.ntmps12
            go_wp2_with (first
              | (go_at_call 31; have _t := HT3; refine (HF2.out _ HT3.out).mono ?_; rintro e4 w4 ⟨rfl, ht4⟩; have HT4 := hide3 ht4; clear ht4)
              | (go_at_call 30; have _t := HB2; refine (HW2.out _ HB2.out).mono ?_; rintro e3 w3 ⟨rfl, ht3⟩; have HT3 := hide3 ht3; clear ht3)
              | (go_at_call 29; have _t := HB1; refine (HCN.out _ HB1.out).mono ?_; rintro e2 w2 ⟨rfl, hb2⟩; have HB2 := hide3 (HB1.out.trans (hb2.mono HB1.out.size)); clear hb2)
              | (go_at_call 22; refine HK.out.mono ?_; rintro e1 w1 ⟨rfl, hb1⟩; have HB1 := hide3 hb1; clear hb1)
              | (go_at_call 28; refine HDN.out.mono ?_; rintro e0 w0 ⟨rfl, rfl⟩))
            go_ret
            exact ⟨rfl, HT4.out⟩
          · rw [h3, if_pos rfl] at HCA
            rw [HCA.out]
            clear HCA HFN
            go_enter Tryz.func12, Tryz.ntmps12
            go_wp2_with (first
              | (go_at_call 30; have _t := HB2; refine (HW2.out _ HB2.out).mono ?_; rintro e3 w3 ⟨rfl, ht3⟩; have HT3 := hide3 ht3; clear ht3)
              | (go_at_call 29; have _t := HB1; refine (HCN.out _ HB1.out).mono ?_; rintro e2 w2 ⟨rfl, hb2⟩; have HB2 := hide3 (HB1.out.trans (hb2.mono HB1.out.size)); clear hb2)
              | (go_at_call 22; refine HK.out.mono ?_; rintro e1 w1 ⟨rfl, hb1⟩; have HB1 := hide3 hb1; clear hb1)
              | (go_at_call 28; refine HDN.out.mono ?_; rintro e0 w0 ⟨rfl, rfl⟩))
            go_ret
            exact ⟨rfl, HT3.out.more (by omega)⟩
        · have hni : ((l.length : Int) == 0) = true := beq_iff_eq.2 (by have := beq_iff_eq.1 hn; omega)
          rw [hn, if_pos rfl] at HCA
          rw [HCA.out]
          clear HCA HWA HWR HFN hn
          go_enter Tryz.func12, Tryz.ntmps12
          go_wp2_with (first
            | (go_at_call 29; have _t := HB1; refine (HCN.out _ HB1.out).mono ?_; rintro e2 w2 ⟨rfl, hb2⟩; have HB2 := hide3 (HB1.out.trans (hb2.mono HB1.out.size)); clear hb2)
            | (go_at_call 22; refine HK.out.mono ?_; rintro e1 w1 ⟨rfl, hb1⟩; have HB1 := hide3 hb1; clear hb1)
            | (go_at_call 28; refine HDN.out.mono ?_; rintro e0 w0 ⟨rfl, rfl⟩))
          go_ret
          exact ⟨rfl, HSM.out _ HB2.out⟩
    · rw [hkk, if_pos rfl] at HCA
      rw [HCA.out]
      clear HCA HWA HWR HFN HCN
      go_enter Tryz.func12, Tryz.ntmps12
      go_wp2_with (first
        | (go_at_call 22; refine HK.out.mono ?_; rintro e1 w1 ⟨rfl, hb1⟩; have HB1 := hide3 hb1; clear hb1)
        | (go_at_call 28; refine HDN.out.mono ?_; rintro e0 w0 ⟨rfl, rfl⟩))
      go_ret
      exact ⟨rfl, HSM.out _ HB1.out⟩
  · rw [hl0, if_pos rfl] at HCA
    rw [hl0] at HDN
    rw [HCA.out]
    clear HCA HWA HWR HFN HCN HK
    go_enter Tryz.func12, Tryz.ntmps12
    go_wp2_with (go_at_call 28; refine HDN.out.mono ?_; rintro e0 w0 ⟨rfl, rfl⟩)
    go_ret
    exact ⟨rfl, HSM.out _ (Below.refl _ _)⟩
theorem commit_nil (w : World) : Calls Tryz.prog 12 #[.pointer none, .slice none 0 0] w fun e' w' => e' = .returned (.int .i64 1) ∧ w' = w := by
  go_enter Tryz.func12, Tryz.ntmps12
  go_wp2_with fail
  go_ret
  exact ⟨rfl, rfl⟩
end Go.Proofs.YtpaoimhebheaeaaGreatDoor
