/- Jr6, Jr7, laid in one text. -/
import Derived.Test.YtpaoimhebheaeaaGreatDoorMg14
namespace Go.Proofs.YtpaoimhebheaeaaGreatDoor
open Go.RowKit Go.Maps Go.WideMaps Go.WideElems Dk
set_option maxRecDepth 100000

theorem canA_app (a b : List De) (x : Ab) : canA (a ++ b) x = (canA a x && canA b (runA a x).2) := by
  induction a generalizing x with
  | nil => rfl
  | cons d r ih =>
    have e1 : canA (d :: r ++ b) x = (findsB x.D d && ((doA x d).1 == 0) && canA (r ++ b) (doA x d).2) := rfl
    have e2 : canA (d :: r) x = (findsB x.D d && ((doA x d).1 == 0) && canA r (doA x d).2) := rfl
    have e3 : runA (d :: r) x = if ((doA x d).1 != 0) = true then doA x d else runA r (doA x d).2 := rfl
    rw [e1, e2, e3, ih]
    cases h : ((doA x d).1 == 0)
    · simp
    · rw [if_neg (by unfold bne; rw [h]; decide), Bool.and_true]
      cases findsB x.D d <;> simp
theorem canA_run (l : List De) : ∀ {x : Ab}, canA l x = true → (runA l x).1 = 0 := by
  induction l with
  | nil => intro x _; rfl
  | cons d r ih =>
    intro x h
    have e2 : canA (d :: r) x = (findsB x.D d && ((doA x d).1 == 0) && canA r (doA x d).2) := rfl
    have e3 : runA (d :: r) x = if ((doA x d).1 != 0) = true then doA x d else runA r (doA x d).2 := rfl
    rw [e2, Bool.and_eq_true, Bool.and_eq_true] at h
    rw [e3, if_neg (by unfold bne; rw [h.1.2]; decide)]
    exact ih h.2
theorem canA_step {l : List De} {i : Nat} (hi : i < l.length) {x : Ab} (h : canA (l.take i) x = true) : canA (l.take (i + 1)) x = (findsB (runA (l.take i) x).2.D l[i] && ((doA (runA (l.take i) x).2 l[i]).1 == 0)) := by
  rw [List.take_succ_eq_append_getElem hi, canA_app, h]
  show (true && (findsB _ _ && _ && true)) = _
  rw [Bool.true_and, Bool.and_true]
theorem canA_no {l : List De} {i : Nat} {x : Ab} (h : canA (l.take i) x = false) : canA l x = false := by
  rw [← List.take_append_drop i l, canA_app, h, Bool.false_and]
/-- What Can answers. -/
def CanQ (w : World) (b : Bool) (e' : Ending) (w' : World) : Prop := ∃ e2, e' = .returned (.tuple #[.pointer (some ⟨e2, 0, none⟩), .bool b]) ∧ Below w.heap.size w w'
open Classical in
/-- Can deeds be done on a disk? -/
noncomputable def canR (l : List De) (x : Ab) : Bool := if Plan l then canA l ⟨x.D, [], -1⟩ else false
theorem canR_yes {l : List De} {x : Ab} (h : Plan l) : canR l x = canA l ⟨x.D, [], -1⟩ := by unfold canR; rw [if_pos h]
theorem canR_no {l : List De} {x : Ab} (h : ¬ Plan l) : canR l x = false := by unfold canR; rw [if_neg h]

set_option maxHeartbeats 16000000 in
theorem can_K {B : Nat} {w : World} {e : Nat} {lv rv : Value} {x : Ab} {k : Nat} (h : RefK B w e lv rv x k) (l : List De) (a : Option Addr) (cap : Nat) (hd : IsDes w a l) (hz : ∀ d ∈ l, d.pa.size ≤ maxLen) (hl : l.length ≤ 8388608) (hk : k + l.length + 2 < 2199023255552) :
    Calls Tryz.prog 33 #[.pointer (some ⟨e, 0, none⟩), .slice a l.length cap] w (CanQ w (canR l x)) := by
  have HCP := hide3 (copy_K h (by omega))
  have HDW : Hid (∀ W, Below w.heap.size w W → IsDes W a l) := fun W hb => hd.below hb
  have HZ := hide3 hz
  have HCH : Hid (∀ W, Below w.heap.size w W → Calls Tryz.prog 73 #[.slice a l.length cap] W fun e w' => (∃ r, e = .returned (.int .i64 r) ∧ ((Plan l ∧ r = 0) ∨ (¬ Plan l ∧ r = 44))) ∧ Below W.heap.size W w') := fun W hb => pCheck_any l a cap W hl (HDW.out W hb) hz
  clear h hd hz
  by_cases hp : Plan l
  · have HC2 : Hid (∀ W, Below w.heap.size w W → Calls Tryz.prog 73 #[.slice a l.length cap] W fun e w' => e = .returned (.int .i64 0) ∧ Below W.heap.size W w') := fun W hb => (HCH.out W hb).mono fun e w' ⟨⟨r, h1, h2⟩, h3⟩ => by
      rcases h2 with ⟨_, rfl⟩ | ⟨h2, _⟩
      · exact ⟨h1, h3⟩
      · exact absurd hp h2
    have HCR : Hid (canR l x = canA l ⟨x.D, [], -1⟩) := canR_yes hp
    clear HCH hp
    obtain ⟨x0, hx0⟩ : ∃ x0 : Ab, x0 = ⟨x.D, [], -1⟩ := ⟨_, rfl⟩
    rw [← hx0] at HCR
    have HCP2 : Hid (Calls Tryz.prog 72 #[.pointer (some ⟨e, 0, none⟩)] w fun e' w' => ∃ e2 lv2, e' = .returned (.pointer (some ⟨e2, 0, none⟩)) ∧ RefK w.heap.size w' e2 lv2 (.slice none 0 0) x0 k ∧ Below w.heap.size w w') := by rw [hx0]; exact HCP.out
    clear hx0 HCP
    go_enter Tryz.func33, Tryz.ntmps33
    go_wp2_with (first
      | (go_at_call 73; have _t := HB1; refine (HC2.out _ HB1.out).mono ?_; rintro e3 w2 ⟨rfl, hb2⟩; have HR2 : Hid (RefK w.heap.size w2 e2 lv2 (.slice none 0 0) x0 k) := ⟨HR1.out.ref.below hb2, HR1.out.fine, HR1.out.lf, HR1.out.lr, Nat.le_trans HR1.out.base hb2.size⟩; have HB2 : Hid (Below w.heap.size w w2) := HB1.out.trans (hb2.mono HB1.out.size); clear hb2)
      | (go_at_call 72; refine HCP2.out.mono ?_; rintro e3 w1 ⟨e2, lv2, rfl, hr1, hb1⟩; have HR1 := hide3 hr1; have HB1 := hide3 hb1; clear hr1 hb1))
    clear HR1 HB1 HC2 HCP2
    go_loopw [8] (fun v8 wr => ∃ i : Nat, i ≤ l.length ∧ v8 = .int .i64 i ∧ canA (l.take i) x0 = true ∧ RefT w.heap.size w2 e2 lv2 (.slice none 0 0) (runA (l.take i) x0).2 (k + i) wr) (fun v8 _ => l.length - (intOf v8).toNat)
    case atStart => exact ⟨0, Nat.zero_le _, rfl, rfl, RefT.refl HR2.out⟩
    case round =>
      obtain ⟨i, hi, rfl, hca, ht⟩ := hrel
      have HCA := hide3 hca
      have HT := hide3 ht
      have HBR : Hid (Below w.heap.size w wr) := HB2.out.trans (ht.bel HR2.out)
      clear hca ht
      by_cases hlt : i < l.length
      · obtain ⟨g, off, rfl, hg, hcs⟩ : ∃ g off, a = some ⟨g, off, none⟩ ∧ g < w.heap.size ∧ DesIn w g off l := by
          rcases HDW.out w (Below.refl _ _) with q | q
          · rw [q] at hlt; exact absurd hlt (Nat.not_lt_zero _)
          · exact q
        obtain ⟨b0, b1, b2⟩ : wr.cell? ⟨g, off + i * 3, none⟩ = some (.int .i64 l[i].kd) ∧ wr.cell? ⟨g, off + i * 3 + 1, none⟩ = some (.string l[i].pa) ∧ wr.cell? ⟨g, off + i * 3 + 1 + 1, none⟩ = some (.string l[i].da) := by
          obtain ⟨a0, a1, a2⟩ := hcs i hlt
          exact ⟨(HBR.out.cell (p := ⟨g, off + i * 3, none⟩) hg).trans a0, (HBR.out.cell (p := ⟨g, off + i * 3 + 1, none⟩) hg).trans a1, (HBR.out.cell (p := ⟨g, off + i * 3 + 1 + 1, none⟩) hg).trans a2⟩
        have HKI : Hid (Calls Tryz.prog 32 #[.pointer (some ⟨e2, 0, none⟩), .string l[i].pa] wr fun e' w' => e' = .returned (.int .i64 (kindD (runA (l.take i) x0).2.D l[i].pa)) ∧ w' = wr) := by
          obtain ⟨lv1, rv1, hr, _⟩ := HT.out
          exact rKind_any hr.ref hr.fine.pl.good l[i].pa (by have := hr.lf; omega)
        have HDO : Hid (Calls Tryz.prog 74 #[.pointer (some ⟨e2, 0, none⟩), .agg #[.int .i64 l[i].kd, .string l[i].pa, .string l[i].da]] wr fun e' w' => e' = .returned (.int .i64 (doA (runA (l.take i) x0).2 l[i]).1) ∧ RefT w.heap.size w2 e2 lv2 (.slice none 0 0) (doA (runA (l.take i) x0).2 l[i]).2 (k + i + 1) w') := HT.out.call fun lv1 rv1 hr => do_K hr (by omega) l[i] (HZ.out l[i] (List.getElem_mem hlt))
        have HST := hide3 (canA_step hlt HCA.out)
        have HNX := hide3 (runA_next hlt (canA_run _ HCA.out))
        have HNO : Hid (canA (l.take (i + 1)) x0 = false → canR l x = false) := fun q => by rw [HCR.out]; exact canA_no q
        have hii : (i : Int) < (l.length : Int) := by omega
        have hi0 : (0 : Int) ≤ (i : Int) := by omega
        have HFB : Hid (findsB (runA (l.take i) x0).2.D l[i] = !((l[i].kd == 1 && kindD (runA (l.take i) x0).2.D l[i].pa != 1) || (l[i].kd == 2 && kindD (runA (l.take i) x0).2.D l[i].pa != 2) || (l[i].kd == 3 && kindD (runA (l.take i) x0).2.D l[i].pa != 0))) := rfl
        clear hcs HCA
        generalize doA (runA (l.take i) x0).2 l[i] = Y at *
        generalize findsB (runA (l.take i) x0).2.D l[i] = fb at *
        generalize kindD (runA (l.take i) x0).2.D l[i].pa = kk at *
        generalize l[i].kd = kd at *
        generalize l[i].pa = p at *
        generalize l[i].da = t at *
        obtain ⟨c, y⟩ := Y
        simp only at HDO HST HNX
        by_cases h1 : kd = 1
        · subst h1
          rw [show ((1 : Int) == 1 && kk != 1) = (kk != 1) from rfl, show ((1 : Int) == 2 && kk != 2) = false from rfl, show ((1 : Int) == 3 && kk != 0) = false from rfl, Bool.or_false, Bool.or_false] at HFB
          cases hk : (kk != 1)
          · rw [hk] at HFB
            cases hc : (c == 0)
            · have hcn : (c != 0) = true := by unfold bne; rw [hc]; rfl
              have HFF : Hid (canR l x = false) := HNO.out (by rw [HST.out, hc, Bool.and_false])
              clear HST HNX HNO HCR
              go_wp2_with (first
                | (go_at_call 74; refine HDO.out.mono ?_; rintro e4 w4 ⟨rfl, ht4⟩; have HT4 := hide3 ht4; clear ht4)
                | (go_at_call 32; refine HKI.out.mono ?_; rintro e0 w0 ⟨rfl, rfl⟩))
              go_ret2
              rw [HFF.out]
              exact ⟨e2, rfl, HB2.out.trans (HT4.out.bel HR2.out)⟩
            · have hcn : (c != 0) = false := by unfold bne; rw [hc]; rfl
              have HFT : Hid (canA (l.take (i + 1)) x0 = true) := by unfold Hid; rw [HST.out, HFB.out, hc]; rfl
              clear HST HNO HCR
              go_wp2_with (first
                | (go_at_call 74; refine HDO.out.mono ?_; rintro e4 w4 ⟨rfl, ht4⟩; have HT4 := hide3 ht4; clear ht4)
                | (go_at_call 32; refine HKI.out.mono ?_; rintro e0 w0 ⟨rfl, rfl⟩))
              exact ⟨⟨i + 1, by omega, by go_num, HFT.out, by rw [HNX.out]; exact HT4.out⟩, by simp [intOf]; omega⟩
          · rw [hk] at HFB
            have HFF : Hid (canR l x = false) := HNO.out (by rw [HST.out, HFB.out]; rfl)
            clear HST HNX HNO HDO HCR
            go_wp2_with (go_at_call 32; refine HKI.out.mono ?_; rintro e0 w0 ⟨rfl, rfl⟩)
            go_ret2
            rw [HFF.out]
            exact ⟨e2, rfl, HBR.out⟩
        · have k1 : (kd == 1) = false := beq_eq_false_iff_ne.2 h1
          rw [k1, Bool.false_and, Bool.false_or] at HFB
          by_cases h2 : kd = 2
          · subst h2
            rw [show ((2 : Int) == 2 && kk != 2) = (kk != 2) from rfl, show ((2 : Int) == 3 && kk != 0) = false from rfl, Bool.or_false] at HFB
            clear h1
            cases hk : (kk != 2)
            · rw [hk] at HFB
              cases hc : (c == 0)
              · have hcn : (c != 0) = true := by unfold bne; rw [hc]; rfl
                have HFF : Hid (canR l x = false) := HNO.out (by rw [HST.out, hc, Bool.and_false])
                clear HST HNX HNO HCR
                go_wp2_with (first
                  | (go_at_call 74; refine HDO.out.mono ?_; rintro e4 w4 ⟨rfl, ht4⟩; have HT4 := hide3 ht4; clear ht4)
                  | (go_at_call 32; refine HKI.out.mono ?_; rintro e0 w0 ⟨rfl, rfl⟩))
                go_ret2
                rw [HFF.out]
                exact ⟨e2, rfl, HB2.out.trans (HT4.out.bel HR2.out)⟩
              · have hcn : (c != 0) = false := by unfold bne; rw [hc]; rfl
                have HFT : Hid (canA (l.take (i + 1)) x0 = true) := by unfold Hid; rw [HST.out, HFB.out, hc]; rfl
                clear HST HNO HCR
                go_wp2_with (first
                  | (go_at_call 74; refine HDO.out.mono ?_; rintro e4 w4 ⟨rfl, ht4⟩; have HT4 := hide3 ht4; clear ht4)
                  | (go_at_call 32; refine HKI.out.mono ?_; rintro e0 w0 ⟨rfl, rfl⟩))
                exact ⟨⟨i + 1, by omega, by go_num, HFT.out, by rw [HNX.out]; exact HT4.out⟩, by simp [intOf]; omega⟩
            · rw [hk] at HFB
              have HFF : Hid (canR l x = false) := HNO.out (by rw [HST.out, HFB.out]; rfl)
              clear HST HNX HNO HDO HCR
              go_wp2_with (go_at_call 32; refine HKI.out.mono ?_; rintro e0 w0 ⟨rfl, rfl⟩)
              go_ret2
              rw [HFF.out]
              exact ⟨e2, rfl, HBR.out⟩
          · have k2 : (kd == 2) = false := beq_eq_false_iff_ne.2 h2
            rw [k2, Bool.false_and, Bool.false_or] at HFB
            by_cases h3 : kd = 3
            · subst h3
              rw [show ((3 : Int) == 3 && kk != 0) = (kk != 0) from rfl] at HFB
              clear h1 h2
              cases hk : (kk != 0)
              · rw [hk] at HFB
                cases hc : (c == 0)
                · have hcn : (c != 0) = true := by unfold bne; rw [hc]; rfl
                  have HFF : Hid (canR l x = false) := HNO.out (by rw [HST.out, hc, Bool.and_false])
                  clear HST HNX HNO HCR
                  go_wp2_with (first
                    | (go_at_call 74; refine HDO.out.mono ?_; rintro e4 w4 ⟨rfl, ht4⟩; have HT4 := hide3 ht4; clear ht4)
                    | (go_at_call 32; refine HKI.out.mono ?_; rintro e0 w0 ⟨rfl, rfl⟩))
                  go_ret2
                  rw [HFF.out]
                  exact ⟨e2, rfl, HB2.out.trans (HT4.out.bel HR2.out)⟩
                · have hcn : (c != 0) = false := by unfold bne; rw [hc]; rfl
                  have HFT : Hid (canA (l.take (i + 1)) x0 = true) := by unfold Hid; rw [HST.out, HFB.out, hc]; rfl
                  clear HST HNO HCR
                  go_wp2_with (first
                    | (go_at_call 74; refine HDO.out.mono ?_; rintro e4 w4 ⟨rfl, ht4⟩; have HT4 := hide3 ht4; clear ht4)
                    | (go_at_call 32; refine HKI.out.mono ?_; rintro e0 w0 ⟨rfl, rfl⟩))
                  exact ⟨⟨i + 1, by omega, by go_num, HFT.out, by rw [HNX.out]; exact HT4.out⟩, by simp [intOf]; omega⟩
              · rw [hk] at HFB
                have HFF : Hid (canR l x = false) := HNO.out (by rw [HST.out, HFB.out]; rfl)
                clear HST HNX HNO HDO HCR
                go_wp2_with (go_at_call 32; refine HKI.out.mono ?_; rintro e0 w0 ⟨rfl, rfl⟩)
                go_ret2
                rw [HFF.out]
                exact ⟨e2, rfl, HBR.out⟩
            · have k3 : (kd == 3) = false := beq_eq_false_iff_ne.2 h3
              rw [k3, Bool.false_and] at HFB
              clear h1 h2 h3
              cases hc : (c == 0)
              · have hcn : (c != 0) = true := by unfold bne; rw [hc]; rfl
                have HFF : Hid (canR l x = false) := HNO.out (by rw [HST.out, hc, Bool.and_false])
                clear HST HNX HNO HCR
                go_wp2_with (first
                  | (go_at_call 74; refine HDO.out.mono ?_; rintro e4 w4 ⟨rfl, ht4⟩; have HT4 := hide3 ht4; clear ht4)
                  | (go_at_call 32; refine HKI.out.mono ?_; rintro e0 w0 ⟨rfl, rfl⟩))
                go_ret2
                rw [HFF.out]
                exact ⟨e2, rfl, HB2.out.trans (HT4.out.bel HR2.out)⟩
              · have hcn : (c != 0) = false := by unfold bne; rw [hc]; rfl
                have HFT : Hid (canA (l.take (i + 1)) x0 = true) := by unfold Hid; rw [HST.out, HFB.out, hc]; rfl
                clear HST HNO HCR
                go_wp2_with (first
                  | (go_at_call 74; refine HDO.out.mono ?_; rintro e4 w4 ⟨rfl, ht4⟩; have HT4 := hide3 ht4; clear ht4)
                  | (go_at_call 32; refine HKI.out.mono ?_; rintro e0 w0 ⟨rfl, rfl⟩))
                exact ⟨⟨i + 1, by omega, by go_num, HFT.out, by rw [HNX.out]; exact HT4.out⟩, by simp [intOf]; omega⟩
      · obtain rfl : i = l.length := by omega
        have hii : ¬ ((l.length : Int) < (l.length : Int)) := by omega
        have HCT : Hid (canR l x = true) := by unfold Hid; rw [HCR.out]; have := HCA.out; rw [List.take_length] at this; exact this
        go_wp2_with fail
        go_ret2
        rw [HCT.out]
        exact ⟨e2, rfl, HBR.out⟩
  · have HC2 : Hid (∀ W, Below w.heap.size w W → Calls Tryz.prog 73 #[.slice a l.length cap] W fun e w' => e = .returned (.int .i64 44) ∧ Below W.heap.size W w') := fun W hb => (HCH.out W hb).mono fun e w' ⟨⟨r, h1, h2⟩, h3⟩ => by
      rcases h2 with ⟨h2, _⟩ | ⟨_, rfl⟩
      · exact absurd h2 hp
      · exact ⟨h1, h3⟩
    have HCR : Hid (canR l x = false) := canR_no hp
    rw [HCR.out]
    clear HCH hp HCR
    go_enter Tryz.func33, Tryz.ntmps33
    go_wp2_with (first
      | (go_at_call 73; have _t := HB1; refine (HC2.out _ HB1.out).mono ?_; rintro e3 w2 ⟨rfl, hb2⟩; have HB2 : Hid (Below w.heap.size w w2) := HB1.out.trans (hb2.mono HB1.out.size); clear hb2)
      | (go_at_call 72; refine HCP.out.mono ?_; intro e3 w1 hq; obtain ⟨e2, lv2, rfl, hr1, hb1⟩ := hq; have HB1 := hide3 hb1; clear hr1 hb1))
    go_ret2
    exact ⟨e2, rfl, HB2.out⟩
end Go.Proofs.YtpaoimhebheaeaaGreatDoor
namespace Go.Proofs.YtpaoimhebheaeaaGreatDoor
open Go.RowKit Go.Maps Go.WideMaps Go.WideElems Dk
set_option maxRecDepth 100000

theorem read_kind {D : DataW Unit} {s : ByteArray} (h : readE D s = 0) : kindD D s ≠ 0 ∧ kindD D s ≠ 2 := by
  unfold readE at h
  split at h
  · refine ⟨fun e => ?_, fun e => ?_⟩
    · rw [e, if_pos (show ((0 : Int) == 0) = true from rfl)] at h; cases h
    · rw [e, if_neg (by decide), if_pos (show ((2 : Int) == 2) = true from rfl)] at h; cases h
  · cases h
theorem ren_fine {x : Ab} (h : Fine x) (s t : ByteArray) : Fine (renameD x s t).2 ∧ (renameD x s t).2.rs.length ≤ x.rs.length + 1 ∧ (filesD (renameD x s t).2.D).length ≤ (filesD x.D).length + 1 := by
  unfold renameD
  by_cases h0 : (writeD x.left [s, t] != 0) = true
  · rw [if_pos h0]; exact ⟨h, Nat.le_succ _, Nat.le_succ _⟩
  · rw [if_neg h0]
    have hok := writeD_ok (Bool.eq_false_iff.2 h0)
    simp only [List.all_cons, List.all_nil, Bool.and_true, Bool.and_eq_true] at hok
    by_cases h1 : (readE x.D s != 0) = true
    · rw [if_pos h1]; exact ⟨h, Nat.le_succ _, Nat.le_succ _⟩
    · rw [if_neg h1]
      by_cases h2 : (fileD x.D t != 0) = true
      · rw [if_pos h2]; exact ⟨h, Nat.le_succ _, Nat.le_succ _⟩
      · rw [if_neg h2]
        obtain ⟨k0, k2⟩ := read_kind (bne_eq_false_iff_eq.1 (Bool.eq_false_iff.2 h1))
        have hf : fileD x.D t = 0 := bne_eq_false_iff_eq.1 (Bool.eq_false_iff.2 h2)
        have hpd : (parentD x.D t != 0) = false := by
          cases q : (parentD x.D t != 0)
          · rfl
          · unfold fileD at hf
            rw [if_pos q] at hf
            rw [hf] at q
            cases q
        have hk : kindD x.D t ≠ 2 := fun e => by
          unfold fileD at hf
          rw [if_neg (by rw [hpd]; decide), e] at hf
          cases hf
        have hpk := parentD_zero hpd
        have hS1 : Sound (x.D.del (keyD s)) := sound_del h.so fun y hy e => by
          have := h.so y hy
          rw [e] at this
          exact k2 this
        have hP1 : Plain (x.D.del (keyD s)) := h.pl.del _
        have hps : parentOf t ≠ s := fun e => k2 (by rw [← e]; exact hpk)
        have hkt : kindD (x.D.del (keyD s)) t ≠ 2 := by
          by_cases e : t = s
          · subst e
            rw [kindP_out hP1 (root_not hok.2) fun y hy => ((memP_del h.pl _ y).1 hy).2]
            decide
          · rw [kind_del_other e]; exact hk
        refine ⟨⟨hP1.put _ _ hok.2, sound_put hS1 hok.2 (by rw [kind_del_other hps]; exact hpk) hkt, (note_left h.lo h.hi).1, (note_left h.lo h.hi).2⟩, by unfold noteAb; simp, ?_⟩
        exact Nat.le_trans (len_put hP1 _ _ hok.2) (Nat.succ_le_succ (len_del h.pl s))
theorem mk_K {B : Nat} {w : World} {e : Nat} {lv rv : Value} {x : Ab} {k : Nat} (h : RefK B w e lv rv x k) (hk : k + 1 < 2199023255552) (s : ByteArray) (hs : s.size ≤ maxLen) : Calls Tryz.prog 35 #[.pointer (some ⟨e, 0, none⟩), .string s] w fun e' w' => e' = .returned (.int .i64 (mkdirD x s).1) ∧ RefT B w e lv rv (mkdirD x s).2 (k + 1) w' :=
  (refQ_mk (h.fit (by omega)) h.fine s hs w (Below.refl _ _)).mono fun _ _ q => RefQ.kept q h.base (mk_fine h.fine s).1 (Nat.le_trans (mk_len h.fine s) (Nat.succ_le_succ h.lf)) (Nat.le_trans (mk_fine h.fine s).2 (Nat.succ_le_succ h.lr))
theorem wt_K {B : Nat} {w : World} {e : Nat} {lv rv : Value} {x : Ab} {k : Nat} (h : RefK B w e lv rv x k) (hk : k + 1 < 2199023255552) (s t : ByteArray) (hs : s.size ≤ maxLen) : Calls Tryz.prog 36 #[.pointer (some ⟨e, 0, none⟩), .string s, .string t] w fun e' w' => e' = .returned (.int .i64 (writeFD x s t).1) ∧ RefT B w e lv rv (writeFD x s t).2 (k + 1) w' :=
  (refQ_wt (h.fit (by omega)) h.fine s t hs w (Below.refl _ _)).mono fun _ _ q => RefQ.kept q h.base (wt_fine h.fine s t).1 (Nat.le_trans (wt_len h.fine s t) (Nat.succ_le_succ h.lf)) (Nat.le_trans (wt_fine h.fine s t).2 (Nat.succ_le_succ h.lr))
theorem ren_K {B : Nat} {w : World} {e : Nat} {lv rv : Value} {x : Ab} {k : Nat} (h : RefK B w e lv rv x k) (hk : k + 1 < 2199023255552) (s t : ByteArray) (hs : s.size ≤ maxLen) (ht : t.size ≤ maxLen) : Calls Tryz.prog 37 #[.pointer (some ⟨e, 0, none⟩), .string s, .string t] w fun e' w' => e' = .returned (.int .i64 (renameD x s t).1) ∧ RefT B w e lv rv (renameD x s t).2 (k + 1) w' :=
  (rRename_any (h.fit (by omega)) h.fine.pl s t hs ht (ren_fine h.fine s t).1.pl.good).mono fun _ _ q => RefQ.kept q h.base (ren_fine h.fine s t).1 (Nat.le_trans (ren_fine h.fine s t).2.2 (Nat.succ_le_succ h.lf)) (Nat.le_trans (ren_fine h.fine s t).2.1 (Nat.succ_le_succ h.lr))
/-- The raw writes of a Commit. -/
def writA (l : List De) (x : Ab) : Int × Ab :=
  if ((mkdirD x jn).1 != 0) = true then mkdirD x jn
  else if ((writeFD (mkdirD x jn).2 pN (textD l)).1 != 0) = true then writeFD (mkdirD x jn).2 pN (textD l)
  else if ((renameD (writeFD (mkdirD x jn).2 pN (textD l)).2 pN pP).1 != 0) = true then renameD (writeFD (mkdirD x jn).2 pN (textD l)).2 pN pP
  else endA l (renameD (writeFD (mkdirD x jn).2 pN (textD l)).2 pN pP).2
/-- Commit. -/
noncomputable def commitA (l : List De) (x : Ab) : Int × Ab :=
  if (x.left == 0) = true then (15, x)
  else if (kindD x.D jn != 0) = true then (11, x)
  else if canR l x = false then (44, x)
  else if (l.length == 0) = true then (0, x)
  else writA l x

set_option maxHeartbeats 16000000 in
theorem commit_K {B : Nat} {w : World} {e : Nat} {lv rv : Value} {x : Ab} {k : Nat} (h : RefK B w e lv rv x k) (l : List De) (a : Option Addr) (cap : Nat) (hd : ∀ W, Upd (FootR e lv rv) w W → IsDes W a l) (hz : ∀ d ∈ l, d.pa.size ≤ maxLen ∧ d.da.size ≤ 100000000) (hsz : (textD l).size ≤ 9223372036854775807) (hl : l.length ≤ 8388608) (hk : k + l.length + 8 < 2199023255552) :
    Calls Tryz.prog 13 #[.pointer (some ⟨e, 0, none⟩), .slice a l.length cap] w fun e' w' => e' = .returned (.int .i64 (commitA l x).1) ∧ RefT B w e lv rv (commitA l x).2 (k + l.length + 6) w' := by
  have HH := hide3 h
  have HD := hide3 hd
  have hc2 := h.ref.c2
  have hzp : ∀ d ∈ l, d.pa.size ≤ maxLen := fun d q => (hz d q).1
  have HK : Hid (Calls Tryz.prog 32 #[.pointer (some ⟨e, 0, none⟩), .string ⟨#[47, 106, 111, 117, 114, 110, 97, 108]⟩] w fun e' w' => e' = .returned (.int .i64 (kindD x.D jn)) ∧ w' = w) := rKind_any h.ref h.fine.pl.good jn (by have := h.lf; omega)
  have HCN : Hid (Calls Tryz.prog 33 #[.pointer (some ⟨e, 0, none⟩), .slice a l.length cap] w (CanQ w (canR l x))) := can_K h l a cap (hd w (Upd.refl _ _)) hzp hl (by omega)
  have HB0 : Hid (∀ W, Below w.heap.size w W → RefT B w e lv rv x k W) := fun W hb => ⟨lv, rv, ⟨h.ref.below hb, h.fine, h.lf, h.lr, Nat.le_trans h.base hb.size⟩, Upd.of_below hb, fun _ q => Or.inl q⟩
  have HPR : Hid (Plan l → ∀ W, Below w.heap.size w W → Calls Tryz.prog 34 #[.slice a l.length cap] W fun e' w' => e' = .returned (.tuple #[.string (textD l), .int .i64 0]) ∧ Below W.heap.size W w') := fun hp W hb => (pPrint_any17 l a cap W hl (hd W (Upd.of_below hb)) hz hsz).mono fun e' w' ⟨q, hb2⟩ => by
    rcases q with ⟨_, q⟩ | ⟨q, _⟩
    · exact ⟨q, hb2⟩
    · exact absurd hp q
  have HM : Hid (∀ W, RefT B w e lv rv x k W → Calls Tryz.prog 35 #[.pointer (some ⟨e, 0, none⟩), .string ⟨#[47, 106, 111, 117, 114, 110, 97, 108]⟩] W fun e' w' => e' = .returned (.int .i64 (mkdirD x jn).1) ∧ RefT B w e lv rv (mkdirD x jn).2 (k + 1) w') := fun W ht => ht.call fun lv1 rv1 hr => mk_K hr (by omega) jn (by decide)
  have HW : Hid (∀ W, RefT B w e lv rv (mkdirD x jn).2 (k + 1) W → Calls Tryz.prog 36 #[.pointer (some ⟨e, 0, none⟩), .string ⟨#[47, 106, 111, 117, 114, 110, 97, 108, 47, 112, 108, 97, 110, 46, 110, 101, 119]⟩, .string (textD l)] W fun e' w' => e' = .returned (.int .i64 (writeFD (mkdirD x jn).2 pN (textD l)).1) ∧ RefT B w e lv rv (writeFD (mkdirD x jn).2 pN (textD l)).2 (k + 2) w') := fun W ht => ht.call fun lv1 rv1 hr => wt_K hr (by omega) pN (textD l) (by decide)
  have HRN : Hid (∀ W, RefT B w e lv rv (writeFD (mkdirD x jn).2 pN (textD l)).2 (k + 2) W → Calls Tryz.prog 37 #[.pointer (some ⟨e, 0, none⟩), .string ⟨#[47, 106, 111, 117, 114, 110, 97, 108, 47, 112, 108, 97, 110, 46, 110, 101, 119]⟩, .string ⟨#[47, 106, 111, 117, 114, 110, 97, 108, 47, 112, 108, 97, 110]⟩] W fun e' w' => e' = .returned (.int .i64 (renameD (writeFD (mkdirD x jn).2 pN (textD l)).2 pN pP).1) ∧ RefT B w e lv rv (renameD (writeFD (mkdirD x jn).2 pN (textD l)).2 pN pP).2 (k + 3) w') := fun W ht => ht.call fun lv1 rv1 hr => ren_K hr (by omega) pN pP (by decide) (by decide)
  have HEN : Hid (∀ W, RefT B w e lv rv (renameD (writeFD (mkdirD x jn).2 pN (textD l)).2 pN pP).2 (k + 3) W → Calls Tryz.prog 38 #[.pointer (some ⟨e, 0, none⟩), .slice a l.length cap] W fun e' w' => e' = .returned (.int .i64 (endA l (renameD (writeFD (mkdirD x jn).2 pN (textD l)).2 pN pP).2).1) ∧ RefT B w e lv rv (endA l (renameD (writeFD (mkdirD x jn).2 pN (textD l)).2 pN pP).2).2 (k + l.length + 6) w') := fun W ht => ht.callu fun lv1 rv1 hr hu => (end_K hr l a cap (fun W2 hb => hd W2 (hu W2 hb)) hzp (by omega)).mono fun _ _ q => ⟨q.1, q.2.more (by omega)⟩
  have HSM : Hid (∀ W, Below w.heap.size w W → RefT B w e lv rv x (k + l.length + 6) W) := fun W hb => (HB0.out W hb).more (by omega)
  have HCA : Hid (commitA l x = (if (x.left == 0) = true then (15, x)
  else if (kindD x.D jn != 0) = true then (11, x)
  else if canR l x = false then (44, x)
  else if (l.length == 0) = true then (0, x)
  else writA l x)) := rfl
  have HWA : Hid (writA l x = (if ((mkdirD x jn).1 != 0) = true then mkdirD x jn
  else if ((writeFD (mkdirD x jn).2 pN (textD l)).1 != 0) = true then writeFD (mkdirD x jn).2 pN (textD l)
  else if ((renameD (writeFD (mkdirD x jn).2 pN (textD l)).2 pN pP).1 != 0) = true then renameD (writeFD (mkdirD x jn).2 pN (textD l)).2 pN pP
  else endA l (renameD (writeFD (mkdirD x jn).2 pN (textD l)).2 pN pP).2)) := rfl
  have HPY : Hid (canR l x = true → Plan l) := fun q => by
    by_cases hp : Plan l
    · exact hp
    · rw [canR_no hp] at q; cases q
  have HTX := hide3 HB0.out
  clear h hd hz hsz hzp HH HB0
  have HSR : Hid (RefT B w e lv rv x (k + l.length + 6) w) := HSM.out w (Below.refl _ _)
  generalize commitA l x = G at *
  generalize kindD x.D jn = kk at *
  generalize canR l x = cr at *
  cases hl0 : (x.left == 0)
  · rw [hl0, if_neg (by decide)] at HCA
    cases hkk : (kk != 0)
    · rw [hkk, if_neg (by decide)] at HCA
      cases cr
      · rw [if_pos rfl] at HCA
        rw [HCA.out]
        clear HCA HWA HPR HM HW HRN HEN HPY
        go_enter Tryz.func13, Tryz.ntmps13
        go_wp2_with (first
          | (go_at_call 33; refine HCN.out.mono ?_; intro e1 w1 hq; obtain ⟨e2, rfl, hb1⟩ := hq; have HB1 := hide3 hb1; clear hb1)
          | (go_at_call 32; refine HK.out.mono ?_; rintro e0 w0 ⟨rfl, rfl⟩))
        go_ret
        exact ⟨rfl, HSM.out _ HB1.out⟩
      · rw [if_neg (by decide)] at HCA
        have HPL := hide3 (HPR.out (HPY.out rfl))
        clear HPR HPY
        cases hn : (l.length == 0)
        · have hni : ((l.length : Int) == 0) = false := beq_eq_false_iff_ne.2 (by have := beq_eq_false_iff_ne.1 hn; omega)
          rw [hn, if_neg (by decide), HWA.out] at HCA
          clear HWA hn
          generalize endA l (renameD (writeFD (mkdirD x jn).2 pN (textD l)).2 pN pP).2 = Y4 at *
          generalize renameD (writeFD (mkdirD x jn).2 pN (textD l)).2 pN pP = Y3 at *
          generalize writeFD (mkdirD x jn).2 pN (textD l) = Y2 at *
          generalize mkdirD x jn = Y1 at *
          generalize textD l = T at *
          obtain ⟨c1, y1⟩ := Y1
          obtain ⟨c2, y2⟩ := Y2
          obtain ⟨c3, y3⟩ := Y3
          simp only at HCA HM HW HRN HEN
          cases h1 : (c1 != 0)
          · rw [h1, if_neg (by decide)] at HCA
            cases h2 : (c2 != 0)
            · rw [h2, if_neg (by decide)] at HCA
              cases h3 : (c3 != 0)
              · rw [h3, if_neg (by decide)] at HCA
                rw [HCA.out]
                clear HCA
                go_enter Tryz.func13, Tryz.ntmps13
                go_wp2_with (first
                  | (go_at_call 38; have _t := HT5; refine (HEN.out _ HT5.out).mono ?_; rintro e6 w6 ⟨rfl, ht6⟩; have HT6 := hide3 ht6; clear ht6)
                  | (go_at_call 37; have _t := HT4; refine (HRN.out _ HT4.out).mono ?_; rintro e5 w5 ⟨rfl, ht5⟩; have HT5 := hide3 ht5; clear ht5)
                  | (go_at_call 36; have _t := HT3; refine (HW.out _ HT3.out).mono ?_; rintro e4 w4 ⟨rfl, ht4⟩; have HT4 := hide3 ht4; clear ht4)
                  | (go_at_call 35; have _t := HT2; refine (HM.out _ HT2.out).mono ?_; rintro e3 w3 ⟨rfl, ht3⟩; have HT3 := hide3 ht3; clear ht3)
                  | (go_at_call 34; have _t := HB1; refine (HPL.out _ HB1.out).mono ?_; rintro e2b w2 ⟨rfl, hb2⟩; have HT2 := hide3 (HTX.out w2 (HB1.out.trans (hb2.mono HB1.out.size))); clear hb2)
                  | (go_at_call 33; refine HCN.out.mono ?_; intro e1 w1 hq; obtain ⟨e2, rfl, hb1⟩ := hq; have HB1 := hide3 hb1; clear hb1)
                  | (go_at_call 32; refine HK.out.mono ?_; rintro e0 w0 ⟨rfl, rfl⟩))
                go_ret
                exact ⟨rfl, HT6.out⟩
              · rw [h3, if_pos rfl] at HCA
                rw [HCA.out]
                clear HCA
                go_enter Tryz.func13, Tryz.ntmps13
                go_wp2_with (first
                  | (go_at_call 37; have _t := HT4; refine (HRN.out _ HT4.out).mono ?_; rintro e5 w5 ⟨rfl, ht5⟩; have HT5 := hide3 ht5; clear ht5)
                  | (go_at_call 36; have _t := HT3; refine (HW.out _ HT3.out).mono ?_; rintro e4 w4 ⟨rfl, ht4⟩; have HT4 := hide3 ht4; clear ht4)
                  | (go_at_call 35; have _t := HT2; refine (HM.out _ HT2.out).mono ?_; rintro e3 w3 ⟨rfl, ht3⟩; have HT3 := hide3 ht3; clear ht3)
                  | (go_at_call 34; have _t := HB1; refine (HPL.out _ HB1.out).mono ?_; rintro e2b w2 ⟨rfl, hb2⟩; have HT2 := hide3 (HTX.out w2 (HB1.out.trans (hb2.mono HB1.out.size))); clear hb2)
                  | (go_at_call 33; refine HCN.out.mono ?_; intro e1 w1 hq; obtain ⟨e2, rfl, hb1⟩ := hq; have HB1 := hide3 hb1; clear hb1)
                  | (go_at_call 32; refine HK.out.mono ?_; rintro e0 w0 ⟨rfl, rfl⟩))
                go_ret
                exact ⟨rfl, HT5.out.more (by omega)⟩
            · rw [h2, if_pos rfl] at HCA
              rw [HCA.out]
              clear HCA
              go_enter Tryz.func13, Tryz.ntmps13
              go_wp2_with (first
                | (go_at_call 36; have _t := HT3; refine (HW.out _ HT3.out).mono ?_; rintro e4 w4 ⟨rfl, ht4⟩; have HT4 := hide3 ht4; clear ht4)
                | (go_at_call 35; have _t := HT2; refine (HM.out _ HT2.out).mono ?_; rintro e3 w3 ⟨rfl, ht3⟩; have HT3 := hide3 ht3; clear ht3)
                | (go_at_call 34; have _t := HB1; refine (HPL.out _ HB1.out).mono ?_; rintro e2b w2 ⟨rfl, hb2⟩; have HT2 := hide3 (HTX.out w2 (HB1.out.trans (hb2.mono HB1.out.size))); clear hb2)
                | (go_at_call 33; refine HCN.out.mono ?_; intro e1 w1 hq; obtain ⟨e2, rfl, hb1⟩ := hq; have HB1 := hide3 hb1; clear hb1)
                | (go_at_call 32; refine HK.out.mono ?_; rintro e0 w0 ⟨rfl, rfl⟩))
              go_ret
              exact ⟨rfl, HT4.out.more (by omega)⟩
          · rw [h1, if_pos rfl] at HCA
            rw [HCA.out]
            clear HCA
            go_enter Tryz.func13, Tryz.ntmps13
            go_wp2_with (first
              | (go_at_call 35; have _t := HT2; refine (HM.out _ HT2.out).mono ?_; rintro e3 w3 ⟨rfl, ht3⟩; have HT3 := hide3 ht3; clear ht3)
              | (go_at_call 34; have _t := HB1; refine (HPL.out _ HB1.out).mono ?_; rintro e2b w2 ⟨rfl, hb2⟩; have HT2 := hide3 (HTX.out w2 (HB1.out.trans (hb2.mono HB1.out.size))); clear hb2)
              | (go_at_call 33; refine HCN.out.mono ?_; intro e1 w1 hq; obtain ⟨e2, rfl, hb1⟩ := hq; have HB1 := hide3 hb1; clear hb1)
              | (go_at_call 32; refine HK.out.mono ?_; rintro e0 w0 ⟨rfl, rfl⟩))
            go_ret
            exact ⟨rfl, HT3.out.more (by omega)⟩
        · have hni : ((l.length : Int) == 0) = true := beq_iff_eq.2 (by have := beq_iff_eq.1 hn; omega)
          rw [hn, if_pos rfl] at HCA
          rw [HCA.out]
          clear HCA HWA HPL HM HW HRN HEN hn
          generalize l.length = n at *
          go_enter Tryz.func13, Tryz.ntmps13
          go_wp2_with (first
            | (go_at_call 33; refine HCN.out.mono ?_; intro e1 w1 hq; obtain ⟨e2, rfl, hb1⟩ := hq; have HB1 := hide3 hb1; clear hb1)
            | (go_at_call 32; refine HK.out.mono ?_; rintro e0 w0 ⟨rfl, rfl⟩))
          go_ret
          exact ⟨rfl, HSM.out _ HB1.out⟩
    · rw [hkk, if_pos rfl] at HCA
      rw [HCA.out]
      clear HCA HWA HPR HM HW HRN HEN HPY HCN HSM
      go_enter Tryz.func13, Tryz.ntmps13
      go_wp2_with (go_at_call 32; refine HK.out.mono ?_; rintro e0 w0 ⟨rfl, rfl⟩)
      go_ret
      exact ⟨rfl, HSR.out⟩
  · rw [hl0, if_pos rfl] at HCA
    rw [HCA.out]
    clear HCA HWA HPR HM HW HRN HEN HPY HCN HSM HK
    go_enter Tryz.func13, Tryz.ntmps13
    go_wp2_with fail
    go_ret
    exact ⟨rfl, HSR.out⟩
end Go.Proofs.YtpaoimhebheaeaaGreatDoor
