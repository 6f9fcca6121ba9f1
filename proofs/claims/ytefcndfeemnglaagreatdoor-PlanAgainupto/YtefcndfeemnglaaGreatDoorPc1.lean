/- Package plan: which paths a deed may have, what may follow what; the plain facts of Check. Conditions: sizes. -/
import Derived.Test.YtefcndfeemnglaaGreatDoorPm1
namespace Go.Proofs.YtefcndfeemnglaaGreatDoor
open Go.RowKit Go.Maps Go.WideMaps Go.WideElems Dk
open Sc (KeepP keepBelow callC callC' wp_region_keep CellK keepCell)
set_option maxRecDepth 100000

/-- May a deed be of that path? -/
def mayB (s : ByteArray) : Bool := okPath s && !jB s
theorem jB_pre (s : ByteArray) : jB s = (s.toList == jn.toList || Lib.hasPrefix s.data.toList jS.data.toList) := by
  unfold jB
  rw [← Lib.hasPrefix_raw]
  rfl
theorem read_new (s : ByteArray) : (readE newAb.D s == 12) = okPath s := by
  unfold readE okPath
  cases hp : pathB s
  · rfl
  · rw [if_pos rfl]
    cases hr : (s.toList == [47])
    · have hk : kindD newAb.D s = 0 := kind_none hr rfl
      rw [hk]
      rfl
    · have hk : kindD newAb.D s = 2 := by unfold kindD; rw [if_pos hr]
      rw [hk]
      rfl

theorem mayPath_any {B : Nat} {w : World} {d mb n : Nat} {rv : Value} (h : IsDisk B w d mb n rv newAb) (s : ByteArray) (m : Int) (hm : w.cell? ⟨0, 0, none⟩ = some (.int .i64 m)) (hs : s.size ≤ maxLen) :
    Calls Tryz.prog 18 #[.pointer (some ⟨d, 0, none⟩), .string s] w fun e w' => e = .returned (.bool (mayB s)) ∧ Below w.heap.size w w' := by
  have HR := hide3 (Read_any h s m hm hs)
  have HE := hide3 (read_new s)
  have HJ := hide3 (jB_pre s)
  have hjn : jn.toList = [47, 106, 111, 117, 114, 110, 97, 108] := by decide +kernel
  rw [hjn] at HJ
  have HP : Hid (∀ w1, Calls Tryz.prog 35 #[.string s, .string ⟨#[47, 106, 111, 117, 114, 110, 97, 108, 47]⟩] w1 fun e w' => e = .returned (.bool (Lib.hasPrefix s.data.toList jS.data.toList)) ∧ w' = w1) := fun w1 => Tryz.strings_HasPrefix s _ w1
  have HM : Hid (mayB s = (okPath s && !jB s)) := rfl
  generalize mayB s = r at *
  generalize okPath s = o at *
  generalize jB s = j at *
  generalize Lib.hasPrefix s.data.toList jS.data.toList = q at *
  generalize readE newAb.D s = c at *
  generalize readT newAb.D s = t at *
  clear h hm hs hjn
  cases hc : (c == 12)
  · have HF : Hid (r = false) := by unfold Hid; rw [HM.out, ← HE.out, hc]; rfl
    clear HE HJ HM
    go_enter Tryz.func18, Tryz.ntmps18
    go_wp2_with (first
      | (go_at_call 34; refine HR.out.mono ?_; rintro e w1 ⟨rfl, hb1⟩; have HB1 := hide3 hb1; clear hb1)
      | (go_at_call 35; refine (HP.out _).mono ?_; rintro e w2 ⟨rfl, rfl⟩))
    go_ret
    exact ⟨ret_bool HF.out.symm, HB1.out⟩
  · cases hs1 : (s.toList == [47, 106, 111, 117, 114, 110, 97, 108])
    · have hs2 : (s.toList != [47, 106, 111, 117, 114, 110, 97, 108]) = true := by unfold bne; rw [hs1]; rfl
      have HF : Hid (r = !q) := by unfold Hid; rw [HM.out, ← HE.out, hc, HJ.out, hs1]; rfl
      clear HE HJ HM
      go_enter Tryz.func18, Tryz.ntmps18
      go_wp2_with (first
        | (go_at_call 34; refine HR.out.mono ?_; rintro e w1 ⟨rfl, hb1⟩; have HB1 := hide3 hb1; clear hb1)
        | (go_at_call 35; refine (HP.out _).mono ?_; rintro e w2 ⟨rfl, rfl⟩))
      go_ret
      exact ⟨ret_bool HF.out.symm, HB1.out⟩
    · have hs2 : (s.toList != [47, 106, 111, 117, 114, 110, 97, 108]) = false := by unfold bne; rw [hs1]; rfl
      have HF : Hid (r = false) := by unfold Hid; rw [HM.out, HJ.out, hs1]; cases o <;> rfl
      clear HE HJ HM
      go_enter Tryz.func18, Tryz.ntmps18
      go_wp2_with (first
        | (go_at_call 34; refine HR.out.mono ?_; rintro e w1 ⟨rfl, hb1⟩; have HB1 := hide3 hb1; clear hb1)
        | (go_at_call 35; refine (HP.out _).mono ?_; rintro e w2 ⟨rfl, rfl⟩))
      go_ret
      exact ⟨ret_bool HF.out.symm, HB1.out⟩

theorem mayData_any (k : Int) (p t : ByteArray) (w : World) :
    Calls Tryz.prog 19 #[.agg #[.int .i64 k, .string p, .string t]] w fun e w' => e = .returned (.bool (k == 4 || t.toList == [])) ∧ Below w.heap.size w w' := by
  have HB : Hid (Below w.heap.size w (w.alloc (.cells #[.int .i64 k, .string p, .string t] 32))) := (Below.refl _ _).alloc (Nat.le_refl _) _
  cases h4 : (k == 4)
  · cases ht : (t.toList == [])
    all_goals
      go_enter Tryz.func19, Tryz.ntmps19
      go_wp2
      go_ret
      exact ⟨rfl, HB.out⟩
  · go_enter Tryz.func19, Tryz.ntmps19
    go_wp2
    go_ret
    exact ⟨rfl, HB.out⟩

/-- May a deed of that kind be of a path whose last deed was of the other kind? -/
def followB (m k : Int) : Bool := if (m == 0) = true then true else if (m == 1) = true then k == 3 else if (m == 2) = true then k == 4 else false
theorem mayFollow_any (m k : Int) (w : World) : Calls Tryz.prog 20 #[.int .i64 m, .int .i64 k] w fun e w' => e = .returned (.bool (followB m k)) ∧ Below w.heap.size w w' := by
  unfold followB
  cases h0 : (m == 0)
  · cases h1 : (m == 1)
    · cases h2 : (m == 2)
      all_goals
        go_enter Tryz.func20, Tryz.ntmps20
        go_wp2
        go_ret
        exact ⟨rfl, Below.refl _ _⟩
    · go_enter Tryz.func20, Tryz.ntmps20
      go_wp2
      go_ret
      exact ⟨rfl, Below.refl _ _⟩
  · go_enter Tryz.func20, Tryz.ntmps20
    go_wp2
    go_ret
    exact ⟨rfl, Below.refl _ _⟩

/-- The kind of the last deed at a path; 0: there is none. -/
def lastK (l : List De) (s : ByteArray) : Int := l.foldl (fun m d => if (d.pa.toList == s.toList) = true then d.kd else m) 0
theorem lastK_snoc (l : List De) (d : De) (s : ByteArray) : lastK (l ++ [d]) s = if (d.pa.toList == s.toList) = true then d.kd else lastK l s := by
  unfold lastK
  rw [List.foldl_append]
  rfl
/-- What was met, of a path. -/
theorem met_is {l : List De} (s : ByteArray) : ∀ k, k ≤ l.length → (∀ j (hj : j < l.length), j < k → okDe (l.take j) l[j] = true) →
    ((l.take k).countP (atP s) = 0 ∧ lastK (l.take k) s = 0) ∨ ((l.take k).countP (atP s) = 1 ∧ ∃ x, 1 ≤ x ∧ x ≤ 4 ∧ lastK (l.take k) s = x ∧ (∃ b ∈ l.take k, atP s b = true) ∧ ∀ b ∈ l.take k, atP s b = true → b.kd = x) ∨ (2 ≤ (l.take k).countP (atP s) ∧ (lastK (l.take k) s = 3 ∨ lastK (l.take k) s = 4)) := by
  intro k
  induction k with
  | zero => intro _ _; exact Or.inl ⟨rfl, rfl⟩
  | succ k ih =>
    intro hk hall
    have hlt : k < l.length := by omega
    have ih := ih (by omega) fun j hj h => hall j hj (by omega)
    have hok := hall k hlt (by omega)
    rw [List.take_succ_eq_append_getElem hlt, List.countP_append, lastK_snoc]
    obtain ⟨h1, h4, _, _⟩ := okDe_parts hok
    cases hp : (l[k].pa.toList == s.toList)
    · have hp2 : atP s l[k] = false := hp
      rw [List.countP_cons, List.countP_nil, hp2]
      simp only [Bool.false_eq_true, if_false, Nat.add_zero]
      rcases ih with h | ⟨hc, x, hx1, hx4, hx, ⟨b0, hb0, hb1⟩, hb⟩ | h
      · exact Or.inl h
      · refine Or.inr (Or.inl ⟨hc, x, hx1, hx4, hx, ⟨b0, List.mem_append_left _ hb0, hb1⟩, fun b hm hq => ?_⟩)
        rcases List.mem_append.1 hm with q | q
        · exact hb b q hq
        · rw [List.mem_singleton.1 q, hp2] at hq; cases hq
      · exact Or.inr (Or.inr h)
    · have hp2 : atP s l[k] = true := hp
      rw [List.countP_cons, List.countP_nil, hp2]
      simp only [if_true]
      have hat : ∀ b, atP l[k].pa b = atP s b := fun b => by unfold atP; rw [beq_iff_eq.1 hp]
      have hfun : atP l[k].pa = atP s := funext hat
      unfold okDe at hok
      simp only [Bool.and_eq_true, decide_eq_true_eq, List.all_eq_true] at hok
      have hpair := hok.2.1
      have hcnt := hok.2.2
      rw [hfun] at hcnt
      rcases ih with ⟨hc, _⟩ | ⟨hc, x, hx1, hx4, hx, ⟨b0, hb0, hb1⟩, hb⟩ | ⟨hc, _⟩
      · refine Or.inr (Or.inl ⟨by omega, l[k].kd, h1, h4, rfl, ⟨l[k], List.mem_append_right _ (List.mem_singleton.2 rfl), hp2⟩, fun b hm hq => ?_⟩)
        rcases List.mem_append.1 hm with q | q
        · rw [List.countP_eq_zero] at hc
          exact absurd hq (hc b q)
        · rw [List.mem_singleton.1 q]
      · refine Or.inr (Or.inr ⟨by omega, ?_⟩)
        have := hpair b0 hb0
        rw [hat, hb1] at this
        unfold pairB at this
        simp only [Bool.not_true, Bool.false_or, Bool.or_eq_true, Bool.and_eq_true, beq_iff_eq] at this
        omega
      · omega
theorem follow_is {l : List De} {k : Nat} (hk : k ≤ l.length) (hall : ∀ j (hj : j < l.length), j < k → okDe (l.take j) l[j] = true) (s : ByteArray) (c : Int) :
    followB (lastK (l.take k) s) c = (((l.take k).all fun a => !atP s a || pairB a.kd c) && decide ((l.take k).countP (atP s) ≤ 1)) := by
  rcases met_is s k hk hall with ⟨hc, hx⟩ | ⟨hc, x, hx1, hx4, hx, ⟨b0, hb0, hb1⟩, hb⟩ | ⟨hc, hx⟩
  · rw [hx, hc]
    rw [List.countP_eq_zero] at hc
    have : ((l.take k).all fun a => !atP s a || pairB a.kd c) = true := by
      rw [List.all_eq_true]
      intro b hm
      have := hc b hm
      rw [Bool.not_eq_true] at this
      rw [this]; rfl
    rw [this]; rfl
  · rw [hx, hc]
    have : ((l.take k).all fun a => !atP s a || pairB a.kd c) = pairB x c := by
      cases hq : pairB x c
      · rw [Bool.eq_false_iff]
        intro h
        rw [List.all_eq_true] at h
        have := h b0 hb0
        rw [hb1, hb b0 hb0 hb1, hq] at this
        cases this
      · rw [List.all_eq_true]
        intro b hm
        cases hbb : atP s b
        · rfl
        · rw [hb b hm hbb, hq]; rfl
    rw [this]
    obtain rfl | rfl | rfl | rfl : x = 1 ∨ x = 2 ∨ x = 3 ∨ x = 4 := by omega
    all_goals (unfold followB pairB; simp)
  · have : decide ((l.take k).countP (atP s) ≤ 1) = false := decide_eq_false (by omega)
    rw [this, Bool.and_false]
    rcases hx with hx | hx <;> (rw [hx]; rfl)

theorem hldI {v u : Value} {ps : List MemPlace} (h : hldR v = some (.held u, ps)) : v = u := by
  unfold hldR at h
  injection h with h
  injection h with h _
  injection h
/-- The map of what was met. -/
def MetAt (w : World) (M n : Nat) (l : List De) : Prop := ∃ D : DataW Value, w.ownsMap Tryz.prog 9 hldR M n D ∧ Maps.IsMap D ∧ ∀ s : ByteArray, D.atKey (keyF s) (.held (.int .i64 0)) = .held (.int .i64 (lastK l s))
theorem MetAt.lt {w : World} {M n : Nat} {l : List De} (h : MetAt w M n l) : M < w.heap.size := by
  obtain ⟨D, h1, _⟩ := h
  exact h1.lt
theorem MetAt.below {w w' : World} {M n : Nat} {l : List De} (h : MetAt w M n l) (hb : Below w.heap.size w w') : MetAt w' M n l := by
  have hl := h.lt
  obtain ⟨D, ⟨es, cl, h1, r⟩, h2⟩ := h
  exact ⟨D, ⟨es, cl, (hb.block M hl).trans h1, r⟩, h2⟩
theorem MetAt.new (w : World) : MetAt (w.alloc (.map #[] 0)) w.heap.size 0 [] :=
  ⟨.map [], World.ownsMap_made (H := Value) w Tryz.prog 9 hldR, ⟨[], rfl⟩, fun _ => rfl⟩
theorem zeroI (w : World) : (zeroValue 3).run Tryz.prog w = .ok (.int .i64 0) w := by kernel_rfl
theorem MetAt.look {w : World} {M n : Nat} {l : List De} (h : MetAt w M n l) {s : ByteArray} (hs : s.size ≤ maxLen) : (Instr.lookup 54 (.map (some M)) (.string s) false).run Tryz.prog w = .ok (.int .i64 (lastK l s)) w := by
  obtain ⟨D, h1, _, h2⟩ := h
  obtain ⟨v, ps, hr, hv⟩ := h1.lookup keyedF Tryz.underlying54 (zeroI w) (zd := .held (.int .i64 0)) (zp := []) rfl (keyOfF hs)
  rw [h2] at hv
  rw [hr, hldI hv]
theorem MetAt.put {w : World} {M n : Nat} {l : List De} (h : MetAt w M n l) (hn : n < maxLen) (d : De) (hs : d.pa.size ≤ maxLen) : ∃ w', (Instr.mapUpdate 54 (.map (some M)) (.string d.pa) (.int .i64 d.kd)).run Tryz.prog w = .ok () w' ∧ MetAt w' M (n + 1) (l ++ [d]) ∧ w.grownBy w' (some M) := by
  obtain ⟨D, h1, hm, h2⟩ := h
  obtain ⟨w', hr, ho, hg⟩ := h1.update keyedF Tryz.underlying54 hn (keyOfF hs) (val := .int .i64 d.kd) (d := .held (.int .i64 d.kd)) (ps := []) rfl
  refine ⟨w', hr, ⟨_, ho, by obtain ⟨es, rfl⟩ := hm; exact ⟨_, rfl⟩, fun u => ?_⟩, hg⟩
  rw [lastK_snoc]
  by_cases e : u = d.pa
  · subst e
    rw [Maps.atKey_put_same hm (isKeyF _), if_pos (beq_bytes.2 rfl)]
  · rw [Maps.atKey_put_other fun k => e (keyF_inj k), if_neg (fun q => e (beq_bytes.1 q).symm)]
    exact h2 u
end Go.Proofs.YtefcndfeemnglaaGreatDoor
