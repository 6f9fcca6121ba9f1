/- Package plan: the deed of a line. Conditions: sizes. -/
import Derived.Test.YtefcndfeemnglaaGreatDoorPe1
namespace Go.Proofs.YtefcndfeemnglaaGreatDoor
open Go.RowKit Go.Maps Go.WideMaps Go.WideElems Dk
set_option maxRecDepth 100000

/-- What deedOf answers. -/
def DeQ (w : World) (ws : List Sc.Bs) (e : Ending) (w' : World) : Prop := ∃ (k : Int) (p t : ByteArray) (b : Bool), e = .returned (.tuple #[.agg #[.int .i64 k, .string p, .string t], .bool b]) ∧ Below w.heap.size w w' ∧ ((b = true ∧ deedW ws = some ⟨k, p, t⟩) ∨ (b = false ∧ deedW ws = none))
theorem deedW_none {ws : List Sc.Bs} {a : Sc.Bs} (h0 : ws[0]? = some a) (h : kindW a = 0 ∨ (kindW a ≠ 4 ∧ ws.length ≠ 2) ∨ (kindW a = 4 ∧ ws.length ≠ 3)) : deedW ws = none := by
  match ws, h0 with
  | [x], _ => rfl
  | [x, y], h0 =>
    cases h0
    unfold deedW
    simp only
    rw [if_neg]
    intro q
    rcases h with h | h | h
    · omega
    · exact h.2 rfl
    · omega
  | [x, y, z], h0 =>
    cases h0
    unfold deedW
    simp only
    rw [if_neg]
    intro q
    rcases h with h | h | h
    · omega
    · exact h.1 q
    · exact h.2 rfl
  | _ :: _ :: _ :: _ :: _, _ => rfl
theorem deedW_two {a b : Sc.Bs} (h0 : kindW a ≠ 0) (h4 : kindW a ≠ 4) : deedW [a, b] = some ⟨kindW a, Sc.ba b, ⟨#[]⟩⟩ := by
  obtain ⟨_, h1, h2⟩ := word_kind h0
  unfold deedW
  simp only
  rw [if_pos ⟨h1, by omega⟩]
theorem deedW_three {a b c : Sc.Bs} (h4 : kindW a = 4) : deedW [a, b, c] = if (bytW c).isSome = true then some ⟨4, Sc.ba b, bytO c⟩ else none := by
  unfold deedW bytO
  simp only
  rw [if_pos h4]
  cases bytW c <;> rfl
theorem len_two {ws : List Sc.Bs} (h : ws.length = 2) : ∃ a b, ws = [a, b] := by
  match ws, h with
  | [a, b], _ => exact ⟨a, b, rfl⟩
theorem len_three {ws : List Sc.Bs} (h : ws.length = 3) : ∃ a b c, ws = [a, b, c] := by
  match ws, h with
  | [a, b, c], _ => exact ⟨a, b, c, rfl⟩

theorem set_farP {w : World} {N i j : Nat} {u x : Value} (h : i ≠ j) (hx : w.cell? ⟨N, j, none⟩ = some x) : (w.setCell ⟨N, i, none⟩ u).cell? ⟨N, j, none⟩ = some x := (World.cell?_setCell_other _ _ _ _ (fun e => by cases e; exact h rfl)).trans hx
theorem set3P {w : World} {N : Nat} {x0 x1 x2 : Value} (j0 : w.cell? ⟨N, 0, none⟩ = some x0) (j1 : w.cell? ⟨N, 1, none⟩ = some x1) (j2 : w.cell? ⟨N, 2, none⟩ = some x2) (u0 u1 u2 : Value) :
    (((w.setCell ⟨N, 0, none⟩ u0).setCell ⟨N, 1, none⟩ u1).setCell ⟨N, 2, none⟩ u2).cell? ⟨N, 0, none⟩ = some u0 ∧ (((w.setCell ⟨N, 0, none⟩ u0).setCell ⟨N, 1, none⟩ u1).setCell ⟨N, 2, none⟩ u2).cell? ⟨N, 1, none⟩ = some u1 ∧ (((w.setCell ⟨N, 0, none⟩ u0).setCell ⟨N, 1, none⟩ u1).setCell ⟨N, 2, none⟩ u2).cell? ⟨N, 2, none⟩ = some u2 :=
  ⟨set_farP (by decide) (set_farP (by decide) (World.cell?_setCell_same _ _ _ j0)), set_farP (by decide) (World.cell?_setCell_same _ _ _ (set_farP (by decide) j1)), World.cell?_setCell_same _ _ _ (set_farP (by decide) (set_farP (by decide) j2))⟩

set_option maxHeartbeats 8000000 in
theorem deedOf_any {w : World} {v : Value} {ws : List Sc.Bs} (h : Sc.WordsAt w v ws) (hne : ws ≠ []) (hz : ∀ x ∈ ws, x.length ≤ 1000000000) (hlen : ws.length ≤ 1000000000) :
    Calls Tryz.prog 31 #[v] w (DeQ w ws) := by
  obtain ⟨ad, cap, rfl, hcap, hl⟩ := h
  obtain ⟨g, o, rfl, hg, hc⟩ : ∃ g o, ad = some ⟨g, o, none⟩ ∧ g < w.heap.size ∧ ∀ i (h : i < ws.length), w.cell? ⟨g, o + i, none⟩ = some (.string (Sc.ba ws[i])) := hl.resolve_left hne
  obtain ⟨W0, hW0⟩ : ∃ W0, W0 = w.alloc (.cells #[.int .i64 0, .string ⟨#[]⟩, .string ⟨#[]⟩] 32) := ⟨_, rfl⟩
  have HX : Hid (Below w.heap.size w W0) := by rw [hW0]; exact (Below.refl _ _).alloc (Nat.le_refl _) _
  have h0 : 0 < ws.length := List.length_pos_iff.2 hne
  have HC : Hid (∀ W, Below w.heap.size w W → ∀ i (h : i < ws.length), W.cell? ⟨g, o + i, none⟩ = some (.string (Sc.ba ws[i]))) := fun W hb i hi => (hb.cell (p := ⟨g, o + i, none⟩) hg).trans (hc i hi)
  have HBK : Hid (∀ W, Below W0.heap.size W0 W → BxDe W w.heap.size 0 ⟨#[]⟩ ⟨#[]⟩ ∧ ∀ i, W.frozen? ⟨w.heap.size, i, none⟩ = false) := fun W hb => by
    have hbx : BxDe W0 w.heap.size 0 ⟨#[]⟩ ⟨#[]⟩ := by rw [hW0]; exact bxDe_new _ _ _ _
    refine ⟨keepBxDe _ _ _ _ _ _ hbx hb, fun i => ?_⟩
    have h1 : W0.heap[w.heap.size]? = some (.cells #[.int .i64 0, .string ⟨#[]⟩, .string ⟨#[]⟩] 32 (0, 0)) := by
      rw [hW0]
      show (w.heap.push _)[w.heap.size]? = _
      rw [Array.getElem?_push, if_pos rfl]
    exact Lib.frozen_of_heap ((hb.block w.heap.size hbx.2.2.2).trans h1) i
  have c0 := HC.out W0 HX.out 0 h0
  rw [Nat.add_zero] at c0
  have HK : Hid (∀ w1, Calls Tryz.prog 53 #[.string (Sc.ba ws[0])] w1 fun e w' => e = .returned (.int .i64 (kindW ws[0])) ∧ w' = w1) := fun w1 => by
    have := plKind_any (Sc.ba ws[0]) w1
    rw [Sc.ba_list] at this
    exact this
  have HDN := hide3 (deedW_none (ws := ws) (a := ws[0]) (List.getElem?_eq_getElem h0))
  obtain ⟨⟨x0, x1, x2, x3⟩, hfz⟩ := HBK.out W0 (Below.refl _ _)
  have z0 := hfz 0
  have z1 := hfz 1
  have z2 := hfz 2
  clear hfz hc hl
  have hset : ∀ (W : World) (b : Nat) (u0 u1 u2 : Value), Below W0.heap.size W0 W → Below w.heap.size w (((W.setCell ⟨w.heap.size, 0, none⟩ u0).setCell ⟨w.heap.size, 1, none⟩ u1).setCell ⟨w.heap.size, 2, none⟩ u2) := fun W b u0 u1 u2 hb => by
    have h1 : Below w.heap.size w W := HX.out.trans (hb.mono HX.out.size)
    exact ((h1.setCell (p := ⟨w.heap.size, 0, none⟩) (Nat.le_refl _) _).setCell (p := ⟨w.heap.size, 1, none⟩) (Nat.le_refl _) _).setCell (p := ⟨w.heap.size, 2, none⟩) (Nat.le_refl _) _
  have HSET := hide3 hset
  clear hset
  generalize hkk : kindW ws[0] = kk at *
  cases hk0 : (kk == 0)
  · cases hk4 : (kk == 4)
    · have hk4n : (kk != 4) = true := by unfold bne; rw [hk4]; rfl
      by_cases hl2 : ws.length = 2
      · obtain ⟨a, b, rfl⟩ := len_two hl2
        have c1 := HC.out W0 HX.out 1 (by simp)
        have HR : Hid (deedW [a, b] = some ⟨kk, Sc.ba b, ⟨#[]⟩⟩) := by
          unfold Hid
          rw [← hkk]
          refine deedW_two ?_ ?_
          · show kindW ([a, b][0]) ≠ 0
            rw [hkk]
            intro e; rw [e] at hk0; cases hk0
          · show kindW ([a, b][0]) ≠ 4
            rw [hkk]
            intro e; rw [e] at hk4; cases hk4
        simp only [List.getElem_cons_zero, List.getElem_cons_succ, List.length_cons, List.length_nil] at *
        clear HDN HC HBK hkk hl2
        subst hW0
        go_enter Tryz.func31, Tryz.ntmps31
        go_wp2_with (go_at_call 53; refine (HK.out _).mono ?_; rintro e w1 ⟨rfl, rfl⟩)
        refine bodyPost_ret (by simp [results, Tryz.results31, go_sem]; try rfl) rfl ?_
        exact ⟨kk, Sc.ba b, ⟨#[]⟩, true, rfl, (Below.refl _ _).alloc (Nat.le_refl _) _, Or.inl ⟨rfl, HR.out⟩⟩
      · have hl2i : ((ws.length : Int) == 2) = false := beq_eq_false_iff_ne.2 (by omega)
        have HR : Hid (deedW ws = none) := HDN.out (Or.inr (Or.inl ⟨fun e => (by rw [e] at hk4; exact absurd hk4 (by decide)), hl2⟩))
        clear HDN HC HBK hkk
        subst hW0
        go_enter Tryz.func31, Tryz.ntmps31
        go_wp2_with (go_at_call 53; refine (HK.out _).mono ?_; rintro e w1 ⟨rfl, rfl⟩)
        refine bodyPost_ret (by simp [results, Tryz.results31, go_sem]; try rfl) rfl ?_
        exact ⟨_, _, _, _, rfl, (Below.refl _ _).alloc (Nat.le_refl _) _, Or.inr ⟨rfl, HR.out⟩⟩
    · have hk4e : kk = 4 := beq_iff_eq.1 hk4
      have hk4n : (kk != 4) = false := by unfold bne; rw [hk4]; rfl
      by_cases hl3 : ws.length = 3
      · obtain ⟨a, b, c, rfl⟩ := len_three hl3
        have c1 := HC.out W0 HX.out 1 (by simp)
        have c2 := HC.out W0 HX.out 2 (by simp)
        have HR : Hid (deedW [a, b, c] = if (bytW c).isSome = true then some ⟨4, Sc.ba b, bytO c⟩ else none) := deedW_three (by rw [← hk4e, ← hkk]; rfl)
        have HY : Hid (∀ w1, Calls Tryz.prog 54 #[.string (Sc.ba c)] w1 fun e w' => e = .returned (.tuple #[.string (bytO c), .bool (bytW c).isSome]) ∧ Below w1.heap.size w1 w') := fun w1 => by
          have := bytesOf_any (Sc.ba c) w1 (by rw [Sc.ba_size]; exact hz c (by simp))
          rw [Sc.ba_list] at this
          exact this
        simp only [List.getElem_cons_zero, List.getElem_cons_succ, List.length_cons, List.length_nil] at *
        generalize (bytW c).isSome = bb at *
        generalize bytO c = tt at *
        have HC2 : Hid (∀ W, Below W0.heap.size W0 W → W.cell? ⟨g, o + 1, none⟩ = some (.string (Sc.ba b))) := fun W hb => (hb.cell (p := ⟨g, o + 1, none⟩) (Nat.lt_of_lt_of_le hg HX.out.size)).trans c1
        clear HDN HC hkk hl3
        subst hk4e
        subst hW0
        go_enter Tryz.func31, Tryz.ntmps31
        go_wp2_with (first
          | (go_at_call 53; refine (HK.out _).mono ?_; rintro e w1 ⟨rfl, rfl⟩)
          | (go_at_call 54; refine (HY.out _).mono ?_; rintro e w2 ⟨rfl, hb2⟩; have d1 := HC2.out w2 hb2; obtain ⟨⟨y0, y1, y2, y3⟩, hfz⟩ := HBK.out w2 hb2; have f0 := hfz 0; have f1 := hfz 1; have f2 := hfz 2; have HB2 := hide3 hb2; clear hb2 hfz))
        have s3 := fun u0 u1 u2 => set3P y0 y1 y2 u0 u1 u2
        refine bodyPost_ret (by simp [results, Tryz.results31, s3, go_sem]; try rfl) rfl ?_
        refine ⟨4, Sc.ba b, tt, bb, rfl, HSET.out w2 0 _ _ _ HB2.out, ?_⟩
        cases bb
        · exact Or.inr ⟨rfl, HR.out⟩
        · exact Or.inl ⟨rfl, HR.out⟩
      · have hl3i : ((ws.length : Int) == 3) = false := beq_eq_false_iff_ne.2 (by omega)
        have HR : Hid (deedW ws = none) := HDN.out (Or.inr (Or.inr ⟨hk4e, hl3⟩))
        clear HDN HC HBK hkk
        subst hW0
        go_enter Tryz.func31, Tryz.ntmps31
        go_wp2_with (go_at_call 53; refine (HK.out _).mono ?_; rintro e w1 ⟨rfl, rfl⟩)
        refine bodyPost_ret (by simp [results, Tryz.results31, go_sem]; try rfl) rfl ?_
        exact ⟨_, _, _, _, rfl, (Below.refl _ _).alloc (Nat.le_refl _) _, Or.inr ⟨rfl, HR.out⟩⟩
  · have hk0e : kk = 0 := beq_iff_eq.1 hk0
    have HR : Hid (deedW ws = none) := HDN.out (Or.inl hk0e)
    clear HDN HC HBK hkk
    subst hW0
    go_enter Tryz.func31, Tryz.ntmps31
    go_wp2_with (go_at_call 53; refine (HK.out _).mono ?_; rintro e w1 ⟨rfl, rfl⟩)
    refine bodyPost_ret (by simp [results, Tryz.results31, go_sem]; try rfl) rfl ?_
    exact ⟨_, _, _, _, rfl, (Below.refl _ _).alloc (Nat.le_refl _) _, Or.inr ⟨rfl, HR.out⟩⟩
end Go.Proofs.YtefcndfeemnglaaGreatDoor
