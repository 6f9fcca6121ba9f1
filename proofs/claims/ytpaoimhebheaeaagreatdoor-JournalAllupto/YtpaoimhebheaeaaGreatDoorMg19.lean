/- Pe2, ScLi2, ScRf1, ScRf2, laid in one text. -/
import Derived.Test.YtpaoimhebheaeaaGreatDoorMg18
namespace Go.Proofs.YtpaoimhebheaeaaGreatDoor
open Go.RowKit Go.Maps Go.WideMaps Go.WideElems Dk
set_option maxRecDepth 100000

/-- What deedOf answers. -/
def DeQ (w : World) (ws : List Sc.Bs) (e : Ending) (w' : World) : Prop := ∃ (k : Int) (p t : ByteArray) (b : Bool), e = .returned (.tuple #[.agg #[.int .i64 k, .string p, .string t], .bool b]) ∧ Below w.heap.size w w' ∧ ((b = true ∧ deedW ws = some ⟨k, p, t⟩) ∨ (b = false ∧ deedW ws = none))
theorem deedW_none {ws : List Sc.Bs} {a : Sc.Bs} (h0 : ws[0]? = some a) (h : kindW a = 0 ∨ (kindW a ≠ 4 ∧ ws.length ≠ 2) ∨ (kindW a = 4 ∧ ws.length ≠ 3)) : deedW ws = none := by
  match ws, h0 with
  | [x], _ => rfl
  | [x, y], h0 =>
    cases h0
    unfold deedW
    simp only
    rw [if_neg]
    intro q
    rcases h with h | h | h
    · omega
    · exact h.2 rfl
    · omega
  | [x, y, z], h0 =>
    cases h0
    unfold deedW
    simp only
    rw [if_neg]
    intro q
    rcases h with h | h | h
    · omega
    · exact h.1 q
    · exact h.2 rfl
  | _ :: _ :: _ :: _ :: _, _ => rfl
theorem deedW_two {a b : Sc.Bs} (h0 : kindW a ≠ 0) (h4 : kindW a ≠ 4) : deedW [a, b] = some ⟨kindW a, Sc.ba b, ⟨#[]⟩⟩ := by
  obtain ⟨_, h1, h2⟩ := word_kind h0
  unfold deedW
  simp only
  rw [if_pos ⟨h1, by omega⟩]
theorem deedW_three {a b c : Sc.Bs} (h4 : kindW a = 4) : deedW [a, b, c] = if (bytW c).isSome = true then some ⟨4, Sc.ba b, bytO c⟩ else none := by
  unfold deedW bytO
  simp only
  rw [if_pos h4]
  cases bytW c <;> rfl
theorem len_two {ws : List Sc.Bs} (h : ws.length = 2) : ∃ a b, ws = [a, b] := by
  match ws, h with
  | [a, b], _ => exact ⟨a, b, rfl⟩
theorem len_three {ws : List Sc.Bs} (h : ws.length = 3) : ∃ a b c, ws = [a, b, c] := by
  match ws, h with
  | [a, b, c], _ => exact ⟨a, b, c, rfl⟩

theorem set_farP {w : World} {N i j : Nat} {u x : Value} (h : i ≠ j) (hx : w.cell? ⟨N, j, none⟩ = some x) : (w.setCell ⟨N, i, none⟩ u).cell? ⟨N, j, none⟩ = some x := (World.cell?_setCell_other _ _ _ _ (fun e => by cases e; exact h rfl)).trans hx
theorem set3P {w : World} {N : Nat} {x0 x1 x2 : Value} (j0 : w.cell? ⟨N, 0, none⟩ = some x0) (j1 : w.cell? ⟨N, 1, none⟩ = some x1) (j2 : w.cell? ⟨N, 2, none⟩ = some x2) (u0 u1 u2 : Value) :
    (((w.setCell ⟨N, 0, none⟩ u0).setCell ⟨N, 1, none⟩ u1).setCell ⟨N, 2, none⟩ u2).cell? ⟨N, 0, none⟩ = some u0 ∧ (((w.setCell ⟨N, 0, none⟩ u0).setCell ⟨N, 1, none⟩ u1).setCell ⟨N, 2, none⟩ u2).cell? ⟨N, 1, none⟩ = some u1 ∧ (((w.setCell ⟨N, 0, none⟩ u0).setCell ⟨N, 1, none⟩ u1).setCell ⟨N, 2, none⟩ u2).cell? ⟨N, 2, none⟩ = some u2 :=
  ⟨set_farP (by decide) (set_farP (by decide) (World.cell?_setCell_same _ _ _ j0)), set_farP (by decide) (World.cell?_setCell_same _ _ _ (set_farP (by decide) j1)), World.cell?_setCell_same _ _ _ (set_farP (by decide) (set_farP (by decide) j2))⟩

set_option maxHeartbeats 8000000 in
theorem deedOf_any {w : World} {v : Value} {ws : List Sc.Bs} (h : Sc.WordsAt w v ws) (hne : ws ≠ []) (hz : ∀ x ∈ ws, x.length ≤ 1000000000) (hlen : ws.length ≤ 1000000000) :
    Calls Tryz.prog 114 #[v] w (DeQ w ws) := by
  obtain ⟨ad, cap, rfl, hcap, hl⟩ := h
  obtain ⟨g, o, rfl, hg, hc⟩ : ∃ g o, ad = some ⟨g, o, none⟩ ∧ g < w.heap.size ∧ ∀ i (h : i < ws.length), w.cell? ⟨g, o + i, none⟩ = some (.string (Sc.ba ws[i])) := hl.resolve_left hne
  obtain ⟨W0, hW0⟩ : ∃ W0, W0 = w.alloc (.cells #[.int .i64 0, .string ⟨#[]⟩, .string ⟨#[]⟩] 54) := ⟨_, rfl⟩
  have HX : Hid (Below w.heap.size w W0) := by rw [hW0]; exact (Below.refl _ _).alloc (Nat.le_refl _) _
  have h0 : 0 < ws.length := List.length_pos_iff.2 hne
  have HC : Hid (∀ W, Below w.heap.size w W → ∀ i (h : i < ws.length), W.cell? ⟨g, o + i, none⟩ = some (.string (Sc.ba ws[i]))) := fun W hb i hi => (hb.cell (p := ⟨g, o + i, none⟩) hg).trans (hc i hi)
  have HBK : Hid (∀ W, Below W0.heap.size W0 W → BxDe W w.heap.size 0 ⟨#[]⟩ ⟨#[]⟩ ∧ ∀ i, W.frozen? ⟨w.heap.size, i, none⟩ = false) := fun W hb => by
    have hbx : BxDe W0 w.heap.size 0 ⟨#[]⟩ ⟨#[]⟩ := by rw [hW0]; exact bxDe_new _ _ _ _
    refine ⟨keepBxDe _ _ _ _ _ _ hbx hb, fun i => ?_⟩
    have h1 : W0.heap[w.heap.size]? = some (.cells #[.int .i64 0, .string ⟨#[]⟩, .string ⟨#[]⟩] 54 (0, 0)) := by
      rw [hW0]
      show (w.heap.push _)[w.heap.size]? = _
      rw [Array.getElem?_push, if_pos rfl]
    exact Lib.frozen_of_heap ((hb.block w.heap.size hbx.2.2.2).trans h1) i
  have c0 := HC.out W0 HX.out 0 h0
  rw [Nat.add_zero] at c0
  have HK : Hid (∀ w1, Calls Tryz.prog 146 #[.string (Sc.ba ws[0])] w1 fun e w' => e = .returned (.int .i64 (kindW ws[0])) ∧ w' = w1) := fun w1 => by
    have := plKind_any (Sc.ba ws[0]) w1
    rw [Sc.ba_list] at this
    exact this
  have HDN := hide3 (deedW_none (ws := ws) (a := ws[0]) (List.getElem?_eq_getElem h0))
  obtain ⟨⟨x0, x1, x2, x3⟩, hfz⟩ := HBK.out W0 (Below.refl _ _)
  have z0 := hfz 0
  have z1 := hfz 1
  have z2 := hfz 2
  clear hfz hc hl
  have hset : ∀ (W : World) (b : Nat) (u0 u1 u2 : Value), Below W0.heap.size W0 W → Below w.heap.size w (((W.setCell ⟨w.heap.size, 0, none⟩ u0).setCell ⟨w.heap.size, 1, none⟩ u1).setCell ⟨w.heap.size, 2, none⟩ u2) := fun W b u0 u1 u2 hb => by
    have h1 : Below w.heap.size w W := HX.out.trans (hb.mono HX.out.size)
    exact ((h1.setCell (p := ⟨w.heap.size, 0, none⟩) (Nat.le_refl _) _).setCell (p := ⟨w.heap.size, 1, none⟩) (Nat.le_refl _) _).setCell (p := ⟨w.heap.size, 2, none⟩) (Nat.le_refl _) _
  have HSET := hide3 hset
  clear hset
  generalize hkk : kindW ws[0] = kk at *
  cases hk0 : (kk == 0)
  · cases hk4 : (kk == 4)
    · have hk4n : (kk != 4) = true := by unfold bne; rw [hk4]; rfl
      by_cases hl2 : ws.length = 2
      · obtain ⟨a, b, rfl⟩ := len_two hl2
        have c1 := HC.out W0 HX.out 1 (by simp)
        have HR : Hid (deedW [a, b] = some ⟨kk, Sc.ba b, ⟨#[]⟩⟩) := by
          unfold Hid
          rw [← hkk]
          refine deedW_two ?_ ?_
          · show kindW ([a, b][0]) ≠ 0
            rw [hkk]
            intro e; rw [e] at hk0; cases hk0
          · show kindW ([a, b][0]) ≠ 4
            rw [hkk]
            intro e; rw [e] at hk4; cases hk4
        simp only [List.getElem_cons_zero, List.getElem_cons_succ, List.length_cons, List.length_nil] at *
        clear HDN HC HBK hkk hl2
        subst hW0
        go_enter Tryz.func114, Tryz.ntmps114
        go_wp2_with (go_at_call 146; refine (HK.out _).mono ?_; rintro e w1 ⟨rfl, rfl⟩)
        refine bodyPost_ret (by simp [results, Tryz.results114, go_sem]; try rfl) rfl ?_
        exact ⟨kk, Sc.ba b, ⟨#[]⟩, true, rfl, (Below.refl _ _).alloc (Nat.le_refl _) _, Or.inl ⟨rfl, HR.out⟩⟩
      · have hl2i : ((ws.length : Int) == 2) = false := beq_eq_false_iff_ne.2 (by omega)
        have HR : Hid (deedW ws = none) := HDN.out (Or.inr (Or.inl ⟨fun e => (by rw [e] at hk4; exact absurd hk4 (by decide)), hl2⟩))
        clear HDN HC HBK hkk
        subst hW0
        go_enter Tryz.func114, Tryz.ntmps114
        go_wp2_with (go_at_call 146; refine (HK.out _).mono ?_; rintro e w1 ⟨rfl, rfl⟩)
        refine bodyPost_ret (by simp [results, Tryz.results114, go_sem]; try rfl) rfl ?_
        exact ⟨_, _, _, _, rfl, (Below.refl _ _).alloc (Nat.le_refl _) _, Or.inr ⟨rfl, HR.out⟩⟩
    · have hk4e : kk = 4 := beq_iff_eq.1 hk4
      have hk4n : (kk != 4) = false := by unfold bne; rw [hk4]; rfl
      by_cases hl3 : ws.length = 3
      · obtain ⟨a, b, c, rfl⟩ := len_three hl3
        have c1 := HC.out W0 HX.out 1 (by simp)
        have c2 := HC.out W0 HX.out 2 (by simp)
        have HR : Hid (deedW [a, b, c] = if (bytW c).isSome = true then some ⟨4, Sc.ba b, bytO c⟩ else none) := deedW_three (by rw [← hk4e, ← hkk]; rfl)
        have HY : Hid (∀ w1, Calls Tryz.prog 147 #[.string (Sc.ba c)] w1 fun e w' => e = .returned (.tuple #[.string (bytO c), .bool (bytW c).isSome]) ∧ Below w1.heap.size w1 w') := fun w1 => by
          have := bytesOf_any (Sc.ba c) w1 (by rw [Sc.ba_size]; exact hz c (by simp))
          rw [Sc.ba_list] at this
          exact this
        simp only [List.getElem_cons_zero, List.getElem_cons_succ, List.length_cons, List.length_nil] at *
        generalize (bytW c).isSome = bb at *
        generalize bytO c = tt at *
        have HC2 : Hid (∀ W, Below W0.heap.size W0 W → W.cell? ⟨g, o + 1, none⟩ = some (.string (Sc.ba b))) := fun W hb => (hb.cell (p := ⟨g, o + 1, none⟩) (Nat.lt_of_lt_of_le hg HX.out.size)).trans c1
        clear HDN HC hkk hl3
        subst hk4e
        subst hW0
        go_enter Tryz.func114, Tryz.ntmps114
        go_wp2_with (first
          | (go_at_call 146; refine (HK.out _).mono ?_; rintro e w1 ⟨rfl, rfl⟩)
          | (go_at_call 147; refine (HY.out _).mono ?_; rintro e w2 ⟨rfl, hb2⟩; have d1 := HC2.out w2 hb2; obtain ⟨⟨y0, y1, y2, y3⟩, hfz⟩ := HBK.out w2 hb2; have f0 := hfz 0; have f1 := hfz 1; have f2 := hfz 2; have HB2 := hide3 hb2; clear hb2 hfz))
        have s3 := fun u0 u1 u2 => set3P y0 y1 y2 u0 u1 u2
        refine bodyPost_ret (by simp [results, Tryz.results114, s3, go_sem]; try rfl) rfl ?_
        refine ⟨4, Sc.ba b, tt, bb, rfl, HSET.out w2 0 _ _ _ HB2.out, ?_⟩
        cases bb
        · exact Or.inr ⟨rfl, HR.out⟩
        · exact Or.inl ⟨rfl, HR.out⟩
      · have hl3i : ((ws.length : Int) == 3) = false := beq_eq_false_iff_ne.2 (by omega)
        have HR : Hid (deedW ws = none) := HDN.out (Or.inr (Or.inr ⟨hk4e, hl3⟩))
        clear HDN HC HBK hkk
        subst hW0
        go_enter Tryz.func114, Tryz.ntmps114
        go_wp2_with (go_at_call 146; refine (HK.out _).mono ?_; rintro e w1 ⟨rfl, rfl⟩)
        refine bodyPost_ret (by simp [results, Tryz.results114, go_sem]; try rfl) rfl ?_
        exact ⟨_, _, _, _, rfl, (Below.refl _ _).alloc (Nat.le_refl _) _, Or.inr ⟨rfl, HR.out⟩⟩
  · have hk0e : kk = 0 := beq_iff_eq.1 hk0
    have HR : Hid (deedW ws = none) := HDN.out (Or.inl hk0e)
    clear HDN HC HBK hkk
    subst hW0
    go_enter Tryz.func114, Tryz.ntmps114
    go_wp2_with (go_at_call 146; refine (HK.out _).mono ?_; rintro e w1 ⟨rfl, rfl⟩)
    refine bodyPost_ret (by simp [results, Tryz.results114, go_sem]; try rfl) rfl ?_
    exact ⟨_, _, _, _, rfl, (Below.refl _ _).alloc (Nat.le_refl _) _, Or.inr ⟨rfl, HR.out⟩⟩
end Go.Proofs.YtpaoimhebheaeaaGreatDoor
namespace Go.Proofs.YtpaoimhebheaeaaGreatDoor.Sc
open Go.RowKit
set_option maxRecDepth 100000

/-- The frame: text, bound, lines, words, where it is, where the word began. -/
def Fr (t : ByteArray) (most : Int) (vl vw vk vf : Value) (a : Act) : Prop := ∃ (u2 u3 u4 u5 u6 u11 u12 u13 u14 u15 u16 u17 u18 u19 u20 u21 u22 u23 u24 u25 u26 u27 u28 u29 u30 u31 u32 u33 u34 u35 u36 u37 u38 u39 u40 u41 u42 u43 u44 u45 u46 u47 u48 u49 u50 u51 u52 u53 u54 u55 u56 u57 u58 u59 u60 u61 u62 u63 u64 u65 u66 : Value), a = { tmps := #[.string t, .int .i64 most, u2, u3, u4, u5, u6, vl, vw, vk, vf, u11, u12, u13, u14, u15, u16, u17, u18, u19, u20, u21, u22, u23, u24, u25, u26, u27, u28, u29, u30, u31, u32, u33, u34, u35, u36, u37, u38, u39, u40, u41, u42, u43, u44, u45, u46, u47, u48, u49, u50, u51, u52, u53, u54, u55, u56, u57, u58, u59, u60, u61, u62, u63, u64, u65, u66], defers := [] }

/-- What holds at a label, the frame aside. -/
def D4 (t : ByteArray) (w : World) (R : Except Nat (List (List Bs))) (l : Nat) (vl vw vf : Value) (k : Nat) (w' : World) : Prop :=
    ((l = 0 ∧ ∃ ps, St w vl (.slice none 0 0) ps [] w' ∧ ps.length ≤ k ∧ scanR (t.data.toList.drop k) [] [] (ps.map (·.2)) = R) ∨
     (l = 1 ∧ ∃ ps ws, St w vl vw ps ws w' ∧ ps.length ≤ k ∧ ws.length ≤ k ∧ ws ≠ [] ∧ scanR (t.data.toList.drop k) [] ws (ps.map (·.2)) = R) ∨
     (l = 2 ∧ ∃ (f : Nat) (ps : List (Value × List Bs)) (ws : List Bs), vf = .int .i64 f ∧ f < k ∧ St w vl vw ps ws w' ∧ ps.length ≤ k ∧ ws.length ≤ k ∧ scanR (t.data.toList.drop k) ((t.data.toList.take k).drop f) ws (ps.map (·.2)) = R) ∨
     (l = 3 ∧ ∃ ps, LL w' w.heap.size vl ps ∧ ps.length ≤ k ∧ Below w.heap.size w w' ∧ R = .error (ps.length + 1)))
/-- What holds at a label. -/
def J4 (t : ByteArray) (most : Int) (w : World) (R : Except Nat (List (List Bs))) (l : Nat) (a : Act) (w' : World) : Prop :=
  ∃ (vl vw vf : Value) (k : Nat), Fr t most vl vw (.int .i64 k) vf a ∧ k ≤ t.size ∧ D4 t w R l vl vw vf k w'
/-- A measure that each pass lowers. -/
def mu4 (t : ByteArray) (l : Nat) (a : Act) (_ : World) : Nat := if l = 3 then 0 else t.size + 1 - (intOf (a.tmps.getD 9 undef)).toNat

theorem mu4_at {t : ByteArray} {most : Int} {vl vw vf : Value} {k : Nat} {a : Act} {w : World} (h : Fr t most vl vw (.int .i64 k) vf a) {l : Nat} (hl : l ≠ 3) : mu4 t l a w = t.size + 1 - k := by
  obtain ⟨u2, u3, u4, u5, u6, u11, u12, u13, u14, u15, u16, u17, u18, u19, u20, u21, u22, u23, u24, u25, u26, u27, u28, u29, u30, u31, u32, u33, u34, u35, u36, u37, u38, u39, u40, u41, u42, u43, u44, u45, u46, u47, u48, u49, u50, u51, u52, u53, u54, u55, u56, u57, u58, u59, u60, u61, u62, u63, u64, u65, u66, rfl⟩ := h
  unfold mu4
  rw [if_neg hl]
  rfl

def linE : Except Nat (List (List Bs)) → Int
  | .ok _ => 0
  | .error _ => 22
def linN : Except Nat (List (List Bs)) → Nat
  | .ok _ => 0
  | .error n => n
def linL : Except Nat (List (List Bs)) → List (List Bs)
  | .ok L => L
  | .error _ => []
/-- Lines of one's own. -/
def OwnLL (w : World) (B : Nat) (v : Value) (L : List (List Bs)) : Prop := ∃ ps, ps.map (·.2) = L ∧ LL w B v ps
/-- What Lines answers with. -/
def LinesP (w : World) (R : Except Nat (List (List Bs))) (e : Ending) (w' : World) : Prop := ∃ v, e = .returned (.tuple #[v, .int .i64 (linE R), .int .i64 (linN R : Int)]) ∧ OwnLL w' w.heap.size v (linL R) ∧ Below w.heap.size w w'
theorem LinesP.ok {w w' : World} {R : Except Nat (List (List Bs))} {vl : Value} {ps : List (Value × List Bs)} (hR : R = .ok (ps.map (·.2))) (h : LL w' w.heap.size vl ps) (hb : Below w.heap.size w w') : LinesP w R (.returned (.tuple #[vl, .int .i64 0, .int .i64 0])) w' := by
  subst hR
  exact ⟨vl, rfl, ⟨ps, rfl, h⟩, hb⟩
theorem LinesP.no {w w' : World} {R : Except Nat (List (List Bs))} {n : Nat} (hR : R = .error n) (hb : Below w.heap.size w w') : LinesP w R (.returned (.tuple #[.slice none 0 0, .int .i64 22, .int .i64 (n : Int)])) w' := by
  subst hR
  exact ⟨_, rfl, ⟨[], rfl, LL.nil _ _⟩, hb⟩
theorem drop_at {t : ByteArray} {k : Nat} (h : k < t.size) : t.data.toList.drop k = t[k] :: t.data.toList.drop (k + 1) := List.drop_eq_getElem_cons (by rw [list_size]; exact h)
theorem take_at {t : ByteArray} {f k : Nat} (h : k < t.size) (hf : f ≤ k) : (t.data.toList.take (k + 1)).drop f = (t.data.toList.take k).drop f ++ [t[k]] := by
  rw [List.take_succ_eq_append_getElem (by rw [list_size]; exact h), List.drop_append_of_le_length (by rw [List.length_take, list_size]; omega)]
  rfl
theorem cur_ne {t : ByteArray} {f k : Nat} (h : k ≤ t.size) (hf : f < k) : (t.data.toList.take k).drop f ≠ [] := by
  intro e
  have := congrArg List.length e
  rw [List.length_drop, List.length_take, list_size] at this
  simp at this
  omega
theorem cur_nil (t : ByteArray) (k : Nat) : (t.data.toList.take k).drop k = [] := List.drop_of_length_le (by rw [List.length_take]; omega)
theorem drop_end {t : ByteArray} {k : Nat} (h : ¬ k < t.size) : t.data.toList.drop k = [] := List.drop_of_length_le (by rw [list_size]; omega)


theorem jump_ok {t : ByteArray} {most : Int} {w w' : World} {R : Except Nat (List (List Bs))} {vl vw vf : Value} {a : Act} {k k' l N : Nat} (hF : Fr t most vl vw (.int .i64 (k' : Nat)) vf a) (hl : l ≠ 3) (hN : N = t.size + 1 - k) (hk : k < k') (hk' : k' ≤ t.size) (h : D4 t w R l vl vw vf k' w') : J4 t most w R l a w' ∧ mu4 t l a w' < N :=
  ⟨⟨vl, vw, vf, k', hF, hk', h⟩, by rw [mu4_at hF hl, hN]; omega⟩
theorem jump_wrong {t : ByteArray} {most : Int} {w w' : World} {R : Except Nat (List (List Bs))} {vl vw vf : Value} {a : Act} {k k' N : Nat} {ps : List (Value × List Bs)} (hF : Fr t most vl vw (.int .i64 (k' : Nat)) vf a) (hN : N = t.size + 1 - k) (hk : k ≤ t.size) (hk' : k' ≤ t.size) (h : LL w' w.heap.size vl ps) (hp : ps.length ≤ k') (hb : Below w.heap.size w w') (hR : R = .error (ps.length + 1)) : J4 t most w R 3 a w' ∧ mu4 t 3 a w' < N :=
  ⟨⟨vl, vw, vf, k', hF, hk', Or.inr (Or.inr (Or.inr ⟨rfl, ps, h, hp, hb, hR⟩))⟩, by show (if 3 = 3 then 0 else _) < N; rw [if_pos rfl]; omega⟩
theorem own_one {w : World} {B : Nat} {v : Value} {ws : List Bs} (h : OwnW w B v ws) : v.oneCell' = true := by
  rcases h.2 with ⟨rfl, _⟩ | ⟨g, cap, cur, rfl, _⟩ <;> rfl

theorem own_form {w : World} {B : Nat} {v : Value} {ws : List Bs} {x : Bs} (h : OwnW w B v (ws ++ [x])) : ∃ g cap, v = .slice (some ⟨g, 0, none⟩) (ws.length + 1) cap := by
  rcases h.2 with ⟨_, h0⟩ | ⟨g, cap, cur, rfl, _⟩
  · simp at h0
  · exact ⟨g, cap, by simp⟩

set_option maxHeartbeats 6400000 in
theorem Lines_walk (t : ByteArray) (hs : t.size ≤ 4194304) (most : Int) (hm : ¬ most < (t.size : Int)) (w : World)
    (HC : Hid (∀ s : ByteArray, s.size ≤ 4194304 → ∀ w1, Calls Tryz.prog 90 #[.string s] w1 fun e w' => e = .returned (.string s) ∧ Below w1.heap.size w1 w')) :
    Calls Tryz.prog 113 #[.string t, .int .i64 most] w (LinesP w (scanR t.data.toList [] [] [])) := by
  obtain ⟨R, hR⟩ : ∃ R, R = scanR t.data.toList [] [] [] := ⟨_, rfl⟩
  rw [← hR]
  have HR := hide3 hR
  clear hR
  obtain ⟨i0, hi, hz0, hz1, hz2⟩ := info_parts infoStr
  obtain ⟨i1, hj, hy0, hy1, hy2⟩ := info_parts infoStrs
  go_enter Tryz.func113, Tryz.ntmps113
  go_wp2
  refine wp_scope_many (J4 t most w R) (mu4 t) ?_ ?_
  · by_cases h0 : t.size = 0
    · have hR : R = .ok [] := by rw [HR.out, show t.data.toList = [] from List.eq_nil_of_length_eq_zero h0]; rfl
      have e0 : ((0 : Int) == (t.size : Int)) = true := by rw [h0]; rfl
      go_wp2
      go_step3
      go_wp2
      simp only [jumpM_ret]
      go_ret3
      exact LinesP.ok (ps := []) hR (LL.nil _ _) (Below.refl _ _)
    · have e0 : ((0 : Int) == (t.size : Int)) = false := by rw [beq_eq_false_iff_ne]; omega
      have hlt : 0 < t.size := by omega
      have HW := hide3 (wordByte_any t[0])
      have hd := drop_at hlt
      rw [List.drop_zero] at hd
      cases hw : wB t[0]
      · have HJ : Hid (R = .error 1) := by unfold Hid; rw [HR.out, hd, scan_none hw]; rfl
        rw [hw] at HW
        clear hd hw h0 HR
        go_wp2
        go_step3
        go_wp2
        go_step3
        go_wp2
        go_step3
        go_wp2_with (go_at_call 145; refine (HW.out _).mono ?_; rintro e wx ⟨rfl, hwx⟩; subst hwx)
        go_step3
        (try simp only [Exit.then]); (try simp only [Exit.inBlock]); (try simp only [jumpM_goto])
        exact ⟨_, _, _, 0, ⟨_, _, _, _, _, _, _, _, _, _, _, _, _, _, _, _, _, _, _, _, _, _, _, _, _, _, _, _, _, _, _, _, _, _, _, _, _, _, _, _, _, _, _, _, _, _, _, _, _, _, _, _, _, _, _, _, _, _, _, _, _, rfl⟩, Nat.zero_le _, Or.inr (Or.inr (Or.inr ⟨rfl, [], LL.nil _ _, Nat.le_refl _, Below.refl _ _, HJ.out⟩))⟩
      · have HJ : Hid (scanR (t.data.toList.drop 1) ((t.data.toList.take 1).drop 0) [] [] = R) := by
          unfold Hid
          rw [take_at hlt (Nat.le_refl 0), HR.out, hd, scan_b hw]
          simp
        rw [hw] at HW
        clear hd hw h0 HR
        go_wp2
        go_step3
        go_wp2
        go_step3
        go_wp2
        go_step3
        go_wp2_with (go_at_call 145; refine (HW.out _).mono ?_; rintro e wx ⟨rfl, hwx⟩; subst hwx)
        go_step3
        (try simp only [Exit.then]); (try simp only [Exit.inBlock]); (try simp only [jumpM_goto])
        exact ⟨_, _, _, 1, ⟨_, _, _, _, _, _, _, _, _, _, _, _, _, _, _, _, _, _, _, _, _, _, _, _, _, _, _, _, _, _, _, _, _, _, _, _, _, _, _, _, _, _, _, _, _, _, _, _, _, _, _, _, _, _, _, _, _, _, _, _, _, rfl⟩, by omega, Or.inr (Or.inr (Or.inl ⟨rfl, 0, [], [], rfl, by omega, St.start _, by simp, by simp, HJ.out⟩))⟩
  · rintro l a w' ⟨vl, vw, vf, k, hF, hk, hD⟩
    clear HR
    rcases hD with ⟨rfl, ps, hst, hpl, hsc⟩ | ⟨rfl, ps, ws, hst, hpl, hwl, hne, hsc⟩ | ⟨rfl, f, ps, ws, rfl, hfk, hst, hpl, hwl, hsc⟩ | ⟨rfl, ps, hll, hpl, hb, hR⟩
    · -- line
      have HO := hide3 hst
      clear hst
      refine ⟨_, rfl, ?_⟩
      obtain ⟨N, hN⟩ : ∃ N, N = mu4 t 0 a w' := ⟨_, rfl⟩
      rw [← hN]
      rw [mu4_at hF (by decide)] at hN
      have HN := hide3 hN
      clear hN
      obtain ⟨u2, u3, u4, u5, u6, u11, u12, u13, u14, u15, u16, u17, u18, u19, u20, u21, u22, u23, u24, u25, u26, u27, u28, u29, u30, u31, u32, u33, u34, u35, u36, u37, u38, u39, u40, u41, u42, u43, u44, u45, u46, u47, u48, u49, u50, u51, u52, u53, u54, u55, u56, u57, u58, u59, u60, u61, u62, u63, u64, u65, u66, rfl⟩ := hF
      by_cases hlt : k < t.size
      · have e0 : ((k : Int) == (t.size : Int)) = false := by rw [beq_eq_false_iff_ne]; omega
        have HW := hide3 (wordByte_any t[k])
        have hd := drop_at hlt
        cases hw : wB t[k]
        · have HJ : Hid (R = .error (ps.length + 1)) := by unfold Hid; rw [← hsc, hd, scan_none hw]; simp
          rw [hw] at HW
          clear hd hw hsc
          go_wp2
          go_step3
          go_wp2
          go_step3
          go_wp2_with (go_at_call 145; refine (HW.out _).mono ?_; rintro e wx ⟨rfl, hwx⟩; subst hwx)
          go_step3
          (try simp only [Exit.then]); (try simp only [Exit.inBlock]); (try simp only [jumpM_goto])
          exact jump_wrong (k' := k) ⟨_, _, _, _, _, _, _, _, _, _, _, _, _, _, _, _, _, _, _, _, _, _, _, _, _, _, _, _, _, _, _, _, _, _, _, _, _, _, _, _, _, _, _, _, _, _, _, _, _, _, _, _, _, _, _, _, _, _, _, _, _, rfl⟩ HN.out hk hk HO.out.1 hpl HO.out.2.2.2.2 HJ.out
        · have HJ : Hid (scanR (t.data.toList.drop (k + 1)) ((t.data.toList.take (k + 1)).drop k) [] (ps.map (·.2)) = R) := by
            unfold Hid
            rw [take_at hlt (Nat.le_refl k), cur_nil, ← hsc, hd, scan_b hw]
          rw [hw] at HW
          clear hd hw hsc
          go_wp2
          go_step3
          go_wp2
          go_step3
          go_wp2_with (go_at_call 145; refine (HW.out _).mono ?_; rintro e wx ⟨rfl, hwx⟩; subst hwx)
          go_step3
          (try simp only [Exit.then]); (try simp only [Exit.inBlock]); (try simp only [jumpM_goto])
          exact jump_ok (k' := k + 1) ⟨_, _, _, _, _, _, _, _, _, _, _, _, _, _, _, _, _, _, _, _, _, _, _, _, _, _, _, _, _, _, _, _, _, _, _, _, _, _, _, _, _, _, _, _, _, _, _, _, _, _, _, _, _, _, _, _, _, _, _, _, _, rfl⟩ (by decide) HN.out (by omega) (by omega) (Or.inr (Or.inr (Or.inl ⟨rfl, k, ps, [], rfl, by omega, HO.out, by omega, by simp, HJ.out⟩)))
      · have e0 : ((k : Int) == (t.size : Int)) = true := by rw [beq_iff_eq]; omega
        have HJ : Hid (R = .ok (ps.map (·.2))) := by unfold Hid; rw [← hsc, drop_end hlt]; rfl
        clear hsc
        go_wp2
        simp only [jumpM_ret]
        go_ret3
        exact LinesP.ok HJ.out HO.out.1 HO.out.2.2.2.2
    · -- word
      have HO := hide3 hst
      clear hst
      refine ⟨_, rfl, ?_⟩
      obtain ⟨N, hN⟩ : ∃ N, N = mu4 t 1 a w' := ⟨_, rfl⟩
      rw [← hN]
      rw [mu4_at hF (by decide)] at hN
      have HN := hide3 hN
      clear hN
      obtain ⟨u2, u3, u4, u5, u6, u11, u12, u13, u14, u15, u16, u17, u18, u19, u20, u21, u22, u23, u24, u25, u26, u27, u28, u29, u30, u31, u32, u33, u34, u35, u36, u37, u38, u39, u40, u41, u42, u43, u44, u45, u46, u47, u48, u49, u50, u51, u52, u53, u54, u55, u56, u57, u58, u59, u60, u61, u62, u63, u64, u65, u66, rfl⟩ := hF
      by_cases hlt : k < t.size
      · have e0 : ((k : Int) == (t.size : Int)) = false := by rw [beq_eq_false_iff_ne]; omega
        have HW := hide3 (wordByte_any t[k])
        have hd := drop_at hlt
        cases hw : wB t[k]
        · have HJ : Hid (R = .error (ps.length + 1)) := by unfold Hid; rw [← hsc, hd, scan_none hw]; simp
          rw [hw] at HW
          clear hd hw hsc hne
          go_wp2
          go_step3
          go_wp2_with (go_at_call 145; refine (HW.out _).mono ?_; rintro e wx ⟨rfl, hwx⟩; subst hwx)
          go_step3
          (try simp only [Exit.then]); (try simp only [Exit.inBlock]); (try simp only [jumpM_goto])
          exact jump_wrong (k' := k) ⟨_, _, _, _, _, _, _, _, _, _, _, _, _, _, _, _, _, _, _, _, _, _, _, _, _, _, _, _, _, _, _, _, _, _, _, _, _, _, _, _, _, _, _, _, _, _, _, _, _, _, _, _, _, _, _, _, _, _, _, _, _, rfl⟩ HN.out hk hk HO.out.1 hpl HO.out.2.2.2.2 HJ.out
        · have HJ : Hid (scanR (t.data.toList.drop (k + 1)) ((t.data.toList.take (k + 1)).drop k) ws (ps.map (·.2)) = R) := by
            unfold Hid
            rw [take_at hlt (Nat.le_refl k), cur_nil, ← hsc, hd, scan_b hw]
          rw [hw] at HW
          clear hd hw hsc hne
          go_wp2
          go_step3
          go_wp2_with (go_at_call 145; refine (HW.out _).mono ?_; rintro e wx ⟨rfl, hwx⟩; subst hwx)
          go_step3
          (try simp only [Exit.then]); (try simp only [Exit.inBlock]); (try simp only [jumpM_goto])
          exact jump_ok (k' := k + 1) ⟨_, _, _, _, _, _, _, _, _, _, _, _, _, _, _, _, _, _, _, _, _, _, _, _, _, _, _, _, _, _, _, _, _, _, _, _, _, _, _, _, _, _, _, _, _, _, _, _, _, _, _, _, _, _, _, _, _, _, _, _, _, rfl⟩ (by decide) HN.out (by omega) (by omega) (Or.inr (Or.inr (Or.inl ⟨rfl, k, ps, ws, rfl, by omega, HO.out, by omega, by omega, HJ.out⟩)))
      · have e0 : ((k : Int) == (t.size : Int)) = true := by rw [beq_iff_eq]; omega
        have HJ : Hid (R = .error (ps.length + 1)) := by unfold Hid; rw [← hsc, drop_end hlt, scan_end (Or.inr hne)]; simp
        clear hsc hne
        go_wp2
        go_step3
        go_wp2
        go_step3
        (try simp only [Exit.then]); (try simp only [Exit.inBlock]); (try simp only [jumpM_goto])
        exact jump_wrong (k' := k) ⟨_, _, _, _, _, _, _, _, _, _, _, _, _, _, _, _, _, _, _, _, _, _, _, _, _, _, _, _, _, _, _, _, _, _, _, _, _, _, _, _, _, _, _, _, _, _, _, _, _, _, _, _, _, _, _, _, _, _, _, _, _, rfl⟩ HN.out hk hk HO.out.1 hpl HO.out.2.2.2.2 HJ.out
    · -- inside
      have HO := hide3 hst
      clear hst
      refine ⟨_, rfl, ?_⟩
      obtain ⟨N, hN⟩ : ∃ N, N = mu4 t 2 a w' := ⟨_, rfl⟩
      rw [← hN]
      rw [mu4_at hF (by decide)] at hN
      have HN := hide3 hN
      clear hN
      obtain ⟨u2, u3, u4, u5, u6, u11, u12, u13, u14, u15, u16, u17, u18, u19, u20, u21, u22, u23, u24, u25, u26, u27, u28, u29, u30, u31, u32, u33, u34, u35, u36, u37, u38, u39, u40, u41, u42, u43, u44, u45, u46, u47, u48, u49, u50, u51, u52, u53, u54, u55, u56, u57, u58, u59, u60, u61, u62, u63, u64, u65, u66, rfl⟩ := hF
      have ef : ((k : Int) == (f : Int)) = false := by rw [beq_eq_false_iff_ne]; omega
      have hcn := cur_ne hk hfk
      by_cases hlt : k < t.size
      · have e0 : ((k : Int) == (t.size : Int)) = false := by rw [beq_eq_false_iff_ne]; omega
        have HW := hide3 (wordByte_any t[k])
        have hd := drop_at hlt
        cases hw : wB t[k]
        · rw [hw] at HW
          by_cases h32 : t[k] = 32
          · have HJ : Hid (scanR (t.data.toList.drop (k + 1)) [] (ws ++ [(t.data.toList.take k).drop f]) (ps.map (·.2)) = R) := by
              unfold Hid
              rw [← hsc, hd, h32, scan_32 hcn]
            have e32 : ((t[k].toNat : Int) == 32) = true := by rw [h32]; rfl
            clear hd hw hsc h32 hcn
            go_wp2_with (first | (go_at_call 145; refine (HW.out _).mono ?_; rintro e wx ⟨rfl, hwx⟩; subst hwx) | (go_at_call 90; refine (HC.out _ (by rw [ByteArray.size_extract]; omega) _).mono ?_; rintro e w1 ⟨rfl, hb1⟩; have HO1 := hide3 (HO.out.below hb1); clear hb1) | (have _h := HO1; at_builtin; refine wpList_append_own_at _ rfl _ _ 71 rfl w.heap.size 9 i0 _ 1 16 Tryz.underlying71 hi hz0 hz1 hz2 rfl (by decide) _ _ _ rfl (HO1.out.2.1.alloc _) ⟨w1.heap.size, 0, none⟩ 1 1 [.string (t.extract f k)] rfl rfl (cell_one_new _ _ _) (by simp [Value.oneCell']) (by unfold maxLen; omega) (by omega) (by have := HO1.out.2.2.2.2.size; simp; omega) ?_; intro v2 w2 hown2 hg2 hnil2 hat2; have HO2 : Hid (St w vl v2 ps (ws ++ [(t.data.toList.take k).drop f]) w2) := St.word _ (HO1.out.below (boxB _ _)) (by rw [ba_extract] at hown2; exact hown2) hg2 hat2; clear hown2 hg2 hnil2 hat2 HO1; obtain ⟨g2, cap2, rfl⟩ := own_form HO2.out.2.1; go_frame))
            go_step3
            (try simp only [Exit.then]); (try simp only [Exit.inBlock]); (try simp only [jumpM_goto])
            exact jump_ok (k' := k + 1) ⟨_, _, _, _, _, _, _, _, _, _, _, _, _, _, _, _, _, _, _, _, _, _, _, _, _, _, _, _, _, _, _, _, _, _, _, _, _, _, _, _, _, _, _, _, _, _, _, _, _, _, _, _, _, _, _, _, _, _, _, _, _, rfl⟩ (by decide) HN.out (by omega) (by omega) (Or.inr (Or.inl ⟨rfl, ps, _, HO2.out, by omega, by simp; omega, by simp, HJ.out⟩))
          · have e32 : ((t[k].toNat : Int) == 32) = false := by rw [beq_eq_false_iff_ne]; intro e; exact h32 (UInt8.toNat_inj.1 (by show t[k].toNat = 32; omega))
            by_cases h10 : t[k] = 10
            · have HJ : Hid (scanR (t.data.toList.drop (k + 1)) [] [] ((ps.map (·.2)) ++ [ws ++ [(t.data.toList.take k).drop f]]) = R) := by
                unfold Hid
                rw [← hsc, hd, h10, scan_10 hcn]
              have e10 : ((t[k].toNat : Int) == 10) = true := by rw [h10]; rfl
              clear hd hw hsc h32 h10 hcn
              go_wp2_with (first | (go_at_call 145; refine (HW.out _).mono ?_; rintro e wx ⟨rfl, hwx⟩; subst hwx) | (go_at_call 90; refine (HC.out _ (by rw [ByteArray.size_extract]; omega) _).mono ?_; rintro e w1 ⟨rfl, hb1⟩; have HO1 := hide3 (HO.out.below hb1); clear hb1) | (have _h := HO1; at_builtin; refine wpList_append_own_at _ rfl _ _ 71 rfl w.heap.size 9 i0 _ 1 16 Tryz.underlying71 hi hz0 hz1 hz2 rfl (by decide) _ _ _ rfl (HO1.out.2.1.alloc _) ⟨w1.heap.size, 0, none⟩ 1 1 [.string (t.extract f k)] rfl rfl (cell_one_new _ _ _) (by simp [Value.oneCell']) (by unfold maxLen; omega) (by omega) (by have := HO1.out.2.2.2.2.size; simp; omega) ?_; intro v2 w2 hown2 hg2 hnil2 hat2; have HO2 : Hid (St w vl v2 ps (ws ++ [(t.data.toList.take k).drop f]) w2) := St.word _ (HO1.out.below (boxB _ _)) (by rw [ba_extract] at hown2; exact hown2) hg2 hat2; clear hown2 hg2 hnil2 hat2 HO1; obtain ⟨g2, cap2, rfl⟩ := own_form HO2.out.2.1; go_frame) | (have _h := HO2; at_builtin; refine wpList_append_own_at _ rfl _ _ 101 rfl w.heap.size 71 i1 _ 1 24 Tryz.underlying101 hj hy0 hy1 hy2 rfl (by decide) _ _ _ rfl (HO2.out.1.1.alloc _) ⟨w2.heap.size, 0, none⟩ 1 1 [.slice (some ⟨g2, 0, none⟩) (ws.length + 1) cap2] rfl rfl (cell_one_new _ _ _) (by intro u hu; rw [List.mem_singleton.1 hu]; exact own_one HO2.out.2.1) (by unfold maxLen; omega) (by omega) (by have := HO2.out.2.2.2.2.size; simp; omega) ?_; intro v3 w3 hown3 hg3 hnil3 hat3; have HO3 : Hid (St w v3 (.slice none 0 0) (ps ++ [(.slice (some ⟨g2, 0, none⟩) (ws.length + 1) cap2, ws ++ [(t.data.toList.take k).drop f])]) [] w3) := St.line (HO2.out.below (boxB _ _)) (by simp) hown3 hg3 hat3; clear hown3 hg3 hnil3 hat3; go_frame))
              go_step3
              (try simp only [Exit.then]); (try simp only [Exit.inBlock]); (try simp only [jumpM_goto])
              exact jump_ok (k' := k + 1) ⟨_, _, _, _, _, _, _, _, _, _, _, _, _, _, _, _, _, _, _, _, _, _, _, _, _, _, _, _, _, _, _, _, _, _, _, _, _, _, _, _, _, _, _, _, _, _, _, _, _, _, _, _, _, _, _, _, _, _, _, _, _, rfl⟩ (by decide) HN.out (by omega) (by omega) (Or.inl ⟨rfl, _, HO3.out, by simp; omega, by rw [List.map_append]; exact HJ.out⟩)
            · have HJ : Hid (R = .error (ps.length + 1)) := by unfold Hid; rw [← hsc, hd, scan_bad hw h32 h10]; simp
              have e10 : ((t[k].toNat : Int) == 10) = false := by rw [beq_eq_false_iff_ne]; intro e; exact h10 (UInt8.toNat_inj.1 (by show t[k].toNat = 10; omega))
              clear hd hw hsc h32 h10 hcn
              go_wp2_with (first | (go_at_call 145; refine (HW.out _).mono ?_; rintro e wx ⟨rfl, hwx⟩; subst hwx) | (go_at_call 90; refine (HC.out _ (by rw [ByteArray.size_extract]; omega) _).mono ?_; rintro e w1 ⟨rfl, hb1⟩; have HO1 := hide3 (HO.out.below hb1); clear hb1) | (have _h := HO1; at_builtin; refine wpList_append_own_at _ rfl _ _ 71 rfl w.heap.size 9 i0 _ 1 16 Tryz.underlying71 hi hz0 hz1 hz2 rfl (by decide) _ _ _ rfl (HO1.out.2.1.alloc _) ⟨w1.heap.size, 0, none⟩ 1 1 [.string (t.extract f k)] rfl rfl (cell_one_new _ _ _) (by simp [Value.oneCell']) (by unfold maxLen; omega) (by omega) (by have := HO1.out.2.2.2.2.size; simp; omega) ?_; intro v2 w2 hown2 hg2 hnil2 hat2; have HO2 : Hid (St w vl v2 ps (ws ++ [(t.data.toList.take k).drop f]) w2) := St.word _ (HO1.out.below (boxB _ _)) (by rw [ba_extract] at hown2; exact hown2) hg2 hat2; clear hown2 hg2 hnil2 hat2 HO1; obtain ⟨g2, cap2, rfl⟩ := own_form HO2.out.2.1; go_frame))
              go_step3
              obtain ⟨ad, cap, rfl⟩ := HO2.out.1.len
              go_wp2
              simp only [jumpM_ret]
              go_ret3
              exact LinesP.no HJ.out HO2.out.2.2.2.2
        · have HJ : Hid (scanR (t.data.toList.drop (k + 1)) ((t.data.toList.take (k + 1)).drop f) ws (ps.map (·.2)) = R) := by
            unfold Hid
            rw [take_at hlt (Nat.le_of_lt hfk), ← hsc, hd, scan_b hw]
          rw [hw] at HW
          clear hd hw hsc hcn
          go_wp2_with (go_at_call 145; refine (HW.out _).mono ?_; rintro e wx ⟨rfl, hwx⟩; subst hwx)
          go_step3
          (try simp only [Exit.then]); (try simp only [Exit.inBlock]); (try simp only [jumpM_goto])
          exact jump_ok (k' := k + 1) ⟨_, _, _, _, _, _, _, _, _, _, _, _, _, _, _, _, _, _, _, _, _, _, _, _, _, _, _, _, _, _, _, _, _, _, _, _, _, _, _, _, _, _, _, _, _, _, _, _, _, _, _, _, _, _, _, _, _, _, _, _, _, rfl⟩ (by decide) HN.out (by omega) (by omega) (Or.inr (Or.inr (Or.inl ⟨rfl, f, ps, ws, rfl, by omega, HO.out, by omega, by omega, HJ.out⟩)))
      · have e0 : ((k : Int) == (t.size : Int)) = true := by rw [beq_iff_eq]; omega
        have HJ : Hid (R = .error (ps.length + 1)) := by unfold Hid; rw [← hsc, drop_end hlt, scan_end (Or.inl hcn)]; simp
        clear hsc hcn
        go_wp2
        go_step3
        (try simp only [Exit.then]); (try simp only [Exit.inBlock]); (try simp only [jumpM_goto])
        exact jump_wrong (k' := k) ⟨_, _, _, _, _, _, _, _, _, _, _, _, _, _, _, _, _, _, _, _, _, _, _, _, _, _, _, _, _, _, _, _, _, _, _, _, _, _, _, _, _, _, _, _, _, _, _, _, _, _, _, _, _, _, _, _, _, _, _, _, _, rfl⟩ HN.out hk hk HO.out.1 hpl HO.out.2.2.2.2 HJ.out
    · -- wrong
      refine ⟨_, rfl, ?_⟩
      obtain ⟨u2, u3, u4, u5, u6, u11, u12, u13, u14, u15, u16, u17, u18, u19, u20, u21, u22, u23, u24, u25, u26, u27, u28, u29, u30, u31, u32, u33, u34, u35, u36, u37, u38, u39, u40, u41, u42, u43, u44, u45, u46, u47, u48, u49, u50, u51, u52, u53, u54, u55, u56, u57, u58, u59, u60, u61, u62, u63, u64, u65, u66, rfl⟩ := hF
      obtain ⟨ad, cap, rfl⟩ := hll.len
      have HR := hide3 hR
      have HB := hide3 hb
      clear hR hb hll
      go_wp2
      simp only [jumpM_ret]
      go_ret3
      exact LinesP.no HR.out HB.out
end Go.Proofs.YtpaoimhebheaeaaGreatDoor.Sc
namespace Go.Proofs.YtpaoimhebheaeaaGreatDoor.Sc
open Go.RowKit
set_option maxRecDepth 100000

theorem wB_of {b : UInt8} (h : wB b = true) : 33 ≤ b.toNat ∧ b.toNat ≤ 126 := by simpa [wB] using h
theorem wB_no {b : UInt8} (h : wB b = false) : b.toNat < 33 ∨ 126 < b.toNat := by
  simp [wB] at h
  omega

set_option maxHeartbeats 1600000 in
theorem isWord_any (s : ByteArray) (hs : s.size ≤ 1000000000000) (w : World) : Calls Tryz.prog 148 #[.string s] w fun e w' => e = .returned (.bool (isW s.data.toList)) ∧ Below w.heap.size w w' := by
  go_enter Tryz.func148, Tryz.ntmps148
  go_wp2
  go_loop [3] (fun i => ∃ k : Nat, k ≤ s.size ∧ i = .int .i64 k ∧ (s.data.toList.take k).all wB = true) (fun i => s.size - (intOf i).toNat)
  case atStart => exact ⟨0, Nat.zero_le _, rfl, rfl⟩
  case round =>
    obtain ⟨k, hk, rfl, hal⟩ := hrel
    have HA := hide3 hal
    clear hal
    by_cases hlt : k < s.size
    · cases hw : wB s[k]
      · have hn := wB_no hw
        have HR : Hid (isW s.data.toList = false) := by
          unfold Hid isW
          have : s.data.toList.all wB = false := by
            rw [Bool.eq_false_iff]
            intro h
            rw [List.all_eq_true] at h
            have := h s[k] (List.getElem_mem (l := s.data.toList) (n := k) (by rw [list_size]; exact hlt))
            rw [hw] at this; cases this
          rw [this]; rfl
        clear hw
        by_cases h33 : s[k].toNat < 33
        · clear hn
          go_wp2
          go_ret
          exact ⟨ret_bool HR.out.symm, Below.refl _ _⟩
        · have h126 : 126 < s[k].toNat := by omega
          clear hn
          go_wp2
          go_ret
          exact ⟨ret_bool HR.out.symm, Below.refl _ _⟩
      · obtain ⟨h1, h2⟩ := wB_of hw
        have HA2 : Hid ((s.data.toList.take (k + 1)).all wB = true) := by
          unfold Hid
          rw [List.take_succ_eq_append_getElem (by rw [list_size]; exact hlt), List.all_append, HA.out]
          simp only [List.all_cons, List.all_nil, Bool.and_true, Bool.true_and]
          exact hw
        clear hw
        go_wp2
        exact ⟨⟨k + 1, by omega, by go_num, HA2.out⟩, by simp [intOf]; omega⟩
    · have hke : k = s.size := by omega
      subst hke
      have HR : Hid (isW s.data.toList = !s.data.toList.isEmpty) := by
        unfold Hid isW
        have := HA.out
        rw [List.take_of_length_le (by rw [list_size]; exact Nat.le_refl _)] at this
        rw [this]; rfl
      rw [← empty_is] at HR
      cases he : s.toList.isEmpty
      · rw [he] at HR
        go_wp2
        go_ret
        exact ⟨ret_bool HR.out.symm, Below.refl _ _⟩
      · rw [he] at HR
        go_wp2
        go_ret
        exact ⟨ret_bool HR.out.symm, Below.refl _ _⟩

set_option maxHeartbeats 3200000 in
theorem split_walk (s : ByteArray) (b : UInt8) (hs : s.size ≤ 4194304) (w : World) :
    Calls Tryz.prog 115 #[.string s, .int .u8 (b.toNat : Int)] w fun e w' => ∃ v, e = .returned v ∧ OwnW w' w.heap.size v (cutF b [] s.data.toList) ∧ Below w.heap.size w w' := by
  obtain ⟨i0, hi, hz0, hz1, hz2⟩ := info_parts infoStr
  go_enter Tryz.func115, Tryz.ntmps115
  go_wp2
  go_loopw [5, 6, 7] (fun v fr i wr => ∃ (k f : Nat) (pre : List Bs), k ≤ s.size ∧ i = .int .i64 k ∧ fr = .int .i64 f ∧ f ≤ k ∧ pre.length ≤ k ∧ OwnW wr w.heap.size v pre ∧ Below w.heap.size w wr ∧ cutF b [] s.data.toList = pre ++ cutF b ((s.data.toList.take k).drop f) (s.data.toList.drop k)) (fun _ _ i _ => s.size - (intOf i).toNat)
  case atStart => exact ⟨0, 0, [], Nat.zero_le _, rfl, rfl, Nat.le_refl _, Nat.le_refl _, OwnW.nil _ _, Below.refl _ _, rfl⟩
  case round =>
    obtain ⟨k, f, pre, hk, rfl, rfl, hf, hpl, how, hb, heq⟩ := hrel
    have HO := hide3 how
    have HB := hide3 hb
    have HE := hide3 heq
    clear how hb heq
    by_cases hlt : k < s.size
    · have hd := drop_at hlt
      by_cases hx : s[k] = b
      · have e1 : ((s[k].toNat : Int) == (b.toNat : Int)) = true := by rw [hx]; simp
        have HE2 : Hid (cutF b [] s.data.toList = (pre ++ [(s.data.toList.take k).drop f]) ++ cutF b ((s.data.toList.take (k + 1)).drop (k + 1)) (s.data.toList.drop (k + 1))) := by
          unfold Hid
          rw [cur_nil, HE.out, hd, hx, cutF_hit]
          simp
        clear hd hx
        go_wp2_with (at_builtin; refine wpList_append_own_at _ rfl _ _ 71 rfl w.heap.size 9 i0 _ 1 16 Tryz.underlying71 hi hz0 hz1 hz2 rfl (by decide) _ _ _ rfl (HO.out.alloc _) ⟨wr.heap.size, 0, none⟩ 1 1 [.string (s.extract f k)] rfl rfl (cell_one_new _ _ _) (by simp [Value.oneCell']) (by unfold maxLen; omega) (by omega) (by have := HB.out.size; simp; omega) ?_; intro v2 w2 hown2 hg2 hnil2 hat2; have HO2 : Hid (OwnW w2 w.heap.size v2 (pre ++ [(s.data.toList.take k).drop f]) ∧ Below w.heap.size w w2) := (⟨by unfold OwnW; rw [strs_snoc, List.length_append, ← ba_extract]; exact hown2, (below_then HB.out (boxB _ _)).grown hg2 (below_then HB.out (boxB _ _)).size fun j hj => (World.ownsRow.lt HO.out j hj).1⟩); clear hown2 hg2 hnil2 hat2; go_frame)
        exact ⟨⟨k + 1, k + 1, _, by omega, by go_num, by go_num, Nat.le_refl _, by simp; omega, HO2.out.1, HO2.out.2, HE2.out⟩, by simp [intOf]; omega⟩
      · have e1 : ((s[k].toNat : Int) == (b.toNat : Int)) = false := by rw [beq_eq_false_iff_ne]; intro e; exact hx (UInt8.toNat_inj.1 (by omega))
        have HE2 : Hid (cutF b [] s.data.toList = pre ++ cutF b ((s.data.toList.take (k + 1)).drop f) (s.data.toList.drop (k + 1))) := by
          unfold Hid
          rw [take_at hlt hf, HE.out, hd, cutF_go hx]
        clear hd hx
        go_wp2
        exact ⟨⟨k + 1, f, pre, by omega, by go_num, rfl, by omega, by omega, HO.out, HB.out, HE2.out⟩, by simp [intOf]; omega⟩
    · have hke : k = s.size := by omega
      subst hke
      have HE2 : Hid (cutF b [] s.data.toList = pre ++ [(s.data.toList.take s.size).drop f]) := by unfold Hid; rw [HE.out, drop_end hlt]; rfl
      go_wp2_with (at_builtin; refine wpList_append_own_at _ rfl _ _ 71 rfl w.heap.size 9 i0 _ 1 16 Tryz.underlying71 hi hz0 hz1 hz2 rfl (by decide) _ _ _ rfl (HO.out.alloc _) ⟨wr.heap.size, 0, none⟩ 1 1 [.string (s.extract f s.size)] rfl rfl (cell_one_new _ _ _) (by simp [Value.oneCell']) (by unfold maxLen; omega) (by omega) (by have := HB.out.size; simp; omega) ?_; intro v2 w2 hown2 hg2 hnil2 hat2; have HO2 : Hid (OwnW w2 w.heap.size v2 (pre ++ [(s.data.toList.take s.size).drop f]) ∧ Below w.heap.size w w2) := (⟨by unfold OwnW; rw [strs_snoc, List.length_append, ← ba_extract]; exact hown2, (below_then HB.out (boxB _ _)).grown hg2 (below_then HB.out (boxB _ _)).size fun j hj => (World.ownsRow.lt HO.out j hj).1⟩); clear hown2 hg2 hnil2 hat2; go_frame)
      go_ret
      exact ⟨_, rfl, by rw [HE2.out]; exact HO2.out.1, HO2.out.2⟩
end Go.Proofs.YtpaoimhebheaeaaGreatDoor.Sc
namespace Go.Proofs.YtpaoimhebheaeaaGreatDoor.Sc
open Go.RowKit
set_option maxRecDepth 100000

theorem cutF_len (b : UInt8) : ∀ (t c : Bs), (cutF b c t).length ≤ t.length + 1
  | [], c => by simp [cutF]
  | x :: r, c => by
    by_cases hx : x = b
    · subst hx; rw [cutF_hit]; have := cutF_len x r []; simp; omega
    · rw [cutF_go hx]; have := cutF_len b r (c ++ [x]); simp; omega
theorem cutF_size (b : UInt8) : ∀ (t c : Bs), ∀ p ∈ cutF b c t, p.length ≤ c.length + t.length
  | [], c, p, hp => by simp [cutF] at hp; subst hp; simp
  | x :: r, c, p, hp => by
    by_cases hx : x = b
    · subst hx
      rw [cutF_hit] at hp
      rcases List.mem_cons.1 hp with rfl | hp
      · simp
      · have := cutF_size x r [] p hp; simp at *; omega
    · rw [cutF_go hx] at hp
      have := cutF_size b r (c ++ [x]) p hp
      simp at *; omega
theorem lineR_isW {s : Bs} : (lineR s).isSome = (cutF 32 [] s).all isW := by unfold lineR; split <;> simp_all
theorem lineR_some {s : Bs} (h : (cutF 32 [] s).all isW = true) : lineR s = some (cutF 32 [] s) := by unfold lineR; rw [if_pos h]
theorem lineR_none {s : Bs} (h : (cutF 32 [] s).all isW = false) : lineR s = none := by unfold lineR; rw [if_neg (by rw [h]; simp)]

def okW (P : List Bs) : List Bs := if P.all isW = true then P else []
theorem okW_yes {P : List Bs} (h : P.all isW = true) : okW P = P := by unfold okW; rw [if_pos h]
theorem okW_no {P : List Bs} (h : P.all isW = false) : okW P = [] := by unfold okW; rw [if_neg (by rw [h]; simp)]

set_option maxHeartbeats 3200000 in
theorem line_walk (s : ByteArray) (P : List Bs) (hP : P.length ≤ 1000000000) (w : World)
    (HS : Hid (Calls Tryz.prog 115 #[.string s, .int .u8 32] w fun e w' => ∃ v, e = .returned v ∧ OwnW w' w.heap.size v P ∧ Below w.heap.size w w'))
    (HI : Hid (∀ p ∈ P, ∀ w1, Calls Tryz.prog 148 #[.string (ba p)] w1 fun e w' => e = .returned (.bool (isW p)) ∧ Below w1.heap.size w1 w')) :
    Calls Tryz.prog 116 #[.string s] w fun e w' => ∃ v, e = .returned (.tuple #[v, .bool (P.all isW)]) ∧ OwnW w' w.heap.size v (okW P) ∧ Below w.heap.size w w' := by
  go_enter Tryz.func116, Tryz.ntmps116
  go_wp2_with (go_at_call 115; refine HS.out.mono ?_; rintro e w2 ⟨v2, rfl, ho2, hb2⟩; have HO := hide3 ho2; have HB := hide3 hb2; clear HS ho2 hb2)
  go_loopw [5] (fun i wr => ∃ k : Nat, k ≤ P.length ∧ i = .int .i64 k ∧ (P.take k).all isW = true ∧ OwnW wr w.heap.size v2 P ∧ Below w.heap.size w wr) (fun i _ => P.length - (intOf i).toNat)
  case atStart => exact ⟨0, Nat.zero_le _, rfl, rfl, HO.out, HB.out⟩
  case round =>
    obtain ⟨k, hk, rfl, hal, hor, hbr⟩ := hrel
    have HA := hide3 hal
    have HOR := hide3 hor
    have HBR := hide3 hbr
    clear hal hbr HO HB
    obtain ⟨ad, cap, rfl, hcap, hl⟩ := hor.at
    clear hor
    by_cases hlt : k < P.length
    · obtain ⟨g, o, rfl, hg, hc⟩ : ∃ g o, ad = some ⟨g, o, none⟩ ∧ g < wr.heap.size ∧ ∀ i (h : i < P.length), wr.cell? ⟨g, o + i, none⟩ = some (.string (ba P[i])) := by
        rcases hl with rfl | h
        · simp at hlt
        · exact h
      have hcell := hc k hlt
      have HIk := hide3 (HI.out P[k] (List.getElem_mem hlt))
      have htk : P.take (k + 1) = P.take k ++ [P[k]] := List.take_succ_eq_append_getElem hlt
      have hmem := List.getElem_mem hlt
      clear hc hl
      cases hw : isW P[k]
      · have HR : Hid (P.all isW = false) := by
          unfold Hid
          rw [Bool.eq_false_iff]
          intro h
          rw [List.all_eq_true] at h
          have := h _ hmem
          rw [hw] at this; cases this
        rw [hw] at HIk
        clear hw htk hmem
        generalize ba P[k] = x at *
        go_wp2_with (go_at_call 148; refine (HIk.out _).mono ?_; rintro e w3 ⟨rfl, hb3⟩; have HB3 := hide3 hb3; clear hb3)
        go_ret2
        exact ⟨.slice none 0 0, by rw [HR.out]; rfl, by rw [okW_no HR.out]; exact OwnW.nil _ _, below_then HBR.out HB3.out⟩
      · have HA2 : Hid ((P.take (k + 1)).all isW = true) := by unfold Hid; rw [htk, List.all_append, HA.out]; simp [hw]
        rw [hw] at HIk
        clear hw htk hmem
        generalize ba P[k] = x at *
        go_wp2_with (go_at_call 148; refine (HIk.out _).mono ?_; rintro e w3 ⟨rfl, hb3⟩; have HB3 := hide3 hb3; clear hb3)
        exact ⟨⟨k + 1, by omega, by go_num, HA2.out, HOR.out.below HB3.out, below_then HBR.out HB3.out⟩, by simp [intOf]; omega⟩
    · have hke : k = P.length := by omega
      subst hke
      have HR : Hid (P.all isW = true) := by have := HA.out; rw [List.take_length] at this; exact this
      clear hl
      go_wp2
      go_ret2
      exact ⟨.slice ad P.length cap, by rw [HR.out]; rfl, by rw [okW_yes HR.out]; exact HOR.out, HBR.out⟩

theorem line_any (s : ByteArray) (hs : s.size ≤ 4194304) (w : World) :
    Calls Tryz.prog 116 #[.string s] w fun e w' => ∃ v, e = .returned (.tuple #[v, .bool (lineR s.data.toList).isSome]) ∧ OwnW w' w.heap.size v ((lineR s.data.toList).getD []) ∧ Below w.heap.size w w' := by
  have hl := cutF_len 32 s.data.toList []
  rw [list_size] at hl
  have := line_walk s (cutF 32 [] s.data.toList) (by omega) w (split_walk s 32 hs w) (fun p hp w1 => by
    have hz := cutF_size 32 s.data.toList [] p hp
    rw [list_size] at hz
    have h := isWord_any (ba p) (by rw [ba_size]; simp at hz; omega) w1
    rw [ba_list] at h
    exact h)
  rw [lineR_isW]
  have e : (lineR s.data.toList).getD [] = okW (cutF 32 [] s.data.toList) := by unfold lineR okW; split <;> rfl
  rw [e]
  exact this

theorem own_some {w : World} {B : Nat} {v : Value} {ws : List Bs} (h : OwnW w B v ws) (hne : ws ≠ []) : ∃ g cap, v = .slice (some ⟨g, 0, none⟩) ws.length cap := by
  rcases h.2 with ⟨_, h0⟩ | ⟨g, cap, cur, rfl, _⟩
  · exact absurd (List.eq_nil_of_length_eq_zero h0) hne
  · exact ⟨g, cap, rfl⟩
theorem row_mono {w : World} {base base' : Nat} {e : TypeId} {size : Nat} {v : Value} {n : Nat} {xs : List Value} (h : w.ownsRow base e size v n xs) (hb : base' ≤ base) : w.ownsRow base' e size v n xs := by
  refine ⟨h.1, ?_⟩
  rcases h.2 with hn | ⟨g, cap, cur, hv, hB, r⟩
  · exact Or.inl hn
  · exact Or.inr ⟨g, cap, cur, hv, Nat.le_trans hb hB, r⟩
theorem LL.base {w : World} {B C : Nat} {vl : Value} {ps : List (Value × List Bs)} (h : LL w B vl ps) (hc : C ≤ B) : LL w C vl ps :=
  ⟨row_mono h.1 hc, fun p hp => ⟨row_mono (h.2.1 p hp).1 hc, (h.2.1 p hp).2⟩, h.2.2.1, h.2.2.2⟩
/-- A list of one's own that came of a call. -/
theorem St.take {w0 : World} {vl vw : Value} {ps : List (Value × List Bs)} {ws : List Bs} {w w' : World} (h : St w0 vl (.slice none 0 0) ps [] w) (ho : OwnW w' w.heap.size vw ws) (hb : Below w.heap.size w w') : St w0 vl vw ps ws w' := by
  obtain ⟨h1, h2, h3, h4, h5⟩ := h
  have hs := h5.size
  refine ⟨h1.below hb, row_mono ho hs, ?_, ?_, below_then h5 hb⟩
  · intro p hp e
    obtain ⟨g, hg⟩ := (h1.2.1 p hp).1.block (h1.2.1 p hp).2
    rw [hg] at e
    have a := (World.ownsRow.lt ho g e).1
    have b := (World.ownsRow.lt (h1.2.1 p hp).1 g hg).2
    omega
  · cases hv : vw.ownBlock with
    | none => exact Or.inl rfl
    | some g =>
      refine Or.inr fun e => ?_
      have a := (World.ownsRow.lt ho g hv).1
      have b := (World.ownsRow.lt h1.1 g e.symm).2
      omega

theorem ref_more {P : List Bs} {k : Nat} (h : k + 1 < P.length) (ls : List (List Bs)) : refR ls (P.drop k) = match lineR (P[k]'(by omega)) with | none => .error (ls.length + 1) | some w => refR (ls ++ [w]) (P.drop (k + 1)) := by
  have h1 : P.drop k = P[k]'(by omega) :: P.drop (k + 1) := List.drop_eq_getElem_cons (by omega)
  have h2 : P.drop (k + 1) = P[k + 1] :: P.drop (k + 1 + 1) := List.drop_eq_getElem_cons h
  rw [h1, h2]
  rfl
theorem ref_last {P : List Bs} {k : Nat} (h : k < P.length) (h2 : ¬ k + 1 < P.length) (ls : List (List Bs)) : refR ls (P.drop k) = if P[k] = [] then .ok ls else .error (ls.length + 1) := by
  have h1 : P.drop k = P[k]'(by omega) :: P.drop (k + 1) := List.drop_eq_getElem_cons (by omega)
  rw [h1, List.drop_of_length_le (by omega : P.length ≤ k + 1)]
  rfl

set_option maxHeartbeats 6400000 in
theorem rLines_walk (t : ByteArray) (most : Int) (hm : ¬ most < (t.size : Int)) (P : List Bs) (hP : P.length ≤ 4194305) (hP0 : P ≠ []) (w : World)
    (HS : Hid (Calls Tryz.prog 115 #[.string t, .int .u8 10] w fun e w' => ∃ v, e = .returned v ∧ OwnW w' w.heap.size v P ∧ Below w.heap.size w w'))
    (HI : Hid (∀ p ∈ P, ∀ w1, Calls Tryz.prog 116 #[.string (ba p)] w1 fun e w' => ∃ v, e = .returned (.tuple #[v, .bool (lineR p).isSome]) ∧ OwnW w' w1.heap.size v ((lineR p).getD []) ∧ Below w1.heap.size w1 w')) :
    Calls Tryz.prog 82 #[.string t, .int .i64 most] w (LinesP w (refR [] P)) := by
  obtain ⟨R, hR⟩ : ∃ R, R = refR [] P := ⟨_, rfl⟩
  rw [← hR]
  have HR := hide3 hR
  clear hR
  obtain ⟨i1, hj, hy0, hy1, hy2⟩ := info_parts infoStrs
  have hpos : 0 < P.length := List.length_pos_iff.2 hP0
  go_enter Tryz.func82, Tryz.ntmps82
  go_wp2_with (go_at_call 115; refine HS.out.mono ?_; rintro e w2 ⟨v2, rfl, ho2, hb2⟩; have HO := hide3 ho2; have HB := hide3 hb2; clear HS ho2 hb2)
  go_loopw [7, 9] (fun vl i wr => ∃ (k : Nat) (ps : List (Value × List Bs)), k < P.length ∧ i = .int .i64 k ∧ ps.length = k ∧ St w2 vl (.slice none 0 0) ps [] wr ∧ R = refR (ps.map (·.2)) (P.drop k)) (fun _ i _ => P.length - (intOf i).toNat)
  case atStart => exact ⟨0, [], hpos, rfl, rfl, St.start _, HR.out⟩
  case round =>
    obtain ⟨k, ps, hk, rfl, hpl, hst, hrr⟩ := hrel
    have HST := hide3 hst
    have HRR := hide3 hrr
    have HOR := hide3 (HO.out.below hst.2.2.2.2)
    clear hrr hst
    have hzz := HB.out.size
    obtain ⟨ad, cap, rfl, hcap, hl⟩ := HOR.out.at
    obtain ⟨g, o, rfl, hg, hc⟩ : ∃ g o, ad = some ⟨g, o, none⟩ ∧ g < wr.heap.size ∧ ∀ i (h : i < P.length), wr.cell? ⟨g, o + i, none⟩ = some (.string (ba P[i])) := by
      rcases hl with rfl | h
      · simp at hk
      · exact h
    clear hl
    have hcell := hc k hk
    by_cases hlt : k + 1 < P.length
    · have HIk := hide3 (HI.out P[k] (List.getElem_mem hk) wr)
      have hmore := ref_more hlt (ps.map (·.2))
      clear hc
      cases hw : lineR P[k] with
      | none =>
        have HX : Hid (R = .error (k + 1)) := by unfold Hid; rw [HRR.out, hmore, hw]; simp [hpl]
        rw [hw] at HIk
        simp only [Option.isSome_none, Option.getD_none] at HIk
        clear hmore hw
        generalize ba P[k] = x at *
        go_wp2_with (go_at_call 116; refine HIk.out.mono ?_; rintro e w3 ⟨v3, rfl, ho3, hb3⟩; have HB3 := hide3 hb3; clear hb3 ho3)
        go_ret3
        exact LinesP.no HX.out (below_then HB.out (below_then HST.out.2.2.2.2 HB3.out))
      | some ws =>
        have HX : Hid (R = refR ((ps.map (·.2)) ++ [ws]) (P.drop (k + 1)) ∧ ws ≠ []) := by
          refine ⟨by rw [HRR.out, hmore, hw], ?_⟩
          unfold lineR at hw
          split at hw
          · cases hw; exact cutF_ne _ _ _
          · cases hw
        rw [hw] at HIk
        simp only [Option.isSome_some, Option.getD_some] at HIk
        clear hmore hw
        generalize ba P[k] = x at *
        go_wp2_with (first
          | (go_at_call 116; refine HIk.out.mono ?_; rintro e w3 ⟨v3, rfl, ho3, hb3⟩; have HS3 : Hid (St w2 u7 v3 ps ws w3) := HST.out.take ho3 hb3; obtain ⟨g3, cap3, rfl⟩ := own_some ho3 HX.out.2; clear hb3 ho3)
          | (have _h := HS3; at_builtin; refine wpList_append_own_at _ rfl _ _ 101 rfl w2.heap.size 71 i1 _ 1 24 Tryz.underlying101 hj hy0 hy1 hy2 rfl (by decide) _ _ _ rfl (HS3.out.1.1.alloc _) ⟨w3.heap.size, 0, none⟩ 1 1 [.slice (some ⟨g3, 0, none⟩) ws.length cap3] rfl rfl (cell_one_new _ _ _) (by simp [Value.oneCell']) (by unfold maxLen; omega) (by omega) (by have := HS3.out.2.2.2.2.size; simp; omega) ?_; intro v4 w4 hown4 hg4 hnil4 hat4; have HS4 : Hid (St w2 v4 (.slice none 0 0) (ps ++ [(.slice (some ⟨g3, 0, none⟩) ws.length cap3, ws)]) [] w4) := St.line (HS3.out.below (boxB _ _)) HX.out.2 hown4 hg4 hat4; clear hown4 hg4 hnil4 hat4 HS3; go_frame))
        exact ⟨⟨k + 1, _, hlt, by go_num, by simp [hpl], HS4.out, by rw [List.map_append]; exact HX.out.1⟩, by simp [intOf]; omega⟩
    · have hlast := ref_last hk hlt (ps.map (·.2))
      have hk1 : (P.length : Int) - 1 = (k : Int) := by omega
      have hkl : P.length = k + 1 := by omega
      have e1 : (ba P[k]).toList.isEmpty = decide (P[k] = []) := by
        rw [empty_is, ba_list]
        cases P[k] <;> simp
      by_cases hem : P[k] = []
      · have HX : Hid (R = .ok (ps.map (·.2))) := by unfold Hid; rw [HRR.out, hlast, if_pos hem]
        rw [decide_eq_true hem] at e1
        clear hlast hem hc
        generalize ba P[k] = x at *
        go_wp2
        go_ret3
        exact LinesP.ok HX.out (LL.base HST.out.1 hzz) (below_then HB.out HST.out.2.2.2.2)
      · have HX : Hid (R = .error (k + 1)) := by unfold Hid; rw [HRR.out, hlast, if_neg hem, List.length_map, hpl]
        rw [decide_eq_false hem] at e1
        clear hlast hem hc
        generalize ba P[k] = x at *
        go_wp2
        go_ret3
        exact LinesP.no HX.out (below_then HB.out HST.out.2.2.2.2)

theorem rLines_any (t : ByteArray) (hs : t.size ≤ 4194304) (most : Int) (hm : ¬ most < (t.size : Int)) (w : World) :
    Calls Tryz.prog 82 #[.string t, .int .i64 most] w (LinesP w (scanR t.data.toList [] [] [])) := by
  have hl := cutF_len 10 t.data.toList []
  rw [list_size] at hl
  rw [scan_ref t.data.toList [] [] [] [] rfl rfl rfl]
  refine rLines_walk t most hm (cutF 10 [] t.data.toList) (by omega) (cutF_ne _ _ _) w (split_walk t 10 hs w) (fun p hp w1 => ?_)
  have hz := cutF_size 10 t.data.toList [] p hp
  rw [list_size] at hz
  have h := line_any (ba p) (by rw [ba_size]; simp at hz; omega) w1
  rw [ba_list] at h
  exact h
end Go.Proofs.YtpaoimhebheaeaaGreatDoor.Sc
