/- Lines of package scan: the walk, from label to label. -/
import Derived.Test.YtefcndfeemnglaaGreatDoorScLi1
namespace Go.Proofs.YtefcndfeemnglaaGreatDoor.Sc
open Go.RowKit
set_option maxRecDepth 100000

/-- The frame: text, bound, lines, words, where it is, where the word began. -/
def Fr (t : ByteArray) (most : Int) (vl vw vk vf : Value) (a : Act) : Prop := ∃ (u2 u3 u4 u5 u6 u11 u12 u13 u14 u15 u16 u17 u18 u19 u20 u21 u22 u23 u24 u25 u26 u27 u28 u29 u30 u31 u32 u33 u34 u35 u36 u37 u38 u39 u40 u41 u42 u43 u44 u45 u46 u47 u48 u49 u50 u51 u52 u53 u54 u55 u56 u57 u58 u59 u60 u61 u62 u63 u64 u65 u66 : Value), a = { tmps := #[.string t, .int .i64 most, u2, u3, u4, u5, u6, vl, vw, vk, vf, u11, u12, u13, u14, u15, u16, u17, u18, u19, u20, u21, u22, u23, u24, u25, u26, u27, u28, u29, u30, u31, u32, u33, u34, u35, u36, u37, u38, u39, u40, u41, u42, u43, u44, u45, u46, u47, u48, u49, u50, u51, u52, u53, u54, u55, u56, u57, u58, u59, u60, u61, u62, u63, u64, u65, u66], defers := [] }

/-- What holds at a label, the frame aside. -/
def D4 (t : ByteArray) (w : World) (R : Except Nat (List (List Bs))) (l : Nat) (vl vw vf : Value) (k : Nat) (w' : World) : Prop :=
    ((l = 0 ∧ ∃ ps, St w vl (.slice none 0 0) ps [] w' ∧ ps.length ≤ k ∧ scanR (t.data.toList.drop k) [] [] (ps.map (·.2)) = R) ∨
     (l = 1 ∧ ∃ ps ws, St w vl vw ps ws w' ∧ ps.length ≤ k ∧ ws.length ≤ k ∧ ws ≠ [] ∧ scanR (t.data.toList.drop k) [] ws (ps.map (·.2)) = R) ∨
     (l = 2 ∧ ∃ (f : Nat) (ps : List (Value × List Bs)) (ws : List Bs), vf = .int .i64 f ∧ f < k ∧ St w vl vw ps ws w' ∧ ps.length ≤ k ∧ ws.length ≤ k ∧ scanR (t.data.toList.drop k) ((t.data.toList.take k).drop f) ws (ps.map (·.2)) = R) ∨
     (l = 3 ∧ ∃ ps, LL w' w.heap.size vl ps ∧ ps.length ≤ k ∧ Below w.heap.size w w' ∧ R = .error (ps.length + 1)))
/-- What holds at a label. -/
def J4 (t : ByteArray) (most : Int) (w : World) (R : Except Nat (List (List Bs))) (l : Nat) (a : Act) (w' : World) : Prop :=
  ∃ (vl vw vf : Value) (k : Nat), Fr t most vl vw (.int .i64 k) vf a ∧ k ≤ t.size ∧ D4 t w R l vl vw vf k w'
/-- A measure that each pass lowers. -/
def mu4 (t : ByteArray) (l : Nat) (a : Act) (_ : World) : Nat := if l = 3 then 0 else t.size + 1 - (intOf (a.tmps.getD 9 undef)).toNat

theorem mu4_at {t : ByteArray} {most : Int} {vl vw vf : Value} {k : Nat} {a : Act} {w : World} (h : Fr t most vl vw (.int .i64 k) vf a) {l : Nat} (hl : l ≠ 3) : mu4 t l a w = t.size + 1 - k := by
  obtain ⟨u2, u3, u4, u5, u6, u11, u12, u13, u14, u15, u16, u17, u18, u19, u20, u21, u22, u23, u24, u25, u26, u27, u28, u29, u30, u31, u32, u33, u34, u35, u36, u37, u38, u39, u40, u41, u42, u43, u44, u45, u46, u47, u48, u49, u50, u51, u52, u53, u54, u55, u56, u57, u58, u59, u60, u61, u62, u63, u64, u65, u66, rfl⟩ := h
  unfold mu4
  rw [if_neg hl]
  rfl

def linE : Except Nat (List (List Bs)) → Int
  | .ok _ => 0
  | .error _ => 22
def linN : Except Nat (List (List Bs)) → Nat
  | .ok _ => 0
  | .error n => n
def linL : Except Nat (List (List Bs)) → List (List Bs)
  | .ok L => L
  | .error _ => []
/-- Lines of one's own. -/
def OwnLL (w : World) (B : Nat) (v : Value) (L : List (List Bs)) : Prop := ∃ ps, ps.map (·.2) = L ∧ LL w B v ps
/-- What Lines answers with. -/
def LinesP (w : World) (R : Except Nat (List (List Bs))) (e : Ending) (w' : World) : Prop := ∃ v, e = .returned (.tuple #[v, .int .i64 (linE R), .int .i64 (linN R : Int)]) ∧ OwnLL w' w.heap.size v (linL R) ∧ Below w.heap.size w w'
theorem LinesP.ok {w w' : World} {R : Except Nat (List (List Bs))} {vl : Value} {ps : List (Value × List Bs)} (hR : R = .ok (ps.map (·.2))) (h : LL w' w.heap.size vl ps) (hb : Below w.heap.size w w') : LinesP w R (.returned (.tuple #[vl, .int .i64 0, .int .i64 0])) w' := by
  subst hR
  exact ⟨vl, rfl, ⟨ps, rfl, h⟩, hb⟩
theorem LinesP.no {w w' : World} {R : Except Nat (List (List Bs))} {n : Nat} (hR : R = .error n) (hb : Below w.heap.size w w') : LinesP w R (.returned (.tuple #[.slice none 0 0, .int .i64 22, .int .i64 (n : Int)])) w' := by
  subst hR
  exact ⟨_, rfl, ⟨[], rfl, LL.nil _ _⟩, hb⟩
theorem drop_at {t : ByteArray} {k : Nat} (h : k < t.size) : t.data.toList.drop k = t[k] :: t.data.toList.drop (k + 1) := List.drop_eq_getElem_cons (by rw [list_size]; exact h)
theorem take_at {t : ByteArray} {f k : Nat} (h : k < t.size) (hf : f ≤ k) : (t.data.toList.take (k + 1)).drop f = (t.data.toList.take k).drop f ++ [t[k]] := by
  rw [List.take_succ_eq_append_getElem (by rw [list_size]; exact h), List.drop_append_of_le_length (by rw [List.length_take, list_size]; omega)]
  rfl
theorem cur_ne {t : ByteArray} {f k : Nat} (h : k ≤ t.size) (hf : f < k) : (t.data.toList.take k).drop f ≠ [] := by
  intro e
  have := congrArg List.length e
  rw [List.length_drop, List.length_take, list_size] at this
  simp at this
  omega
theorem cur_nil (t : ByteArray) (k : Nat) : (t.data.toList.take k).drop k = [] := List.drop_of_length_le (by rw [List.length_take]; omega)
theorem drop_end {t : ByteArray} {k : Nat} (h : ¬ k < t.size) : t.data.toList.drop k = [] := List.drop_of_length_le (by rw [list_size]; omega)


theorem jump_ok {t : ByteArray} {most : Int} {w w' : World} {R : Except Nat (List (List Bs))} {vl vw vf : Value} {a : Act} {k k' l N : Nat} (hF : Fr t most vl vw (.int .i64 (k' : Nat)) vf a) (hl : l ≠ 3) (hN : N = t.size + 1 - k) (hk : k < k') (hk' : k' ≤ t.size) (h : D4 t w R l vl vw vf k' w') : J4 t most w R l a w' ∧ mu4 t l a w' < N :=
  ⟨⟨vl, vw, vf, k', hF, hk', h⟩, by rw [mu4_at hF hl, hN]; omega⟩
theorem jump_wrong {t : ByteArray} {most : Int} {w w' : World} {R : Except Nat (List (List Bs))} {vl vw vf : Value} {a : Act} {k k' N : Nat} {ps : List (Value × List Bs)} (hF : Fr t most vl vw (.int .i64 (k' : Nat)) vf a) (hN : N = t.size + 1 - k) (hk : k ≤ t.size) (hk' : k' ≤ t.size) (h : LL w' w.heap.size vl ps) (hp : ps.length ≤ k') (hb : Below w.heap.size w w') (hR : R = .error (ps.length + 1)) : J4 t most w R 3 a w' ∧ mu4 t 3 a w' < N :=
  ⟨⟨vl, vw, vf, k', hF, hk', Or.inr (Or.inr (Or.inr ⟨rfl, ps, h, hp, hb, hR⟩))⟩, by show (if 3 = 3 then 0 else _) < N; rw [if_pos rfl]; omega⟩
theorem own_one {w : World} {B : Nat} {v : Value} {ws : List Bs} (h : OwnW w B v ws) : v.oneCell' = true := by
  rcases h.2 with ⟨rfl, _⟩ | ⟨g, cap, cur, rfl, _⟩ <;> rfl

theorem own_form {w : World} {B : Nat} {v : Value} {ws : List Bs} {x : Bs} (h : OwnW w B v (ws ++ [x])) : ∃ g cap, v = .slice (some ⟨g, 0, none⟩) (ws.length + 1) cap := by
  rcases h.2 with ⟨_, h0⟩ | ⟨g, cap, cur, rfl, _⟩
  · simp at h0
  · exact ⟨g, cap, by simp⟩

set_option maxHeartbeats 6400000 in
theorem Lines_walk (t : ByteArray) (hs : t.size ≤ 4194304) (most : Int) (hm : ¬ most < (t.size : Int)) (w : World)
    (HC : Hid (∀ s : ByteArray, s.size ≤ 4194304 → ∀ w1, Calls Tryz.prog 52 #[.string s] w1 fun e w' => e = .returned (.string s) ∧ Below w1.heap.size w1 w')) :
    Calls Tryz.prog 30 #[.string t, .int .i64 most] w (LinesP w (scanR t.data.toList [] [] [])) := by
  obtain ⟨R, hR⟩ : ∃ R, R = scanR t.data.toList [] [] [] := ⟨_, rfl⟩
  rw [← hR]
  have HR := hide3 hR
  clear hR
  obtain ⟨i0, hi, hz0, hz1, hz2⟩ := info_parts infoStr
  obtain ⟨i1, hj, hy0, hy1, hy2⟩ := info_parts infoStrs
  go_enter Tryz.func30, Tryz.ntmps30
  go_wp2
  refine wp_scope_many (J4 t most w R) (mu4 t) ?_ ?_
  · by_cases h0 : t.size = 0
    · have hR : R = .ok [] := by rw [HR.out, show t.data.toList = [] from List.eq_nil_of_length_eq_zero h0]; rfl
      have e0 : ((0 : Int) == (t.size : Int)) = true := by rw [h0]; rfl
      go_wp2
      go_step3
      go_wp2
      simp only [jumpM_ret]
      go_ret3
      exact LinesP.ok (ps := []) hR (LL.nil _ _) (Below.refl _ _)
    · have e0 : ((0 : Int) == (t.size : Int)) = false := by rw [beq_eq_false_iff_ne]; omega
      have hlt : 0 < t.size := by omega
      have HW := hide3 (wordByte_any t[0])
      have hd := drop_at hlt
      rw [List.drop_zero] at hd
      cases hw : wB t[0]
      · have HJ : Hid (R = .error 1) := by unfold Hid; rw [HR.out, hd, scan_none hw]; rfl
        rw [hw] at HW
        clear hd hw h0 HR
        go_wp2
        go_step3
        go_wp2
        go_step3
        go_wp2
        go_step3
        go_wp2_with (go_at_call 51; refine (HW.out _).mono ?_; rintro e wx ⟨rfl, hwx⟩; subst hwx)
        go_step3
        (try simp only [Exit.then]); (try simp only [Exit.inBlock]); (try simp only [jumpM_goto])
        exact ⟨_, _, _, 0, ⟨_, _, _, _, _, _, _, _, _, _, _, _, _, _, _, _, _, _, _, _, _, _, _, _, _, _, _, _, _, _, _, _, _, _, _, _, _, _, _, _, _, _, _, _, _, _, _, _, _, _, _, _, _, _, _, _, _, _, _, _, _, rfl⟩, Nat.zero_le _, Or.inr (Or.inr (Or.inr ⟨rfl, [], LL.nil _ _, Nat.le_refl _, Below.refl _ _, HJ.out⟩))⟩
      · have HJ : Hid (scanR (t.data.toList.drop 1) ((t.data.toList.take 1).drop 0) [] [] = R) := by
          unfold Hid
          rw [take_at hlt (Nat.le_refl 0), HR.out, hd, scan_b hw]
          simp
        rw [hw] at HW
        clear hd hw h0 HR
        go_wp2
        go_step3
        go_wp2
        go_step3
        go_wp2
        go_step3
        go_wp2_with (go_at_call 51; refine (HW.out _).mono ?_; rintro e wx ⟨rfl, hwx⟩; subst hwx)
        go_step3
        (try simp only [Exit.then]); (try simp only [Exit.inBlock]); (try simp only [jumpM_goto])
        exact ⟨_, _, _, 1, ⟨_, _, _, _, _, _, _, _, _, _, _, _, _, _, _, _, _, _, _, _, _, _, _, _, _, _, _, _, _, _, _, _, _, _, _, _, _, _, _, _, _, _, _, _, _, _, _, _, _, _, _, _, _, _, _, _, _, _, _, _, _, rfl⟩, by omega, Or.inr (Or.inr (Or.inl ⟨rfl, 0, [], [], rfl, by omega, St.start _, by simp, by simp, HJ.out⟩))⟩
  · rintro l a w' ⟨vl, vw, vf, k, hF, hk, hD⟩
    clear HR
    rcases hD with ⟨rfl, ps, hst, hpl, hsc⟩ | ⟨rfl, ps, ws, hst, hpl, hwl, hne, hsc⟩ | ⟨rfl, f, ps, ws, rfl, hfk, hst, hpl, hwl, hsc⟩ | ⟨rfl, ps, hll, hpl, hb, hR⟩
    · -- line
      have HO := hide3 hst
      clear hst
      refine ⟨_, rfl, ?_⟩
      obtain ⟨N, hN⟩ : ∃ N, N = mu4 t 0 a w' := ⟨_, rfl⟩
      rw [← hN]
      rw [mu4_at hF (by decide)] at hN
      have HN := hide3 hN
      clear hN
      obtain ⟨u2, u3, u4, u5, u6, u11, u12, u13, u14, u15, u16, u17, u18, u19, u20, u21, u22, u23, u24, u25, u26, u27, u28, u29, u30, u31, u32, u33, u34, u35, u36, u37, u38, u39, u40, u41, u42, u43, u44, u45, u46, u47, u48, u49, u50, u51, u52, u53, u54, u55, u56, u57, u58, u59, u60, u61, u62, u63, u64, u65, u66, rfl⟩ := hF
      by_cases hlt : k < t.size
      · have e0 : ((k : Int) == (t.size : Int)) = false := by rw [beq_eq_false_iff_ne]; omega
        have HW := hide3 (wordByte_any t[k])
        have hd := drop_at hlt
        cases hw : wB t[k]
        · have HJ : Hid (R = .error (ps.length + 1)) := by unfold Hid; rw [← hsc, hd, scan_none hw]; simp
          rw [hw] at HW
          clear hd hw hsc
          go_wp2
          go_step3
          go_wp2
          go_step3
          go_wp2_with (go_at_call 51; refine (HW.out _).mono ?_; rintro e wx ⟨rfl, hwx⟩; subst hwx)
          go_step3
          (try simp only [Exit.then]); (try simp only [Exit.inBlock]); (try simp only [jumpM_goto])
          exact jump_wrong (k' := k) ⟨_, _, _, _, _, _, _, _, _, _, _, _, _, _, _, _, _, _, _, _, _, _, _, _, _, _, _, _, _, _, _, _, _, _, _, _, _, _, _, _, _, _, _, _, _, _, _, _, _, _, _, _, _, _, _, _, _, _, _, _, _, rfl⟩ HN.out hk hk HO.out.1 hpl HO.out.2.2.2.2 HJ.out
        · have HJ : Hid (scanR (t.data.toList.drop (k + 1)) ((t.data.toList.take (k + 1)).drop k) [] (ps.map (·.2)) = R) := by
            unfold Hid
            rw [take_at hlt (Nat.le_refl k), cur_nil, ← hsc, hd, scan_b hw]
          rw [hw] at HW
          clear hd hw hsc
          go_wp2
          go_step3
          go_wp2
          go_step3
          go_wp2_with (go_at_call 51; refine (HW.out _).mono ?_; rintro e wx ⟨rfl, hwx⟩; subst hwx)
          go_step3
          (try simp only [Exit.then]); (try simp only [Exit.inBlock]); (try simp only [jumpM_goto])
          exact jump_ok (k' := k + 1) ⟨_, _, _, _, _, _, _, _, _, _, _, _, _, _, _, _, _, _, _, _, _, _, _, _, _, _, _, _, _, _, _, _, _, _, _, _, _, _, _, _, _, _, _, _, _, _, _, _, _, _, _, _, _, _, _, _, _, _, _, _, _, rfl⟩ (by decide) HN.out (by omega) (by omega) (Or.inr (Or.inr (Or.inl ⟨rfl, k, ps, [], rfl, by omega, HO.out, by omega, by simp, HJ.out⟩)))
      · have e0 : ((k : Int) == (t.size : Int)) = true := by rw [beq_iff_eq]; omega
        have HJ : Hid (R = .ok (ps.map (·.2))) := by unfold Hid; rw [← hsc, drop_end hlt]; rfl
        clear hsc
        go_wp2
        simp only [jumpM_ret]
        go_ret3
        exact LinesP.ok HJ.out HO.out.1 HO.out.2.2.2.2
    · -- word
      have HO := hide3 hst
      clear hst
      refine ⟨_, rfl, ?_⟩
      obtain ⟨N, hN⟩ : ∃ N, N = mu4 t 1 a w' := ⟨_, rfl⟩
      rw [← hN]
      rw [mu4_at hF (by decide)] at hN
      have HN := hide3 hN
      clear hN
      obtain ⟨u2, u3, u4, u5, u6, u11, u12, u13, u14, u15, u16, u17, u18, u19, u20, u21, u22, u23, u24, u25, u26, u27, u28, u29, u30, u31, u32, u33, u34, u35, u36, u37, u38, u39, u40, u41, u42, u43, u44, u45, u46, u47, u48, u49, u50, u51, u52, u53, u54, u55, u56, u57, u58, u59, u60, u61, u62, u63, u64, u65, u66, rfl⟩ := hF
      by_cases hlt : k < t.size
      · have e0 : ((k : Int) == (t.size : Int)) = false := by rw [beq_eq_false_iff_ne]; omega
        have HW := hide3 (wordByte_any t[k])
        have hd := drop_at hlt
        cases hw : wB t[k]
        · have HJ : Hid (R = .error (ps.length + 1)) := by unfold Hid; rw [← hsc, hd, scan_none hw]; simp
          rw [hw] at HW
          clear hd hw hsc hne
          go_wp2
          go_step3
          go_wp2_with (go_at_call 51; refine (HW.out _).mono ?_; rintro e wx ⟨rfl, hwx⟩; subst hwx)
          go_step3
          (try simp only [Exit.then]); (try simp only [Exit.inBlock]); (try simp only [jumpM_goto])
          exact jump_wrong (k' := k) ⟨_, _, _, _, _, _, _, _, _, _, _, _, _, _, _, _, _, _, _, _, _, _, _, _, _, _, _, _, _, _, _, _, _, _, _, _, _, _, _, _, _, _, _, _, _, _, _, _, _, _, _, _, _, _, _, _, _, _, _, _, _, rfl⟩ HN.out hk hk HO.out.1 hpl HO.out.2.2.2.2 HJ.out
        · have HJ : Hid (scanR (t.data.toList.drop (k + 1)) ((t.data.toList.take (k + 1)).drop k) ws (ps.map (·.2)) = R) := by
            unfold Hid
            rw [take_at hlt (Nat.le_refl k), cur_nil, ← hsc, hd, scan_b hw]
          rw [hw] at HW
          clear hd hw hsc hne
          go_wp2
          go_step3
          go_wp2_with (go_at_call 51; refine (HW.out _).mono ?_; rintro e wx ⟨rfl, hwx⟩; subst hwx)
          go_step3
          (try simp only [Exit.then]); (try simp only [Exit.inBlock]); (try simp only [jumpM_goto])
          exact jump_ok (k' := k + 1) ⟨_, _, _, _, _, _, _, _, _, _, _, _, _, _, _, _, _, _, _, _, _, _, _, _, _, _, _, _, _, _, _, _, _, _, _, _, _, _, _, _, _, _, _, _, _, _, _, _, _, _, _, _, _, _, _, _, _, _, _, _, _, rfl⟩ (by decide) HN.out (by omega) (by omega) (Or.inr (Or.inr (Or.inl ⟨rfl, k, ps, ws, rfl, by omega, HO.out, by omega, by omega, HJ.out⟩)))
      · have e0 : ((k : Int) == (t.size : Int)) = true := by rw [beq_iff_eq]; omega
        have HJ : Hid (R = .error (ps.length + 1)) := by unfold Hid; rw [← hsc, drop_end hlt, scan_end (Or.inr hne)]; simp
        clear hsc hne
        go_wp2
        go_step3
        go_wp2
        go_step3
        (try simp only [Exit.then]); (try simp only [Exit.inBlock]); (try simp only [jumpM_goto])
        exact jump_wrong (k' := k) ⟨_, _, _, _, _, _, _, _, _, _, _, _, _, _, _, _, _, _, _, _, _, _, _, _, _, _, _, _, _, _, _, _, _, _, _, _, _, _, _, _, _, _, _, _, _, _, _, _, _, _, _, _, _, _, _, _, _, _, _, _, _, rfl⟩ HN.out hk hk HO.out.1 hpl HO.out.2.2.2.2 HJ.out
    · -- inside
      have HO := hide3 hst
      clear hst
      refine ⟨_, rfl, ?_⟩
      obtain ⟨N, hN⟩ : ∃ N, N = mu4 t 2 a w' := ⟨_, rfl⟩
      rw [← hN]
      rw [mu4_at hF (by decide)] at hN
      have HN := hide3 hN
      clear hN
      obtain ⟨u2, u3, u4, u5, u6, u11, u12, u13, u14, u15, u16, u17, u18, u19, u20, u21, u22, u23, u24, u25, u26, u27, u28, u29, u30, u31, u32, u33, u34, u35, u36, u37, u38, u39, u40, u41, u42, u43, u44, u45, u46, u47, u48, u49, u50, u51, u52, u53, u54, u55, u56, u57, u58, u59, u60, u61, u62, u63, u64, u65, u66, rfl⟩ := hF
      have ef : ((k : Int) == (f : Int)) = false := by rw [beq_eq_false_iff_ne]; omega
      have hcn := cur_ne hk hfk
      by_cases hlt : k < t.size
      · have e0 : ((k : Int) == (t.size : Int)) = false := by rw [beq_eq_false_iff_ne]; omega
        have HW := hide3 (wordByte_any t[k])
        have hd := drop_at hlt
        cases hw : wB t[k]
        · rw [hw] at HW
          by_cases h32 : t[k] = 32
          · have HJ : Hid (scanR (t.data.toList.drop (k + 1)) [] (ws ++ [(t.data.toList.take k).drop f]) (ps.map (·.2)) = R) := by
              unfold Hid
              rw [← hsc, hd, h32, scan_32 hcn]
            have e32 : ((t[k].toNat : Int) == 32) = true := by rw [h32]; rfl
            clear hd hw hsc h32 hcn
            go_wp2_with (first | (go_at_call 51; refine (HW.out _).mono ?_; rintro e wx ⟨rfl, hwx⟩; subst hwx) | (go_at_call 52; refine (HC.out _ (by rw [ByteArray.size_extract]; omega) _).mono ?_; rintro e w1 ⟨rfl, hb1⟩; have HO1 := hide3 (HO.out.below hb1); clear hb1) | (have _h := HO1; at_builtin; refine wpList_append_own_at _ rfl _ _ 58 rfl w.heap.size 9 i0 _ 1 16 Tryz.underlying58 hi hz0 hz1 hz2 rfl (by decide) _ _ _ rfl (HO1.out.2.1.alloc _) ⟨w1.heap.size, 0, none⟩ 1 1 [.string (t.extract f k)] rfl rfl (cell_one_new _ _ _) (by simp [Value.oneCell']) (by unfold maxLen; omega) (by omega) (by have := HO1.out.2.2.2.2.size; simp; omega) ?_; intro v2 w2 hown2 hg2 hnil2 hat2; have HO2 : Hid (St w vl v2 ps (ws ++ [(t.data.toList.take k).drop f]) w2) := St.word _ (HO1.out.below (boxB _ _)) (by rw [ba_extract] at hown2; exact hown2) hg2 hat2; clear hown2 hg2 hnil2 hat2 HO1; obtain ⟨g2, cap2, rfl⟩ := own_form HO2.out.2.1; go_frame))
            go_step3
            (try simp only [Exit.then]); (try simp only [Exit.inBlock]); (try simp only [jumpM_goto])
            exact jump_ok (k' := k + 1) ⟨_, _, _, _, _, _, _, _, _, _, _, _, _, _, _, _, _, _, _, _, _, _, _, _, _, _, _, _, _, _, _, _, _, _, _, _, _, _, _, _, _, _, _, _, _, _, _, _, _, _, _, _, _, _, _, _, _, _, _, _, _, rfl⟩ (by decide) HN.out (by omega) (by omega) (Or.inr (Or.inl ⟨rfl, ps, _, HO2.out, by omega, by simp; omega, by simp, HJ.out⟩))
          · have e32 : ((t[k].toNat : Int) == 32) = false := by rw [beq_eq_false_iff_ne]; intro e; exact h32 (UInt8.toNat_inj.1 (by show t[k].toNat = 32; omega))
            by_cases h10 : t[k] = 10
            · have HJ : Hid (scanR (t.data.toList.drop (k + 1)) [] [] ((ps.map (·.2)) ++ [ws ++ [(t.data.toList.take k).drop f]]) = R) := by
                unfold Hid
                rw [← hsc, hd, h10, scan_10 hcn]
              have e10 : ((t[k].toNat : Int) == 10) = true := by rw [h10]; rfl
              clear hd hw hsc h32 h10 hcn
              go_wp2_with (first | (go_at_call 51; refine (HW.out _).mono ?_; rintro e wx ⟨rfl, hwx⟩; subst hwx) | (go_at_call 52; refine (HC.out _ (by rw [ByteArray.size_extract]; omega) _).mono ?_; rintro e w1 ⟨rfl, hb1⟩; have HO1 := hide3 (HO.out.below hb1); clear hb1) | (have _h := HO1; at_builtin; refine wpList_append_own_at _ rfl _ _ 58 rfl w.heap.size 9 i0 _ 1 16 Tryz.underlying58 hi hz0 hz1 hz2 rfl (by decide) _ _ _ rfl (HO1.out.2.1.alloc _) ⟨w1.heap.size, 0, none⟩ 1 1 [.string (t.extract f k)] rfl rfl (cell_one_new _ _ _) (by simp [Value.oneCell']) (by unfold maxLen; omega) (by omega) (by have := HO1.out.2.2.2.2.size; simp; omega) ?_; intro v2 w2 hown2 hg2 hnil2 hat2; have HO2 : Hid (St w vl v2 ps (ws ++ [(t.data.toList.take k).drop f]) w2) := St.word _ (HO1.out.below (boxB _ _)) (by rw [ba_extract] at hown2; exact hown2) hg2 hat2; clear hown2 hg2 hnil2 hat2 HO1; obtain ⟨g2, cap2, rfl⟩ := own_form HO2.out.2.1; go_frame) | (have _h := HO2; at_builtin; refine wpList_append_own_at _ rfl _ _ 66 rfl w.heap.size 58 i1 _ 1 24 Tryz.underlying66 hj hy0 hy1 hy2 rfl (by decide) _ _ _ rfl (HO2.out.1.1.alloc _) ⟨w2.heap.size, 0, none⟩ 1 1 [.slice (some ⟨g2, 0, none⟩) (ws.length + 1) cap2] rfl rfl (cell_one_new _ _ _) (by intro u hu; rw [List.mem_singleton.1 hu]; exact own_one HO2.out.2.1) (by unfold maxLen; omega) (by omega) (by have := HO2.out.2.2.2.2.size; simp; omega) ?_; intro v3 w3 hown3 hg3 hnil3 hat3; have HO3 : Hid (St w v3 (.slice none 0 0) (ps ++ [(.slice (some ⟨g2, 0, none⟩) (ws.length + 1) cap2, ws ++ [(t.data.toList.take k).drop f])]) [] w3) := St.line (HO2.out.below (boxB _ _)) (by simp) hown3 hg3 hat3; clear hown3 hg3 hnil3 hat3; go_frame))
              go_step3
              (try simp only [Exit.then]); (try simp only [Exit.inBlock]); (try simp only [jumpM_goto])
              exact jump_ok (k' := k + 1) ⟨_, _, _, _, _, _, _, _, _, _, _, _, _, _, _, _, _, _, _, _, _, _, _, _, _, _, _, _, _, _, _, _, _, _, _, _, _, _, _, _, _, _, _, _, _, _, _, _, _, _, _, _, _, _, _, _, _, _, _, _, _, rfl⟩ (by decide) HN.out (by omega) (by omega) (Or.inl ⟨rfl, _, HO3.out, by simp; omega, by rw [List.map_append]; exact HJ.out⟩)
            · have HJ : Hid (R = .error (ps.length + 1)) := by unfold Hid; rw [← hsc, hd, scan_bad hw h32 h10]; simp
              have e10 : ((t[k].toNat : Int) == 10) = false := by rw [beq_eq_false_iff_ne]; intro e; exact h10 (UInt8.toNat_inj.1 (by show t[k].toNat = 10; omega))
              clear hd hw hsc h32 h10 hcn
              go_wp2_with (first | (go_at_call 51; refine (HW.out _).mono ?_; rintro e wx ⟨rfl, hwx⟩; subst hwx) | (go_at_call 52; refine (HC.out _ (by rw [ByteArray.size_extract]; omega) _).mono ?_; rintro e w1 ⟨rfl, hb1⟩; have HO1 := hide3 (HO.out.below hb1); clear hb1) | (have _h := HO1; at_builtin; refine wpList_append_own_at _ rfl _ _ 58 rfl w.heap.size 9 i0 _ 1 16 Tryz.underlying58 hi hz0 hz1 hz2 rfl (by decide) _ _ _ rfl (HO1.out.2.1.alloc _) ⟨w1.heap.size, 0, none⟩ 1 1 [.string (t.extract f k)] rfl rfl (cell_one_new _ _ _) (by simp [Value.oneCell']) (by unfold maxLen; omega) (by omega) (by have := HO1.out.2.2.2.2.size; simp; omega) ?_; intro v2 w2 hown2 hg2 hnil2 hat2; have HO2 : Hid (St w vl v2 ps (ws ++ [(t.data.toList.take k).drop f]) w2) := St.word _ (HO1.out.below (boxB _ _)) (by rw [ba_extract] at hown2; exact hown2) hg2 hat2; clear hown2 hg2 hnil2 hat2 HO1; obtain ⟨g2, cap2, rfl⟩ := own_form HO2.out.2.1; go_frame))
              go_step3
              obtain ⟨ad, cap, rfl⟩ := HO2.out.1.len
              go_wp2
              simp only [jumpM_ret]
              go_ret3
              exact LinesP.no HJ.out HO2.out.2.2.2.2
        · have HJ : Hid (scanR (t.data.toList.drop (k + 1)) ((t.data.toList.take (k + 1)).drop f) ws (ps.map (·.2)) = R) := by
            unfold Hid
            rw [take_at hlt (Nat.le_of_lt hfk), ← hsc, hd, scan_b hw]
          rw [hw] at HW
          clear hd hw hsc hcn
          go_wp2_with (go_at_call 51; refine (HW.out _).mono ?_; rintro e wx ⟨rfl, hwx⟩; subst hwx)
          go_step3
          (try simp only [Exit.then]); (try simp only [Exit.inBlock]); (try simp only [jumpM_goto])
          exact jump_ok (k' := k + 1) ⟨_, _, _, _, _, _, _, _, _, _, _, _, _, _, _, _, _, _, _, _, _, _, _, _, _, _, _, _, _, _, _, _, _, _, _, _, _, _, _, _, _, _, _, _, _, _, _, _, _, _, _, _, _, _, _, _, _, _, _, _, _, rfl⟩ (by decide) HN.out (by omega) (by omega) (Or.inr (Or.inr (Or.inl ⟨rfl, f, ps, ws, rfl, by omega, HO.out, by omega, by omega, HJ.out⟩)))
      · have e0 : ((k : Int) == (t.size : Int)) = true := by rw [beq_iff_eq]; omega
        have HJ : Hid (R = .error (ps.length + 1)) := by unfold Hid; rw [← hsc, drop_end hlt, scan_end (Or.inl hcn)]; simp
        clear hsc hcn
        go_wp2
        go_step3
        (try simp only [Exit.then]); (try simp only [Exit.inBlock]); (try simp only [jumpM_goto])
        exact jump_wrong (k' := k) ⟨_, _, _, _, _, _, _, _, _, _, _, _, _, _, _, _, _, _, _, _, _, _, _, _, _, _, _, _, _, _, _, _, _, _, _, _, _, _, _, _, _, _, _, _, _, _, _, _, _, _, _, _, _, _, _, _, _, _, _, _, _, rfl⟩ HN.out hk hk HO.out.1 hpl HO.out.2.2.2.2 HJ.out
    · -- wrong
      refine ⟨_, rfl, ?_⟩
      obtain ⟨u2, u3, u4, u5, u6, u11, u12, u13, u14, u15, u16, u17, u18, u19, u20, u21, u22, u23, u24, u25, u26, u27, u28, u29, u30, u31, u32, u33, u34, u35, u36, u37, u38, u39, u40, u41, u42, u43, u44, u45, u46, u47, u48, u49, u50, u51, u52, u53, u54, u55, u56, u57, u58, u59, u60, u61, u62, u63, u64, u65, u66, rfl⟩ := hF
      obtain ⟨ad, cap, rfl⟩ := hll.len
      have HR := hide3 hR
      have HB := hide3 hb
      clear hR hb hll
      go_wp2
      simp only [jumpM_ret]
      go_ret3
      exact LinesP.no HR.out HB.out
end Go.Proofs.YtefcndfeemnglaaGreatDoor.Sc
