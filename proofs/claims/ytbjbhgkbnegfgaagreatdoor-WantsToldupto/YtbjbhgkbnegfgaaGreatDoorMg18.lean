/- St2, St3, St4, laid in one text. -/
import Derived.Test.YtbjbhgkbnegfgaaGreatDoorMg17
namespace Go.Proofs.YtbjbhgkbnegfgaaGreatDoor
open Go.RowKit Go.Maps Go.WideMaps
set_option maxRecDepth 100000

theorem last_of {α : Type} {l : List α} (h : l ≠ []) : ∃ a b, l = a ++ [b] := ⟨l.dropLast, l.getLast h, (List.dropLast_concat_getLast h).symm⟩

set_option maxHeartbeats 12800000 in
theorem insort_any {w : World} {B g n cap a b : Nat} {P X R : List Wt} (hn : n ≤ 1000000000) (ha : P.length = a) (hb : a + X.length = b) (h : RowW w B g n cap (P ++ X ++ R)) (ht : X.Pairwise fun x y => x.tg < y.tg) :
    Calls Tryz.prog 230 #[.slice (some ⟨g, 0, none⟩) n cap, .int .i64 a, .int .i64 b, .func (.func 125) #[] #[]] w fun e w' => e = .returned (.tuple #[]) ∧ ∃ Y : List Wt, Y.Perm X ∧ Y.Pairwise ltT ∧ SW w B g n cap (P ++ Y ++ R) w' := by
  have hbn : b ≤ n := by
    have e := h.1
    rw [List.length_append, List.length_append] at e
    omega
  have HS0 : Hid (SW w B g n cap (P ++ X.take 1 ++ X.drop 1 ++ R) w) := by
    refine ⟨?_, ⟨rfl, rfl, rfl, Nat.le_refl _, fun _ _ _ => rfl⟩⟩
    rw [List.append_assoc P, List.take_append_drop]
    exact h
  have HTG := hide3 ht
  have HXL := hide3 hb
  have HPA := hide3 ha
  clear h ht
  go_enter Tryz.func230, Tryz.ntmps230
  go_wp2_with fail
  go_loopw [8] (fun vi wr => ∃ (k : Nat) (S : List Wt), vi = .int .i64 (a + k : Nat) ∧ 1 ≤ k ∧ (k ≤ X.length ∨ k = 1) ∧ S.Perm (X.take k) ∧ S.Pairwise ltT ∧ SW w B g n cap (P ++ S ++ X.drop k ++ R) wr) (fun vi _ => b + 1 - (intOf vi).toNat)
  case atStart => exact ⟨1, X.take 1, by go_num, Nat.le_refl _, Or.inr rfl, List.Perm.refl _, (by rcases X with _ | ⟨x, X⟩ <;> simp), HS0.out⟩
  case round =>
    obtain ⟨k, S, rfl, hk1, hkx, hpm, hpw, hsw⟩ := hrel
    have HPW := hide3 hpw
    have HSW := hide3 hsw
    have HPE := hide3 hpm
    clear hpm hpw hsw
    obtain ⟨i, hi⟩ : ∃ i, i = a + k := ⟨_, rfl⟩
    rw [← hi]
    have HI := hide3 hi
    clear hi
    by_cases hlt : k < X.length
    · have hib : (i : Int) < (b : Int) := by have := HXL.out; have := HI.out; omega
      have HDR : Hid (X.drop k = X[k] :: X.drop (k + 1)) := List.drop_eq_getElem_cons hlt
      have HTK : Hid (X.take (k + 1) = X.take k ++ [X[k]]) := List.take_succ_eq_append_getElem hlt
      have HTX : Hid (∀ y ∈ S, y.tg < X[k].tg) := fun y hy => by
        obtain ⟨j, hj, rfl⟩ := List.getElem_of_mem (HPE.out.mem_iff.1 hy)
        rw [List.length_take] at hj
        rw [List.getElem_take]
        exact List.pairwise_iff_getElem.1 HTG.out j k (by omega) hlt (by omega)
      have hSl : S.length = k := by rw [HPE.out.length_eq, List.length_take]; omega
      have HSL := hide3 hSl
      clear hSl
      obtain ⟨x, hx⟩ : ∃ x, x = X[k] := ⟨_, rfl⟩
      rw [← hx] at HDR HTK HTX
      clear hx
      have HPM : Hid (∀ S1 S2, S = S1 ++ S2 → (S1 ++ x :: S2).Perm (X.take (k + 1))) := fun S1 S2 e => by
        rw [HTK.out]
        refine List.perm_middle.trans ?_
        rw [← e]
        exact ((HPE.out.cons x).trans (List.perm_append_singleton x (X.take k)).symm)
      rw [HDR.out] at HSW
      have HSTART : Hid (SW w B g n cap (P ++ S ++ x :: ([] ++ X.drop (k + 1) ++ R)) wr) := by
        have e := HSW.out
        unfold Hid
        simpa using e
      clear HSW HPE HTK
      go_wp2_with fail
      go_loopw [9] (fun vj wq => ∃ (j : Nat) (S1 S2 : List Wt), vj = .int .i64 j ∧ j = a + S1.length ∧ S = S1 ++ S2 ∧ (∀ y ∈ S2, ltT x y) ∧ SW w B g n cap (P ++ S1 ++ x :: (S2 ++ X.drop (k + 1) ++ R)) wq) (fun vj _ => (intOf vj).toNat)
      case atStart => exact ⟨i, S, [], rfl, by have := HSL.out; have := HI.out; omega, by simp, fun y hy => (by cases hy), HSTART.out⟩
      case round =>
        obtain ⟨j, S1, S2, rfl, hj, hs, hl2, hsw⟩ := hrel
        have HSW := hide3 hsw
        have HS := hide3 hs
        have HL2 := hide3 hl2
        clear hsw hs hl2
        rcases Classical.em (S1 = []) with rfl | hne
        · obtain rfl : j = a := by simpa using hj
          clear hj
          have hd0 : decide ((j : Int) < (j : Int)) = false := decide_eq_false (by omega)
          have hd1 : ¬ (j : Int) < (j : Int) := by omega
          have HFIN : Hid (SW w B g n cap (P ++ ([] ++ x :: S2) ++ X.drop (k + 1) ++ R) wr) := by
            have e := HSW.out
            unfold Hid
            simpa using e
          go_wp2_with fail
          go_quiet (fail)
          go_wp2_with fail
          exact ⟨⟨k + 1, [] ++ x :: S2, (by have := HI.out; go_num), by omega, by omega, HPM.out _ _ HS.out, ins_sorted' (HS.out ▸ HPW.out) HL2.out (Or.inl rfl), keepSW _ _ _ _ _ _ _ _ HFIN.out (Go.Proofs.YtbjbhgkbnegfgaaGreatDoor.Below.drewN (Below.refl _ _) _)⟩, by have := HI.out; simp [intOf]; omega⟩
        · obtain ⟨S0, y, rfl⟩ := last_of hne
          clear hne
          rw [List.length_append, List.length_singleton] at hj
          obtain ⟨q, hq⟩ : ∃ q, q = a + S0.length := ⟨_, rfl⟩
          have hjq : j = q + 1 := by omega
          have hSS : S0.length + 1 ≤ k := by have e := congrArg List.length HS.out; have := HSL.out; simp at e; omega
          have hjn : j < n := by have := HXL.out; omega
          have HIX : Hid ((P ++ (S0 ++ [y]) ++ x :: (S2 ++ X.drop (k + 1) ++ R))[j]? = some x ∧ (P ++ (S0 ++ [y]) ++ x :: (S2 ++ X.drop (k + 1) ++ R))[q]? = some y) := by
            have hpl := HPA.out
            constructor
            · rw [List.getElem?_append_right (by simp; omega)]
              have e : j - (P ++ (S0 ++ [y])).length = 0 := by simp; omega
              rw [e]
              rfl
            · rw [List.getElem?_append_left (by simp; omega), List.getElem?_append_right (by omega), List.getElem?_append_right (by omega)]
              have e : q - P.length - S0.length = 0 := by omega
              rw [e]
              rfl
          obtain ⟨c0, c1, c2⟩ := HSW.out.1.cells HIX.out.1
          obtain ⟨e0, e1, e2⟩ := HSW.out.1.cells HIX.out.2
          have hgw := HSW.out.1.lt.2
          obtain ⟨r, hr, hcm⟩ := cmpW_any x y
          have HCM := hide3 hcm
          have HTY : Hid (y.tg < x.tg) := HTX.out y (by rw [HS.out]; simp)
          have hd1 : (a : Int) < (j : Int) := by omega
          have hwr1 : IntKind.i64.wrap ((j : Int) - 1) = (j : Int) - 1 := by simp [IntKind.wrap, IntKind.bits, IntKind.signed]; omega
          have hwr2 : wrap64 ((j : Int) - 1) = (j : Int) - 1 := by unfold wrap64; omega
          have hj0 : (0 : Int) ≤ (j : Int) - 1 := by omega
          have hj1 : (j : Int) - 1 < (n : Int) := by omega
          have hj2 : ((j : Int) - 1).toNat = q := by omega
          have hj3 : ¬ (j : Int) - 1 < 0 := by omega
          have hq1 : (1 : Int) ≤ (j : Int) := by omega
          have hq3 : (j : Int) ≤ (n : Int) := by omega
          have hq4 : (j : Int) < (n : Int) + 1 := by omega
          have hq5 : (j : Int) < (n : Int) := by omega
          have HK : Hid (KeepP fun w1 => SW w B g n cap (P ++ (S0 ++ [y]) ++ x :: (S2 ++ X.drop (k + 1) ++ R)) w1 ∧ Sc.CellK w1 g (j * 3) (.string x.nm) ∧ Sc.CellK w1 g (j * 3 + 1) (.int .i64 x.kd) ∧ Sc.CellK w1 g (j * 3 + 2) (.slice x.ad x.ln x.cp) ∧ Sc.CellK w1 g (q * 3) (.string y.nm) ∧ Sc.CellK w1 g (q * 3 + 1) (.int .i64 y.kd) ∧ Sc.CellK w1 g (q * 3 + 2) (.slice y.ad y.ln y.cp)) := KeepP.and (keepSW _ _ _ _ _ _) (KeepP.and (keepCk _ _ _) (KeepP.and (keepCk _ _ _) (KeepP.and (keepCk _ _ _) (KeepP.and (keepCk _ _ _) (KeepP.and (keepCk _ _ _) (keepCk _ _ _))))))
          have HO : Hid (SW w B g n cap (P ++ (S0 ++ [y]) ++ x :: (S2 ++ X.drop (k + 1) ++ R)) wr ∧ Sc.CellK wr g (j * 3) (.string x.nm) ∧ Sc.CellK wr g (j * 3 + 1) (.int .i64 x.kd) ∧ Sc.CellK wr g (j * 3 + 2) (.slice x.ad x.ln x.cp) ∧ Sc.CellK wr g (q * 3) (.string y.nm) ∧ Sc.CellK wr g (q * 3 + 1) (.int .i64 y.kd) ∧ Sc.CellK wr g (q * 3 + 2) (.slice y.ad y.ln y.cp)) := ⟨HSW.out, ⟨c0, hgw⟩, ⟨c1, hgw⟩, ⟨c2, hgw⟩, ⟨e0, hgw⟩, ⟨e1, hgw⟩, ⟨e2, hgw⟩⟩
          have HJ : Hid (j = q + 1 ∧ q = a + S0.length) := ⟨hjq, hq⟩
          clear hcm c0 c1 c2 e0 e1 e2 hgw HSW hjq hq hj
          by_cases hc : r < 0
          · have HLT : Hid (ltT x y) := Or.inl (hr.1 hc)
            clear hr
            go_wp2_with fail
            refine wp_region_keep HK.out (by kernel_rfl) (by kernel_rfl) (by first | exact HO.out | exact HK.out.drew HO.out) ?_
            intro C hin hout
            have HIN := hide3 hin
            have HOUT := hide3 hout
            clear hin hout HO
            repeat
              (with_reducible refine wpQuiet_step (fun K hK => ?_)
               go_simp
               first
                 | (refine hK _ ?_; clear hK K)
                 | (apply Exists.intro; refine ⟨fun w1 hC => ?_, hK _ ?_⟩; (focus ((first | (go_at_call 125; with_reducible exact callC HIN.out HOUT.out HK.out HCM.out w1 hC) | (exact rfl) | (obtain ⟨hsw, ⟨c0, hgw⟩, ⟨c1, _⟩, ⟨c2, _⟩, ⟨e0, _⟩, ⟨e1, _⟩, ⟨e2, _⟩⟩ := HOUT.out w1 hC; clear hC; go_simp; first | done | exact rfl)); done)); clear hK K))
            refine wpQuiet_nil ?_
            intro w10 hC
            have HO := hide3 (HOUT.out _ hC)
            clear hC HIN HOUT C
            obtain ⟨hsw, ⟨c0, hgw⟩, ⟨c1, _⟩, ⟨c2, _⟩, ⟨e0, _⟩, ⟨e1, _⟩, ⟨e2, _⟩⟩ := HO.out
            have HSW := hide3 hsw
            have hfr := fun i => World.ownsRow.frozenAt HSW.out.1.2 i
            clear hsw HO HK
            have HFIN : Hid (SW w B g n cap (P ++ S0 ++ x :: ((y :: S2) ++ X.drop (k + 1) ++ R)) ((((((w10.setCell ⟨g, j * 3, none⟩ (.string y.nm)).setCell ⟨g, j * 3 + 1, none⟩ (.int .i64 y.kd)).setCell ⟨g, j * 3 + 2, none⟩ (.slice y.ad y.ln y.cp)).setCell ⟨g, q * 3, none⟩ (.string x.nm)).setCell ⟨g, q * 3 + 1, none⟩ (.int .i64 x.kd)).setCell ⟨g, q * 3 + 2, none⟩ (.slice x.ad x.ln x.cp)).drew) := by
              have e := HSW.out.put (i := j) (j := q) (x := x) (y := y) hjn (by have := HJ.out; omega)
              have e2 : (((P ++ (S0 ++ [y]) ++ x :: (S2 ++ X.drop (k + 1) ++ R)).set j y).set q x) = P ++ S0 ++ x :: ((y :: S2) ++ X.drop (k + 1) ++ R) := by
                have hpl := HPA.out
                have e3 := swap_list (P ++ S0) (S2 ++ X.drop (k + 1) ++ R) x y
                rw [show (P ++ S0).length = q by rw [List.length_append]; have := HJ.out; omega, ← HJ.out.1] at e3
                simpa using e3
              rw [e2] at e
              exact keepSW _ _ _ _ _ _ _ _ e (Below.refl _ _).drew
            go_wp2_with fail
            go_region
            clear c0 c1 c2 e0 e1 e2 hfr
            generalize ((((((w10.setCell ⟨g, j * 3, none⟩ (.string y.nm)).setCell ⟨g, j * 3 + 1, none⟩ (.int .i64 y.kd)).setCell ⟨g, j * 3 + 2, none⟩ (.slice y.ad y.ln y.cp)).setCell ⟨g, q * 3, none⟩ (.string x.nm)).setCell ⟨g, q * 3 + 1, none⟩ (.int .i64 x.kd)).setCell ⟨g, q * 3 + 2, none⟩ (.slice x.ad x.ln x.cp)).drew = w11 at *
            go_wp2_with fail
            exact ⟨⟨q, S0, y :: S2, by go_num, HJ.out.2, by rw [HS.out]; simp, (fun z hz => by rcases List.mem_cons.1 hz with rfl | hz; exact HLT.out; exact HL2.out z hz), HFIN.out⟩, by simp [intOf]; omega⟩
          · have HLT : Hid (ltT y x) := ltT_not (Bool.eq_false_iff.2 fun e => hc (hr.2 e)) HTY.out
            clear hr
            go_wp2_with fail
            refine wp_region_keep HK.out (by kernel_rfl) (by kernel_rfl) (by first | exact HO.out | exact HK.out.drew HO.out) ?_
            intro C hin hout
            have HIN := hide3 hin
            have HOUT := hide3 hout
            clear hin hout HO
            repeat
              (with_reducible refine wpQuiet_step (fun K hK => ?_)
               go_simp
               first
                 | (refine hK _ ?_; clear hK K)
                 | (apply Exists.intro; refine ⟨fun w1 hC => ?_, hK _ ?_⟩; (focus ((first | (go_at_call 125; with_reducible exact callC HIN.out HOUT.out HK.out HCM.out w1 hC) | (exact rfl) | (obtain ⟨hsw, ⟨c0, hgw⟩, ⟨c1, _⟩, ⟨c2, _⟩, ⟨e0, _⟩, ⟨e1, _⟩, ⟨e2, _⟩⟩ := HOUT.out w1 hC; clear hC; go_simp; first | done | exact rfl)); done)); clear hK K))
            refine wpQuiet_nil ?_
            intro w10 hC
            have HO := hide3 (HOUT.out _ hC)
            clear hC HIN HOUT C
            obtain ⟨hsw, ⟨c0, hgw⟩, ⟨c1, _⟩, ⟨c2, _⟩, ⟨e0, _⟩, ⟨e1, _⟩, ⟨e2, _⟩⟩ := HO.out
            have HFIN : Hid (SW w B g n cap (P ++ ((S0 ++ [y]) ++ x :: S2) ++ X.drop (k + 1) ++ R) w10) := by
              unfold Hid
              simpa using hsw
            clear hsw HO HK c0 c1 c2 e0 e1 e2
            go_wp2_with fail
            exact ⟨⟨k + 1, (S0 ++ [y]) ++ x :: S2, (by have := HI.out; go_num), by omega, by omega, HPM.out _ _ HS.out, ins_sorted' (HS.out ▸ HPW.out) HL2.out (Or.inr ⟨S0, y, rfl, HLT.out⟩), HFIN.out⟩, by simp [intOf]; omega⟩
    · have hib : ¬ (i : Int) < (b : Int) := by have := HXL.out; have := HI.out; omega
      have HEND : Hid (S.Perm X ∧ SW w B g n cap (P ++ S ++ R) wr) := by
        have e1 := HPE.out
        have e2 := HSW.out
        rw [List.take_of_length_le (by omega)] at e1
        rw [List.drop_eq_nil_of_le (by omega), List.append_nil] at e2
        exact ⟨e1, e2⟩
      go_wp2_with fail
      go_end0
      exact ⟨rfl, S, HEND.out.1, HPW.out, by simpa using HEND.out.2⟩
end Go.Proofs.YtbjbhgkbnegfgaaGreatDoor
namespace Go.Proofs.YtbjbhgkbnegfgaaGreatDoor
open Go.RowKit Go.Maps Go.WideMaps
set_option maxRecDepth 100000

theorem swap_far {α : Type} (A M Z : List α) (u v : α) : ((A ++ u :: (M ++ v :: Z)).set A.length v).set (A.length + 1 + M.length) u = A ++ v :: (M ++ u :: Z) := by
  rw [List.set_append_right _ _ (Nat.le_refl _), Nat.sub_self, List.set_cons_zero, List.set_append_right _ _ (by omega)]
  have e : A.length + 1 + M.length - A.length = M.length + 1 := by omega
  rw [e, List.set_cons_succ, List.set_append_right _ _ (Nat.le_refl _), Nat.sub_self, List.set_cons_zero]

theorem nums_add {a i p n : Nat} (h : p = a + i) (hp : p < n) (hn : n ≤ 1000000000) : IntKind.i64.wrap ((a : Int) + (i : Int)) = (a : Int) + (i : Int) ∧ wrap64 ((a : Int) + (i : Int)) = (a : Int) + (i : Int) ∧ (0 : Int) ≤ (a : Int) + (i : Int) ∧ (a : Int) + (i : Int) < (n : Int) ∧ ((a : Int) + (i : Int)).toNat = p ∧ ¬ (a : Int) + (i : Int) < 0 := by
  refine ⟨?_, ?_, ?_, ?_, ?_, ?_⟩
  · simp [IntKind.wrap, IntKind.bits, IntKind.signed]; omega
  · unfold wrap64; omega
  all_goals omega

theorem far3 {p s : Nat} (h : p < s) : ¬ p * 3 = s * 3 ∧ ¬ s * 3 = p * 3 ∧ ¬ p * 3 = s * 3 + 1 ∧ ¬ s * 3 = p * 3 + 1 ∧ ¬ p * 3 = s * 3 + 2 ∧ ¬ s * 3 = p * 3 + 2 ∧ ¬ p * 3 + 1 = s * 3 ∧ ¬ s * 3 + 1 = p * 3 ∧ ¬ p * 3 + 1 = s * 3 + 1 ∧ ¬ s * 3 + 1 = p * 3 + 1 ∧ ¬ p * 3 + 1 = s * 3 + 2 ∧ ¬ s * 3 + 1 = p * 3 + 2 ∧ ¬ p * 3 + 2 = s * 3 ∧ ¬ s * 3 + 2 = p * 3 ∧ ¬ p * 3 + 2 = s * 3 + 1 ∧ ¬ s * 3 + 2 = p * 3 + 1 ∧ ¬ p * 3 + 2 = s * 3 + 2 ∧ ¬ s * 3 + 2 = p * 3 + 2 := by omega

/-- Under way: the first i are changed. -/
def midL (P U Q V R : List Wt) (i : Nat) : List Wt := P ++ V.take i ++ U.drop i ++ Q ++ U.take i ++ V.drop i ++ R
theorem midL_zero (P U Q V R : List Wt) : midL P U Q V R 0 = P ++ U ++ Q ++ V ++ R := by simp [midL]
theorem midL_end (P U Q V R : List Wt) {c : Nat} (hu : U.length = c) (hv : V.length = c) : midL P U Q V R c = P ++ V ++ Q ++ U ++ R := by
  unfold midL
  rw [List.take_of_length_le (by omega), List.drop_eq_nil_of_le (by omega), List.take_of_length_le (by omega), List.drop_eq_nil_of_le (by omega)]
  simp
theorem midL_at {P U Q V R : List Wt} {i c : Nat} (hu : U.length = c) (hv : V.length = c) (hi : i < c) : midL P U Q V R i = (P ++ V.take i) ++ U[i] :: ((U.drop (i + 1) ++ Q ++ U.take i) ++ V[i] :: (V.drop (i + 1) ++ R)) ∧ midL P U Q V R (i + 1) = (P ++ V.take i) ++ V[i] :: ((U.drop (i + 1) ++ Q ++ U.take i) ++ U[i] :: (V.drop (i + 1) ++ R)) := by
  unfold midL
  rw [List.drop_eq_getElem_cons (show i < U.length by omega), List.drop_eq_getElem_cons (show i < V.length by omega), List.take_succ_eq_append_getElem (show i < U.length by omega), List.take_succ_eq_append_getElem (show i < V.length by omega)]
  constructor <;> simp only [List.append_assoc, List.cons_append, List.nil_append]

set_option maxHeartbeats 12800000 in
theorem swapRange_any {w : World} {B g n cap a b c : Nat} {P U Q V R : List Wt} (hn : n ≤ 1000000000) (ha : P.length = a) (hb : a + U.length + Q.length = b) (hu : U.length = c) (hv : V.length = c) (h : RowW w B g n cap (P ++ U ++ Q ++ V ++ R)) :
    Calls Tryz.prog 260 #[.slice (some ⟨g, 0, none⟩) n cap, .int .i64 a, .int .i64 b, .int .i64 c, .func (.func 125) #[] #[]] w fun e w' => e = .returned (.tuple #[]) ∧ SW w B g n cap (P ++ V ++ Q ++ U ++ R) w' := by
  have HLN : Hid (b + c ≤ n ∧ a + c ≤ b) := by
    have e := h.1
    simp only [List.length_append] at e
    exact ⟨by omega, by omega⟩
  have hcn : c ≤ n := by have := HLN.out; omega
  have HS0 : Hid (SW w B g n cap (midL P U Q V R 0) w) := ⟨by rw [midL_zero]; exact h, ⟨rfl, rfl, rfl, Nat.le_refl _, fun _ _ _ => rfl⟩⟩
  have HEND : Hid (∀ wx, SW w B g n cap (midL P U Q V R c) wx → SW w B g n cap (P ++ V ++ Q ++ U ++ R) wx) := fun wx hx => by rw [midL_end P U Q V R hu hv] at hx; exact hx
  generalize hG : SW w B g n cap (P ++ V ++ Q ++ U ++ R) = G at *
  have HST : Hid (∀ i (hi : i < c), ∃ u v, (midL P U Q V R i)[a + i]? = some u ∧ (midL P U Q V R i)[b + i]? = some v ∧ ((midL P U Q V R i).set (a + i) v).set (b + i) u = midL P U Q V R (i + 1)) := fun i hi => by
    obtain ⟨e1, e2⟩ := midL_at (P := P) (Q := Q) (R := R) hu hv hi
    refine ⟨U[i], V[i], ?_, ?_, ?_⟩
    · rw [e1, List.getElem?_append_right (by simp; omega)]
      have e : a + i - (P ++ V.take i).length = 0 := by simp; omega
      rw [e]
      rfl
    · rw [e1, List.getElem?_append_right (by simp; omega)]
      have e : b + i - (P ++ V.take i).length = (U.drop (i + 1) ++ Q ++ U.take i).length + 1 := by simp; omega
      rw [e, List.getElem?_cons_succ, List.getElem?_append_right (Nat.le_refl _), Nat.sub_self]
      rfl
    · rw [e1, e2]
      have e3 := swap_far (P ++ V.take i) (U.drop (i + 1) ++ Q ++ U.take i) (V.drop (i + 1) ++ R) U[i] V[i]
      rw [show (P ++ V.take i).length = a + i by simp; omega, show a + i + 1 + (U.drop (i + 1) ++ Q ++ U.take i).length = b + i by simp; omega] at e3
      exact e3
  clear h hG ha hb hu hv
  generalize midL P U Q V R = mid at *
  go_enter Tryz.func260, Tryz.ntmps260
  go_wp2_with fail
  go_loopw [10] (fun vi wr => ∃ i : Nat, i ≤ c ∧ vi = .int .i64 i ∧ SW w B g n cap (mid i) wr) (fun vi _ => c - (intOf vi).toNat)
  case atStart => exact ⟨0, Nat.zero_le _, rfl, HS0.out⟩
  case round =>
    obtain ⟨i, hi, rfl, hsw⟩ := hrel
    have HSW := hide3 hsw
    clear hsw
    by_cases hlt : i < c
    · have hic : (i : Int) < (c : Int) := by omega
      obtain ⟨u, v, hu1, hv1, hst⟩ := HST.out i hlt
      obtain ⟨p, hp⟩ : ∃ p, p = a + i := ⟨_, rfl⟩
      obtain ⟨s, hs⟩ : ∃ s, s = b + i := ⟨_, rfl⟩
      rw [← hp] at hu1 hst
      rw [← hs] at hv1 hst
      have HNp : Hid (p = a + i ∧ p < n) := ⟨hp, by have := HLN.out; omega⟩
      have HNs : Hid (s = b + i ∧ s < n) := ⟨hs, by have := HLN.out; omega⟩
      have HPS : Hid (p < s) := (by have := HNp.out; have := HNs.out; have := HLN.out; show p < s; omega)
      obtain ⟨c0, c1, c2⟩ := HSW.out.1.cells hu1
      obtain ⟨e0, e1, e2⟩ := HSW.out.1.cells hv1
      have hfr := fun i => World.ownsRow.frozenAt HSW.out.1.2 i
      clear hp hs hu1 hv1
      obtain ⟨hp1, hp2, hp3, hp4, hp5, hp6⟩ := nums_add HNp.out.1 HNp.out.2 hn
      obtain ⟨hs1, hs2, hs3, hs4, hs5, hs6⟩ := nums_add HNs.out.1 HNs.out.2 hn
      have HFIN : Hid (SW w B g n cap (mid (i + 1)) ((((((wr.setCell ⟨g, p * 3, none⟩ (.string v.nm)).setCell ⟨g, p * 3 + 1, none⟩ (.int .i64 v.kd)).setCell ⟨g, p * 3 + 2, none⟩ (.slice v.ad v.ln v.cp)).setCell ⟨g, s * 3, none⟩ (.string u.nm)).setCell ⟨g, s * 3 + 1, none⟩ (.int .i64 u.kd)).setCell ⟨g, s * 3 + 2, none⟩ (.slice u.ad u.ln u.cp)).drew) := by
        have e := HSW.out.put (i := p) (j := s) (x := u) (y := v) HNp.out.2 HNs.out.2
        rw [hst] at e
        exact keepSW _ _ _ _ _ _ _ _ e (Below.refl _ _).drew
      clear hst
      have hps : p < s := HPS.out
      obtain ⟨hd00, he00, hd01, he01, hd02, he02, hd10, he10, hd11, he11, hd12, he12, hd20, he20, hd21, he21, hd22, he22⟩ := far3 hps
      go_wp2_with fail
      go_region
      clear hp1 hp2 hp3 hp4 hp5 hp6 hs1 hs2 hs3 hs4 hs5 hs6 hps c0 c1 c2 e0 e1 e2 hfr hd00 he00 hd01 he01 hd02 he02 hd10 he10 hd11 he11 hd12 he12 hd20 he20 hd21 he21 hd22 he22
      generalize ((((((wr.setCell ⟨g, p * 3, none⟩ (.string v.nm)).setCell ⟨g, p * 3 + 1, none⟩ (.int .i64 v.kd)).setCell ⟨g, p * 3 + 2, none⟩ (.slice v.ad v.ln v.cp)).setCell ⟨g, s * 3, none⟩ (.string u.nm)).setCell ⟨g, s * 3 + 1, none⟩ (.int .i64 u.kd)).setCell ⟨g, s * 3 + 2, none⟩ (.slice u.ad u.ln u.cp)).drew = w11 at *
      go_wp2_with fail
      exact ⟨⟨i + 1, by omega, by go_num, HFIN.out⟩, by simp [intOf]; omega⟩
    · obtain rfl : i = c := by omega
      have hic : ¬ (i : Int) < (i : Int) := by omega
      go_wp2_with fail
      go_end0
      exact ⟨rfl, HEND.out _ HSW.out⟩
end Go.Proofs.YtbjbhgkbnegfgaaGreatDoor
namespace Go.Proofs.YtbjbhgkbnegfgaaGreatDoor
open Go.RowKit Go.Maps Go.WideMaps
set_option maxRecDepth 100000

theorem nums_sub {a i : Nat} (h : i ≤ a) (hn : a ≤ 2000000000) : IntKind.i64.wrap ((a : Int) - (i : Int)) = (a : Int) - (i : Int) ∧ wrap64 ((a : Int) - (i : Int)) = (a : Int) - (i : Int) := by
  refine ⟨?_, ?_⟩
  · simp [IntKind.wrap, IntKind.bits, IntKind.signed]; omega
  · unfold wrap64; omega
theorem nums_i64 {x : Int} (h0 : 0 ≤ x) (h1 : x ≤ 4000000000) : IntKind.i64.wrap x = x ∧ wrap64 x = x := by
  refine ⟨?_, ?_⟩
  · simp [IntKind.wrap, IntKind.bits, IntKind.signed]; omega
  · unfold wrap64; omega

theorem SW.then {w W w' : World} {B g n cap : Nat} {xs ys : List Wt} (h : SW w B g n cap xs W) (h' : SW W B g n cap ys w') : SW w B g n cap ys w' := ⟨h'.1, h.2.trans h'.2⟩

theorem swapR {w W : World} {B g n cap : Nat} {P U Q V R : List Wt} (hn : n ≤ 1000000000) (ai bi ci : Int) (ha : ai = P.length) (hb : bi = (P.length + U.length + Q.length : Nat)) (hc : ci = U.length) (hv : V.length = U.length) (h : SW w B g n cap (P ++ U ++ Q ++ V ++ R) W) :
    Calls Tryz.prog 260 #[.slice (some ⟨g, 0, none⟩) n cap, .int .i64 ai, .int .i64 bi, .int .i64 ci, .func (.func 125) #[] #[]] W fun e w' => e = .returned (.tuple #[]) ∧ SW w B g n cap (P ++ V ++ Q ++ U ++ R) w' := by
  subst ha hb hc
  exact (swapRange_any hn rfl rfl rfl hv h.1).mono fun e w' q => ⟨q.1, h.then q.2⟩

theorem halves {α : Type} (l : List α) {k : Nat} (h : k ≤ l.length) : ∃ a b, l = a ++ b ∧ a.length = k ∧ b.length = l.length - k := ⟨l.take k, l.drop k, (List.take_append_drop k l).symm, by rw [List.length_take]; omega, List.length_drop⟩

set_option maxHeartbeats 12800000 in
theorem rotate_any {w : World} {B g n cap a m b : Nat} {P X Y R : List Wt} (hn : n ≤ 1000000000) (ha : P.length = a) (hm : a + X.length = m) (hb : m + Y.length = b) (hx : X ≠ []) (hy : Y ≠ []) (h : RowW w B g n cap (P ++ X ++ Y ++ R)) :
    Calls Tryz.prog 253 #[.slice (some ⟨g, 0, none⟩) n cap, .int .i64 a, .int .i64 m, .int .i64 b, .func (.func 125) #[] #[]] w fun e w' => e = .returned (.tuple #[]) ∧ SW w B g n cap (P ++ Y ++ X ++ R) w' := by
  have hbn : b ≤ n := by
    have e := h.1
    simp only [List.length_append] at e
    omega
  have hmb : m < b := by have := List.length_pos_iff.2 hy; omega
  have ham : a < m := by have := List.length_pos_iff.2 hx; omega
  have HS0 : Hid (SW w B g n cap (P ++ [] ++ X ++ Y ++ [] ++ R) w) := ⟨by simpa using h, ⟨rfl, rfl, rfl, Nat.le_refl _, fun _ _ _ => rfl⟩⟩
  have HLN : Hid (P.length = a ∧ X.length = m - a ∧ Y.length = b - m) := ⟨ha, by omega, by omega⟩
  have HSR : Hid (∀ (W : World) (P' U Q V R' : List Wt) (ai bi ci : Int), ai = P'.length → bi = (P'.length + U.length + Q.length : Nat) → ci = U.length → V.length = U.length → SW w B g n cap (P' ++ U ++ Q ++ V ++ R') W → Calls Tryz.prog 260 #[.slice (some ⟨g, 0, none⟩) n cap, .int .i64 ai, .int .i64 bi, .int .i64 ci, .func (.func 125) #[] #[]] W fun e w' => e = .returned (.tuple #[]) ∧ SW w B g n cap (P' ++ V ++ Q ++ U ++ R') w') := fun W P' U Q V R' ai bi ci h1 h2 h3 h4 h5 => swapR hn ai bi ci h1 h2 h3 h4 h5
  generalize hG : SW w B g n cap (P ++ Y ++ X ++ R) = G at *
  have HG := hide3 hG
  clear h ha hm hb hx hy hG
  have HK1 := hide3 (nums_sub (a := m) (i := a) (by omega) (by omega))
  have HK3 := hide3 (nums_sub (a := b) (i := m) (by omega) (by omega))
  obtain ⟨k1, k2⟩ := HK1.out
  obtain ⟨k3, k4⟩ := HK3.out
  go_enter Tryz.func253, Tryz.ntmps253
  go_wp2_with fail
  clear k1 k2 k3 k4
  go_loopw [10, 11] (fun vi vj wr => ∃ (i j : Nat) (C U V E : List Wt), vi = .int .i64 i ∧ vj = .int .i64 j ∧ (U.length = i ∧ V.length = j ∧ P.length + C.length + i = m ∧ m + j ≤ n) ∧ 1 ≤ i ∧ 1 ≤ j ∧ C ++ V ++ U ++ E = Y ++ X ∧ SW w B g n cap (P ++ C ++ U ++ V ++ E ++ R) wr) (fun vi vj _ => (intOf vi).toNat + (intOf vj).toNat)
  case atStart => exact ⟨m - a, b - m, [], X, Y, [], by congr 1; omega, by congr 1; omega, ⟨HLN.out.2.1, HLN.out.2.2, by have := HLN.out.1; simp; omega, by omega⟩, by omega, by omega, by simp, HS0.out⟩
  case round =>
    obtain ⟨i, j, C, U, V, E, rfl, rfl, hln, hi1, hj1, heq, hsw⟩ := hrel
    have HL := hide3 hln
    have HEQ := hide3 heq
    have HSW := hide3 hsw
    have him : i ≤ m := by have := hln.2.2.1; omega
    have hjn : m + j ≤ n := hln.2.2.2
    clear hln heq hsw
    have HS1 := hide3 (nums_sub (a := m) (i := i) (by omega) (by omega))
    by_cases hij : i = j
    · subst hij
      have hne : ¬ (i : Int) ≠ (i : Int) := fun q => q rfl
      have HC : Hid (Calls Tryz.prog 260 #[.slice (some ⟨g, 0, none⟩) n cap, .int .i64 ((m : Int) - (i : Int)), .int .i64 m, .int .i64 i, .func (.func 125) #[] #[]] wr fun e w' => e = .returned (.tuple #[]) ∧ G w') := by
        have hl := HL.out
        refine (HSR.out wr (P ++ C) U [] V (E ++ R) _ _ _ ?_ ?_ ?_ ?_ ?_).mono ?_
        · rw [List.length_append]; omega
        · simp only [List.length_append, List.length_nil]; omega
        · omega
        · omega
        · have e := HSW.out
          simpa using e
        · rintro e w' ⟨h1, h2⟩
          refine ⟨h1, ?_⟩
          rw [← HG.out]
          have e : P ++ C ++ V ++ [] ++ U ++ (E ++ R) = P ++ (C ++ V ++ U ++ E) ++ R := by simp
          rw [e, HEQ.out] at h2
          simpa using h2
      obtain ⟨s1, s2⟩ := HS1.out
      go_wp2_with (go_at_call 260; refine HC.out.mono ?_; rintro e w1 ⟨rfl, hg⟩; have HGF := hide3 hg; clear hg)
      go_end0
      exact ⟨rfl, HGF.out⟩
    · have hne : (i : Int) ≠ (j : Int) := by omega
      by_cases hgt : j < i
      · have hgi : (j : Int) < (i : Int) := by omega
        obtain ⟨UA, UB, hU, hUA, hUB⟩ := halves U (k := j) (by have := HL.out; omega)
        have HT1 := hide3 (nums_sub (a := i) (i := j) (by omega) (by omega))
        have HC : Hid (Calls Tryz.prog 260 #[.slice (some ⟨g, 0, none⟩) n cap, .int .i64 ((m : Int) - (i : Int)), .int .i64 m, .int .i64 j, .func (.func 125) #[] #[]] wr fun e w' => e = .returned (.tuple #[]) ∧ SW w B g n cap (P ++ (C ++ V) ++ UB ++ UA ++ E ++ R) w') := by
          have hl := HL.out
          refine (HSR.out wr (P ++ C) UA UB V (E ++ R) _ _ _ ?_ ?_ ?_ ?_ ?_).mono ?_
          · rw [List.length_append]; omega
          · simp only [List.length_append]; omega
          · omega
          · omega
          · have e := HSW.out
            rw [hU] at e
            simpa using e
          · rintro e w' ⟨h1, h2⟩
            exact ⟨h1, by simpa using h2⟩
        have HNW : Hid ((UB.length = i - j ∧ UA.length = j ∧ P.length + (C ++ V).length + (i - j) = m ∧ m + j ≤ n) ∧ C ++ V ++ UA ++ UB ++ E = Y ++ X) := by
          have hl := HL.out
          refine ⟨⟨by omega, hUA, by rw [List.length_append]; omega, by omega⟩, ?_⟩
          rw [← HEQ.out, hU]
          simp
        clear hU hUA hUB
        obtain ⟨s1, s2⟩ := HS1.out
        obtain ⟨t1, t2⟩ := HT1.out
        go_wp2_with (go_at_call 260; refine HC.out.mono ?_; rintro e w1 ⟨rfl, hg⟩; have HGF := hide3 hg; clear hg)
        clear s1 s2 t1 t2
        exact ⟨⟨i - j, j, C ++ V, UB, UA, E, by congr 1; omega, rfl, HNW.out.1, by omega, hj1, HNW.out.2, HGF.out⟩, by simp [intOf]; omega⟩
      · have hgi : ¬ (j : Int) < (i : Int) := by omega
        obtain ⟨VA, VB, hV, hVA, hVB⟩ := halves V (k := j - i) (by have := HL.out; omega)
        have HT1 := hide3 (nums_sub (a := j) (i := i) (by omega) (by omega))
        have HT3 := hide3 (nums_i64 (x := (m : Int) + (j : Int)) (by omega) (by omega))
        have HT5 := hide3 (nums_i64 (x := (m : Int) + (j : Int) - (i : Int)) (by omega) (by omega))
        have HC : Hid (Calls Tryz.prog 260 #[.slice (some ⟨g, 0, none⟩) n cap, .int .i64 ((m : Int) - (i : Int)), .int .i64 ((m : Int) + (j : Int) - (i : Int)), .int .i64 i, .func (.func 125) #[] #[]] wr fun e w' => e = .returned (.tuple #[]) ∧ SW w B g n cap (P ++ C ++ VB ++ VA ++ (U ++ E) ++ R) w') := by
          have hl := HL.out
          refine (HSR.out wr (P ++ C) U VA VB (E ++ R) _ _ _ ?_ ?_ ?_ ?_ ?_).mono ?_
          · rw [List.length_append]; omega
          · simp only [List.length_append]; omega
          · omega
          · omega
          · have e := HSW.out
            rw [hV] at e
            simpa using e
          · rintro e w' ⟨h1, h2⟩
            exact ⟨h1, by simpa using h2⟩
        have HNW : Hid ((VB.length = i ∧ VA.length = j - i ∧ P.length + C.length + i = m ∧ m + (j - i) ≤ n) ∧ C ++ VA ++ VB ++ (U ++ E) = Y ++ X) := by
          have hl := HL.out
          refine ⟨⟨by omega, hVA, by omega, by omega⟩, ?_⟩
          rw [← HEQ.out, hV]
          simp
        clear hV hVA hVB
        obtain ⟨s1, s2⟩ := HS1.out
        obtain ⟨t1, t2⟩ := HT1.out
        obtain ⟨t3, t4⟩ := HT3.out
        obtain ⟨t5, t6⟩ := HT5.out
        go_wp2_with (go_at_call 260; refine HC.out.mono ?_; rintro e w1 ⟨rfl, hg⟩; have HGF := hide3 hg; clear hg)
        clear s1 s2 t1 t2 t3 t4 t5 t6
        exact ⟨⟨i, j - i, C, VB, VA, U ++ E, rfl, by congr 1; omega, HNW.out.1, hi1, by omega, HNW.out.2, HGF.out⟩, by simp [intOf]; omega⟩
end Go.Proofs.YtbjbhgkbnegfgaaGreatDoor
