/- The document's line and Lines. -/
import Derived.Test.YtefcndfeemnglaaDoorScRf1
namespace Go.Proofs.YtefcndfeemnglaaDoor.Sc
open Go.RowKit
set_option maxRecDepth 100000

theorem cutF_len (b : UInt8) : ∀ (t c : Bs), (cutF b c t).length ≤ t.length + 1
  | [], c => by simp [cutF]
  | x :: r, c => by
    by_cases hx : x = b
    · subst hx; rw [cutF_hit]; have := cutF_len x r []; simp; omega
    · rw [cutF_go hx]; have := cutF_len b r (c ++ [x]); simp; omega
theorem cutF_size (b : UInt8) : ∀ (t c : Bs), ∀ p ∈ cutF b c t, p.length ≤ c.length + t.length
  | [], c, p, hp => by simp [cutF] at hp; subst hp; simp
  | x :: r, c, p, hp => by
    by_cases hx : x = b
    · subst hx
      rw [cutF_hit] at hp
      rcases List.mem_cons.1 hp with rfl | hp
      · simp
      · have := cutF_size x r [] p hp; simp at *; omega
    · rw [cutF_go hx] at hp
      have := cutF_size b r (c ++ [x]) p hp
      simp at *; omega
theorem lineR_isW {s : Bs} : (lineR s).isSome = (cutF 32 [] s).all isW := by unfold lineR; split <;> simp_all
theorem lineR_some {s : Bs} (h : (cutF 32 [] s).all isW = true) : lineR s = some (cutF 32 [] s) := by unfold lineR; rw [if_pos h]
theorem lineR_none {s : Bs} (h : (cutF 32 [] s).all isW = false) : lineR s = none := by unfold lineR; rw [if_neg (by rw [h]; simp)]

def okW (P : List Bs) : List Bs := if P.all isW = true then P else []
theorem okW_yes {P : List Bs} (h : P.all isW = true) : okW P = P := by unfold okW; rw [if_pos h]
theorem okW_no {P : List Bs} (h : P.all isW = false) : okW P = [] := by unfold okW; rw [if_neg (by rw [h]; simp)]

set_option maxHeartbeats 3200000 in
theorem line_walk (s : ByteArray) (P : List Bs) (hP : P.length ≤ 1000000000) (w : World)
    (HS : Hid (Calls Tryd.prog 45 #[.string s, .int .u8 32] w fun e w' => ∃ v, e = .returned v ∧ OwnW w' w.heap.size v P ∧ Below w.heap.size w w'))
    (HI : Hid (∀ p ∈ P, ∀ w1, Calls Tryd.prog 56 #[.string (ba p)] w1 fun e w' => e = .returned (.bool (isW p)) ∧ Below w1.heap.size w1 w')) :
    Calls Tryd.prog 46 #[.string s] w fun e w' => ∃ v, e = .returned (.tuple #[v, .bool (P.all isW)]) ∧ OwnW w' w.heap.size v (okW P) ∧ Below w.heap.size w w' := by
  go_enter Tryd.func46, Tryd.ntmps46
  go_wp2_with (go_at_call 45; refine HS.out.mono ?_; rintro e w2 ⟨v2, rfl, ho2, hb2⟩; have HO := hide3 ho2; have HB := hide3 hb2; clear HS ho2 hb2)
  go_loopw [5] (fun i wr => ∃ k : Nat, k ≤ P.length ∧ i = .int .i64 k ∧ (P.take k).all isW = true ∧ OwnW wr w.heap.size v2 P ∧ Below w.heap.size w wr) (fun i _ => P.length - (intOf i).toNat)
  case atStart => exact ⟨0, Nat.zero_le _, rfl, rfl, HO.out, HB.out⟩
  case round =>
    obtain ⟨k, hk, rfl, hal, hor, hbr⟩ := hrel
    have HA := hide3 hal
    have HOR := hide3 hor
    have HBR := hide3 hbr
    clear hal hbr HO HB
    obtain ⟨ad, cap, rfl, hcap, hl⟩ := hor.at
    clear hor
    by_cases hlt : k < P.length
    · obtain ⟨g, o, rfl, hg, hc⟩ : ∃ g o, ad = some ⟨g, o, none⟩ ∧ g < wr.heap.size ∧ ∀ i (h : i < P.length), wr.cell? ⟨g, o + i, none⟩ = some (.string (ba P[i])) := by
        rcases hl with rfl | h
        · simp at hlt
        · exact h
      have hcell := hc k hlt
      have HIk := hide3 (HI.out P[k] (List.getElem_mem hlt))
      have htk : P.take (k + 1) = P.take k ++ [P[k]] := List.take_succ_eq_append_getElem hlt
      have hmem := List.getElem_mem hlt
      clear hc hl
      cases hw : isW P[k]
      · have HR : Hid (P.all isW = false) := by
          unfold Hid
          rw [Bool.eq_false_iff]
          intro h
          rw [List.all_eq_true] at h
          have := h _ hmem
          rw [hw] at this; cases this
        rw [hw] at HIk
        clear hw htk hmem
        generalize ba P[k] = x at *
        go_wp2_with (go_at_call 56; refine (HIk.out _).mono ?_; rintro e w3 ⟨rfl, hb3⟩; have HB3 := hide3 hb3; clear hb3)
        go_ret2
        exact ⟨.slice none 0 0, by rw [HR.out]; rfl, by rw [okW_no HR.out]; exact OwnW.nil _ _, below_then HBR.out HB3.out⟩
      · have HA2 : Hid ((P.take (k + 1)).all isW = true) := by unfold Hid; rw [htk, List.all_append, HA.out]; simp [hw]
        rw [hw] at HIk
        clear hw htk hmem
        generalize ba P[k] = x at *
        go_wp2_with (go_at_call 56; refine (HIk.out _).mono ?_; rintro e w3 ⟨rfl, hb3⟩; have HB3 := hide3 hb3; clear hb3)
        exact ⟨⟨k + 1, by omega, by go_num, HA2.out, HOR.out.below HB3.out, below_then HBR.out HB3.out⟩, by simp [intOf]; omega⟩
    · have hke : k = P.length := by omega
      subst hke
      have HR : Hid (P.all isW = true) := by have := HA.out; rw [List.take_length] at this; exact this
      clear hl
      go_wp2
      go_ret2
      exact ⟨.slice ad P.length cap, by rw [HR.out]; rfl, by rw [okW_yes HR.out]; exact HOR.out, HBR.out⟩

theorem line_any (s : ByteArray) (hs : s.size ≤ 4194304) (w : World) :
    Calls Tryd.prog 46 #[.string s] w fun e w' => ∃ v, e = .returned (.tuple #[v, .bool (lineR s.data.toList).isSome]) ∧ OwnW w' w.heap.size v ((lineR s.data.toList).getD []) ∧ Below w.heap.size w w' := by
  have hl := cutF_len 32 s.data.toList []
  rw [list_size] at hl
  have := line_walk s (cutF 32 [] s.data.toList) (by omega) w (split_walk s 32 hs w) (fun p hp w1 => by
    have hz := cutF_size 32 s.data.toList [] p hp
    rw [list_size] at hz
    have h := isWord_any (ba p) (by rw [ba_size]; simp at hz; omega) w1
    rw [ba_list] at h
    exact h)
  rw [lineR_isW]
  have e : (lineR s.data.toList).getD [] = okW (cutF 32 [] s.data.toList) := by unfold lineR okW; split <;> rfl
  rw [e]
  exact this

theorem own_some {w : World} {B : Nat} {v : Value} {ws : List Bs} (h : OwnW w B v ws) (hne : ws ≠ []) : ∃ g cap, v = .slice (some ⟨g, 0, none⟩) ws.length cap := by
  rcases h.2 with ⟨_, h0⟩ | ⟨g, cap, cur, rfl, _⟩
  · exact absurd (List.eq_nil_of_length_eq_zero h0) hne
  · exact ⟨g, cap, rfl⟩
theorem row_mono {w : World} {base base' : Nat} {e : TypeId} {size : Nat} {v : Value} {n : Nat} {xs : List Value} (h : w.ownsRow base e size v n xs) (hb : base' ≤ base) : w.ownsRow base' e size v n xs := by
  refine ⟨h.1, ?_⟩
  rcases h.2 with hn | ⟨g, cap, cur, hv, hB, r⟩
  · exact Or.inl hn
  · exact Or.inr ⟨g, cap, cur, hv, Nat.le_trans hb hB, r⟩
theorem LL.base {w : World} {B C : Nat} {vl : Value} {ps : List (Value × List Bs)} (h : LL w B vl ps) (hc : C ≤ B) : LL w C vl ps :=
  ⟨row_mono h.1 hc, fun p hp => ⟨row_mono (h.2.1 p hp).1 hc, (h.2.1 p hp).2⟩, h.2.2.1, h.2.2.2⟩
/-- A list of one's own that came of a call. -/
theorem St.take {w0 : World} {vl vw : Value} {ps : List (Value × List Bs)} {ws : List Bs} {w w' : World} (h : St w0 vl (.slice none 0 0) ps [] w) (ho : OwnW w' w.heap.size vw ws) (hb : Below w.heap.size w w') : St w0 vl vw ps ws w' := by
  obtain ⟨h1, h2, h3, h4, h5⟩ := h
  have hs := h5.size
  refine ⟨h1.below hb, row_mono ho hs, ?_, ?_, below_then h5 hb⟩
  · intro p hp e
    obtain ⟨g, hg⟩ := (h1.2.1 p hp).1.block (h1.2.1 p hp).2
    rw [hg] at e
    have a := (World.ownsRow.lt ho g e).1
    have b := (World.ownsRow.lt (h1.2.1 p hp).1 g hg).2
    omega
  · cases hv : vw.ownBlock with
    | none => exact Or.inl rfl
    | some g =>
      refine Or.inr fun e => ?_
      have a := (World.ownsRow.lt ho g hv).1
      have b := (World.ownsRow.lt h1.1 g e.symm).2
      omega

theorem ref_more {P : List Bs} {k : Nat} (h : k + 1 < P.length) (ls : List (List Bs)) : refR ls (P.drop k) = match lineR (P[k]'(by omega)) with | none => .error (ls.length + 1) | some w => refR (ls ++ [w]) (P.drop (k + 1)) := by
  have h1 : P.drop k = P[k]'(by omega) :: P.drop (k + 1) := List.drop_eq_getElem_cons (by omega)
  have h2 : P.drop (k + 1) = P[k + 1] :: P.drop (k + 1 + 1) := List.drop_eq_getElem_cons h
  rw [h1, h2]
  rfl
theorem ref_last {P : List Bs} {k : Nat} (h : k < P.length) (h2 : ¬ k + 1 < P.length) (ls : List (List Bs)) : refR ls (P.drop k) = if P[k] = [] then .ok ls else .error (ls.length + 1) := by
  have h1 : P.drop k = P[k]'(by omega) :: P.drop (k + 1) := List.drop_eq_getElem_cons (by omega)
  rw [h1, List.drop_of_length_le (by omega : P.length ≤ k + 1)]
  rfl

set_option maxHeartbeats 6400000 in
theorem rLines_walk (t : ByteArray) (most : Int) (hm : ¬ most < (t.size : Int)) (P : List Bs) (hP : P.length ≤ 4194305) (hP0 : P ≠ []) (w : World)
    (HS : Hid (Calls Tryd.prog 45 #[.string t, .int .u8 10] w fun e w' => ∃ v, e = .returned v ∧ OwnW w' w.heap.size v P ∧ Below w.heap.size w w'))
    (HI : Hid (∀ p ∈ P, ∀ w1, Calls Tryd.prog 46 #[.string (ba p)] w1 fun e w' => ∃ v, e = .returned (.tuple #[v, .bool (lineR p).isSome]) ∧ OwnW w' w1.heap.size v ((lineR p).getD []) ∧ Below w1.heap.size w1 w')) :
    Calls Tryd.prog 27 #[.string t, .int .i64 most] w (LinesP w (refR [] P)) := by
  obtain ⟨R, hR⟩ : ∃ R, R = refR [] P := ⟨_, rfl⟩
  rw [← hR]
  have HR := hide3 hR
  clear hR
  obtain ⟨i1, hj, hy0, hy1, hy2⟩ := info_parts infoStrs
  have hpos : 0 < P.length := List.length_pos_iff.2 hP0
  go_enter Tryd.func27, Tryd.ntmps27
  go_wp2_with (go_at_call 45; refine HS.out.mono ?_; rintro e w2 ⟨v2, rfl, ho2, hb2⟩; have HO := hide3 ho2; have HB := hide3 hb2; clear HS ho2 hb2)
  go_loopw [7, 9] (fun vl i wr => ∃ (k : Nat) (ps : List (Value × List Bs)), k < P.length ∧ i = .int .i64 k ∧ ps.length = k ∧ St w2 vl (.slice none 0 0) ps [] wr ∧ R = refR (ps.map (·.2)) (P.drop k)) (fun _ i _ => P.length - (intOf i).toNat)
  case atStart => exact ⟨0, [], hpos, rfl, rfl, St.start _, HR.out⟩
  case round =>
    obtain ⟨k, ps, hk, rfl, hpl, hst, hrr⟩ := hrel
    have HST := hide3 hst
    have HRR := hide3 hrr
    have HOR := hide3 (HO.out.below hst.2.2.2.2)
    clear hrr hst
    have hzz := HB.out.size
    obtain ⟨ad, cap, rfl, hcap, hl⟩ := HOR.out.at
    obtain ⟨g, o, rfl, hg, hc⟩ : ∃ g o, ad = some ⟨g, o, none⟩ ∧ g < wr.heap.size ∧ ∀ i (h : i < P.length), wr.cell? ⟨g, o + i, none⟩ = some (.string (ba P[i])) := by
      rcases hl with rfl | h
      · simp at hk
      · exact h
    clear hl
    have hcell := hc k hk
    by_cases hlt : k + 1 < P.length
    · have HIk := hide3 (HI.out P[k] (List.getElem_mem hk) wr)
      have hmore := ref_more hlt (ps.map (·.2))
      clear hc
      cases hw : lineR P[k] with
      | none =>
        have HX : Hid (R = .error (k + 1)) := by unfold Hid; rw [HRR.out, hmore, hw]; simp [hpl]
        rw [hw] at HIk
        simp only [Option.isSome_none, Option.getD_none] at HIk
        clear hmore hw
        generalize ba P[k] = x at *
        go_wp2_with (go_at_call 46; refine HIk.out.mono ?_; rintro e w3 ⟨v3, rfl, ho3, hb3⟩; have HB3 := hide3 hb3; clear hb3 ho3)
        go_ret3
        exact LinesP.no HX.out (below_then HB.out (below_then HST.out.2.2.2.2 HB3.out))
      | some ws =>
        have HX : Hid (R = refR ((ps.map (·.2)) ++ [ws]) (P.drop (k + 1)) ∧ ws ≠ []) := by
          refine ⟨by rw [HRR.out, hmore, hw], ?_⟩
          unfold lineR at hw
          split at hw
          · cases hw; exact cutF_ne _ _ _
          · cases hw
        rw [hw] at HIk
        simp only [Option.isSome_some, Option.getD_some] at HIk
        clear hmore hw
        generalize ba P[k] = x at *
        go_wp2_with (first
          | (go_at_call 46; refine HIk.out.mono ?_; rintro e w3 ⟨v3, rfl, ho3, hb3⟩; have HS3 : Hid (St w2 u7 v3 ps ws w3) := HST.out.take ho3 hb3; obtain ⟨g3, cap3, rfl⟩ := own_some ho3 HX.out.2; clear hb3 ho3)
          | (have _h := HS3; at_builtin; refine wpList_append_own_at _ rfl _ _ 35 rfl w2.heap.size 34 i1 _ 1 24 Tryd.underlying35 hj hy0 hy1 hy2 rfl (by decide) _ _ _ rfl (HS3.out.1.1.alloc _) ⟨w3.heap.size, 0, none⟩ 1 1 [.slice (some ⟨g3, 0, none⟩) ws.length cap3] rfl rfl (cell_one_new _ _ _) (by simp [Value.oneCell']) (by unfold maxLen; omega) (by omega) (by have := HS3.out.2.2.2.2.size; simp; omega) ?_; intro v4 w4 hown4 hg4 hnil4 hat4; have HS4 : Hid (St w2 v4 (.slice none 0 0) (ps ++ [(.slice (some ⟨g3, 0, none⟩) ws.length cap3, ws)]) [] w4) := St.line (HS3.out.below (boxB _ _)) HX.out.2 hown4 hg4 hat4; clear hown4 hg4 hnil4 hat4 HS3; go_frame))
        exact ⟨⟨k + 1, _, hlt, by go_num, by simp [hpl], HS4.out, by rw [List.map_append]; exact HX.out.1⟩, by simp [intOf]; omega⟩
    · have hlast := ref_last hk hlt (ps.map (·.2))
      have hk1 : (P.length : Int) - 1 = (k : Int) := by omega
      have hkl : P.length = k + 1 := by omega
      have e1 : (ba P[k]).toList.isEmpty = decide (P[k] = []) := by
        rw [empty_is, ba_list]
        cases P[k] <;> simp
      by_cases hem : P[k] = []
      · have HX : Hid (R = .ok (ps.map (·.2))) := by unfold Hid; rw [HRR.out, hlast, if_pos hem]
        rw [decide_eq_true hem] at e1
        clear hlast hem hc
        generalize ba P[k] = x at *
        go_wp2
        go_ret3
        exact LinesP.ok HX.out (LL.base HST.out.1 hzz) (below_then HB.out HST.out.2.2.2.2)
      · have HX : Hid (R = .error (k + 1)) := by unfold Hid; rw [HRR.out, hlast, if_neg hem, List.length_map, hpl]
        rw [decide_eq_false hem] at e1
        clear hlast hem hc
        generalize ba P[k] = x at *
        go_wp2
        go_ret3
        exact LinesP.no HX.out (below_then HB.out HST.out.2.2.2.2)

theorem rLines_any (t : ByteArray) (hs : t.size ≤ 4194304) (most : Int) (hm : ¬ most < (t.size : Int)) (w : World) :
    Calls Tryd.prog 27 #[.string t, .int .i64 most] w (LinesP w (scanR t.data.toList [] [] [])) := by
  have hl := cutF_len 10 t.data.toList []
  rw [list_size] at hl
  rw [scan_ref t.data.toList [] [] [] [] rfl rfl rfl]
  refine rLines_walk t most hm (cutF 10 [] t.data.toList) (by omega) (cutF_ne _ _ _) w (split_walk t 10 hs w) (fun p hp w1 => ?_)
  have hz := cutF_size 10 t.data.toList [] p hp
  rw [list_size] at hz
  have h := line_any (ba p) (by rw [ba_size]; simp at hz; omega) w1
  rw [ba_list] at h
  exact h
end Go.Proofs.YtefcndfeemnglaaDoor.Sc
