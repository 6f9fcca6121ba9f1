/- ScRf2, ScLi3, Sm1, Pw1, Mf7, Mf6, laid in one text. -/
import Derived.Test.YtjfbgiajjkjghaaGreatDoorScA
import Derived.Deep.CutRange
import Derived.Test.YtjfbgiajjkjghaaGreatDoorMg12
namespace Go.Proofs.YtjfbgiajjkjghaaGreatDoor.Sc
open Go.RowKit
set_option maxRecDepth 100000

theorem cutF_len (b : UInt8) : ∀ (t c : Bs), (cutF b c t).length ≤ t.length + 1
  | [], c => by simp [cutF]
  | x :: r, c => by
    by_cases hx : x = b
    · subst hx; rw [cutF_hit]; have := cutF_len x r []; simp; omega
    · rw [cutF_go hx]; have := cutF_len b r (c ++ [x]); simp; omega
theorem cutF_size (b : UInt8) : ∀ (t c : Bs), ∀ p ∈ cutF b c t, p.length ≤ c.length + t.length
  | [], c, p, hp => by simp [cutF] at hp; subst hp; simp
  | x :: r, c, p, hp => by
    by_cases hx : x = b
    · subst hx
      rw [cutF_hit] at hp
      rcases List.mem_cons.1 hp with rfl | hp
      · simp
      · have := cutF_size x r [] p hp; simp at *; omega
    · rw [cutF_go hx] at hp
      have := cutF_size b r (c ++ [x]) p hp
      simp at *; omega
theorem lineR_isW {s : Bs} : (lineR s).isSome = (cutF 32 [] s).all isW := by unfold lineR; split <;> simp_all
theorem lineR_some {s : Bs} (h : (cutF 32 [] s).all isW = true) : lineR s = some (cutF 32 [] s) := by unfold lineR; rw [if_pos h]
theorem lineR_none {s : Bs} (h : (cutF 32 [] s).all isW = false) : lineR s = none := by unfold lineR; rw [if_neg (by rw [h]; simp)]

def okW (P : List Bs) : List Bs := if P.all isW = true then P else []
theorem okW_yes {P : List Bs} (h : P.all isW = true) : okW P = P := by unfold okW; rw [if_pos h]
theorem okW_no {P : List Bs} (h : P.all isW = false) : okW P = [] := by unfold okW; rw [if_neg (by rw [h]; simp)]

set_option maxHeartbeats 3200000 in
theorem line_walk (s : ByteArray) (P : List Bs) (hP : P.length ≤ 1000000000) (w : World)
    (HS : Hid (Calls Tryz.prog 44 #[.string s, .int .u8 32] w fun e w' => ∃ v, e = .returned v ∧ OwnW w' w.heap.size v P ∧ Below w.heap.size w w'))
    (HI : Hid (∀ p ∈ P, ∀ w1, Calls Tryz.prog 59 #[.string (ba p)] w1 fun e w' => e = .returned (.bool (isW p)) ∧ Below w1.heap.size w1 w')) :
    Calls Tryz.prog 45 #[.string s] w fun e w' => ∃ v, e = .returned (.tuple #[v, .bool (P.all isW)]) ∧ OwnW w' w.heap.size v (okW P) ∧ Below w.heap.size w w' := by
  go_enter Tryz.func45, Tryz.ntmps45
  go_wp2_with (go_at_call 44; refine HS.out.mono ?_; rintro e w2 ⟨v2, rfl, ho2, hb2⟩; have HO := hide3 ho2; have HB := hide3 hb2; clear HS ho2 hb2)
  go_loopw [5] (fun i wr => ∃ k : Nat, k ≤ P.length ∧ i = .int .i64 k ∧ (P.take k).all isW = true ∧ OwnW wr w.heap.size v2 P ∧ Below w.heap.size w wr) (fun i _ => P.length - (intOf i).toNat)
  case atStart => exact ⟨0, Nat.zero_le _, rfl, rfl, HO.out, HB.out⟩
  case round =>
    obtain ⟨k, hk, rfl, hal, hor, hbr⟩ := hrel
    have HA := hide3 hal
    have HOR := hide3 hor
    have HBR := hide3 hbr
    clear hal hbr HO HB
    obtain ⟨ad, cap, rfl, hcap, hl⟩ := hor.at
    clear hor
    by_cases hlt : k < P.length
    · obtain ⟨g, o, rfl, hg, hc⟩ : ∃ g o, ad = some ⟨g, o, none⟩ ∧ g < wr.heap.size ∧ ∀ i (h : i < P.length), wr.cell? ⟨g, o + i, none⟩ = some (.string (ba P[i])) := by
        rcases hl with rfl | h
        · simp at hlt
        · exact h
      have hcell := hc k hlt
      have HIk := hide3 (HI.out P[k] (List.getElem_mem hlt))
      have htk : P.take (k + 1) = P.take k ++ [P[k]] := List.take_succ_eq_append_getElem hlt
      have hmem := List.getElem_mem hlt
      clear hc hl
      cases hw : isW P[k]
      · have HR : Hid (P.all isW = false) := by
          unfold Hid
          rw [Bool.eq_false_iff]
          intro h
          rw [List.all_eq_true] at h
          have := h _ hmem
          rw [hw] at this; cases this
        rw [hw] at HIk
        clear hw htk hmem
        generalize ba P[k] = x at *
        go_wp2_with (go_at_call 59; refine (HIk.out _).mono ?_; rintro e w3 ⟨rfl, hb3⟩; have HB3 := hide3 hb3; clear hb3)
        go_ret2
        exact ⟨.slice none 0 0, by rw [HR.out]; rfl, by rw [okW_no HR.out]; exact OwnW.nil _ _, below_then HBR.out HB3.out⟩
      · have HA2 : Hid ((P.take (k + 1)).all isW = true) := by unfold Hid; rw [htk, List.all_append, HA.out]; simp [hw]
        rw [hw] at HIk
        clear hw htk hmem
        generalize ba P[k] = x at *
        go_wp2_with (go_at_call 59; refine (HIk.out _).mono ?_; rintro e w3 ⟨rfl, hb3⟩; have HB3 := hide3 hb3; clear hb3)
        exact ⟨⟨k + 1, by omega, by go_num, HA2.out, HOR.out.below HB3.out, below_then HBR.out HB3.out⟩, by simp [intOf]; omega⟩
    · have hke : k = P.length := by omega
      subst hke
      have HR : Hid (P.all isW = true) := by have := HA.out; rw [List.take_length] at this; exact this
      clear hl
      go_wp2
      go_ret2
      exact ⟨.slice ad P.length cap, by rw [HR.out]; rfl, by rw [okW_yes HR.out]; exact HOR.out, HBR.out⟩

theorem line_any (s : ByteArray) (hs : s.size ≤ 4194304) (w : World) :
    Calls Tryz.prog 45 #[.string s] w fun e w' => ∃ v, e = .returned (.tuple #[v, .bool (lineR s.data.toList).isSome]) ∧ OwnW w' w.heap.size v ((lineR s.data.toList).getD []) ∧ Below w.heap.size w w' := by
  have hl := cutF_len 32 s.data.toList []
  rw [list_size] at hl
  have := line_walk s (cutF 32 [] s.data.toList) (by omega) w (split_walk s 32 hs w) (fun p hp w1 => by
    have hz := cutF_size 32 s.data.toList [] p hp
    rw [list_size] at hz
    have h := isWord_any (ba p) (by rw [ba_size]; simp at hz; omega) w1
    rw [ba_list] at h
    exact h)
  rw [lineR_isW]
  have e : (lineR s.data.toList).getD [] = okW (cutF 32 [] s.data.toList) := by unfold lineR okW; split <;> rfl
  rw [e]
  exact this

theorem own_some {w : World} {B : Nat} {v : Value} {ws : List Bs} (h : OwnW w B v ws) (hne : ws ≠ []) : ∃ g cap, v = .slice (some ⟨g, 0, none⟩) ws.length cap := by
  rcases h.2 with ⟨_, h0⟩ | ⟨g, cap, cur, rfl, _⟩
  · exact absurd (List.eq_nil_of_length_eq_zero h0) hne
  · exact ⟨g, cap, rfl⟩
theorem row_mono {w : World} {base base' : Nat} {e : TypeId} {size : Nat} {v : Value} {n : Nat} {xs : List Value} (h : w.ownsRow base e size v n xs) (hb : base' ≤ base) : w.ownsRow base' e size v n xs := by
  refine ⟨h.1, ?_⟩
  rcases h.2 with hn | ⟨g, cap, cur, hv, hB, r⟩
  · exact Or.inl hn
  · exact Or.inr ⟨g, cap, cur, hv, Nat.le_trans hb hB, r⟩
theorem LL.base {w : World} {B C : Nat} {vl : Value} {ps : List (Value × List Bs)} (h : LL w B vl ps) (hc : C ≤ B) : LL w C vl ps :=
  ⟨row_mono h.1 hc, fun p hp => ⟨row_mono (h.2.1 p hp).1 hc, (h.2.1 p hp).2⟩, h.2.2.1, h.2.2.2⟩
/-- A list of one's own that came of a call. -/
theorem St.take {w0 : World} {vl vw : Value} {ps : List (Value × List Bs)} {ws : List Bs} {w w' : World} (h : St w0 vl (.slice none 0 0) ps [] w) (ho : OwnW w' w.heap.size vw ws) (hb : Below w.heap.size w w') : St w0 vl vw ps ws w' := by
  obtain ⟨h1, h2, h3, h4, h5⟩ := h
  have hs := h5.size
  refine ⟨h1.below hb, row_mono ho hs, ?_, ?_, below_then h5 hb⟩
  · intro p hp e
    obtain ⟨g, hg⟩ := (h1.2.1 p hp).1.block (h1.2.1 p hp).2
    rw [hg] at e
    have a := (World.ownsRow.lt ho g e).1
    have b := (World.ownsRow.lt (h1.2.1 p hp).1 g hg).2
    omega
  · cases hv : vw.ownBlock with
    | none => exact Or.inl rfl
    | some g =>
      refine Or.inr fun e => ?_
      have a := (World.ownsRow.lt ho g hv).1
      have b := (World.ownsRow.lt h1.1 g e.symm).2
      omega

theorem ref_more {P : List Bs} {k : Nat} (h : k + 1 < P.length) (ls : List (List Bs)) : refR ls (P.drop k) = match lineR (P[k]'(by omega)) with | none => .error (ls.length + 1) | some w => refR (ls ++ [w]) (P.drop (k + 1)) := by
  have h1 : P.drop k = P[k]'(by omega) :: P.drop (k + 1) := List.drop_eq_getElem_cons (by omega)
  have h2 : P.drop (k + 1) = P[k + 1] :: P.drop (k + 1 + 1) := List.drop_eq_getElem_cons h
  rw [h1, h2]
  rfl
theorem ref_last {P : List Bs} {k : Nat} (h : k < P.length) (h2 : ¬ k + 1 < P.length) (ls : List (List Bs)) : refR ls (P.drop k) = if P[k] = [] then .ok ls else .error (ls.length + 1) := by
  have h1 : P.drop k = P[k]'(by omega) :: P.drop (k + 1) := List.drop_eq_getElem_cons (by omega)
  rw [h1, List.drop_of_length_le (by omega : P.length ≤ k + 1)]
  rfl

set_option maxHeartbeats 6400000 in
theorem rLines_walk (t : ByteArray) (most : Int) (hm : ¬ most < (t.size : Int)) (P : List Bs) (hP : P.length ≤ 4194305) (hP0 : P ≠ []) (w : World)
    (HS : Hid (Calls Tryz.prog 44 #[.string t, .int .u8 10] w fun e w' => ∃ v, e = .returned v ∧ OwnW w' w.heap.size v P ∧ Below w.heap.size w w'))
    (HI : Hid (∀ p ∈ P, ∀ w1, Calls Tryz.prog 45 #[.string (ba p)] w1 fun e w' => ∃ v, e = .returned (.tuple #[v, .bool (lineR p).isSome]) ∧ OwnW w' w1.heap.size v ((lineR p).getD []) ∧ Below w1.heap.size w1 w')) :
    Calls Tryz.prog 27 #[.string t, .int .i64 most] w (LinesP w (refR [] P)) := by
  obtain ⟨R, hR⟩ : ∃ R, R = refR [] P := ⟨_, rfl⟩
  rw [← hR]
  have HR := hide3 hR
  clear hR
  obtain ⟨i1, hj, hy0, hy1, hy2⟩ := info_parts infoStrs
  have hpos : 0 < P.length := List.length_pos_iff.2 hP0
  go_enter Tryz.func27, Tryz.ntmps27
  go_wp2_with (go_at_call 44; refine HS.out.mono ?_; rintro e w2 ⟨v2, rfl, ho2, hb2⟩; have HO := hide3 ho2; have HB := hide3 hb2; clear HS ho2 hb2)
  go_loopw [7, 9] (fun vl i wr => ∃ (k : Nat) (ps : List (Value × List Bs)), k < P.length ∧ i = .int .i64 k ∧ ps.length = k ∧ St w2 vl (.slice none 0 0) ps [] wr ∧ R = refR (ps.map (·.2)) (P.drop k)) (fun _ i _ => P.length - (intOf i).toNat)
  case atStart => exact ⟨0, [], hpos, rfl, rfl, St.start _, HR.out⟩
  case round =>
    obtain ⟨k, ps, hk, rfl, hpl, hst, hrr⟩ := hrel
    have HST := hide3 hst
    have HRR := hide3 hrr
    have HOR := hide3 (HO.out.below hst.2.2.2.2)
    clear hrr hst
    have hzz := HB.out.size
    obtain ⟨ad, cap, rfl, hcap, hl⟩ := HOR.out.at
    obtain ⟨g, o, rfl, hg, hc⟩ : ∃ g o, ad = some ⟨g, o, none⟩ ∧ g < wr.heap.size ∧ ∀ i (h : i < P.length), wr.cell? ⟨g, o + i, none⟩ = some (.string (ba P[i])) := by
      rcases hl with rfl | h
      · simp at hk
      · exact h
    clear hl
    have hcell := hc k hk
    by_cases hlt : k + 1 < P.length
    · have HIk := hide3 (HI.out P[k] (List.getElem_mem hk) wr)
      have hmore := ref_more hlt (ps.map (·.2))
      clear hc
      cases hw : lineR P[k] with
      | none =>
        have HX : Hid (R = .error (k + 1)) := by unfold Hid; rw [HRR.out, hmore, hw]; simp [hpl]
        rw [hw] at HIk
        simp only [Option.isSome_none, Option.getD_none] at HIk
        clear hmore hw
        generalize ba P[k] = x at *
        go_wp2_with (go_at_call 45; refine HIk.out.mono ?_; rintro e w3 ⟨v3, rfl, ho3, hb3⟩; have HB3 := hide3 hb3; clear hb3 ho3)
        go_ret3
        exact LinesP.no HX.out (below_then HB.out (below_then HST.out.2.2.2.2 HB3.out))
      | some ws =>
        have HX : Hid (R = refR ((ps.map (·.2)) ++ [ws]) (P.drop (k + 1)) ∧ ws ≠ []) := by
          refine ⟨by rw [HRR.out, hmore, hw], ?_⟩
          unfold lineR at hw
          split at hw
          · cases hw; exact cutF_ne _ _ _
          · cases hw
        rw [hw] at HIk
        simp only [Option.isSome_some, Option.getD_some] at HIk
        clear hmore hw
        generalize ba P[k] = x at *
        go_wp2_with (first
          | (go_at_call 45; refine HIk.out.mono ?_; rintro e w3 ⟨v3, rfl, ho3, hb3⟩; have HS3 : Hid (St w2 u7 v3 ps ws w3) := HST.out.take ho3 hb3; obtain ⟨g3, cap3, rfl⟩ := own_some ho3 HX.out.2; clear hb3 ho3)
          | (have _h := HS3; at_builtin; refine wpList_append_own_at _ rfl _ _ 52 rfl w2.heap.size 56 i1 _ 1 24 Tryz.underlying52 hj hy0 hy1 hy2 rfl (by decide) _ _ _ rfl (HS3.out.1.1.alloc _) ⟨w3.heap.size, 0, none⟩ 1 1 [.slice (some ⟨g3, 0, none⟩) ws.length cap3] rfl rfl (cell_one_new _ _ _) (by simp [Value.oneCell']) (by unfold maxLen; omega) (by omega) (by have := HS3.out.2.2.2.2.size; simp; omega) ?_; intro v4 w4 hown4 hg4 hnil4 hat4; have HS4 : Hid (St w2 v4 (.slice none 0 0) (ps ++ [(.slice (some ⟨g3, 0, none⟩) ws.length cap3, ws)]) [] w4) := St.line (HS3.out.below (boxB _ _)) HX.out.2 hown4 hg4 hat4; clear hown4 hg4 hnil4 hat4 HS3; go_frame))
        exact ⟨⟨k + 1, _, hlt, by go_num, by simp [hpl], HS4.out, by rw [List.map_append]; exact HX.out.1⟩, by simp [intOf]; omega⟩
    · have hlast := ref_last hk hlt (ps.map (·.2))
      have hk1 : (P.length : Int) - 1 = (k : Int) := by omega
      have hkl : P.length = k + 1 := by omega
      have e1 : (ba P[k]).toList.isEmpty = decide (P[k] = []) := by
        rw [empty_is, ba_list]
        cases P[k] <;> simp
      by_cases hem : P[k] = []
      · have HX : Hid (R = .ok (ps.map (·.2))) := by unfold Hid; rw [HRR.out, hlast, if_pos hem]
        rw [decide_eq_true hem] at e1
        clear hlast hem hc
        generalize ba P[k] = x at *
        go_wp2
        go_ret3
        exact LinesP.ok HX.out (LL.base HST.out.1 hzz) (below_then HB.out HST.out.2.2.2.2)
      · have HX : Hid (R = .error (k + 1)) := by unfold Hid; rw [HRR.out, hlast, if_neg hem, List.length_map, hpl]
        rw [decide_eq_false hem] at e1
        clear hlast hem hc
        generalize ba P[k] = x at *
        go_wp2
        go_ret3
        exact LinesP.no HX.out (below_then HB.out HST.out.2.2.2.2)

theorem rLines_any (t : ByteArray) (hs : t.size ≤ 4194304) (most : Int) (hm : ¬ most < (t.size : Int)) (w : World) :
    Calls Tryz.prog 27 #[.string t, .int .i64 most] w (LinesP w (scanR t.data.toList [] [] [])) := by
  have hl := cutF_len 10 t.data.toList []
  rw [list_size] at hl
  rw [scan_ref t.data.toList [] [] [] [] rfl rfl rfl]
  refine rLines_walk t most hm (cutF 10 [] t.data.toList) (by omega) (cutF_ne _ _ _) w (split_walk t 10 hs w) (fun p hp w1 => ?_)
  have hz := cutF_size 10 t.data.toList [] p hp
  rw [list_size] at hz
  have h := line_any (ba p) (by rw [ba_size]; simp at hz; omega) w1
  rw [ba_list] at h
  exact h
end Go.Proofs.YtjfbgiajjkjghaaGreatDoor.Sc
namespace Go.Proofs.YtjfbgiajjkjghaaGreatDoor.Sc
open Go.RowKit
set_option maxRecDepth 100000

theorem Clone_any (s : ByteArray) (hs : s.size ≤ 281474976710656) (w : World) : Calls Tryz.prog 41 #[.string s] w fun e w' => e = .returned (.string s) ∧ Below w.heap.size w w' := by
  have HC := hide3 (Tryz.stringslite_Clone s w hs)
  go_enter Tryz.func41, Tryz.ntmps41
  go_wp2_with (go_at_call 56; refine HC.out.mono ?_; rintro e w1 ⟨rfl, hb⟩; have HB := hide3 hb; clear hb)
  go_ret
  exact ⟨rfl, HB.out⟩

/-- What both answer, with a bound. -/
def ansE (t : ByteArray) (most : Int) : Int := if most < (t.size : Int) then 25 else linE (scanR t.data.toList [] [] [])
def ansN (t : ByteArray) (most : Int) : Nat := if most < (t.size : Int) then 0 else linN (scanR t.data.toList [] [] [])
def ansL (t : ByteArray) (most : Int) : List (List Bs) := if most < (t.size : Int) then [] else linL (scanR t.data.toList [] [] [])
/-- A new answer. -/
def LinesQ (w : World) (e1 : Int) (n : Nat) (L : List (List Bs)) (e : Ending) (w' : World) : Prop := ∃ v, e = .returned (.tuple #[v, .int .i64 e1, .int .i64 (n : Int)]) ∧ OwnLL w' w.heap.size v L ∧ Below w.heap.size w w'

theorem Lines_far (t : ByteArray) (most : Int) (hm : most < (t.size : Int)) (w : World) : Calls Tryz.prog 25 #[.string t, .int .i64 most] w (LinesQ w 25 0 []) := by
  go_enter Tryz.func25, Tryz.ntmps25
  go_wp2
  go_step3
  go_wp2
  rw [Exit.noGoto_ret]
  go_ret3
  exact ⟨_, rfl, ⟨[], rfl, LL.nil _ _⟩, Below.refl _ _⟩
theorem rLines_far (t : ByteArray) (most : Int) (hm : most < (t.size : Int)) (w : World) : Calls Tryz.prog 27 #[.string t, .int .i64 most] w (LinesQ w 25 0 []) := by
  go_enter Tryz.func27, Tryz.ntmps27
  go_wp2
  go_ret3
  exact ⟨_, rfl, ⟨[], rfl, LL.nil _ _⟩, Below.refl _ _⟩

theorem Lines_any (t : ByteArray) (hs : t.size ≤ 4194304) (most : Int) (w : World) : Calls Tryz.prog 25 #[.string t, .int .i64 most] w (LinesQ w (ansE t most) (ansN t most) (ansL t most)) := by
  unfold ansE ansN ansL
  by_cases h : most < (t.size : Int)
  · rw [if_pos h, if_pos h, if_pos h]; exact Lines_far t most h w
  · rw [if_neg h, if_neg h, if_neg h]; exact Lines_walk t hs most h w (fun s h1 w1 => Clone_any s (by omega) w1)
theorem rLines_all (t : ByteArray) (hs : t.size ≤ 4194304) (most : Int) (w : World) : Calls Tryz.prog 27 #[.string t, .int .i64 most] w (LinesQ w (ansE t most) (ansN t most) (ansL t most)) := by
  unfold ansE ansN ansL
  by_cases h : most < (t.size : Int)
  · rw [if_pos h, if_pos h, if_pos h]; exact rLines_far t most h w
  · rw [if_neg h, if_neg h, if_neg h]; exact rLines_any t hs most h w

theorem Lines_len (t : ByteArray) (w : World) (hs : t.size ≤ 4194304) {n : Int} (hn : n = (t.size : Int)) : Calls Tryz.prog 25 #[.string t, .int .i64 n] w (LinesP w (scanR t.data.toList [] [] [])) := by
  subst hn
  exact Lines_walk t hs _ (by omega) w (fun s h1 w1 => Clone_any s (by omega) w1)

/-- Lines of a text are not too many. -/
theorem scan_fits : ∀ (t cur : Bs) (ws : List Bs) (ls L : List (List Bs)) (N : Nat), scanR t cur ws ls = .ok L → ls.length + t.length ≤ N → ws.length + t.length ≤ N → (∀ l ∈ ls, l.length ≤ N) → L.length ≤ N ∧ ∀ l ∈ L, l.length ≤ N
  | [], cur, ws, ls, L, N, h, h1, h2, h3 => by
    unfold scanR at h
    split at h
    · cases h; simp at h1; exact ⟨h1, h3⟩
    · cases h
  | b :: r, cur, ws, ls, L, N, h, h1, h2, h3 => by
    simp only [List.length_cons] at h1 h2
    by_cases hb : wB b = true
    · rw [scan_b hb] at h; exact scan_fits r _ _ _ L N h (by omega) (by omega) h3
    · have hb' : wB b = false := by simpa using hb
      by_cases hc : cur = []
      · subst hc; rw [scan_none hb'] at h; cases h
      · by_cases h32 : b = 32
        · subst h32; rw [scan_32 hc] at h; exact scan_fits r _ _ _ L N h (by omega) (by simp; omega) h3
        · by_cases h10 : b = 10
          · subst h10
            rw [scan_10 hc] at h
            refine scan_fits r _ _ _ L N h (by simp; omega) (by simp; omega) ?_
            intro l hl
            rcases List.mem_append.1 hl with hl | hl
            · exact h3 l hl
            · rw [List.mem_singleton.1 hl]; simp; omega
          · rw [scan_bad hb' h32 h10] at h; cases h
theorem lin_fits (t : ByteArray) : (linL (scanR t.data.toList [] [] [])).length ≤ t.size ∧ ∀ l ∈ linL (scanR t.data.toList [] [] []), l.length ≤ t.size := by
  cases h : scanR t.data.toList [] [] [] with
  | error n => exact ⟨Nat.zero_le _, fun l hl => by cases hl⟩
  | ok L => exact scan_fits _ _ _ _ L t.size h (by rw [list_size]; simp) (by rw [list_size]; simp) (fun l hl => by cases hl)
end Go.Proofs.YtjfbgiajjkjghaaGreatDoor.Sc
namespace Go.Proofs.YtjfbgiajjkjghaaGreatDoor
open Go.RowKit
set_option maxRecDepth 100000

theorem lineT_pos (l : List Sc.Bs) : 0 < (Sc.lineT l).length := by
  match l with
  | [] => simp [Sc.lineT]
  | [_] => simp [Sc.lineT]
  | _ :: _ :: _ => simp [Sc.lineT]; omega
theorem textT_len : ∀ L : List (List Sc.Bs), L.length ≤ (Sc.textT L).length
  | [] => Nat.le_refl _
  | l :: L => by
    have h1 := textT_len L
    have h2 := lineT_pos l
    have e : Sc.textT (l :: L) = Sc.lineT l ++ Sc.textT L := by simp [Sc.textT]
    rw [e, List.length_append, List.length_cons]
    omega
theorem line_in : ∀ {L : List (List Sc.Bs)} {l : List Sc.Bs}, l ∈ L → (Sc.lineT l).length ≤ (Sc.textT L).length
  | m :: L, l, h => by
    have e : Sc.textT (m :: L) = Sc.lineT m ++ Sc.textT L := by simp [Sc.textT]
    rw [e, List.length_append]
    rcases List.mem_cons.1 h with rfl | h
    · omega
    · have := line_in h
      omega
theorem words_le : ∀ l : List Sc.Bs, l.length ≤ (Sc.lineT l).length
  | [] => Nat.zero_le _
  | [w] => by simp [Sc.lineT]
  | w :: q :: r => by
    have := words_le (q :: r)
    have e : Sc.lineT (w :: q :: r) = w ++ [32] ++ Sc.lineT (q :: r) := rfl
    rw [e, List.length_append, List.length_append, List.length_cons]
    simp only [List.length_cons, List.length_nil] at this ⊢
    omega
theorem word_in : ∀ {l : List Sc.Bs} {x : Sc.Bs}, x ∈ l → x.length ≤ (Sc.lineT l).length
  | [w], x, h => by
    obtain rfl : x = w := by simpa using h
    simp [Sc.lineT]
  | w :: q :: r, x, h => by
    have e : Sc.lineT (w :: q :: r) = w ++ [32] ++ Sc.lineT (q :: r) := rfl
    rw [e, List.length_append, List.length_append]
    rcases List.mem_cons.1 h with rfl | h
    · omega
    · have := word_in h
      omega
theorem join2 (x y : Sc.Bs) (r : List Sc.Bs) : Lib.join (x :: y :: r) [32] = x ++ [32] ++ Lib.join (y :: r) [32] := by
  rw [Lib.join_cons, Lib.join_cons]
  simp [Lib.joinTail]
theorem join_le : ∀ l : List Sc.Bs, (Lib.join l [32]).length ≤ (Sc.lineT l).length
  | [] => Nat.zero_le _
  | [w] => by rw [Lib.join_one]; simp [Sc.lineT]
  | w :: q :: r => by
    have := join_le (q :: r)
    have e : Sc.lineT (w :: q :: r) = w ++ [32] ++ Sc.lineT (q :: r) := rfl
    rw [e, join2, List.length_append, List.length_append, List.length_append, List.length_append]
    omega
theorem drop_le (l : List Sc.Bs) : (Sc.lineT (l.drop 1)).length ≤ (Sc.lineT l).length := by
  match l with
  | [] => exact Nat.le_refl _
  | [w] => simp [Sc.lineT]
  | w :: q :: r => simp [Sc.lineT]; omega
/-- What lines are like of a short text. -/
def SmallL (L : List (List Sc.Bs)) : Prop := L.length ≤ 5000 ∧ (∀ ln ∈ L, ln ≠ []) ∧ (∀ ln ∈ L, ShortLn ln) ∧ ∀ ln ∈ L, ∀ x ∈ ln, x.length ≤ 5000
theorem lines_small {t : ByteArray} (h : t.size ≤ 4096) {L : List (List Sc.Bs)} (hL : Sc.scanR t.data.toList [] [] [] = .ok L) : SmallL L := by
  obtain ⟨hall, htx⟩ := Sc.scan_back _ _ _ _ _ hL rfl rfl rfl
  have htl : (Sc.textT L).length ≤ 4096 := by
    rw [htx]
    have e : Sc.textT [] ++ Sc.pend [] [] ++ t.data.toList = t.data.toList := by simp [Sc.textT, Sc.pend]
    rw [e, list_size]
    exact h
  refine ⟨by have := textT_len L; omega, fun ln hl => ?_, fun ln hl => ⟨?_, ?_⟩, fun ln hl x hx => ?_⟩
  · have := List.all_eq_true.1 hall ln hl
    unfold Sc.isL at this
    rintro rfl
    simp at this
  · have h1 := words_le ln
    have h2 := line_in hl
    omega
  · have h1 := join_le (ln.drop 2)
    have h2 := line_in hl
    have h3 := drop_le (ln.drop 1)
    have h4 := drop_le ln
    rw [List.drop_drop, show 1 + 1 = 2 from rfl] at h3
    omega
  · have h1 := word_in hx
    have h2 := line_in hl
    omega
theorem lines_4096 (t : ByteArray) (w : World) : Calls Tryz.prog 25 #[.string t, .int .i64 4096] w (Sc.LinesQ w (Sc.ansE t 4096) (Sc.ansN t 4096) (Sc.ansL t 4096)) := by
  by_cases h : (4096 : Int) < (t.size : Int)
  · have := Sc.Lines_far t 4096 h w
    unfold Sc.ansE Sc.ansN Sc.ansL
    rw [if_pos h, if_pos h, if_pos h]
    exact this
  · exact Sc.Lines_any t (by omega) 4096 w
theorem small_of {t : ByteArray} (h : Sc.ansE t 4096 = 0) : SmallL (Sc.ansL t 4096) := by
  unfold Sc.ansE at h
  unfold Sc.ansL
  by_cases h1 : (4096 : Int) < (t.size : Int)
  · rw [if_pos h1] at h; cases h
  · rw [if_neg h1] at h ⊢
    cases hs : Sc.scanR t.data.toList [] [] [] with
    | error n => rw [hs] at h; cases h
    | ok L => exact lines_small (by omega) hs
end Go.Proofs.YtjfbgiajjkjghaaGreatDoor
namespace Go.Proofs.YtjfbgiajjkjghaaGreatDoor
open Go.RowKit
set_option maxRecDepth 100000

theorem joinS (x y : Sc.Bs) (r : List Sc.Bs) (sep : Sc.Bs) : Lib.join (x :: y :: r) sep = x ++ sep ++ Lib.join (y :: r) sep := by
  rw [Lib.join_cons, Lib.join_cons]
  simp [Lib.joinTail]
theorem join_app : ∀ {A B : List Sc.Bs}, A ≠ [] → B ≠ [] → Lib.join (A ++ B) [32] = Lib.join A [32] ++ [32] ++ Lib.join B [32]
  | [], _, h, _ => absurd rfl h
  | [x], [], _, h => absurd rfl h
  | [x], y :: r, _, _ => by
    show Lib.join (x :: y :: r) [32] = _
    rw [joinS, Lib.join_one]
  | x :: y :: r, B, _, hb => by
    have ih := join_app (A := y :: r) (B := B) (by simp) hb
    show Lib.join (x :: y :: (r ++ B)) [32] = _
    rw [joinS, joinS, show y :: (r ++ B) = (y :: r) ++ B from rfl, ih]
    simp
/-- A text that is words with blanks between. -/
def WordyT (s : Sc.Bs) : Prop := ∃ ws : List Sc.Bs, ws ≠ [] ∧ ws.all Sc.isW = true ∧ Lib.join ws [32] = s
theorem wordy_one {s : Sc.Bs} (h : Sc.isW s = true) : WordyT s := ⟨[s], by simp, by simp [h], Lib.join_one _ _⟩
theorem wordy_two {s t : Sc.Bs} (hs : WordyT s) (ht : WordyT t) : WordyT (s ++ [32] ++ t) := by
  obtain ⟨a, h1, h2, rfl⟩ := hs
  obtain ⟨b, k1, k2, rfl⟩ := ht
  exact ⟨a ++ b, by simp [h1], by rw [List.all_append, h2, k2]; rfl, join_app h1 k1⟩
theorem isW_text {a b c : Int} (h : mayV a b c = true) (sg : Sc.Bs) (hs : sg.all Sc.wB = true) : Sc.isW (sg ++ (textV a b c).data.toList) = true := by
  unfold Sc.isW
  rw [List.all_append, hs]
  have h1 : (textV a b c).data.toList.all Sc.wB = true := List.all_eq_true.2 fun x hx => by
    unfold Sc.wB
    rcases text_bytes h x hx with e | e <;> simp <;> omega
  rw [h1]
  have h2 := text_long h
  have h3 : (sg ++ (textV a b c).data.toList).isEmpty = false := by
    rw [List.isEmpty_eq_false_iff]
    intro e
    have := congrArg List.length e
    rw [List.length_append] at this
    simp only [List.length_nil] at this
    omega
  rw [h3]
  rfl
theorem spT_words {p : Int × Int} (h1 : okR p.1) (h2 : okR p.2) : WordyT (spT p).data.toList := by
  have m1 := (may_at h1.has).1
  have m2 := (may_at h2.has).1
  unfold spT spanT
  split
  · exact wordy_one (isW_text m1 [] rfl)
  · split
    · exact wordy_one (by decide)
    · split
      · rw [cat_list]; exact wordy_one (isW_text m2 [60, 61] (by decide))
      · split
        · rw [cat_list]; exact wordy_one (isW_text m1 [62, 61] (by decide))
        · rw [cat_list, cat_list, cat_list]
          have := wordy_two (wordy_one (isW_text m1 [62, 61] (by decide))) (wordy_one (isW_text m2 [60, 61] (by decide)))
          simpa using this
theorem print_words : ∀ (A : Rg), A ≠ [] → (∀ p ∈ A, okR p.1 ∧ okR p.2) → WordyT (printR A).data.toList
  | [], h, _ => absurd rfl h
  | [p], _, h => by
    show WordyT (Lib.join [(spT p).data.toList] [32, 124, 124, 32])
    rw [Lib.join_one]
    exact spT_words (h p List.mem_cons_self).1 (h p List.mem_cons_self).2
  | p :: q :: r, _, h => by
    have ih : WordyT (Lib.join ((q :: r).map fun p => (spT p).data.toList) [32, 124, 124, 32]) := print_words (q :: r) (by simp) fun x hx => h x (List.mem_cons_of_mem _ hx)
    have h1 := spT_words (h p List.mem_cons_self).1 (h p List.mem_cons_self).2
    show WordyT (Lib.join ((spT p).data.toList :: (spT q).data.toList :: r.map fun p => (spT p).data.toList) [32, 124, 124, 32])
    rw [joinS]
    have := wordy_two (wordy_two h1 (wordy_one (s := [124, 124]) (by decide))) ih
    simpa using this
/-- The words of a range, and what they are read as. -/
theorem range_words {L : List Sp} (h : rangeB L = true) : ∃ ws : List Sc.Bs, ws ≠ [] ∧ ws.all Sc.isW = true ∧ Lib.join ws [32] = (prS L).data.toList ∧ parE (parR (jnT ws)) = 0 ∧ (parL (parR (jnT ws))).map spR = L := by
  have h0 := h
  unfold rangeB at h
  rw [Bool.and_eq_true, decide_eq_true_eq] at h
  obtain ⟨A, rfl, hA, hl⟩ := may_iff.1 h.2
  have hne : A ≠ [] := by rintro rfl; simp at h
  obtain ⟨ws, w1, w2, w3⟩ := print_words A hne fun p hp => ⟨(hA.ok p hp).1, (hA.ok p hp).2.1⟩
  have hj : jnT ws = printR A := by
    unfold jnT
    rw [w3]
  refine ⟨ws, w1, w2, ?_, ?_, ?_⟩
  · unfold prS; rw [pl_sp hA]; exact w3
  · rw [hj, print_par hA hl]; show fullE A.length = 0; unfold fullE; rw [if_pos hl]
  · rw [hj, print_par hA hl]; show (fitR A).map spR = _; rw [fit_of hl]
noncomputable def rgW (L : List Sp) : List Sc.Bs := if h : rangeB L = true then (range_words h).choose else []
theorem rgW_spec {L : List Sp} (h : rangeB L = true) : rgW L ≠ [] ∧ (rgW L).all Sc.isW = true ∧ Lib.join (rgW L) [32] = (prS L).data.toList ∧ parE (parR (jnT (rgW L))) = 0 ∧ (parL (parR (jnT (rgW L)))).map spR = L := by
  unfold rgW
  rw [dif_pos h]
  exact (range_words h).choose_spec

/-- A dependency's line; a list's. -/
noncomputable def lineW (x : Sc.Bs) (d : Dp) : List Sc.Bs := x :: d.nm.data.toList :: rgW d.rg
noncomputable def listW (x : Sc.Bs) (L : List Dp) : List (List Sc.Bs) := L.map (lineW x)
theorem lineT_join : ∀ {ws : List Sc.Bs}, ws ≠ [] → Sc.lineT ws = Lib.join ws [32] ++ [10]
  | [], h => absurd rfl h
  | [x], _ => by rw [Lib.join_one]; rfl
  | x :: y :: r, _ => by
    have ih := lineT_join (ws := y :: r) (by simp)
    show x ++ [32] ++ Sc.lineT (y :: r) = _
    rw [joinS, ih]
    simp
theorem lineW_text {x : ByteArray} {d : Dp} (h : rangeB d.rg = true) : Sc.lineT (lineW x.data.toList d) = lineB x d.nm (prS d.rg) := by
  obtain ⟨h1, _, h3, _⟩ := rgW_spec h
  unfold lineW lineB
  rw [lineT_join (by simp), joinS]
  cases hw : rgW d.rg with
  | nil => exact absurd hw h1
  | cons y r => rw [joinS, ← hw, h3]; simp
theorem listW_text {x : ByteArray} : ∀ {L : List Dp}, (∀ d ∈ L, rangeB d.rg = true) → Sc.textT (listW x.data.toList L) = listT x L
  | [], _ => rfl
  | d :: L, h => by
    have ih := listW_text (x := x) (L := L) fun e he => h e (List.mem_cons_of_mem _ he)
    have e1 : Sc.textT (listW x.data.toList (d :: L)) = Sc.lineT (lineW x.data.toList d) ++ Sc.textT (listW x.data.toList L) := by simp [Sc.textT, listW]
    have e2 : listT x (d :: L) = lineB x d.nm (prS d.rg) ++ listT x L := by simp [listT]
    rw [e1, e2, ih, lineW_text (h d List.mem_cons_self)]
theorem name_word {s : Sc.Bs} (h : Sc.nameA s = true) : Sc.isW s = true := by
  unfold Sc.nameA at h
  rw [Bool.and_eq_true, Bool.and_eq_true] at h
  have h1 : s.all Sc.wB = true := List.all_eq_true.2 fun b hb => by
    have := List.all_eq_true.1 h.1.2 b hb
    unfold Sc.nmB Sc.ltB Sc.dgB at this
    unfold Sc.wB
    simp at this ⊢
    omega
  cases s with
  | nil => simp [Sc.headB] at h
  | cons b r => unfold Sc.isW; rw [h1]; rfl
theorem rise_names : ∀ {L : List Dp} {q : Option ByteArray}, riseD q L = true → ∀ d ∈ L, Sc.nameA d.nm.data.toList = true ∧ rangeB d.rg = true
  | [], _, _, d, hd => by cases hd
  | e :: M, q, hq, d, hd => by
    rw [riseD, Bool.and_eq_true, Bool.and_eq_true] at hq
    rcases List.mem_cons.1 hd with rfl | hd
    · have := hq.1.1
      unfold followB at this
      rw [Bool.and_eq_true] at this
      exact ⟨this.1, hq.1.2⟩
    · exact rise_names hq.2 d hd
theorem listW_ok {x : Sc.Bs} (hx : Sc.isW x = true) {L : List Dp} (h : ∀ d ∈ L, Sc.nameA d.nm.data.toList = true ∧ rangeB d.rg = true) : (listW x L).all Sc.isL = true := by
  refine List.all_eq_true.2 fun l hl => ?_
  obtain ⟨d, hd, rfl⟩ := List.mem_map.1 hl
  obtain ⟨_, h2, _⟩ := rgW_spec (h d hd).2
  unfold Sc.isL lineW
  rw [List.all_cons, List.all_cons, hx, name_word (h d hd).1, h2]
  rfl
theorem lastN_snoc (A : List Dp) (d : Dp) : lastN (A ++ [d]) = some d.nm := by
  unfold lastN
  rw [List.getLast?_concat]
  rfl
theorem ba_of_nm (s : ByteArray) : Sc.ba s.data.toList = s := Sc.ba_of s
theorem read_list {X : List Sc.Bs} {x : Sc.Bs} {k : Nat} (hx : idxW X x = (k : Int)) : ∀ (L : List Dp) (rest : List (List Sc.Bs)) (acc : List (List Dp)) (a : Nat), a ≤ k → k < acc.length → riseD (lastN (acc.getD k [])) L = true →
    ∃ a', a' ≤ k ∧ readF X a acc (listW x L ++ rest) = readF X a' (acc.set k (acc.getD k [] ++ L)) rest
  | [], rest, acc, a, ha, hk, _ => by
    refine ⟨a, ha, ?_⟩
    have e : acc.set k (acc.getD k [] ++ []) = acc := by
      rw [List.append_nil, List.getD_eq_getElem?_getD, List.getElem?_eq_getElem hk]
      exact List.set_getElem_self hk
    rw [e]
    rfl
  | d :: L, rest, acc, a, ha, hk, hr => by
    rw [riseD, Bool.and_eq_true, Bool.and_eq_true] at hr
    obtain ⟨⟨h1, h2⟩, h3⟩ := hr
    obtain ⟨w1, w2, w3, w4, w5⟩ := rgW_spec h2
    have hd : lineDp (lineW x d) = d := by
      show (⟨Sc.ba d.nm.data.toList, (parL (parR (jnT (rgW d.rg)))).map spR⟩ : Dp) = d
      rw [Sc.ba_of, w5]
    have hs : readF X a acc (lineW x d :: (listW x L ++ rest)) = readF X k (acc.set k (acc.getD k [] ++ [d])) (listW x L ++ rest) := by
      rw [readF_step (k := k) ?_ hx ha ?_, hd]
      · unfold lineW
        cases hw : rgW d.rg with
        | nil => exact absurd hw w1
        | cons y r => simp
      · show depE (lastN (acc.getD k [])) (Sc.ba d.nm.data.toList) (rgW d.rg) = 0
        unfold depE
        rw [Sc.ba_of, if_pos h1, w5, if_pos ⟨w4, h2⟩]
    have hl : (acc.set k (acc.getD k [] ++ [d])).getD k [] = acc.getD k [] ++ [d] := by
      rw [List.getD_eq_getElem?_getD, List.getElem?_set_self hk]
      rfl
    obtain ⟨a', ha', e⟩ := read_list hx L rest (acc.set k (acc.getD k [] ++ [d])) k (Nat.le_refl _) (by rw [List.length_set]; exact hk) (by rw [hl, lastN_snoc]; exact h3)
    refine ⟨a', ha', ?_⟩
    rw [hl, List.set_set] at e
    show readF X a acc (lineW x d :: (listW x L ++ rest)) = _
    rw [hs, e, List.append_assoc]
    rfl
end Go.Proofs.YtjfbgiajjkjghaaGreatDoor
namespace Go.Proofs.YtjfbgiajjkjghaaGreatDoor
open Go.RowKit
set_option maxRecDepth 100000

/-- What Parse answers. -/
noncomputable def parME (t : ByteArray) : Int := if Sc.ansE t 4096 = 0 then (if linesME (Sc.ansL t 4096) = 0 then (if writtenMB (linesMP (Sc.ansL t 4096)) = true then 0 else 25) else linesME (Sc.ansL t 4096)) else Sc.ansE t 4096
def parMP (t : ByteArray) : Mn := linesMP (Sc.ansL t 4096)

/-- A manifest's lines. -/
noncomputable def mnL (P : Mn) : List (List Sc.Bs) := [[112, 114, 111, 106, 101, 99, 116]] :: (listW (mwK 0).data.toList P.d ++ (listW (mwK 1).data.toList P.v ++ (listW (mwK 2).data.toList P.o ++ (listW (mwK 3).data.toList P.p ++ []))))
theorem soundM_all {P : Mn} (h : soundM P = true) : riseD none P.d = true ∧ riseD none P.v = true ∧ riseD none P.o = true ∧ riseD none P.p = true := by
  unfold soundM mayD at h
  simp only [Bool.and_eq_true] at h
  exact ⟨h.1.1.2, h.1.2.1.2, h.1.2.2.1.2, h.1.2.2.2.2⟩
theorem mnL_text {P : Mn} (h : soundM P = true) : Sc.textT (mnL P) = textM P := by
  obtain ⟨h1, h2, h3, h4⟩ := soundM_all h
  have e : ∀ (l : List Sc.Bs) (L : List (List Sc.Bs)), Sc.textT (l :: L) = Sc.lineT l ++ Sc.textT L := fun l L => by simp [Sc.textT]
  have e2 : ∀ (K L : List (List Sc.Bs)), Sc.textT (K ++ L) = Sc.textT K ++ Sc.textT L := fun K L => by simp [Sc.textT]
  unfold mnL textM preM
  rw [e, e2, e2, e2, e2, listW_text fun d hd => (rise_names h1 d hd).2, listW_text fun d hd => (rise_names h2 d hd).2, listW_text fun d hd => (rise_names h3 d hd).2, listW_text fun d hd => (rise_names h4 d hd).2, lineT_join (by simp), Lib.join_one]
  simp [Sc.textT]
theorem mnL_ok {P : Mn} (h : soundM P = true) : (mnL P).all Sc.isL = true := by
  obtain ⟨h1, h2, h3, h4⟩ := soundM_all h
  unfold mnL
  rw [List.all_cons, List.all_append, List.all_append, List.all_append, List.all_append, listW_ok (by decide) (rise_names h1), listW_ok (by decide) (rise_names h2), listW_ok (by decide) (rise_names h3), listW_ok (by decide) (rise_names h4)]
  rfl
theorem mn_read {P : Mn} (h : soundM P = true) : readF mfW 0 [[], [], [], []] (listW (mwK 0).data.toList P.d ++ (listW (mwK 1).data.toList P.v ++ (listW (mwK 2).data.toList P.o ++ (listW (mwK 3).data.toList P.p ++ [])))) = (0, [P.d, P.v, P.o, P.p]) := by
  obtain ⟨h1, h2, h3, h4⟩ := soundM_all h
  obtain ⟨a1, b1, e1⟩ := read_list (X := mfW) (x := (mwK 0).data.toList) (k := 0) (by decide) P.d (listW (mwK 1).data.toList P.v ++ (listW (mwK 2).data.toList P.o ++ (listW (mwK 3).data.toList P.p ++ []))) [[], [], [], []] 0 (Nat.le_refl _) (by decide) h1
  rw [e1]
  obtain ⟨a2, b2, e2⟩ := read_list (X := mfW) (x := (mwK 1).data.toList) (k := 1) (by decide) P.v (listW (mwK 2).data.toList P.o ++ (listW (mwK 3).data.toList P.p ++ [])) [P.d, [], [], []] a1 (by omega) (by simp) h2
  rw [show ([[], [], [], []] : List (List Dp)).set 0 (([[], [], [], []] : List (List Dp)).getD 0 [] ++ P.d) = [P.d, [], [], []] from rfl, e2]
  obtain ⟨a3, b3, e3⟩ := read_list (X := mfW) (x := (mwK 2).data.toList) (k := 2) (by decide) P.o (listW (mwK 3).data.toList P.p ++ []) [P.d, P.v, [], []] a2 (by omega) (by simp) h3
  rw [show ([P.d, [], [], []] : List (List Dp)).set 1 (([P.d, [], [], []] : List (List Dp)).getD 1 [] ++ P.v) = [P.d, P.v, [], []] from rfl, e3]
  obtain ⟨a4, b4, e4⟩ := read_list (X := mfW) (x := (mwK 3).data.toList) (k := 3) (by decide) P.p [] [P.d, P.v, P.o, []] a3 (by omega) (by simp) h4
  rw [show ([P.d, P.v, [], []] : List (List Dp)).set 2 (([P.d, P.v, [], []] : List (List Dp)).getD 2 [] ++ P.o) = [P.d, P.v, P.o, []] from rfl, e4]
  rfl
/-- Parse of Print. -/
theorem mn_back {P : Mn} (h : writtenMB P = true) : parME (writtenMT P) = 0 ∧ parMP (writtenMT P) = P := by
  have hw := h
  unfold writtenMB at h
  rw [Bool.and_eq_true, decide_eq_true_eq] at h
  obtain ⟨hs, hl⟩ := h
  have ht : writtenMT P = ⟨(textM P).toArray⟩ := by unfold writtenMT; rw [if_pos hw]
  have hsc : Sc.scanR (writtenMT P).data.toList [] [] [] = .ok (mnL P) := by
    have := Sc.scan_text (mnL P) [] (mnL_ok hs)
    rw [mnL_text hs] at this
    rw [ht]
    simpa using this
  have hz : ¬ ((4096 : Int) < ((writtenMT P).size : Int)) := by
    rw [ht]
    have : (⟨(textM P).toArray⟩ : ByteArray).size = (textM P).length := by show (textM P).toArray.size = _; simp
    rw [this]
    omega
  have hE : Sc.ansE (writtenMT P) 4096 = 0 := by unfold Sc.ansE; rw [if_neg hz, hsc]; rfl
  have hL : Sc.ansL (writtenMT P) 4096 = mnL P := by unfold Sc.ansL; rw [if_neg hz, hsc]; rfl
  have hle : linesME (mnL P) = 0 := by
    unfold mnL linesME
    simp only [if_true]
    rw [mn_read hs]
  have hlp : linesMP (mnL P) = P := by
    unfold mnL linesMP
    simp only
    rw [mn_read hs]
    rfl
  unfold parME parMP
  rw [hE, hL, hle, hlp, hw]
  exact ⟨rfl, rfl⟩
/-- One text, one manifest. -/
theorem mn_one {P Q : Mn} (hp : writtenMB P = true) (hq : writtenMB Q = true) : writtenMT P = writtenMT Q ↔ P = Q := by
  constructor
  · intro h
    rw [← (mn_back hp).2, ← (mn_back hq).2, h]
  · rintro rfl
    rfl

/-- The text whose manifest is fixed, its lines, its manifest. -/
def kmT : ByteArray := ⟨#[112, 114, 111, 106, 101, 99, 116, 10, 110, 101, 101, 100, 115, 32, 97, 32, 49, 46, 48, 46, 48, 10, 112, 105, 110, 115, 32, 98, 32, 42, 10]⟩
def kmP : Mn := ⟨[⟨⟨#[97]⟩, [⟨1, 0, 0, 1, 0, 0⟩]⟩], [], [], [⟨⟨#[98]⟩, [⟨0, 0, 0, 999, 999, 999⟩]⟩]⟩
theorem km_text : textM kmP = kmT.data.toList := by decide +kernel
theorem km_once : onceL [kmP.d, kmP.v, kmP.o] = true := once_yes (by simp [namesL, kmP])
theorem km_w : writtenMB kmP = true := by
  unfold writtenMB soundM
  rw [km_once, km_text]
  decide +kernel
theorem km_t : writtenMT kmP = kmT := by unfold writtenMT; rw [if_pos km_w, km_text]
theorem km_par : parME kmT = 0 ∧ parMP kmT = kmP := by
  have := mn_back km_w
  rw [km_t] at this
  exact this
end Go.Proofs.YtjfbgiajjkjghaaGreatDoor
namespace Go.Proofs.YtjfbgiajjkjghaaGreatDoor
open Go.RowKit
set_option maxRecDepth 100000

set_option maxHeartbeats 6400000 in
theorem Parse_mf (t : ByteArray) {w : World} (he : Env w) (hf : FL w) : Calls Tryz.prog 15 #[.string t] w (MkQ w (parME t) (parMP t)) := by
  have HLI : Hid (∀ w1, Calls Tryz.prog 25 #[.string t, .int .i64 4096] w1 fun e w' => ∃ v n, e = .returned (.tuple #[v, .int .i64 (Sc.ansE t 4096), .int .i64 n]) ∧ Sc.LinesAt w' v (Sc.ansL t 4096) ∧ Below w1.heap.size w1 w') := fun w1 => (lines_4096 t w1).mono fun e w' ⟨v, h1, h2, h3⟩ => ⟨v, _, h1, by obtain ⟨ps, hp, hl⟩ := h2; rw [← hp]; exact hl.at, h3⟩
  have HRL : Hid (Sc.ansE t 4096 = 0 → ∀ w1 v, Below w.heap.size w w1 → Sc.LinesAt w1 v (Sc.ansL t 4096) → Calls Tryz.prog 26 #[v] w1 (MkQ w1 (linesME (Sc.ansL t 4096)) (linesMP (Sc.ansL t 4096)))) := fun h0 w1 v hb hl => by
    obtain ⟨s1, s2, s3, s4⟩ := small_of h0
    exact readLinesM_any hl s2 s1 s3 (he.below hb) (hf.below hb)
  have HMA : Hid (∀ w1 (P : Mn) v1 v2 v3 v4, Below w.heap.size w w1 → MnAt w1 P v1 v2 v3 v4 → Calls Tryz.prog 8 #[.agg #[v1, v2, v3, v4]] w1 fun e w' => e = .returned (.bool (writtenMB P)) ∧ Below w1.heap.size w1 w') := fun w1 P v1 v2 v3 v4 hb h => mMay_any h (he.below hb) (hf.below hb)
  have HE : Hid (parME t = if Sc.ansE t 4096 = 0 then (if linesME (Sc.ansL t 4096) = 0 then (if writtenMB (linesMP (Sc.ansL t 4096)) = true then 0 else 25) else linesME (Sc.ansL t 4096)) else Sc.ansE t 4096) := rfl
  have HER : Hid (∀ er w', parME t = er → er ≠ 0 → Below w.heap.size w w' → MkQ w (parME t) (parMP t) (.returned (.tuple #[.agg #[.slice none 0 0, .slice none 0 0, .slice none 0 0, .slice none 0 0], .int .i64 er])) w') := fun er w' h1 h2 hb => MkQ.err h1 h2 hb
  have HOK : Hid (∀ v1 v2 v3 v4 w', parME t = 0 → Below w.heap.size w w' → OwnM w' w.heap.size (linesMP (Sc.ansL t 4096)) v1 v2 v3 v4 → MkQ w (parME t) (parMP t) (.returned (.tuple #[.agg #[v1, v2, v3, v4], .int .i64 0])) w') := fun v1 v2 v3 v4 w' h0 hb ho => by
    rw [h0]
    exact ⟨v1, v2, v3, v4, rfl, hb, fun _ => ho, fun hx => absurd rfl hx⟩
  have HPQ : Hid (∀ w1 er P e w', MkQ w1 er P e w' → ∃ a1 k1 c1 a2 k2 c2 a3 k3 c3 a4 k4 c4, e = .returned (.tuple #[.agg #[.slice a1 k1 c1, .slice a2 k2 c2, .slice a3 k3 c3, .slice a4 k4 c4], .int .i64 er]) ∧ Below w1.heap.size w1 w' ∧ (er = 0 → OwnM w' w1.heap.size P (.slice a1 k1 c1) (.slice a2 k2 c2) (.slice a3 k3 c3) (.slice a4 k4 c4))) := fun w1 er P e w' h => by
    obtain ⟨a1, k1, c1, a2, k2, c2, a3, k3, c3, a4, k4, c4, h1, h2, h3, _⟩ := h.sl
    exact ⟨a1, k1, c1, a2, k2, c2, a3, k3, c3, a4, k4, c4, h1, h2, fun h0 => (h3 h0).1⟩
  clear he hf
  generalize hHQ : MkQ w (parME t) (parMP t) = HQ at *
  clear hHQ
  generalize parME t = PE at *
  generalize Sc.ansE t 4096 = AE at *
  generalize Sc.ansL t 4096 = AL at *
  generalize linesME AL = LE at *
  generalize linesMP AL = LP at *
  have HB0 : Hid (BxMF (w.alloc (.cells #[.slice none 0 0, .slice none 0 0, .slice none 0 0, .slice none 0 0] 24)) w.heap.size (.slice none 0 0) (.slice none 0 0) (.slice none 0 0) (.slice none 0 0)) := BxMF.new rfl _ _ _ _
  have HKB : Hid (KeepP fun w1 => BxMF w1 w.heap.size (.slice none 0 0) (.slice none 0 0) (.slice none 0 0) (.slice none 0 0)) := keepBxMF _ _ _ _ _
  by_cases ha : AE = 0
  · subst ha
    have HR2 := hide3 (HRL.out rfl)
    by_cases hl : LE = 0
    · subst hl
      have HMB := hide3 (fun w1 v1 v2 v3 v4 => HMA.out w1 LP v1 v2 v3 v4)
      cases hwb : writtenMB LP
      · have hL : PE = 25 := by rw [HE.out]; simp [hwb]
        rw [hwb] at HMB
        go_enter Tryz.func15, Tryz.ntmps15
        go_upto_region 7 with (first
          | (go_at_call 25; refine (HLI.out _).mono ?_; rintro e w1 ⟨v, n, rfl, hla, hb1⟩; have HLA := hide3 hla; have HB1 : Hid (Below w.heap.size w w1 ∧ BxMF w1 w.heap.size (.slice none 0 0) (.slice none 0 0) (.slice none 0 0) (.slice none 0 0)) := ⟨below_then (boxB _ _) hb1, HKB.out _ _ HB0.out hb1⟩; obtain ⟨adv, capv, rfl, _⟩ := hla; clear hb1)
          | (go_at_call 26; refine (HR2.out _ _ HB1.out.1 HLA.out).mono ?_; rintro e w2 hq; obtain ⟨a1, k1, c1, a2, k2, c2, a3, k3, c3, a4, k4, c4, rfl, hb2, hok2⟩ := HPQ.out _ _ _ _ _ hq; have how := hok2 rfl; have HB3 : Hid (Below w.heap.size w (w2.alloc (.cells #[.slice a1 k1 c1, .slice a2 k2 c2, .slice a3 k3 c3, .slice a4 k4 c4] 24)) ∧ BxMF (w2.alloc (.cells #[.slice a1 k1 c1, .slice a2 k2 c2, .slice a3 k3 c3, .slice a4 k4 c4] 24)) w.heap.size (.slice none 0 0) (.slice none 0 0) (.slice none 0 0) (.slice none 0 0) ∧ OwnM (w2.alloc (.cells #[.slice a1 k1 c1, .slice a2 k2 c2, .slice a3 k3 c3, .slice a4 k4 c4] 24)) w1.heap.size LP (.slice a1 k1 c1) (.slice a2 k2 c2) (.slice a3 k3 c3) (.slice a4 k4 c4)) := ⟨below_then (below_then HB1.out.1 hb2) (boxB _ _), HKB.out _ _ (HKB.out _ _ HB1.out.2 hb2) (boxB _ _), how.below (boxB _ _)⟩; clear hb2 hq hok2 how))
        have HB12 : Hid (w.heap.size < w1.heap.size) := HB1.out.2.1.2.2.2.2
        have HY3 : Hid (BxMF (w2.alloc (.cells #[.slice a1 k1 c1, .slice a2 k2 c2, .slice a3 k3 c3, .slice a4 k4 c4] 24)) w2.heap.size (.slice a1 k1 c1) (.slice a2 k2 c2) (.slice a3 k3 c3) (.slice a4 k4 c4)) := BxMF.new rfl _ _ _ _
        generalize w2.alloc (.cells #[.slice a1 k1 c1, .slice a2 k2 c2, .slice a3 k3 c3, .slice a4 k4 c4] 24) = w3 at *
        generalize w2.heap.size = M at *
        obtain ⟨⟨y0, y1, y2, y3, y4⟩, _⟩ := HY3.out
        go_wp2_with (go_at_call 8; refine (HMB.out _ _ _ _ _ HB3.out.1 HB3.out.2.2.at).mono ?_; rintro e w4 ⟨rfl, ok4⟩; have HO4 : Hid (Below w.heap.size w w4 ∧ BxMF w4 w.heap.size (.slice none 0 0) (.slice none 0 0) (.slice none 0 0) (.slice none 0 0)) := ⟨below_then HB3.out.1 ok4, HKB.out _ _ HB3.out.2.1 ok4⟩; obtain ⟨⟨b0, b1, b2, b3, b4⟩, hfz⟩ := HO4.out.2; have f0 := hfz 0 (by decide); have f1 := hfz 1 (by decide); have f2 := hfz 2 (by decide); have f3 := hfz 3 (by decide); clear ok4 hfz)
        have s4 := fun u0 u1 u2 u3 => set4 b0 b1 b2 b3 u0 u1 u2 u3
        try simp only [Exit.inBlock, Exit.then]
        refine bodyPost_ret (by simp [results, Tryz.results15, s4, go_sem]; try rfl) rfl ?_
        exact HER.out _ _ hL (by decide) (below_set4 (Nat.le_refl _) HO4.out.1)
      · have hL : PE = 0 := by rw [HE.out]; simp [hwb]
        rw [hwb] at HMB
        go_enter Tryz.func15, Tryz.ntmps15
        go_upto_region 7 with (first
          | (go_at_call 25; refine (HLI.out _).mono ?_; rintro e w1 ⟨v, n, rfl, hla, hb1⟩; have HLA := hide3 hla; have HB1 : Hid (Below w.heap.size w w1 ∧ BxMF w1 w.heap.size (.slice none 0 0) (.slice none 0 0) (.slice none 0 0) (.slice none 0 0)) := ⟨below_then (boxB _ _) hb1, HKB.out _ _ HB0.out hb1⟩; obtain ⟨adv, capv, rfl, _⟩ := hla; clear hb1)
          | (go_at_call 26; refine (HR2.out _ _ HB1.out.1 HLA.out).mono ?_; rintro e w2 hq; obtain ⟨a1, k1, c1, a2, k2, c2, a3, k3, c3, a4, k4, c4, rfl, hb2, hok2⟩ := HPQ.out _ _ _ _ _ hq; have how := hok2 rfl; have HB3 : Hid (Below w.heap.size w (w2.alloc (.cells #[.slice a1 k1 c1, .slice a2 k2 c2, .slice a3 k3 c3, .slice a4 k4 c4] 24)) ∧ BxMF (w2.alloc (.cells #[.slice a1 k1 c1, .slice a2 k2 c2, .slice a3 k3 c3, .slice a4 k4 c4] 24)) w.heap.size (.slice none 0 0) (.slice none 0 0) (.slice none 0 0) (.slice none 0 0) ∧ OwnM (w2.alloc (.cells #[.slice a1 k1 c1, .slice a2 k2 c2, .slice a3 k3 c3, .slice a4 k4 c4] 24)) w1.heap.size LP (.slice a1 k1 c1) (.slice a2 k2 c2) (.slice a3 k3 c3) (.slice a4 k4 c4)) := ⟨below_then (below_then HB1.out.1 hb2) (boxB _ _), HKB.out _ _ (HKB.out _ _ HB1.out.2 hb2) (boxB _ _), how.below (boxB _ _)⟩; clear hb2 hq hok2 how))
        have HB12 : Hid (w.heap.size < w1.heap.size) := HB1.out.2.1.2.2.2.2
        have HY3 : Hid (BxMF (w2.alloc (.cells #[.slice a1 k1 c1, .slice a2 k2 c2, .slice a3 k3 c3, .slice a4 k4 c4] 24)) w2.heap.size (.slice a1 k1 c1) (.slice a2 k2 c2) (.slice a3 k3 c3) (.slice a4 k4 c4)) := BxMF.new rfl _ _ _ _
        generalize w2.alloc (.cells #[.slice a1 k1 c1, .slice a2 k2 c2, .slice a3 k3 c3, .slice a4 k4 c4] 24) = w3 at *
        generalize w2.heap.size = M at *
        obtain ⟨⟨y0, y1, y2, y3, y4⟩, _⟩ := HY3.out
        go_wp2_with (go_at_call 8; refine (HMB.out _ _ _ _ _ HB3.out.1 HB3.out.2.2.at).mono ?_; rintro e w4 ⟨rfl, ok4⟩; have HO4 : Hid (Below w.heap.size w w4 ∧ BxMF w4 w.heap.size (.slice none 0 0) (.slice none 0 0) (.slice none 0 0) (.slice none 0 0)) := ⟨below_then HB3.out.1 ok4, HKB.out _ _ HB3.out.2.1 ok4⟩; have HP4 := hide3 (HB3.out.2.2.below ok4); have HY4 := hide3 (keepBxMF _ _ _ _ _ _ _ HY3.out ok4); clear y0 y1 y2 y3 y4; obtain ⟨⟨y0, y1, y2, y3, y4⟩, _⟩ := HY4.out; obtain ⟨⟨b0, b1, b2, b3, b4⟩, hfz⟩ := HO4.out.2; have f0 := hfz 0 (by decide); have f1 := hfz 1 (by decide); have f2 := hfz 2 (by decide); have f3 := hfz 3 (by decide); clear ok4 hfz)
        have s4 := fun u0 u1 u2 u3 => set4 b0 b1 b2 b3 u0 u1 u2 u3
        try simp only [Exit.inBlock, Exit.then]
        refine bodyPost_ret (by simp [results, Tryz.results15, s4, go_sem]; try rfl) rfl ?_
        refine HOK.out _ _ _ _ _ hL (below_set4 (Nat.le_refl _) HO4.out.1) ?_
        exact (HP4.out.of fun g hg => heap4 (by have := HB12.out; omega)).base (Nat.le_of_lt HB12.out)
    · have hL : PE = LE := by rw [HE.out]; simp [hl]
      have hre : (LE == 0) = false := by simpa using hl
      go_enter Tryz.func15, Tryz.ntmps15
      go_wp2_with (first
        | (go_at_call 25; refine (HLI.out _).mono ?_; rintro e w1 ⟨v, n, rfl, hla, hb1⟩; have HLA := hide3 hla; have HB1 : Hid (Below w.heap.size w w1 ∧ BxMF w1 w.heap.size (.slice none 0 0) (.slice none 0 0) (.slice none 0 0) (.slice none 0 0)) := ⟨below_then (boxB _ _) hb1, HKB.out _ _ HB0.out hb1⟩; obtain ⟨adv, capv, rfl, _⟩ := hla; clear hb1)
        | (go_at_call 26; refine (HR2.out _ _ HB1.out.1 HLA.out).mono ?_; rintro e w2 hq; obtain ⟨a1, k1, c1, a2, k2, c2, a3, k3, c3, a4, k4, c4, rfl, hb2, _⟩ := HPQ.out _ _ _ _ _ hq; have HO4 : Hid (Below w.heap.size w (w2.alloc (.cells #[.slice a1 k1 c1, .slice a2 k2 c2, .slice a3 k3 c3, .slice a4 k4 c4] 24)) ∧ BxMF (w2.alloc (.cells #[.slice a1 k1 c1, .slice a2 k2 c2, .slice a3 k3 c3, .slice a4 k4 c4] 24)) w.heap.size (.slice none 0 0) (.slice none 0 0) (.slice none 0 0) (.slice none 0 0)) := ⟨below_then (below_then HB1.out.1 hb2) (boxB _ _), HKB.out _ _ (HKB.out _ _ HB1.out.2 hb2) (boxB _ _)⟩; obtain ⟨⟨b0, b1, b2, b3, b4⟩, hfz⟩ := HO4.out.2; have f0 := hfz 0 (by decide); have f1 := hfz 1 (by decide); have f2 := hfz 2 (by decide); have f3 := hfz 3 (by decide); clear hb2 hq hfz))
      have s4 := fun u0 u1 u2 u3 => set4 b0 b1 b2 b3 u0 u1 u2 u3
      try simp only [Exit.inBlock, Exit.then]
      refine bodyPost_ret (by simp [results, Tryz.results15, s4, go_sem]; try rfl) rfl ?_
      exact HER.out _ _ hL hl (below_set4 (Nat.le_refl _) HO4.out.1)
  · have hL : PE = AE := by rw [HE.out, if_neg ha]
    have hre : (AE == 0) = false := by simpa using ha
    go_enter Tryz.func15, Tryz.ntmps15
    go_wp2_with (go_at_call 25; refine (HLI.out _).mono ?_; rintro e w1 ⟨v, n, rfl, _, hb1⟩; have HO4 : Hid (Below w.heap.size w w1 ∧ BxMF w1 w.heap.size (.slice none 0 0) (.slice none 0 0) (.slice none 0 0) (.slice none 0 0)) := ⟨below_then (boxB _ _) hb1, HKB.out _ _ HB0.out hb1⟩; obtain ⟨⟨b0, b1, b2, b3, b4⟩, hfz⟩ := HO4.out.2; have f0 := hfz 0 (by decide); have f1 := hfz 1 (by decide); have f2 := hfz 2 (by decide); have f3 := hfz 3 (by decide); clear hb1 hfz)
    have s4 := fun u0 u1 u2 u3 => set4 b0 b1 b2 b3 u0 u1 u2 u3
    try simp only [Exit.inBlock, Exit.then]
    refine bodyPost_ret (by simp [results, Tryz.results15, s4, go_sem]; try rfl) rfl ?_
    exact HER.out _ _ hL ha (below_set4 (Nat.le_refl _) HO4.out.1)
end Go.Proofs.YtjfbgiajjkjghaaGreatDoor
