/- Tw13, Tr1, Ts1, ScLi2, ScRf1, ScRf2, ScLi3, Ta1, Ta2, laid in one text. -/
import Derived.Test.YtogpkhpephhbiaaGreatDoorScA
import Derived.Test.YtogpkhpephhbiaaGreatDoorShelfN
import Derived.Test.YtogpkhpephhbiaaGreatDoorShelfO
import Derived.Test.YtogpkhpephhbiaaGreatDoorMg12
namespace Go.Proofs.YtogpkhpephhbiaaGreatDoor
open Go.RowKit
set_option maxRecDepth 100000

set_option maxHeartbeats 3200000 in
theorem lives_any {w : World} (he : Env w) (hf : FL w) :
    Calls Tryz.prog 7 #[] w fun e w' => e = .returned (.bool true) ∧ Below w.heap.size w w' := by
  have HW : Hid ((w5S w).alloc (.cells #[.slice (some ⟨w.heap.size + 1 + 1 + 1 + 1 + 1, 0, none⟩) 2 2] 76) = w6S w) := rfl
  have hb6 := b6S w
  have hbd : Below (w2S w).heap.size (w2S w) (w6S w) := below_then (boxB (w2S w) _) (below_then (boxB (w3S w) _) (below_then (boxB (w4S w) _) (boxB (w5S w) _)))
  have HD : Hid (∀ w1, Below (w6S w).heap.size (w6S w) w1 → DirsAt w1 (.slice (some ⟨w.heap.size + 1 + 1, 0, none⟩) 2 2) smallL) := fun w1 hb => (dirs2S w).below (below_then hbd hb)
  have HM : Hid (Calls Tryz.prog 23 #[.agg #[.slice (some ⟨w.heap.size + 1 + 1, 0, none⟩) 2 2], .agg #[.slice (some ⟨w.heap.size + 1 + 1 + 1 + 1 + 1, 0, none⟩) 2 2]] (w6S w) fun e w' => ∃ gm cm, e = .returned (.tuple #[.slice (some ⟨gm, 0, none⟩) 2 cm, .int .i64 0]) ∧ (w'.cell? ⟨gm, 1, none⟩ = some (.int .i64 1) ∧ gm < w'.heap.size) ∧ Below (w6S w).heap.size (w6S w) w') := by
    refine (map_any ((dirs2S w).below hbd) (by decide) small_ok ((nodes5S w).below (boxB (w5S w) _)) small_gok (he.below hb6) (hf.below hb6)).mono ?_
    rintro e w' ⟨v', rfl, ho, hb⟩
    rw [small_mapE]
    rw [small_mapO] at ho
    obtain ⟨gm, cm, rfl, _⟩ := ho.form (by decide)
    refine ⟨gm, cm, rfl, ⟨?_, (World.ownsRow.lt ho gm rfl).2⟩, hb⟩
    exact World.ownsRow.cellAt ho 1 (by decide)
  have HL1 : Hid (∀ w1, Below (w6S w).heap.size (w6S w) w1 → Calls Tryz.prog 24 #[.agg #[.slice (some ⟨w.heap.size + 1 + 1, 0, none⟩) 2 2], .int .i64 1, .string ⟨#[97]⟩] w1 fun e w' => e = .returned (.int .i64 1) ∧ Below w1.heap.size w1 w') := fun w1 hb => by
    have h := look_any (HD.out w1 hb) (by decide) small_ok.1 1 sA
    rw [look_1a] at h
    exact h
  have HL2 : Hid (∀ w1, Below (w6S w).heap.size (w6S w) w1 → Calls Tryz.prog 24 #[.agg #[.slice (some ⟨w.heap.size + 1 + 1, 0, none⟩) 2 2], .int .i64 0, .string ⟨#[98]⟩] w1 fun e w' => e = .returned (.int .i64 (-1)) ∧ Below w1.heap.size w1 w') := fun w1 hb => by
    have h := look_any (HD.out w1 hb) (by decide) small_ok.1 0 sB
    rw [look_0b] at h
    exact h
  have HBT : Hid (∀ w1, Below (w6S w).heap.size (w6S w) w1 → w1.cell? ⟨w.heap.size + 1 + 1 + 1, 0, none⟩ = some (.slice (some ⟨w.heap.size + 1 + 1, 0, none⟩) 2 2)) := fun w1 hb => by
    have h3 : (w3S w).heap[w.heap.size + 1 + 1 + 1]? = some (.cells #[.slice (some ⟨w.heap.size + 1 + 1, 0, none⟩) 2 2] 67 (0, 0)) := by
      have h := heap_alloc_new (w2S w) (.cells #[.slice (some ⟨w.heap.size + 1 + 1, 0, none⟩) 2 2] 67)
      rw [s2S] at h
      exact h
    have hb36 : Below (w3S w).heap.size (w3S w) w1 := below_then (below_then (boxB (w3S w) _) (below_then (boxB (w4S w) _) (boxB (w5S w) _))) hb
    refine (hb36.cell (p := ⟨w.heap.size + 1 + 1 + 1, 0, none⟩) (by show w.heap.size + 1 + 1 + 1 < _; rw [s3S]; omega)).trans ?_
    rw [Lib.cell_of_heap h3]
    rfl
  have HB6 := hide3 hb6
  clear hbd hb6 he hf
  go_enter Tryz.func7, Tryz.ntmps7
  have t1 : True := trivial
  go_wp2_with (first
    | (go_at_call 23; refine HM.out.mono ?_; rintro e w7 ⟨gm, cm, rfl, ⟨hc7, hg7⟩, ok⟩; have HO7 := hide3 ok; have b7 := HBT.out _ ok; clear ok)
    | (have _t := t1; go_at_call 24; refine (HL1.out _ HO7.out).mono ?_; rintro e w8 ⟨rfl, ok⟩; have HO8 := hide3 (below_then HO7.out ok); have b8 := HBT.out _ HO8.out; have hc8 := (ok.cell (p := ⟨gm, 1, none⟩) hg7).trans hc7; have hg8 := Nat.lt_of_lt_of_le hg7 ok.size; clear ok t1)
    | (have _t := HO8; go_at_call 24; refine (HL2.out _ HO8.out).mono ?_; rintro e w9 ⟨rfl, ok⟩; have HO9 := hide3 (below_then HO8.out ok); have hc9 := (ok.cell (p := ⟨gm, 1, none⟩) hg8).trans hc8; clear ok))
  go_ret
  exact ⟨rfl, below_then HB6.out HO9.out⟩
end Go.Proofs.YtogpkhpephhbiaaGreatDoor
namespace Go.Proofs.YtogpkhpephhbiaaGreatDoor
open Go.RowKit
set_option maxRecDepth 100000

theorem PathAt.el {w : World} {v : Value} {L : List ByteArray} (h : PathAt w v L) : ∃ ad cap, v = .slice ad L.length cap ∧ L.length ≤ cap ∧ ∀ i (_ : i < L.length), ∃ g o, ad = some ⟨g, o, none⟩ ∧ StIn w g (o + i) L[i] := by
  obtain ⟨ad, cap, rfl, hc, hl⟩ := h
  refine ⟨ad, cap, rfl, hc, fun i hi => ?_⟩
  rcases hl with rfl | ⟨g, o, e, hs⟩
  · cases hi
  · exact ⟨g, o, e, hs i hi⟩

theorem own_sl {w : World} {B : Nat} {v : Value} {n : Nat} {xs : List Value} (h : w.ownsRow B 9 1 v n xs) : ∃ a c, v = .slice a n c := by
  rcases h.2 with ⟨rfl, rfl⟩ | ⟨g, cap, cur, rfl, _⟩
  · exact ⟨none, 0, rfl⟩
  · exact ⟨_, cap, rfl⟩
theorem own_none (w : World) (B : Nat) : w.ownsRow B 9 1 (.slice none 0 0) 0 [] := ⟨rfl, Or.inl ⟨rfl, rfl⟩⟩

set_option maxHeartbeats 1600000 in
/-- The document's joined: a path with a name more. -/
theorem joined_any {p : List ByteArray} {v : Value} {w : World} (h : PathAt w v p) (s : ByteArray) (hl : p.length ≤ 14073748835124) :
    Calls Tryz.prog 28 #[v, .string s] w fun e w' => ∃ a c, e = .returned (.slice a (p.length + 1) c) ∧ PathAt w' (.slice a (p.length + 1) c) (p ++ [s]) ∧ Below w.heap.size w w' := by
  obtain ⟨ad, cap, rfl, hcp, hc⟩ := h
  obtain ⟨i0, hi, hz0, hz1, hz2⟩ := Sc.info_parts Sc.infoStr
  have HFIN : Hid (∀ w1 v1 w2 v2, Below w.heap.size w w1 → w1.ownsRow w.heap.size 9 1 v1 p.length (pcs p) → w2.ownsRow w.heap.size 9 1 v2 (p.length + 1) (pcs p ++ [.string s]) → (w1.alloc (.cells #[.string s] 9)).grownBy w2 v1.ownBlock → ∃ a c, v2 = .slice a (p.length + 1) c ∧ PathAt w2 (.slice a (p.length + 1) c) (p ++ [s]) ∧ Below w.heap.size w w2) := fun w1 v1 w2 v2 hb h1 h2 h3 => by
    have ho : OwnPa w2 w.heap.size v2 (p ++ [s]) := by unfold OwnPa; rw [pcs_snoc, List.length_append]; exact h2
    obtain ⟨a, c, rfl, _⟩ := ho.form
    refine ⟨a, c, by rw [List.length_append]; rfl, ?_, hb.grown (grown_on (boxB _ _) h3) hb.size (fun q hq => (World.ownsRow.lt h1 q hq).1)⟩
    have := ho.at
    rw [List.length_append] at this
    exact this
  cases ad with
  | none =>
    obtain rfl : p = [] := by
      rcases hc with e | ⟨_, _, q, _⟩
      · exact e
      · cases q
    have HON := hide3 (own_none w w.heap.size)
    rw [List.length_nil]
    clear hc
    have t1 : True := trivial
    go_enter Tryz.func28, Tryz.ntmps28
    go_wp2_with (at_builtin; refine wpList_append_own_wide _ rfl (.tmp 9) (.tmp 11) 53 rfl w.heap.size 9 i0 _ 1 16 Tryz.underlying53 hi hz0 hz1 hz2 rfl (by decide) (.slice none 0 0) 0 [] rfl (HON.out.alloc _) ⟨w.heap.size, 0, none⟩ 1 1 [.string s] rfl rfl (cell_one_new _ _ _) (fun u hu => by rw [List.mem_singleton.1 hu]; rfl) (by decide) (by decide) (by simp) ?_; intro v2 w2 ho hgr _; obtain ⟨a2, c2, rfl, hp2, hb2⟩ := HFIN.out w _ w2 v2 (Below.refl _ _) HON.out ho hgr; have HP2 := hide3 hp2; have HB2 := hide3 hb2; clear ho hgr hp2 hb2)
    go_ret
    exact ⟨_, _, rfl, HP2.out, HB2.out⟩
  | some a0 =>
    obtain ⟨g, o, sp⟩ := a0
    have HNW : Hid (∀ j u, (pcs p)[j]? = some u → w.cell? ((⟨g, o, sp⟩ : Addr).add j) = some u) := fun j u hj => by
      rcases hc with e | ⟨g', o', q, hs⟩
      · subst e; simp [pcs] at hj
      · cases q
        exact path_news hs j u hj
    have HON := hide3 (own_none w w.heap.size)
    clear hc
    have t1 : True := trivial
    go_enter Tryz.func28, Tryz.ntmps28
    go_wp2_with (first
      | (have _t := t1; at_builtin; refine wpList_append_own_wide _ rfl (.tmp 6) (.tmp 7) 53 rfl w.heap.size 9 i0 _ 1 16 Tryz.underlying53 hi hz0 hz1 hz2 rfl (by decide) (.slice none 0 0) 0 [] rfl HON.out ⟨g, o, sp⟩ p.length cap (pcs p) rfl (by rw [pcs_length]; omega) HNW.out (pcs_one p) (by unfold maxLen; omega) (by rw [Nat.zero_add]; omega) (Nat.le_refl _) ?_; intro v1 w1 ho hgr _; have HO1 : Hid (w1.ownsRow w.heap.size 9 1 v1 p.length (pcs p)) := (by have e := ho; rw [Nat.zero_add, List.nil_append] at e; exact e); have HB1 : Hid (Below w.heap.size w w1) := (Below.refl _ _).grown hgr (Nat.le_refl _) (fun q hq => by cases hq); have hs1 := HB1.out.size; obtain ⟨a1, c1, rfl⟩ := own_sl HO1.out; clear ho hgr t1)
      | (have _t := HO1; at_builtin; refine wpList_append_own_wide _ rfl (.tmp 9) (.tmp 11) 53 rfl w.heap.size 9 i0 _ 1 16 Tryz.underlying53 hi hz0 hz1 hz2 rfl (by decide) (.slice a1 p.length c1) p.length (pcs p) rfl (HO1.out.alloc _) ⟨w1.heap.size, 0, none⟩ 1 1 [.string s] rfl rfl (cell_one_new _ _ _) (fun u hu => by rw [List.mem_singleton.1 hu]; rfl) (by unfold maxLen; omega) (by omega) (by simp; omega) ?_; intro v2 w2 ho hgr _; obtain ⟨a2, c2, rfl, hp2, hb2⟩ := HFIN.out w1 _ w2 v2 HB1.out HO1.out ho hgr; have HP2 := hide3 hp2; have HB2 := hide3 hb2; clear ho hgr hp2 hb2))
    go_ret
    exact ⟨_, _, rfl, HP2.out, HB2.out⟩
end Go.Proofs.YtogpkhpephhbiaaGreatDoor
namespace Go.Proofs.YtogpkhpephhbiaaGreatDoor
open Go.RowKit
set_option maxRecDepth 100000

theorem wrapN {n : Nat} (h : n ≤ 9223372036854775807) : IntKind.i64.wrap (n : Int) = n := by
  simp [IntKind.wrap, IntKind.bits, IntKind.signed]
  omega

def textBA (L : List ByteArray) : ByteArray := ⟨(textN L).toArray⟩
theorem textBA_size (L : List ByteArray) : (textBA L).size = (textN L).length := by show (textN L).toArray.size = _; simp
theorem textBA_snoc (L : List ByteArray) (s : ByteArray) : textBA (L ++ [s]) = textBA L ++ modS ++ s := by
  refine bytes_same ?_
  rw [ByteArray.toList_eq, ByteArray.toList_eq, app_list, app_list]
  simp [textBA, textN_snoc]

set_option maxHeartbeats 3200000 in
theorem rTextP_w {L : List ByteArray} {v : Value} {w : World} (h : PathAt w v L) (hz : L.length ≤ 4611686018427387904) (hs : ∀ s ∈ L, s.size ≤ 9223372036854775807) (hlen : ∀ k, k ≤ L.length → namesB (L.take k) = true → (textBA (L.take k)).size ≤ 219902325555200) :
    Calls Tryz.prog 27 #[v] w fun e w' => e = .returned (.string (textPa L)) ∧ Below w.heap.size w w' := by
  have HNA : Hid (∀ k (hk : k < L.length) w1, Calls Tryz.prog 26 #[.string L[k]] w1 fun e w' => e = .returned (.bool (Sc.nameA L[k].data.toList)) ∧ w' = w1) := fun k hk w1 => Sc.rName_any _ (hs _ (List.getElem_mem hk)) w1
  obtain ⟨ad, cap, rfl, hc, hel⟩ := h.el
  have HEL := hide3 hel
  clear h hs hel
  by_cases h0 : L = []
  · subst h0
    have HR : Hid (textPa [] = ⟨#[47]⟩) := rfl
    rw [List.length_nil]
    go_enter Tryz.func27, Tryz.ntmps27
    go_wp2
    go_ret
    exact ⟨by rw [HR.out]; rfl, Below.refl _ _⟩
  · have hpos : 0 < L.length := List.length_pos_iff.2 h0
    have HNO : Hid (namesB L = false → textPa L = ⟨#[]⟩) := fun e => by unfold textPa; rw [if_neg h0, if_neg (by rw [e]; simp)]
    have HYE : Hid (namesB L = true → textPa L = textBA L) := fun e => by unfold textPa; rw [if_neg h0, if_pos e]; rfl
    have HL : Hid (∀ k, k ≤ L.length → namesB (L.take k) = true → (textBA (L.take k)).size ≤ 219902325555200) := hlen
    clear hlen
    have hne0 : ((L.length : Int) == 0) = false := by rw [beq_eq_false_iff_ne]; omega
    have HT0 : Hid (textBA (L.take 0) = ⟨#[]⟩) := rfl
    clear h0
    go_enter Tryz.func27, Tryz.ntmps27
    go_wp2_with fail
    go_loopw [3, 4] (fun vo vi wr => ∃ k : Nat, k ≤ L.length ∧ vi = .int .i64 k ∧ vo = .string (textBA (L.take k)) ∧ wr = w ∧ namesB (L.take k) = true) (fun _ vi _ => L.length - (intOf vi).toNat)
    case atStart => exact ⟨0, Nat.zero_le _, rfl, by rw [HT0.out], rfl, rfl⟩
    case round =>
      obtain ⟨k, hk, rfl, rfl, hww, hns⟩ := hrel
      subst wr
      by_cases hlt : k < L.length
      · obtain ⟨g, o, rfl, c0, c1⟩ := HEL.out k hlt
        have HLK := hide3 (HL.out k hk hns)
        have HTS : Hid (textBA (L.take (k + 1)) = textBA (L.take k) ++ modS ++ L[k]) := by
          unfold Hid
          rw [List.take_succ_eq_append_getElem hlt, textBA_snoc]
        have HNT : Hid (Sc.nameA L[k].data.toList = true → namesB (L.take (k + 1)) = true) := fun e => by rw [names_take hlt, hns, e]; rfl
        have HNB : Hid (Sc.nameA L[k].data.toList = false → namesB L = false) := fun e => names_bad hlt e
        have HNM := hide3 (HNA.out k hlt)
        generalize textBA (L.take k) = tx at *
        generalize L[k] = s at *
        clear hns
        cases hn : Sc.nameA s.data.toList
        · have HR := hide3 (HNO.out (HNB.out hn))
          rw [hn] at HNM
          clear HNT HNB HNO HYE
          go_wp2_with (go_at_call 26; refine (HNM.out _).mono ?_; rintro e w1 ⟨rfl, hw1⟩; subst w1)
          go_ret
          exact ⟨by rw [HR.out]; rfl, Below.refl _ _⟩
        · have HR := hide3 (HNT.out hn)
          rw [hn] at HNM
          have hs16 : s.size ≤ 16 := name_size hn
          have hms : modS.size = 9 := rfl
          have hlk := HLK.out
          have e1 := fun W : World => run_string_add_sum (P := Tryz.prog) (w := W) tx modS (by omega)
          have e2 := fun W : World => run_string_add_sum (P := Tryz.prog) (w := W) (tx ++ modS) s (by rw [app_size]; omega)
          unfold modS at e1 e2
          clear HNT HNB HNO HYE hlk
          go_wp2_with (go_at_call 26; refine (HNM.out _).mono ?_; rintro e w1 ⟨rfl, hw1⟩; subst w1)
          exact ⟨⟨k + 1, by omega, by go_num, by rw [HTS.out]; rfl, trivial, HR.out⟩, by simp [intOf]; omega⟩
      · obtain rfl : k = L.length := by omega
        rw [List.take_length] at hns ⊢
        have HR : Hid (textPa L = textBA L) := HYE.out hns
        go_wp2
        go_ret
        exact ⟨by rw [HR.out]; rfl, Below.refl _ _⟩

theorem rTextP_any {L : List ByteArray} {v : Value} {w : World} (h : PathAt w v L) (hz : L.length * 16 ≤ 140737488355328) (hs : ∀ s ∈ L, s.size ≤ 9223372036854775807) :
    Calls Tryz.prog 27 #[v] w fun e w' => e = .returned (.string (textPa L)) ∧ Below w.heap.size w w' :=
  rTextP_w h (by omega) hs fun k hk hn => by
    have := textN_len hn
    rw [List.length_take] at this
    rw [textBA_size]
    omega

end Go.Proofs.YtogpkhpephhbiaaGreatDoor
namespace Go.Proofs.YtogpkhpephhbiaaGreatDoor.Sc
open Go.RowKit
set_option maxRecDepth 100000

/-- The frame: text, bound, lines, words, where it is, where the word began. -/
def Fr (t : ByteArray) (most : Int) (vl vw vk vf : Value) (a : Act) : Prop := ∃ (u2 u3 u4 u5 u6 u11 u12 u13 u14 u15 u16 u17 u18 u19 u20 u21 u22 u23 u24 u25 u26 u27 u28 u29 u30 u31 u32 u33 u34 u35 u36 u37 u38 u39 u40 u41 u42 u43 u44 u45 u46 u47 u48 u49 u50 u51 u52 u53 u54 u55 u56 u57 u58 u59 u60 u61 u62 u63 u64 u65 u66 : Value), a = { tmps := #[.string t, .int .i64 most, u2, u3, u4, u5, u6, vl, vw, vk, vf, u11, u12, u13, u14, u15, u16, u17, u18, u19, u20, u21, u22, u23, u24, u25, u26, u27, u28, u29, u30, u31, u32, u33, u34, u35, u36, u37, u38, u39, u40, u41, u42, u43, u44, u45, u46, u47, u48, u49, u50, u51, u52, u53, u54, u55, u56, u57, u58, u59, u60, u61, u62, u63, u64, u65, u66], defers := [] }

/-- What holds at a label, the frame aside. -/
def D4 (t : ByteArray) (w : World) (R : Except Nat (List (List Bs))) (l : Nat) (vl vw vf : Value) (k : Nat) (w' : World) : Prop :=
    ((l = 0 ∧ ∃ ps, St w vl (.slice none 0 0) ps [] w' ∧ ps.length ≤ k ∧ scanR (t.data.toList.drop k) [] [] (ps.map (·.2)) = R) ∨
     (l = 1 ∧ ∃ ps ws, St w vl vw ps ws w' ∧ ps.length ≤ k ∧ ws.length ≤ k ∧ ws ≠ [] ∧ scanR (t.data.toList.drop k) [] ws (ps.map (·.2)) = R) ∨
     (l = 2 ∧ ∃ (f : Nat) (ps : List (Value × List Bs)) (ws : List Bs), vf = .int .i64 f ∧ f < k ∧ St w vl vw ps ws w' ∧ ps.length ≤ k ∧ ws.length ≤ k ∧ scanR (t.data.toList.drop k) ((t.data.toList.take k).drop f) ws (ps.map (·.2)) = R) ∨
     (l = 3 ∧ ∃ ps, LL w' w.heap.size vl ps ∧ ps.length ≤ k ∧ Below w.heap.size w w' ∧ R = .error (ps.length + 1)))
/-- What holds at a label. -/
def J4 (t : ByteArray) (most : Int) (w : World) (R : Except Nat (List (List Bs))) (l : Nat) (a : Act) (w' : World) : Prop :=
  ∃ (vl vw vf : Value) (k : Nat), Fr t most vl vw (.int .i64 k) vf a ∧ k ≤ t.size ∧ D4 t w R l vl vw vf k w'
/-- A measure that each pass lowers. -/
def mu4 (t : ByteArray) (l : Nat) (a : Act) (_ : World) : Nat := if l = 3 then 0 else t.size + 1 - (intOf (a.tmps.getD 9 undef)).toNat

theorem mu4_at {t : ByteArray} {most : Int} {vl vw vf : Value} {k : Nat} {a : Act} {w : World} (h : Fr t most vl vw (.int .i64 k) vf a) {l : Nat} (hl : l ≠ 3) : mu4 t l a w = t.size + 1 - k := by
  obtain ⟨u2, u3, u4, u5, u6, u11, u12, u13, u14, u15, u16, u17, u18, u19, u20, u21, u22, u23, u24, u25, u26, u27, u28, u29, u30, u31, u32, u33, u34, u35, u36, u37, u38, u39, u40, u41, u42, u43, u44, u45, u46, u47, u48, u49, u50, u51, u52, u53, u54, u55, u56, u57, u58, u59, u60, u61, u62, u63, u64, u65, u66, rfl⟩ := h
  unfold mu4
  rw [if_neg hl]
  rfl

def linE : Except Nat (List (List Bs)) → Int
  | .ok _ => 0
  | .error _ => 22
def linN : Except Nat (List (List Bs)) → Nat
  | .ok _ => 0
  | .error n => n
def linL : Except Nat (List (List Bs)) → List (List Bs)
  | .ok L => L
  | .error _ => []
/-- Lines of one's own. -/
def OwnLL (w : World) (B : Nat) (v : Value) (L : List (List Bs)) : Prop := ∃ ps, ps.map (·.2) = L ∧ LL w B v ps
/-- What Lines answers with. -/
def LinesP (w : World) (R : Except Nat (List (List Bs))) (e : Ending) (w' : World) : Prop := ∃ v, e = .returned (.tuple #[v, .int .i64 (linE R), .int .i64 (linN R : Int)]) ∧ OwnLL w' w.heap.size v (linL R) ∧ Below w.heap.size w w'
theorem LinesP.ok {w w' : World} {R : Except Nat (List (List Bs))} {vl : Value} {ps : List (Value × List Bs)} (hR : R = .ok (ps.map (·.2))) (h : LL w' w.heap.size vl ps) (hb : Below w.heap.size w w') : LinesP w R (.returned (.tuple #[vl, .int .i64 0, .int .i64 0])) w' := by
  subst hR
  exact ⟨vl, rfl, ⟨ps, rfl, h⟩, hb⟩
theorem LinesP.no {w w' : World} {R : Except Nat (List (List Bs))} {n : Nat} (hR : R = .error n) (hb : Below w.heap.size w w') : LinesP w R (.returned (.tuple #[.slice none 0 0, .int .i64 22, .int .i64 (n : Int)])) w' := by
  subst hR
  exact ⟨_, rfl, ⟨[], rfl, LL.nil _ _⟩, hb⟩
theorem drop_at {t : ByteArray} {k : Nat} (h : k < t.size) : t.data.toList.drop k = t[k] :: t.data.toList.drop (k + 1) := List.drop_eq_getElem_cons (by rw [list_size]; exact h)
theorem take_at {t : ByteArray} {f k : Nat} (h : k < t.size) (hf : f ≤ k) : (t.data.toList.take (k + 1)).drop f = (t.data.toList.take k).drop f ++ [t[k]] := by
  rw [List.take_succ_eq_append_getElem (by rw [list_size]; exact h), List.drop_append_of_le_length (by rw [List.length_take, list_size]; omega)]
  rfl
theorem cur_ne {t : ByteArray} {f k : Nat} (h : k ≤ t.size) (hf : f < k) : (t.data.toList.take k).drop f ≠ [] := by
  intro e
  have := congrArg List.length e
  rw [List.length_drop, List.length_take, list_size] at this
  simp at this
  omega
theorem cur_nil (t : ByteArray) (k : Nat) : (t.data.toList.take k).drop k = [] := List.drop_of_length_le (by rw [List.length_take]; omega)
theorem drop_end {t : ByteArray} {k : Nat} (h : ¬ k < t.size) : t.data.toList.drop k = [] := List.drop_of_length_le (by rw [list_size]; omega)


theorem jump_ok {t : ByteArray} {most : Int} {w w' : World} {R : Except Nat (List (List Bs))} {vl vw vf : Value} {a : Act} {k k' l N : Nat} (hF : Fr t most vl vw (.int .i64 (k' : Nat)) vf a) (hl : l ≠ 3) (hN : N = t.size + 1 - k) (hk : k < k') (hk' : k' ≤ t.size) (h : D4 t w R l vl vw vf k' w') : J4 t most w R l a w' ∧ mu4 t l a w' < N :=
  ⟨⟨vl, vw, vf, k', hF, hk', h⟩, by rw [mu4_at hF hl, hN]; omega⟩
theorem jump_wrong {t : ByteArray} {most : Int} {w w' : World} {R : Except Nat (List (List Bs))} {vl vw vf : Value} {a : Act} {k k' N : Nat} {ps : List (Value × List Bs)} (hF : Fr t most vl vw (.int .i64 (k' : Nat)) vf a) (hN : N = t.size + 1 - k) (hk : k ≤ t.size) (hk' : k' ≤ t.size) (h : LL w' w.heap.size vl ps) (hp : ps.length ≤ k') (hb : Below w.heap.size w w') (hR : R = .error (ps.length + 1)) : J4 t most w R 3 a w' ∧ mu4 t 3 a w' < N :=
  ⟨⟨vl, vw, vf, k', hF, hk', Or.inr (Or.inr (Or.inr ⟨rfl, ps, h, hp, hb, hR⟩))⟩, by show (if 3 = 3 then 0 else _) < N; rw [if_pos rfl]; omega⟩
theorem own_one {w : World} {B : Nat} {v : Value} {ws : List Bs} (h : OwnW w B v ws) : v.oneCell' = true := by
  rcases h.2 with ⟨rfl, _⟩ | ⟨g, cap, cur, rfl, _⟩ <;> rfl

theorem own_form {w : World} {B : Nat} {v : Value} {ws : List Bs} {x : Bs} (h : OwnW w B v (ws ++ [x])) : ∃ g cap, v = .slice (some ⟨g, 0, none⟩) (ws.length + 1) cap := by
  rcases h.2 with ⟨_, h0⟩ | ⟨g, cap, cur, rfl, _⟩
  · simp at h0
  · exact ⟨g, cap, by simp⟩
end Go.Proofs.YtogpkhpephhbiaaGreatDoor.Sc
namespace Go.Proofs.YtogpkhpephhbiaaGreatDoor.Sc
open Go.RowKit
set_option maxRecDepth 100000

theorem wB_of {b : UInt8} (h : wB b = true) : 33 ≤ b.toNat ∧ b.toNat ≤ 126 := by simpa [wB] using h
theorem wB_no {b : UInt8} (h : wB b = false) : b.toNat < 33 ∨ 126 < b.toNat := by
  simp [wB] at h
  omega
end Go.Proofs.YtogpkhpephhbiaaGreatDoor.Sc
namespace Go.Proofs.YtogpkhpephhbiaaGreatDoor.Sc
open Go.RowKit
set_option maxRecDepth 100000

theorem cutF_len (b : UInt8) : ∀ (t c : Bs), (cutF b c t).length ≤ t.length + 1
  | [], c => by simp [cutF]
  | x :: r, c => by
    by_cases hx : x = b
    · subst hx; rw [cutF_hit]; have := cutF_len x r []; simp; omega
    · rw [cutF_go hx]; have := cutF_len b r (c ++ [x]); simp; omega
theorem cutF_size (b : UInt8) : ∀ (t c : Bs), ∀ p ∈ cutF b c t, p.length ≤ c.length + t.length
  | [], c, p, hp => by simp [cutF] at hp; subst hp; simp
  | x :: r, c, p, hp => by
    by_cases hx : x = b
    · subst hx
      rw [cutF_hit] at hp
      rcases List.mem_cons.1 hp with rfl | hp
      · simp
      · have := cutF_size x r [] p hp; simp at *; omega
    · rw [cutF_go hx] at hp
      have := cutF_size b r (c ++ [x]) p hp
      simp at *; omega
theorem lineR_isW {s : Bs} : (lineR s).isSome = (cutF 32 [] s).all isW := by unfold lineR; split <;> simp_all
theorem lineR_some {s : Bs} (h : (cutF 32 [] s).all isW = true) : lineR s = some (cutF 32 [] s) := by unfold lineR; rw [if_pos h]
theorem lineR_none {s : Bs} (h : (cutF 32 [] s).all isW = false) : lineR s = none := by unfold lineR; rw [if_neg (by rw [h]; simp)]

def okW (P : List Bs) : List Bs := if P.all isW = true then P else []
theorem okW_yes {P : List Bs} (h : P.all isW = true) : okW P = P := by unfold okW; rw [if_pos h]
theorem okW_no {P : List Bs} (h : P.all isW = false) : okW P = [] := by unfold okW; rw [if_neg (by rw [h]; simp)]

theorem own_some {w : World} {B : Nat} {v : Value} {ws : List Bs} (h : OwnW w B v ws) (hne : ws ≠ []) : ∃ g cap, v = .slice (some ⟨g, 0, none⟩) ws.length cap := by
  rcases h.2 with ⟨_, h0⟩ | ⟨g, cap, cur, rfl, _⟩
  · exact absurd (List.eq_nil_of_length_eq_zero h0) hne
  · exact ⟨g, cap, rfl⟩
theorem row_mono {w : World} {base base' : Nat} {e : TypeId} {size : Nat} {v : Value} {n : Nat} {xs : List Value} (h : w.ownsRow base e size v n xs) (hb : base' ≤ base) : w.ownsRow base' e size v n xs := by
  refine ⟨h.1, ?_⟩
  rcases h.2 with hn | ⟨g, cap, cur, hv, hB, r⟩
  · exact Or.inl hn
  · exact Or.inr ⟨g, cap, cur, hv, Nat.le_trans hb hB, r⟩
theorem LL.base {w : World} {B C : Nat} {vl : Value} {ps : List (Value × List Bs)} (h : LL w B vl ps) (hc : C ≤ B) : LL w C vl ps :=
  ⟨row_mono h.1 hc, fun p hp => ⟨row_mono (h.2.1 p hp).1 hc, (h.2.1 p hp).2⟩, h.2.2.1, h.2.2.2⟩
/-- A list of one's own that came of a call. -/
theorem St.take {w0 : World} {vl vw : Value} {ps : List (Value × List Bs)} {ws : List Bs} {w w' : World} (h : St w0 vl (.slice none 0 0) ps [] w) (ho : OwnW w' w.heap.size vw ws) (hb : Below w.heap.size w w') : St w0 vl vw ps ws w' := by
  obtain ⟨h1, h2, h3, h4, h5⟩ := h
  have hs := h5.size
  refine ⟨h1.below hb, row_mono ho hs, ?_, ?_, below_then h5 hb⟩
  · intro p hp e
    obtain ⟨g, hg⟩ := (h1.2.1 p hp).1.block (h1.2.1 p hp).2
    rw [hg] at e
    have a := (World.ownsRow.lt ho g e).1
    have b := (World.ownsRow.lt (h1.2.1 p hp).1 g hg).2
    omega
  · cases hv : vw.ownBlock with
    | none => exact Or.inl rfl
    | some g =>
      refine Or.inr fun e => ?_
      have a := (World.ownsRow.lt ho g hv).1
      have b := (World.ownsRow.lt h1.1 g e.symm).2
      omega

theorem ref_more {P : List Bs} {k : Nat} (h : k + 1 < P.length) (ls : List (List Bs)) : refR ls (P.drop k) = match lineR (P[k]'(by omega)) with | none => .error (ls.length + 1) | some w => refR (ls ++ [w]) (P.drop (k + 1)) := by
  have h1 : P.drop k = P[k]'(by omega) :: P.drop (k + 1) := List.drop_eq_getElem_cons (by omega)
  have h2 : P.drop (k + 1) = P[k + 1] :: P.drop (k + 1 + 1) := List.drop_eq_getElem_cons h
  rw [h1, h2]
  rfl
theorem ref_last {P : List Bs} {k : Nat} (h : k < P.length) (h2 : ¬ k + 1 < P.length) (ls : List (List Bs)) : refR ls (P.drop k) = if P[k] = [] then .ok ls else .error (ls.length + 1) := by
  have h1 : P.drop k = P[k]'(by omega) :: P.drop (k + 1) := List.drop_eq_getElem_cons (by omega)
  rw [h1, List.drop_of_length_le (by omega : P.length ≤ k + 1)]
  rfl
end Go.Proofs.YtogpkhpephhbiaaGreatDoor.Sc
namespace Go.Proofs.YtogpkhpephhbiaaGreatDoor.Sc
open Go.RowKit
set_option maxRecDepth 100000

theorem Clone_any (s : ByteArray) (hs : s.size ≤ 281474976710656) (w : World) : Calls Tryz.prog 33 #[.string s] w fun e w' => e = .returned (.string s) ∧ Below w.heap.size w w' := by
  have HC := hide3 (Tryz.stringslite_Clone s w hs)
  go_enter Tryz.func33, Tryz.ntmps33
  go_wp2_with (go_at_call 50; refine HC.out.mono ?_; rintro e w1 ⟨rfl, hb⟩; have HB := hide3 hb; clear hb)
  go_ret
  exact ⟨rfl, HB.out⟩

/-- What both answer, with a bound. -/
def ansE (t : ByteArray) (most : Int) : Int := if most < (t.size : Int) then 25 else linE (scanR t.data.toList [] [] [])
def ansN (t : ByteArray) (most : Int) : Nat := if most < (t.size : Int) then 0 else linN (scanR t.data.toList [] [] [])
def ansL (t : ByteArray) (most : Int) : List (List Bs) := if most < (t.size : Int) then [] else linL (scanR t.data.toList [] [] [])
/-- A new answer. -/
def LinesQ (w : World) (e1 : Int) (n : Nat) (L : List (List Bs)) (e : Ending) (w' : World) : Prop := ∃ v, e = .returned (.tuple #[v, .int .i64 e1, .int .i64 (n : Int)]) ∧ OwnLL w' w.heap.size v L ∧ Below w.heap.size w w'

/-- Lines of a text are not too many. -/
theorem scan_fits : ∀ (t cur : Bs) (ws : List Bs) (ls L : List (List Bs)) (N : Nat), scanR t cur ws ls = .ok L → ls.length + t.length ≤ N → ws.length + t.length ≤ N → (∀ l ∈ ls, l.length ≤ N) → L.length ≤ N ∧ ∀ l ∈ L, l.length ≤ N
  | [], cur, ws, ls, L, N, h, h1, h2, h3 => by
    unfold scanR at h
    split at h
    · cases h; simp at h1; exact ⟨h1, h3⟩
    · cases h
  | b :: r, cur, ws, ls, L, N, h, h1, h2, h3 => by
    simp only [List.length_cons] at h1 h2
    by_cases hb : wB b = true
    · rw [scan_b hb] at h; exact scan_fits r _ _ _ L N h (by omega) (by omega) h3
    · have hb' : wB b = false := by simpa using hb
      by_cases hc : cur = []
      · subst hc; rw [scan_none hb'] at h; cases h
      · by_cases h32 : b = 32
        · subst h32; rw [scan_32 hc] at h; exact scan_fits r _ _ _ L N h (by omega) (by simp; omega) h3
        · by_cases h10 : b = 10
          · subst h10
            rw [scan_10 hc] at h
            refine scan_fits r _ _ _ L N h (by simp; omega) (by simp; omega) ?_
            intro l hl
            rcases List.mem_append.1 hl with hl | hl
            · exact h3 l hl
            · rw [List.mem_singleton.1 hl]; simp; omega
          · rw [scan_bad hb' h32 h10] at h; cases h
theorem lin_fits (t : ByteArray) : (linL (scanR t.data.toList [] [] [])).length ≤ t.size ∧ ∀ l ∈ linL (scanR t.data.toList [] [] []), l.length ≤ t.size := by
  cases h : scanR t.data.toList [] [] [] with
  | error n => exact ⟨Nat.zero_le _, fun l hl => by cases hl⟩
  | ok L => exact scan_fits _ _ _ _ L t.size h (by rw [list_size]; simp) (by rw [list_size]; simp) (fun l hl => by cases hl)
end Go.Proofs.YtogpkhpephhbiaaGreatDoor.Sc
namespace Go.Proofs.YtogpkhpephhbiaaGreatDoor
open Go.RowKit
set_option maxRecDepth 100000

def modL : List UInt8 := modS.data.toList
theorem modL_len : modL.length = 9 := rfl
/-- The bytes ahead of a stroke. -/
def headS (r : List UInt8) : List UInt8 := r.takeWhile fun b => b != 47
theorem headS_le (r : List UInt8) : (headS r).length ≤ r.length := (List.takeWhile_prefix _).length_le
theorem headS_take (r : List UInt8) : r.take (headS r).length = headS r := (List.prefix_iff_eq_take.1 (List.takeWhile_prefix _)).symm
theorem headS_cons {b : UInt8} {r : List UInt8} (h : b ≠ 47) : headS (b :: r) = b :: headS r := by unfold headS; rw [List.takeWhile_cons_of_pos (by simpa using h)]
theorem headS_no : ∀ r : List UInt8, (47 : UInt8) ∉ headS r
  | [] => by simp [headS]
  | b :: r => by
    by_cases hb : b = 47
    · subst hb
      simp [headS]
    · rw [headS_cons hb]
      intro h
      rcases List.mem_cons.1 h with e | h
      · exact hb e.symm
      · exact headS_no r h
theorem headS_all : ∀ {r : List UInt8}, (47 : UInt8) ∉ r → headS r = r
  | [], _ => rfl
  | b :: r, h => by
    rw [headS_cons (fun e => h (by rw [e]; exact List.mem_cons_self)), headS_all fun q => h (List.mem_cons_of_mem _ q)]
theorem headS_app {a r : List UInt8} (h : (47 : UInt8) ∉ a) (hr : r = [] ∨ ∃ t, r = 47 :: t) : headS (a ++ r) = a := by
  unfold headS
  rw [List.takeWhile_append_of_pos (fun x hx => by rw [bne_iff_ne]; exact fun e => h (e ▸ hx))]
  rcases hr with rfl | ⟨t, rfl⟩ <;> simp
theorem headS_next (r : List UInt8) : r.drop (headS r).length = [] ∨ ∃ t, r.drop (headS r).length = 47 :: t := by
  induction r with
  | nil => exact Or.inl rfl
  | cons b r ih =>
    by_cases hb : b = 47
    · subst hb
      exact Or.inr ⟨r, rfl⟩
    · have : headS (b :: r) = b :: headS r := by unfold headS; rw [List.takeWhile_cons_of_pos (by simpa using hb)]
      rw [this]
      exact ih

/-- The names of a path's text. -/
def parts (r : List UInt8) : Option (List ByteArray) :=
  if r = [] then some []
  else if modL.isPrefixOf r = true ∧ Sc.nameA (headS (r.drop 9)) = true then (parts ((r.drop 9).drop (headS (r.drop 9)).length)).map fun L => Sc.ba (headS (r.drop 9)) :: L
  else none
termination_by r.length
decreasing_by
  have : 0 < r.length := List.length_pos_iff.2 ‹_›
  simp only [List.length_drop]
  omega
theorem parts_nil : parts [] = some [] := by rw [parts]; simp
theorem parts_no {r : List UInt8} (h0 : r ≠ []) (h : ¬ (modL.isPrefixOf r = true ∧ Sc.nameA (headS (r.drop 9)) = true)) : parts r = none := by rw [parts, if_neg h0, if_neg h]
theorem parts_on {r : List UInt8} (h0 : r ≠ []) (h1 : modL.isPrefixOf r = true) (h2 : Sc.nameA (headS (r.drop 9)) = true) : parts r = (parts ((r.drop 9).drop (headS (r.drop 9)).length)).map fun L => Sc.ba (headS (r.drop 9)) :: L := by rw [parts, if_neg h0, if_pos ⟨h1, h2⟩]

/-- What is read. -/
def parseV (t : List UInt8) : Option (List ByteArray) := if t = [47] then some [] else if t = [] then none else parts t

theorem nameA_no {s : List UInt8} (h : Sc.nameA s = true) : (47 : UInt8) ∉ s := fun q => by
  unfold Sc.nameA at h
  rw [Bool.and_eq_true, Bool.and_eq_true, List.all_eq_true] at h
  exact absurd (h.1.2 _ q) (by decide)
theorem nameA_pos {s : List UInt8} (h : Sc.nameA s = true) : 0 < s.length := by
  cases s with
  | nil => cases h
  | cons _ _ => simp

theorem idx_head : ∀ l : List UInt8, (Lib.indexByte l 47 = -1 ∧ headS l = l) ∨ (Lib.indexByte l 47 = ((headS l).length : Int) ∧ (headS l).length < l.length)
  | [] => Or.inl ⟨rfl, rfl⟩
  | b :: l => by
    by_cases hb : b = 47
    · subst hb
      exact Or.inr ⟨rfl, by simp [headS]⟩
    · have e : headS (b :: l) = b :: headS l := by unfold headS; rw [List.takeWhile_cons_of_pos (by simpa using hb)]
      have hb2 : (b == 47) = false := by simpa using hb
      unfold Lib.indexByte
      rw [e, hb2]
      rcases idx_head l with ⟨h1, h2⟩ | ⟨h1, h2⟩
      · exact Or.inl ⟨by rw [h1]; rfl, by rw [h2]⟩
      · refine Or.inr ⟨?_, by simpa using h2⟩
        have : (Lib.indexByte l 47 == -1) = false := by rw [h1, beq_eq_false_iff_ne]; omega
        rw [this, h1]
        simp

set_option maxHeartbeats 1600000 in
/-- A text cut at its first stroke. -/
theorem lcut_any (s : ByteArray) (hsz : s.size ≤ 9223372036854775807) (w : World) : Calls Tryz.prog 61 #[.string s, .string ⟨#[47]⟩] w fun e w' => ∃ x y, e = .returned (.tuple #[.string (Sc.ba (headS s.data.toList)), .string x, .bool y]) ∧ Below w.heap.size w w' := by
  have HI := hide3 (Tryz.stringslite_Index_one s 47 w)
  rcases idx_head s.data.toList with ⟨e1, e2⟩ | ⟨e1, e2⟩
  · have HS : Hid (Sc.ba (headS s.data.toList) = s) := by unfold Hid; rw [e2]; rfl
    rw [e1] at HI
    clear e1 e2
    rw [HS.out]
    go_enter Tryz.func61, Tryz.ntmps61
    go_wp2_with (go_at_call 73; refine HI.out.mono ?_; rintro e w1 ⟨rfl, rfl⟩)
    go_ret3
    exact ⟨_, _, rfl, Below.refl _ _⟩
  · rw [e1] at HI
    have HS : Hid (s.extract 0 (headS s.data.toList).length = Sc.ba (headS s.data.toList)) := by unfold Hid; rw [Sc.ba_extract, List.drop_zero, headS_take]
    rw [list_size] at e2
    rw [← HS.out]
    clear e1 HS
    generalize (headS s.data.toList).length = i at *
    have c1 : (0 : Int) ≤ ↑i := by omega
    have c2 : (↑i : Int) ≤ ↑s.size := by omega
    have c3 : (0 : Int) ≤ ↑i + 1 := by omega
    have c4 : (↑i + 1 : Int) ≤ ↑s.size := by omega
    have hw : IntKind.i64.wrap ((i : Int) + 1) = (i : Int) + 1 := by simpa using wrapN (n := i + 1) (by omega)
    have c5 : i ≤ s.size := by omega
    have c6 : i + 1 ≤ s.size := by omega
    have HK : Hid (KeepP fun w1 => Below w.heap.size w w1) := keepBelow w
    have HO : Hid (Below w.heap.size w w) := Below.refl _ _
    go_enter Tryz.func61, Tryz.ntmps61
    go_wp2_with (go_at_call 73; refine HI.out.mono ?_; rintro e w1 ⟨rfl, rfl⟩)
    refine wp_region_keep HK.out (by kernel_rfl) (by kernel_rfl) (by first | exact HO.out | exact HK.out.drew HO.out) ?_
    intro C hin hout
    have HIN := hide3 hin
    have HOUT := hide3 hout
    clear hin hout HO
    repeat
      (with_reducible refine wpQuiet_step (fun K hK => ?_)
       go_simp
       first
         | (refine hK _ ?_; clear hK K)
         | (apply Exists.intro; refine ⟨fun w1 hC => ?_, hK _ ?_⟩; (focus ((first | (exact rfl) | (obtain hb1 := HOUT.out w1 hC; clear hC; go_simp; first | done | exact rfl)); done)); clear hK K))
    refine wpQuiet_nil ?_
    intro wn hC
    have HO := hide3 (HOUT.out _ hC)
    clear hC HIN HOUT C
    obtain hb1 := HO.out
    go_wp2
    go_ret3
    exact ⟨_, _, rfl, HO.out⟩

theorem cut_any (s : ByteArray) (hsz : s.size ≤ 9223372036854775807) (w : World) : Calls Tryz.prog 49 #[.string s, .string ⟨#[47]⟩] w fun e w' => ∃ x y, e = .returned (.tuple #[.string (Sc.ba (headS s.data.toList)), .string x, .bool y]) ∧ Below w.heap.size w w' := by
  have HC := hide3 (lcut_any s hsz w)
  go_enter Tryz.func49, Tryz.ntmps49
  go_wp2_with (go_at_call 61; refine HC.out.mono ?_; rintro e w1 ⟨x, y, rfl, ok⟩; have HB := hide3 ok; clear ok)
  go_ret3
  exact ⟨_, _, rfl, HB.out⟩

set_option maxHeartbeats 1600000 in
/-- The first name of a path's text. -/
theorem first_yes (r : ByteArray) (hsz : r.size ≤ 9223372036854775807) (hp : modL.isPrefixOf r.data.toList = true) (w : World) : Calls Tryz.prog 32 #[.string r] w fun e w' => e = .returned (.tuple #[.string (Sc.ba (headS (r.data.toList.drop 9))), .bool (Sc.nameA (headS (r.data.toList.drop 9)))]) ∧ Below w.heap.size w w' := by
  have HP : Hid (∀ w1, Calls Tryz.prog 48 #[.string r, .string ⟨#[47, 109, 111, 100, 117, 108, 101, 115, 47]⟩] w1 fun e w' => e = .returned (.tuple #[.string ⟨(r.data.toList.drop 9).toArray⟩, .bool true]) ∧ w' = w1) := fun w1 => by
    have h := Tryz.strings_CutPrefix r ⟨#[47, 109, 111, 100, 117, 108, 101, 115, 47]⟩ w1
    have e1 : Lib.hasPrefix r.data.toList ([47, 109, 111, 100, 117, 108, 101, 115, 47] : List UInt8) = true := hp
    have e2 : Lib.trimPrefix r.data.toList ([47, 109, 111, 100, 117, 108, 101, 115, 47] : List UInt8) = r.data.toList.drop 9 := by unfold Lib.trimPrefix; rw [if_pos e1]; rfl
    simp only [e1, e2] at h
    exact h
  have HC : Hid (∀ w1, Calls Tryz.prog 49 #[.string ⟨(r.data.toList.drop 9).toArray⟩, .string ⟨#[47]⟩] w1 fun e w' => ∃ x y, e = .returned (.tuple #[.string (Sc.ba (headS (r.data.toList.drop 9))), .string x, .bool y]) ∧ Below w1.heap.size w1 w') := fun w1 => by
    have h := cut_any ⟨(r.data.toList.drop 9).toArray⟩ (by show (r.data.toList.drop 9).toArray.size ≤ _; simp only [List.size_toArray, List.length_drop, list_size]; omega) w1
    simpa using h
  have HN : Hid (∀ w1, Calls Tryz.prog 20 #[.string (Sc.ba (headS (r.data.toList.drop 9)))] w1 fun e w' => e = .returned (.bool (Sc.nameA (headS (r.data.toList.drop 9)))) ∧ w' = w1) := fun w1 => by
    have h := Sc.Name_any (Sc.ba (headS (r.data.toList.drop 9))) w1
    rw [Sc.ba_list] at h
    exact h
  generalize Sc.nameA (headS (r.data.toList.drop 9)) = b at *
  generalize Sc.ba (headS (r.data.toList.drop 9)) = n at *
  generalize (⟨(r.data.toList.drop 9).toArray⟩ : ByteArray) = q at *
  clear hp
  go_enter Tryz.func32, Tryz.ntmps32
  go_wp2_with (first
    | (go_at_call 48; refine (HP.out _).mono ?_; rintro e w1 ⟨rfl, rfl⟩)
    | (go_at_call 49; refine (HC.out _).mono ?_; rintro e w2 ⟨x, y, rfl, ok⟩; have HB := hide3 ok; clear ok)
    | (go_at_call 20; refine (HN.out _).mono ?_; rintro e w3 ⟨rfl, rfl⟩))
  all_goals go_ret2
  all_goals exact ⟨by cases b <;> rfl, HB.out⟩

set_option maxHeartbeats 1600000 in
theorem first_no (r : ByteArray) (hsz : r.size ≤ 9223372036854775807) (hp : modL.isPrefixOf r.data.toList = false) (w : World) : Calls Tryz.prog 32 #[.string r] w fun e w' => ∃ x, e = .returned (.tuple #[.string x, .bool false]) ∧ Below w.heap.size w w' := by
  have HP : Hid (∀ w1, Calls Tryz.prog 48 #[.string r, .string ⟨#[47, 109, 111, 100, 117, 108, 101, 115, 47]⟩] w1 fun e w' => e = .returned (.tuple #[.string r, .bool false]) ∧ w' = w1) := fun w1 => by
    have h := Tryz.strings_CutPrefix r ⟨#[47, 109, 111, 100, 117, 108, 101, 115, 47]⟩ w1
    have e1 : Lib.hasPrefix r.data.toList ([47, 109, 111, 100, 117, 108, 101, 115, 47] : List UInt8) = false := hp
    have e2 : Lib.trimPrefix r.data.toList ([47, 109, 111, 100, 117, 108, 101, 115, 47] : List UInt8) = r.data.toList := by unfold Lib.trimPrefix; rw [if_neg (by rw [e1]; simp)]
    simp only [e1, e2] at h
    exact h
  have HC : Hid (∀ w1, Calls Tryz.prog 49 #[.string r, .string ⟨#[47]⟩] w1 fun e w' => ∃ x y, e = .returned (.tuple #[.string (Sc.ba (headS r.data.toList)), .string x, .bool y]) ∧ Below w1.heap.size w1 w') := fun w1 => cut_any r hsz w1
  generalize Sc.ba (headS r.data.toList) = n at *
  clear hp
  go_enter Tryz.func32, Tryz.ntmps32
  go_wp2_with (first
    | (go_at_call 48; refine (HP.out _).mono ?_; rintro e w1 ⟨rfl, rfl⟩)
    | (go_at_call 49; refine (HC.out _).mono ?_; rintro e w2 ⟨x, y, rfl, ok⟩; have HB := hide3 ok; clear ok))
  all_goals go_ret2
  all_goals exact ⟨_, rfl, HB.out⟩
end Go.Proofs.YtogpkhpephhbiaaGreatDoor
namespace Go.Proofs.YtogpkhpephhbiaaGreatDoor
open Go.RowKit
set_option maxRecDepth 100000

/-- A text has at most so many names. -/
def FewN (t : List UInt8) : Prop := ∀ L r, namesB L = true → textN L ++ r = t → L.length ≤ 14073748835124
theorem names_snoc {L : List ByteArray} {n : List UInt8} (h : namesB L = true) (hn : Sc.nameA n = true) : namesB (L ++ [Sc.ba n]) = true := by
  unfold namesB at *
  rw [List.all_append, h]
  simp only [List.all_cons, List.all_nil, Bool.and_true, Bool.true_and]
  rw [Sc.ba_list]
  exact hn
theorem textN_app (A B : List ByteArray) : textN (A ++ B) = textN A ++ textN B := by simp [textN]
theorem pre_eq {r : List UInt8} (h : modL.isPrefixOf r = true) : r = modL ++ r.drop 9 := by
  rw [List.isPrefixOf_iff_prefix, List.prefix_iff_eq_append] at h
  exact h.symm
theorem piece_eq {r : List UInt8} (h : modL.isPrefixOf r = true) : r = modL ++ headS (r.drop 9) ++ (r.drop 9).drop (headS (r.drop 9)).length := by
  have h1 : (r.drop 9).take (headS (r.drop 9)).length ++ (r.drop 9).drop (headS (r.drop 9)).length = r.drop 9 := List.take_append_drop _ _
  rw [headS_take] at h1
  rw [List.append_assoc, h1]
  exact pre_eq h
theorem map_map_app {o : Option (List ByteArray)} (A : List ByteArray) (n : ByteArray) : (o.map fun L => n :: L).map (fun L => A ++ L) = o.map fun L => (A ++ [n]) ++ L := by
  cases o <;> simp

theorem pre_size {r : ByteArray} (h : modL.isPrefixOf r.data.toList = true) : 9 + (headS (r.data.toList.drop 9)).length ≤ r.size := by
  have h1 := congrArg List.length (piece_eq h)
  rw [List.length_append, List.length_append, modL_len, list_size] at h1
  omega

set_option maxHeartbeats 3200000 in
theorem tParse_loop (t : ByteArray) (ht : t.size ≤ 9223372036854775807) (hf : FewN t.data.toList) (h0 : t.data.toList ≠ [47]) (w : World) :
    Calls Tryz.prog 19 #[.string t] w fun e w' => ∃ v, e = .returned (.tuple #[v, .bool (parseV t.data.toList).isSome]) ∧ OwnPa w' w.heap.size v ((parseV t.data.toList).getD []) ∧ Below w.heap.size w w' := by
  have HV : Hid (parseV t.data.toList = if t.data.toList = [] then none else parts t.data.toList) := by unfold Hid parseV; rw [if_neg h0]
  have HF := hide3 hf
  have HFY : Hid (∀ (r : ByteArray), r.size ≤ t.size → modL.isPrefixOf r.data.toList = true → ∀ w1, Calls Tryz.prog 32 #[.string r] w1 fun e w' => e = .returned (.tuple #[.string (Sc.ba (headS (r.data.toList.drop 9))), .bool (Sc.nameA (headS (r.data.toList.drop 9)))]) ∧ Below w1.heap.size w1 w') := fun r hz hp w1 => first_yes r (by omega) hp w1
  have HFN : Hid (∀ (r : ByteArray), r.size ≤ t.size → modL.isPrefixOf r.data.toList = false → ∀ w1, Calls Tryz.prog 32 #[.string r] w1 fun e w' => ∃ x, e = .returned (.tuple #[.string x, .bool false]) ∧ Below w1.heap.size w1 w') := fun r hz hp w1 => first_no r (by omega) hp w1
  have HCL : Hid (∀ (s : ByteArray), s.size ≤ 281474976710656 → ∀ w1, Calls Tryz.prog 33 #[.string s] w1 fun e w' => e = .returned (.string s) ∧ Below w1.heap.size w1 w') := fun s hs w1 => Sc.Clone_any s hs w1
  have HON : Hid (OwnPa w w.heap.size (.slice none 0 0) []) := ⟨rfl, Or.inl ⟨rfl, rfl⟩⟩
  obtain ⟨i0, hi, hz0, hz1, hz2⟩ := Sc.info_parts Sc.infoStr
  have hq0 : (t.toList == [47]) = false := by rw [beq_eq_false_iff_ne, ByteArray.toList_eq]; exact h0
  clear hf h0
  go_enter Tryz.func19, Tryz.ntmps19
  go_wp2_with fail
  go_loopw [4, 5] (fun vp vr wr => ∃ (L : List ByteArray) (r : ByteArray), vr = .string r ∧ namesB L = true ∧ textN L ++ r.data.toList = t.data.toList ∧ parts t.data.toList = (parts r.data.toList).map (fun M => L ++ M) ∧ OwnPa wr w.heap.size vp L ∧ Below w.heap.size w wr) (fun _ vr _ => match vr with | .string r => r.size | _ => 0)
  case atStart => exact ⟨[], t, rfl, rfl, rfl, by simp, HON.out, Below.refl _ _⟩
  case round =>
    obtain ⟨L, r, rfl, hns, htx, hpt, hown, hb⟩ := hrel
    have HN := hide3 hns
    have HT := hide3 htx
    have HP := hide3 hpt
    have HO := hide3 hown
    have HB := hide3 hb
    have HLN := hide3 (HF.out L _ hns htx)
    obtain ⟨pa, pc, rfl, hpc⟩ := hown.form
    clear hns htx hpt hown hb
    have hrt : r.size ≤ t.size := by
      have e := congrArg List.length HT.out
      rw [List.length_append, list_size, list_size] at e
      omega
    by_cases hr : r.data.toList = []
    · have hre : (r.toList == []) = true := by rw [ByteArray.toList_eq, hr]; rfl
      have HPE : Hid (parts t.data.toList = some L) := by unfold Hid; rw [HP.out, hr, parts_nil]; simp
      have HLL : Hid (textN L = t.data.toList) := by have e := HT.out; rw [hr, List.append_nil] at e; exact e
      cases L with
      | nil =>
        have HR : Hid (parseV t.data.toList = none) := by unfold Hid; rw [HV.out, if_pos (by rw [← HLL.out]; rfl)]
        rw [List.length_nil]
        have hrs : r.toList = [] := by rw [ByteArray.toList_eq, hr]
        clear hre
        go_wp2
        go_ret2
        exact ⟨_, by rw [HR.out]; rfl, by rw [HR.out]; exact HO.out, HB.out⟩
      | cons n L =>
        have HR : Hid (parseV t.data.toList = some (n :: L)) := by unfold Hid; rw [HV.out, if_neg (by rw [← HLL.out]; simp [textN, modS]), HPE.out]
        have hp : (0 : Int) < (((n :: L).length : Nat) : Int) := by rw [List.length_cons]; omega
        have hrs : r.toList = [] := by rw [ByteArray.toList_eq, hr]
        clear hre
        go_wp2
        go_ret2
        exact ⟨_, by rw [HR.out]; rfl, by rw [HR.out]; exact HO.out, HB.out⟩
    · have hre : (r.toList == []) = false := by rw [beq_eq_false_iff_ne, ByteArray.toList_eq]; exact hr
      have hrn : r.toList ≠ [] := by rw [ByteArray.toList_eq]; exact hr
      have hre2 : r.toList.isEmpty = false := by rw [ByteArray.toList_eq]; cases e : r.data.toList with | nil => exact absurd e hr | cons _ _ => rfl
      have HNE : Hid (t.data.toList ≠ []) := fun e => by
        have q := HT.out
        rw [e] at q
        exact hr (List.append_eq_nil_iff.1 q).2
      cases hp : modL.isPrefixOf r.data.toList
      · have HR : Hid (parseV t.data.toList = none) := by unfold Hid; rw [HV.out, if_neg HNE.out, HP.out, parts_no hr (by rw [hp]; simp)]; rfl
        have HC := hide3 (HFN.out r hrt hp)
        clear hp hr
        go_wp2_with (go_at_call 32; refine (HC.out _).mono ?_; rintro e w1 ⟨x, rfl, ok⟩; have HB1 := hide3 (below_then HB.out ok); clear ok)
        go_ret2
        exact ⟨_, by rw [HR.out]; rfl, by rw [HR.out]; exact ⟨rfl, Or.inl ⟨rfl, rfl⟩⟩, HB1.out⟩
      · have HC := hide3 (HFY.out r hrt hp)
        cases hn : Sc.nameA (headS (r.data.toList.drop 9))
        · have HR : Hid (parseV t.data.toList = none) := by unfold Hid; rw [HV.out, if_neg HNE.out, HP.out, parts_no hr (by rw [hn]; simp)]; rfl
          rw [hn] at HC
          generalize Sc.ba (headS (r.data.toList.drop 9)) = nm at *
          clear hp hr hn
          go_wp2_with (go_at_call 32; refine (HC.out _).mono ?_; rintro e w1 ⟨rfl, ok⟩; have HB1 := hide3 (below_then HB.out ok); clear ok)
          go_ret2
          exact ⟨_, by rw [HR.out]; rfl, by rw [HR.out]; exact ⟨rfl, Or.inl ⟨rfl, rfl⟩⟩, HB1.out⟩
        · rw [hn] at HC
          have hsz := pre_size hp
          have HNN : Hid (namesB (L ++ [Sc.ba (headS (r.data.toList.drop 9))]) = true) := names_snoc HN.out hn
          have HRL : Hid ((r.extract (9 + (headS (r.data.toList.drop 9)).length) r.size).data.toList = (r.data.toList.drop 9).drop (headS (r.data.toList.drop 9)).length) := by
            unfold Hid
            rw [Sc.ba_extract, Sc.ba_list, ← list_size, List.take_length, List.drop_drop]
          have HTN : Hid (textN (L ++ [Sc.ba (headS (r.data.toList.drop 9))]) ++ (r.extract (9 + (headS (r.data.toList.drop 9)).length) r.size).data.toList = t.data.toList) := by
            unfold Hid
            rw [textN_snoc, HRL.out, Sc.ba_list, List.append_assoc, List.append_assoc, ← HT.out]
            congr 1
            rw [← List.append_assoc]
            exact (piece_eq hp).symm
          have HPN : Hid (parts t.data.toList = (parts (r.extract (9 + (headS (r.data.toList.drop 9)).length) r.size).data.toList).map (fun M => (L ++ [Sc.ba (headS (r.data.toList.drop 9))]) ++ M)) := by
            unfold Hid
            rw [HP.out, HRL.out, parts_on hr hp hn, map_map_app]
          have hns : (Sc.ba (headS (r.data.toList.drop 9))).size = (headS (r.data.toList.drop 9)).length := by show (headS (r.data.toList.drop 9)).toArray.size = _; simp
          have hnb : (Sc.ba (headS (r.data.toList.drop 9))).size ≤ 16 := name_size (by rw [Sc.ba_list]; exact hn)
          have hnp : 0 < (headS (r.data.toList.drop 9)).length := nameA_pos hn
          have HLM := hide3 (HF.out _ _ HNN.out HTN.out)
          generalize (headS (r.data.toList.drop 9)).length = m at *
          generalize Sc.ba (headS (r.data.toList.drop 9)) = nm at *
          have hll : L.length + 1 ≤ 14073748835124 := by have e := HLM.out; rw [List.length_append] at e; exact e
          have HCN := hide3 (HCL.out nm (by omega))
          subst m
          clear hp hr hn
          go_wp2_with (first
            | (go_at_call 32; refine (HC.out _).mono ?_; rintro e w1 ⟨rfl, ok⟩; have HO1 := hide3 (HO.out.below ok); have HB1 := hide3 (below_then HB.out ok); clear ok)
            | (go_at_call 33; refine (HCN.out _).mono ?_; rintro e w2 ⟨rfl, ok⟩; have HO2 := hide3 (HO1.out.below ok); have HB2 := hide3 (below_then HB1.out ok); clear ok)
            | (have _h := HO2; at_builtin; refine wpList_append_own_wide _ rfl _ _ 53 rfl w.heap.size 9 i0 _ 1 16 Tryz.underlying53 hi hz0 hz1 hz2 rfl (by decide) _ _ _ rfl (HO2.out.alloc _) ⟨w2.heap.size, 0, none⟩ 1 1 [.string nm] rfl rfl (cell_one_new _ _ _) (by simp [Value.oneCell']) (by unfold maxLen; omega) (by omega) (by have := HB2.out.size; simp; omega) ?_; intro v3 w3 ho3 hg3 _; have HO3 : Hid (OwnPa w3 w.heap.size v3 (L ++ [nm])) := (by have e := ho3; unfold Hid OwnPa pcs; rw [List.map_append, List.length_append]; exact e); have HB3 : Hid (Below w.heap.size w w3) := (HB2.out.alloc (by have := HB2.out.size; omega) _).grown hg3 (by have := HB2.out.size; simp; omega) (fun k hk => (World.ownsRow.lt HO2.out k hk).1); clear ho3 hg3))
          exact ⟨⟨L ++ [nm], _, rfl, HNN.out, HTN.out, HPN.out, HO3.out, HB3.out⟩, by simp; omega⟩

theorem tParse_any (t : ByteArray) (ht : t.size ≤ 9223372036854775807) (hf : FewN t.data.toList) (w : World) :
    Calls Tryz.prog 19 #[.string t] w fun e w' => ∃ v, e = .returned (.tuple #[v, .bool (parseV t.data.toList).isSome]) ∧ OwnPa w' w.heap.size v ((parseV t.data.toList).getD []) ∧ Below w.heap.size w w' := by
  by_cases h0 : t.data.toList = [47]
  · obtain rfl : t = ⟨#[47]⟩ := bytes_same (by rw [ByteArray.toList_eq, ByteArray.toList_eq, h0])
    have HR : Hid (parseV (⟨#[47]⟩ : ByteArray).data.toList = some []) := rfl
    rw [HR.out]
    clear hf ht h0
    go_enter Tryz.func19, Tryz.ntmps19
    go_wp2
    go_ret2
    exact ⟨_, rfl, ⟨rfl, Or.inl ⟨rfl, rfl⟩⟩, Below.refl _ _⟩
  · exact tParse_loop t ht hf h0 w
end Go.Proofs.YtogpkhpephhbiaaGreatDoor
