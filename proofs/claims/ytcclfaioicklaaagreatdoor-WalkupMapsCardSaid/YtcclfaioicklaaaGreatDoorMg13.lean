/- Tr1, Ts1, Rk1, Rk3, Kn2, laid in one text. -/
import Derived.Test.YtcclfaioicklaaaGreatDoorMg12
namespace Go.Proofs.YtcclfaioicklaaaGreatDoor
open Go.RowKit
set_option maxRecDepth 100000

set_option maxHeartbeats 1600000 in
theorem rPath_walk (A B : List ByteArray) (hAB : A.length = B.length) (hsz : A.length ≤ 9223372036854775807) (ad bd : Option Addr) (ca cb : Nat) (w : World) (hla : ∀ i (h : i < A.length), ∃ g o, ad = some ⟨g, o, none⟩ ∧ StIn w g (o + i) A[i]) (hlb : ∀ i (h : i < B.length), ∃ g o, bd = some ⟨g, o, none⟩ ∧ StIn w g (o + i) B[i]) :
    Calls Tryz.prog 15 #[.slice ad A.length ca, .slice bd B.length cb] w fun e w' => e = .returned (.bool (eqB A B)) ∧ Below w.heap.size w w' := by
  have HL : Hid (∀ w1, Below w.heap.size w w1 → ∀ i (h : i < A.length) (h2 : i < B.length), (∃ g o, ad = some ⟨g, o, none⟩ ∧ StIn w1 g (o + i) A[i]) ∧ ∃ g o, bd = some ⟨g, o, none⟩ ∧ StIn w1 g (o + i) B[i]) := fun w1 hb i hi hi2 => ⟨by obtain ⟨g, o, e, h⟩ := hla i hi; exact ⟨g, o, e, h.below hb⟩, by obtain ⟨g, o, e, h⟩ := hlb i hi2; exact ⟨g, o, e, h.below hb⟩⟩
  have HAB := hide3 hAB
  clear hla hlb
  rw [← hAB]
  clear hAB
  go_enter Tryz.func15, Tryz.ntmps15
  go_wp2_with fail
  go_loopw [5] (fun i wr => ∃ k : Nat, k ≤ A.length ∧ i = .int .i64 k ∧ Below w.heap.size w wr ∧ ∀ j (h : j < k) (h1 : j < A.length) (h2 : j < B.length), A[j] = B[j]) (fun i _ => A.length - (intOf i).toNat)
  case atStart => exact ⟨0, Nat.zero_le _, rfl, Below.refl _ _, fun j h => by omega⟩
  case round =>
    obtain ⟨k, hk, rfl, hb, hall⟩ := hrel
    have HALL := hide3 hall
    have HB := hide3 hb
    clear hall
    by_cases hlt : k < A.length
    · have hltB : k < B.length := HAB.out ▸ hlt
      obtain ⟨⟨ga, oa, rfl, hsa⟩, ⟨gb, ob, rfl, hsb⟩⟩ := HL.out wr hb k hlt hltB
      have HO : Hid (Below w.heap.size w wr ∧ StIn wr ga (oa + k) A[k] ∧ StIn wr gb (ob + k) B[k]) := ⟨hb, hsa, hsb⟩
      have HK : Hid (KeepP fun w1 => Below w.heap.size w w1 ∧ StIn w1 ga (oa + k) A[k] ∧ StIn w1 gb (ob + k) B[k]) := (keepBelow w).and ((keepStIn _ _ _).and (keepStIn _ _ _))
      have HNE : Hid (A[k] ≠ B[k] → eqB A B = false) := fun h => eqB_no fun e => by subst e; exact h rfl
      have HST : Hid (A[k] = B[k] → ∀ j (h : j < k + 1) (h1 : j < A.length) (h2 : j < B.length), A[j] = B[j]) := fun h j hj h1 h2 => by
        rcases Nat.lt_or_ge j k with hjk | hjk
        · exact HALL.out j hjk h1 h2
        · obtain rfl : j = k := by omega
          exact h
      generalize A[k] = s at *
      generalize B[k] = t at *
      clear hsa hsb
      by_cases hq : s = t
      · have HR := hide3 (HST.out hq)
        have hqq : (s.toList == t.toList) = true := by rw [hq]; simp
        clear hb HNE HST HALL hq
        go_wp2_with fail
        refine wp_region_keep HK.out (by kernel_rfl) (by kernel_rfl) (by first | exact HO.out | exact HK.out.drew HO.out) ?_
        intro C hin hout
        have HIN := hide3 hin
        have HOUT := hide3 hout
        clear hin hout HO
        repeat
          (with_reducible refine wpQuiet_step (fun K hK => ?_)
           go_simp
           first
             | (refine hK _ ?_; clear hK K)
             | (apply Exists.intro; refine ⟨fun w1 hC => ?_, hK _ ?_⟩; (focus ((first | (exact rfl) | (obtain ⟨hb1, ⟨p0, p1⟩, ⟨q0, q1⟩⟩ := HOUT.out w1 hC; clear hC; go_simp; first | done | exact rfl)); done)); clear hK K))
        refine wpQuiet_nil ?_
        intro wn hC
        have HO := hide3 (HOUT.out _ hC)
        clear hC HIN HOUT C
        obtain ⟨hb1, ⟨p0, p1⟩, ⟨q0, q1⟩⟩ := HO.out
        go_wp2
        exact ⟨⟨k + 1, by omega, by go_num, HO.out.1, HR.out⟩, by simp [intOf]; omega⟩
      · have HR := hide3 (HNE.out hq)
        have hqq : (s.toList == t.toList) = false := by rw [beq_eq_false_iff_ne]; exact fun e => hq (str_same e)
        clear hb HNE HST HALL hq
        go_wp2_with fail
        refine wp_region_keep HK.out (by kernel_rfl) (by kernel_rfl) (by first | exact HO.out | exact HK.out.drew HO.out) ?_
        intro C hin hout
        have HIN := hide3 hin
        have HOUT := hide3 hout
        clear hin hout HO
        repeat
          (with_reducible refine wpQuiet_step (fun K hK => ?_)
           go_simp
           first
             | (refine hK _ ?_; clear hK K)
             | (apply Exists.intro; refine ⟨fun w1 hC => ?_, hK _ ?_⟩; (focus ((first | (exact rfl) | (obtain ⟨hb1, ⟨p0, p1⟩, ⟨q0, q1⟩⟩ := HOUT.out w1 hC; clear hC; go_simp; first | done | exact rfl)); done)); clear hK K))
        refine wpQuiet_nil ?_
        intro wn hC
        have HO := hide3 (HOUT.out _ hC)
        clear hC HIN HOUT C
        obtain ⟨hb1, ⟨p0, p1⟩, ⟨q0, q1⟩⟩ := HO.out
        go_wp2
        go_ret
        exact ⟨ret_bool HR.out.symm, HO.out.1⟩
    · have hke : k = A.length := by omega
      subst hke
      have HR : Hid (eqB A B = true) := eqB_yes (List.ext_getElem HAB.out fun j h1 h2 => HALL.out j h1 h1 h2)
      clear hb
      go_wp2
      go_ret
      exact ⟨ret_bool HR.out.symm, HB.out⟩

theorem rPath_len (ad bd : Option Addr) (n m ca cb : Nat) (h : n ≠ m) (w : World) :
    Calls Tryz.prog 15 #[.slice ad n ca, .slice bd m cb] w fun e w' => e = .returned (.bool false) ∧ Below w.heap.size w w' := by
  have hn : ((n : Int) = (m : Int)) = False := by simp; omega
  go_enter Tryz.func15, Tryz.ntmps15
  go_wp2
  go_ret
  exact ⟨rfl, Below.refl _ _⟩

theorem PathAt.el {w : World} {v : Value} {L : List ByteArray} (h : PathAt w v L) : ∃ ad cap, v = .slice ad L.length cap ∧ L.length ≤ cap ∧ ∀ i (_ : i < L.length), ∃ g o, ad = some ⟨g, o, none⟩ ∧ StIn w g (o + i) L[i] := by
  obtain ⟨ad, cap, rfl, hc, hl⟩ := h
  refine ⟨ad, cap, rfl, hc, fun i hi => ?_⟩
  rcases hl with rfl | ⟨g, o, e, hs⟩
  · cases hi
  · exact ⟨g, o, e, hs i hi⟩

/-- The document's Path: two paths compared. -/
theorem rPath_any {A B : List ByteArray} {va vb : Value} {w : World} (ha : PathAt w va A) (hb : PathAt w vb B) (hsz : A.length ≤ 9223372036854775807) :
    Calls Tryz.prog 15 #[va, vb] w fun e w' => e = .returned (.bool (eqB A B)) ∧ Below w.heap.size w w' := by
  obtain ⟨ad, ca, rfl, _, hl⟩ := ha.el
  obtain ⟨bd, cb, rfl, _, hm⟩ := hb.el
  by_cases hn : A.length = B.length
  · exact rPath_walk A B hn hsz ad bd ca cb w hl hm
  · rw [eqB_no fun e => hn (by rw [e])]
    exact rPath_len _ _ _ _ _ _ hn w

set_option maxHeartbeats 1600000 in
/-- The document's Find. -/
theorem rFind_any {L : List Dr} {v : Value} {p : List ByteArray} {vp : Value} {w : World} (h : DirsAt w v L) (hz : L.length ≤ 9223372036854775807) (hf : FitD L) (hp : PathAt w vp p) :
    Calls Tryz.prog 18 #[.agg #[v], vp] w fun e w' => e = .returned (.int .i64 (findV L p)) ∧ Below w.heap.size w w' := by
  have HE : Hid (∀ w1, Below w.heap.size w w1 → ∀ u A, PathAt w1 u A → A.length ≤ 9223372036854775807 → Calls Tryz.prog 15 #[u, vp] w1 fun e w' => e = .returned (.bool (eqB A p)) ∧ Below w1.heap.size w1 w') := fun w1 hb u A hu hl => rPath_any hu (hp.below hb) hl
  obtain ⟨ad, cap, rfl, hc, hsl⟩ := h.sl
  have HS : Hid (∀ w1, Below w.heap.size w w1 → ∀ i (_ : i < L.length), ∃ g o, ad = some ⟨g, o, none⟩ ∧ ∃ u v1 v2 v3, DrIn w1 g (o + i * 9) L[i] u v1 v2 v3) := fun w1 hb i hi => by
    obtain ⟨g, o, e, u, v1, v2, v3, hd⟩ := hsl i hi
    exact ⟨g, o, e, u, v1, v2, v3, hd.below hb⟩
  have HF := hide3 hf
  obtain ⟨pd, pc, rfl⟩ := hp.sl
  clear h hp hsl hf
  go_enter Tryz.func18, Tryz.ntmps18
  go_wp2_with fail
  go_loopw [5] (fun i wr => ∃ k : Nat, k ≤ L.length ∧ i = .int .i64 k ∧ (Below w.heap.size w wr ∧ BxT wr w.heap.size (.slice ad L.length cap)) ∧ ∀ j (_ : j < k) (h1 : j < L.length), L[j].pa ≠ p) (fun i _ => L.length - (intOf i).toNat)
  case atStart => exact ⟨0, Nat.zero_le _, rfl, ⟨boxB _ _, BxT.new _ _⟩, fun j h => by omega⟩
  case round =>
    obtain ⟨k, hk, rfl, ⟨hb, bx0, bx1⟩, hall⟩ := hrel
    have HALL := hide3 hall
    have HB := hide3 hb
    clear hall
    by_cases hlt : k < L.length
    · obtain ⟨g, o, rfl, u, v1, v2, v3, ⟨c0, c1, c2, c3, c4, c5, c6, c7, c8⟩, ⟨hpa, hpk⟩, hg⟩ := HS.out wr hb k hlt
      have HC := hide3 (HE.out wr hb u _ hpa (HF.out _ (List.getElem_mem hlt)))
      have HY : Hid (L[k].pa = p → findV L p = k) := fun h => findV_at hlt h HALL.out
      have HN : Hid (L[k].pa ≠ p → ∀ j (_ : j < k + 1) (h1 : j < L.length), L[j].pa ≠ p) := fun h j hj h1 => by
        rcases Nat.lt_or_ge j k with hjk | hjk
        · exact HALL.out j hjk h1
        · obtain rfl : j = k := by omega
          exact h
      obtain ⟨ua, uc, rfl⟩ := hpa.sl
      clear c1 c2 c3 c4 c5 c6 c7 c8 hpk hpa hb
      have HBX : Hid (BxT wr w.heap.size (.slice (some ⟨g, o, none⟩) L.length cap)) := ⟨bx0, bx1⟩
      generalize L[k].pa.length = n at *
      by_cases hq : L[k].pa = p
      · have HR := hide3 (HY.out hq)
        rw [eqB_yes hq] at HC
        clear HY HN HALL hq
        go_wp2_with (go_at_call 15; refine HC.out.mono ?_; rintro x w1 ⟨rfl, ok⟩)
        go_ret
        exact ⟨ret_int HR.out.symm, below_then HB.out ok⟩
      · have HR := hide3 (HN.out hq)
        rw [eqB_no hq] at HC
        clear HY HN HALL hq
        go_wp2_with (go_at_call 15; refine HC.out.mono ?_; rintro x w1 ⟨rfl, ok⟩)
        exact ⟨⟨k + 1, by omega, by go_num, ⟨below_then HB.out ok, keepBxT _ _ _ _ HBX.out ok⟩, HR.out⟩, by simp [intOf]; omega⟩
    · have hke : k = L.length := by omega
      subst hke
      have HR : Hid (findV L p = -1) := findV_no fun j h1 => HALL.out j h1 h1
      clear hb
      go_wp2
      go_ret
      exact ⟨ret_int HR.out.symm, HB.out⟩

theorem own_sl {w : World} {B : Nat} {v : Value} {n : Nat} {xs : List Value} (h : w.ownsRow B 9 1 v n xs) : ∃ a c, v = .slice a n c := by
  rcases h.2 with ⟨rfl, rfl⟩ | ⟨g, cap, cur, rfl, _⟩
  · exact ⟨none, 0, rfl⟩
  · exact ⟨_, cap, rfl⟩
theorem own_none (w : World) (B : Nat) : w.ownsRow B 9 1 (.slice none 0 0) 0 [] := ⟨rfl, Or.inl ⟨rfl, rfl⟩⟩

set_option maxHeartbeats 1600000 in
/-- The document's joined: a path with a name more. -/
theorem joined_any {p : List ByteArray} {v : Value} {w : World} (h : PathAt w v p) (s : ByteArray) (hl : p.length * 16 ≤ 140737488355328) :
    Calls Tryz.prog 80 #[v, .string s] w fun e w' => ∃ a c, e = .returned (.slice a (p.length + 1) c) ∧ PathAt w' (.slice a (p.length + 1) c) (p ++ [s]) ∧ Below w.heap.size w w' := by
  obtain ⟨ad, cap, rfl, hcp, hc⟩ := h
  obtain ⟨i0, hi, hz0, hz1, hz2⟩ := Sc.info_parts Sc.infoStr
  have HFIN : Hid (∀ w1 v1 w2 v2, Below w.heap.size w w1 → w1.ownsRow w.heap.size 9 1 v1 p.length (pcs p) → w2.ownsRow w.heap.size 9 1 v2 (p.length + 1) (pcs p ++ [.string s]) → (w1.alloc (.cells #[.string s] 9)).grownBy w2 v1.ownBlock → ∃ a c, v2 = .slice a (p.length + 1) c ∧ PathAt w2 (.slice a (p.length + 1) c) (p ++ [s]) ∧ Below w.heap.size w w2) := fun w1 v1 w2 v2 hb h1 h2 h3 => by
    have ho : OwnPa w2 w.heap.size v2 (p ++ [s]) := by unfold OwnPa; rw [pcs_snoc, List.length_append]; exact h2
    obtain ⟨a, c, rfl, _⟩ := ho.form
    refine ⟨a, c, by rw [List.length_append]; rfl, ?_, hb.grown (grown_on (boxB _ _) h3) hb.size (fun q hq => (World.ownsRow.lt h1 q hq).1)⟩
    have := ho.at
    rw [List.length_append] at this
    exact this
  cases ad with
  | none =>
    obtain rfl : p = [] := by
      rcases hc with e | ⟨_, _, q, _⟩
      · exact e
      · cases q
    have HON := hide3 (own_none w w.heap.size)
    rw [List.length_nil]
    clear hc
    have t1 : True := trivial
    go_enter Tryz.func80, Tryz.ntmps80
    go_wp2_with (at_builtin; refine wpList_append_own_wide _ rfl (.tmp 9) (.tmp 11) 29 rfl w.heap.size 9 i0 _ 1 16 Tryz.underlying29 hi hz0 hz1 hz2 rfl (by decide) (.slice none 0 0) 0 [] rfl (HON.out.alloc _) ⟨w.heap.size, 0, none⟩ 1 1 [.string s] rfl rfl (cell_one_new _ _ _) (fun u hu => by rw [List.mem_singleton.1 hu]; rfl) (by decide) (by decide) (by simp) ?_; intro v2 w2 ho hgr _; obtain ⟨a2, c2, rfl, hp2, hb2⟩ := HFIN.out w _ w2 v2 (Below.refl _ _) HON.out ho hgr; have HP2 := hide3 hp2; have HB2 := hide3 hb2; clear ho hgr hp2 hb2)
    go_ret
    exact ⟨_, _, rfl, HP2.out, HB2.out⟩
  | some a0 =>
    obtain ⟨g, o, sp⟩ := a0
    have HNW : Hid (∀ j u, (pcs p)[j]? = some u → w.cell? ((⟨g, o, sp⟩ : Addr).add j) = some u) := fun j u hj => by
      rcases hc with e | ⟨g', o', q, hs⟩
      · subst e; simp [pcs] at hj
      · cases q
        exact path_news hs j u hj
    have HON := hide3 (own_none w w.heap.size)
    clear hc
    have t1 : True := trivial
    go_enter Tryz.func80, Tryz.ntmps80
    go_wp2_with (first
      | (have _t := t1; at_builtin; refine wpList_append_own_wide _ rfl (.tmp 6) (.tmp 7) 29 rfl w.heap.size 9 i0 _ 1 16 Tryz.underlying29 hi hz0 hz1 hz2 rfl (by decide) (.slice none 0 0) 0 [] rfl HON.out ⟨g, o, sp⟩ p.length cap (pcs p) rfl (by rw [pcs_length]; omega) HNW.out (pcs_one p) (by unfold maxLen; omega) (by rw [Nat.zero_add]; omega) (Nat.le_refl _) ?_; intro v1 w1 ho hgr _; have HO1 : Hid (w1.ownsRow w.heap.size 9 1 v1 p.length (pcs p)) := (by have e := ho; rw [Nat.zero_add, List.nil_append] at e; exact e); have HB1 : Hid (Below w.heap.size w w1) := (Below.refl _ _).grown hgr (Nat.le_refl _) (fun q hq => by cases hq); have hs1 := HB1.out.size; obtain ⟨a1, c1, rfl⟩ := own_sl HO1.out; clear ho hgr t1)
      | (have _t := HO1; at_builtin; refine wpList_append_own_wide _ rfl (.tmp 9) (.tmp 11) 29 rfl w.heap.size 9 i0 _ 1 16 Tryz.underlying29 hi hz0 hz1 hz2 rfl (by decide) (.slice a1 p.length c1) p.length (pcs p) rfl (HO1.out.alloc _) ⟨w1.heap.size, 0, none⟩ 1 1 [.string s] rfl rfl (cell_one_new _ _ _) (fun u hu => by rw [List.mem_singleton.1 hu]; rfl) (by unfold maxLen; omega) (by omega) (by simp; omega) ?_; intro v2 w2 ho hgr _; obtain ⟨a2, c2, rfl, hp2, hb2⟩ := HFIN.out w1 _ w2 v2 HB1.out HO1.out ho hgr; have HP2 := hide3 hp2; have HB2 := hide3 hb2; clear ho hgr hp2 hb2))
    go_ret
    exact ⟨_, _, rfl, HP2.out, HB2.out⟩
end Go.Proofs.YtcclfaioicklaaaGreatDoor
namespace Go.Proofs.YtcclfaioicklaaaGreatDoor
open Go.RowKit
set_option maxRecDepth 100000

theorem wrapN {n : Nat} (h : n ≤ 9223372036854775807) : IntKind.i64.wrap (n : Int) = n := by
  simp [IntKind.wrap, IntKind.bits, IntKind.signed]
  omega

def textBA (L : List ByteArray) : ByteArray := ⟨(textN L).toArray⟩
theorem textBA_size (L : List ByteArray) : (textBA L).size = (textN L).length := by show (textN L).toArray.size = _; simp
theorem textBA_snoc (L : List ByteArray) (s : ByteArray) : textBA (L ++ [s]) = textBA L ++ modS ++ s := by
  refine bytes_same ?_
  rw [ByteArray.toList_eq, ByteArray.toList_eq, app_list, app_list]
  simp [textBA, textN_snoc]

set_option maxHeartbeats 3200000 in
theorem rTextP_any {L : List ByteArray} {v : Value} {w : World} (h : PathAt w v L) (hz : L.length * 16 ≤ 140737488355328) (hs : ∀ s ∈ L, s.size ≤ 9223372036854775807) :
    Calls Tryz.prog 16 #[v] w fun e w' => e = .returned (.string (textPa L)) ∧ Below w.heap.size w w' := by
  have HNA : Hid (∀ k (hk : k < L.length) w1, Calls Tryz.prog 39 #[.string L[k]] w1 fun e w' => e = .returned (.bool (Sc.nameA L[k].data.toList)) ∧ w' = w1) := fun k hk w1 => Sc.rName_any _ (hs _ (List.getElem_mem hk)) w1
  obtain ⟨ad, cap, rfl, hc, hel⟩ := h.el
  have HEL := hide3 hel
  clear h hs hel
  by_cases h0 : L = []
  · subst h0
    have HR : Hid (textPa [] = ⟨#[47]⟩) := rfl
    rw [List.length_nil]
    go_enter Tryz.func16, Tryz.ntmps16
    go_wp2
    go_ret
    exact ⟨by rw [HR.out]; rfl, Below.refl _ _⟩
  · have hpos : 0 < L.length := List.length_pos_iff.2 h0
    have HNO : Hid (namesB L = false → textPa L = ⟨#[]⟩) := fun e => by unfold textPa; rw [if_neg h0, if_neg (by rw [e]; simp)]
    have HYE : Hid (namesB L = true → textPa L = textBA L) := fun e => by unfold textPa; rw [if_neg h0, if_pos e]; rfl
    have HL : Hid (∀ k, k ≤ L.length → namesB (L.take k) = true → (textBA (L.take k)).size ≤ 219902325555200) := fun k hk hn => by
      have := textN_len hn
      rw [List.length_take] at this
      rw [textBA_size]
      omega
    have hne0 : ((L.length : Int) == 0) = false := by rw [beq_eq_false_iff_ne]; omega
    have HT0 : Hid (textBA (L.take 0) = ⟨#[]⟩) := rfl
    clear h0
    go_enter Tryz.func16, Tryz.ntmps16
    go_wp2_with fail
    go_loopw [3, 4] (fun vo vi wr => ∃ k : Nat, k ≤ L.length ∧ vi = .int .i64 k ∧ vo = .string (textBA (L.take k)) ∧ wr = w ∧ namesB (L.take k) = true) (fun _ vi _ => L.length - (intOf vi).toNat)
    case atStart => exact ⟨0, Nat.zero_le _, rfl, by rw [HT0.out], rfl, rfl⟩
    case round =>
      obtain ⟨k, hk, rfl, rfl, hww, hns⟩ := hrel
      subst wr
      by_cases hlt : k < L.length
      · obtain ⟨g, o, rfl, c0, c1⟩ := HEL.out k hlt
        have HLK := hide3 (HL.out k hk hns)
        have HTS : Hid (textBA (L.take (k + 1)) = textBA (L.take k) ++ modS ++ L[k]) := by
          unfold Hid
          rw [List.take_succ_eq_append_getElem hlt, textBA_snoc]
        have HNT : Hid (Sc.nameA L[k].data.toList = true → namesB (L.take (k + 1)) = true) := fun e => by rw [names_take hlt, hns, e]; rfl
        have HNB : Hid (Sc.nameA L[k].data.toList = false → namesB L = false) := fun e => names_bad hlt e
        have HNM := hide3 (HNA.out k hlt)
        generalize textBA (L.take k) = tx at *
        generalize L[k] = s at *
        clear hns
        cases hn : Sc.nameA s.data.toList
        · have HR := hide3 (HNO.out (HNB.out hn))
          rw [hn] at HNM
          clear HNT HNB HNO HYE
          go_wp2_with (go_at_call 39; refine (HNM.out _).mono ?_; rintro e w1 ⟨rfl, hw1⟩; subst w1)
          go_ret
          exact ⟨by rw [HR.out]; rfl, Below.refl _ _⟩
        · have HR := hide3 (HNT.out hn)
          rw [hn] at HNM
          have hs16 : s.size ≤ 16 := name_size hn
          have hms : modS.size = 9 := rfl
          have hlk := HLK.out
          have e1 := fun W : World => run_string_add_sum (P := Tryz.prog) (w := W) tx modS (by omega)
          have e2 := fun W : World => run_string_add_sum (P := Tryz.prog) (w := W) (tx ++ modS) s (by rw [app_size]; omega)
          unfold modS at e1 e2
          clear HNT HNB HNO HYE hlk
          go_wp2_with (go_at_call 39; refine (HNM.out _).mono ?_; rintro e w1 ⟨rfl, hw1⟩; subst w1)
          exact ⟨⟨k + 1, by omega, by go_num, by rw [HTS.out]; rfl, trivial, HR.out⟩, by simp [intOf]; omega⟩
      · obtain rfl : k = L.length := by omega
        rw [List.take_length] at hns ⊢
        have HR : Hid (textPa L = textBA L) := HYE.out hns
        go_wp2
        go_ret
        exact ⟨by rw [HR.out]; rfl, Below.refl _ _⟩

set_option maxHeartbeats 1600000 in
/-- The document's Parent of a directory with a path. -/
theorem rParent_any {L : List Dr} {v : Value} {w : World} (h : DirsAt w v L) (hz : L.length ≤ 9223372036854775807) (hf : FitD L) {k : Nat} (hk : k < L.length) (hp : 0 < L[k].pa.length) :
    Calls Tryz.prog 20 #[.agg #[v], .int .i64 k] w fun e w' => e = .returned (.int .i64 (findV L (L[k].pa.take (L[k].pa.length - 1)))) ∧ Below w.heap.size w w' := by
  have HFD : Hid (∀ w1, Below w.heap.size w w1 → ∀ vp p, PathAt w1 vp p → Calls Tryz.prog 18 #[.agg #[v], vp] w1 fun e w' => e = .returned (.int .i64 (findV L p)) ∧ Below w1.heap.size w1 w') := fun w1 hb vp p hp => rFind_any (h.below hb) hz hf hp
  have hpz := hf _ (List.getElem_mem hk)
  obtain ⟨ad, cap, rfl, hc, hsl⟩ := h.sl
  obtain ⟨g, o, rfl, u, v1, v2, v3, ⟨c0, c1, c2, c3, c4, c5, c6, c7, c8⟩, ⟨hpa, hpk⟩, hg⟩ := hsl k hk
  obtain ⟨ua, uc, rfl, huc, hux⟩ := hpa.el
  obtain ⟨n, hn⟩ : ∃ n, L[k].pa.length = n + 1 := ⟨L[k].pa.length - 1, by omega⟩
  have HC : Hid (∀ w1, Below w.heap.size w w1 → Calls Tryz.prog 18 #[.agg #[.slice (some ⟨g, o, none⟩) L.length cap], .slice ua n uc] w1 fun e w' => e = .returned (.int .i64 (findV L (L[k].pa.take (L[k].pa.length - 1)))) ∧ Below w1.heap.size w1 w') := fun w1 hb => by
    refine HFD.out w1 hb _ _ ?_
    have := (hpa.cut (k := n) (by omega)).below hb
    rw [show L[k].pa.length - 1 = n by omega]
    exact this
  rw [hn] at c0 huc hpz
  have c0' : (w.alloc (.cells #[.slice (some ⟨g, o, none⟩) L.length cap] 24)).cell? ⟨g, o + k * 9, none⟩ = some (.slice ua (n + 1) uc) := ((boxB w (.cells #[.slice (some ⟨g, o, none⟩) L.length cap] 24)).cell (p := ⟨g, o + k * 9, none⟩) hg).trans c0
  generalize findV L (L[k].pa.take (L[k].pa.length - 1)) = f at *
  clear c1 c2 c3 c4 c5 c6 c7 c8 hpk hpa h hsl hux hf hn hp
  have hki : (k : Int) < (L.length : Int) := by omega
  have hkd : decide ((k : Int) < 0) = false := decide_eq_false (by omega)
  have hkl : decide (L.length ≤ k) = false := decide_eq_false (by omega)
  have hn1 : ((n : Int) + 1 == 0) = false := by rw [beq_eq_false_iff_ne]; omega
  have hwn : IntKind.i64.wrap (n : Int) = n := wrapN (by omega)
  have hnc : n ≤ uc := by omega
  have HK : Hid (KeepP fun w1 => Below w.heap.size w w1 ∧ BxT w1 w.heap.size (.slice (some ⟨g, o, none⟩) L.length cap)) := (keepBelow w).and (keepBxT _ _)
  have HO : Hid (Below w.heap.size w (w.alloc (.cells #[.slice (some ⟨g, o, none⟩) L.length cap] 24)) ∧ BxT (w.alloc (.cells #[.slice (some ⟨g, o, none⟩) L.length cap] 24)) w.heap.size (.slice (some ⟨g, o, none⟩) L.length cap)) := ⟨boxB _ _, BxT.new _ _⟩
  go_enter Tryz.func20, Tryz.ntmps20
  go_wp2_with fail
  refine wp_region_keep HK.out (by kernel_rfl) (by kernel_rfl) (by first | exact HO.out | exact HK.out.drew HO.out) ?_
  intro C hin hout
  have HIN := hide3 hin
  have HOUT := hide3 hout
  clear hin hout HO
  repeat
    (with_reducible refine wpQuiet_step (fun K hK => ?_)
     go_simp
     first
       | (refine hK _ ?_; clear hK K)
       | (apply Exists.intro; refine ⟨fun w1 hC => ?_, hK _ ?_⟩; (focus ((first | (go_at_call 18; with_reducible exact callC' HIN.out HOUT.out HK.out (fun w1 hk => HC.out w1 hk.1) w1 hC) | (exact rfl) | (obtain ⟨hb1, ⟨b0, b1⟩⟩ := HOUT.out w1 hC; clear hC; go_simp; first | done | exact rfl)); done)); clear hK K))
  refine wpQuiet_nil ?_
  intro wn hC
  have HO := hide3 (HOUT.out _ hC)
  clear hC HIN HOUT C
  obtain ⟨hb1, ⟨b0, b1⟩⟩ := HO.out
  go_wp2
  go_ret
  exact ⟨rfl, HO.out.1⟩
end Go.Proofs.YtcclfaioicklaaaGreatDoor
namespace Go.Proofs.YtcclfaioicklaaaGreatDoor
open Go.RowKit
set_option maxRecDepth 100000

set_option maxHeartbeats 1600000 in
theorem rSpans_walk (A B : List Sp) (hAB : A.length = B.length) (hsz : A.length ≤ 9223372036854775807) (ga oa ca gb ob cb : Nat) (w : World) (hga : ga < w.heap.size) (hgb : gb < w.heap.size) (hla : ∀ i (h : i < A.length), SpAt w ga (oa + i * 6) A[i]) (hlb : ∀ i (h : i < B.length), SpAt w gb (ob + i * 6) B[i]) :
    Calls Tryz.prog 83 #[.slice (some ⟨ga, oa, none⟩) A.length ca, .slice (some ⟨gb, ob, none⟩) B.length cb] w fun e w' => e = .returned (.bool (eqB A B)) ∧ Below w.heap.size w w' := by
  have HL : Hid (∀ w1, Below w.heap.size w w1 → ∀ i (h : i < A.length) (h2 : i < B.length), SpIn w1 ga (oa + i * 6) A[i] ∧ SpIn w1 gb (ob + i * 6) B[i]) := fun w1 hb i hi hi2 => ⟨⟨(hla i hi).below hb hga, Nat.lt_of_lt_of_le hga hb.size⟩, ⟨(hlb i hi2).below hb hgb, Nat.lt_of_lt_of_le hgb hb.size⟩⟩
  have HAB := hide3 hAB
  clear hla hlb
  rw [← hAB]
  clear hAB
  go_enter Tryz.func83, Tryz.ntmps83
  go_wp2_with fail
  go_loopw [5] (fun i wr => ∃ k : Nat, k ≤ A.length ∧ i = .int .i64 k ∧ Below w.heap.size w wr ∧ ∀ j (h : j < k) (h1 : j < A.length) (h2 : j < B.length), A[j] = B[j]) (fun i _ => A.length - (intOf i).toNat)
  case atStart => exact ⟨0, Nat.zero_le _, rfl, Below.refl _ _, fun j h => by omega⟩
  case round =>
    obtain ⟨k, hk, rfl, hb, hall⟩ := hrel
    have HALL := hide3 hall
    have HB := hide3 hb
    clear hall
    by_cases hlt : k < A.length
    · have hltB : k < B.length := HAB.out ▸ hlt
      have HO : Hid (Below w.heap.size w wr ∧ SpIn wr ga (oa + k * 6) A[k] ∧ SpIn wr gb (ob + k * 6) B[k]) := ⟨hb, HL.out wr hb k hlt hltB⟩
      have HK : Hid (KeepP fun w1 => Below w.heap.size w w1 ∧ SpIn w1 ga (oa + k * 6) A[k] ∧ SpIn w1 gb (ob + k * 6) B[k]) := (keepBelow w).and ((keepSp _ _ _).and (keepSp _ _ _))
      have HNE : Hid (eqS A[k] B[k] = false → eqB A B = false) := fun h => eqB_no fun e => by subst e; rw [(eqS_iff).2 rfl] at h; cases h
      have HST : Hid (eqS A[k] B[k] = true → ∀ j (h : j < k + 1) (h1 : j < A.length) (h2 : j < B.length), A[j] = B[j]) := fun h j hj h1 h2 => by
        rcases Nat.lt_or_ge j k with hjk | hjk
        · exact HALL.out j hjk h1 h2
        · obtain rfl : j = k := by omega
          exact eqS_iff.1 h
      generalize A[k] = s at *
      generalize B[k] = t at *
      obtain ⟨a, b, c, x, y, z⟩ := s
      obtain ⟨a', b', c', x', y', z'⟩ := t
      have he := neqSp2 a b c x y z a' b' c' x' y' z'
      have hgd := guardSp
      cases hq : eqS ⟨a, b, c, x, y, z⟩ ⟨a', b', c', x', y', z'⟩
      · have HR := hide3 (HNE.out hq)
        rw [hq] at he
        clear hb HNE HST HALL
        go_wp2_with fail
        refine wp_region_keep HK.out (by kernel_rfl) (by kernel_rfl) (by first | exact HO.out | exact HK.out.drew HO.out) ?_
        intro C hin hout
        have HIN := hide3 hin
        have HOUT := hide3 hout
        clear hin hout HO
        repeat
          (with_reducible refine wpQuiet_step (fun K hK => ?_)
           go_simp
           first
             | (refine hK _ ?_; clear hK K)
             | (apply Exists.intro; refine ⟨fun w1 hC => ?_, hK _ ?_⟩; (focus ((first | (exact rfl) | (obtain ⟨hb1, ⟨⟨p0, p1, p2, p3, p4, p5⟩, p6⟩, ⟨⟨q0, q1, q2, q3, q4, q5⟩, q6⟩⟩ := HOUT.out w1 hC; clear hC; go_simp; first | done | exact rfl)); done)); clear hK K))
        refine wpQuiet_nil ?_
        intro wn hC
        have HO := hide3 (HOUT.out _ hC)
        clear hC HIN HOUT C
        obtain ⟨hb1, ⟨⟨p0, p1, p2, p3, p4, p5⟩, p6⟩, ⟨⟨q0, q1, q2, q3, q4, q5⟩, q6⟩⟩ := HO.out
        go_wp2
        go_ret
        exact ⟨ret_bool HR.out.symm, HO.out.1⟩
      · have HR := hide3 (HST.out hq)
        rw [hq] at he
        clear hb HNE HST HALL
        go_wp2_with fail
        refine wp_region_keep HK.out (by kernel_rfl) (by kernel_rfl) (by first | exact HO.out | exact HK.out.drew HO.out) ?_
        intro C hin hout
        have HIN := hide3 hin
        have HOUT := hide3 hout
        clear hin hout HO
        repeat
          (with_reducible refine wpQuiet_step (fun K hK => ?_)
           go_simp
           first
             | (refine hK _ ?_; clear hK K)
             | (apply Exists.intro; refine ⟨fun w1 hC => ?_, hK _ ?_⟩; (focus ((first | (exact rfl) | (obtain ⟨hb1, ⟨⟨p0, p1, p2, p3, p4, p5⟩, p6⟩, ⟨⟨q0, q1, q2, q3, q4, q5⟩, q6⟩⟩ := HOUT.out w1 hC; clear hC; go_simp; first | done | exact rfl)); done)); clear hK K))
        refine wpQuiet_nil ?_
        intro wn hC
        have HO := hide3 (HOUT.out _ hC)
        clear hC HIN HOUT C
        obtain ⟨hb1, ⟨⟨p0, p1, p2, p3, p4, p5⟩, p6⟩, ⟨⟨q0, q1, q2, q3, q4, q5⟩, q6⟩⟩ := HO.out
        go_wp2
        exact ⟨⟨k + 1, by omega, by go_num, HO.out.1, HR.out⟩, by simp [intOf]; omega⟩
    · have hke : k = A.length := by omega
      subst hke
      have HR : Hid (eqB A B = true) := eqB_yes (List.ext_getElem HAB.out fun j h1 h2 => HALL.out j h1 h1 h2)
      clear hb
      go_wp2
      go_ret
      exact ⟨ret_bool HR.out.symm, HB.out⟩

theorem rSpans_nil (ad bd : Option Addr) (ca cb : Nat) (w : World) :
    Calls Tryz.prog 83 #[.slice ad 0 ca, .slice bd 0 cb] w fun e w' => e = .returned (.bool true) ∧ Below w.heap.size w w' := by
  go_enter Tryz.func83, Tryz.ntmps83
  go_wp2_with fail
  go_loop [5] (fun i => i = .int .i64 0) (fun _ => 0)
  case atStart => rfl
  case round =>
    subst hrel
    go_wp2
    go_ret
    exact ⟨rfl, Below.refl _ _⟩

theorem rSpans_len (ad bd : Option Addr) (n m ca cb : Nat) (h : n ≠ m) (w : World) :
    Calls Tryz.prog 83 #[.slice ad n ca, .slice bd m cb] w fun e w' => e = .returned (.bool false) ∧ Below w.heap.size w w' := by
  have hn : ((n : Int) = (m : Int)) = False := by simp; omega
  go_enter Tryz.func83, Tryz.ntmps83
  go_wp2
  go_ret
  exact ⟨rfl, Below.refl _ _⟩

theorem rSpans_any {A B : List Sp} {va vb : Value} {w : World} (ha : SpansAt w va A) (hb : SpansAt w vb B) (hsz : A.length ≤ 9223372036854775807) :
    Calls Tryz.prog 83 #[va, vb] w fun e w' => e = .returned (.bool (eqB A B)) ∧ Below w.heap.size w w' := by
  obtain ⟨ad, ca, rfl, hl⟩ := ha
  obtain ⟨bd, cb, rfl, hm⟩ := hb
  by_cases hn : A.length = B.length
  · rcases hl with rfl | ⟨ga, oa, rfl, hga, hla⟩
    · obtain rfl : B = [] := List.eq_nil_of_length_eq_zero (by simpa using hn.symm)
      rw [eqB_yes rfl]
      exact rSpans_nil _ _ _ _ w
    · rcases hm with rfl | ⟨gb, ob, rfl, hgb, hlb⟩
      · obtain rfl : A = [] := List.eq_nil_of_length_eq_zero (by simpa using hn)
        rw [eqB_yes rfl]
        exact rSpans_nil _ _ _ _ w
      · exact rSpans_walk A B hn hsz ga oa ca gb ob cb w hga hgb hla hlb
  · rw [eqB_no fun e => hn (by rw [e])]
    exact rSpans_len _ _ _ _ _ _ hn w

set_option maxHeartbeats 3200000 in
theorem rDeps_walk (A B : List Dp) (hAB : A.length = B.length) (hsz : A.length ≤ 9223372036854775807) (ga oa ca gb ob cb : Nat) (w : World) (hla : ∀ i (h : i < A.length), ∃ u, DpIn w ga (oa + i * 2) A[i] u) (hlb : ∀ i (h : i < B.length), ∃ u, DpIn w gb (ob + i * 2) B[i] u) :
    Calls Tryz.prog 62 #[.slice (some ⟨ga, oa, none⟩) A.length ca, .slice (some ⟨gb, ob, none⟩) B.length cb] w fun e w' => e = .returned (.bool (eqB A B)) ∧ Below w.heap.size w w' := by
  have HL : Hid (∀ w1, Below w.heap.size w w1 → ∀ i (h : i < A.length) (h2 : i < B.length), (∃ u, DpIn w1 ga (oa + i * 2) A[i] u) ∧ ∃ u, DpIn w1 gb (ob + i * 2) B[i] u) := fun w1 hb i hi hi2 => ⟨(hla i hi).imp fun u h => h.below hb, (hlb i hi2).imp fun u h => h.below hb⟩
  have HAB := hide3 hAB
  clear hla hlb
  rw [← hAB]
  clear hAB
  go_enter Tryz.func62, Tryz.ntmps62
  go_wp2_with fail
  go_loopw [5] (fun i wr => ∃ k : Nat, k ≤ A.length ∧ i = .int .i64 k ∧ Below w.heap.size w wr ∧ ∀ j (h : j < k) (h1 : j < A.length) (h2 : j < B.length), A[j] = B[j]) (fun i _ => A.length - (intOf i).toNat)
  case atStart => exact ⟨0, Nat.zero_le _, rfl, Below.refl _ _, fun j h => by omega⟩
  case round =>
    obtain ⟨k, hk, rfl, hb, hall⟩ := hrel
    have HALL := hide3 hall
    have HB := hide3 hb
    clear hall
    by_cases hlt : k < A.length
    · have hltB : k < B.length := HAB.out ▸ hlt
      obtain ⟨⟨u, hu⟩, ⟨v, hv⟩⟩ := HL.out wr hb k hlt hltB
      have HO : Hid (Below w.heap.size w wr ∧ DpIn wr ga (oa + k * 2) A[k] u ∧ DpIn wr gb (ob + k * 2) B[k] v) := ⟨hb, hu, hv⟩
      have HK : Hid (KeepP fun w1 => Below w.heap.size w w1 ∧ DpIn w1 ga (oa + k * 2) A[k] u ∧ DpIn w1 gb (ob + k * 2) B[k] v) := (keepBelow w).and ((keepDp _ _ _ _).and (keepDp _ _ _ _))
      have HC : Hid (∀ w1, (Below w.heap.size w w1 ∧ DpIn w1 ga (oa + k * 2) A[k] u ∧ DpIn w1 gb (ob + k * 2) B[k] v) → Calls Tryz.prog 83 #[u, v] w1 fun x w' => x = .returned (.bool (eqB A[k].rg B[k].rg)) ∧ Below w1.heap.size w1 w') := fun w1 h => rSpans_any h.2.1.2.2.1.1.1 h.2.2.2.2.1.1.1 h.2.1.2.2.1.2
      have HNE : Hid (A[k] ≠ B[k] → eqB A B = false) := fun h => eqB_no fun e => by subst e; exact h rfl
      have HST : Hid (A[k] = B[k] → ∀ j (h : j < k + 1) (h1 : j < A.length) (h2 : j < B.length), A[j] = B[j]) := fun h j hj h1 h2 => by
        rcases Nat.lt_or_ge j k with hjk | hjk
        · exact HALL.out j hjk h1 h2
        · obtain rfl : j = k := by omega
          exact h
      obtain ⟨au, cu, rfl⟩ := hu.2.2.1.1.1.sl
      obtain ⟨av, cv, rfl⟩ := hv.2.2.1.1.1.sl
      clear hu hv
      generalize A[k] = d at *
      generalize B[k] = e at *
      obtain ⟨n, r⟩ := d
      obtain ⟨m, q⟩ := e
      simp only at *
      by_cases hn : n = m
      · subst hn
        have hq : (n.toList == n.toList) = true := by simp
        cases hr : eqB r q
        · have HR := hide3 (HNE.out fun e => by injection e with _ e2; rw [eqB_yes e2] at hr; cases hr)
          rw [hr] at HC
          clear hb HNE HST HALL hr
          go_wp2_with fail
          refine wp_region_keep HK.out (by kernel_rfl) (by kernel_rfl) (by first | exact HO.out | exact HK.out.drew HO.out) ?_
          intro C hin hout
          have HIN := hide3 hin
          have HOUT := hide3 hout
          clear hin hout HO
          repeat
            (with_reducible refine wpQuiet_step (fun K hK => ?_)
             go_simp
             first
               | (refine hK _ ?_; clear hK K)
               | (apply Exists.intro; refine ⟨fun w1 hC => ?_, hK _ ?_⟩; (focus ((first | (go_at_call 83; with_reducible exact callC' HIN.out HOUT.out HK.out HC.out w1 hC) | (exact rfl) | (obtain ⟨hb1, ⟨p0, p1, ph, p3⟩, ⟨q0, q1, qh, q3⟩⟩ := HOUT.out w1 hC; clear hC; go_simp; first | done | exact rfl)); done)); clear hK K))
          refine wpQuiet_nil ?_
          intro wn hC
          have HO := hide3 (HOUT.out _ hC)
          clear hC HIN HOUT C
          obtain ⟨hb1, ⟨p0, p1, ph, p3⟩, ⟨q0, q1, qh, q3⟩⟩ := HO.out
          go_wp2
          go_ret
          exact ⟨ret_bool HR.out.symm, HO.out.1⟩
        · have HR := hide3 (HST.out (by rw [eqB_iff.1 hr]))
          rw [hr] at HC
          clear hb HNE HST HALL hr
          go_wp2_with fail
          refine wp_region_keep HK.out (by kernel_rfl) (by kernel_rfl) (by first | exact HO.out | exact HK.out.drew HO.out) ?_
          intro C hin hout
          have HIN := hide3 hin
          have HOUT := hide3 hout
          clear hin hout HO
          repeat
            (with_reducible refine wpQuiet_step (fun K hK => ?_)
             go_simp
             first
               | (refine hK _ ?_; clear hK K)
               | (apply Exists.intro; refine ⟨fun w1 hC => ?_, hK _ ?_⟩; (focus ((first | (go_at_call 83; with_reducible exact callC' HIN.out HOUT.out HK.out HC.out w1 hC) | (exact rfl) | (obtain ⟨hb1, ⟨p0, p1, ph, p3⟩, ⟨q0, q1, qh, q3⟩⟩ := HOUT.out w1 hC; clear hC; go_simp; first | done | exact rfl)); done)); clear hK K))
          refine wpQuiet_nil ?_
          intro wn hC
          have HO := hide3 (HOUT.out _ hC)
          clear hC HIN HOUT C
          obtain ⟨hb1, ⟨p0, p1, ph, p3⟩, ⟨q0, q1, qh, q3⟩⟩ := HO.out
          go_wp2
          exact ⟨⟨k + 1, by omega, by go_num, HO.out.1, HR.out⟩, by simp [intOf]; omega⟩
      · have HR := hide3 (HNE.out fun e => hn (by injection e))
        have hq : (n.toList == m.toList) = false := beq_eq_false_iff_ne.2 fun e => hn (bytes_same e)
        clear hb HNE HST HALL HC
        go_wp2_with fail
        refine wp_region_keep HK.out (by kernel_rfl) (by kernel_rfl) (by first | exact HO.out | exact HK.out.drew HO.out) ?_
        intro C hin hout
        have HIN := hide3 hin
        have HOUT := hide3 hout
        clear hin hout HO
        repeat
          (with_reducible refine wpQuiet_step (fun K hK => ?_)
           go_simp
           first
             | (refine hK _ ?_; clear hK K)
             | (apply Exists.intro; refine ⟨fun w1 hC => ?_, hK _ ?_⟩; (focus ((first | (exact rfl) | (obtain ⟨hb1, ⟨p0, p1, ph, p3⟩, ⟨q0, q1, qh, q3⟩⟩ := HOUT.out w1 hC; clear hC; go_simp; first | done | exact rfl)); done)); clear hK K))
        refine wpQuiet_nil ?_
        intro wn hC
        have HO := hide3 (HOUT.out _ hC)
        clear hC HIN HOUT C
        obtain ⟨hb1, ⟨p0, p1, ph, p3⟩, ⟨q0, q1, qh, q3⟩⟩ := HO.out
        go_wp2
        go_ret
        exact ⟨ret_bool HR.out.symm, HO.out.1⟩
    · have hke : k = A.length := by omega
      subst hke
      have HR : Hid (eqB A B = true) := eqB_yes (List.ext_getElem HAB.out fun j h1 h2 => HALL.out j h1 h1 h2)
      clear hb
      go_wp2
      go_ret
      exact ⟨ret_bool HR.out.symm, HB.out⟩

theorem rDeps_nil (ad bd : Option Addr) (ca cb : Nat) (w : World) :
    Calls Tryz.prog 62 #[.slice ad 0 ca, .slice bd 0 cb] w fun e w' => e = .returned (.bool true) ∧ Below w.heap.size w w' := by
  go_enter Tryz.func62, Tryz.ntmps62
  go_wp2_with fail
  go_loop [5] (fun i => i = .int .i64 0) (fun _ => 0)
  case atStart => rfl
  case round =>
    subst hrel
    go_wp2
    go_ret
    exact ⟨rfl, Below.refl _ _⟩

theorem rDeps_len (ad bd : Option Addr) (n m ca cb : Nat) (h : n ≠ m) (w : World) :
    Calls Tryz.prog 62 #[.slice ad n ca, .slice bd m cb] w fun e w' => e = .returned (.bool false) ∧ Below w.heap.size w w' := by
  have hn : ((n : Int) = (m : Int)) = False := by simp; omega
  go_enter Tryz.func62, Tryz.ntmps62
  go_wp2
  go_ret
  exact ⟨rfl, Below.refl _ _⟩

theorem rDeps_any {A B : List Dp} {va vb : Value} {w : World} (ha : DepsAt w va A) (hb : DepsAt w vb B) (hsz : A.length ≤ 9223372036854775807) :
    Calls Tryz.prog 62 #[va, vb] w fun e w' => e = .returned (.bool (eqB A B)) ∧ Below w.heap.size w w' := by
  obtain ⟨ad, ca, rfl, _, hl⟩ := ha
  obtain ⟨bd, cb, rfl, _, hm⟩ := hb
  by_cases hn : A.length = B.length
  · rcases hl with rfl | ⟨ga, oa, rfl, hga, hla⟩
    · obtain rfl : B = [] := List.eq_nil_of_length_eq_zero (by simpa using hn.symm)
      rw [eqB_yes rfl]
      exact rDeps_nil _ _ _ _ w
    · rcases hm with rfl | ⟨gb, ob, rfl, hgb, hlb⟩
      · obtain rfl : A = [] := List.eq_nil_of_length_eq_zero (by simpa using hn)
        rw [eqB_yes rfl]
        exact rDeps_nil _ _ _ _ w
      · exact rDeps_walk A B hn hsz ga oa ca gb ob cb w hla hlb
  · rw [eqB_no fun e => hn (by rw [e])]
    exact rDeps_len _ _ _ _ _ _ hn w
end Go.Proofs.YtcclfaioicklaaaGreatDoor
namespace Go.Proofs.YtcclfaioicklaaaGreatDoor
open Go.RowKit
set_option maxRecDepth 100000

theorem drop_byte {s : ByteArray} {k : Nat} (h : k < s.size) : s.toList.drop k = s[k] :: s.toList.drop (k + 1) := by
  have := List.drop_eq_getElem_cons (l := s.data.toList) (i := k) (by rw [list_size]; exact h)
  rw [ByteArray.toList_eq]
  exact this
theorem drop_all {s : ByteArray} {k : Nat} (h : s.size ≤ k) : s.toList.drop k = [] := by
  rw [ByteArray.toList_eq]
  exact List.drop_of_length_le (by rw [list_size]; exact h)
theorem bl_hit {a b : ByteArray} {k : Nat} (ha : k < a.size) (hb : k < b.size) (h : a[k] ≠ b[k]) : Op.bytesLess (a.toList.drop k) (b.toList.drop k) = decide (a[k].toNat < b[k].toNat) := by
  rw [drop_byte ha, drop_byte hb]
  show (decide (a[k] < b[k]) || (a[k] == b[k] && _)) = _
  rw [show (a[k] == b[k]) = false from beq_eq_false_iff_ne.2 h, Bool.false_and, Bool.or_false]
  rfl
theorem bl_step {a b : ByteArray} {k : Nat} (ha : k < a.size) (hb : k < b.size) (h : a[k] = b[k]) : Op.bytesLess (a.toList.drop k) (b.toList.drop k) = Op.bytesLess (a.toList.drop (k + 1)) (b.toList.drop (k + 1)) := by
  rw [drop_byte ha, drop_byte hb, h]
  show (decide (b[k] < b[k]) || (b[k] == b[k] && _)) = _
  simp
theorem bl_end {a b : ByteArray} {k : Nat} (hka : k ≤ a.size) (hkb : k ≤ b.size) (h : ¬ (k < a.size ∧ k < b.size)) : Op.bytesLess (a.toList.drop k) (b.toList.drop k) = decide (a.size < b.size) := by
  by_cases hb : k < b.size
  · have ha : a.size = k := by omega
    rw [drop_all (by omega), drop_byte hb]
    show true = _
    rw [decide_eq_true (by omega)]
  · rw [drop_all (s := b) (by omega)]
    rw [decide_eq_false (by omega)]
    cases List.drop k a.toList <;> rfl

set_option maxHeartbeats 1600000 in
theorem rLess_any (a b : ByteArray) (w : World) (ha : a.size ≤ 9223372036854775807) : Calls Tryz.prog 117 #[.string a, .string b] w fun e w' => e = .returned (.bool (ltS a b)) ∧ Below w.heap.size w w' := by
  have HR0 : Hid (ltS a b = Op.bytesLess (a.toList.drop 0) (b.toList.drop 0)) := rfl
  have HK : Hid (KeepP fun w1 => Below w.heap.size w w1) := keepBelow w
  go_enter Tryz.func117, Tryz.ntmps117
  go_wp2_with fail
  go_loopw [5] (fun i wr => ∃ k : Nat, k ≤ a.size ∧ k ≤ b.size ∧ i = .int .i64 k ∧ Below w.heap.size w wr ∧ ltS a b = Op.bytesLess (a.toList.drop k) (b.toList.drop k)) (fun i _ => a.size - (intOf i).toNat)
  case atStart => exact ⟨0, Nat.zero_le _, Nat.zero_le _, rfl, Below.refl _ _, HR0.out⟩
  case round =>
    clear HR0
    obtain ⟨k, hka, hkb, rfl, hbw, hrl⟩ := hrel
    have HO := hide3 hbw
    have HRL := hide3 hrl
    clear hbw hrl
    by_cases hh : k < a.size ∧ k < b.size
    · obtain ⟨h1, h2⟩ := hh
      have g1 : (k : Int) < (a.size : Int) := by omega
      have g2 : (k : Int) < (b.size : Int) := by omega
      by_cases he : a[k] = b[k]
      · have HS : Hid (ltS a b = Op.bytesLess (a.toList.drop (k + 1)) (b.toList.drop (k + 1))) := by unfold Hid; rw [HRL.out, bl_step h1 h2 he]
        have e1 : ((a[k].toNat : Int) == (b[k].toNat : Int)) = true := by rw [he]; simp
        clear he
        go_wp2_with fail
        refine wp_region_keep HK.out (by kernel_rfl) (by kernel_rfl) (by first | exact HO.out | exact HK.out.drew HO.out) ?_
        intro C hin hout
        have HIN := hide3 hin
        have HOUT := hide3 hout
        clear hin hout HO
        repeat
          (with_reducible refine wpQuiet_step (fun K hK => ?_)
           go_simp
           first
             | (refine hK _ ?_; clear hK K)
             | (apply Exists.intro; refine ⟨fun w1 hC => ?_, hK _ ?_⟩; (focus ((first | (exact rfl) | (obtain hb1 := HOUT.out w1 hC; clear hC; go_simp; first | done | exact rfl)); done)); clear hK K))
        refine wpQuiet_nil ?_
        intro wn hC
        have HO := hide3 (HOUT.out _ hC)
        clear hC HIN HOUT C
        obtain hb1 := HO.out
        go_wp2
        exact ⟨⟨k + 1, by omega, by omega, by go_num, HO.out, HS.out⟩, by simp [intOf]; omega⟩
      · have HS : Hid (ltS a b = decide (a[k].toNat < b[k].toNat)) := by unfold Hid; rw [HRL.out, bl_hit h1 h2 he]
        have e1 : ((a[k].toNat : Int) == (b[k].toNat : Int)) = false := by
          rw [beq_eq_false_iff_ne]
          intro e
          exact he (UInt8.toNat_inj.1 (by omega))
        clear he
        by_cases hl : a[k].toNat < b[k].toNat
        · have HR : Hid (ltS a b = true) := by unfold Hid; rw [HS.out, decide_eq_true hl]
          have e2 : decide ((a[k].toNat : Int) < (b[k].toNat : Int)) = true := decide_eq_true (by omega)
          go_wp2_with fail
          refine wp_region_keep HK.out (by kernel_rfl) (by kernel_rfl) (by first | exact HO.out | exact HK.out.drew HO.out) ?_
          intro C hin hout
          have HIN := hide3 hin
          have HOUT := hide3 hout
          clear hin hout HO
          repeat
            (with_reducible refine wpQuiet_step (fun K hK => ?_)
             go_simp
             first
               | (refine hK _ ?_; clear hK K)
               | (apply Exists.intro; refine ⟨fun w1 hC => ?_, hK _ ?_⟩; (focus ((first | (exact rfl) | (obtain hb1 := HOUT.out w1 hC; clear hC; go_simp; first | done | exact rfl)); done)); clear hK K))
          refine wpQuiet_nil ?_
          intro wn hC
          have HO := hide3 (HOUT.out _ hC)
          clear hC HIN HOUT C
          obtain hb1 := HO.out
          go_wp2_with fail
          refine wp_region_keep HK.out (by kernel_rfl) (by kernel_rfl) (by first | exact HO.out | exact HK.out.drew HO.out) ?_
          intro C hin hout
          have HIN := hide3 hin
          have HOUT := hide3 hout
          clear hin hout HO
          repeat
            (with_reducible refine wpQuiet_step (fun K hK => ?_)
             go_simp
             first
               | (refine hK _ ?_; clear hK K)
               | (apply Exists.intro; refine ⟨fun w1 hC => ?_, hK _ ?_⟩; (focus ((first | (exact rfl) | (obtain hb2 := HOUT.out w1 hC; clear hC; go_simp; first | done | exact rfl)); done)); clear hK K))
          refine wpQuiet_nil ?_
          intro wm hC
          have HO := hide3 (HOUT.out _ hC)
          clear hC HIN HOUT C
          obtain hb2 := HO.out
          go_wp2
          go_ret
          exact ⟨ret_bool HR.out.symm, HO.out⟩
        · have HR : Hid (ltS a b = false) := by unfold Hid; rw [HS.out, decide_eq_false hl]
          have e2 : decide ((a[k].toNat : Int) < (b[k].toNat : Int)) = false := decide_eq_false (by omega)
          go_wp2_with fail
          refine wp_region_keep HK.out (by kernel_rfl) (by kernel_rfl) (by first | exact HO.out | exact HK.out.drew HO.out) ?_
          intro C hin hout
          have HIN := hide3 hin
          have HOUT := hide3 hout
          clear hin hout HO
          repeat
            (with_reducible refine wpQuiet_step (fun K hK => ?_)
             go_simp
             first
               | (refine hK _ ?_; clear hK K)
               | (apply Exists.intro; refine ⟨fun w1 hC => ?_, hK _ ?_⟩; (focus ((first | (exact rfl) | (obtain hb1 := HOUT.out w1 hC; clear hC; go_simp; first | done | exact rfl)); done)); clear hK K))
          refine wpQuiet_nil ?_
          intro wn hC
          have HO := hide3 (HOUT.out _ hC)
          clear hC HIN HOUT C
          obtain hb1 := HO.out
          go_wp2_with fail
          refine wp_region_keep HK.out (by kernel_rfl) (by kernel_rfl) (by first | exact HO.out | exact HK.out.drew HO.out) ?_
          intro C hin hout
          have HIN := hide3 hin
          have HOUT := hide3 hout
          clear hin hout HO
          repeat
            (with_reducible refine wpQuiet_step (fun K hK => ?_)
             go_simp
             first
               | (refine hK _ ?_; clear hK K)
               | (apply Exists.intro; refine ⟨fun w1 hC => ?_, hK _ ?_⟩; (focus ((first | (exact rfl) | (obtain hb2 := HOUT.out w1 hC; clear hC; go_simp; first | done | exact rfl)); done)); clear hK K))
          refine wpQuiet_nil ?_
          intro wm hC
          have HO := hide3 (HOUT.out _ hC)
          clear hC HIN HOUT C
          obtain hb2 := HO.out
          go_wp2
          go_ret
          exact ⟨ret_bool HR.out.symm, HO.out⟩
    · have HR : Hid (ltS a b = decide (a.size < b.size)) := by
        unfold Hid
        rw [HRL.out, bl_end hka hkb hh]
      by_cases h1 : k < a.size
      · have h2 : decide ((k : Int) < (b.size : Int)) = false := decide_eq_false (by omega)
        have g1 : (k : Int) < (a.size : Int) := by omega
        go_wp2
        go_ret
        exact ⟨ret_bool HR.out.symm, HO.out⟩
      · have h2 : decide ((k : Int) < (a.size : Int)) = false := decide_eq_false (by omega)
        go_wp2
        go_ret
        exact ⟨ret_bool HR.out.symm, HO.out⟩

/-- No name stands in both. -/
def apartB (A B : List Dp) : Bool := A.all fun d => B.all fun e => !(d.nm.toList == e.nm.toList)
theorem apart_no {A B : List Dp} {i k : Nat} (hi : i < A.length) (hk : k < B.length) (h : (A[i].nm.toList == B[k].nm.toList) = true) : apartB A B = false := by
  rw [Bool.eq_false_iff]
  intro ha
  have := List.all_eq_true.1 (List.all_eq_true.1 ha _ (List.getElem_mem hi)) _ (List.getElem_mem hk)
  rw [h] at this
  cases this

set_option maxHeartbeats 3200000 in
theorem rApart_any {A B : List Dp} {va vb : Value} {w : World} (ha : DepsAt w va A) (hb : DepsAt w vb B) (hz : A.length ≤ 1000000 ∧ B.length ≤ 1000000) : Calls Tryz.prog 86 #[va, vb] w fun e w' => e = .returned (.bool (apartB A B)) ∧ Below w.heap.size w w' := by
  have HA : Hid (∀ w1, Below w.heap.size w w1 → DepsAt w1 va A) := fun w1 h => ha.below h
  have HB : Hid (∀ w1, Below w.heap.size w w1 → DepsAt w1 vb B) := fun w1 h => hb.below h
  obtain ⟨aa, ca, rfl⟩ := ha.sl
  obtain ⟨ab, cb, rfl⟩ := hb.sl
  obtain ⟨z1, z2⟩ := hz
  clear ha hb
  go_enter Tryz.func86, Tryz.ntmps86
  go_wp2_with fail
  go_loopw [5] (fun i wr => ∃ k : Nat, k ≤ A.length ∧ i = .int .i64 k ∧ Below w.heap.size w wr ∧ apartB A B = apartB (A.drop k) B) (fun i _ => A.length - (intOf i).toNat)
  case atStart => exact ⟨0, Nat.zero_le _, rfl, Below.refl _ _, rfl⟩
  case round =>
    obtain ⟨k, hk, rfl, hbw, hap⟩ := hrel
    have HBW := hide3 hbw
    have HAP := hide3 hap
    clear hap
    by_cases hlt : k < A.length
    · have HAPK : Hid (apartB A B = ((B.all fun e => !(A[k].nm.toList == e.nm.toList)) && apartB (A.drop (k + 1)) B)) := by
        unfold Hid
        rw [HAP.out, List.drop_eq_getElem_cons hlt]
        rfl
      clear hbw HAP
      go_wp2_with fail
      go_loopw [6] (fun j wq => ∃ m : Nat, m ≤ B.length ∧ j = .int .i64 m ∧ Below w.heap.size w wq ∧ (B.all fun e => !(A[k].nm.toList == e.nm.toList)) = ((B.drop m).all fun e => !(A[k].nm.toList == e.nm.toList))) (fun j _ => B.length - (intOf j).toNat)
      case atStart => exact ⟨0, Nat.zero_le _, rfl, HBW.out, rfl⟩
      case round =>
        clear HBW
        obtain ⟨m, hm, rfl, hbw, hal⟩ := hrel
        have HAL := hide3 hal
        have HBW := hide3 hbw
        clear hal
        by_cases hml : m < B.length
        · obtain ⟨ad1, cap1, e1, _, h1⟩ := HA.out wr hbw
          cases e1
          obtain ⟨ad2, cap2, e2, _, h2⟩ := HB.out wr hbw
          cases e2
          obtain ⟨ga, oa, rfl, _, h1⟩ : ∃ g o, aa = some ⟨g, o, none⟩ ∧ g < wr.heap.size ∧ ∀ i (h : i < A.length), ∃ u, DpIn wr g (o + i * 2) A[i] u := by
            rcases h1 with h | h
            · rw [h] at hlt; simp at hlt
            · exact h
          obtain ⟨gb, ob, rfl, _, h2⟩ : ∃ g o, ab = some ⟨g, o, none⟩ ∧ g < wr.heap.size ∧ ∀ i (h : i < B.length), ∃ u, DpIn wr g (o + i * 2) B[i] u := by
            rcases h2 with h | h
            · rw [h] at hml; simp at hml
            · exact h
          obtain ⟨u, hu⟩ := h1 k hlt
          obtain ⟨v, hv⟩ := h2 m hml
          have HO : Hid (Below w.heap.size w wr ∧ DpIn wr ga (oa + k * 2) A[k] u ∧ DpIn wr gb (ob + m * 2) B[m] v) := ⟨hbw, hu, hv⟩
          have HK : Hid (KeepP fun w1 => Below w.heap.size w w1 ∧ DpIn w1 ga (oa + k * 2) A[k] u ∧ DpIn w1 gb (ob + m * 2) B[m] v) := (keepBelow w).and ((keepDp _ _ _ _).and (keepDp _ _ _ _))
          have HNO : Hid ((A[k].nm.toList == B[m].nm.toList) = true → apartB A B = false) := fun h => apart_no hlt hml h
          have HST : Hid ((A[k].nm.toList == B[m].nm.toList) = false → (B.all fun e => !(A[k].nm.toList == e.nm.toList)) = ((B.drop (m + 1)).all fun e => !(A[k].nm.toList == e.nm.toList))) := fun h => by
            rw [HAL.out, List.drop_eq_getElem_cons hml, List.all_cons, h]
            rfl
          clear h1 h2 hu hv hbw HAL
          cases hq : (A[k].nm.toList == B[m].nm.toList)
          · have HR := hide3 (HST.out hq)
            clear HST HNO HAPK
            generalize A[k] = d at *
            generalize B[m] = e at *
            go_wp2_with fail
            refine wp_region_keep HK.out (by kernel_rfl) (by kernel_rfl) (by first | exact HO.out | exact HK.out.drew HO.out) ?_
            intro C hin hout
            have HIN := hide3 hin
            have HOUT := hide3 hout
            clear hin hout HO
            repeat
              (with_reducible refine wpQuiet_step (fun K hK => ?_)
               go_simp
               first
                 | (refine hK _ ?_; clear hK K)
                 | (apply Exists.intro; refine ⟨fun w1 hC => ?_, hK _ ?_⟩; (focus ((first | (exact rfl) | (obtain ⟨hb1, ⟨p0, p1, ph, p3⟩, ⟨q0, q1, qh, q3⟩⟩ := HOUT.out w1 hC; clear hC; go_simp; first | done | exact rfl)); done)); clear hK K))
            refine wpQuiet_nil ?_
            intro wn hC
            have HO := hide3 (HOUT.out _ hC)
            clear hC HIN HOUT C
            obtain ⟨hb1, ⟨p0, p1, ph, p3⟩, ⟨q0, q1, qh, q3⟩⟩ := HO.out
            go_wp2
            exact ⟨⟨m + 1, by omega, by go_num, HO.out.1, HR.out⟩, by simp [intOf]; omega⟩
          · have HR := hide3 (HNO.out hq)
            clear HST HNO HAPK
            generalize A[k] = d at *
            generalize B[m] = e at *
            go_wp2_with fail
            refine wp_region_keep HK.out (by kernel_rfl) (by kernel_rfl) (by first | exact HO.out | exact HK.out.drew HO.out) ?_
            intro C hin hout
            have HIN := hide3 hin
            have HOUT := hide3 hout
            clear hin hout HO
            repeat
              (with_reducible refine wpQuiet_step (fun K hK => ?_)
               go_simp
               first
                 | (refine hK _ ?_; clear hK K)
                 | (apply Exists.intro; refine ⟨fun w1 hC => ?_, hK _ ?_⟩; (focus ((first | (exact rfl) | (obtain ⟨hb1, ⟨p0, p1, ph, p3⟩, ⟨q0, q1, qh, q3⟩⟩ := HOUT.out w1 hC; clear hC; go_simp; first | done | exact rfl)); done)); clear hK K))
            refine wpQuiet_nil ?_
            intro wn hC
            have HO := hide3 (HOUT.out _ hC)
            clear hC HIN HOUT C
            obtain ⟨hb1, ⟨p0, p1, ph, p3⟩, ⟨q0, q1, qh, q3⟩⟩ := HO.out
            go_wp2
            go_ret
            exact ⟨ret_bool HR.out.symm, HO.out.1⟩
        · have HN : Hid (apartB A B = apartB (A.drop (k + 1)) B) := by
            unfold Hid
            rw [HAPK.out, HAL.out, List.drop_of_length_le (by omega)]
            rfl
          clear hbw
          go_wp2
          exact ⟨⟨k + 1, by omega, by go_num, HBW.out, HN.out⟩, by simp [intOf]; omega⟩
    · have HR : Hid (apartB A B = true) := by unfold Hid; rw [HAP.out, List.drop_of_length_le (by omega)]; rfl
      clear hbw
      go_wp2
      go_ret
      exact ⟨ret_bool HR.out.symm, HBW.out⟩
end Go.Proofs.YtcclfaioicklaaaGreatDoor
namespace Go.Proofs.YtcclfaioicklaaaGreatDoor
open Go.RowKit
set_option maxRecDepth 100000

theorem alt_known : altR ⟨#[94, 49, 46, 50, 46, 51]⟩ = some [(1002003, 1999999)] := by decide +kernel
theorem pieces_known : piecesB ⟨#[94, 49, 46, 50, 46, 51]⟩ ⟨#[124, 124]⟩ = [⟨#[94, 49, 46, 50, 46, 51]⟩] := by decide +kernel
theorem pieces_known2 : piecesB ⟨#[94, 49, 46, 50, 46, 51]⟩ ⟨#[32]⟩ = [⟨#[94, 49, 46, 50, 46, 51]⟩] := by decide +kernel
theorem print_known : printR [(1002003, 1999999)] = ⟨#[62, 61, 49, 46, 50, 46, 51, 32, 60, 61, 49, 46, 57, 57, 57, 46, 57, 57, 57]⟩ := by decide +kernel
theorem rg_known : RangeR [(1002003, 1999999)] := ⟨by decide, by decide, by decide, trivial⟩
theorem in_known : inL (([(1002003, 1999999)] : Rg).map spR) 1 9 0 = true := by
  rw [in_rg rg_known (by decide)]
  exact ⟨by decide, Or.inl (by decide)⟩
theorem ascii_of {l : List UInt8} (h : (l.all fun b => decide (b.toNat < 128)) = true) : ∀ (j : Nat) b, l[j]? = some b → b.toNat < 128 := by
  intro j b hj
  have := List.all_eq_true.1 h b (List.mem_of_getElem? hj)
  simpa using this
theorem plain_known : PlainT ⟨#[94, 49, 46, 50, 46, 51]⟩ := by
  unfold PlainT
  rw [pieces_known]
  intro a ha
  rw [List.mem_singleton] at ha
  subst ha
  rw [pieces_known2]
  intro p hp _
  rw [List.mem_singleton] at hp
  subst hp
  exact Or.inr (ascii_of (by decide))

end Go.Proofs.YtcclfaioicklaaaGreatDoor
