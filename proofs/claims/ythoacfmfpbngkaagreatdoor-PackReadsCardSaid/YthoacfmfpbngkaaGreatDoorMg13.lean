/- Rp3, Fold1, Ref2, laid in one text. -/
import Derived.Deep.AppendLies
import Derived.Laws.OwnMore
import Derived.Laws.AppendOwn
import Derived.OwnWalk
import Derived.Test.YthoacfmfpbngkaaGreatDoorMg12
namespace Go.Proofs.YthoacfmfpbngkaaGreatDoor
open Go.RowKit
set_option maxRecDepth 100000

theorem infoStr3 : (Tryz.prog.info? 9).map (fun i => (i.zero, i.size, i.bytes)) = some (some (.string ByteArray.empty), 1, 16) := by kernel_rfl
def btV (ws : List Bt) : List Value := ws.map fun w => .string (bt w)
theorem btV_snoc (ws : List Bt) (x : Bt) : btV (ws ++ [x]) = btV ws ++ [.string (bt x)] := by simp [btV]
/-- Texts of one's own. -/
def OwnK (w : World) (B : Nat) (v : Value) (ws : List Bt) : Prop := w.ownsRow B 9 1 v ws.length (btV ws)
theorem OwnK.nil (w : World) (B : Nat) : OwnK w B (.slice none 0 0) [] := ⟨rfl, Or.inl ⟨rfl, rfl⟩⟩
theorem OwnK.below {w w' : World} {B : Nat} {v : Value} {ws : List Bt} (h : OwnK w B v ws) (hb : Below w.heap.size w w') : OwnK w' B v ws := by
  refine ⟨h.1, ?_⟩
  rcases h.2 with hn | ⟨g, cap, cur, rfl, hB, hgg, r⟩
  · exact Or.inl hn
  · exact Or.inr ⟨g, cap, cur, rfl, hB, (hb.block g (Array.getElem?_eq_some_iff.1 hgg).1).trans hgg, r⟩
theorem OwnK.alloc {w : World} {B : Nat} {v : Value} {ws : List Bt} (h : OwnK w B v ws) (o : Obj) : OwnK (w.alloc o) B v ws := h.below (boxB _ _)
/-- Texts that lie in memory. -/
def TxtsAt (w : World) (v : Value) (ws : List Bt) : Prop := ∃ ad cap, v = .slice ad ws.length cap ∧ (ws = [] ∨ ∃ g, ad = some ⟨g, 0, none⟩ ∧ g < w.heap.size ∧ ∀ i (h : i < ws.length), w.cell? ⟨g, i, none⟩ = some (.string (bt ws[i])))
theorem TxtsAt.below {w w' : World} {v : Value} {ws : List Bt} (h : TxtsAt w v ws) (hb : Below w.heap.size w w') : TxtsAt w' v ws := by
  obtain ⟨ad, cap, rfl, h⟩ := h
  refine ⟨ad, cap, rfl, h.imp id ?_⟩
  rintro ⟨g, ha, hg, hs⟩
  exact ⟨g, ha, Nat.lt_of_lt_of_le hg hb.size, fun i hi => (hb.cell (p := ⟨g, i, none⟩) hg).trans (hs i hi)⟩
theorem OwnK.at {w : World} {B : Nat} {v : Value} {ws : List Bt} (h : OwnK w B v ws) : TxtsAt w v ws := by
  have h0 := h
  rcases h.2 with ⟨rfl, hn⟩ | ⟨g, cap, cur, rfl, hB, hg, hc, _⟩
  · exact ⟨none, 0, by rw [hn], Or.inl (List.eq_nil_of_length_eq_zero hn)⟩
  · refine ⟨_, cap, rfl, Or.inr ⟨g, rfl, (Array.getElem?_eq_some_iff.1 hg).1, fun i hi => ?_⟩⟩
    have := World.ownsRow.cellAt h0 i (by omega)
    rw [this]
    simp [btV, hi]

theorem bt_extract (s : ByteArray) (f k : Nat) : s.extract f k = bt ((s.data.toList.take k).drop f) := by
  refine of_list ?_
  rw [ByteArray.data_extract, Array.toList_extract, List.extract_eq_take_drop, List.drop_take]
theorem drop_atT {t : ByteArray} {k : Nat} (h : k < t.size) : t.data.toList.drop k = t[k] :: t.data.toList.drop (k + 1) := List.drop_eq_getElem_cons (by rw [list_size]; exact h)
theorem take_atT {t : ByteArray} {f k : Nat} (h : k < t.size) (hf : f ≤ k) : (t.data.toList.take (k + 1)).drop f = (t.data.toList.take k).drop f ++ [t[k]] := by
  rw [List.take_succ_eq_append_getElem (by rw [list_size]; exact h), List.drop_append_of_le_length (by rw [List.length_take, list_size]; omega)]
  rfl
theorem cur_nilT (t : ByteArray) (k : Nat) : (t.data.toList.take k).drop k = [] := List.drop_of_length_le (by rw [List.length_take]; omega)
theorem drop_endT {t : ByteArray} {k : Nat} (h : ¬ k < t.size) : t.data.toList.drop k = [] := List.drop_of_length_le (by rw [list_size]; omega)
theorem byte_eq {x y : UInt8} : ((x.toNat : Int) == (y.toNat : Int)) = (x == y) := by
  by_cases h : x = y
  · subst h; simp
  · rw [beq_eq_false_iff_ne.2 h, beq_eq_false_iff_ne]
    intro e
    exact h (UInt8.toNat_inj.1 (by omega))

set_option maxHeartbeats 6400000 in
theorem alternatives_walk (s : ByteArray) (hs : s.size ≤ 4194304) (w : World) :
    Calls Tryz.prog 70 #[.string s] w fun e w' => ∃ v, e = .returned v ∧ OwnK w' w.heap.size v (seg [124, 124] [] s.data.toList) ∧ (seg [124, 124] [] s.data.toList).length ≤ s.size + 1 ∧ Below w.heap.size w w' := by
  obtain ⟨i0, hi, hz0, hz1, hz2⟩ := info_parts3 infoStr3
  go_enter Tryz.func70, Tryz.ntmps70
  go_wp2
  go_loopw [3, 4, 5] (fun v fr i wr => ∃ (k f : Nat) (pre : List Bt), k ≤ s.size ∧ i = .int .i64 k ∧ fr = .int .i64 f ∧ f ≤ k ∧ pre.length ≤ k ∧ OwnK wr w.heap.size v pre ∧ Below w.heap.size w wr ∧ seg [124, 124] [] s.data.toList = pre ++ seg [124, 124] ((s.data.toList.take k).drop f) (s.data.toList.drop k)) (fun _ _ i _ => s.size - (intOf i).toNat)
  case atStart => exact ⟨0, 0, [], Nat.zero_le _, rfl, rfl, Nat.le_refl _, Nat.le_refl _, OwnK.nil _ _, Below.refl _ _, rfl⟩
  case round =>
    obtain ⟨k, f, pre, hk, rfl, rfl, hf, hpl, how, hb, heq⟩ := hrel
    have HO := hide3 how
    have HB := hide3 hb
    have HE := hide3 heq
    clear how hb heq
    have wk1 : IntKind.i64.wrap ((k : Int) + 1) = ((k + 1 : Nat) : Int) := by rw [IntKind.wrap_i64]; push_cast; omega
    by_cases hlt : k + 1 < s.size
    · have hk0 : k < s.size := by omega
      have hd := drop_atT hk0
      have hd1 := drop_atT hlt
      by_cases hx : s[k] = 124
      · have e1 : ((s[k].toNat : Int) == 124) = true := by rw [hx]; rfl
        by_cases hy : s[k + 1] = 124
        · have e2 : ((s[k + 1].toNat : Int) == 124) = true := by rw [hy]; rfl
          have HE2 : Hid (seg [124, 124] [] s.data.toList = (pre ++ [(s.data.toList.take k).drop f]) ++ seg [124, 124] ((s.data.toList.take (k + 2)).drop (k + 2)) (s.data.toList.drop (k + 2))) := by
            unfold Hid
            rw [cur_nilT, HE.out, hd, hd1, hx, hy, seg_hit (by simp) (by simp)]
            simp
          clear hd hd1 hx hy
          go_wp2_with (at_builtin; refine wpList_append_own_at _ rfl _ _ 38 rfl w.heap.size 9 i0 _ 1 16 Tryz.underlying38 hi hz0 hz1 hz2 rfl (by decide) _ _ _ rfl (HO.out.alloc _) ⟨wr.heap.size, 0, none⟩ 1 1 [.string (s.extract f k)] rfl rfl (cell_one_new _ _ _) (by simp [Value.oneCell']) (by unfold maxLen; omega) (by omega) (by have := HB.out.size; simp; omega) ?_; intro v2 w2 hown2 hg2 hnil2 hat2; have HO2 : Hid (OwnK w2 w.heap.size v2 (pre ++ [(s.data.toList.take k).drop f]) ∧ Below w.heap.size w w2) := (⟨by unfold OwnK; rw [btV_snoc, List.length_append, ← bt_extract]; exact hown2, (below_then HB.out (boxB _ _)).grown hg2 (below_then HB.out (boxB _ _)).size fun j hj => (World.ownsRow.lt HO.out j hj).1⟩); clear hown2 hg2 hnil2 hat2; go_frame)
          exact ⟨⟨k + 2, k + 2, _, by omega, by go_num, by go_num, Nat.le_refl _, by simp; omega, HO2.out.1, HO2.out.2, HE2.out⟩, by simp [intOf]; omega⟩
        · have e2 : ((s[k + 1].toNat : Int) == 124) = false := by rw [show (124 : Int) = ((124 : UInt8).toNat : Int) from rfl, byte_eq, beq_eq_false_iff_ne]; exact hy
          have HE2 : Hid (seg [124, 124] [] s.data.toList = pre ++ seg [124, 124] ((s.data.toList.take (k + 1)).drop f) (s.data.toList.drop (k + 1))) := by
            unfold Hid
            rw [take_atT hk0 hf, HE.out, hd, seg_go]
            rw [hd1, hx]
            show ((124 : UInt8) == 124 && ((124 : UInt8) == s[k + 1] && _)) = false
            rw [beq_eq_false_iff_ne.2 (fun e => hy e.symm)]
            rfl
          clear hd hd1 hx hy
          go_wp2
          exact ⟨⟨k + 1, f, pre, by omega, by go_num, rfl, by omega, by omega, HO.out, HB.out, HE2.out⟩, by simp [intOf]; omega⟩
      · have e1 : ((s[k].toNat : Int) == 124) = false := by rw [show (124 : Int) = ((124 : UInt8).toNat : Int) from rfl, byte_eq, beq_eq_false_iff_ne]; exact hx
        have HE2 : Hid (seg [124, 124] [] s.data.toList = pre ++ seg [124, 124] ((s.data.toList.take (k + 1)).drop f) (s.data.toList.drop (k + 1))) := by
          unfold Hid
          rw [take_atT hk0 hf, HE.out, hd, seg_go (pre_no hx)]
        clear hd hd1 hx
        go_wp2
        exact ⟨⟨k + 1, f, pre, by omega, by go_num, rfl, by omega, by omega, HO.out, HB.out, HE2.out⟩, by simp [intOf]; omega⟩
    · have HE2 : Hid (seg [124, 124] [] s.data.toList = pre ++ [(s.data.toList.take s.size).drop f]) := by
        unfold Hid
        rw [HE.out]
        congr 1
        by_cases hk0 : k < s.size
        · rw [drop_atT hk0, drop_endT (by omega), seg_go (show List.isPrefixOf [124, 124] [s[k]] = false from Bool.and_false _), seg_nil, ← take_atT hk0 hf, show k + 1 = s.size by omega]
        · rw [drop_endT hk0, seg_nil, show k = s.size by omega]
      go_wp2_with (at_builtin; refine wpList_append_own_at _ rfl _ _ 38 rfl w.heap.size 9 i0 _ 1 16 Tryz.underlying38 hi hz0 hz1 hz2 rfl (by decide) _ _ _ rfl (HO.out.alloc _) ⟨wr.heap.size, 0, none⟩ 1 1 [.string (s.extract f s.size)] rfl rfl (cell_one_new _ _ _) (by simp [Value.oneCell']) (by unfold maxLen; omega) (by omega) (by have := HB.out.size; simp; omega) ?_; intro v2 w2 hown2 hg2 hnil2 hat2; have HO2 : Hid (OwnK w2 w.heap.size v2 (pre ++ [(s.data.toList.take s.size).drop f]) ∧ Below w.heap.size w w2) := (⟨by unfold OwnK; rw [btV_snoc, List.length_append, ← bt_extract]; exact hown2, (below_then HB.out (boxB _ _)).grown hg2 (below_then HB.out (boxB _ _)).size fun j hj => (World.ownsRow.lt HO.out j hj).1⟩); clear hown2 hg2 hnil2 hat2; go_frame)
      go_ret
      exact ⟨_, rfl, by rw [HE2.out]; exact HO2.out.1, by rw [HE2.out]; simp; omega, HO2.out.2⟩

/-- Words: what stands ahead of the next blank. -/
theorem words_cut {l p r : Bt} (hp : ∀ x ∈ p, x ≠ 32) (h : l = p ++ 32 :: r) : wordsD l = (if p = [] then [] else [p]) ++ wordsD r := by
  subst h
  unfold wordsD
  rw [show p ++ 32 :: r = p ++ (([32] : Bt) ++ r) from rfl, seg_more hp, List.nil_append]
  cases p with
  | nil => simp
  | cons b q => simp
theorem words_end {p : Bt} (hp : ∀ x ∈ p, x ≠ 32) : wordsD p = if p = [] then [] else [p] := by
  unfold wordsD
  rw [seg_one hp, List.nil_append]
  cases p with
  | nil => simp
  | cons b q => simp
theorem words_nil : wordsD [] = [] := words_end (fun x h => by cases h)

theorem take_drop_at {l : Bt} {i k : Nat} (hik : i ≤ k) : l.drop i = (l.take k).drop i ++ l.drop k := by
  conv => lhs; rw [← List.take_append_drop k l]
  rcases Nat.lt_or_ge l.length i with h | h
  · rw [List.drop_of_length_le (by simp; omega), List.drop_of_length_le (by simp; omega), List.drop_of_length_le (by omega)]
    rfl
  · rw [List.drop_append_of_le_length (by simp; omega)]

set_option maxHeartbeats 6400000 in
theorem words_doc (s : ByteArray) (hs : s.size ≤ 4194304) (w : World) :
    Calls Tryz.prog 71 #[.string s] w fun e w' => ∃ v, e = .returned v ∧ OwnK w' w.heap.size v (wordsD s.data.toList) ∧ (wordsD s.data.toList).length ≤ s.size ∧ Below w.heap.size w w' := by
  obtain ⟨i0, hi, hz0, hz1, hz2⟩ := info_parts3 infoStr3
  go_enter Tryz.func71, Tryz.ntmps71
  go_wp2
  go_loopw [3, 4] (fun v i wr => ∃ (k : Nat) (pre : List Bt), k ≤ s.size + 1 ∧ i = .int .i64 k ∧ pre.length ≤ k ∧ pre.length ≤ s.size ∧ OwnK wr w.heap.size v pre ∧ Below w.heap.size w wr ∧ wordsD s.data.toList = pre ++ wordsD (s.data.toList.drop k)) (fun _ i _ => s.size + 1 - (intOf i).toNat)
  case atStart => exact ⟨0, [], Nat.zero_le _, rfl, Nat.le_refl _, Nat.zero_le _, OwnK.nil _ _, Below.refl _ _, rfl⟩
  case round =>
    obtain ⟨i, pre, hk, rfl, hpl, hps, how, hb, heq⟩ := hrel
    have HO := hide3 how
    have HB := hide3 hb
    have HE := hide3 heq
    clear how hb heq
    by_cases hlt : i < s.size
    · go_wp2_with fail
      go_loopw [5] (fun q wq => ∃ k : Nat, i ≤ k ∧ k ≤ s.size ∧ q = .int .i64 k ∧ wq = wr ∧ ∀ x ∈ (s.data.toList.take k).drop i, x ≠ 32) (fun q _ => s.size - (intOf q).toNat)
      case atStart => exact ⟨i, Nat.le_refl _, by omega, rfl, rfl, fun x hx => by rw [cur_nilT] at hx; cases hx⟩
      case round =>
        obtain ⟨k, hik, hks, rfl, rfl, hno⟩ := hrel
        have HNO := hide3 hno
        clear hno
        by_cases hgo : ∃ h : k < s.size, s[k] ≠ 32
        · obtain ⟨hk0, hx⟩ := hgo
          have e1 : ((s[k].toNat : Int) == 32) = false := by rw [show (32 : Int) = ((32 : UInt8).toNat : Int) from rfl, byte_eq, beq_eq_false_iff_ne]; exact hx
          have HNO2 : Hid (∀ x ∈ (s.data.toList.take (k + 1)).drop i, x ≠ 32) := by
            intro x hxm
            rw [take_atT hk0 hik] at hxm
            rcases List.mem_append.1 hxm with h | h
            · exact HNO.out x h
            · rw [List.mem_singleton.1 h]; exact hx
          clear hx
          go_wp2
          exact ⟨⟨k + 1, by omega, by omega, by go_num, by first | rfl | trivial, HNO2.out⟩, by simp [intOf]; omega⟩
        · have HE2 : Hid (wordsD s.data.toList = pre ++ ((if (s.data.toList.take k).drop i = [] then [] else [(s.data.toList.take k).drop i]) ++ wordsD (s.data.toList.drop (k + 1)))) := by
            unfold Hid
            rw [HE.out]
            congr 1
            by_cases hk0 : k < s.size
            · have hx : s[k] = 32 := Classical.byContradiction fun h => hgo ⟨hk0, h⟩
              refine words_cut HNO.out ?_
              rw [take_drop_at hik, drop_atT hk0, hx]
            · rw [drop_endT (by omega : ¬ k + 1 < s.size), words_nil, List.append_nil, take_drop_at hik, drop_endT hk0, List.append_nil]
              exact words_end HNO.out
          have e1 : ∀ h : k < s.size, ((s[k].toNat : Int) == 32) = true := fun h => by
            have hx : s[k] = 32 := Classical.byContradiction fun hh => hgo ⟨h, hh⟩
            rw [hx]; rfl
          have hlen : ((s.data.toList.take k).drop i).length = k - i := by rw [List.length_drop, List.length_take, list_size]; omega
          by_cases hki : i < k
          · have HE3 : Hid (wordsD s.data.toList = (pre ++ [(s.data.toList.take k).drop i]) ++ wordsD (s.data.toList.drop (k + 1))) := by
              unfold Hid
              rw [HE2.out, if_neg (by intro e; rw [e] at hlen; simp at hlen; omega)]
              simp
            clear hgo HE2 hlen
            by_cases hk0 : k < s.size
            · have e2 := e1 hk0
              clear e1
              go_wp2_with (at_builtin; refine wpList_append_own_at _ rfl _ _ 38 rfl w.heap.size 9 i0 _ 1 16 Tryz.underlying38 hi hz0 hz1 hz2 rfl (by decide) _ _ _ rfl (HO.out.alloc _) ⟨wr.heap.size, 0, none⟩ 1 1 [.string (s.extract i k)] rfl rfl (cell_one_new _ _ _) (by simp [Value.oneCell']) (by unfold maxLen; omega) (by omega) (by have := HB.out.size; simp; omega) ?_; intro v2 w2 hown2 hg2 hnil2 hat2; have HO2 : Hid (OwnK w2 w.heap.size v2 (pre ++ [(s.data.toList.take k).drop i]) ∧ Below w.heap.size w w2) := (⟨by unfold OwnK; rw [btV_snoc, List.length_append, ← bt_extract]; exact hown2, (below_then HB.out (boxB _ _)).grown hg2 (below_then HB.out (boxB _ _)).size fun j hj => (World.ownsRow.lt HO.out j hj).1⟩); clear hown2 hg2 hnil2 hat2; go_frame)
              exact ⟨⟨k + 1, _, by omega, by go_num, by simp; omega, by simp; omega, HO2.out.1, HO2.out.2, HE3.out⟩, by simp [intOf]; omega⟩
            · have hk1 : ¬ ((k : Int) < (s.size : Int)) := by omega
              clear e1
              go_wp2_with (at_builtin; refine wpList_append_own_at _ rfl _ _ 38 rfl w.heap.size 9 i0 _ 1 16 Tryz.underlying38 hi hz0 hz1 hz2 rfl (by decide) _ _ _ rfl (HO.out.alloc _) ⟨wr.heap.size, 0, none⟩ 1 1 [.string (s.extract i k)] rfl rfl (cell_one_new _ _ _) (by simp [Value.oneCell']) (by unfold maxLen; omega) (by omega) (by have := HB.out.size; simp; omega) ?_; intro v2 w2 hown2 hg2 hnil2 hat2; have HO2 : Hid (OwnK w2 w.heap.size v2 (pre ++ [(s.data.toList.take k).drop i]) ∧ Below w.heap.size w w2) := (⟨by unfold OwnK; rw [btV_snoc, List.length_append, ← bt_extract]; exact hown2, (below_then HB.out (boxB _ _)).grown hg2 (below_then HB.out (boxB _ _)).size fun j hj => (World.ownsRow.lt HO.out j hj).1⟩); clear hown2 hg2 hnil2 hat2; go_frame)
              exact ⟨⟨k + 1, _, by omega, by go_num, by simp; omega, by simp; omega, HO2.out.1, HO2.out.2, HE3.out⟩, by simp [intOf]; omega⟩
          · obtain rfl : k = i := by omega
            have HE3 : Hid (wordsD s.data.toList = pre ++ wordsD (s.data.toList.drop (k + 1))) := by
              unfold Hid
              rw [HE2.out, cur_nilT, if_pos rfl, List.nil_append]
            have e2 := e1 hlt
            clear hgo HE2 hlen e1
            go_wp2
            exact ⟨⟨k + 1, pre, by omega, by go_num, by omega, hps, HO.out, HB.out, HE3.out⟩, by simp [intOf]; omega⟩
    · have HE2 : Hid (wordsD s.data.toList = pre) := by unfold Hid; rw [HE.out, drop_endT hlt, words_nil, List.append_nil]
      go_wp2
      go_ret
      exact ⟨_, rfl, by rw [HE2.out]; exact HO.out, by rw [HE2.out]; exact hps, HB.out⟩

/-- begins. -/
theorem begins_any (s t : ByteArray) (w : World) :
    Calls Tryz.prog 91 #[.string s, .string t] w fun e w' => e = .returned (.bool (t.data.toList.isPrefixOf s.data.toList)) ∧ Below w.heap.size w w' := by
  by_cases h : t.size ≤ s.size
  · have e1 : ((t.size : Int) ≤ (s.size : Int)) = True := eq_true (by omega)
    have hx : (s.extract 0 t.size).toList = s.data.toList.take t.size := by
      rw [ByteArray.toList_eq, Lib.extract_from_zero]
    have HR : Hid (t.data.toList.isPrefixOf s.data.toList = decide ((s.extract 0 t.size).toList = t.toList)) := by
      unfold Hid
      rw [hx, ByteArray.toList_eq, Bool.eq_iff_iff, List.isPrefixOf_iff_prefix, decide_eq_true_eq, List.prefix_iff_eq_take, list_size]
      exact eq_comm
    clear hx
    by_cases hq : (s.extract 0 t.size).toList = t.toList
    · go_enter Tryz.func91, Tryz.ntmps91
      go_wp2
      go_ret
      exact ⟨ret_bool (by rw [HR.out, decide_eq_true hq]), Below.refl _ _⟩
    · go_enter Tryz.func91, Tryz.ntmps91
      go_wp2
      go_ret
      exact ⟨ret_bool (by rw [HR.out, decide_eq_false hq]; exact beq_eq_false_iff_ne.2 hq), Below.refl _ _⟩
  · have HR : Hid (t.data.toList.isPrefixOf s.data.toList = false) := by
      unfold Hid
      rw [Bool.eq_false_iff]
      intro e
      have := (List.isPrefixOf_iff_prefix.1 e).length_le
      rw [list_size, list_size] at this
      omega
    go_enter Tryz.func91, Tryz.ntmps91
    go_wp2
    go_ret
    exact ⟨ret_bool HR.out.symm, Below.refl _ _⟩

theorem from_doc (lo hi : Int) (w : World) : Calls Tryz.prog 92 #[.int .i64 lo, .int .i64 hi] w fun e w' => ∃ v, e = .returned v ∧ SpansR w' v (fromR lo hi) ∧ Below w.heap.size w w' := by
  by_cases h : lo > hi
  · have HR : Hid (fromR lo hi = []) := by unfold Hid fromR; rw [if_pos h]
    go_enter Tryz.func92, Tryz.ntmps92
    go_wp2
    go_ret
    exact ⟨_, rfl, by rw [HR.out]; exact ⟨none, 0, rfl, Nat.le_refl _, Or.inl rfl⟩, Below.refl _ _⟩
  · have HR : Hid (fromR lo hi = [(lo, hi)]) := by unfold Hid fromR; rw [if_neg h]
    have H0 : Hid (∀ w1, Calls Tryz.prog 90 #[.int .i64 lo] w1 fun e w' => e = .returned (.agg #[.int .i64 (atA lo), .int .i64 (atB lo), .int .i64 (atC lo)]) ∧ Below w1.heap.size w1 w') := rat_any lo
    have H9 : Hid (∀ w1, Calls Tryz.prog 90 #[.int .i64 hi] w1 fun e w' => e = .returned (.agg #[.int .i64 (atA hi), .int .i64 (atB hi), .int .i64 (atC hi)]) ∧ Below w1.heap.size w1 w') := rat_any hi
    have HS : Hid (∀ w1, Below w.heap.size w w1 → SpansR (w1.alloc (.cells #[.int .i64 (atA lo), .int .i64 (atB lo), .int .i64 (atC lo), .int .i64 (atA hi), .int .i64 (atB hi), .int .i64 (atC hi)] 90)) (.slice (some ⟨w1.heap.size, 0, none⟩) 1 1) [(lo, hi)] ∧ Below w.heap.size w (w1.alloc (.cells #[.int .i64 (atA lo), .int .i64 (atB lo), .int .i64 (atC lo), .int .i64 (atA hi), .int .i64 (atB hi), .int .i64 (atC hi)] 90))) := fun w1 hb => spans_one hb lo hi rfl
    have t1 : True := trivial
    go_enter Tryz.func92, Tryz.ntmps92
    go_wp2_with (first
      | (have _t := t1; go_at_call 90; refine (H0.out _).mono ?_; rintro e w1 ⟨rfl, ok1⟩; clear t1; have HO1 := hide3 ok1; clear ok1)
      | (go_at_call 90; refine (H9.out _).mono ?_; rintro e w2 ⟨rfl, ok2⟩; have HO2 := hide3 (below_then HO1.out ok2); clear ok2))
    go_ret
    exact ⟨_, rfl, by rw [HR.out]; exact (HS.out _ HO2.out).1, (HS.out _ HO2.out).2⟩
end Go.Proofs.YthoacfmfpbngkaaGreatDoor
namespace Go.Proofs.YthoacfmfpbngkaaGreatDoor
set_option maxRecDepth 100000

/-- One byte more: the parts that are done, and the one under way. -/
def stepR (q : List Int × Int) (b : UInt8) : Option (List Int × Int) :=
  if b.toNat = 46 then some (q.1 ++ [q.2], 0) else if 48 ≤ b.toNat ∧ b.toNat ≤ 57 ∧ q.2 ≤ 999 then some (q.1, 10 * q.2 + ((b.toNat : Int) - 48)) else none
def foldR : List UInt8 → List Int × Int → Option (List Int × Int)
  | [], q => some q
  | b :: l, q => (stepR q b).bind (foldR l)

theorem fold_append (l1 l2 : List UInt8) (q : List Int × Int) : foldR (l1 ++ l2) q = (foldR l1 q).bind (foldR l2) := by
  induction l1 generalizing q with
  | nil => rfl
  | cons b l ih =>
    simp only [List.cons_append, foldR]
    cases stepR q b with
    | none => rfl
    | some r => exact ih r
theorem fold_snoc (l : List UInt8) (b : UInt8) (q : List Int × Int) : foldR (l ++ [b]) q = (foldR l q).bind (stepR · b) := by
  rw [fold_append]
  cases foldR l q with
  | none => rfl
  | some r =>
    simp only [Option.bind_some, foldR]
    cases stepR r b <;> rfl

theorem fold_dec (pre : List Int) (u : Nat) (h : u ≤ 9999) : foldR (Lib.decDigits u) (pre, 0) = some (pre, (u : Int)) := by
  induction u using Nat.strongRecOn with
  | _ u ih =>
    rw [Lib.decDigits]
    split
    · rename_i h1
      have e := digit_nat h1
      simp only [foldR, stepR]
      rw [e, if_neg (by omega), if_pos (by omega)]
      simp
      omega
    · rename_i h1
      have e := digit_nat (k := u % 10) (by omega)
      rw [fold_snoc, ih (u / 10) (by omega) (by omega)]
      simp only [Option.bind_some, stepR]
      rw [e, if_neg (by omega), if_pos (by omega)]
      congr 2
      omega
theorem fold_itoa (pre : List Int) {n : Int} (h0 : 0 ≤ n) (h1 : n ≤ 999) : foldR (Lib.itoa n) (pre, 0) = some (pre, n) := by
  rw [itoa_of h0, fold_dec pre n.toNat (by omega)]
  congr 2
  omega
theorem fold_dot (r : List UInt8) (q : List Int × Int) : foldR (46 :: r) q = foldR r (q.1 ++ [q.2], 0) := by
  show (stepR q 46).bind (foldR r) = _
  have : stepR q 46 = some (q.1 ++ [q.2], 0) := by unfold stepR; rw [if_pos (by decide)]
  rw [this]; rfl
theorem fold_text {a b c : Int} (h : mayV a b c = true) : foldR (textV a b c).data.toList ([], 0) = some ([a, b], c) := by
  obtain ⟨a0, a1, b0, b1, c0, c1⟩ := may_all h
  rw [text_list h, fold_append, fold_itoa [] a0 a1]
  simp only [Option.bind_some]
  rw [fold_dot, fold_append]
  simp only [List.nil_append]
  rw [fold_itoa [a] b0 b1]
  simp only [Option.bind_some]
  rw [fold_dot]
  simp only [List.cons_append, List.nil_append]
  exact fold_itoa [a, b] c0 c1

theorem fold_ok {s : ByteArray} (h : okP s = true) : foldR s.data.toList ([], 0) = some ([resA s, resB s], resC s) := by
  obtain ⟨hm, he⟩ := okP_text h
  have := fold_text hm
  rw [← he] at this
  exact this

theorem take_more (s : ByteArray) (k : Nat) (hk : k < s.size) : s.data.toList.take (k + 1) = s.data.toList.take k ++ [s[k]] :=
  List.take_succ_eq_append_getElem (by rw [list_size]; exact hk)

/-- A byte that doesn't serve: the text is no version's. -/
theorem fold_bad {s : ByteArray} {k : Nat} (hk : k < s.size) {q : List Int × Int} (h : foldR (s.data.toList.take k) ([], 0) = some q) (hb : stepR q s[k] = none) : okP s = false := by
  rw [Bool.eq_false_iff]
  intro ho
  have h1 := fold_ok ho
  rw [← List.take_append_drop (k + 1) s.data.toList, fold_append, take_more s k hk, fold_snoc, h] at h1
  simp only [Option.bind_some, hb, Option.bind_none] at h1
  cases h1
theorem fold_more {s : ByteArray} {k : Nat} (hk : k < s.size) {q r : List Int × Int} (h : foldR (s.data.toList.take k) ([], 0) = some q) (hb : stepR q s[k] = some r) : foldR (s.data.toList.take (k + 1)) ([], 0) = some r := by
  rw [take_more s k hk, fold_snoc, h]
  exact hb
theorem fold_end {s : ByteArray} {k : Nat} (hk : s.size ≤ k) : s.data.toList.take k = s.data.toList := List.take_of_length_le (by rw [list_size]; exact hk)

/-- What was read prints as the text: that version. -/
theorem fold_right {s : ByteArray} {x y z : Int} (hne : s ≠ ByteArray.empty) (ht : textV x y z = s) : okP s = true ∧ resA s = x ∧ resB s = y ∧ resC s = z := by
  have hm : mayV x y z = true := by
    rw [← Bool.not_eq_false]
    intro h
    apply hne
    rw [← ht]
    unfold textV
    rw [h]; rfl
  have := okP_of hm
  rw [ht] at this
  exact this
theorem fold_wrong {s : ByteArray} {x y z : Int} (h : foldR s.data.toList ([], 0) = some ([x, y], z)) (ht : textV x y z ≠ s) : okP s = false := by
  rw [Bool.eq_false_iff]
  intro ho
  have h1 := fold_ok ho
  rw [h] at h1
  simp only [Option.some.injEq, Prod.mk.injEq, List.cons.injEq, and_true] at h1
  obtain ⟨⟨rfl, rfl⟩, rfl⟩ := h1
  exact ht (okP_text ho).2.symm
theorem fold_few {s : ByteArray} {pre : List Int} {z : Int} (h : foldR s.data.toList ([], 0) = some (pre, z)) (hl : pre.length ≠ 2) : okP s = false := by
  rw [Bool.eq_false_iff]
  intro ho
  have h1 := fold_ok ho
  rw [h] at h1
  simp only [Option.some.injEq, Prod.mk.injEq] at h1
  rw [h1.1] at hl
  exact hl rfl
theorem res_no {s : ByteArray} (h : okP s = false) : resA s = 0 ∧ resB s = 0 ∧ resC s = 0 := by
  unfold resA resB resC; rw [h]; exact ⟨rfl, rfl, rfl⟩
end Go.Proofs.YthoacfmfpbngkaaGreatDoor
namespace Go.Proofs.YthoacfmfpbngkaaGreatDoor
open Go.RowKit
set_option maxRecDepth 100000


def intCells (l : List Int) : List Value := l.map (Value.int .i64)
theorem hideV {p : Prop} (h : p) : Hid p := h
theorem infoIntV : (Tryz.prog.info? 3).map (fun i => (i.zero, i.size, i.bytes)) = some (some (.int .i64 0), 1, 8) := by kernel_rfl
theorem info_partsV {e : TypeId} {z : Value} {n b : Nat} (h : (Tryz.prog.info? e).map (fun i => (i.zero, i.size, i.bytes)) = some (some z, n, b)) : ∃ i, Tryz.prog.info? e = some i ∧ i.zero = some z ∧ i.size = n ∧ i.bytes = b := by
  cases hi : Tryz.prog.info? e with
  | none => rw [hi] at h; cases h
  | some i =>
    rw [hi] at h
    simp only [Option.map_some, Option.some.injEq, Prod.mk.injEq] at h
    exact ⟨i, rfl, h.1, h.2.1, h.2.2⟩

/-- The result's place stays, whatever a row of the call's own becomes. -/
theorem OKr.grown {w : World} {N : Nat} {x y z : Value} {w1 w' : World} {row : Option Nat} (h : OKr w N [⟨N, x, y, z⟩] w1) (hw : w.heap.size ≤ N) (hg : w1.grownBy w' row) (hr : ∀ k, row = some k → N < k) : OKr w N [⟨N, x, y, z⟩] w' := by
  obtain ⟨⟨hb, hq⟩, f0, f1, f2, f3⟩ := h
  have hN : w'.heap[N]? = w1.heap[N]? := hg.block N f3 (fun e => Nat.lt_irrefl _ (hr N e.symm))
  have hc : ∀ o, w'.cell? ⟨N, o, none⟩ = w1.cell? ⟨N, o, none⟩ := fun o => World.cell?_of_block (w := w1) hN
  have hf : ∀ o, w'.frozen? ⟨N, o, none⟩ = w1.frozen? ⟨N, o, none⟩ := fun o => World.frozen?_of_block (w := w1) hN
  have hl : N < w'.heap.size := Nat.lt_of_lt_of_le f3 hg.size
  refine ⟨⟨hb.grown hg hb.size (fun k hk => Nat.le_trans hw (Nat.le_of_lt (hr k hk))), fun q hq' => ?_⟩, (hf 0).trans f0, (hf 1).trans f1, (hf 2).trans f2, hl⟩
  obtain rfl : q = ⟨N, x, y, z⟩ := by simpa using hq'
  obtain ⟨c0, c1, c2, _⟩ := hq _ hq'
  exact ⟨(hc 0).trans c0, (hc 1).trans c1, (hc 2).trans c2, hl⟩

theorem OKr.alloc {w : World} {N : Nat} {bs : List Bx} {w1 : World} (h : OKr w N bs w1) (o : Obj) : OKr w N bs (w1.alloc o) := h.below (boxB _ _)

theorem int_news (w : World) (t : TypeId) : ∀ j u, [Value.int .i64 0][j]? = some u → (w.alloc (.cells #[.int .i64 0] t)).cell? ((⟨w.heap.size, 0, none⟩ : Addr).add j) = some u :=
  World.news_of_block (cs := #[.int .i64 0]) (t := t) (fr := (0, 0)) (by
    show (w.heap.push _)[w.heap.size]? = _
    rw [Array.getElem?_push, if_pos rfl])

theorem cells_get (pre : List Int) (cur : Int) (j : Nat) (h : j < pre.length) : (intCells (pre ++ [cur]))[j]? = some (.int .i64 pre[j]) := by
  unfold intCells
  rw [List.getElem?_map, List.getElem?_append_left h, List.getElem?_eq_getElem h]; rfl
theorem cells_last (pre : List Int) (cur : Int) : (intCells (pre ++ [cur]))[pre.length]? = some (.int .i64 cur) := by
  unfold intCells; simp
theorem cells_set (pre : List Int) (cur v : Int) : (intCells (pre ++ [cur])).set pre.length (.int .i64 v) = intCells (pre ++ [v]) := by
  unfold intCells; simp

set_option maxHeartbeats 8000000 in
theorem rParse_walk (s : ByteArray) (hs : s.size ≤ 1048576) (w : World) :
    Calls Tryz.prog 13 #[.string s] w fun e w' => e = .returned (.tuple #[.agg #[.int .i64 (resA s), .int .i64 (resB s), .int .i64 (resC s)], .bool (okP s)]) ∧ Below w.heap.size w w' := by
  obtain ⟨i0, hi, hz0, hz1, hz2⟩ := info_partsV infoIntV
  have HO : Hid (OKr w w.heap.size [⟨w.heap.size, .int .i64 0, .int .i64 0, .int .i64 0⟩] (w.alloc (.cells #[.int .i64 0, .int .i64 0, .int .i64 0] 23))) := OKr.start (OKs.nil w) rfl _ _ _
  go_enter Tryz.func13, Tryz.ntmps13
  go_wp2_with fail
  go_loopw [4, 5] (fun v i wr => ∃ (k : Nat) (pre : List Int) (cur : Int), k ≤ s.size ∧ i = .int .i64 k ∧ foldR (s.data.toList.take k) ([], 0) = some (pre, cur) ∧ 0 ≤ cur ∧ cur ≤ 9999 ∧ pre.length ≤ k ∧
      wr.ownsRow (w.heap.size + 1) 3 1 v (pre.length + 1) (intCells (pre ++ [cur])) ∧ OKr w w.heap.size [⟨w.heap.size, .int .i64 0, .int .i64 0, .int .i64 0⟩] wr) (fun _ i _ => s.size - (intOf i).toNat)
  case atStart =>
    refine ⟨0, [], 0, Nat.zero_le _, rfl, rfl, by decide, by decide, Nat.le_refl _, ?_, HO.out.alloc _⟩
    have h := World.ownsRow_lit (e := 3) (base := w.heap.size + 1) (size := 1) (w.alloc (.cells #[.int .i64 0, .int .i64 0, .int .i64 0] 23)) #[.int .i64 0] 1 (by simp) (by decide) rfl
    simpa [intCells] using h
  case round =>
    obtain ⟨k, pre, cur, hk, rfl, hfold, c0, c1, hpl, hrow, hok⟩ := hrel
    have HR := hideV hrow
    have HK := hideV hok
    have HF := hideV hfold
    clear hrow hok hfold HO
    obtain ⟨g, cap, rfl, hgb⟩ : ∃ g cap, u4 = .slice (some ⟨g, 0, none⟩) (pre.length + 1) cap ∧ w.heap.size + 1 ≤ g := by
      rcases HR.out.2 with ⟨_, h0⟩ | ⟨g, cap, cur', rfl, hb, _⟩
      · omega
      · exact ⟨g, cap, rfl, hb⟩
    have hcl : wr.cell? ⟨g, pre.length, none⟩ = some (.int .i64 cur) := (HR.out.cellAt pre.length (by omega)).trans (cells_last pre cur)
    have hfz := HR.out.frozenAt pre.length
    have hwr := HK.out.2.2.2.2
    by_cases hlt : k < s.size
    · by_cases hd : s[k].toNat = 46
      · have HN : Hid (foldR (s.data.toList.take (k + 1)) ([], 0) = some (pre ++ [cur], 0)) := fold_more hlt HF.out (by unfold stepR; rw [if_pos hd])
        have e46 : ((s[k].toNat : Int) == 46) = true := by rw [beq_iff_eq]; omega
        clear hcl hfz
        go_wp2_with (first
          | (at_builtin; refine wpList_append_own _ rfl _ _ 56 rfl (w.heap.size + 1) 3 i0 (.int .i64 0) 1 8 Tryz.underlying56 hi hz0 hz1 hz2 rfl (by decide) _ _ _ rfl (HR.out.alloc _) ⟨wr.heap.size, 0, none⟩ 1 1 [.int .i64 0] rfl rfl (int_news _ _) (by simp [Value.oneCell']) (by unfold maxLen; omega) (by omega) (by simp; omega) ?_; intro v' w3 hown' hg3 hnil3; go_frame)
          | fail)
        refine ⟨⟨k + 1, pre ++ [cur], 0, hlt, by go_num, HN.out, by decide, by decide, by simp; omega, ?_, ?_⟩, by simp [intOf]; omega⟩
        · have e1 : intCells (pre ++ [cur] ++ [0]) = intCells (pre ++ [cur]) ++ [.int .i64 0] := by unfold intCells; simp
          rw [e1, List.length_append]
          exact hown'
        · exact (HK.out.alloc _).grown (Nat.le_refl _) hg3 (fun j hj => by have : g = j := Option.some.inj hj; omega)
      · have e46 : ((s[k].toNat : Int) == 46) = false := by rw [beq_eq_false_iff_ne]; omega
        by_cases hc : 48 ≤ s[k].toNat ∧ s[k].toNat ≤ 57 ∧ cur ≤ 999
        · have HN : Hid (foldR (s.data.toList.take (k + 1)) ([], 0) = some (pre, 10 * cur + ((s[k].toNat : Int) - 48))) := fold_more hlt HF.out (by unfold stepR; rw [if_neg hd, if_pos hc])
          obtain ⟨d0, d1, d2⟩ := hc
          clear hd
          have w1 : IntKind.i64.wrap (10 * cur) = 10 * cur := by rw [IntKind.wrap_i64]; omega
          have w2 : IntKind.u8.wrap ((s[k].toNat : Int) - 48) = (s[k].toNat : Int) - 48 := by rw [IntKind.wrap_u8]; omega
          have w3 : IntKind.i64.wrap ((s[k].toNat : Int) - 48) = (s[k].toNat : Int) - 48 := by rw [IntKind.wrap_i64]; omega
          have w4 : IntKind.i64.wrap (10 * cur + ((s[k].toNat : Int) - 48)) = 10 * cur + ((s[k].toNat : Int) - 48) := by rw [IntKind.wrap_i64]; omega
          have b0 : (0 : Int) ≤ (pre.length : Int) := by omega
          have b1 : (pre.length : Int) < ((pre.length + 1 : Nat) : Int) := by omega
          go_wp2_with fail
          go_region
          all_goals go_wp2
          all_goals
            obtain ⟨r1, r2⟩ := HR.out.stored pre.length (.int .i64 (10 * cur + ((s[k].toNat : Int) - 48)))
            rw [cells_set] at r1
            refine ⟨⟨k + 1, pre, 10 * cur + ((s[k].toNat : Int) - 48), hlt, by go_num, HN.out, by omega, by omega, by omega, ?_, ?_⟩, by simp [intOf]; omega⟩
            · exact r1.drew
            · exact (HK.out.grown (Nat.le_refl _) r2 (fun j hj => by have : g = j := Option.some.inj hj; omega)).drew
        · have HN : Hid (okP s = false) := fold_bad hlt HF.out (by unfold stepR; rw [if_neg hd, if_neg hc])
          obtain ⟨_, f0, f1, f2, f3⟩ := HK.out
          obtain ⟨x0, y0, z0, s0⟩ := HK.out.1.one
          have b0 : (0 : Int) ≤ (pre.length : Int) := by omega
          have b1 : (pre.length : Int) < ((pre.length + 1 : Nat) : Int) := by omega
          clear hd
          by_cases q0 : s[k].toNat < 48
          · clear hc
            go_wp2_with fail
            obtain ⟨v0, v1, v2⟩ := setV x0 y0 z0
            try simp only [Exit.inBlock, Exit.then]
            refine bodyPost_ret (by simp [results, Tryz.results13, v0, v1, v2, go_sem]; try rfl) rfl ?_
            obtain ⟨e1, e2, e3⟩ := res_no HN.out
            exact ⟨ret_ver e1.symm e2.symm e3.symm HN.out.symm, below_setV (Nat.le_refl _) HK.out.1.1⟩
          by_cases q1 : 57 < s[k].toNat
          · clear hc
            go_wp2_with fail
            obtain ⟨v0, v1, v2⟩ := setV x0 y0 z0
            try simp only [Exit.inBlock, Exit.then]
            refine bodyPost_ret (by simp [results, Tryz.results13, v0, v1, v2, go_sem]; try rfl) rfl ?_
            obtain ⟨e1, e2, e3⟩ := res_no HN.out
            exact ⟨ret_ver e1.symm e2.symm e3.symm HN.out.symm, below_setV (Nat.le_refl _) HK.out.1.1⟩
          · have q2 : 999 < cur := by omega
            clear hc
            go_wp2_with fail
            obtain ⟨v0, v1, v2⟩ := setV x0 y0 z0
            try simp only [Exit.inBlock, Exit.then]
            refine bodyPost_ret (by simp [results, Tryz.results13, v0, v1, v2, go_sem]; try rfl) rfl ?_
            obtain ⟨e1, e2, e3⟩ := res_no HN.out
            exact ⟨ret_ver e1.symm e2.symm e3.symm HN.out.symm, below_setV (Nat.le_refl _) HK.out.1.1⟩
    · have hkk : k = s.size := by omega
      subst hkk
      have HF2 : Hid (foldR s.data.toList ([], 0) = some (pre, cur)) := by have h := HF.out; rw [fold_end (Nat.le_refl _)] at h; exact h
      obtain ⟨_, f0, f1, f2, f3⟩ := HK.out
      obtain ⟨x0, y0, z0, s0⟩ := HK.out.1.one
      by_cases hl : pre.length = 2
      · obtain ⟨x, y, rfl⟩ : ∃ x y, pre = [x, y] := by
          match pre, hl with
          | [x, y], _ => exact ⟨x, y, rfl⟩
        have a0 : wr.cell? ⟨g, 0, none⟩ = some (.int .i64 x) := (HR.out.cellAt 0 (by simp)).trans rfl
        have a1 : wr.cell? ⟨g, 1, none⟩ = some (.int .i64 y) := (HR.out.cellAt 1 (by simp)).trans rfl
        have a2 : wr.cell? ⟨g, 2, none⟩ = some (.int .i64 cur) := (HR.out.cellAt 2 (by simp)).trans rfl
        have HP : Hid (∀ w1, Below w.heap.size w w1 → Calls Tryz.prog 27 #[.agg #[.int .i64 x, .int .i64 y, .int .i64 cur]] w1 fun e w' => e = .returned (.string (textV x y cur)) ∧ Below w1.heap.size w1 w') := fun w1 _ => rPrint_any x y cur w1
        have hgl := cell_in a0
        clear hl hcl hfz
        simp only [List.length_cons, List.length_nil, Nat.zero_add, Nat.reduceAdd] at *
        by_cases hse : (s.toList == []) = true
        · have hem : s = ByteArray.empty := bytes_same ((beq_iff_eq.1 hse).trans (by rw [ByteArray.toList_eq]; rfl))
          have HN : Hid (okP s = false) := by unfold Hid; rw [hem]; exact okP_empty
          clear hem
          go_wp2_with fail
          go_region
          all_goals go_wp2_with fail
          all_goals
            obtain ⟨v0, v1, v2⟩ := setV x0 y0 z0
            try simp only [Exit.inBlock, Exit.then]
            refine bodyPost_ret (by simp [results, Tryz.results13, v0, v1, v2, f3, go_sem]; try rfl) rfl ?_
            obtain ⟨e1, e2, e3⟩ := res_no HN.out
            refine ⟨ret_ver e1.symm e2.symm e3.symm HN.out.symm, ?_⟩
            have hB := HK.out.1.1
            have hBs := hB.size
            have hB2 : Below w.heap.size w (((wr.setCell ⟨w.heap.size, 0, none⟩ (.int .i64 0)).setCell ⟨w.heap.size, 1, none⟩ (.int .i64 0)).setCell ⟨w.heap.size, 2, none⟩ (.int .i64 0)) := below_setV (Nat.le_refl _) hB
            exact (hB2.alloc hB2.size _).drew
        · have hne : s ≠ ByteArray.empty := fun e => hse (by rw [e, ByteArray.toList_eq]; rfl)
          rw [Bool.not_eq_true] at hse
          have HQ : Hid (OKr w w.heap.size [⟨wr.heap.size, .int .i64 x, .int .i64 y, .int .i64 cur⟩, ⟨w.heap.size, .int .i64 0, .int .i64 0, .int .i64 0⟩] (wr.alloc (.cells #[.int .i64 x, .int .i64 y, .int .i64 cur] 23))) := HK.out.box rfl _ _ _
          by_cases ht : textV x y cur = s
          · obtain ⟨h1, h2, h3, h4⟩ := fold_right hne ht
            have HN : Hid (okP s = true ∧ resA s = x ∧ resB s = y ∧ resC s = cur) := ⟨h1, h2, h3, h4⟩
            rw [ht] at HP
            clear ht hne h1 h2 h3 h4
            go_wp2_with fail
            go_region
            all_goals go_wp2_with (go_at_call 27; refine (liftr HP.out (N := w.heap.size) (bs := [⟨wr.heap.size, .int .i64 x, .int .i64 y, .int .i64 cur⟩, ⟨w.heap.size, .int .i64 0, .int .i64 0, .int .i64 0⟩]) _ ?_).mono ?_; (first | exact HQ.out | exact HQ.out.drew); clear HQ; rintro e w2 ⟨rfl, ok⟩; have HQ : Hid (OKr w w.heap.size [⟨wr.heap.size, .int .i64 x, .int .i64 y, .int .i64 cur⟩, ⟨w.heap.size, .int .i64 0, .int .i64 0, .int .i64 0⟩] w2) := ok; clear ok; obtain ⟨_, g0, g1, g2, g3⟩ := HQ.out; obtain ⟨p0, p1, p2, p3⟩ := HQ.out.1.one; obtain ⟨q0, q1, q2, q3⟩ := HQ.out.1.two)
            all_goals
              obtain ⟨v0, v1, v2⟩ := setV q0 q1 q2
              try simp only [Exit.inBlock, Exit.then]
              refine bodyPost_ret (by simp [results, Tryz.results13, v0, v1, v2, go_sem]; try rfl) rfl ?_
              obtain ⟨h1, h2, h3, h4⟩ := HN.out
              exact ⟨ret_ver h2.symm h3.symm h4.symm h1.symm, below_setV (Nat.le_refl _) HQ.out.1.1⟩
          · have HN : Hid (okP s = false) := fold_wrong HF2.out ht
            have hs1 := beq_eq_false_iff_ne.2 (fun e => ht (bytes_same e))
            clear hne ht
            generalize textV x y cur = T at *
            go_wp2_with fail
            go_region
            all_goals go_wp2_with (go_at_call 27; refine (liftr HP.out (N := w.heap.size) (bs := [⟨wr.heap.size, .int .i64 x, .int .i64 y, .int .i64 cur⟩, ⟨w.heap.size, .int .i64 0, .int .i64 0, .int .i64 0⟩]) _ ?_).mono ?_; (first | exact HQ.out | exact HQ.out.drew); clear HQ; rintro e w2 ⟨rfl, ok⟩; have HQ : Hid (OKr w w.heap.size [⟨wr.heap.size, .int .i64 x, .int .i64 y, .int .i64 cur⟩, ⟨w.heap.size, .int .i64 0, .int .i64 0, .int .i64 0⟩] w2) := ok; clear ok; obtain ⟨_, g0, g1, g2, g3⟩ := HQ.out; obtain ⟨p0, p1, p2, p3⟩ := HQ.out.1.one; obtain ⟨q0, q1, q2, q3⟩ := HQ.out.1.two)
            all_goals
              obtain ⟨v0, v1, v2⟩ := setV q0 q1 q2
              try simp only [Exit.inBlock, Exit.then]
              refine bodyPost_ret (by simp [results, Tryz.results13, v0, v1, v2, go_sem]; try rfl) rfl ?_
              obtain ⟨e1, e2, e3⟩ := res_no HN.out
              exact ⟨ret_ver e1.symm e2.symm e3.symm HN.out.symm, below_setV (Nat.le_refl _) HQ.out.1.1⟩
      · have HN : Hid (okP s = false) := fold_few HF2.out hl
        have b3 : (((pre.length : Int) + 1) == 3) = false := by rw [beq_eq_false_iff_ne]; omega
        clear hl
        go_wp2_with fail
        obtain ⟨v0, v1, v2⟩ := setV x0 y0 z0
        try simp only [Exit.inBlock, Exit.then]
        refine bodyPost_ret (by simp [results, Tryz.results13, v0, v1, v2, go_sem]; try rfl) rfl ?_
        obtain ⟨e1, e2, e3⟩ := res_no HN.out
        exact ⟨ret_ver e1.symm e2.symm e3.symm HN.out.symm, below_setV (Nat.le_refl _) HK.out.1.1⟩
end Go.Proofs.YthoacfmfpbngkaaGreatDoor
