/- ScNm3, Tw2, Tw3, Tw4, Pk3, laid in one text. -/
import Derived.Deep.DeepAppendWide
import Derived.Deep.RegionHeld3
import Derived.Lib.LazyBuf
import Derived.Test.YtcclfaioicklaaaGreatDoorMg05
namespace Go.Proofs.YtcclfaioicklaaaGreatDoor.Sc
open Go.RowKit
set_option maxRecDepth 100000

theorem ltB_iff (b : UInt8) : ltB b = true ↔ 97 ≤ b.toNat ∧ b.toNat ≤ 122 := by simp [ltB]
theorem dgB_iff (b : UInt8) : dgB b = true ↔ 48 ≤ b.toNat ∧ b.toNat ≤ 57 := by simp [dgB]
theorem nmB_iff (b : UInt8) : nmB b = true ↔ (97 ≤ b.toNat ∧ b.toNat ≤ 122) ∨ (48 ≤ b.toNat ∧ b.toNat ≤ 57) ∨ b.toNat = 45 := by
  unfold nmB
  rw [Bool.or_eq_true, Bool.or_eq_true, ltB_iff, dgB_iff, decide_eq_true_eq, or_assoc]

set_option maxHeartbeats 6400000 in
theorem rName_any (s : ByteArray) (hs : s.size ≤ 9223372036854775807) (w : World) : Calls Tryz.prog 39 #[.string s] w fun e w' => e = .returned (.bool (nameA s.data.toList)) ∧ w' = w := by
  go_enter Tryz.func39, Tryz.ntmps39
  go_wp2
  go_loop [3] (fun i => ∃ k : Nat, k ≤ s.size ∧ i = .int .i64 k ∧ (s.data.toList.take k).all nmB = true ∧ (k = 0 ∨ headB s.data.toList = true)) (fun i => s.size - (intOf i).toNat)
  case atStart => exact ⟨0, Nat.zero_le _, rfl, rfl, Or.inl rfl⟩
  case round =>
    obtain ⟨k, hk, rfl, hal, hhd⟩ := hrel
    have HA := hide3 hal
    have HH := hide3 hhd
    clear hal hhd
    by_cases hlt : k < s.size
    · by_cases h1 : 97 ≤ s[k].toNat ∧ s[k].toNat ≤ 122
      · have HA2 := hide3 (all_more hlt HA.out ((nmB_iff _).2 (Or.inl h1)))
        have HH2 : Hid (k + 1 = 0 ∨ headB s.data.toList = true) := by
          rcases HH.out with rfl | h
          · exact Or.inr (by rw [head_at hlt]; exact (ltB_iff _).2 h1)
          · exact Or.inr h
        obtain ⟨a1, a2⟩ := h1
        have b2 : decide ((s[k].toNat : Int) ≤ 122) = true := decide_eq_true (by omega)
        have b4 : decide ((s[k].toNat : Int) ≤ 57) = false := decide_eq_false (by omega)
        go_wp2
        exact ⟨⟨k + 1, by omega, by go_num, HA2.out, HH2.out⟩, by simp [intOf]; omega⟩
      · by_cases hz : k = 0
        · have HR : Hid (nameA s.data.toList = false) := by
            unfold Hid nameA
            subst hz
            rw [head_at hlt]
            have : ltB s[0] = false := by rw [Bool.eq_false_iff]; intro h; exact h1 ((ltB_iff _).1 h)
            rw [this]; rfl
          have ez : ((k : Int) == 0) = true := by rw [hz]; rfl
          by_cases h2 : 97 ≤ s[k].toNat
          · have h3 : 122 < s[k].toNat := by omega
            have b2 : decide ((s[k].toNat : Int) ≤ 122) = false := decide_eq_false (by omega)
            have b4 : decide ((s[k].toNat : Int) ≤ 57) = false := decide_eq_false (by omega)
            clear h1 hz
            go_wp2
            go_ret
            exact ⟨ret_bool HR.out.symm, rfl⟩
          · clear h1 hz
            by_cases d1 : 48 ≤ s[k].toNat
            · by_cases d2 : s[k].toNat ≤ 57
              · have b4 : decide ((s[k].toNat : Int) ≤ 57) = true := decide_eq_true (by omega)
                go_wp2
                go_ret
                exact ⟨ret_bool HR.out.symm, rfl⟩
              · have b4 : decide ((s[k].toNat : Int) ≤ 57) = false := decide_eq_false (by omega)
                go_wp2
                go_ret
                exact ⟨ret_bool HR.out.symm, rfl⟩
            · go_wp2
              all_goals
                go_ret
                exact ⟨ret_bool HR.out.symm, rfl⟩
        · have ez : ((k : Int) == 0) = false := by rw [beq_eq_false_iff_ne]; omega
          have HH2 : Hid (k + 1 = 0 ∨ headB s.data.toList = true) := Or.inr (HH.out.resolve_left hz)
          by_cases h2 : (48 ≤ s[k].toNat ∧ s[k].toNat ≤ 57) ∨ s[k].toNat = 45
          · have HA2 := hide3 (all_more hlt HA.out ((nmB_iff _).2 (Or.inr h2)))
            by_cases hm : s[k].toNat = 45
            · have em : ((s[k].toNat : Int) == 45) = true := by rw [beq_iff_eq]; omega
              have c1 : ¬ 97 ≤ s[k].toNat := by omega
              have c2 : ¬ 48 ≤ s[k].toNat := by omega
              clear h1 h2 hz hm
              go_wp2
              exact ⟨⟨k + 1, by omega, by go_num, HA2.out, HH2.out⟩, by simp [intOf]; omega⟩
            · obtain ⟨d1, d2⟩ := h2.resolve_right hm
              have c1 : ¬ 97 ≤ s[k].toNat := by omega
              have b4 : decide ((s[k].toNat : Int) ≤ 57) = true := decide_eq_true (by omega)
              clear h1 h2 hz hm
              go_wp2
              exact ⟨⟨k + 1, by omega, by go_num, HA2.out, HH2.out⟩, by simp [intOf]; omega⟩
          · have hn : nmB s[k] = false := by rw [Bool.eq_false_iff]; intro h; rcases (nmB_iff _).1 h with h | h; exact h1 h; exact h2 h
            have HR : Hid (nameA s.data.toList = false) := by unfold Hid nameA; rw [all_bad hlt hn]; simp
            have em : ((s[k].toNat : Int) == 45) = false := by rw [beq_eq_false_iff_ne]; omega
            by_cases c1 : 97 ≤ s[k].toNat
            · have c2 : 122 < s[k].toNat := by omega
              have b2 : decide ((s[k].toNat : Int) ≤ 122) = false := decide_eq_false (by omega)
              have b4 : decide ((s[k].toNat : Int) ≤ 57) = false := decide_eq_false (by omega)
              clear h1 h2 hz hn
              go_wp2
              go_ret
              exact ⟨ret_bool HR.out.symm, rfl⟩
            · by_cases d1 : 48 ≤ s[k].toNat
              · have d2 : 57 < s[k].toNat := by omega
                have b4 : decide ((s[k].toNat : Int) ≤ 57) = false := decide_eq_false (by omega)
                clear h1 h2 hz hn
                go_wp2
                go_ret
                exact ⟨ret_bool HR.out.symm, rfl⟩
              · clear h1 h2 hz hn
                go_wp2
                go_ret
                exact ⟨ret_bool HR.out.symm, rfl⟩
    · have hke : k = s.size := by omega
      subst hke
      cases he : s.toList.isEmpty
      · have h0 := size_pos he
        have hh := HH.out.resolve_left (by omega)
        by_cases h16 : s.size ≤ 16
        · have HR : Hid (nameA s.data.toList = true) := by unfold Hid nameA; rw [hh, all_end HA.out, list_size, decide_eq_true h16]; rfl
          clear hh
          go_wp2
          go_ret
          exact ⟨ret_bool ((decide_eq_true (by omega)).trans HR.out.symm), rfl⟩
        · have HR : Hid (nameA s.data.toList = false) := by unfold Hid nameA; rw [list_size, decide_eq_false h16]; simp
          clear hh
          go_wp2
          go_ret
          exact ⟨ret_bool ((decide_eq_false (by omega)).trans HR.out.symm), rfl⟩
      · have HR : Hid (nameA s.data.toList = false) := nameA_empty (by rw [← empty_is]; exact he)
        go_wp2
        go_ret
        exact ⟨ret_bool HR.out.symm, rfl⟩
end Go.Proofs.YtcclfaioicklaaaGreatDoor.Sc
namespace Go.Proofs.YtcclfaioicklaaaGreatDoor
open Go.RowKit
set_option maxRecDepth 100000

/-- The place of the first directory with a path; -1: none. -/
noncomputable def findV (L : List Dr) (p : List ByteArray) : Int := match L.findIdx? (fun d => eqB d.pa p) with
  | some i => (i : Int)
  | none => -1
theorem findV_at {L : List Dr} {p : List ByteArray} {k : Nat} (hk : k < L.length) (h : L[k].pa = p) (hall : ∀ j (_ : j < k) (h1 : j < L.length), L[j].pa ≠ p) : findV L p = k := by
  have e : L.findIdx? (fun d => eqB d.pa p) = some k := by
    rw [List.findIdx?_eq_some_iff_getElem]
    refine ⟨hk, eqB_yes h, fun j hj => ?_⟩
    rw [eqB_no (hall j hj (by omega))]
    simp
  unfold findV
  rw [e]
theorem findV_no {L : List Dr} {p : List ByteArray} (hall : ∀ j (h1 : j < L.length), L[j].pa ≠ p) : findV L p = -1 := by
  have e : L.findIdx? (fun d => eqB d.pa p) = none := by
    rw [List.findIdx?_eq_none_iff]
    intro d hd
    obtain ⟨i, hi, rfl⟩ := List.getElem_of_mem hd
    exact eqB_no (hall i hi)
  unfold findV
  rw [e]
theorem findV_or (L : List Dr) (p : List ByteArray) : (findV L p = -1 ∧ ∀ j (h1 : j < L.length), L[j].pa ≠ p) ∨ ∃ k, ∃ hk : k < L.length, findV L p = (k : Int) ∧ L[k].pa = p ∧ ∀ j (_ : j < k) (h1 : j < L.length), L[j].pa ≠ p := by
  cases e : L.findIdx? (fun d => eqB d.pa p) with
  | none =>
    rw [List.findIdx?_eq_none_iff] at e
    have hall : ∀ j (h1 : j < L.length), L[j].pa ≠ p := fun j h1 h => by
      have := e _ (List.getElem_mem h1)
      rw [eqB_yes h] at this
      cases this
    exact Or.inl ⟨findV_no hall, hall⟩
  | some k =>
    rw [List.findIdx?_eq_some_iff_getElem] at e
    obtain ⟨hk, h, hall⟩ := e
    have h1 : L[k].pa = p := eqB_iff.1 h
    have h2 : ∀ j (_ : j < k) (h1 : j < L.length), L[j].pa ≠ p := fun j hj h1 h => hall j hj (eqB_yes h)
    exact Or.inr ⟨k, hk, findV_at hk h1 h2, h1, h2⟩
theorem findV_lt (L : List Dr) (p : List ByteArray) : findV L p < L.length := by
  rcases findV_or L p with ⟨h, _⟩ | ⟨k, hk, h, _⟩ <;> rw [h] <;> omega
theorem findV_ge (L : List Dr) (p : List ByteArray) : -1 ≤ findV L p := by
  rcases findV_or L p with ⟨h, _⟩ | ⟨k, hk, h, _⟩ <;> rw [h] <;> omega

/-- What a lookup finds from the first k names of a path upwards. -/
noncomputable def lookN (L : List Dr) (p : List ByteArray) (s : ByteArray) : Nat → Int
  | 0 => findV L (p.take 0 ++ [s])
  | k + 1 => if findV L (p.take (k + 1) ++ [s]) = -1 then lookN L p s k else findV L (p.take (k + 1) ++ [s])
/-- What a lookup finds. -/
noncomputable def lookV (L : List Dr) (f : Int) (s : ByteArray) : Int := if h : 0 ≤ f ∧ f.toNat < L.length ∧ Sc.nameA s.data.toList = true then lookN L (L[f.toNat]'h.2.1).pa s (L[f.toNat]'h.2.1).pa.length else -1
theorem look_hit {L : List Dr} {p : List ByteArray} {s : ByteArray} {k : Nat} (h : findV L (p.take k ++ [s]) ≠ -1) : lookN L p s k = findV L (p.take k ++ [s]) := by
  cases k with
  | zero => rfl
  | succ k => unfold lookN; rw [if_neg h]
theorem look_miss {L : List Dr} {p : List ByteArray} {s : ByteArray} {k : Nat} (h : findV L (p.take (k + 1) ++ [s]) = -1) : lookN L p s (k + 1) = lookN L p s k := by
  rw [lookN, if_pos h]
theorem look_end {L : List Dr} {p : List ByteArray} {s : ByteArray} : lookN L p s 0 = findV L (p.take 0 ++ [s]) := rfl
theorem lookN_lt (L : List Dr) (p : List ByteArray) (s : ByteArray) : ∀ k, lookN L p s k < L.length ∧ -1 ≤ lookN L p s k
  | 0 => ⟨findV_lt _ _, findV_ge _ _⟩
  | k + 1 => by
    unfold lookN
    split
    · exact lookN_lt L p s k
    · exact ⟨findV_lt _ _, findV_ge _ _⟩
theorem lookV_lt (L : List Dr) (f : Int) (s : ByteArray) : lookV L f s < L.length ∧ -1 ≤ lookV L f s := by
  unfold lookV
  split
  · exact lookN_lt _ _ _ _
  · omega

/-- A tree's variable. -/
def BxT (w : World) (N : Nat) (v : Value) : Prop := w.cell? ⟨N, 0, none⟩ = some v ∧ N < w.heap.size
theorem keepBxT (N : Nat) (v : Value) : KeepP fun w1 => BxT w1 N v := fun _ _ h hb => ⟨(hb.cell (p := ⟨N, 0, none⟩) h.2).trans h.1, Nat.lt_of_lt_of_le h.2 hb.size⟩
theorem BxT.new (w : World) (v : Value) : BxT (w.alloc (.cells #[v] 24)) w.heap.size v := ⟨by simp, by simp⟩

set_option maxHeartbeats 1600000 in
theorem tFind_any {L : List Dr} {v : Value} {p : List ByteArray} {vp : Value} {w : World} (h : DirsAt w v L) (hz : L.length ≤ 9223372036854775807) (hf : FitD L) (hp : PathAt w vp p) :
    Calls Tryz.prog 17 #[.agg #[v], vp] w fun e w' => e = .returned (.int .i64 (findV L p)) ∧ Below w.heap.size w w' := by
  have HE : Hid (∀ w1, Below w.heap.size w w1 → ∀ u A, PathAt w1 u A → A.length ≤ 9223372036854775807 → Calls Tryz.prog 40 #[u, vp] w1 fun e w' => e = .returned (.bool (eqB A p)) ∧ Below w1.heap.size w1 w') := fun w1 hb u A hu hl => EqualS_any hu (hp.below hb) hl
  obtain ⟨ad, cap, rfl, hc, hsl⟩ := h.sl
  have HS : Hid (∀ w1, Below w.heap.size w w1 → ∀ i (_ : i < L.length), ∃ g o, ad = some ⟨g, o, none⟩ ∧ ∃ u v1 v2 v3, DrIn w1 g (o + i * 9) L[i] u v1 v2 v3) := fun w1 hb i hi => by
    obtain ⟨g, o, e, u, v1, v2, v3, hd⟩ := hsl i hi
    exact ⟨g, o, e, u, v1, v2, v3, hd.below hb⟩
  have HF := hide3 hf
  obtain ⟨pd, pc, rfl⟩ := hp.sl
  clear h hp hsl hf
  go_enter Tryz.func17, Tryz.ntmps17
  go_wp2_with fail
  go_loopw [9] (fun i wr => ∃ k : Nat, k ≤ L.length ∧ i = .int .i64 k ∧ (Below w.heap.size w wr ∧ BxT wr w.heap.size (.slice ad L.length cap)) ∧ ∀ j (_ : j < k) (h1 : j < L.length), L[j].pa ≠ p) (fun i _ => L.length - (intOf i).toNat)
  case atStart => exact ⟨0, Nat.zero_le _, rfl, ⟨boxB _ _, BxT.new _ _⟩, fun j h => by omega⟩
  case round =>
    obtain ⟨k, hk, rfl, ⟨hb, bx0, bx1⟩, hall⟩ := hrel
    have HALL := hide3 hall
    have HB := hide3 hb
    clear hall
    by_cases hlt : k < L.length
    · obtain ⟨g, o, rfl, u, v1, v2, v3, ⟨c0, c1, c2, c3, c4, c5, c6, c7, c8⟩, ⟨hpa, hpk⟩, hg⟩ := HS.out wr hb k hlt
      have HC := hide3 (HE.out wr hb u _ hpa (HF.out _ (List.getElem_mem hlt)))
      have HY : Hid (L[k].pa = p → findV L p = k) := fun h => findV_at hlt h HALL.out
      have HN : Hid (L[k].pa ≠ p → ∀ j (_ : j < k + 1) (h1 : j < L.length), L[j].pa ≠ p) := fun h j hj h1 => by
        rcases Nat.lt_or_ge j k with hjk | hjk
        · exact HALL.out j hjk h1
        · obtain rfl : j = k := by omega
          exact h
      obtain ⟨ua, uc, rfl⟩ := hpa.sl
      clear c1 c2 c3 c4 c5 c6 c7 c8 hpk hpa hb
      have HBX : Hid (BxT wr w.heap.size (.slice (some ⟨g, o, none⟩) L.length cap)) := ⟨bx0, bx1⟩
      generalize L[k].pa.length = n at *
      by_cases hq : L[k].pa = p
      · have HR := hide3 (HY.out hq)
        rw [eqB_yes hq] at HC
        clear HY HN HALL hq
        go_wp2_with (go_at_call 40; refine HC.out.mono ?_; rintro x w1 ⟨rfl, ok⟩)
        go_ret
        exact ⟨Sc.ret_int HR.out.symm, below_then HB.out ok⟩
      · have HR := hide3 (HN.out hq)
        rw [eqB_no hq] at HC
        clear HY HN HALL hq
        go_wp2_with (go_at_call 40; refine HC.out.mono ?_; rintro x w1 ⟨rfl, ok⟩)
        exact ⟨⟨k + 1, by omega, by go_num, ⟨below_then HB.out ok, keepBxT _ _ _ _ HBX.out ok⟩, HR.out⟩, by simp [intOf]; omega⟩
    · have hke : k = L.length := by omega
      subst hke
      have HR : Hid (findV L p = -1) := findV_no fun j h1 => HALL.out j h1 h1
      clear hb
      go_wp2
      go_ret
      exact ⟨Sc.ret_int HR.out.symm, HB.out⟩
end Go.Proofs.YtcclfaioicklaaaGreatDoor
namespace Go.Proofs.YtcclfaioicklaaaGreatDoor
open Go.RowKit
set_option maxRecDepth 100000

/-- Names as cells. -/
def pcs (L : List ByteArray) : List Value := L.map .string
theorem pcs_length (L : List ByteArray) : (pcs L).length = L.length := by simp [pcs]
theorem pcs_one (L : List ByteArray) : ∀ u ∈ pcs L, u.oneCell' = true := fun u hu => by
  obtain ⟨s, _, rfl⟩ := List.mem_map.1 hu
  rfl
/-- A path of one's own. -/
def OwnPa (w : World) (B : Nat) (v : Value) (L : List ByteArray) : Prop := w.ownsRow B 9 1 v L.length (pcs L)
theorem OwnPa.below {w w' : World} {B : Nat} {v : Value} {L : List ByteArray} (h : OwnPa w B v L) (hb : Below w.heap.size w w') : OwnPa w' B v L := by
  refine ⟨h.1, ?_⟩
  rcases h.2 with hn | ⟨g, cap, cur, rfl, hB, hgg, r⟩
  · exact Or.inl hn
  · exact Or.inr ⟨g, cap, cur, rfl, hB, (hb.block g (Array.getElem?_eq_some_iff.1 hgg).1).trans hgg, r⟩
theorem OwnPa.base {w : World} {B B' : Nat} {v : Value} {L : List ByteArray} (h : OwnPa w B v L) (hb : B' ≤ B) : OwnPa w B' v L := by
  refine ⟨h.1, h.2.imp id ?_⟩
  rintro ⟨g, cap, cur, e, hB, r⟩
  exact ⟨g, cap, cur, e, Nat.le_trans hb hB, r⟩
theorem OwnPa.form {w : World} {B : Nat} {v : Value} {L : List ByteArray} (h : OwnPa w B v L) : ∃ ad cap, v = .slice ad L.length cap ∧ L.length ≤ cap := by
  rcases h.2 with ⟨rfl, hn⟩ | ⟨g, cap, cur, rfl, hB, hg, hc, _⟩
  · exact ⟨none, 0, by rw [hn], by omega⟩
  · exact ⟨_, cap, rfl, hc⟩
theorem OwnPa.at {w : World} {B : Nat} {v : Value} {L : List ByteArray} (h : OwnPa w B v L) : PathAt w v L := by
  have h0 := h
  rcases h.2 with ⟨rfl, hn⟩ | ⟨g, cap, cur, rfl, hB, hg, hc, _⟩
  · exact ⟨none, 0, by rw [hn], by omega, Or.inl (List.eq_nil_of_length_eq_zero hn)⟩
  · refine ⟨_, cap, rfl, hc, Or.inr ⟨g, 0, rfl, fun i hi => ⟨?_, (Array.getElem?_eq_some_iff.1 hg).1⟩⟩⟩
    have := World.ownsRow.cellAt h0 i (by omega)
    rw [Nat.zero_add, this]
    simp [pcs, hi]
theorem OwnPa.cut {w : World} {B : Nat} {ad : Option Addr} {n cap : Nat} {L : List ByteArray} (h : OwnPa w B (.slice ad n cap) L) {k : Nat} (hk : k ≤ n) : OwnPa w B (.slice ad k cap) (L.take k) := by
  have hln : n = L.length := by
    obtain ⟨_, _, e, _⟩ := h.form
    injection e
  subst hln
  have hkl : (L.take k).length = k := by rw [List.length_take]; omega
  refine ⟨by rw [pcs_length, Nat.mul_one], ?_⟩
  rcases h.2 with ⟨e, hn⟩ | ⟨g, cap', cur, e, hB, hg, hc, hm, hs, ht⟩
  · injection e with e1 e2 e3
    refine Or.inl ⟨?_, by omega⟩
    rw [e1, e3, show k = 0 by omega]
  · injection e with e1 e2 e3
    refine Or.inr ⟨g, cap', cur, by rw [e1, e3, hkl], hB, hg, by omega, hm, hs, ?_⟩
    rw [hkl, Nat.mul_one]
    rw [Nat.mul_one] at ht
    have : cur.toList.take k = (cur.toList.take L.length).take k := by rw [List.take_take, Nat.min_eq_left hk]
    rw [this, ht]
    unfold pcs
    rw [List.map_take]

theorem path_news {w : World} {g o : Nat} {L : List ByteArray} (h : ∀ i (h : i < L.length), StIn w g (o + i) L[i]) : ∀ j u, (pcs L)[j]? = some u → w.cell? ((⟨g, o, none⟩ : Addr).add j) = some u := fun j u hj => by
  have ad : (⟨g, o, none⟩ : Addr).add j = ⟨g, o + j, none⟩ := by unfold Addr.add; split <;> simp_all
  rw [ad]
  have hl : j < L.length := by
    have := (List.getElem?_eq_some_iff.1 hj).1
    rwa [pcs_length] at this
  rw [(h j hl).1, ← hj]
  simp [pcs, hl]

/-- A name put behind names of one's own: what was there stays. -/
theorem run_app_keep (w : World) (B : Nat) (t ty e : TypeId) (i : TypeInfo) (z : Value) (bytes : Nat) (ht : Tryz.prog.underlying t = some (.slice e)) (hi : Tryz.prog.info? e = some i) (hz : i.zero = some z) (hsize : i.size = 1) (hby : i.bytes = bytes) (hzs : z.cells.size = 1)
    (v : Value) (n : Nat) (xs : List Value) (hown : w.ownsRow B e 1 v n xs) (a : Addr) (c : Nat) (x : Value) (hx : ∀ j u, [x][j]? = some u → w.cell? (a.add j) = some u) (h1 : x.oneCell' = true)
    (hb : ((n + 1) + (n + 1) / 4 + 192) * bytes ≤ 281474976710656) (hn : n + 1 ≤ maxLen) (hB : B ≤ w.heap.size) :
    ∃ v' w', (Builtin.append_ #[t, t] ty #[v, .slice (some a) 1 c]).run Tryz.prog w = .ok v' w' ∧ w'.ownsRow B e 1 v' (n + 1) (xs ++ [x]) ∧ w'.ownsRow B e 1 v n xs ∧ w.grownBy w' v.ownBlock := by
  obtain ⟨v', w', hr, h2, h3, _⟩ := run_append_own_wide (P := Tryz.prog) w B t ty e i z 1 bytes ht hi hz hsize hby hzs (by decide) v n xs hown a 1 c [x] rfl hx (by simpa using h1) hn hb hB
  refine ⟨v', w', hr, h2, ?_, h3⟩
  rcases hown.2 with ⟨rfl, rfl⟩ | ⟨g, cap, cur, rfl, hbg, hg, hnc, hcm, hcs, htk⟩
  · exact ⟨hown.1, Or.inl ⟨rfl, rfl⟩⟩
  · by_cases hroom : n + 1 ≤ cap
    · have hr2 := run_append_room (P := Tryz.prog) w t ty e i ht hi g n cap cur hg a 1 c [x] (by rw [hsize]; rfl) hx (by simpa using h1) hroom (by rw [hsize, hcs]; simp; omega)
      rw [hr] at hr2
      obtain ⟨_, rfl⟩ := Result.ok.inj hr2
      refine ⟨hown.1, Or.inr ⟨g, cap, _, rfl, hbg, setRow_heap w g cur _ e _ hg, hnc, hcm, ?_, ?_⟩⟩
      · rw [hsize]
        simp only [List.size_toArray, List.length_append, List.length_take, List.length_drop, Array.length_toList, List.length_singleton]
        omega
      · rw [hsize]
        rw [Nat.mul_one] at htk ⊢
        have hl : (cur.toList.take n).length = n := by
          rw [htk]
          have := hown.1
          omega
        show List.take n (cur.toList.take n ++ [x] ++ _) = xs
        rw [List.append_assoc, List.take_append_of_le_length (by omega), List.take_of_length_le (by omega), htk]
    · have hr2 := run_append_grow (P := Tryz.prog) w t ty e i z ht hi hz ⟨g, 0, none⟩ n cap xs (by rw [hsize]; exact hown.1) (hown.cells (g := g) rfl) a 1 c [x] (by rw [hsize]; rfl) hx (by omega) (by unfold maxLen at hn; omega) (growslice_fits_wide (by omega) (by rw [hby]; exact hb))
      rw [hr] at hr2
      obtain ⟨_, rfl⟩ := Result.ok.inj hr2
      exact hown.drew.alloc _

theorem step_keep {B : Nat} {wx : World} {n : Nat} {v : Value} {xs : List Value} {s0 : ByteArray} {ops : Array Oper} {o : Oper} {f : Act} {K : Act → World → Prop} {Q : Exit → Act → World → Prop} {E : Prop}
    (hgd : o.guard = none) (s t : Operand) (ho : o.op = .call { callee := .builtin .append, args := #[s, t], argTypes := #[29, 29] }) (hs : f.eval s = v)
    (hown : wx.ownsRow B 9 1 v n xs) (hB : B ≤ wx.heap.size) {M : Nat} (hM : wx.heap.size = M) (hx : f.eval t = .slice (some ⟨M, 0, none⟩) 1 1) (hb : ((n + 1) + (n + 1) / 4 + 192) * 16 ≤ 281474976710656)
    (h : ∀ v1 w1, w1.ownsRow B 9 1 v1 (n + 1) (xs ++ [.string s0]) → w1.ownsRow B 9 1 v n xs → (wx.alloc (.cells #[.string s0] 9)).grownBy w1 v.ownBlock → K (f.put o.dst v1) w1) :
    if Region.wanted o (yielded ops f.tmps) = true then Oper.wp Tryz.prog o f (wx.alloc (.cells #[.string s0] 9)) K Q else E := by
  have hw : Region.wanted o (yielded ops f.tmps) = true := by simp [Region.wanted, hgd]
  rw [if_pos hw]
  subst hM
  obtain ⟨i0, hi, hz0, hz1, hz2⟩ := Sc.info_parts Sc.infoStr
  obtain ⟨v1, w1, hr, h1, h2, h3⟩ := run_app_keep (wx.alloc (.cells #[.string s0] 9)) B 29 o.type 9 i0 _ 16 Tryz.underlying29 hi hz0 hz1 hz2 rfl v n xs (hown.alloc _) ⟨wx.heap.size, 0, none⟩ 1 (.string s0) (cell_one_new _ _ _) rfl hb (by unfold maxLen; omega) (by simp; omega)
  unfold Oper.wp execOp
  simp only [ho, resolve, invoke, builtin, Sem.run_bind, Sem.run_pure, Result.andThen_ok, List.map_toArray, List.map_cons, List.map_nil, hs, hx, hr]
  exact h v1 w1 h1 h2 h3

/-- Names that lie anywhere put behind a row of one's own, in a region that keeps its order. -/
theorem wp_ownP {B : Nat} {wx : World} {n m c : Nat} {v : Value} {xs : List Value} {L : List ByteArray} {g off : Nat} {ops : Array Oper} {rest : List Oper} {o : Oper} {f : Act} {Q : Exit → Act → World → Prop}
    (hgd : o.guard = none) (s t : Operand) (ho : o.op = .call { callee := .builtin .append, args := #[s, t], argTypes := #[29, 29] }) (hs : f.eval s = v)
    (hown : wx.ownsRow B 9 1 v n xs) (hB : B ≤ wx.heap.size) (hx : f.eval t = .slice (some ⟨g, off, none⟩) m c) (hl : L.length = m) (hnews : ∀ j u, (pcs L)[j]? = some u → wx.cell? ((⟨g, off, none⟩ : Addr).add j) = some u) (hb : ((n + m) + (n + m) / 4 + 192) * 16 ≤ 281474976710656)
    (h : ∀ v1 w1, w1.ownsRow B 9 1 v1 (n + m) (xs ++ pcs L) → wx.grownBy w1 v.ownBlock → wpList Tryz.prog ops Q rest (f.put o.dst v1) w1) :
    wpList Tryz.prog ops Q (o :: rest) f wx := by
  obtain ⟨i0, hi, hz0, hz1, hz2⟩ := Sc.info_parts Sc.infoStr
  refine wpList_append_own_wide _ hgd s t 29 ho B 9 i0 _ 1 16 Tryz.underlying29 hi hz0 hz1 hz2 rfl (by decide) v n xs hs hown ⟨g, off, none⟩ m c (pcs L) hx (by rw [pcs_length]; omega) hnews (pcs_one L) (by unfold maxLen; omega) hb hB ?_
  intro v1 w1 h1 h2 _
  exact h v1 w1 h1 h2

theorem row_none (w : World) : (w.alloc (.cells #[] 9)).ownsRow w.heap.size 9 1 (.slice (some ⟨w.heap.size, 0, none⟩) 0 0) 0 [] :=
  ⟨rfl, Or.inr ⟨w.heap.size, 0, #[], rfl, Nat.le_refl _, heap_alloc_new w _, Nat.le_refl _, Nat.zero_le _, rfl, rfl⟩⟩

theorem grown_below {B : Nat} {w w1 : World} {own : Option Nat} (hg : w.grownBy w1 own) (h : ∀ g, own = some g → B ≤ g) (hB : B ≤ w.heap.size) : Below B w w1 := ⟨hg.os, hg.tape, hg.output, hg.size, fun k hk => hg.block k (by omega) (fun e => by have := h k e.symm; omega)⟩

theorem grown_on {w w' w1 : World} {row : Option Nat} (hb : Below w.heap.size w w') (hg : w'.grownBy w1 row) : w.grownBy w1 row :=
  ⟨hg.os.trans hb.os, hg.tape.trans hb.tape, hg.output.trans hb.output, Nat.le_trans hb.size hg.size, fun k hk hn => (hg.block k (Nat.lt_of_lt_of_le hk hb.size) hn).trans (hb.block k hk)⟩
theorem boxD (w : World) (o : Obj) : Below w.heap.size w (w.drew.alloc o) := (Below.refl _ _).drew.alloc (Nat.le_refl _) _

set_option maxHeartbeats 1600000 in
theorem cloneP_any {L : List ByteArray} {v : Value} {w : World} (h : PathAt w v L) (hl : (L.length + L.length / 4 + 192) * 16 ≤ 281474976710656) : Calls Tryz.prog 79 #[v] w fun e w' => ∃ v', e = .returned v' ∧ OwnPa w' w.heap.size v' L ∧ Below w.heap.size w w' := by
  obtain ⟨ad, cap, rfl, hcp, hc⟩ := h
  cases ad with
  | none =>
    obtain rfl : L = [] := by
      rcases hc with e | ⟨_, _, q, _⟩
      · exact e
      · cases q
    rw [List.length_nil]
    have q0 : ∀ w, (binOp .eql 29 (.slice none 0 cap) (.slice none 0 0)).run Tryz.prog w = .ok (.bool true) w := fun w => run_eql_slice_nil w 29 9 none 0 cap Tryz.underlying29
    go_enter Tryz.func79, Tryz.ntmps79
    go_wp2
    go_ret
    exact ⟨_, rfl, ⟨rfl, Or.inl ⟨rfl, rfl⟩⟩, Below.refl _ _⟩
  | some a =>
    obtain ⟨g, o, sp⟩ := a
    have HNW : Hid (∀ j u, (pcs L)[j]? = some u → (w.alloc (.cells #[] 9)).cell? ((⟨g, o, sp⟩ : Addr).add j) = some u) := fun j u hj => by
      rcases hc with e | ⟨g', o', q, hs⟩
      · subst e; simp [pcs] at hj
      · cases q
        exact path_news (fun i hi => (hs i hi).below (boxB w (.cells #[] 9))) j u hj
    have HRW := hide3 (row_none w)
    have q0 : ∀ w, (binOp .eql 29 (.slice (some ⟨g, o, sp⟩) L.length cap) (.slice none 0 0)).run Tryz.prog w = .ok (.bool false) w := fun w => run_eql_slice_nil w 29 9 (some ⟨g, o, sp⟩) L.length cap Tryz.underlying29
    clear hc
    obtain ⟨i0, hi, hz0, hz1, hz2⟩ := Sc.info_parts Sc.infoStr
    go_enter Tryz.func79, Tryz.ntmps79
    go_wp2_with (at_builtin; refine wpList_append_own_wide _ rfl (.tmp 5) (.tmp 6) 29 rfl w.heap.size 9 i0 _ 1 16 Tryz.underlying29 hi hz0 hz1 hz2 rfl (by decide) _ 0 [] rfl HRW.out ⟨g, o, sp⟩ L.length cap (pcs L) rfl (by rw [pcs_length]; omega) HNW.out (pcs_one L) (by unfold maxLen; omega) (by rw [Nat.zero_add]; omega) (by simp) ?_; intro v1 w1 ho hgr _; have HO : Hid (OwnPa w1 w.heap.size v1 L) := (by have e := ho; rw [Nat.zero_add, List.nil_append] at e; exact e); have HB : Hid (Below w.heap.size w w1) := (boxB w (.cells #[] 9)).trans (grown_below (B := w.heap.size) hgr (fun g e => by cases e; exact Nat.le_refl _) (by simp)); clear ho hgr)
    go_ret
    exact ⟨_, rfl, HO.out, HB.out⟩
end Go.Proofs.YtcclfaioicklaaaGreatDoor
namespace Go.Proofs.YtcclfaioicklaaaGreatDoor
open Go.RowKit
set_option maxRecDepth 100000

/-- A path that may be cloned and made longer by one name. -/
def FitP1 (L : List Dr) : Prop := ∀ d ∈ L, d.pa.length * 16 ≤ 140737488355328
theorem FitP1.fit {L : List Dr} (h : FitP1 L) : FitD L := fun d hd => by have := h d hd; omega
theorem lookV_in {L : List Dr} {k : Nat} {s : ByteArray} (hk : k < L.length) (hn : Sc.nameA s.data.toList = true) : lookV L (k : Int) s = lookN L L[k].pa s L[k].pa.length := by
  unfold lookV
  rw [dif_pos ⟨by omega, by simpa using hk, hn⟩]
  rfl
theorem lookV_out {L : List Dr} {f : Int} {s : ByteArray} (h : ¬ (0 ≤ f ∧ f.toNat < L.length ∧ Sc.nameA s.data.toList = true)) : lookV L f s = -1 := by
  unfold lookV
  rw [dif_neg h]

theorem pcs_snoc (L : List ByteArray) (s : ByteArray) : pcs (L ++ [s]) = pcs L ++ [.string s] := by simp [pcs]

set_option maxHeartbeats 3200000 in
theorem look_walk {L : List Dr} {v : Value} {w : World} (h : DirsAt w v L) (hz : L.length ≤ 9223372036854775807) (hf : FitP1 L) {k : Nat} (hk : k < L.length) (s : ByteArray) (hn : Sc.nameA s.data.toList = true) :
    Calls Tryz.prog 56 #[.agg #[v], .int .i64 k, .string s] w fun e w' => e = .returned (.int .i64 (lookV L k s)) ∧ Below w.heap.size w w' := by
  have HN : Hid (∀ w1, Calls Tryz.prog 34 #[.string s] w1 fun e w' => e = .returned (.bool true) ∧ w' = w1) := fun w1 => by have := Sc.Name_any s w1; rw [hn] at this; exact this
  have HV := hide3 (lookV_in (L := L) hk hn)
  have hfk := hf _ (List.getElem_mem hk)
  have HFI : Hid (∀ w1, Below w.heap.size w w1 → ∀ vp p, PathAt w1 vp p → Calls Tryz.prog 17 #[.agg #[v], vp] w1 fun e w' => e = .returned (.int .i64 (findV L p)) ∧ Below w1.heap.size w1 w') := fun w1 hb vp p hp => tFind_any (h.below hb) hz hf.fit hp
  obtain ⟨ad, cap, rfl, hc, hsl⟩ := h.sl
  obtain ⟨g, o, rfl, u, v1, v2, v3, ⟨c0, c1, c2, c3, c4, c5, c6, c7, c8⟩, ⟨hpa, hpk⟩, hg⟩ := hsl k hk
  have HCL : Hid (∀ w1, Below w.heap.size w w1 → Calls Tryz.prog 79 #[u] w1 fun e w' => ∃ v', e = .returned v' ∧ OwnPa w' w1.heap.size v' L[k].pa ∧ Below w1.heap.size w1 w') := fun w1 hb => cloneP_any (hpa.below hb) (by omega)
  obtain ⟨ua, uc, rfl⟩ := hpa.sl
  clear c1 c2 c3 c4 c5 c6 c7 c8 hpk hpa h hsl
  generalize L[k].pa = p at *
  have HFR : Hid (∀ q, findV L q = -1 ∨ 0 ≤ findV L q) := fun q => by have := findV_ge L q; omega
  clear hn hf
  have c0' : (w.alloc (.cells #[.slice (some ⟨g, o, none⟩) L.length cap] 24)).cell? ⟨g, o + k * 9, none⟩ = some (.slice ua p.length uc) := ((boxB w (.cells #[.slice (some ⟨g, o, none⟩) L.length cap] 24)).cell (p := ⟨g, o + k * 9, none⟩) hg).trans c0
  go_enter Tryz.func56, Tryz.ntmps56
  go_wp2_with (first
    | (go_at_call 34; refine (HN.out _).mono ?_; rintro e w1 ⟨rfl, rfl⟩)
    | (go_at_call 79; refine (HCL.out _ (boxB _ _)).mono ?_; rintro e w2 ⟨vc, rfl, hoc, hb2⟩; have HO2 : Hid (OwnPa w2 (w.heap.size + 1) vc p) := (by have e := hoc; rw [show (w.alloc (.cells #[.slice (some ⟨g, o, none⟩) L.length cap] 24)).heap.size = w.heap.size + 1 by simp] at e; exact e); have HB2 : Hid (Below w.heap.size w w2 ∧ BxT w2 w.heap.size (.slice (some ⟨g, o, none⟩) L.length cap)) := ⟨below_then (boxB _ _) hb2, keepBxT _ _ _ _ (BxT.new _ _) hb2⟩; clear hoc hb2))
  clear c0' c0
  have HPT : Hid (p.take p.length = p) := List.take_length
  go_loopw [7] (fun vl wr => ∃ j : Nat, j ≤ p.length ∧ (∃ a c, vl = .slice a j c ∧ j ≤ c) ∧ OwnPa wr (w.heap.size + 1) vl (p.take j) ∧ (Below w.heap.size w wr ∧ BxT wr w.heap.size (.slice (some ⟨g, o, none⟩) L.length cap)) ∧ lookN L p s p.length = lookN L p s j) (fun vl _ => match vl with | .slice _ n _ => n | _ => 0)
  case atStart =>
    obtain ⟨a, c, e, hac⟩ := HO2.out.form
    exact ⟨p.length, Nat.le_refl _, ⟨a, c, e, hac⟩, by rw [HPT.out]; exact HO2.out, HB2.out, rfl⟩
  case round =>
    obtain ⟨j, hj, ⟨a, c, rfl, hac⟩, hown, ⟨hb, bx0, bx1⟩, hst⟩ := hrel
    have hpl : (p.take j).length = j := by rw [List.length_take]; omega
    have HOW : Hid (wr.ownsRow (w.heap.size + 1) 9 1 (.slice a j c) j (pcs (p.take j))) := (by have e := hown; unfold OwnPa at e; rw [hpl] at e; exact e)
    have HB := hide3 hb
    have HST := hide3 hst
    have hBr : w.heap.size + 1 ≤ wr.heap.size := bx1
    have HBX : Hid (BxT wr w.heap.size (.slice (some ⟨g, o, none⟩) L.length cap)) := ⟨bx0, bx1⟩
    have HNE : Hid (some w.heap.size ≠ (Value.slice a j c).ownBlock) := fun e => by have := (World.ownsRow.lt HOW.out _ e.symm).1; omega
    have HAF : Hid (∀ v5 w5, w5.ownsRow (w.heap.size + 1) 9 1 v5 (j + 1) (pcs (p.take j) ++ [.string s]) → w5.ownsRow (w.heap.size + 1) 9 1 (.slice a j c) j (pcs (p.take j)) → wr.grownBy w5 (Value.slice a j c).ownBlock → (PathAt w5 v5 (p.take j ++ [s]) ∧ OwnPa w5 (w.heap.size + 1) (.slice a j c) (p.take j)) ∧ Below w.heap.size w w5 ∧ BxT w5 w.heap.size (.slice (some ⟨g, o, none⟩) L.length cap)) := fun v5 w5 h1 h2 h3 => by
      refine ⟨⟨OwnPa.at (B := w.heap.size + 1) ?_, ?_⟩, HB.out.grown h3 HB.out.size (fun q hq => by have := (World.ownsRow.lt HOW.out q hq).1; omega), h3.cell HBX.out.1 HNE.out, Nat.lt_of_lt_of_le HBX.out.2 h3.size⟩
      · unfold OwnPa
        rw [pcs_snoc, List.length_append, hpl]
        exact h1
      · unfold OwnPa
        rw [hpl]
        exact h2
    have hwide : ((j + 1) + (j + 1) / 4 + 192) * 16 ≤ 281474976710656 := by omega
    clear hown hb hst
    have HFC : Hid (∀ w5 v5, Below w.heap.size w w5 → PathAt w5 v5 (p.take j ++ [s]) → Calls Tryz.prog 17 #[.agg #[.slice (some ⟨g, o, none⟩) L.length cap], v5] w5 fun e w' => e = .returned (.int .i64 (findV L (p.take j ++ [s]))) ∧ Below w5.heap.size w5 w') := fun w5 v5 hb hp => HFI.out w5 hb v5 _ hp
    have HHIT : Hid (0 ≤ findV L (p.take j ++ [s]) → lookN L p s p.length = findV L (p.take j ++ [s])) := fun h => by rw [HST.out]; exact look_hit (by omega)
    have HEND : Hid (j = 0 → lookN L p s p.length = findV L (p.take j ++ [s])) := fun h => by rw [HST.out]; subst h; rfl
    have HGO : Hid (∀ i, j = i + 1 → findV L (p.take j ++ [s]) = -1 → lookN L p s p.length = lookN L p s i) := fun i h h2 => by rw [HST.out]; subst h; exact look_miss h2
    have HOC : Hid (∀ w6, OwnPa w6 (w.heap.size + 1) (.slice a j c) (p.take j) → ∀ i, i ≤ j → OwnPa w6 (w.heap.size + 1) (.slice a i c) (p.take i)) := fun w6 ho i hi => by
      have := ho.cut hi
      rw [List.take_take, Nat.min_eq_left hi] at this
      exact this
    have HFJ := hide3 (HFR.out (p.take j ++ [s]))
    generalize findV L (p.take j ++ [s]) = f at *
    clear hpl
    go_wp2_with fail
    go_region_held3 (fun w' => w'.cell? ⟨w.heap.size, 0, none⟩ = some (.slice (some ⟨g, o, none⟩) L.length cap)) (go_keep) (first
      | (refine step_keep (B := w.heap.size + 1) (M := wr.heap.size) (wx := wr.drew) (v := .slice a j c) (s0 := s) rfl (.tmp 36) (.tmp 38) rfl rfl HOW.out.drew hBr rfl rfl hwide ?_; intro v5 w5 h1 h2 h3; have HP5 := hide3 (HAF.out v5 w5 h1 h2 (grown_on (boxD _ _) h3)); have b5 := HP5.out.2.2.1; clear h1 h2 h3)
      | (have _h := HP5; go_at_call 17; refine (HFC.out _ _ HP5.out.2.1 HP5.out.1.1).mono ?_; rintro e w6 ⟨rfl, ok⟩; have HP6 : Hid (OwnPa w6 (w.heap.size + 1) (.slice a j c) (p.take j) ∧ Below w.heap.size w w6 ∧ BxT w6 w.heap.size (.slice (some ⟨g, o, none⟩) L.length cap)) := ⟨HP5.out.1.2.below ok, below_then HP5.out.2.1 ok, keepBxT _ _ _ _ HP5.out.2.2 ok⟩; have b6 := HP6.out.2.2.1; clear ok))
    all_goals clear HFC HAF HNE HOW
    all_goals rcases HFJ.out with hm | hge
    all_goals first
      | (have HR := hide3 (HHIT.out hge)
         go_wp2
         go_ret
         exact ⟨ret_int (by rw [HV.out, HR.out]), HP6.out.2.1⟩)
      | (rcases Nat.eq_zero_or_pos j with h0 | h0
         · have HR := hide3 (HEND.out h0)
           subst hm
           subst h0
           go_wp2
           go_ret
           exact ⟨ret_int (by rw [HV.out, HR.out]), HP6.out.2.1⟩
         · obtain ⟨i, rfl⟩ : ∃ i, j = i + 1 := ⟨j - 1, by omega⟩
           have HR := hide3 (HGO.out i rfl hm)
           have HO7 := hide3 (HOC.out _ HP6.out.1 i (by omega))
           have hic : i ≤ c := by omega
           subst hm
           clear HGO HEND HHIT HFJ
           go_wp2
           exact ⟨⟨i, by omega, ⟨a, c, rfl, hic⟩, HO7.out, HP6.out.2, HR.out⟩, by simp⟩)

theorem look_no {L : List Dr} {v : Value} {w : World} (h : DirsAt w v L) (f : Int) (s : ByteArray) (hno : ¬ (0 ≤ f ∧ f.toNat < L.length ∧ Sc.nameA s.data.toList = true)) :
    Calls Tryz.prog 56 #[.agg #[v], .int .i64 f, .string s] w fun e w' => e = .returned (.int .i64 (lookV L f s)) ∧ Below w.heap.size w w' := by
  have HV := hide3 (lookV_out hno)
  have HN : Hid (∀ w1, Calls Tryz.prog 34 #[.string s] w1 fun e w' => e = .returned (.bool (Sc.nameA s.data.toList)) ∧ w' = w1) := Sc.Name_any s
  obtain ⟨ad, cap, rfl, hc, hsl⟩ := h.sl
  clear h hsl
  by_cases h1 : f < 0
  · clear hno
    go_enter Tryz.func56, Tryz.ntmps56
    go_wp2
    go_ret
    exact ⟨ret_int HV.out.symm, boxB _ _⟩
  · by_cases h2 : (L.length : Int) ≤ f
    · clear hno
      go_enter Tryz.func56, Tryz.ntmps56
      go_wp2
      go_ret
      exact ⟨ret_int HV.out.symm, boxB _ _⟩
    · have hnn : Sc.nameA s.data.toList = false := by
        cases hx : Sc.nameA s.data.toList with
        | false => rfl
        | true => exact absurd ⟨by omega, by omega, hx⟩ hno
      rw [hnn] at HN
      clear hno hnn
      have h3 : f < (L.length : Int) := by omega
      have h4 : 0 ≤ f := by omega
      go_enter Tryz.func56, Tryz.ntmps56
      go_wp2_with (go_at_call 34; refine (HN.out _).mono ?_; rintro e w1 ⟨rfl, rfl⟩)
      go_ret
      exact ⟨ret_int HV.out.symm, boxB _ _⟩

/-- Look of package walkup. -/
theorem look_any {L : List Dr} {v : Value} {w : World} (h : DirsAt w v L) (hz : L.length ≤ 9223372036854775807) (hf : FitP1 L) (f : Int) (s : ByteArray) :
    Calls Tryz.prog 56 #[.agg #[v], .int .i64 f, .string s] w fun e w' => e = .returned (.int .i64 (lookV L f s)) ∧ Below w.heap.size w w' := by
  by_cases hh : 0 ≤ f ∧ f.toNat < L.length ∧ Sc.nameA s.data.toList = true
  · obtain ⟨k, rfl⟩ : ∃ k : Nat, f = k := ⟨f.toNat, by omega⟩
    exact look_walk h hz hf (by simpa using hh.2.1) s hh.2.2
  · exact look_no h f s hh
end Go.Proofs.YtcclfaioicklaaaGreatDoor
namespace Go.Proofs.YtcclfaioicklaaaGreatDoor
open Go.RowKit
set_option maxRecDepth 100000

/-- A text ahead of another one, byte by byte. -/
def ltS (s t : ByteArray) : Bool := Op.bytesLess s.toList t.toList
/-- A name that may follow another one. -/
def followB (q : Option ByteArray) (s : ByteArray) : Bool := Sc.nameA s.data.toList && (match q with
  | none => true
  | some p => ltS p s)
/-- A range that may stand in a list. -/
def rangeB (L : List Sp) : Bool := decide (0 < L.length) && mayL L
/-- A list goes on behind a name. -/
def riseD : Option ByteArray → List Dp → Bool
  | _, [] => true
  | q, d :: r => followB q d.nm && rangeB d.rg && riseD (some d.nm) r
/-- A list of dependencies may be. -/
def mayD (L : List Dp) : Bool := decide (L.length ≤ 16) && riseD none L
/-- The last name. -/
def lastN (L : List Dp) : Option ByteArray := L.getLast?.map (·.nm)

theorem DepsAt.len {w : World} {v : Value} {L : List Dp} (h : DepsAt w v L) : ∃ ad cap, v = .slice ad L.length cap ∧ L.length ≤ cap := by
  obtain ⟨ad, cap, rfl, h, _⟩ := h
  exact ⟨ad, cap, rfl, h⟩

theorem mayRange_any {v : Value} {L : List Sp} {w : World} (h : SpansAt w v L) :
    Calls Tryz.prog 161 #[v] w fun e w' => e = .returned (.bool (rangeB L)) ∧ Below w.heap.size w w' := by
  have HM := hide3 (sMay_any h)
  obtain ⟨ad, cap, rfl⟩ := h.sl
  clear h
  by_cases h0 : 0 < L.length
  · have HR : Hid (rangeB L = mayL L) := by unfold Hid rangeB; simp [h0]
    go_enter Tryz.func161, Tryz.ntmps161
    go_wp2_with (go_at_call 163; refine HM.out.mono ?_; rintro e w1 ⟨rfl, ok⟩)
    go_ret
    exact ⟨ret_bool HR.out.symm, ok⟩
  · have HR : Hid (rangeB L = false) := by unfold Hid rangeB; simp [h0]
    go_enter Tryz.func161, Tryz.ntmps161
    go_wp2
    go_ret
    exact ⟨ret_bool HR.out.symm, Below.refl _ _⟩

theorem mayFollow_any {va : Value} {A : List Dp} {w : World} (h : DepsAt w va A) (hl : A.length ≤ 1000000000000) (s : ByteArray) :
    Calls Tryz.prog 160 #[va, .string s] w fun e w' => e = .returned (.bool (followB (lastN A) s)) ∧ w' = w := by
  have HN : Hid (Calls Tryz.prog 34 #[.string s] w fun e w' => e = .returned (.bool (Sc.nameA s.data.toList)) ∧ w' = w) := Sc.Name_any s w
  cases hn : Sc.nameA s.data.toList
  · have HR : Hid (followB (lastN A) s = false) := by unfold Hid followB; rw [hn]; rfl
    rw [hn] at HN
    obtain ⟨ad, cap, rfl⟩ := h.sl
    clear h
    go_enter Tryz.func160, Tryz.ntmps160
    go_wp2_with (go_at_call 34; refine HN.out.mono ?_; rintro e w1 ⟨rfl, rfl⟩)
    go_ret
    exact ⟨ret_bool HR.out.symm, rfl⟩
  · rw [hn] at HN
    rcases List.eq_nil_or_concat A with rfl | ⟨B, d, rfl⟩
    · have HR : Hid (followB (lastN []) s = true) := by unfold Hid followB; rw [hn]; rfl
      obtain ⟨ad, cap, rfl⟩ := h.sl
      clear h
      go_enter Tryz.func160, Tryz.ntmps160
      go_wp2_with (go_at_call 34; refine HN.out.mono ?_; rintro e w1 ⟨rfl, rfl⟩)
      go_ret
      exact ⟨ret_bool HR.out.symm, rfl⟩
    · have HR : Hid (followB (lastN (B ++ [d])) s = Op.bytesLess d.nm.toList s.toList) := by unfold Hid followB lastN; rw [hn]; simp [ltS]
      rw [List.concat_eq_append] at *
      obtain ⟨ad, cap, rfl, hc, hs⟩ := h
      rcases hs with hs | ⟨g, o, rfl, hg, hs⟩
      · simp at hs
      · obtain ⟨u, c0, hrest⟩ := hs B.length (by simp)
        clear hrest hs
        simp only [List.getElem_concat_length] at c0
        have hlen : (B ++ [d]).length = B.length + 1 := by simp
        rw [hlen] at hl hc ⊢
        generalize B.length = m at *
        have w1 : IntKind.i64.wrap (((m + 1 : Nat) : Int) - 1) = (m : Int) := by rw [IntKind.wrap_i64]; omega
        go_enter Tryz.func160, Tryz.ntmps160
        go_wp2_with (go_at_call 34; refine HN.out.mono ?_; rintro e w1 ⟨rfl, rfl⟩)
        go_ret
        exact ⟨ret_bool HR.out.symm, rfl⟩

theorem DepsAt.take {w : World} {ad : Option Addr} {cap : Nat} {L : List Dp} (h : DepsAt w (.slice ad L.length cap) L) {k : Nat} (hk : k ≤ L.length) : DepsAt w (.slice ad k cap) (L.take k) := by
  obtain ⟨ad', cap', e, hc, hs⟩ := h
  cases e
  refine ⟨ad, cap, by simp [Nat.min_eq_left hk], by simp; omega, ?_⟩
  rcases hs with rfl | ⟨g, o, rfl, hg, hs⟩
  · exact Or.inl (by simp)
  · refine Or.inr ⟨g, o, rfl, hg, fun i hi => ?_⟩
    have hi' : i < L.length := by simp at hi; omega
    obtain ⟨u, hu⟩ := hs i hi'
    exact ⟨u, by simpa using hu⟩

theorem lastN_take {L : List Dp} {k : Nat} (h : k < L.length) : lastN (L.take (k + 1)) = some L[k].nm := by
  unfold lastN
  rw [List.take_succ_eq_append_getElem h, List.getLast?_concat]
  rfl

/-- What the walk of mayList keeps in a round. -/
def KM (w : World) (N : Nat) (s : ByteArray) (u : Value) (d : Dp) (va : Value) (A : List Dp) (w1 : World) : Prop := Below w.heap.size w w1 ∧ BxD w1 N s u ∧ SpansAt w1 u d.rg ∧ DepsAt w1 va A
theorem keepKM (w : World) (N : Nat) (s : ByteArray) (u : Value) (d : Dp) (va : Value) (A : List Dp) : KeepP (KM w N s u d va A) := (keepBelow w).and ((keepBxD _ _ _).and ((keepSpans _ _).and (keepDeps _ _)))

set_option maxHeartbeats 3200000 in
theorem mayList_walk (L : List Dp) (hlen : L.length ≤ 16) (g o cap : Nat) (w : World) (h : DepsAt w (.slice (some ⟨g, o, none⟩) L.length cap) L) (hs : ∀ i (h : i < L.length), ∃ u, DpIn w g (o + i * 2) L[i] u) :
    Calls Tryz.prog 140 #[.slice (some ⟨g, o, none⟩) L.length cap] w fun e w' => e = .returned (.bool (mayD L)) ∧ Below w.heap.size w w' := by
  have HL : Hid (∀ w1, Below w.heap.size w w1 → ∀ i (h : i < L.length), ∃ u, DpIn w1 g (o + i * 2) L[i] u) := fun w1 hb i hi => (hs i hi).imp fun u h => h.below hb
  have HD : Hid (∀ w1, Below w.heap.size w w1 → ∀ k, k ≤ L.length → DepsAt w1 (.slice (some ⟨g, o, none⟩) k cap) (L.take k)) := fun w1 hb k hk => (h.below hb).take hk
  have HT : Hid (mayD L = riseD none L) := by unfold Hid mayD; simp [hlen]
  have hcap : L.length ≤ cap := by obtain ⟨_, _, e, hc, _⟩ := h; cases e; exact hc
  have h16 : decide ((16 : Int) < (L.length : Int)) = false := decide_eq_false (by omega)
  clear h hs
  go_enter Tryz.func140, Tryz.ntmps140
  go_wp2_with fail
  go_loopw [10] (fun i wr => ∃ k : Nat, k ≤ L.length ∧ i = .int .i64 k ∧ Below w.heap.size w wr ∧ riseD none L = riseD (lastN (L.take k)) (L.drop k)) (fun i _ => L.length - (intOf i).toNat)
  case atStart => exact ⟨0, Nat.zero_le _, rfl, Below.refl _ _, rfl⟩
  case round =>
    obtain ⟨k, hk, rfl, hb, hall⟩ := hrel
    have HALL := hide3 hall
    have HB := hide3 hb
    clear hall
    by_cases hlt : k < L.length
    · obtain ⟨u, c0, c1, ⟨⟨hu, _⟩, _⟩, cg⟩ := HL.out wr hb k hlt
      have hd := HD.out wr hb k hk
      have hkc : (k : Int) ≤ (cap : Int) := by omega
      have hc0 : ¬ (cap = 0) := by omega
      obtain ⟨ad, uc, rfl⟩ := hu.sl
      have hdr : L.drop k = L[k] :: L.drop (k + 1) := List.drop_eq_getElem_cons hlt
      have HST : Hid (riseD none L = (followB (lastN (L.take k)) L[k].nm && rangeB L[k].rg && riseD (lastN (L.take (k + 1))) (L.drop (k + 1)))) := by
        unfold Hid
        rw [HALL.out, hdr, lastN_take hlt]
        rfl
      have HO : Hid (KM w wr.heap.size L[k].nm (.slice ad L[k].rg.length uc) L[k] (.slice (some ⟨g, o, none⟩) k cap) (L.take k) (wr.alloc (.cells #[.string L[k].nm, .slice ad L[k].rg.length uc] 113))) := ⟨below_then hb (boxB _ _), BxD.new rfl _ _, hu.below (boxB _ _), hd.below (boxB _ _)⟩
      have HK : Hid (KeepP (KM w wr.heap.size L[k].nm (.slice ad L[k].rg.length uc) L[k] (.slice (some ⟨g, o, none⟩) k cap) (L.take k))) := keepKM _ _ _ _ _ _ _
      have HF : Hid (∀ w1, KM w wr.heap.size L[k].nm (.slice ad L[k].rg.length uc) L[k] (.slice (some ⟨g, o, none⟩) k cap) (L.take k) w1 → Calls Tryz.prog 160 #[.slice (some ⟨g, o, none⟩) k cap, .string L[k].nm] w1 fun e w' => e = .returned (.bool (followB (lastN (L.take k)) L[k].nm)) ∧ Below w1.heap.size w1 w') := fun w1 hk1 => (mayFollow_any hk1.2.2.2 (by simp; omega) _).mono fun e w' ⟨h1, h2⟩ => ⟨h1, by rw [h2]; exact Below.refl _ _⟩
      have HG : Hid (∀ w1, KM w wr.heap.size L[k].nm (.slice ad L[k].rg.length uc) L[k] (.slice (some ⟨g, o, none⟩) k cap) (L.take k) w1 → Calls Tryz.prog 161 #[.slice ad L[k].rg.length uc] w1 fun e w' => e = .returned (.bool (rangeB L[k].rg)) ∧ Below w1.heap.size w1 w') := fun w1 hk1 => mayRange_any hk1.2.2.1
      clear hu hd hdr HALL hb
      generalize followB (lastN (L.take k)) L[k].nm = bf at *
      generalize rangeB L[k].rg = bg at *
      generalize L[k].rg.length = n at *
      generalize L[k].nm = s at *
      generalize L[k] = d at *
      cases bf
      · have HR : Hid (mayD L = false) := by unfold Hid; rw [HT.out, HST.out]; rfl
        clear HST HG
        go_wp2_with fail
        refine wp_region_keep HK.out (by kernel_rfl) (by kernel_rfl) (by first | exact HO.out | exact HK.out.drew HO.out) ?_
        intro C hin hout
        have HIN := hide3 hin
        have HOUT := hide3 hout
        clear hin hout HO
        repeat
          (with_reducible refine wpQuiet_step (fun K hK => ?_)
           go_simp
           first
             | (refine hK _ ?_; clear hK K)
             | (apply Exists.intro; refine ⟨fun w1 hC => ?_, hK _ ?_⟩; (focus ((first | (go_at_call 160; with_reducible exact callC' HIN.out HOUT.out HK.out HF.out w1 hC) | (exact rfl) | (obtain ⟨hb1, ⟨k0, k1, k2⟩, hs1, hd1⟩ := HOUT.out w1 hC; clear hC; go_simp; first | done | exact rfl)); done)); clear hK K))
        refine wpQuiet_nil ?_
        intro wn hC
        have HO := hide3 (HOUT.out _ hC)
        clear hC HIN HOUT C
        obtain ⟨hb1, ⟨k0, k1, k2⟩, hs1, hd1⟩ := HO.out
        go_wp2
        go_ret
        exact ⟨ret_bool HR.out.symm, HO.out.1⟩
      · cases bg
        · have HR : Hid (mayD L = false) := by unfold Hid; rw [HT.out, HST.out]; rfl
          clear HST
          go_wp2_with fail
          refine wp_region_keep HK.out (by kernel_rfl) (by kernel_rfl) (by first | exact HO.out | exact HK.out.drew HO.out) ?_
          intro C hin hout
          have HIN := hide3 hin
          have HOUT := hide3 hout
          clear hin hout HO
          repeat
            (with_reducible refine wpQuiet_step (fun K hK => ?_)
             go_simp
             first
               | (refine hK _ ?_; clear hK K)
               | (apply Exists.intro; refine ⟨fun w1 hC => ?_, hK _ ?_⟩; (focus ((first | (go_at_call 160; with_reducible exact callC' HIN.out HOUT.out HK.out HF.out w1 hC) | (go_at_call 161; with_reducible exact callC' HIN.out HOUT.out HK.out HG.out w1 hC) | (exact rfl) | (obtain ⟨hb1, ⟨k0, k1, k2⟩, hs1, hd1⟩ := HOUT.out w1 hC; clear hC; go_simp; first | done | exact rfl)); done)); clear hK K))
          refine wpQuiet_nil ?_
          intro wn hC
          have HO := hide3 (HOUT.out _ hC)
          clear hC HIN HOUT C
          obtain ⟨hb1, ⟨k0, k1, k2⟩, hs1, hd1⟩ := HO.out
          go_wp2
          go_ret
          exact ⟨ret_bool HR.out.symm, HO.out.1⟩
        · have HR : Hid (riseD none L = riseD (lastN (L.take (k + 1))) (L.drop (k + 1))) := by unfold Hid; rw [HST.out]; rfl
          clear HST
          go_wp2_with fail
          refine wp_region_keep HK.out (by kernel_rfl) (by kernel_rfl) (by first | exact HO.out | exact HK.out.drew HO.out) ?_
          intro C hin hout
          have HIN := hide3 hin
          have HOUT := hide3 hout
          clear hin hout HO
          repeat
            (with_reducible refine wpQuiet_step (fun K hK => ?_)
             go_simp
             first
               | (refine hK _ ?_; clear hK K)
               | (apply Exists.intro; refine ⟨fun w1 hC => ?_, hK _ ?_⟩; (focus ((first | (go_at_call 160; with_reducible exact callC' HIN.out HOUT.out HK.out HF.out w1 hC) | (go_at_call 161; with_reducible exact callC' HIN.out HOUT.out HK.out HG.out w1 hC) | (exact rfl) | (obtain ⟨hb1, ⟨k0, k1, k2⟩, hs1, hd1⟩ := HOUT.out w1 hC; clear hC; go_simp; first | done | exact rfl)); done)); clear hK K))
          refine wpQuiet_nil ?_
          intro wn hC
          have HO := hide3 (HOUT.out _ hC)
          clear hC HIN HOUT C
          obtain ⟨hb1, ⟨k0, k1, k2⟩, hs1, hd1⟩ := HO.out
          go_wp2
          exact ⟨⟨k + 1, by omega, by go_num, HO.out.1, HR.out⟩, by simp [intOf]; omega⟩
    · have hke : k = L.length := by omega
      subst hke
      have HR : Hid (mayD L = true) := by unfold Hid; rw [HT.out, HALL.out]; simp [riseD]
      clear hb
      go_wp2
      go_ret
      exact ⟨ret_bool HR.out.symm, HB.out⟩

theorem mayList_many (ad : Option Addr) (n cap : Nat) (h : 16 < n) (w : World) :
    Calls Tryz.prog 140 #[.slice ad n cap] w fun e w' => e = .returned (.bool false) ∧ Below w.heap.size w w' := by
  have hn : (16 : Int) < (n : Int) := by omega
  go_enter Tryz.func140, Tryz.ntmps140
  go_wp2
  go_ret
  exact ⟨rfl, Below.refl _ _⟩

theorem mayList_nil (ad : Option Addr) (cap : Nat) (w : World) :
    Calls Tryz.prog 140 #[.slice ad 0 cap] w fun e w' => e = .returned (.bool true) ∧ Below w.heap.size w w' := by
  go_enter Tryz.func140, Tryz.ntmps140
  go_wp2_with fail
  go_loop [10] (fun i => i = .int .i64 0) (fun _ => 0)
  case atStart => rfl
  case round =>
    subst hrel
    go_wp2
    go_ret
    exact ⟨rfl, Below.refl _ _⟩

theorem mayList_any {v : Value} {L : List Dp} {w : World} (h : DepsAt w v L) :
    Calls Tryz.prog 140 #[v] w fun e w' => e = .returned (.bool (mayD L)) ∧ Below w.heap.size w w' := by
  have h' := h
  obtain ⟨ad, cap, rfl, hc, hs⟩ := h'
  by_cases h16 : L.length ≤ 16
  · rcases hs with rfl | ⟨g, o, rfl, hg, hs⟩
    · exact mayList_nil _ _ w
    · exact mayList_walk L h16 g o cap w h hs
  · have : mayD L = false := by unfold mayD; simp [h16]
    rw [this]
    exact mayList_many _ _ _ (by omega) w

end Go.Proofs.YtcclfaioicklaaaGreatDoor
