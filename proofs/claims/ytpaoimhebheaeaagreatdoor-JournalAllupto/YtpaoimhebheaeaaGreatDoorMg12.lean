/- ScLi1, ScNm1, ScNm2, ScBd1, ScJo1, ScJo2, Pm1, Pc1, laid in one text. -/
import Derived.Shelf.Strings.Builder1
import Derived.Test.YtpaoimhebheaeaaGreatDoorScC
import Derived.Test.YtpaoimhebheaeaaGreatDoorMg11
namespace Go.Proofs.YtpaoimhebheaeaaGreatDoor.Sc
open Go.RowKit
set_option maxRecDepth 100000

theorem wordByte_any (b : UInt8) (w : World) : Calls Tryz.prog 145 #[.int .u8 (b.toNat : Int)] w fun e w' => e = .returned (.bool (wB b)) ∧ w' = w := by
  go_enter Tryz.func145, Tryz.ntmps145
  go_wp2
  all_goals
    go_ret
    refine ⟨ret_bool ?_, rfl⟩
    rw [Bool.eq_iff_iff]
    simp [wB]
    omega

end Go.Proofs.YtpaoimhebheaeaaGreatDoor.Sc
namespace Go.Proofs.YtpaoimhebheaeaaGreatDoor.Sc
open Go.RowKit
set_option maxRecDepth 100000

def ltB (b : UInt8) : Bool := decide (97 ≤ b.toNat) && decide (b.toNat ≤ 122)
def dgB (b : UInt8) : Bool := decide (48 ≤ b.toNat) && decide (b.toNat ≤ 57)
def nmB (b : UInt8) : Bool := ltB b || dgB b || decide (b.toNat = 45)
/-- A name. -/
def nameR : Bs → Bool
  | [] => false
  | b :: r => ltB b && r.all nmB && decide (r.length < 16)
end Go.Proofs.YtpaoimhebheaeaaGreatDoor.Sc
namespace Go.Proofs.YtpaoimhebheaeaaGreatDoor.Sc
open Go.RowKit
set_option maxRecDepth 100000

def headB : Bs → Bool
  | [] => false
  | b :: _ => ltB b
/-- A name. -/
def nameA (t : Bs) : Bool := headB t && t.all nmB && decide (t.length ≤ 16)
theorem empty_is {p : ByteArray} : p.toList.isEmpty = p.data.toList.isEmpty := by rw [ByteArray.toList_eq]
theorem nameA_empty {t : Bs} (h : t.isEmpty = true) : nameA t = false := by cases t <;> simp_all [nameA, headB]
theorem head_at {s : ByteArray} (h : 0 < s.size) : headB s.data.toList = ltB s[0] := by
  have : s.data.toList = s[0] :: s.data.toList.drop 1 := by
    have := List.drop_eq_getElem_cons (l := s.data.toList) (i := 0) (by rw [list_size]; exact h)
    rw [List.drop_zero] at this
    exact this
  rw [this]
  rfl
theorem size_pos {s : ByteArray} (h : s.toList.isEmpty = false) : 0 < s.size := by
  rw [empty_is] at h
  rw [← list_size]
  cases hs : s.data.toList with
  | nil => rw [hs] at h; cases h
  | cons _ _ => simp
theorem all_bad {s : ByteArray} {k : Nat} (hk : k < s.size) {f : UInt8 → Bool} (h : f s[k] = false) : s.data.toList.all f = false := by
  rw [Bool.eq_false_iff]
  intro ha
  rw [List.all_eq_true] at ha
  have := ha s[k] (List.getElem_mem (l := s.data.toList) (n := k) (by rw [list_size]; exact hk))
  rw [h] at this; cases this
theorem all_more {s : ByteArray} {k : Nat} (hk : k < s.size) {f : UInt8 → Bool} (h : (s.data.toList.take k).all f = true) (hb : f s[k] = true) : (s.data.toList.take (k + 1)).all f = true := by
  rw [List.take_succ_eq_append_getElem (by rw [list_size]; exact hk), List.all_append, h]
  simp only [List.all_cons, List.all_nil, Bool.and_true, Bool.true_and]
  exact hb
theorem all_end {s : ByteArray} {f : UInt8 → Bool} (h : (s.data.toList.take s.size).all f = true) : s.data.toList.all f = true := by
  rw [List.take_of_length_le (by rw [list_size]; exact Nat.le_refl _)] at h
  exact h
end Go.Proofs.YtpaoimhebheaeaaGreatDoor.Sc
namespace Go.Proofs.YtpaoimhebheaeaaGreatDoor.Sc
open Go.RowKit
set_option maxRecDepth 100000

theorem bSize : (Tryz.prog.info? 153).map (·.size) = some 2 := by kernel_rfl
theorem bLies : liesAt Tryz.prog Tryz.prog.depth 153 (2 / Tryz.prog.cellsOf 153) 0 153 1 = true := by kernel_rfl
theorem bByte : (Tryz.prog.info? 5).map (fun i => (i.zero, i.size, i.bytes)) = some (some (.int .u8 0), 1, 1) := by kernel_rfl

set_option maxHeartbeats 1600000 in
theorem check_used (b : Nat) (w : World) (h0 : w.cell? ⟨b, 0, none⟩ = some (.pointer (some ⟨b, 0, none⟩))) :
    Calls Tryz.prog 167 #[.pointer (some ⟨b, 0, none⟩)] w fun e w' => e = .returned (.tuple #[]) ∧ w' = w := by
  obtain ⟨j, hj, _⟩ := Option.map_eq_some_iff.1 bSize
  go_enter Tryz.func167, Tryz.ntmps167
  go_wp2
  rw [Lib.run_neq_ptr_same w _ Tryz.underlying151 hj]
  go_wp2
  go_end0
  exact ⟨rfl, rfl⟩

set_option maxHeartbeats 1600000 in
theorem check_fresh (b : Nat) (w : World) (h0 : w.cell? ⟨b, 0, none⟩ = some (.pointer none)) (hsh : w.shape? b = some (153, 2)) (hfz : w.frozen? ⟨b, 0, none⟩ = false) :
    Calls Tryz.prog 167 #[.pointer (some ⟨b, 0, none⟩)] w fun e w' => e = .returned (.tuple #[]) ∧ w' = w.setCell ⟨b, 0, none⟩ (.pointer (some ⟨b, 0, none⟩)) := by
  obtain ⟨j, hj, hjs⟩ := Option.map_eq_some_iff.1 bSize
  go_enter Tryz.func167, Tryz.ntmps167
  go_wp2
  rw [Lib.run_to_unsafe w ⟨b, 0, none⟩ Tryz.underlying151 Tryz.underlying191 hj (by rw [hjs]; decide) hsh (Nat.zero_lt_succ 1)]
  simp only [Result.andThen]
  rw [Oper.upon_value]
  go_wp2
  rw [run_callFunc_extern Tryz.func187 (by kernel_rfl) (by kernel_rfl) (by kernel_rfl) (e := Extern.AbiNoEscape.same) (by kernel_rfl), Lib.run_noEscape]
  simp only [Result.andThen]
  rw [Oper.upon_value]
  go_wp2
  rw [Lib.run_from_unsafe w ⟨b, 0, none⟩ Tryz.underlying191 Tryz.underlying151 hj hsh bLies]
  simp only [Result.andThen]
  rw [Oper.upon_value]
  go_wp2
  go_end0
  exact ⟨rfl, rfl⟩

/-- A builder at a block, with these bytes. -/
def Bld (B b : Nat) (l : Bs) (w : World) : Prop := Lib.IsBuilder 153 5 B b (Lib.byteCells l) w
theorem check_any {B b : Nat} {l : Bs} {w : World} (h : Bld B b l w) :
    Calls Tryz.prog 167 #[.pointer (some ⟨b, 0, none⟩)] w fun e w' => e = .returned (.tuple #[]) ∧ Lib.BuilderAt 153 5 B b (.pointer (some ⟨b, 0, none⟩)) (Lib.byteCells l) w' ∧ Below B w w' := by
  rcases h with h | h
  · refine (check_fresh b w h.cell0 h.shape h.frozen0).mono ?_
    rintro e w' ⟨rfl, rfl⟩
    exact ⟨rfl, h.used _, (Below.refl B w).setCell (p := ⟨b, 0, none⟩) h.1 _⟩
  · refine (check_used b w h.cell0).mono ?_
    rintro e w' ⟨rfl, rfl⟩
    exact ⟨rfl, h, Below.refl B _⟩

set_option maxHeartbeats 1600000 in
theorem putByte {B b : Nat} {l : Bs} {w : World} (c : UInt8) (h : Bld B b l w) (hl : l.length + 1 ≤ 140737488355328) (hB : B ≤ w.heap.size) :
    Calls Tryz.prog 141 #[.pointer (some ⟨b, 0, none⟩), .int .u8 (c.toNat : Int)] w fun e w' => e = .returned .nilIface ∧ Bld B b (l ++ [c]) w' ∧ Below B w w' := by
  obtain ⟨i0, hi, hz0, hz1, hz2⟩ := info_parts bByte
  have HC := hide3 (check_any h)
  have hlc : (Lib.byteCells l).length = l.length := Lib.byteCells_length l
  go_enter Tryz.func141, Tryz.ntmps141
  go_wp2_with (go_at_call 167; refine HC.out.mono ?_)
  rintro e w1 ⟨rfl, h1, hb1⟩
  obtain ⟨hBb, v, hbk, hown, hne⟩ := h1
  have c0 : w1.cell? ⟨b, 0, none⟩ = some (.pointer (some ⟨b, 0, none⟩)) := by rw [Lib.cell_of_heap hbk]; rfl
  have c1 : w1.cell? ⟨b, 1, none⟩ = some v := by rw [Lib.cell_of_heap hbk]; rfl
  have hs1 := hb1.size
  go_wp2_with (at_builtin; refine wpList_append_own _ rfl _ _ 132 rfl B 5 i0 (.int .u8 0) 1 1 Tryz.underlying132 hi hz0 hz1 hz2 rfl (by decide) _ _ _ rfl (hown.alloc _) ⟨w1.heap.size, 0, none⟩ 1 1 [.int .u8 (c.toNat : Int)] rfl rfl (cell_one_new _ _ _) (by intro u hu; rw [List.mem_singleton.1 hu]; rfl) (by unfold maxLen; omega) (by omega) (by simp; omega) ?_)
  intro v' w2 hown' hgrow _
  have hlt : b < w1.heap.size := (Array.getElem?_eq_some_iff.1 hbk).1
  have hb2 : w2.heap[b]? = some (.cells #[.pointer (some ⟨b, 0, none⟩), v] 153 (0, 0)) := by
    rw [hgrow.block b (by simp; omega) (fun e => hne e.symm), Lib.alloc_old w1 _ b hlt]
    exact hbk
  have d0 : w2.cell? ⟨b, 0, none⟩ = some (.pointer (some ⟨b, 0, none⟩)) := by rw [Lib.cell_of_heap hb2]; rfl
  have d1 : w2.cell? ⟨b, 1, none⟩ = some v := by rw [Lib.cell_of_heap hb2]; rfl
  have f1 : w2.frozen? ⟨b, 1, none⟩ = false := Lib.frozen_of_heap hb2 1
  obtain ⟨ao, n', cap, rfl⟩ : ∃ ao n' cap, v' = .slice ao n' cap := by
    rcases hown'.2 with ⟨hv, _⟩ | ⟨g, cap, cur, hv, _⟩
    · exact ⟨_, _, _, hv⟩
    · exact ⟨_, _, _, hv⟩
  go_wp2
  go_ret
  refine ⟨rfl, Or.inr ?_, ?_⟩
  · refine Lib.BuilderAt.put (T := 153) (e := 5) hBb hb2 ?_ (by decide)
    rw [Lib.byteCells_append, List.length_append, hlc]
    exact hown'
  · exact ((hb1.alloc (by omega) _).grown hgrow (by simp; omega) (fun k hk => (hown.lt k hk).1)).setCell (p := ⟨b, 1, none⟩) hBb _

set_option maxHeartbeats 1600000 in
theorem putText {B b : Nat} {l : Bs} {w : World} (s : ByteArray) (h : Bld B b l w) (hl : l.length + s.size ≤ 140737488355328) (hB : B ≤ w.heap.size) :
    Calls Tryz.prog 139 #[.pointer (some ⟨b, 0, none⟩), .string s] w fun e w' => e = .returned (.tuple #[.int .i64 s.size, .nilIface]) ∧ Bld B b (l ++ s.data.toList) w' ∧ Below B w w' := by
  obtain ⟨i0, hi, hz0, hz1, hz2⟩ := info_parts bByte
  have HC := hide3 (check_any h)
  have hlc : (Lib.byteCells l).length = l.length := Lib.byteCells_length l
  go_enter Tryz.func139, Tryz.ntmps139
  go_wp2_with (go_at_call 167; refine HC.out.mono ?_)
  rintro e w1 ⟨rfl, h1, hb1⟩
  obtain ⟨hBb, v, hbk, hown, hne⟩ := h1
  have c0 : w1.cell? ⟨b, 0, none⟩ = some (.pointer (some ⟨b, 0, none⟩)) := by rw [Lib.cell_of_heap hbk]; rfl
  have c1 : w1.cell? ⟨b, 1, none⟩ = some v := by rw [Lib.cell_of_heap hbk]; rfl
  have hs1 := hb1.size
  go_wp2_with (at_builtin; refine Lib.wpList_append_own_string _ rfl _ _ 132 9 rfl B 5 i0 Tryz.underlying132 Tryz.underlying9 hi hz0 hz1 hz2 _ _ _ rfl hown s rfl (by unfold maxLen; omega) (by omega) (by omega) ?_)
  intro v' w2 hown' hgrow _
  have hlt : b < w1.heap.size := (Array.getElem?_eq_some_iff.1 hbk).1
  have hb2 : w2.heap[b]? = some (.cells #[.pointer (some ⟨b, 0, none⟩), v] 153 (0, 0)) := by
    rw [hgrow.block b hlt (fun e => hne e.symm)]
    exact hbk
  have d0 : w2.cell? ⟨b, 0, none⟩ = some (.pointer (some ⟨b, 0, none⟩)) := by rw [Lib.cell_of_heap hb2]; rfl
  have d1 : w2.cell? ⟨b, 1, none⟩ = some v := by rw [Lib.cell_of_heap hb2]; rfl
  have f1 : w2.frozen? ⟨b, 1, none⟩ = false := Lib.frozen_of_heap hb2 1
  obtain ⟨ao, n', cap, rfl⟩ : ∃ ao n' cap, v' = .slice ao n' cap := by
    rcases hown'.2 with ⟨hv, _⟩ | ⟨g, cap, cur, hv, _⟩
    · exact ⟨_, _, _, hv⟩
    · exact ⟨_, _, _, hv⟩
  go_wp2
  go_ret2
  refine ⟨rfl, Or.inr ?_, ?_⟩
  · refine Lib.BuilderAt.put (T := 153) (e := 5) hBb hb2 ?_ (by decide)
    rw [Lib.byteCells_append, List.length_append, ← Lib.strCells_eq, hlc]
    simpa [Lib.strCells_length] using hown'
  · exact (hb1.grown hgrow (by omega) (fun k hk => (hown.lt k hk).1)).setCell (p := ⟨b, 1, none⟩) hBb _
end Go.Proofs.YtpaoimhebheaeaaGreatDoor.Sc
namespace Go.Proofs.YtpaoimhebheaeaaGreatDoor.Sc
open Go.RowKit
set_option maxRecDepth 100000

set_option maxHeartbeats 1600000 in
theorem mayWord_any (s : ByteArray) (hs : s.size ≤ 1000000000000) (w : World) : Calls Tryz.prog 166 #[.string s] w fun e w' => e = .returned (.bool (isW s.data.toList)) ∧ w' = w := by
  have HWB : Hid (∀ b : UInt8, ∀ w1, Calls Tryz.prog 145 #[.int .u8 (b.toNat : Int)] w1 fun e w' => e = .returned (.bool (wB b)) ∧ w' = w1) := wordByte_any
  go_enter Tryz.func166, Tryz.ntmps166
  go_wp2
  go_loop [6] (fun i => ∃ k : Nat, k ≤ s.size ∧ i = .int .i64 k ∧ (s.data.toList.take k).all wB = true) (fun i => s.size - (intOf i).toNat)
  case atStart => exact ⟨0, Nat.zero_le _, rfl, rfl⟩
  case round =>
    obtain ⟨k, hk, rfl, hal⟩ := hrel
    have HA := hide3 hal
    clear hal
    by_cases hlt : k < s.size
    · have HWk := hide3 (HWB.out s[k])
      cases hw : wB s[k]
      · have HR : Hid (isW s.data.toList = false) := by unfold Hid isW; rw [all_bad hlt hw]; rfl
        rw [hw] at HWk
        clear hw
        go_wp2_with (go_at_call 145; refine (HWk.out _).mono ?_; rintro e w1 ⟨rfl, hw1⟩; subst hw1)
        go_ret
        exact ⟨ret_bool HR.out.symm, rfl⟩
      · have HA2 := hide3 (all_more hlt HA.out hw)
        rw [hw] at HWk
        clear hw
        go_wp2_with (go_at_call 145; refine (HWk.out _).mono ?_; rintro e w1 ⟨rfl, hw1⟩; subst hw1)
        exact ⟨⟨k + 1, by omega, by go_num, HA2.out⟩, by simp [intOf]; omega⟩
    · have hke : k = s.size := by omega
      subst hke
      have HR : Hid (isW s.data.toList = !s.toList.isEmpty) := by unfold Hid isW; rw [all_end HA.out, empty_is]; rfl
      cases he : s.toList.isEmpty
      · rw [he] at HR
        go_wp2
        go_ret
        exact ⟨ret_bool HR.out.symm, rfl⟩
      · rw [he] at HR
        go_wp2
        go_ret
        exact ⟨ret_bool HR.out.symm, rfl⟩

/-- Words that are not too long. -/
def WFit (ws : List Bs) : Prop := ws.length ≤ 1000000000 ∧ ∀ x ∈ ws, x.length ≤ 1000000000

set_option maxHeartbeats 1600000 in
theorem mayLine_any {ws : List Bs} (hf : WFit ws) {v : Value} {w : World} (hv : WordsAt w v ws) : Calls Tryz.prog 138 #[v] w fun e w' => e = .returned (.bool (isL ws)) ∧ w' = w := by
  have HMW : Hid (∀ x ∈ ws, ∀ w1, Calls Tryz.prog 166 #[.string (ba x)] w1 fun e w' => e = .returned (.bool (isW x)) ∧ w' = w1) := by
    intro x hx w1
    have := mayWord_any (ba x) (by rw [ba_size]; have := hf.2 x hx; omega) w1
    rw [ba_list] at this
    exact this
  have hlen := hf.1
  obtain ⟨ad, cap, rfl, hcap, hl⟩ := hv
  have HL := hide3 hl
  clear hl hf
  go_enter Tryz.func138, Tryz.ntmps138
  go_wp2
  go_loop [7] (fun i => ∃ k : Nat, k ≤ ws.length ∧ i = .int .i64 k ∧ (ws.take k).all isW = true) (fun i => ws.length - (intOf i).toNat)
  case atStart => exact ⟨0, Nat.zero_le _, rfl, rfl⟩
  case round =>
    obtain ⟨k, hk, rfl, hal⟩ := hrel
    have HA := hide3 hal
    clear hal
    by_cases hlt : k < ws.length
    · obtain ⟨g, o, rfl, hg, hc⟩ : ∃ g o, ad = some ⟨g, o, none⟩ ∧ g < w.heap.size ∧ ∀ i (h : i < ws.length), w.cell? ⟨g, o + i, none⟩ = some (.string (ba ws[i])) := by
        rcases HL.out with rfl | h
        · simp at hlt
        · exact h
      have hcell := hc k hlt
      have HMk := hide3 (HMW.out ws[k] (List.getElem_mem hlt))
      have htk : ws.take (k + 1) = ws.take k ++ [ws[k]] := List.take_succ_eq_append_getElem hlt
      have hmem := List.getElem_mem hlt
      clear hc
      cases hw : isW ws[k]
      · have HR : Hid (isL ws = false) := by
          unfold Hid isL
          have : ws.all isW = false := by
            rw [Bool.eq_false_iff]
            intro h
            rw [List.all_eq_true] at h
            have := h _ hmem
            rw [hw] at this; cases this
          rw [this]; rfl
        rw [hw] at HMk
        clear hw htk hmem
        generalize ba ws[k] = x at *
        go_wp2_with (go_at_call 166; refine (HMk.out _).mono ?_; rintro e w1 ⟨rfl, hw1⟩; subst hw1)
        go_ret
        exact ⟨ret_bool HR.out.symm, rfl⟩
      · have HA2 : Hid ((ws.take (k + 1)).all isW = true) := by unfold Hid; rw [htk, List.all_append, HA.out]; simp [hw]
        rw [hw] at HMk
        clear hw htk hmem
        generalize ba ws[k] = x at *
        go_wp2_with (go_at_call 166; refine (HMk.out _).mono ?_; rintro e w1 ⟨rfl, hw1⟩; subst hw1)
        exact ⟨⟨k + 1, by omega, by go_num, HA2.out⟩, by simp [intOf]; omega⟩
    · have hke : k = ws.length := by omega
      subst hke
      have HR : Hid (isL ws = decide (0 < ws.length)) := by
        unfold Hid isL
        have := HA.out
        rw [List.take_length] at this
        rw [this]
        cases ws <;> simp
      go_wp2
      go_ret
      refine ⟨ret_bool ?_, rfl⟩
      rw [HR.out]

/-- A line's words as strings.Join puts them. -/
theorem join_line {ws : List Bs} (h : ws ≠ []) : Lib.join ws [32] ++ [10] = lineT ws := by
  induction ws with
  | nil => exact absurd rfl h
  | cons x l ih =>
    cases l with
    | nil => rw [Lib.join_one]; rfl
    | cons y r =>
      have e : lineT (x :: y :: r) = x ++ [32] ++ lineT (y :: r) := rfl
      rw [e, ← ih (by simp)]
      simp [Lib.join, List.intercalate]

theorem wJoin_any {ws : List Bs} (hne : ws ≠ []) (hl : ws.length ≤ 140737488355328) (hj : (Lib.join ws [32]).length ≤ 140737488355328) {v : Value} {w : World} (hv : WordsAt w v ws) :
    Calls Tryz.prog 140 #[v, .string ⟨#[32]⟩] w fun e w' => e = .returned (.string (ba (Lib.join ws [32]))) ∧ Below w.heap.size w w' := by
  obtain ⟨ad, cap, rfl, hcap, hh⟩ := hv
  obtain ⟨g, o, rfl, hg, hc⟩ := hh.resolve_left hne
  have e1 : (ws.map ba).map (fun x => x.data.toList) = ws := by
    rw [List.map_map]
    conv => rhs; rw [← List.map_id ws]
    exact List.map_congr_left fun x _ => ba_list x
  have e2 : (⟨#[32]⟩ : ByteArray).data.toList = [32] := rfl
  have := Tryz.strings_Join g o cap (ws.map ba) ⟨#[32]⟩ w (fun j x hx => by
    rw [List.getElem?_map] at hx
    by_cases hj : j < ws.length
    · rw [List.getElem?_eq_getElem hj] at hx
      simp only [Option.map_some, Option.some.injEq] at hx
      rw [← hx]
      exact hc j hj
    · rw [List.getElem?_eq_none (by omega)] at hx
      cases hx) hg (by rw [List.length_map]; exact hl) (by rw [List.length_map]; exact hcap) (by rw [e1, e2]; exact hj)
  rw [e1, e2, List.length_map] at this
  exact this
end Go.Proofs.YtpaoimhebheaeaaGreatDoor.Sc
namespace Go.Proofs.YtpaoimhebheaeaaGreatDoor.Sc
open Go.RowKit
set_option maxRecDepth 100000

theorem lineT_len : ∀ (ws : List Bs), 1 ≤ (lineT ws).length ∧ ws.length ≤ (lineT ws).length ∧ ∀ x ∈ ws, x.length ≤ (lineT ws).length
  | [] => ⟨by simp [lineT], by simp, fun x hx => by cases hx⟩
  | [w] => ⟨by simp [lineT], by simp [lineT], fun x hx => by rw [List.mem_singleton.1 hx]; simp [lineT]⟩
  | w :: q :: r => by
    obtain ⟨h1, h2, h3⟩ := lineT_len (q :: r)
    have e : lineT (w :: q :: r) = w ++ [32] ++ lineT (q :: r) := rfl
    rw [e]
    simp only [List.length_append, List.length_cons, List.length_nil] at *
    refine ⟨by omega, by omega, fun x hx => ?_⟩
    rcases List.mem_cons.1 hx with rfl | hx
    · omega
    · have := h3 x hx; omega
theorem textT_cons (l : List Bs) (L : List (List Bs)) : textT (l :: L) = lineT l ++ textT L := by simp [textT]
theorem textT_len : ∀ (L : List (List Bs)), L.length ≤ (textT L).length ∧ ∀ l ∈ L, (lineT l).length ≤ (textT L).length
  | [] => ⟨by simp, fun l hl => by cases hl⟩
  | l :: L => by
    obtain ⟨h1, h2⟩ := textT_len L
    have := (lineT_len l).1
    rw [textT_cons]
    simp only [List.length_append, List.length_cons]
    refine ⟨by omega, fun x hx => ?_⟩
    rcases List.mem_cons.1 hx with rfl | hx
    · omega
    · have := h2 x hx; omega
theorem textT_take (L : List (List Bs)) (k : Nat) : (textT (L.take k)).length ≤ (textT L).length := by
  have : textT L = textT (L.take k) ++ textT (L.drop k) := by
    unfold textT
    rw [← List.flatMap_append, List.take_append_drop]
  rw [this, List.length_append]; omega
theorem textT_more {L : List (List Bs)} {k : Nat} (h : k < L.length) : textT (L.take (k + 1)) = textT (L.take k) ++ lineT L[k] := by
  rw [List.take_succ_eq_append_getElem h, textT_snoc]

/-- What Join answers with. -/
def joiT (L : List (List Bs)) : ByteArray := if L.all isL = true then ba (textT L) else ⟨#[]⟩
def joiE (L : List (List Bs)) : Int := if L.all isL = true then 0 else 22
theorem joi_yes {L : List (List Bs)} (h : L.all isL = true) : joiT L = ba (textT L) ∧ joiE L = 0 := by unfold joiT joiE; rw [if_pos h, if_pos h]; exact ⟨rfl, rfl⟩
theorem joi_no {L : List (List Bs)} {l : List Bs} (hm : l ∈ L) (h : isL l = false) : joiT L = ⟨#[]⟩ ∧ joiE L = 22 := by
  have : L.all isL = false := by
    rw [Bool.eq_false_iff]
    intro ha
    rw [List.all_eq_true] at ha
    have := ha l hm
    rw [h] at this; cases this
  unfold joiT joiE
  rw [this]
  exact ⟨rfl, rfl⟩
theorem ret_join {a b : ByteArray} {x y : Int} (h1 : a = b) (h2 : x = y) : Ending.returned (.tuple #[.string a, .int .i64 x]) = .returned (.tuple #[.string b, .int .i64 y]) := by rw [h1, h2]

theorem Bld.new (w : World) : Bld w.heap.size w.heap.size [] (w.alloc (.cells #[.pointer none, .slice none 0 0] 153)) :=
  Or.inl ⟨Nat.le_refl _, .slice none 0 0, heap_alloc_new w _, ⟨rfl, Or.inl ⟨rfl, rfl⟩⟩, by simp [Value.ownBlock]⟩
theorem Bld.below {B b : Nat} {l : Bs} {w w' : World} (h : Bld B b l w) (hb : Below w.heap.size w w') : Bld B b l w' := by
  have key : ∀ {p : Value}, Lib.BuilderAt 153 5 B b p (Lib.byteCells l) w → Lib.BuilderAt 153 5 B b p (Lib.byteCells l) w' := by
    rintro p ⟨h1, v, h2, h3, h4⟩
    refine ⟨h1, v, (hb.block b (Array.getElem?_eq_some_iff.1 h2).1).trans h2, ⟨h3.1, ?_⟩, h4⟩
    rcases h3.2 with hn | ⟨g, cap, cur, hv, hB, hg, r⟩
    · exact Or.inl hn
    · exact Or.inr ⟨g, cap, cur, hv, hB, (hb.block g (Array.getElem?_eq_some_iff.1 hg).1).trans hg, r⟩
  exact h.imp key key

set_option maxHeartbeats 3200000 in
theorem Join_any {L : List (List Bs)} (hT : (textT L).length ≤ 4194304) {v : Value} {w : World} (hv : LinesAt w v L) :
    Calls Tryz.prog 103 #[v] w fun e w' => e = .returned (.tuple #[.string (joiT L), .int .i64 (joiE L)]) ∧ Below w.heap.size w w' := by
  have hLl := (textT_len L).1
  have HV := hide3 hv
  obtain ⟨ad, cap, rfl, hcap, _⟩ := hv
  have HN := hide3 (Bld.new w)
  go_enter Tryz.func103, Tryz.ntmps103
  go_wp2
  go_loopw [9] (fun i wr => ∃ k : Nat, k ≤ L.length ∧ i = .int .i64 k ∧ (L.take k).all isL = true ∧ Bld w.heap.size w.heap.size (textT (L.take k)) wr ∧ Below w.heap.size w wr) (fun i _ => L.length - (intOf i).toNat)
  case atStart => exact ⟨0, Nat.zero_le _, rfl, rfl, HN.out, boxB _ _⟩
  case round =>
    obtain ⟨k, hk, rfl, hal, hbd, hbe⟩ := hrel
    have HA := hide3 hal
    have HB := hide3 hbd
    have HE := hide3 hbe
    clear hal hbd hbe HN
    have hze := HE.out.size
    by_cases hlt : k < L.length
    · obtain ⟨u, g, o, had, hg, hcell, hwu⟩ : ∃ u g o, ad = some ⟨g, o, none⟩ ∧ g < wr.heap.size ∧ wr.cell? ⟨g, o + k, none⟩ = some u ∧ WordsAt wr u L[k] := by
        obtain ⟨ad', cap', hq, _, hl⟩ := HV.out.below HE.out
        cases hq
        rcases hl with rfl | ⟨g, o, h1, h2, h3⟩
        · simp at hlt
        · obtain ⟨u, h4, h5⟩ := h3 k hlt
          exact ⟨u, g, o, h1, h2, h4, h5⟩
      subst had
      have hll := lineT_len L[k]
      have hlm := (textT_len L).2 _ (List.getElem_mem hlt)
      have hmore := textT_more hlt
      have hml := textT_take L (k + 1)
      have HWU := hide3 hwu
      have HML := hide3 (mayLine_any (w := wr) ⟨by omega, fun x hx => by have := hll.2.2 x hx; omega⟩ hwu)
      have htk : L.take (k + 1) = L.take k ++ [L[k]] := List.take_succ_eq_append_getElem hlt
      obtain ⟨bd, cap2, rfl, _, _⟩ := hwu
      cases hw : isL L[k]
      · have HR := hide3 (joi_no (List.getElem_mem hlt) hw)
        rw [hw] at HML
        clear hw htk hmore hml hll hlm HWU
        go_wp2_with (go_at_call 138; refine HML.out.mono ?_; rintro e w1 ⟨rfl, hw1⟩; subst hw1)
        go_ret2
        exact ⟨ret_join HR.out.1.symm HR.out.2.symm, HE.out⟩
      · have hne : L[k] ≠ [] := by intro e; rw [e] at hw; cases hw
        have HA2 : Hid ((L.take (k + 1)).all isL = true) := by unfold Hid; rw [htk, List.all_append, HA.out]; simp [hw]
        have hjl := join_line hne
        have hjn : (Lib.join L[k] [32]).length + 1 = (lineT L[k]).length := by rw [← hjl]; simp
        have hml2 : (textT (L.take k)).length + (lineT L[k]).length ≤ 4194304 := by rw [hmore, List.length_append] at hml; omega
        have HT : Hid (textT (L.take (k + 1)) = textT (L.take k) ++ Lib.join L[k] [32] ++ [10]) := by unfold Hid; rw [hmore, ← hjl]; simp
        have HJ := hide3 (wJoin_any hne (by omega) (by omega) HWU.out)
        have HX : Hid (∀ w1 : World, Bld w.heap.size w.heap.size (textT (L.take k)) w1 → w.heap.size ≤ w1.heap.size → Calls Tryz.prog 139 #[.pointer (some ⟨w.heap.size, 0, none⟩), .string (ba (Lib.join L[k] [32]))] w1 fun e w' => ∃ n, e = .returned (.tuple #[.int .i64 n, .nilIface]) ∧ Bld w.heap.size w.heap.size (textT (L.take k) ++ Lib.join L[k] [32]) w' ∧ Below w.heap.size w1 w') := by
          intro w1 h1 h2
          refine (putText (ba (Lib.join L[k] [32])) h1 (by rw [ba_size]; omega) h2).mono ?_
          rintro e w' ⟨rfl, h3, h4⟩
          rw [ba_list] at h3
          exact ⟨_, rfl, h3, h4⟩
        have HY : Hid (∀ w1 : World, Bld w.heap.size w.heap.size (textT (L.take k) ++ Lib.join L[k] [32]) w1 → w.heap.size ≤ w1.heap.size → Calls Tryz.prog 141 #[.pointer (some ⟨w.heap.size, 0, none⟩), .int .u8 10] w1 fun e w' => e = .returned .nilIface ∧ Bld w.heap.size w.heap.size (textT (L.take k) ++ Lib.join L[k] [32] ++ [10]) w' ∧ Below w.heap.size w1 w') := by
          intro w1 h1 h2
          exact putByte 10 h1 (by rw [List.length_append]; omega) h2
        rw [hw] at HML
        clear hw htk hmore hml hll hlm HWU hjl hjn hml2 hne
        generalize ba (Lib.join L[k] [32]) = tx at *
        go_wp2_with (first
          | (go_at_call 138; refine HML.out.mono ?_; rintro e w1 ⟨rfl, hw1⟩; subst hw1)
          | (go_at_call 140; refine HJ.out.mono ?_; rintro e w3 ⟨rfl, hb3⟩; have HB3 := hide3 (HB.out.below hb3); have HE3 : Hid (Below w.heap.size w w3) := below_then HE.out hb3; clear hb3)
          | (go_at_call 139; refine (HX.out _ HB3.out HE3.out.size).mono ?_; rintro e w4 ⟨n4, rfl, hb4, he4⟩; have HB4 := hide3 hb4; have HE4 : Hid (Below w.heap.size w w4) := HE3.out.trans he4; clear hb4 he4)
          | (go_at_call 141; refine (HY.out _ HB4.out HE4.out.size).mono ?_; rintro e w5 ⟨rfl, hb5, he5⟩; have HB5 := hide3 hb5; have HE5 : Hid (Below w.heap.size w w5) := HE4.out.trans he5; clear hb5 he5))
        exact ⟨⟨k + 1, by omega, by go_num, HA2.out, by rw [HT.out]; exact HB5.out, HE5.out⟩, by simp [intOf]; omega⟩
    · have hke : k = L.length := by omega
      subst hke
      have HR : Hid (joiT L = ba (textT L) ∧ joiE L = 0) := joi_yes (by have := HA.out; rw [List.take_length] at this; exact this)
      have HS : Hid (Calls Tryz.prog 142 #[.pointer (some ⟨w.heap.size, 0, none⟩)] wr fun e w' => e = .returned (.string (ba (textT L))) ∧ Below w.heap.size wr w') := by
        have := HB.out
        rw [List.take_length] at this
        exact Tryz.Builder_String_any w.heap.size w.heap.size (textT L) wr this hze
      go_wp2_with (go_at_call 142; refine HS.out.mono ?_; rintro e w3 ⟨rfl, hb3⟩; have HE3 : Hid (Below w.heap.size w w3) := HE.out.trans hb3; clear hb3)
      go_ret2
      exact ⟨ret_join HR.out.1.symm HR.out.2.symm, HE3.out⟩
end Go.Proofs.YtpaoimhebheaeaaGreatDoor.Sc
namespace Go.Proofs.YtpaoimhebheaeaaGreatDoor
open Go.RowKit Dk
set_option maxRecDepth 100000

/-- The first line's word. -/
def bsP : Sc.Bs := [112, 108, 97, 110]
/-- A digit. -/
def isHx (b : UInt8) : Bool := (decide (48 ≤ b.toNat) && decide (b.toNat ≤ 57)) || (decide (97 ≤ b.toNat) && decide (b.toNat ≤ 102))
/-- The bytes for which a word stands. -/
def bytW (w : Sc.Bs) : Option Sc.Bs := if w = [45] then some [] else if w.length % 2 = 0 ∧ w.all isHx = true then some (dataL w) else none
/-- The kind for which a word stands. -/
def kindW (w : Sc.Bs) : Int := if w = (wordP 1).data.toList then 1 else if w = (wordP 2).data.toList then 2 else if w = (wordP 3).data.toList then 3 else if w = (wordP 4).data.toList then 4 else 0
/-- The words of a deed. -/
def lineW (d : De) : List Sc.Bs := (wordP d.kd).data.toList :: d.pa.data.toList :: (if d.kd = 4 then [(hexT d.da).data.toList] else [])
/-- The deed of words. -/
def deedW : List Sc.Bs → Option De
  | [k, p] => if 1 ≤ kindW k ∧ kindW k ≤ 3 then some ⟨kindW k, Sc.ba p, ⟨#[]⟩⟩ else none
  | [k, p, x] => if kindW k = 4 then (bytW x).map fun y => ⟨4, Sc.ba p, Sc.ba y⟩ else none
  | _ => none
def linesP (l : List De) : List (List Sc.Bs) := [bsP] :: l.map lineW

theorem dig_all : ∀ n, n < 256 → isHx (UInt8.ofNat n) = true → hexN (digN n) = UInt8.ofNat n := by decide +kernel
theorem hx_dig {b : UInt8} (h : isHx b = true) : hexN (digN b.toNat) = b := by
  have := dig_all b.toNat (by have := b.toNat_lt; omega) (by rw [UInt8.ofNat_toNat]; exact h)
  rwa [UInt8.ofNat_toNat] at this
theorem hx_all : ∀ n, n < 16 → digN (hexN n).toNat = n ∧ isHx (hexN n) = true := by decide +kernel
theorem hx_wB : ∀ n, n < 256 → isHx (UInt8.ofNat n) = true → Sc.wB (UInt8.ofNat n) = true := by decide +kernel
theorem isHx_w {b : UInt8} (h : isHx b = true) : Sc.wB b = true := by
  have := hx_wB b.toNat (by have := b.toNat_lt; omega) (by rw [UInt8.ofNat_toNat]; exact h)
  rwa [UInt8.ofNat_toNat] at this
theorem dataL_hex : ∀ l : Sc.Bs, dataL (hexL l) = l
  | [] => rfl
  | b :: r => by
    have hb := b.toNat_lt
    have e : hexL (b :: r) = hexN (b.toNat / 16) :: hexN (b.toNat % 16) :: hexL r := by simp [hexL]
    rw [e]
    unfold dataL
    rw [(hx_all (b.toNat / 16) (by omega)).1, (hx_all (b.toNat % 16) (by omega)).1, dataL_hex r]
    congr 1
    rw [show 16 * (b.toNat / 16) + b.toNat % 16 = b.toNat by omega, UInt8.ofNat_toNat]
theorem hexL_all : ∀ l : Sc.Bs, (hexL l).all isHx = true
  | [] => rfl
  | b :: r => by
    have hb := b.toNat_lt
    have e : hexL (b :: r) = hexN (b.toNat / 16) :: hexN (b.toNat % 16) :: hexL r := by simp [hexL]
    rw [e, List.all_cons, List.all_cons, (hx_all (b.toNat / 16) (by omega)).2, (hx_all (b.toNat % 16) (by omega)).2, hexL_all r]
    rfl
theorem hexL_data : ∀ (n : Nat) (l : Sc.Bs), l.length = 2 * n → l.all isHx = true → hexL (dataL l) = l
  | 0, [], _, _ => rfl
  | 0, _ :: _, h, _ => by simp at h
  | n + 1, [], h, _ => by simp at h
  | n + 1, [_], h, _ => by simp at h; omega
  | n + 1, a :: b :: r, h, hh => by
    simp only [List.all_cons, Bool.and_eq_true] at hh
    have ha := digN_lt a.toNat
    have hb := digN_lt b.toNat
    have e : dataL (a :: b :: r) = UInt8.ofNat (16 * digN a.toNat + digN b.toNat) :: dataL r := rfl
    have e2 : ∀ (c : UInt8) (m : Sc.Bs), hexL (c :: m) = hexN (c.toNat / 16) :: hexN (c.toNat % 16) :: hexL m := fun c m => by simp [hexL]
    have e3 : (UInt8.ofNat (16 * digN a.toNat + digN b.toNat)).toNat = 16 * digN a.toNat + digN b.toNat := by rw [UInt8.toNat_ofNat']; omega
    rw [e, e2, e3, show (16 * digN a.toNat + digN b.toNat) / 16 = digN a.toNat by omega, show (16 * digN a.toNat + digN b.toNat) % 16 = digN b.toNat by omega, hx_dig hh.1, hx_dig hh.2.1, hexL_data n r (by simp at h; omega) hh.2.2]

theorem toList_nil {s : ByteArray} (h : (s.toList == []) = true) : s = ⟨#[]⟩ := by
  have := beq_iff_eq.1 h
  rw [toList_data] at this
  exact bytes_eq (by rw [this])
theorem hexT_nil {s : ByteArray} (h : (s.toList == []) = true) : (hexT s).data.toList = [45] := by unfold hexT; rw [if_pos h]
theorem hexT_ne {s : ByteArray} (h : (s.toList == []) = false) : (hexT s).data.toList = hexL s.data.toList := by
  unfold hexT
  rw [if_neg (by rw [h]; decide)]
theorem ne_len {s : ByteArray} (h : (s.toList == []) = false) : 0 < s.data.toList.length := by
  rw [toList_data] at h
  cases hc : s.data.toList with
  | nil => rw [hc] at h; cases h
  | cons _ _ => simp
theorem ba_nil : Sc.ba [] = ⟨#[]⟩ := rfl
theorem empty_beq : ((⟨#[]⟩ : ByteArray).toList == []) = true := by rw [toList_data]; rfl
theorem bytW_hex (s : ByteArray) : bytW (hexT s).data.toList = some s.data.toList := by
  cases h : (s.toList == [])
  · have h2 := ne_len h
    rw [hexT_ne h]
    unfold bytW
    have hl := hexL_len s.data.toList
    rw [if_neg (fun e => by rw [e] at hl; simp at hl; omega), if_pos ⟨by omega, hexL_all _⟩, dataL_hex]
  · rw [hexT_nil h, toList_nil h]
    rfl
theorem kindW_word {k : Int} (h1 : 1 ≤ k) (h4 : k ≤ 4) : kindW (wordP k).data.toList = k := by
  obtain rfl | rfl | rfl | rfl : k = 1 ∨ k = 2 ∨ k = 3 ∨ k = 4 := by omega
  all_goals decide +kernel
theorem word_kind {w : Sc.Bs} (h : kindW w ≠ 0) : w = (wordP (kindW w)).data.toList ∧ 1 ≤ kindW w ∧ kindW w ≤ 4 := by
  unfold kindW at h ⊢
  by_cases h1 : w = (wordP 1).data.toList
  · rw [if_pos h1]; exact ⟨h1, by omega, by omega⟩
  · rw [if_neg h1] at h ⊢
    by_cases h2 : w = (wordP 2).data.toList
    · rw [if_pos h2]; exact ⟨h2, by omega, by omega⟩
    · rw [if_neg h2] at h ⊢
      by_cases h3 : w = (wordP 3).data.toList
      · rw [if_pos h3]; exact ⟨h3, by omega, by omega⟩
      · rw [if_neg h3] at h ⊢
        by_cases h4 : w = (wordP 4).data.toList
        · rw [if_pos h4]; exact ⟨h4, by omega, by omega⟩
        · rw [if_neg h4] at h; exact absurd rfl h

/-- What a deed is written as is read as it. -/
theorem deed_line {d : De} (h1 : 1 ≤ d.kd) (h4 : d.kd ≤ 4) (hd : d.kd = 4 ∨ (d.da.toList == []) = true) : deedW (lineW d) = some d := by
  obtain ⟨k, p, t⟩ := d
  simp only at h1 h4 hd
  unfold lineW
  by_cases h : k = 4
  · subst h
    simp only [if_true]
    unfold deedW
    simp only
    rw [if_pos (kindW_word (by omega) (by omega)), bytW_hex]
    simp only [Option.map_some]
    rw [Sc.ba_of, Sc.ba_of]
  · simp only
    rw [if_neg h]
    unfold deedW
    simp only
    rw [kindW_word h1 h4, if_pos ⟨h1, by omega⟩, Sc.ba_of, toList_nil (hd.resolve_left h)]
theorem bytW_some {x y : Sc.Bs} (hx : x ≠ []) (h : bytW x = some y) : (hexT (Sc.ba y)).data.toList = x := by
  unfold bytW at h
  split at h
  · rename_i e
    cases h
    rw [e]
    exact hexT_nil empty_beq
  · split at h
    · rename_i _ e
      cases h
      have hl : x.length = 2 * (x.length / 2) := by omega
      have hl2 := dataL_len _ x hl
      have h0 : 0 < x.length := List.length_pos_iff.2 hx
      have hne : ((Sc.ba (dataL x)).toList == []) = false := by
        rw [toList_data, Sc.ba_list]
        cases hc : dataL x with
        | nil => rw [hc] at hl2; simp at hl2; omega
        | cons _ _ => rfl
      rw [hexT_ne hne, Sc.ba_list, hexL_data _ x hl e.2]
    · cases h
/-- What is read as a deed is what it is written as. -/
theorem line_deed {ws : List Sc.Bs} {d : De} (hw : ws.all Sc.isW = true) (h : deedW ws = some d) : lineW d = ws ∧ 1 ≤ d.kd ∧ d.kd ≤ 4 ∧ (d.kd = 4 ∨ (d.da.toList == []) = true) := by
  match ws, hw, h with
  | [k, p], hw, h =>
    unfold deedW at h
    simp only at h
    split at h
    · rename_i hk
      cases h
      have hq := word_kind (w := k) (by omega)
      refine ⟨?_, hk.1, by simp only; omega, Or.inr empty_beq⟩
      unfold lineW
      simp only
      rw [if_neg (by omega), ← hq.1, Sc.ba_list]
    · cases h
  | [k, p, x], hw, h =>
    unfold deedW at h
    simp only at h
    split at h
    · rename_i hk
      have hq := word_kind (w := k) (by omega)
      cases hb : bytW x with
      | none => rw [hb] at h; cases h
      | some y =>
        rw [hb] at h
        cases h
        have hx : x ≠ [] := by
          rintro rfl
          simp [Sc.isW] at hw
        refine ⟨?_, by simp only; omega, by simp only; omega, Or.inl rfl⟩
        unfold lineW
        simp only [if_true]
        rw [bytW_some hx hb, Sc.ba_list, ← hk, ← hq.1]
    · cases h
  | [], _, h => cases h
  | [_], _, h => cases h
  | _ :: _ :: _ :: _ :: _, _, h => cases h

/-- What lines are read as. -/
def readD : List (List Sc.Bs) → Option (List De)
  | [] => some []
  | w :: r => match deedW w with
    | none => none
    | some d => match readD r with
      | none => none
      | some l => some (d :: l)
theorem readD_snoc : ∀ (r : List (List Sc.Bs)) (w : List Sc.Bs), readD (r ++ [w]) = match readD r with
    | none => none
    | some l => match deedW w with
      | none => none
      | some d => some (l ++ [d])
  | [], w => by
    simp only [List.nil_append, readD]
  | x :: r, w => by
    simp only [List.cons_append, readD]
    cases deedW x with
    | none => rfl
    | some d =>
      simp only
      rw [readD_snoc r w]
      cases readD r with
      | none => rfl
      | some l => cases deedW w <;> rfl
theorem readD_none : ∀ {r : List (List Sc.Bs)} {w : List Sc.Bs}, w ∈ r → deedW w = none → readD r = none
  | x :: r, w, hm, h => by
    unfold readD
    rcases List.mem_cons.1 hm with rfl | hm
    · rw [h]
    · cases deedW x with
      | none => rfl
      | some d => simp only; rw [readD_none hm h]
theorem readD_len : ∀ {r : List (List Sc.Bs)} {l : List De}, readD r = some l → l.length = r.length
  | [], l, h => by cases h; rfl
  | x :: r, l, h => by
    unfold readD at h
    cases hx : deedW x with
    | none => rw [hx] at h; cases h
    | some d =>
      rw [hx] at h
      simp only at h
      cases hr : readD r with
      | none => rw [hr] at h; cases h
      | some m => rw [hr] at h; cases h; simp [readD_len hr]
theorem read_lines : ∀ {l : List De}, (∀ d ∈ l, 1 ≤ d.kd ∧ d.kd ≤ 4 ∧ (d.kd = 4 ∨ (d.da.toList == []) = true)) → readD (l.map lineW) = some l
  | [], _ => rfl
  | d :: l, h => by
    obtain ⟨a, b, c⟩ := h d List.mem_cons_self
    simp only [List.map_cons, readD]
    rw [deed_line a b c, read_lines fun x hx => h x (List.mem_cons_of_mem _ hx)]
theorem lines_read : ∀ {r : List (List Sc.Bs)} {l : List De}, r.all Sc.isL = true → readD r = some l → r = l.map lineW
  | [], l, _, h => by cases h; rfl
  | x :: r, l, ha, h => by
    rw [List.all_cons, Bool.and_eq_true] at ha
    unfold readD at h
    cases hx : deedW x with
    | none => rw [hx] at h; cases h
    | some d =>
      rw [hx] at h
      simp only at h
      cases hr : readD r with
      | none => rw [hr] at h; cases h
      | some m =>
        rw [hr] at h
        cases h
        have hw : x.all Sc.isW = true := by
          have := ha.1
          unfold Sc.isL at this
          rw [Bool.and_eq_true] at this
          exact this.1
        rw [List.map_cons, (line_deed hw hx).1, lines_read ha.2 hr]

theorem segs_all {q : UInt8 → Bool} : ∀ r : Sc.Bs, (∀ x ∈ segs r, x.all q = true) → ∀ b ∈ r, b = 47 ∨ q b = true
  | [], _, b, hb => by cases hb
  | c :: r, h, b, hb => by
    unfold segs at h
    by_cases hc : c = 47
    · rw [if_pos hc] at h
      rcases List.mem_cons.1 hb with rfl | hb
      · exact Or.inl hc
      · exact segs_all r (fun x hx => h x (List.mem_cons_of_mem _ hx)) b hb
    · rw [if_neg hc] at h
      obtain ⟨a, t, e⟩ := segs_ne r
      rw [e] at h
      simp only at h
      have h0 := h _ List.mem_cons_self
      rw [List.all_cons, Bool.and_eq_true] at h0
      rcases List.mem_cons.1 hb with rfl | hb
      · exact Or.inr h0.1
      · refine segs_all r (fun x hx => ?_) b hb
        rw [e] at hx
        rcases List.mem_cons.1 hx with rfl | hx
        · exact h0.2
        · exact h x (List.mem_cons_of_mem _ hx)
theorem part_w : ∀ n, n < 256 → partByteB (UInt8.ofNat n) = true → Sc.wB (UInt8.ofNat n) = true := by decide +kernel
theorem path_w {s : ByteArray} (h : okPath s = true) : Sc.isW s.data.toList = true := by
  rw [okPath_rest] at h
  simp only [Bool.and_eq_true, decide_eq_true_eq, beq_iff_eq] at h
  obtain ⟨⟨⟨h2, _⟩, h47⟩, hr⟩ := h
  have hne : s.data.toList ≠ [] := by
    intro e
    rw [e] at h47
    cases h47
  obtain ⟨c, r, hs⟩ := List.exists_cons_of_ne_nil hne
  rw [hs] at h47 hr ⊢
  have hc : c = 47 := by simpa using h47
  rw [List.drop_one, List.tail_cons] at hr
  have hall : ∀ x ∈ segs r, x.all partByteB = true := by
    unfold restOk at hr
    obtain ⟨a, t, e⟩ := segs_ne r
    rw [e] at hr ⊢
    simp only [List.nil_append, Bool.and_eq_true] at hr
    have hp : ∀ x, partB x = true → x.all partByteB = true := fun x hx => by
      unfold partB at hx
      simp only [Bool.and_eq_true] at hx
      exact hx.2
    intro x hx
    rcases List.mem_cons.1 hx with rfl | hx
    · exact hp _ hr.1
    · exact hp _ (List.all_eq_true.1 hr.2 x hx)
  have hb := segs_all r hall
  refine Sc.isW_of ?_ (by simp)
  rw [List.all_eq_true]
  intro b hm
  rcases List.mem_cons.1 hm with rfl | hm
  · rw [hc]; decide
  · rcases hb b hm with rfl | hq
    · decide
    · have := part_w b.toNat (by have := b.toNat_lt; omega) (by rw [UInt8.ofNat_toNat]; exact hq)
      rwa [UInt8.ofNat_toNat] at this
theorem okDe_parts {pre : List De} {d : De} (h : okDe pre d = true) : 1 ≤ d.kd ∧ d.kd ≤ 4 ∧ (d.kd = 4 ∨ (d.da.toList == []) = true) ∧ okPath d.pa = true := by
  unfold okDe at h
  simp only [Bool.and_eq_true, Bool.or_eq_true, decide_eq_true_eq, beq_iff_eq] at h
  refine ⟨h.1.1.1.1.1, h.1.1.1.1.2, ?_, h.1.2.1⟩
  rcases h.1.1.2 with q | q
  · exact Or.inl q
  · exact Or.inr (by rw [q]; rfl)
theorem Plan.parts {l : List De} (h : Plan l) : ∀ d ∈ l, 1 ≤ d.kd ∧ d.kd ≤ 4 ∧ (d.kd = 4 ∨ (d.da.toList == []) = true) ∧ okPath d.pa = true := by
  intro d hd
  obtain ⟨i, hi, rfl⟩ := List.getElem_of_mem hd
  exact okDe_parts (h i hi)
theorem hexT_w (s : ByteArray) : Sc.isW (hexT s).data.toList = true := by
  cases h : (s.toList == [])
  · rw [hexT_ne h]
    refine Sc.isW_of ?_ ?_
    · rw [List.all_eq_true]
      intro b hb
      exact isHx_w (List.all_eq_true.1 (hexL_all _) b hb)
    · have h1 := hexL_len s.data.toList
      have h2 := ne_len h
      intro e
      rw [e, List.length_nil] at h1
      omega
  · rw [hexT_nil h]; decide
theorem word_w (k : Int) : Sc.isW (wordP k).data.toList = true := by
  unfold wordP
  split
  · decide
  · split
    · decide
    · split <;> decide
theorem Plan.lines {l : List De} (h : Plan l) : (linesP l).all Sc.isL = true := by
  unfold linesP
  rw [List.all_cons, Bool.and_eq_true]
  refine ⟨by decide, ?_⟩
  rw [List.all_map, List.all_eq_true]
  intro d hd
  obtain ⟨_, _, _, hp⟩ := h.parts d hd
  show Sc.isL (lineW d) = true
  unfold Sc.isL lineW
  rw [List.all_cons, List.all_cons, word_w, path_w hp]
  by_cases h4 : d.kd = 4
  · rw [if_pos h4, List.all_cons, hexT_w]; rfl
  · rw [if_neg h4]; rfl
theorem ap_list (x y : ByteArray) : (x ++ y).data.toList = x.data.toList ++ y.data.toList := by
  rw [ByteArray.data_append, Array.toList_append]
theorem lineD_list (d : De) (acc : ByteArray) : (lineD d acc).data.toList = acc.data.toList ++ Sc.lineT (lineW d) := by
  unfold lineD lineW
  by_cases h4 : d.kd = 4
  · rw [if_pos (by rw [h4]; rfl), if_pos h4]
    simp only [ap_list, Sc.lineT]
    simp [sp1, nl1]
  · rw [if_neg (by simpa using h4), if_neg h4]
    simp only [ap_list, Sc.lineT]
    simp [sp1, nl1]
theorem textD_list (l : List De) : (textD l).data.toList = Sc.textT (linesP l) := by
  have hf : ∀ (l : List De) (acc : ByteArray), (l.foldl (fun acc d => lineD d acc) acc).data.toList = acc.data.toList ++ Sc.textT (l.map lineW) := by
    intro l
    induction l with
    | nil => intro acc; simp [Sc.textT]
    | cons d l ih =>
      intro acc
      rw [List.foldl_cons, ih, lineD_list, List.map_cons]
      simp [Sc.textT]
  unfold textD
  rw [hf]
  rfl
theorem textD_ba (l : List De) : Sc.ba (Sc.textT (linesP l)) = textD l := by rw [← textD_list, Sc.ba_of]

/-- What lines are a plan of. -/
def readL : List (List Sc.Bs) → Option (List De)
  | [] => none
  | h :: r => if h = [bsP] then readD r else none
open Classical in
/-- What a text is read as: the error, and the deeds. -/
noncomputable def parO (t : ByteArray) : Int × List De := match Sc.scanR t.data.toList [] [] [] with
  | .error _ => (22, [])
  | .ok L => match readL L with
    | none => (44, [])
    | some l => if Plan l then (0, l) else (44, [])
theorem parO_text {l : List De} (h : Plan l) : parO (textD l) = (0, l) := by
  unfold parO
  rw [textD_list, Sc.scan_text _ _ h.lines, List.nil_append]
  have : readL (linesP l) = some l := by
    unfold readL linesP
    simp only [if_true]
    exact read_lines fun d hd => ⟨(h.parts d hd).1, (h.parts d hd).2.1, (h.parts d hd).2.2.1⟩
  simp only
  rw [this]
  simp only
  rw [if_pos h]
theorem parO_ok {t : ByteArray} {l : List De} (h : parO t = (0, l)) : Plan l ∧ textD l = t := by
  unfold parO at h
  cases hs : Sc.scanR t.data.toList [] [] [] with
  | error n => rw [hs] at h; cases h
  | ok L =>
    rw [hs] at h
    simp only at h
    cases hr : readL L with
    | none => rw [hr] at h; cases h
    | some m =>
      rw [hr] at h
      simp only at h
      split at h
      · rename_i hp
        cases h
        refine ⟨hp, ?_⟩
        obtain ⟨hal, htx⟩ := Sc.scan_back _ _ _ _ L hs rfl rfl rfl
        have htx' : Sc.textT L = t.data.toList := by rw [htx]; simp [Sc.pend, Sc.textT]
        cases L with
        | nil => cases hr
        | cons x r =>
          simp only [readL] at hr
          by_cases hx : x = [bsP]
          · rw [if_pos hx] at hr
            rw [List.all_cons, Bool.and_eq_true] at hal
            have := lines_read hal.2 hr
            rw [← textD_ba]
            unfold linesP
            rw [← this, ← hx, htx', Sc.ba_of]
          · rw [if_neg hx] at hr; cases hr
      · cases h
theorem parO_no {t : ByteArray} (h : (parO t).1 ≠ 0) : (parO t).2 = [] := by
  unfold parO at h ⊢
  split
  · rfl
  · rename_i L hs
    rw [hs] at h
    simp only at h ⊢
    split
    · rfl
    · rename_i m hr
      rw [hr] at h
      simp only at h ⊢
      split
      · rename_i hp; rw [if_pos hp] at h; exact absurd rfl h
      · rfl
theorem parO_cases (t : ByteArray) : (∃ l, parO t = (0, l)) ∨ parO t = (22, []) ∨ parO t = (44, []) := by
  unfold parO
  split
  · exact Or.inr (Or.inl rfl)
  · split
    · exact Or.inr (Or.inr rfl)
    · split
      · exact Or.inl ⟨_, rfl⟩
      · exact Or.inr (Or.inr rfl)
end Go.Proofs.YtpaoimhebheaeaaGreatDoor
namespace Go.Proofs.YtpaoimhebheaeaaGreatDoor
open Go.RowKit Go.Maps Go.WideMaps Go.WideElems Dk
open Sc (KeepP keepBelow callC callC' wp_region_keep CellK keepCell)
set_option maxRecDepth 100000

/-- May a deed be of that path? -/
def mayB (s : ByteArray) : Bool := okPath s && !jB s
theorem jB_pre (s : ByteArray) : jB s = (s.toList == jn.toList || Lib.hasPrefix s.data.toList jS.data.toList) := by
  unfold jB
  rw [← Lib.hasPrefix_raw]
  rfl
theorem read_new (s : ByteArray) : (readE newAb.D s == 12) = okPath s := by
  unfold readE okPath
  cases hp : pathB s
  · rfl
  · rw [if_pos rfl]
    cases hr : (s.toList == [47])
    · have hk : kindD newAb.D s = 0 := kind_none hr rfl
      rw [hk]
      rfl
    · have hk : kindD newAb.D s = 2 := by unfold kindD; rw [if_pos hr]
      rw [hk]
      rfl

theorem mayPath_any {B : Nat} {w : World} {d mb n : Nat} {rv : Value} (h : IsDisk B w d mb n rv newAb) (s : ByteArray) (m : Int) (hm : w.cell? ⟨0, 0, none⟩ = some (.int .i64 m)) (hs : s.size ≤ maxLen) :
    Calls Tryz.prog 99 #[.pointer (some ⟨d, 0, none⟩), .string s] w fun e w' => e = .returned (.bool (mayB s)) ∧ Below w.heap.size w w' := by
  have HR := hide3 (Read_any h s m hm hs)
  have HE := hide3 (read_new s)
  have HJ := hide3 (jB_pre s)
  have hjn : jn.toList = [47, 106, 111, 117, 114, 110, 97, 108] := by decide +kernel
  rw [hjn] at HJ
  have HP : Hid (∀ w1, Calls Tryz.prog 96 #[.string s, .string ⟨#[47, 106, 111, 117, 114, 110, 97, 108, 47]⟩] w1 fun e w' => e = .returned (.bool (Lib.hasPrefix s.data.toList jS.data.toList)) ∧ w' = w1) := fun w1 => Tryz.strings_HasPrefix s _ w1
  have HM : Hid (mayB s = (okPath s && !jB s)) := rfl
  generalize mayB s = r at *
  generalize okPath s = o at *
  generalize jB s = j at *
  generalize Lib.hasPrefix s.data.toList jS.data.toList = q at *
  generalize readE newAb.D s = c at *
  generalize readT newAb.D s = t at *
  clear h hm hs hjn
  cases hc : (c == 12)
  · have HF : Hid (r = false) := by unfold Hid; rw [HM.out, ← HE.out, hc]; rfl
    clear HE HJ HM
    go_enter Tryz.func99, Tryz.ntmps99
    go_wp2_with (first
      | (go_at_call 27; refine HR.out.mono ?_; rintro e w1 ⟨rfl, hb1⟩; have HB1 := hide3 hb1; clear hb1)
      | (go_at_call 96; refine (HP.out _).mono ?_; rintro e w2 ⟨rfl, rfl⟩))
    go_ret
    exact ⟨ret_bool HF.out.symm, HB1.out⟩
  · cases hs1 : (s.toList == [47, 106, 111, 117, 114, 110, 97, 108])
    · have hs2 : (s.toList != [47, 106, 111, 117, 114, 110, 97, 108]) = true := by unfold bne; rw [hs1]; rfl
      have HF : Hid (r = !q) := by unfold Hid; rw [HM.out, ← HE.out, hc, HJ.out, hs1]; rfl
      clear HE HJ HM
      go_enter Tryz.func99, Tryz.ntmps99
      go_wp2_with (first
        | (go_at_call 27; refine HR.out.mono ?_; rintro e w1 ⟨rfl, hb1⟩; have HB1 := hide3 hb1; clear hb1)
        | (go_at_call 96; refine (HP.out _).mono ?_; rintro e w2 ⟨rfl, rfl⟩))
      go_ret
      exact ⟨ret_bool HF.out.symm, HB1.out⟩
    · have hs2 : (s.toList != [47, 106, 111, 117, 114, 110, 97, 108]) = false := by unfold bne; rw [hs1]; rfl
      have HF : Hid (r = false) := by unfold Hid; rw [HM.out, HJ.out, hs1]; cases o <;> rfl
      clear HE HJ HM
      go_enter Tryz.func99, Tryz.ntmps99
      go_wp2_with (first
        | (go_at_call 27; refine HR.out.mono ?_; rintro e w1 ⟨rfl, hb1⟩; have HB1 := hide3 hb1; clear hb1)
        | (go_at_call 96; refine (HP.out _).mono ?_; rintro e w2 ⟨rfl, rfl⟩))
      go_ret
      exact ⟨ret_bool HF.out.symm, HB1.out⟩

theorem mayData_any (k : Int) (p t : ByteArray) (w : World) :
    Calls Tryz.prog 100 #[.agg #[.int .i64 k, .string p, .string t]] w fun e w' => e = .returned (.bool (k == 4 || t.toList == [])) ∧ Below w.heap.size w w' := by
  have HB : Hid (Below w.heap.size w (w.alloc (.cells #[.int .i64 k, .string p, .string t] 54))) := (Below.refl _ _).alloc (Nat.le_refl _) _
  cases h4 : (k == 4)
  · cases ht : (t.toList == [])
    all_goals
      go_enter Tryz.func100, Tryz.ntmps100
      go_wp2
      go_ret
      exact ⟨rfl, HB.out⟩
  · go_enter Tryz.func100, Tryz.ntmps100
    go_wp2
    go_ret
    exact ⟨rfl, HB.out⟩

/-- May a deed of that kind be of a path whose last deed was of the other kind? -/
def followB (m k : Int) : Bool := if (m == 0) = true then true else if (m == 1) = true then k == 3 else if (m == 2) = true then k == 4 else false
theorem mayFollow_any (m k : Int) (w : World) : Calls Tryz.prog 101 #[.int .i64 m, .int .i64 k] w fun e w' => e = .returned (.bool (followB m k)) ∧ Below w.heap.size w w' := by
  unfold followB
  cases h0 : (m == 0)
  · cases h1 : (m == 1)
    · cases h2 : (m == 2)
      all_goals
        go_enter Tryz.func101, Tryz.ntmps101
        go_wp2
        go_ret
        exact ⟨rfl, Below.refl _ _⟩
    · go_enter Tryz.func101, Tryz.ntmps101
      go_wp2
      go_ret
      exact ⟨rfl, Below.refl _ _⟩
  · go_enter Tryz.func101, Tryz.ntmps101
    go_wp2
    go_ret
    exact ⟨rfl, Below.refl _ _⟩

/-- The kind of the last deed at a path; 0: there is none. -/
def lastK (l : List De) (s : ByteArray) : Int := l.foldl (fun m d => if (d.pa.toList == s.toList) = true then d.kd else m) 0
theorem lastK_snoc (l : List De) (d : De) (s : ByteArray) : lastK (l ++ [d]) s = if (d.pa.toList == s.toList) = true then d.kd else lastK l s := by
  unfold lastK
  rw [List.foldl_append]
  rfl
/-- What was met, of a path. -/
theorem met_is {l : List De} (s : ByteArray) : ∀ k, k ≤ l.length → (∀ j (hj : j < l.length), j < k → okDe (l.take j) l[j] = true) →
    ((l.take k).countP (atP s) = 0 ∧ lastK (l.take k) s = 0) ∨ ((l.take k).countP (atP s) = 1 ∧ ∃ x, 1 ≤ x ∧ x ≤ 4 ∧ lastK (l.take k) s = x ∧ (∃ b ∈ l.take k, atP s b = true) ∧ ∀ b ∈ l.take k, atP s b = true → b.kd = x) ∨ (2 ≤ (l.take k).countP (atP s) ∧ (lastK (l.take k) s = 3 ∨ lastK (l.take k) s = 4)) := by
  intro k
  induction k with
  | zero => intro _ _; exact Or.inl ⟨rfl, rfl⟩
  | succ k ih =>
    intro hk hall
    have hlt : k < l.length := by omega
    have ih := ih (by omega) fun j hj h => hall j hj (by omega)
    have hok := hall k hlt (by omega)
    rw [List.take_succ_eq_append_getElem hlt, List.countP_append, lastK_snoc]
    obtain ⟨h1, h4, _, _⟩ := okDe_parts hok
    cases hp : (l[k].pa.toList == s.toList)
    · have hp2 : atP s l[k] = false := hp
      rw [List.countP_cons, List.countP_nil, hp2]
      simp only [Bool.false_eq_true, if_false, Nat.add_zero]
      rcases ih with h | ⟨hc, x, hx1, hx4, hx, ⟨b0, hb0, hb1⟩, hb⟩ | h
      · exact Or.inl h
      · refine Or.inr (Or.inl ⟨hc, x, hx1, hx4, hx, ⟨b0, List.mem_append_left _ hb0, hb1⟩, fun b hm hq => ?_⟩)
        rcases List.mem_append.1 hm with q | q
        · exact hb b q hq
        · rw [List.mem_singleton.1 q, hp2] at hq; cases hq
      · exact Or.inr (Or.inr h)
    · have hp2 : atP s l[k] = true := hp
      rw [List.countP_cons, List.countP_nil, hp2]
      simp only [if_true]
      have hat : ∀ b, atP l[k].pa b = atP s b := fun b => by unfold atP; rw [beq_iff_eq.1 hp]
      have hfun : atP l[k].pa = atP s := funext hat
      unfold okDe at hok
      simp only [Bool.and_eq_true, decide_eq_true_eq, List.all_eq_true] at hok
      have hpair := hok.2.1
      have hcnt := hok.2.2
      rw [hfun] at hcnt
      rcases ih with ⟨hc, _⟩ | ⟨hc, x, hx1, hx4, hx, ⟨b0, hb0, hb1⟩, hb⟩ | ⟨hc, _⟩
      · refine Or.inr (Or.inl ⟨by omega, l[k].kd, h1, h4, rfl, ⟨l[k], List.mem_append_right _ (List.mem_singleton.2 rfl), hp2⟩, fun b hm hq => ?_⟩)
        rcases List.mem_append.1 hm with q | q
        · rw [List.countP_eq_zero] at hc
          exact absurd hq (hc b q)
        · rw [List.mem_singleton.1 q]
      · refine Or.inr (Or.inr ⟨by omega, ?_⟩)
        have := hpair b0 hb0
        rw [hat, hb1] at this
        unfold pairB at this
        simp only [Bool.not_true, Bool.false_or, Bool.or_eq_true, Bool.and_eq_true, beq_iff_eq] at this
        omega
      · omega
theorem follow_is {l : List De} {k : Nat} (hk : k ≤ l.length) (hall : ∀ j (hj : j < l.length), j < k → okDe (l.take j) l[j] = true) (s : ByteArray) (c : Int) :
    followB (lastK (l.take k) s) c = (((l.take k).all fun a => !atP s a || pairB a.kd c) && decide ((l.take k).countP (atP s) ≤ 1)) := by
  rcases met_is s k hk hall with ⟨hc, hx⟩ | ⟨hc, x, hx1, hx4, hx, ⟨b0, hb0, hb1⟩, hb⟩ | ⟨hc, hx⟩
  · rw [hx, hc]
    rw [List.countP_eq_zero] at hc
    have : ((l.take k).all fun a => !atP s a || pairB a.kd c) = true := by
      rw [List.all_eq_true]
      intro b hm
      have := hc b hm
      rw [Bool.not_eq_true] at this
      rw [this]; rfl
    rw [this]; rfl
  · rw [hx, hc]
    have : ((l.take k).all fun a => !atP s a || pairB a.kd c) = pairB x c := by
      cases hq : pairB x c
      · rw [Bool.eq_false_iff]
        intro h
        rw [List.all_eq_true] at h
        have := h b0 hb0
        rw [hb1, hb b0 hb0 hb1, hq] at this
        cases this
      · rw [List.all_eq_true]
        intro b hm
        cases hbb : atP s b
        · rfl
        · rw [hb b hm hbb, hq]; rfl
    rw [this]
    obtain rfl | rfl | rfl | rfl : x = 1 ∨ x = 2 ∨ x = 3 ∨ x = 4 := by omega
    all_goals (unfold followB pairB; simp)
  · have : decide ((l.take k).countP (atP s) ≤ 1) = false := decide_eq_false (by omega)
    rw [this, Bool.and_false]
    rcases hx with hx | hx <;> (rw [hx]; rfl)

theorem hldI {v u : Value} {ps : List MemPlace} (h : hldR v = some (.held u, ps)) : v = u := by
  unfold hldR at h
  injection h with h
  injection h with h _
  injection h
/-- The map of what was met. -/
def MetAt (w : World) (M n : Nat) (l : List De) : Prop := ∃ D : DataW Value, w.ownsMap Tryz.prog 9 hldR M n D ∧ Maps.IsMap D ∧ ∀ s : ByteArray, D.atKey (keyF s) (.held (.int .i64 0)) = .held (.int .i64 (lastK l s))
theorem MetAt.lt {w : World} {M n : Nat} {l : List De} (h : MetAt w M n l) : M < w.heap.size := by
  obtain ⟨D, h1, _⟩ := h
  exact h1.lt
theorem MetAt.below {w w' : World} {M n : Nat} {l : List De} (h : MetAt w M n l) (hb : Below w.heap.size w w') : MetAt w' M n l := by
  have hl := h.lt
  obtain ⟨D, ⟨es, cl, h1, r⟩, h2⟩ := h
  exact ⟨D, ⟨es, cl, (hb.block M hl).trans h1, r⟩, h2⟩
theorem MetAt.new (w : World) : MetAt (w.alloc (.map #[] 0)) w.heap.size 0 [] :=
  ⟨.map [], World.ownsMap_made (H := Value) w Tryz.prog 9 hldR, ⟨[], rfl⟩, fun _ => rfl⟩
theorem zeroI (w : World) : (zeroValue 3).run Tryz.prog w = .ok (.int .i64 0) w := by kernel_rfl
theorem MetAt.look {w : World} {M n : Nat} {l : List De} (h : MetAt w M n l) {s : ByteArray} (hs : s.size ≤ maxLen) : (Instr.lookup 118 (.map (some M)) (.string s) false).run Tryz.prog w = .ok (.int .i64 (lastK l s)) w := by
  obtain ⟨D, h1, _, h2⟩ := h
  obtain ⟨v, ps, hr, hv⟩ := h1.lookup keyedF Tryz.underlying118 (zeroI w) (zd := .held (.int .i64 0)) (zp := []) rfl (keyOfF hs)
  rw [h2] at hv
  rw [hr, hldI hv]
theorem MetAt.put {w : World} {M n : Nat} {l : List De} (h : MetAt w M n l) (hn : n < maxLen) (d : De) (hs : d.pa.size ≤ maxLen) : ∃ w', (Instr.mapUpdate 118 (.map (some M)) (.string d.pa) (.int .i64 d.kd)).run Tryz.prog w = .ok () w' ∧ MetAt w' M (n + 1) (l ++ [d]) ∧ w.grownBy w' (some M) := by
  obtain ⟨D, h1, hm, h2⟩ := h
  obtain ⟨w', hr, ho, hg⟩ := h1.update keyedF Tryz.underlying118 hn (keyOfF hs) (val := .int .i64 d.kd) (d := .held (.int .i64 d.kd)) (ps := []) rfl
  refine ⟨w', hr, ⟨_, ho, by obtain ⟨es, rfl⟩ := hm; exact ⟨_, rfl⟩, fun u => ?_⟩, hg⟩
  rw [lastK_snoc]
  by_cases e : u = d.pa
  · subst e
    rw [Maps.atKey_put_same hm (isKeyF _), if_pos (beq_bytes.2 rfl)]
  · rw [Maps.atKey_put_other fun k => e (keyF_inj k), if_neg (fun q => e (beq_bytes.1 q).symm)]
    exact h2 u
end Go.Proofs.YtpaoimhebheaeaaGreatDoor
