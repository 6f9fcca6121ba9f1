/- Join of package scan: the walk. -/
import Derived.Test.YtefcndfeemnglaaGreatDoorScJo1
namespace Go.Proofs.YtefcndfeemnglaaGreatDoor.Sc
open Go.RowKit
set_option maxRecDepth 100000

theorem lineT_len : ∀ (ws : List Bs), 1 ≤ (lineT ws).length ∧ ws.length ≤ (lineT ws).length ∧ ∀ x ∈ ws, x.length ≤ (lineT ws).length
  | [] => ⟨by simp [lineT], by simp, fun x hx => by cases hx⟩
  | [w] => ⟨by simp [lineT], by simp [lineT], fun x hx => by rw [List.mem_singleton.1 hx]; simp [lineT]⟩
  | w :: q :: r => by
    obtain ⟨h1, h2, h3⟩ := lineT_len (q :: r)
    have e : lineT (w :: q :: r) = w ++ [32] ++ lineT (q :: r) := rfl
    rw [e]
    simp only [List.length_append, List.length_cons, List.length_nil] at *
    refine ⟨by omega, by omega, fun x hx => ?_⟩
    rcases List.mem_cons.1 hx with rfl | hx
    · omega
    · have := h3 x hx; omega
theorem textT_cons (l : List Bs) (L : List (List Bs)) : textT (l :: L) = lineT l ++ textT L := by simp [textT]
theorem textT_len : ∀ (L : List (List Bs)), L.length ≤ (textT L).length ∧ ∀ l ∈ L, (lineT l).length ≤ (textT L).length
  | [] => ⟨by simp, fun l hl => by cases hl⟩
  | l :: L => by
    obtain ⟨h1, h2⟩ := textT_len L
    have := (lineT_len l).1
    rw [textT_cons]
    simp only [List.length_append, List.length_cons]
    refine ⟨by omega, fun x hx => ?_⟩
    rcases List.mem_cons.1 hx with rfl | hx
    · omega
    · have := h2 x hx; omega
theorem textT_take (L : List (List Bs)) (k : Nat) : (textT (L.take k)).length ≤ (textT L).length := by
  have : textT L = textT (L.take k) ++ textT (L.drop k) := by
    unfold textT
    rw [← List.flatMap_append, List.take_append_drop]
  rw [this, List.length_append]; omega
theorem textT_more {L : List (List Bs)} {k : Nat} (h : k < L.length) : textT (L.take (k + 1)) = textT (L.take k) ++ lineT L[k] := by
  rw [List.take_succ_eq_append_getElem h, textT_snoc]

/-- What Join answers with. -/
def joiT (L : List (List Bs)) : ByteArray := if L.all isL = true then ba (textT L) else ⟨#[]⟩
def joiE (L : List (List Bs)) : Int := if L.all isL = true then 0 else 22
theorem joi_yes {L : List (List Bs)} (h : L.all isL = true) : joiT L = ba (textT L) ∧ joiE L = 0 := by unfold joiT joiE; rw [if_pos h, if_pos h]; exact ⟨rfl, rfl⟩
theorem joi_no {L : List (List Bs)} {l : List Bs} (hm : l ∈ L) (h : isL l = false) : joiT L = ⟨#[]⟩ ∧ joiE L = 22 := by
  have : L.all isL = false := by
    rw [Bool.eq_false_iff]
    intro ha
    rw [List.all_eq_true] at ha
    have := ha l hm
    rw [h] at this; cases this
  unfold joiT joiE
  rw [this]
  exact ⟨rfl, rfl⟩
theorem ret_join {a b : ByteArray} {x y : Int} (h1 : a = b) (h2 : x = y) : Ending.returned (.tuple #[.string a, .int .i64 x]) = .returned (.tuple #[.string b, .int .i64 y]) := by rw [h1, h2]

theorem Bld.new (w : World) : Bld w.heap.size w.heap.size [] (w.alloc (.cells #[.pointer none, .slice none 0 0] 91)) :=
  Or.inl ⟨Nat.le_refl _, .slice none 0 0, heap_alloc_new w _, ⟨rfl, Or.inl ⟨rfl, rfl⟩⟩, by simp [Value.ownBlock]⟩
theorem Bld.below {B b : Nat} {l : Bs} {w w' : World} (h : Bld B b l w) (hb : Below w.heap.size w w') : Bld B b l w' := by
  have key : ∀ {p : Value}, Lib.BuilderAt 91 5 B b p (Lib.byteCells l) w → Lib.BuilderAt 91 5 B b p (Lib.byteCells l) w' := by
    rintro p ⟨h1, v, h2, h3, h4⟩
    refine ⟨h1, v, (hb.block b (Array.getElem?_eq_some_iff.1 h2).1).trans h2, ⟨h3.1, ?_⟩, h4⟩
    rcases h3.2 with hn | ⟨g, cap, cur, hv, hB, hg, r⟩
    · exact Or.inl hn
    · exact Or.inr ⟨g, cap, cur, hv, hB, (hb.block g (Array.getElem?_eq_some_iff.1 hg).1).trans hg, r⟩
  exact h.imp key key

set_option maxHeartbeats 3200000 in
theorem Join_any {L : List (List Bs)} (hT : (textT L).length ≤ 4194304) {v : Value} {w : World} (hv : LinesAt w v L) :
    Calls Tryz.prog 29 #[v] w fun e w' => e = .returned (.tuple #[.string (joiT L), .int .i64 (joiE L)]) ∧ Below w.heap.size w w' := by
  have hLl := (textT_len L).1
  have HV := hide3 hv
  obtain ⟨ad, cap, rfl, hcap, _⟩ := hv
  have HN := hide3 (Bld.new w)
  go_enter Tryz.func29, Tryz.ntmps29
  go_wp2
  go_loopw [9] (fun i wr => ∃ k : Nat, k ≤ L.length ∧ i = .int .i64 k ∧ (L.take k).all isL = true ∧ Bld w.heap.size w.heap.size (textT (L.take k)) wr ∧ Below w.heap.size w wr) (fun i _ => L.length - (intOf i).toNat)
  case atStart => exact ⟨0, Nat.zero_le _, rfl, rfl, HN.out, boxB _ _⟩
  case round =>
    obtain ⟨k, hk, rfl, hal, hbd, hbe⟩ := hrel
    have HA := hide3 hal
    have HB := hide3 hbd
    have HE := hide3 hbe
    clear hal hbd hbe HN
    have hze := HE.out.size
    by_cases hlt : k < L.length
    · obtain ⟨u, g, o, had, hg, hcell, hwu⟩ : ∃ u g o, ad = some ⟨g, o, none⟩ ∧ g < wr.heap.size ∧ wr.cell? ⟨g, o + k, none⟩ = some u ∧ WordsAt wr u L[k] := by
        obtain ⟨ad', cap', hq, _, hl⟩ := HV.out.below HE.out
        cases hq
        rcases hl with rfl | ⟨g, o, h1, h2, h3⟩
        · simp at hlt
        · obtain ⟨u, h4, h5⟩ := h3 k hlt
          exact ⟨u, g, o, h1, h2, h4, h5⟩
      subst had
      have hll := lineT_len L[k]
      have hlm := (textT_len L).2 _ (List.getElem_mem hlt)
      have hmore := textT_more hlt
      have hml := textT_take L (k + 1)
      have HWU := hide3 hwu
      have HML := hide3 (mayLine_any (w := wr) ⟨by omega, fun x hx => by have := hll.2.2 x hx; omega⟩ hwu)
      have htk : L.take (k + 1) = L.take k ++ [L[k]] := List.take_succ_eq_append_getElem hlt
      obtain ⟨bd, cap2, rfl, _, _⟩ := hwu
      cases hw : isL L[k]
      · have HR := hide3 (joi_no (List.getElem_mem hlt) hw)
        rw [hw] at HML
        clear hw htk hmore hml hll hlm HWU
        go_wp2_with (go_at_call 46; refine HML.out.mono ?_; rintro e w1 ⟨rfl, hw1⟩; subst hw1)
        go_ret2
        exact ⟨ret_join HR.out.1.symm HR.out.2.symm, HE.out⟩
      · have hne : L[k] ≠ [] := by intro e; rw [e] at hw; cases hw
        have HA2 : Hid ((L.take (k + 1)).all isL = true) := by unfold Hid; rw [htk, List.all_append, HA.out]; simp [hw]
        have hjl := join_line hne
        have hjn : (Lib.join L[k] [32]).length + 1 = (lineT L[k]).length := by rw [← hjl]; simp
        have hml2 : (textT (L.take k)).length + (lineT L[k]).length ≤ 4194304 := by rw [hmore, List.length_append] at hml; omega
        have HT : Hid (textT (L.take (k + 1)) = textT (L.take k) ++ Lib.join L[k] [32] ++ [10]) := by unfold Hid; rw [hmore, ← hjl]; simp
        have HJ := hide3 (wJoin_any hne (by omega) (by omega) HWU.out)
        have HX : Hid (∀ w1 : World, Bld w.heap.size w.heap.size (textT (L.take k)) w1 → w.heap.size ≤ w1.heap.size → Calls Tryz.prog 47 #[.pointer (some ⟨w.heap.size, 0, none⟩), .string (ba (Lib.join L[k] [32]))] w1 fun e w' => ∃ n, e = .returned (.tuple #[.int .i64 n, .nilIface]) ∧ Bld w.heap.size w.heap.size (textT (L.take k) ++ Lib.join L[k] [32]) w' ∧ Below w.heap.size w1 w') := by
          intro w1 h1 h2
          refine (putText (ba (Lib.join L[k] [32])) h1 (by rw [ba_size]; omega) h2).mono ?_
          rintro e w' ⟨rfl, h3, h4⟩
          rw [ba_list] at h3
          exact ⟨_, rfl, h3, h4⟩
        have HY : Hid (∀ w1 : World, Bld w.heap.size w.heap.size (textT (L.take k) ++ Lib.join L[k] [32]) w1 → w.heap.size ≤ w1.heap.size → Calls Tryz.prog 49 #[.pointer (some ⟨w.heap.size, 0, none⟩), .int .u8 10] w1 fun e w' => e = .returned .nilIface ∧ Bld w.heap.size w.heap.size (textT (L.take k) ++ Lib.join L[k] [32] ++ [10]) w' ∧ Below w.heap.size w1 w') := by
          intro w1 h1 h2
          exact putByte 10 h1 (by rw [List.length_append]; omega) h2
        rw [hw] at HML
        clear hw htk hmore hml hll hlm HWU hjl hjn hml2 hne
        generalize ba (Lib.join L[k] [32]) = tx at *
        go_wp2_with (first
          | (go_at_call 46; refine HML.out.mono ?_; rintro e w1 ⟨rfl, hw1⟩; subst hw1)
          | (go_at_call 48; refine HJ.out.mono ?_; rintro e w3 ⟨rfl, hb3⟩; have HB3 := hide3 (HB.out.below hb3); have HE3 : Hid (Below w.heap.size w w3) := below_then HE.out hb3; clear hb3)
          | (go_at_call 47; refine (HX.out _ HB3.out HE3.out.size).mono ?_; rintro e w4 ⟨n4, rfl, hb4, he4⟩; have HB4 := hide3 hb4; have HE4 : Hid (Below w.heap.size w w4) := HE3.out.trans he4; clear hb4 he4)
          | (go_at_call 49; refine (HY.out _ HB4.out HE4.out.size).mono ?_; rintro e w5 ⟨rfl, hb5, he5⟩; have HB5 := hide3 hb5; have HE5 : Hid (Below w.heap.size w w5) := HE4.out.trans he5; clear hb5 he5))
        exact ⟨⟨k + 1, by omega, by go_num, HA2.out, by rw [HT.out]; exact HB5.out, HE5.out⟩, by simp [intOf]; omega⟩
    · have hke : k = L.length := by omega
      subst hke
      have HR : Hid (joiT L = ba (textT L) ∧ joiE L = 0) := joi_yes (by have := HA.out; rw [List.take_length] at this; exact this)
      have HS : Hid (Calls Tryz.prog 50 #[.pointer (some ⟨w.heap.size, 0, none⟩)] wr fun e w' => e = .returned (.string (ba (textT L))) ∧ Below w.heap.size wr w') := by
        have := HB.out
        rw [List.take_length] at this
        exact Tryz.Builder_String_any w.heap.size w.heap.size (textT L) wr this hze
      go_wp2_with (go_at_call 50; refine HS.out.mono ?_; rintro e w3 ⟨rfl, hb3⟩; have HE3 : Hid (Below w.heap.size w w3) := HE.out.trans hb3; clear hb3)
      go_ret2
      exact ⟨ret_join HR.out.1.symm HR.out.2.symm, HE3.out⟩
end Go.Proofs.YtefcndfeemnglaaGreatDoor.Sc
