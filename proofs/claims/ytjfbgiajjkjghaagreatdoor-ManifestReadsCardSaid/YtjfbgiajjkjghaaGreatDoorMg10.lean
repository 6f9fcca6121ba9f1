/- Pk8, Mf2, Pk9, Pk10, Rd1, laid in one text. -/
import Derived.Test.YtjfbgiajjkjghaaGreatDoorMg09
namespace Go.Proofs.YtjfbgiajjkjghaaGreatDoor
open Go.RowKit
set_option maxRecDepth 100000

set_option maxHeartbeats 6400000 in
theorem Write_any {w1 wz : World} {l : Sc.Bs} {v : Value} {L : List Dp} {x : ByteArray} (h : TW w1 l wz) (hd : DepsAt w1 v L) (hm : mayD L = true) (he : Env w1) (hf : FL w1) (hx : x.size ≤ 16) (hl : l.length ≤ 1000000) :
    Calls Tryz.prog 31 #[.pointer (some ⟨w1.heap.size, 0, none⟩), .string x, v] wz fun e w' => e = .returned (.tuple #[]) ∧ TW w1 (l ++ listT x L) w' ∧ FarB w1.heap.size wz w' := by
  have HD : Hid (∀ w', Below w1.heap.size w1 w' → DepsAt w' v L) := fun w' hb => hd.below hb
  have HSP : Hid (∀ w2 u (R : List Sp), Below w1.heap.size w1 w2 → rangeB R = true → SpansC w2 u R → Calls Tryz.prog 50 #[u] w2 fun e w' => e = .returned (.string (prS R)) ∧ Below w2.heap.size w2 w') := fun w2 u R hb hr hu => sPrint_sp hr hu (he.below hb) (hf.below hb)
  have HAll : Hid (∀ d ∈ L, d.nm.size ≤ 16 ∧ rangeB d.rg = true) := by
    have := hm
    unfold mayD at this
    rw [Bool.and_eq_true] at this
    exact rise_all this.2
  have HLN := hide3 (list_len hx hm)
  have h16 := (short_may hm).1
  have HPU : Hid (∀ (l1 : Sc.Bs) w2 (s : ByteArray) (N : Nat) (bx : Obj), (TW w1 l1 w2 ∧ FarB w1.heap.size wz w2) ∧ (w2.heap[N]? = some bx ∧ (∃ cs, bx = .cells cs 36 (0, 0)) ∧ w1.heap.size < N) → l1.length ≤ 2000000 → s.size ≤ 1000000 → Calls Tryz.prog 30 #[.pointer (some ⟨w1.heap.size, 0, none⟩), .string s] w2 fun e w' => e = .returned (.tuple #[.int .i64 s.size, .nilIface]) ∧ (TW w1 (l1 ++ s.data.toList) w' ∧ FarB w1.heap.size wz w') ∧ (w'.heap[N]? = some bx ∧ (∃ cs, bx = .cells cs 36 (0, 0)) ∧ w1.heap.size < N)) := fun l1 w2 s N bx h1 h2 h3 => by
    refine (h1.1.1.put s (by omega) h3).mono ?_
    rintro e w' ⟨rfl, g1, g2⟩
    obtain ⟨cs, rfl⟩ := h1.2.2.1
    exact ⟨rfl, ⟨g1, h1.1.2.trans g2⟩, g2 _ _ _ _ h1.2.1 (by decide) (by have := h1.2.2.2; omega), ⟨cs, rfl⟩, h1.2.2.2⟩
  have HT0 : Hid (TW w1 l wz ∧ FarB w1.heap.size wz wz) := ⟨h, FarB.refl _ _⟩
  obtain ⟨ad, cap, rfl, hcp⟩ := hd.len
  clear hd hm he hf h
  go_enter Tryz.func31, Tryz.ntmps31
  go_wp2_with fail
  go_loopw [10] (fun j wq => ∃ m : Nat, m ≤ L.length ∧ j = .int .i64 m ∧ TW w1 (l ++ listT x (L.take m)) wq ∧ FarB w1.heap.size wz wq) (fun j _ => L.length - (intOf j).toNat)
  case atStart => exact ⟨0, Nat.zero_le _, rfl, by have := HT0.out; simpa [listT] using this⟩
  case round =>
    clear HT0
    obtain ⟨m, hm, rfl, htq⟩ := hrel
    have HTQ := hide3 htq
    by_cases hlt : m < L.length
    · obtain ⟨ad', cap', e, _, hcs⟩ := HD.out wr htq.1.2
      cases e
      obtain ⟨g, o, rfl, hg, hcs⟩ : ∃ g o, ad = some ⟨g, o, none⟩ ∧ g < wr.heap.size ∧ ∀ i (h : i < L.length), ∃ u, DpIn wr g (o + i * 2) L[i] u := by
        rcases hcs with h | h
        · rw [h] at hlt; simp at hlt
        · exact h
      obtain ⟨u, p0, p1, ⟨hu, _⟩, p3⟩ := hcs m hlt
      obtain ⟨au, cu, rfl⟩ := hu.1.sl
      obtain ⟨hnz2, hrb⟩ := HAll.out _ (List.getElem_mem hlt)
      have hpz := prS_size hrb
      have HSN := hide3 (listT_snoc (x := x) hlt)
      have hpl : (l ++ listT x (L.take m)).length ≤ 1100000 := by
        have h1 := HLN.out m
        rw [List.length_append]
        omega
      have HUS : Hid (SpansC (wr.alloc (.cells #[.string L[m].nm, .slice au L[m].rg.length cu] 36)) (.slice au L[m].rg.length cu) L[m].rg) := ⟨hu.1.below (boxB _ _), hu.2⟩
      have HUB : Hid (g < wr.heap.size) := hg
      have HSPd := hide3 (fun w' (hb : Below w1.heap.size w1 w') (hc : SpansC w' (.slice au L[m].rg.length cu) L[m].rg) => HSP.out w' _ _ hb hrb hc)
      have HO0 : Hid ((TW w1 (l ++ listT x (L.take m)) (wr.alloc (.cells #[.string L[m].nm, .slice au L[m].rg.length cu] 36)) ∧ FarB w1.heap.size wz (wr.alloc (.cells #[.string L[m].nm, .slice au L[m].rg.length cu] 36))) ∧ ((wr.alloc (.cells #[.string L[m].nm, .slice au L[m].rg.length cu] 36)).heap[wr.heap.size]? = some (.cells #[.string L[m].nm, .slice au L[m].rg.length cu] 36 (0, 0)) ∧ (∃ cs, (Obj.cells #[.string L[m].nm, .slice au L[m].rg.length cu] 36 (0, 0)) = .cells cs 36 (0, 0)) ∧ w1.heap.size < wr.heap.size)) := by
        refine ⟨⟨keepTW _ _ _ _ htq.1 (boxB _ _), htq.2.trans (FarB.below (boxB _ _))⟩, ?_, ⟨_, rfl⟩, htq.1.far⟩
        show (wr.heap.push _)[wr.heap.size]? = _
        rw [Array.getElem?_push, if_pos rfl]
      have HUK : Hid (KeepP fun w' => SpansC w' (.slice au L[m].rg.length cu) L[m].rg) := fun _ _ h hb => ⟨h.1.below hb, h.2⟩
      have HUW : Hid (∀ w', Below w1.heap.size w1 w' → SpansC w' (.slice au L[m].rg.length cu) L[m].rg) := fun w' hb => by
        obtain ⟨ad2, cap2, e2, _, hcs2⟩ := HD.out w' hb
        cases e2
        rcases hcs2 with h2 | ⟨g2, o2, e3, hg2, hcs2⟩
        · rw [h2] at hlt; simp at hlt
        · cases e3
          obtain ⟨u2, q0, q1, ⟨hu2, _⟩, q3⟩ := hcs2 m hlt
          obtain ⟨ad3, cap3, e4, _, hcs3⟩ := HD.out w1 (Below.refl _ _)
          cases e4
          rcases hcs3 with h4 | ⟨g4, o4, e5, hg4, hcs4⟩
          · rw [h4] at hlt; simp at hlt
          · cases e5
            obtain ⟨u5, r0, r1, _, _⟩ := hcs4 m hlt
            have t1 := (hb.cell (p := ⟨g, o + m * 2 + 1, none⟩) hg4).trans r1
            have t2 := (HTQ.out.1.2.cell (p := ⟨g, o + m * 2 + 1, none⟩) hg4).trans r1
            rw [q1] at t1
            rw [p1] at t2
            cases t1
            cases t2
            exact hu2
      clear hcs hu htq
      generalize prS L[m].rg = rt at *
      generalize L[m].rg.length = lu at *
      generalize L[m].nm = s at *
      generalize hlm : l ++ listT x (L.take m) = lm at *
      have HLM := hide3 hlm
      clear hlm
      have l1 : (lm ++ x.data.toList).length ≤ 1100016 := by rw [List.length_append, list_size]; omega
      have l2 : (lm ++ x.data.toList ++ [32]).length ≤ 1100017 := by rw [List.length_append]; simp at l1 ⊢; omega
      have l3 : (lm ++ x.data.toList ++ [32] ++ s.data.toList).length ≤ 1100033 := by rw [List.length_append, list_size]; omega
      have l4 : (lm ++ x.data.toList ++ [32] ++ s.data.toList ++ [32]).length ≤ 1100034 := by rw [List.length_append]; simp at l3 ⊢; omega
      have l5 : (lm ++ x.data.toList ++ [32] ++ s.data.toList ++ [32] ++ rt.data.toList).length ≤ 1200000 := by rw [List.length_append, list_size]; omega
      go_wp2_with (first
        | (have _h := HO0; go_at_call 30; refine (HPU.out _ _ x _ _ HO0.out (by omega) (by omega)).mono ?_; rintro e w2 ⟨rfl, ok⟩; have HO1 := hide3 ok; clear ok HO0)
        | (have _h := HO1; go_at_call 30; refine (HPU.out _ _ ⟨#[32]⟩ _ _ HO1.out (Nat.le_trans l1 (by decide)) (by decide)).mono ?_; rintro e w3 ⟨rfl, ok⟩; have HO2 := hide3 ok; clear ok HO1; have d0 : w3.cell? ⟨wr.heap.size, 0, none⟩ = some (.string s) := (by rw [Lib.cell_of_heap HO2.out.2.1]; rfl))
        | (have _h := HO2; go_at_call 30; refine (HPU.out _ _ s _ _ HO2.out (Nat.le_trans l2 (by decide)) (by omega)).mono ?_; rintro e w4 ⟨rfl, ok⟩; have HO3 := hide3 ok; clear ok HO2 d0)
        | (have _h := HO3; go_at_call 30; refine (HPU.out _ _ ⟨#[32]⟩ _ _ HO3.out (Nat.le_trans l3 (by decide)) (by decide)).mono ?_; rintro e w5 ⟨rfl, ok⟩; have HO4 := hide3 ok; clear ok HO3; have d1 : w5.cell? ⟨wr.heap.size, 1, none⟩ = some (.slice au lu cu) := (by rw [Lib.cell_of_heap HO4.out.2.1]; rfl))
        | (have _h := HO4; go_at_call 50; refine (HSPd.out _ HO4.out.1.1.2 (HUW.out _ HO4.out.1.1.2)).mono ?_; rintro e w6 ⟨rfl, ok⟩; have HO5 : Hid ((TW w1 (lm ++ x.data.toList ++ [32] ++ s.data.toList ++ [32]) w6 ∧ FarB w1.heap.size wz w6) ∧ (w6.heap[wr.heap.size]? = some (.cells #[.string s, .slice au lu cu] 36 (0, 0)) ∧ (∃ cs, (Obj.cells #[.string s, .slice au lu cu] 36 (0, 0)) = .cells cs 36 (0, 0)) ∧ w1.heap.size < wr.heap.size)) := ⟨⟨keepTW _ _ _ _ HO4.out.1.1 ok, HO4.out.1.2.trans (FarB.below ok)⟩, (ok.block wr.heap.size (Array.getElem?_eq_some_iff.1 HO4.out.2.1).1).trans HO4.out.2.1, HO4.out.2.2⟩; clear ok HO4 d1)
        | (have _h := HO5; go_at_call 30; refine (HPU.out _ _ rt _ _ HO5.out (Nat.le_trans l4 (by decide)) (by omega)).mono ?_; rintro e w7 ⟨rfl, ok⟩; have HO6 := hide3 ok; clear ok HO5)
        | (have _h := HO6; go_at_call 30; refine (HPU.out _ _ ⟨#[10]⟩ _ _ HO6.out (Nat.le_trans l5 (by decide)) (by decide)).mono ?_; rintro e w8 ⟨rfl, ok⟩; have HO7 := hide3 ok; clear ok HO6))
      refine ⟨⟨m + 1, by omega, by go_num, ?_, HO7.out.1.2⟩, by simp [intOf]; omega⟩
      have e : l ++ listT x (L.take (m + 1)) = lm ++ x.data.toList ++ [32] ++ s.data.toList ++ [32] ++ rt.data.toList ++ [10] := by rw [HSN.out, ← HLM.out]; unfold lineB; simp
      rw [e]
      exact HO7.out.1.1
    · have HTN : Hid (TW w1 (l ++ listT x L) wr ∧ FarB w1.heap.size wz wr) := by
        have := HTQ.out
        rw [List.take_of_length_le (by omega)] at this
        exact this
      clear htq
      go_wp2
      go_end0
      exact ⟨rfl, HTN.out.1, HTN.out.2⟩
end Go.Proofs.YtjfbgiajjkjghaaGreatDoor
namespace Go.Proofs.YtjfbgiajjkjghaaGreatDoor
open Go.RowKit
set_option maxRecDepth 100000

/-- The words of the lines. -/
def mwK : Nat → ByteArray
  | 0 => ⟨#[110, 101, 101, 100, 115]⟩
  | 1 => ⟨#[100, 101, 118]⟩
  | 2 => ⟨#[108, 105, 107, 101, 115]⟩
  | _ => ⟨#[112, 105, 110, 115]⟩
theorem mw_size (k : Nat) : (mwK k).size ≤ 16 := by
  match k with
  | 0 | 1 | 2 => decide
  | _ + 3 => show (⟨#[112, 105, 110, 115]⟩ : ByteArray).size ≤ 16; decide
/-- The text so far, ahead of list k; a manifest's text. -/
def preM (P : Mn) : Nat → Sc.Bs
  | 0 => [112, 114, 111, 106, 101, 99, 116, 10]
  | 1 => [112, 114, 111, 106, 101, 99, 116, 10] ++ listT (mwK 0) P.d
  | 2 => [112, 114, 111, 106, 101, 99, 116, 10] ++ listT (mwK 0) P.d ++ listT (mwK 1) P.v
  | 3 => [112, 114, 111, 106, 101, 99, 116, 10] ++ listT (mwK 0) P.d ++ listT (mwK 1) P.v ++ listT (mwK 2) P.o
  | _ => [112, 114, 111, 106, 101, 99, 116, 10] ++ listT (mwK 0) P.d ++ listT (mwK 1) P.v ++ listT (mwK 2) P.o ++ listT (mwK 3) P.p
def textM (P : Mn) : Sc.Bs := preM P 4
noncomputable def writtenMB (P : Mn) : Bool := soundM P && decide ((textM P).length ≤ 4096)
noncomputable def writtenMT (P : Mn) : ByteArray := if writtenMB P = true then ⟨(textM P).toArray⟩ else ⟨#[]⟩

set_option maxHeartbeats 6400000 in
theorem writtenM_sound {P : Mn} {v1 v2 v3 v4 : Value} {w : World} (h : MnAt w P v1 v2 v3 v4) (he : Env w) (hf : FL w) (hsd : soundM P = true) :
    Calls Tryz.prog 17 #[.agg #[v1, v2, v3, v4]] w fun e w' => e = .returned (.tuple #[.string (writtenMT P), .bool (writtenMB P)]) ∧ Below w.heap.size w w' := by
  have HSO : Hid (∀ w1, Below w.heap.size w w1 → Calls Tryz.prog 29 #[.agg #[v1, v2, v3, v4]] w1 fun e w' => e = .returned (.bool true) ∧ Below w1.heap.size w1 w') := fun w1 hb => by have := sound_mf (h.below hb); rw [hsd] at this; exact this
  have hs := hsd
  unfold soundM at hs
  simp only [Bool.and_eq_true] at hs
  obtain ⟨⟨hd, hv, ho, hp⟩, _⟩ := hs
  have HPG : Hid (∀ w1, Below w.heap.size w w1 → MnAt w1 P v1 v2 v3 v4) := fun w1 hb => h.below hb
  have HMD : Hid (mayD P.d = true ∧ mayD P.v = true ∧ mayD P.o = true ∧ mayD P.p = true) := ⟨hd, hv, ho, hp⟩
  have HF0 := hide3 (list_len (mw_size 0) hd P.d.length)
  have HF1 := hide3 (list_len (mw_size 1) hv P.v.length)
  have HF2 := hide3 (list_len (mw_size 2) ho P.o.length)
  rw [List.take_length] at HF0 HF1 HF2
  have HWB : Hid (writtenMB P = decide ((textM P).length ≤ 4096)) := by unfold Hid writtenMB; rw [hsd]; rfl
  have HPT : Hid (preM P 4 = textM P) := rfl
  obtain ⟨a1, c1, rfl⟩ := h.1.sl
  obtain ⟨a2, c2, rfl⟩ := h.2.1.sl
  obtain ⟨a3, c3, rfl⟩ := h.2.2.1.sl
  obtain ⟨a4, c4, rfl⟩ := h.2.2.2.sl
  have HLI : Hid (∀ w1, Calls Tryz.prog 22 #[.agg #[.slice a1 P.d.length c1, .slice a2 P.v.length c2, .slice a3 P.o.length c3, .slice a4 P.p.length c4]] w1 fun e w' => ∃ g, e = .returned (.slice (some ⟨g, 0, none⟩) 4 4) ∧ Below w1.heap.size w1 w' ∧ w1.heap.size ≤ g ∧ w'.heap[g]? = some (listsO (.slice a1 P.d.length c1) (.slice a2 P.v.length c2) (.slice a3 P.o.length c3) (.slice a4 P.p.length c4))) := fun w1 => lists_mf _ _ _ _ _ _ _ _ _ _ _ _ w1
  have HLE : Hid (∀ w1 l w', TW w1 l w' → Calls Tryz.prog 32 #[.pointer (some ⟨w1.heap.size, 0, none⟩)] w' fun e w2 => e = .returned (.int .i64 l.length) ∧ w2 = w') := fun w1 l w' h => Len_any h.1
  have HST : Hid (∀ w1 l w', TW w1 l w' → Calls Tryz.prog 33 #[.pointer (some ⟨w1.heap.size, 0, none⟩)] w' fun e w2 => e = .returned (.string ⟨l.toArray⟩) ∧ Below w1.heap.size w' w2) := fun w1 l w' h => Tryz.Builder_String_any _ _ l w' h.1 h.2.size
  have HWR : Hid (∀ w1, Below w.heap.size w w1 → ∀ (l : Sc.Bs) wz (x : ByteArray) v L, TW w1 l wz → DepsAt w1 v L → mayD L = true → x.size ≤ 16 → l.length ≤ 1000000 → Calls Tryz.prog 31 #[.pointer (some ⟨w1.heap.size, 0, none⟩), .string x, v] wz fun e w' => e = .returned (.tuple #[]) ∧ TW w1 (l ++ listT x L) w' ∧ FarB w1.heap.size wz w') := fun w1 hb l wz x v L h1 h2 h3 h4 h5 => Write_any h1 h2 h3 (he.below hb) (hf.below hb) h4 h5
  have HPU : Hid (∀ w1 (l : Sc.Bs) wz (s : ByteArray), TW w1 l wz → l.length ≤ 1000000 → s.size ≤ 1000000 → Calls Tryz.prog 30 #[.pointer (some ⟨w1.heap.size, 0, none⟩), .string s] wz fun e w' => e = .returned (.tuple #[.int .i64 s.size, .nilIface]) ∧ TW w1 (l ++ s.data.toList) w' ∧ FarB w1.heap.size wz w') := fun w1 l wz s h1 h2 h3 => h1.put s (by omega) h3
  clear h he hf hsd hd hv ho hp
  have HBX : Hid (BxM (w.alloc (.cells #[.slice a1 P.d.length c1, .slice a2 P.v.length c2, .slice a3 P.o.length c3, .slice a4 P.p.length c4] 24)) w.heap.size (.slice a1 P.d.length c1) (.slice a2 P.v.length c2) (.slice a3 P.o.length c3) (.slice a4 P.p.length c4)) := BxM.new rfl _ _ _ _
  have HKB : Hid (KeepP fun w1 => BxM w1 w.heap.size (.slice a1 P.d.length c1) (.slice a2 P.v.length c2) (.slice a3 P.o.length c3) (.slice a4 P.p.length c4)) := keepBxM _ _ _ _ _
  go_enter Tryz.func17, Tryz.ntmps17
  go_wp2_with (first
    | (go_at_call 29; refine (HSO.out _ (boxB _ _)).mono ?_; rintro e w1 ⟨rfl, ok⟩; have HO1 : Hid (Below w.heap.size w w1 ∧ BxM w1 w.heap.size (.slice a1 P.d.length c1) (.slice a2 P.v.length c2) (.slice a3 P.o.length c3) (.slice a4 P.p.length c4)) := ⟨below_then (boxB _ _) ok, HKB.out _ _ HBX.out ok⟩; have HT0 : Hid (TW w1 [] (w1.alloc (.cells #[.pointer none, .slice none 0 0] 63))) := TW.new w1; clear ok HBX)
    | (go_at_call 30; refine (HPU.out w1 [] _ ⟨#[112, 114, 111, 106, 101, 99, 116, 10]⟩ HT0.out (by decide) (by decide)).mono ?_; rintro e w3 ⟨rfl, ok, _⟩; have HT3 : Hid (TW w1 (preM P 0) w3) := ok; have HX3 := hide3 (HKB.out _ _ HO1.out.2 HT3.out.2); obtain ⟨k0, k1, k2, k3, k4⟩ := HX3.out; clear ok)
    | (go_at_call 22; refine (HLI.out _).mono ?_; rintro e w4 ⟨g, rfl, ok, hg, hgl⟩; have HT4 : Hid (TW w1 (preM P 0) w4 ∧ w4.heap[g]? = some (listsO (.slice a1 P.d.length c1) (.slice a2 P.v.length c2) (.slice a3 P.o.length c3) (.slice a4 P.p.length c4)) ∧ w1.heap.size < g) := ⟨keepTW _ _ _ _ HT3.out ok, hgl, by have := HT3.out.far; omega⟩; clear ok hg hgl k0 k1 k2 k3 k4))
  go_loopw [14] (fun i wr => ∃ k : Nat, k ≤ 4 ∧ i = .int .i64 k ∧ TW w1 (preM P k) wr ∧ wr.heap[g]? = some (listsO (.slice a1 P.d.length c1) (.slice a2 P.v.length c2) (.slice a3 P.o.length c3) (.slice a4 P.p.length c4)) ∧ w1.heap.size < g) (fun i _ => 4 - (intOf i).toNat)
  case atStart => exact ⟨0, Nat.zero_le _, rfl, HT4.out⟩
  case round =>
    clear HT4
    obtain ⟨k, hk, rfl, htw⟩ := hrel
    rcases (show k = 0 ∨ k = 1 ∨ k = 2 ∨ k = 3 ∨ k = 4 by omega) with rfl | rfl | rfl | rfl | rfl
    · have HTK := hide3 htw
      clear htw
      have q0 : wr.cell? ⟨g, 0, none⟩ = some (.string ⟨#[110, 101, 101, 100, 115]⟩) := by rw [Lib.cell_of_heap HTK.out.2.1]; rfl
      have q1 : wr.cell? ⟨g, 1, none⟩ = some (.slice a1 P.d.length c1) := by rw [Lib.cell_of_heap HTK.out.2.1]; rfl
      have hpl : (preM P 0).length ≤ 1000000 := by
        have h2 := HF0.out
        have h3 := HF1.out
        have h4 := HF2.out
        show 8 ≤ 1000000
        decide
      have HTA : Hid (TW w1 (preM P 0) (wr.alloc (.cells #[.string ⟨#[110, 101, 101, 100, 115]⟩, .slice a1 P.d.length c1] 49)) ∧ (wr.alloc (.cells #[.string ⟨#[110, 101, 101, 100, 115]⟩, .slice a1 P.d.length c1] 49)).heap[g]? = some (listsO (.slice a1 P.d.length c1) (.slice a2 P.v.length c2) (.slice a3 P.o.length c3) (.slice a4 P.p.length c4)) ∧ w1.heap.size < g) := ⟨keepTW _ _ _ _ HTK.out.1 (boxB _ _), ((boxB _ _).block g (Array.getElem?_eq_some_iff.1 HTK.out.2.1).1).trans HTK.out.2.1, HTK.out.2.2⟩
      go_wp2_with (go_at_call 31; refine (HWR.out w1 HO1.out.1 _ _ ⟨#[110, 101, 101, 100, 115]⟩ _ P.d HTA.out.1 (HPG.out w1 HO1.out.1).1 HMD.out.1 (by decide) hpl).mono ?_; rintro e w5 ⟨rfl, ok, far⟩; have HT5 : Hid (TW w1 (preM P (0 + 1)) w5 ∧ w5.heap[g]? = some (listsO (.slice a1 P.d.length c1) (.slice a2 P.v.length c2) (.slice a3 P.o.length c3) (.slice a4 P.p.length c4)) ∧ w1.heap.size < g) := ⟨ok, far _ _ _ _ HTA.out.2.1 (by decide) (by have := HTA.out.2.2; omega), HTA.out.2.2⟩; clear ok far)
      exact ⟨⟨0 + 1, by omega, rfl, HT5.out⟩, by simp [intOf]⟩
    · have HTK := hide3 htw
      clear htw
      have q0 : wr.cell? ⟨g, 2, none⟩ = some (.string ⟨#[100, 101, 118]⟩) := by rw [Lib.cell_of_heap HTK.out.2.1]; rfl
      have q1 : wr.cell? ⟨g, 3, none⟩ = some (.slice a2 P.v.length c2) := by rw [Lib.cell_of_heap HTK.out.2.1]; rfl
      have hpl : (preM P 1).length ≤ 1000000 := by
        have h2 := HF0.out
        have h3 := HF1.out
        have h4 := HF2.out
        simp only [preM, List.length_append, List.length_cons, List.length_nil] at *
        omega
      have HTA : Hid (TW w1 (preM P 1) (wr.alloc (.cells #[.string ⟨#[100, 101, 118]⟩, .slice a2 P.v.length c2] 49)) ∧ (wr.alloc (.cells #[.string ⟨#[100, 101, 118]⟩, .slice a2 P.v.length c2] 49)).heap[g]? = some (listsO (.slice a1 P.d.length c1) (.slice a2 P.v.length c2) (.slice a3 P.o.length c3) (.slice a4 P.p.length c4)) ∧ w1.heap.size < g) := ⟨keepTW _ _ _ _ HTK.out.1 (boxB _ _), ((boxB _ _).block g (Array.getElem?_eq_some_iff.1 HTK.out.2.1).1).trans HTK.out.2.1, HTK.out.2.2⟩
      go_wp2_with (go_at_call 31; refine (HWR.out w1 HO1.out.1 _ _ ⟨#[100, 101, 118]⟩ _ P.v HTA.out.1 (HPG.out w1 HO1.out.1).2.1 HMD.out.2.1 (by decide) hpl).mono ?_; rintro e w5 ⟨rfl, ok, far⟩; have HT5 : Hid (TW w1 (preM P (1 + 1)) w5 ∧ w5.heap[g]? = some (listsO (.slice a1 P.d.length c1) (.slice a2 P.v.length c2) (.slice a3 P.o.length c3) (.slice a4 P.p.length c4)) ∧ w1.heap.size < g) := ⟨ok, far _ _ _ _ HTA.out.2.1 (by decide) (by have := HTA.out.2.2; omega), HTA.out.2.2⟩; clear ok far)
      exact ⟨⟨1 + 1, by omega, rfl, HT5.out⟩, by simp [intOf]⟩
    · have HTK := hide3 htw
      clear htw
      have q0 : wr.cell? ⟨g, 4, none⟩ = some (.string ⟨#[108, 105, 107, 101, 115]⟩) := by rw [Lib.cell_of_heap HTK.out.2.1]; rfl
      have q1 : wr.cell? ⟨g, 5, none⟩ = some (.slice a3 P.o.length c3) := by rw [Lib.cell_of_heap HTK.out.2.1]; rfl
      have hpl : (preM P 2).length ≤ 1000000 := by
        have h2 := HF0.out
        have h3 := HF1.out
        have h4 := HF2.out
        simp only [preM, List.length_append, List.length_cons, List.length_nil] at *
        omega
      have HTA : Hid (TW w1 (preM P 2) (wr.alloc (.cells #[.string ⟨#[108, 105, 107, 101, 115]⟩, .slice a3 P.o.length c3] 49)) ∧ (wr.alloc (.cells #[.string ⟨#[108, 105, 107, 101, 115]⟩, .slice a3 P.o.length c3] 49)).heap[g]? = some (listsO (.slice a1 P.d.length c1) (.slice a2 P.v.length c2) (.slice a3 P.o.length c3) (.slice a4 P.p.length c4)) ∧ w1.heap.size < g) := ⟨keepTW _ _ _ _ HTK.out.1 (boxB _ _), ((boxB _ _).block g (Array.getElem?_eq_some_iff.1 HTK.out.2.1).1).trans HTK.out.2.1, HTK.out.2.2⟩
      go_wp2_with (go_at_call 31; refine (HWR.out w1 HO1.out.1 _ _ ⟨#[108, 105, 107, 101, 115]⟩ _ P.o HTA.out.1 (HPG.out w1 HO1.out.1).2.2.1 HMD.out.2.2.1 (by decide) hpl).mono ?_; rintro e w5 ⟨rfl, ok, far⟩; have HT5 : Hid (TW w1 (preM P (2 + 1)) w5 ∧ w5.heap[g]? = some (listsO (.slice a1 P.d.length c1) (.slice a2 P.v.length c2) (.slice a3 P.o.length c3) (.slice a4 P.p.length c4)) ∧ w1.heap.size < g) := ⟨ok, far _ _ _ _ HTA.out.2.1 (by decide) (by have := HTA.out.2.2; omega), HTA.out.2.2⟩; clear ok far)
      exact ⟨⟨2 + 1, by omega, rfl, HT5.out⟩, by simp [intOf]⟩
    · have HTK := hide3 htw
      clear htw
      have q0 : wr.cell? ⟨g, 6, none⟩ = some (.string ⟨#[112, 105, 110, 115]⟩) := by rw [Lib.cell_of_heap HTK.out.2.1]; rfl
      have q1 : wr.cell? ⟨g, 7, none⟩ = some (.slice a4 P.p.length c4) := by rw [Lib.cell_of_heap HTK.out.2.1]; rfl
      have hpl : (preM P 3).length ≤ 1000000 := by
        have h2 := HF0.out
        have h3 := HF1.out
        have h4 := HF2.out
        simp only [preM, List.length_append, List.length_cons, List.length_nil] at *
        omega
      have HTA : Hid (TW w1 (preM P 3) (wr.alloc (.cells #[.string ⟨#[112, 105, 110, 115]⟩, .slice a4 P.p.length c4] 49)) ∧ (wr.alloc (.cells #[.string ⟨#[112, 105, 110, 115]⟩, .slice a4 P.p.length c4] 49)).heap[g]? = some (listsO (.slice a1 P.d.length c1) (.slice a2 P.v.length c2) (.slice a3 P.o.length c3) (.slice a4 P.p.length c4)) ∧ w1.heap.size < g) := ⟨keepTW _ _ _ _ HTK.out.1 (boxB _ _), ((boxB _ _).block g (Array.getElem?_eq_some_iff.1 HTK.out.2.1).1).trans HTK.out.2.1, HTK.out.2.2⟩
      go_wp2_with (go_at_call 31; refine (HWR.out w1 HO1.out.1 _ _ ⟨#[112, 105, 110, 115]⟩ _ P.p HTA.out.1 (HPG.out w1 HO1.out.1).2.2.2 HMD.out.2.2.2 (by decide) hpl).mono ?_; rintro e w5 ⟨rfl, ok, far⟩; have HT5 : Hid (TW w1 (preM P (3 + 1)) w5 ∧ w5.heap[g]? = some (listsO (.slice a1 P.d.length c1) (.slice a2 P.v.length c2) (.slice a3 P.o.length c3) (.slice a4 P.p.length c4)) ∧ w1.heap.size < g) := ⟨ok, far _ _ _ _ HTA.out.2.1 (by decide) (by have := HTA.out.2.2; omega), HTA.out.2.2⟩; clear ok far)
      exact ⟨⟨3 + 1, by omega, rfl, HT5.out⟩, by simp [intOf]⟩
    · have HTE := hide3 htw.1
      rw [HPT.out] at HTE
      clear htw
      by_cases hlen : (textM P).length ≤ 4096
      · have HR : Hid (writtenMB P = true ∧ writtenMT P = ⟨(textM P).toArray⟩) := by
          have : writtenMB P = true := by rw [HWB.out]; exact decide_eq_true hlen
          exact ⟨this, by unfold writtenMT; rw [if_pos this]⟩
        go_wp2_with (first
          | (go_at_call 32; refine (HLE.out _ _ _ HTE.out).mono ?_; rintro e w5 ⟨rfl, rfl⟩)
          | (go_at_call 33; refine (HST.out _ _ _ HTE.out).mono ?_; rintro e w6 ⟨rfl, ok⟩; have HB6 := hide3 (below_then HO1.out.1 (HTE.out.2.trans ok)); clear ok))
        go_ret2
        exact ⟨by rw [HR.out.1, HR.out.2]; rfl, HB6.out⟩
      · have HR : Hid (writtenMB P = false ∧ writtenMT P = ⟨#[]⟩) := by
          have : writtenMB P = false := by rw [HWB.out]; exact decide_eq_false hlen
          exact ⟨this, by unfold writtenMT; rw [if_neg (by rw [this]; simp)]⟩
        go_wp2_with (go_at_call 32; refine (HLE.out _ _ _ HTE.out).mono ?_; rintro e w5 ⟨rfl, rfl⟩)
        go_ret2
        exact ⟨by rw [HR.out.1, HR.out.2]; rfl, below_then HO1.out.1 HTE.out.2⟩

theorem writtenM_any {P : Mn} {v1 v2 v3 v4 : Value} {w : World} (h : MnAt w P v1 v2 v3 v4) (he : Env w) (hf : FL w) :
    Calls Tryz.prog 17 #[.agg #[v1, v2, v3, v4]] w fun e w' => e = .returned (.tuple #[.string (writtenMT P), .bool (writtenMB P)]) ∧ Below w.heap.size w w' := by
  cases hsd : soundM P
  · have HSO : Hid (∀ w1, Below w.heap.size w w1 → Calls Tryz.prog 29 #[.agg #[v1, v2, v3, v4]] w1 fun e w' => e = .returned (.bool false) ∧ Below w1.heap.size w1 w') := fun w1 hb => by have := sound_mf (h.below hb); rw [hsd] at this; exact this
    have HR : Hid (writtenMB P = false ∧ writtenMT P = ⟨#[]⟩) := by
      have : writtenMB P = false := by unfold writtenMB; rw [hsd]; rfl
      exact ⟨this, by unfold writtenMT; rw [if_neg (by rw [this]; simp)]⟩
    obtain ⟨a1, c1, rfl⟩ := h.1.sl
    obtain ⟨a2, c2, rfl⟩ := h.2.1.sl
    obtain ⟨a3, c3, rfl⟩ := h.2.2.1.sl
    obtain ⟨a4, c4, rfl⟩ := h.2.2.2.sl
    clear h he hf hsd
    go_enter Tryz.func17, Tryz.ntmps17
    go_wp2_with (go_at_call 29; refine (HSO.out _ (boxB _ _)).mono ?_; rintro e w1 ⟨rfl, ok⟩; have HO1 := hide3 (below_then (boxB _ _) ok); clear ok)
    go_ret2
    exact ⟨by rw [HR.out.1, HR.out.2]; rfl, HO1.out⟩
  · exact writtenM_sound h he hf hsd

/-- May of package manifest. -/
theorem mMay_any {P : Mn} {v1 v2 v3 v4 : Value} {w : World} (h : MnAt w P v1 v2 v3 v4) (he : Env w) (hf : FL w) :
    Calls Tryz.prog 8 #[.agg #[v1, v2, v3, v4]] w fun e w' => e = .returned (.bool (writtenMB P)) ∧ Below w.heap.size w w' := by
  have HW : Hid (∀ w1, Below w.heap.size w w1 → Calls Tryz.prog 17 #[.agg #[v1, v2, v3, v4]] w1 fun e w' => e = .returned (.tuple #[.string (writtenMT P), .bool (writtenMB P)]) ∧ Below w1.heap.size w1 w') := fun w1 hb => writtenM_any (h.below hb) (he.below hb) (hf.below hb)
  obtain ⟨a1, c1, rfl⟩ := h.1.sl
  obtain ⟨a2, c2, rfl⟩ := h.2.1.sl
  obtain ⟨a3, c3, rfl⟩ := h.2.2.1.sl
  obtain ⟨a4, c4, rfl⟩ := h.2.2.2.sl
  clear h he hf
  go_enter Tryz.func8, Tryz.ntmps8
  go_wp2_with (go_at_call 17; refine (HW.out _ (boxB _ _)).mono ?_; rintro e w1 ⟨rfl, ok⟩; have HO1 := hide3 (below_then (boxB _ _) ok); clear ok)
  go_ret
  exact ⟨rfl, HO1.out⟩

/-- Print of package manifest. -/
theorem mPrint_any {P : Mn} {v1 v2 v3 v4 : Value} {w : World} (h : MnAt w P v1 v2 v3 v4) (he : Env w) (hf : FL w) :
    Calls Tryz.prog 13 #[.agg #[v1, v2, v3, v4]] w fun e w' => e = .returned (.tuple #[.string (writtenMT P), .int .i64 (if writtenMB P = true then 0 else 25)]) ∧ Below w.heap.size w w' := by
  have HW : Hid (∀ w1, Below w.heap.size w w1 → Calls Tryz.prog 17 #[.agg #[v1, v2, v3, v4]] w1 fun e w' => e = .returned (.tuple #[.string (writtenMT P), .bool (writtenMB P)]) ∧ Below w1.heap.size w1 w') := fun w1 hb => writtenM_any (h.below hb) (he.below hb) (hf.below hb)
  obtain ⟨a1, c1, rfl⟩ := h.1.sl
  obtain ⟨a2, c2, rfl⟩ := h.2.1.sl
  obtain ⟨a3, c3, rfl⟩ := h.2.2.1.sl
  obtain ⟨a4, c4, rfl⟩ := h.2.2.2.sl
  clear h he hf
  have HWT : Hid (writtenMB P = false → writtenMT P = ⟨#[]⟩) := fun hb => by unfold writtenMT; rw [if_neg (by rw [hb]; simp)]
  cases hwb : writtenMB P
  · rw [hwb] at HW
    have HT := hide3 (HWT.out hwb)
    rw [HT.out] at HW ⊢
    go_enter Tryz.func13, Tryz.ntmps13
    go_wp2_with (go_at_call 17; refine (HW.out _ (boxB _ _)).mono ?_; rintro e w1 ⟨rfl, ok⟩; have HO1 := hide3 (below_then (boxB _ _) ok); clear ok)
    go_ret2
    exact ⟨rfl, HO1.out⟩
  · rw [hwb] at HW
    go_enter Tryz.func13, Tryz.ntmps13
    go_wp2_with (go_at_call 17; refine (HW.out _ (boxB _ _)).mono ?_; rintro e w1 ⟨rfl, ok⟩; have HO1 := hide3 (below_then (boxB _ _) ok); clear ok)
    go_ret2
    exact ⟨rfl, HO1.out⟩
end Go.Proofs.YtjfbgiajjkjghaaGreatDoor
namespace Go.Proofs.YtjfbgiajjkjghaaGreatDoor
open Go.RowKit
set_option maxRecDepth 100000

theorem ba_toList (l : Sc.Bs) : (Sc.ba l).toList = l := by rw [ByteArray.toList_eq]; simp [Sc.ba]

/-- Words with a blank between. -/
def jnT (ws : List Sc.Bs) : ByteArray := ⟨(Lib.join ws [32]).toArray⟩
theorem Join_words {w : World} {v : Value} {ws : List Sc.Bs} (h : Sc.WordsAt w v ws) (hne : ws ≠ []) (hl : ws.length ≤ 1000000) (hj : (Lib.join ws [32]).length ≤ 1000000) :
    Calls Tryz.prog 67 #[v, .string ⟨#[32]⟩] w fun e w' => e = .returned (.string (jnT ws)) ∧ Below w.heap.size w w' := by
  obtain ⟨ad, cap, rfl, hc, hs⟩ := h
  rcases hs with hs | ⟨g, o, rfl, hg, hs⟩
  · exact (hne hs).elim
  · have e1 : (ws.map Sc.ba).map (·.data.toList) = ws := by
      rw [List.map_map]
      conv => rhs; rw [← List.map_id ws]
      exact List.map_congr_left fun x _ => by simp [Sc.ba]
    have := Tryz.strings_Join g o cap (ws.map Sc.ba) ⟨#[32]⟩ w (fun j x hx => by
      rw [List.getElem?_map] at hx
      cases hw : ws[j]? with
      | none => rw [hw] at hx; cases hx
      | some y =>
        rw [hw] at hx
        obtain ⟨hlt, rfl⟩ := List.getElem?_eq_some_iff.1 hw
        cases hx
        exact hs j hlt) hg (by rw [List.length_map]; omega) (by rw [List.length_map]; exact hc) (by rw [e1]; show (Lib.join ws [32]).length ≤ _; omega)
    rw [List.length_map, e1] at this
    exact this

/-- What readDep answers: the range, or an error's number. -/
def depE (q : Option ByteArray) (n : ByteArray) (ws : List Sc.Bs) : Int := if followB q n = true then (if parE (parR (jnT ws)) = 0 ∧ rangeB ((parL (parR (jnT ws))).map spR) = true then 0 else 21) else 23
/-- Nothing of a dependency, beside an error. -/
def DepQ (w : World) (n : ByteArray) (ws : List Sc.Bs) (er : Int) (e : Ending) (w' : World) : Prop := ∃ nm ad len cap, e = .returned (.tuple #[.agg #[.string nm, .slice ad len cap], .int .i64 er]) ∧ Below w.heap.size w w' ∧ (er = 0 → nm = n ∧ OwnS w' w.heap.size (.slice ad len cap) ((parL (parR (jnT ws))).map spR)) ∧ (er ≠ 0 → nm = ⟨#[]⟩ ∧ ad = none ∧ len = 0 ∧ cap = 0)
end Go.Proofs.YtjfbgiajjkjghaaGreatDoor
namespace Go.Proofs.YtjfbgiajjkjghaaGreatDoor
open Go.RowKit
set_option maxRecDepth 100000

/-- A dependency's variable that may be written. -/
def BxDF (w : World) (N : Nat) (s : ByteArray) (u : Value) : Prop := BxD w N s u ∧ w.frozen? ⟨N, 0, none⟩ = false ∧ w.frozen? ⟨N, 1, none⟩ = false
theorem keepBxDF (N : Nat) (s : ByteArray) (u : Value) : KeepP fun w1 => BxDF w1 N s u := fun _ _ h hb =>
  ⟨keepBxD _ _ _ _ _ h.1 hb, (hb.frozen (p := ⟨N, 0, none⟩) h.1.2.2).trans h.2.1, (hb.frozen (p := ⟨N, 1, none⟩) h.1.2.2).trans h.2.2⟩
theorem BxDF.new {w : World} {N : Nat} (hN : w.heap.size = N) (s : ByteArray) (u : Value) : BxDF (w.alloc (.cells #[.string s, u] 36)) N s u := by
  refine ⟨BxD.new hN _ _, ?_, ?_⟩ <;> subst hN <;> simp
theorem set2 {w : World} {N : Nat} {x y : Value} (j0 : w.cell? ⟨N, 0, none⟩ = some x) (j1 : w.cell? ⟨N, 1, none⟩ = some y) :
    (∀ u, (w.setCell ⟨N, 0, none⟩ u).cell? ⟨N, 0, none⟩ = some u) ∧ (∀ u, (w.setCell ⟨N, 0, none⟩ u).cell? ⟨N, 1, none⟩ = some y) ∧ (∀ u v, ((w.setCell ⟨N, 0, none⟩ u).setCell ⟨N, 1, none⟩ v).cell? ⟨N, 0, none⟩ = some u) ∧ (∀ u v, ((w.setCell ⟨N, 0, none⟩ u).setCell ⟨N, 1, none⟩ v).cell? ⟨N, 1, none⟩ = some v) := by
  have k1 : ∀ u, (w.setCell ⟨N, 0, none⟩ u).cell? ⟨N, 1, none⟩ = some y := fun u => (World.cell?_setCell_other _ _ _ _ (by simp)).trans j1
  have k0 : ∀ u, (w.setCell ⟨N, 0, none⟩ u).cell? ⟨N, 0, none⟩ = some u := fun u => World.cell?_setCell_same _ _ _ j0
  exact ⟨k0, k1, fun u v => (World.cell?_setCell_other _ _ _ _ (by simp)).trans (k0 u), fun u v => World.cell?_setCell_same _ _ _ (k1 u)⟩
theorem below_set2 {w w' : World} {N B : Nat} {x y : Value} (hN : B ≤ N) (h : Below B w w') : Below B w ((w'.setCell ⟨N, 0, none⟩ x).setCell ⟨N, 1, none⟩ y) := (h.setCell (p := ⟨N, 0, none⟩) hN _).setCell (p := ⟨N, 1, none⟩) hN _

theorem DepQ.err {w w' : World} {n : ByteArray} {ws : List Sc.Bs} {er : Int} (h : er ≠ 0) (hb : Below w.heap.size w w') : DepQ w n ws er (.returned (.tuple #[.agg #[.string ⟨#[]⟩, .slice none 0 0], .int .i64 er])) w' := ⟨⟨#[]⟩, none, 0, 0, rfl, hb, fun e => absurd e h, fun _ => ⟨rfl, rfl, rfl, rfl⟩⟩
theorem DepQ.ok {w w' : World} {n : ByteArray} {ws : List Sc.Bs} {ad : Option Addr} {len cap : Nat} (hb : Below w.heap.size w w') (h : OwnS w' w.heap.size (.slice ad len cap) ((parL (parR (jnT ws))).map spR)) : DepQ w n ws 0 (.returned (.tuple #[.agg #[.string n, .slice ad len cap], .int .i64 0])) w' := ⟨n, ad, len, cap, rfl, hb, fun _ => ⟨rfl, h⟩, fun e => absurd rfl e⟩

set_option maxHeartbeats 1000000 in
theorem readDep_any {n : ByteArray} {vw va : Value} {ws : List Sc.Bs} {A : List Dp} {w : World} (hw : Sc.WordsAt w vw ws) (hne : ws ≠ []) (hl : ws.length ≤ 1000000) (hj : (Lib.join ws [32]).length ≤ 1000000) (ha : DepsAt w va A) (hal : A.length ≤ 1000000000000) (he : Env w) (hf : FL w) :
    Calls Tryz.prog 58 #[.string n, vw, va] w (DepQ w n ws (depE (lastN A) n ws)) := by
  have HFO : Hid (∀ w1, Below w.heap.size w w1 → Calls Tryz.prog 61 #[va, .string n] w1 fun e w' => e = .returned (.bool (followB (lastN A) n)) ∧ w' = w1) := fun w1 hb => mayFollow_any (ha.below hb) hal n
  have HJO : Hid (∀ w1, Below w.heap.size w w1 → Calls Tryz.prog 67 #[vw, .string ⟨#[32]⟩] w1 fun e w' => e = .returned (.string (jnT ws)) ∧ Below w1.heap.size w1 w') := fun w1 hb => Join_words (hw.below hb) hne hl hj
  have HPA : Hid (∀ w1, Below w.heap.size w w1 → Calls Tryz.prog 72 #[.string (jnT ws)] w1 fun e w' => ∃ v, e = .returned (.tuple #[v, .int .i64 (parE (parR (jnT ws)))]) ∧ OwnS w' w1.heap.size v ((parL (parR (jnT ws))).map spR) ∧ Below w1.heap.size w1 w') := fun w1 hb => sParse_all _ w1 (he.below hb) (hf.below hb)
  have HRA : Hid (∀ w1 B v, OwnS w1 B v ((parL (parR (jnT ws))).map spR) → Calls Tryz.prog 62 #[v] w1 fun e w' => e = .returned (.bool (rangeB ((parL (parR (jnT ws))).map spR))) ∧ Below w1.heap.size w1 w') := fun w1 B v h => mayRange_any h.spans.at
  have HB0 : Hid (BxDF (w.alloc (.cells #[.string ⟨#[]⟩, .slice none 0 0] 36)) w.heap.size ⟨#[]⟩ (.slice none 0 0)) := BxDF.new rfl _ _
  have HKB : Hid (KeepP fun w1 => BxDF w1 w.heap.size ⟨#[]⟩ (.slice none 0 0)) := keepBxDF _ _ _
  have HE : Hid (depE (lastN A) n ws = if followB (lastN A) n = true then (if parE (parR (jnT ws)) = 0 ∧ rangeB ((parL (parR (jnT ws))).map spR) = true then 0 else 21) else 23) := rfl
  have HER : Hid (∀ (er : Int) w', er ≠ 0 → Below w.heap.size w w' → DepQ w n ws er (.returned (.tuple #[.agg #[.string ⟨#[]⟩, .slice none 0 0], .int .i64 er])) w') := fun er w' h hb => DepQ.err h hb
  have HOK : Hid (∀ ad len cap w', Below w.heap.size w w' → OwnS w' w.heap.size (.slice ad len cap) ((parL (parR (jnT ws))).map spR) → DepQ w n ws 0 (.returned (.tuple #[.agg #[.string n, .slice ad len cap], .int .i64 0])) w') := fun ad len cap w' hb h => DepQ.ok hb h
  clear hw ha he hf hne hl hj hal
  generalize followB (lastN A) n = fo at *
  generalize depE (lastN A) n ws = de at *
  generalize hQ : DepQ w n ws = DQ at *
  clear hQ
  generalize (parL (parR (jnT ws))).map spR = X at *
  generalize parE (parR (jnT ws)) = er at *
  generalize jnT ws = tx at *
  generalize rangeB X = rb at *
  cases fo
  · obtain rfl : de = 23 := by rw [HE.out]; rfl
    go_enter Tryz.func58, Tryz.ntmps58
    go_wp2_with (go_at_call 61; refine (HFO.out _ (boxB _ _)).mono ?_; rintro e w1 ⟨rfl, rfl⟩)
    try simp only [Exit.inBlock, Exit.then]
    refine bodyPost_ret (by simp [results, Tryz.results58, go_sem]; try rfl) rfl ?_
    exact HER.out 23 _ (by decide) (boxB _ _)
  · by_cases hpe : er = 0
    · subst hpe
      cases rb
      · obtain rfl : de = 21 := by rw [HE.out]; rfl
        go_enter Tryz.func58, Tryz.ntmps58
        go_wp2_with (first
          | (go_at_call 61; refine (HFO.out _ (boxB _ _)).mono ?_; rintro e w1 ⟨rfl, rfl⟩)
          | (go_at_call 67; refine (HJO.out _ (boxB _ _)).mono ?_; rintro e w2 ⟨rfl, ok⟩; have HO2 : Hid (Below w.heap.size w w2 ∧ BxDF w2 w.heap.size ⟨#[]⟩ (.slice none 0 0)) := ⟨below_then (boxB _ _) ok, HKB.out _ _ HB0.out ok⟩; clear ok)
          | (go_at_call 72; refine (HPA.out _ HO2.out.1).mono ?_; rintro e w3 ⟨v3, rfl, h1, ok⟩; have HO3 : Hid ((Below w.heap.size w w3 ∧ BxDF w3 w.heap.size ⟨#[]⟩ (.slice none 0 0)) ∧ OwnS w3 w2.heap.size v3 X) := ⟨⟨below_then HO2.out.1 ok, HKB.out _ _ HO2.out.2 ok⟩, h1⟩; clear ok h1)
          | (go_at_call 62; refine (HRA.out _ _ _ HO3.out.2).mono ?_; rintro e w4 ⟨rfl, ok⟩; have HO4 : Hid (Below w.heap.size w w4 ∧ BxDF w4 w.heap.size ⟨#[]⟩ (.slice none 0 0)) := ⟨below_then HO3.out.1.1 ok, HKB.out _ _ HO3.out.1.2 ok⟩; obtain ⟨⟨b0, b1, b2⟩, b3, b4⟩ := HO4.out.2; obtain ⟨s0, s1, s2, s3⟩ := set2 b0 b1; clear ok))
        try simp only [Exit.inBlock, Exit.then]
        refine bodyPost_ret (by simp [results, Tryz.results58, s2, s3, go_sem]; try rfl) rfl ?_
        exact HER.out 21 _ (by decide) (below_set2 (Nat.le_refl _) HO4.out.1)
      · obtain rfl : de = 0 := by rw [HE.out]; rfl
        go_enter Tryz.func58, Tryz.ntmps58
        go_wp2_with (first
          | (go_at_call 61; refine (HFO.out _ (boxB _ _)).mono ?_; rintro e w1 ⟨rfl, rfl⟩)
          | (go_at_call 67; refine (HJO.out _ (boxB _ _)).mono ?_; rintro e w2 ⟨rfl, ok⟩; have HO2 : Hid (Below w.heap.size w w2 ∧ BxDF w2 w.heap.size ⟨#[]⟩ (.slice none 0 0)) := ⟨below_then (boxB _ _) ok, HKB.out _ _ HB0.out ok⟩; clear ok)
          | (go_at_call 72; refine (HPA.out _ HO2.out.1).mono ?_; rintro e w3 ⟨v3, rfl, h1, ok⟩; obtain ⟨ad3, cap3, rfl, _⟩ := h1.sp; have HO3 : Hid ((Below w.heap.size w w3 ∧ BxDF w3 w.heap.size ⟨#[]⟩ (.slice none 0 0)) ∧ OwnS w3 w2.heap.size (.slice ad3 X.length cap3) X) := ⟨⟨below_then HO2.out.1 ok, HKB.out _ _ HO2.out.2 ok⟩, h1⟩; clear ok h1)
          | (go_at_call 62; refine (HRA.out _ _ _ HO3.out.2).mono ?_; rintro e w4 ⟨rfl, ok⟩; have HO4 : Hid ((Below w.heap.size w w4 ∧ BxDF w4 w.heap.size ⟨#[]⟩ (.slice none 0 0)) ∧ OwnS w4 w2.heap.size (.slice ad3 X.length cap3) X) := ⟨⟨below_then HO3.out.1.1 ok, HKB.out _ _ HO3.out.1.2 ok⟩, HO3.out.2.below ok⟩; obtain ⟨⟨b0, b1, b2⟩, b3, b4⟩ := HO4.out.1.2; obtain ⟨s0, s1, s2, s3⟩ := set2 b0 b1; clear ok))
        try simp only [Exit.inBlock, Exit.then]
        refine bodyPost_ret (by simp [results, Tryz.results58, s2, s3, go_sem]; try rfl) rfl ?_
        have hg2 : w.heap.size < w2.heap.size := HO2.out.2.1.2.2
        have hne : (Value.slice ad3 X.length cap3).ownBlock ≠ some w.heap.size := fun e => by
          have := (HO4.out.2.lt e).2
          omega
        exact HOK.out ad3 X.length cap3 _ (below_set2 (Nat.le_refl _) HO4.out.1.1) (((HO4.out.2.base HO2.out.1.size).set hne 0 _).set hne 1 _)
    · obtain rfl : de = 21 := by rw [HE.out, if_pos rfl, if_neg (fun h => hpe h.1)]
      have hpe' : (er == 0) = false := beq_eq_false_iff_ne.2 hpe
      go_enter Tryz.func58, Tryz.ntmps58
      go_wp2_with (first
        | (go_at_call 61; refine (HFO.out _ (boxB _ _)).mono ?_; rintro e w1 ⟨rfl, rfl⟩)
        | (go_at_call 67; refine (HJO.out _ (boxB _ _)).mono ?_; rintro e w2 ⟨rfl, ok⟩; have HO2 : Hid (Below w.heap.size w w2 ∧ BxDF w2 w.heap.size ⟨#[]⟩ (.slice none 0 0)) := ⟨below_then (boxB _ _) ok, HKB.out _ _ HB0.out ok⟩; clear ok)
        | (go_at_call 72; refine (HPA.out _ HO2.out.1).mono ?_; rintro e w3 ⟨v3, rfl, h1, ok⟩; have HO3 : Hid (Below w.heap.size w w3 ∧ BxDF w3 w.heap.size ⟨#[]⟩ (.slice none 0 0)) := ⟨below_then HO2.out.1 ok, HKB.out _ _ HO2.out.2 ok⟩; obtain ⟨⟨b0, b1, b2⟩, b3, b4⟩ := HO3.out.2; obtain ⟨s0, s1, s2, s3⟩ := set2 b0 b1; clear ok h1))
      try simp only [Exit.inBlock, Exit.then]
      refine bodyPost_ret (by simp [results, Tryz.results58, s2, s3, go_sem]; try rfl) rfl ?_
      exact HER.out 21 _ (by decide) (below_set2 (Nat.le_refl _) HO3.out.1)
end Go.Proofs.YtjfbgiajjkjghaaGreatDoor
namespace Go.Proofs.YtjfbgiajjkjghaaGreatDoor
open Go.RowKit
set_option maxRecDepth 100000

/-- Dependencies as cells, with their ranges' slices. -/
def dpCells (ps : List (Dp × Value)) : List Value := ps.flatMap fun p => [.string p.1.nm, p.2]
theorem dpCells_length (ps : List (Dp × Value)) : (dpCells ps).length = ps.length * 2 := by
  induction ps with
  | nil => rfl
  | cons p ps ih => unfold dpCells at *; simp only [List.flatMap_cons, List.length_append, List.length_cons, List.length_nil, ih]; omega
theorem dpCells_snoc (ps : List (Dp × Value)) (p : Dp × Value) : dpCells (ps ++ [p]) = dpCells ps ++ [.string p.1.nm, p.2] := by simp [dpCells]
theorem dpCells_at : ∀ (ps : List (Dp × Value)) (i : Nat) (h : i < ps.length), (dpCells ps)[i * 2]? = some (.string ps[i].1.nm) ∧ (dpCells ps)[i * 2 + 1]? = some ps[i].2
  | [], i, h => by simp at h
  | p :: ps, 0, _ => by simp [dpCells]
  | p :: ps, i + 1, h => by
    have := dpCells_at ps i (by simpa using h)
    have e : dpCells (p :: ps) = .string p.1.nm :: p.2 :: dpCells ps := by simp [dpCells]
    rw [e, show (i + 1) * 2 = i * 2 + 1 + 1 by omega]
    simpa using this

/-- Dependencies of one's own, with ranges of one's own. -/
def OwnD (w : World) (B : Nat) (v : Value) (ps : List (Dp × Value)) : Prop := w.ownsRow B 36 2 v ps.length (dpCells ps) ∧ ∀ p ∈ ps, OwnS w B p.2 p.1.rg
theorem OwnD.nil (w : World) (B : Nat) : OwnD w B (.slice none 0 0) [] := ⟨⟨rfl, Or.inl ⟨rfl, rfl⟩⟩, fun p hp => by cases hp⟩
theorem own_of {w w' : World} {B : Nat} {e : TypeId} {z : Nat} {v : Value} {n : Nat} {xs : List Value} (h : w.ownsRow B e z v n xs) (hk : ∀ g, v.ownBlock = some g → w'.heap[g]? = w.heap[g]?) : w'.ownsRow B e z v n xs := by
  refine ⟨h.1, ?_⟩
  rcases h.2 with hn | ⟨g, cap, cur, rfl, hB, hgg, r⟩
  · exact Or.inl hn
  · exact Or.inr ⟨g, cap, cur, rfl, hB, (hk g rfl).trans hgg, r⟩
theorem own_below {w w' : World} {B : Nat} {e : TypeId} {z : Nat} {v : Value} {n : Nat} {xs : List Value} (h : w.ownsRow B e z v n xs) (hb : Below w.heap.size w w') : w'.ownsRow B e z v n xs := own_of h fun g hg => hb.block g (h.lt g hg).2
theorem own_base {w : World} {B C : Nat} {e : TypeId} {z : Nat} {v : Value} {n : Nat} {xs : List Value} (h : w.ownsRow B e z v n xs) (hc : C ≤ B) : w.ownsRow C e z v n xs := by
  refine ⟨h.1, ?_⟩
  rcases h.2 with hn | ⟨g, cap, cur, hv, hB, r⟩
  · exact Or.inl hn
  · exact Or.inr ⟨g, cap, cur, hv, Nat.le_trans hc hB, r⟩
/-- Rows of other types are other rows. -/
theorem own_ne {w : World} {B B' : Nat} {e e' : TypeId} {z z' : Nat} {v v' : Value} {n n' : Nat} {xs xs' : List Value} (h : w.ownsRow B e z v n xs) (h' : w.ownsRow B' e' z' v' n' xs') (hne : e ≠ e') {g : Nat} (hg : v.ownBlock = some g) : v'.ownBlock ≠ some g := by
  intro hg'
  rcases h.2 with ⟨rfl, _⟩ | ⟨g1, cap, cur, rfl, _, hgg, _⟩
  · cases hg
  · rcases h'.2 with ⟨rfl, _⟩ | ⟨g2, cap', cur', rfl, _, hgg', _⟩
    · cases hg'
    · cases hg
      cases hg'
      rw [hgg] at hgg'
      injection hgg' with e1
      injection e1 with _ e2 _
      exact hne e2
theorem OwnD.below {w w' : World} {B : Nat} {v : Value} {ps : List (Dp × Value)} (h : OwnD w B v ps) (hb : Below w.heap.size w w') : OwnD w' B v ps := ⟨own_below h.1 hb, fun p hp => (h.2 p hp).below hb⟩
theorem OwnD.base {w : World} {B C : Nat} {v : Value} {ps : List (Dp × Value)} (h : OwnD w B v ps) (hc : C ≤ B) : OwnD w C v ps := ⟨own_base h.1 hc, fun p hp => (h.2 p hp).base hc⟩
theorem OwnS.at {w : World} {B : Nat} {v : Value} {L : List Sp} (h : OwnS w B v L) : SpansC w v L ∧ L.length ≤ 9223372036854775807 := by
  have h0 := h
  obtain ⟨ad, cap, rfl, hc, hl⟩ := h.sp
  refine ⟨⟨⟨ad, cap, rfl, hl⟩, ad, _, cap, rfl, hc⟩, ?_⟩
  rcases h0.2 with ⟨_, hn⟩ | ⟨g, cap', cur, _, _, _, h1, h2, _⟩
  · omega
  · unfold maxLen at h2; omega
theorem OwnD.at {w : World} {B : Nat} {v : Value} {ps : List (Dp × Value)} (h : OwnD w B v ps) : DepsAt w v (ps.map (·.1)) := by
  have h0 := h.1
  rcases h.1.2 with ⟨rfl, hn⟩ | ⟨g, cap, cur, rfl, hB, hg, hc, hm, _⟩
  · have : ps = [] := List.eq_nil_of_length_eq_zero hn
    subst this
    exact ⟨none, 0, rfl, Nat.le_refl _, Or.inl rfl⟩
  · have hlt := (Array.getElem?_eq_some_iff.1 hg).1
    refine ⟨_, cap, by rw [List.length_map], by rw [List.length_map]; exact hc, Or.inr ⟨g, 0, rfl, hlt, fun i hi => ?_⟩⟩
    have hi' : i < ps.length := by simpa using hi
    have c0 := World.ownsRow.cellAt h0 (i * 2) (by omega)
    have c1 := World.ownsRow.cellAt h0 (i * 2 + 1) (by omega)
    rw [(dpCells_at ps i hi').1] at c0
    rw [(dpCells_at ps i hi').2] at c1
    refine ⟨ps[i].2, ?_⟩
    rw [List.getElem_map, Nat.zero_add]
    exact ⟨c0, c1, (h.2 _ (List.getElem_mem hi')).at, hlt⟩
theorem OwnD.len {w : World} {B : Nat} {v : Value} {ps : List (Dp × Value)} (h : OwnD w B v ps) : ∃ ad cap, v = .slice ad ps.length cap := by
  rcases h.1.2 with ⟨rfl, hn⟩ | ⟨g, cap, cur, rfl, _⟩
  · exact ⟨none, 0, by rw [hn]⟩
  · exact ⟨_, cap, rfl⟩

/-- Lists of one's own in a row of one's own, no two of them at one place. -/
def RD (w : World) (B N : Nat) (rows : List (Value × List (Dp × Value))) : Prop :=
  w.ownsRow B 22 1 (.slice (some ⟨N, 0, none⟩) rows.length rows.length) rows.length (rows.map (·.1)) ∧ (∀ r ∈ rows, OwnD w B r.1 r.2) ∧
  ∀ i j (hi : i < rows.length) (hj : j < rows.length), i ≠ j → rows[i].1.ownBlock = rows[j].1.ownBlock → rows[i].1.ownBlock = none
theorem RD.below {w w' : World} {B N : Nat} {rows : List (Value × List (Dp × Value))} (h : RD w B N rows) (hb : Below w.heap.size w w') : RD w' B N rows := ⟨own_below h.1 hb, fun r hr => (h.2.1 r hr).below hb, h.2.2⟩
theorem keepRD (B N : Nat) (rows : List (Value × List (Dp × Value))) : KeepP fun w1 => RD w1 B N rows := fun _ _ h hb => h.below hb
theorem RD.start {w : World} {B N n : Nat} (h : w.ownsRow B 22 1 (.slice (some ⟨N, 0, none⟩) n n) n (List.replicate n (.slice none 0 0))) : RD w B N (List.replicate n (.slice none 0 0, [])) := by
  refine ⟨?_, ?_, ?_⟩
  · rw [List.length_replicate, List.map_replicate]; exact h
  · intro r hr
    obtain ⟨_, rfl⟩ := List.mem_replicate.1 hr
    exact OwnD.nil _ _
  · intro i j hi hj _ _
    simp [Value.ownBlock]
theorem RD.size {w : World} {B N : Nat} {rows : List (Value × List (Dp × Value))} (h : RD w B N rows) : B ≤ N ∧ N < w.heap.size := h.1.lt N rfl
theorem RD.cell {w : World} {B N : Nat} {rows : List (Value × List (Dp × Value))} (h : RD w B N rows) (k : Nat) (hk : k < rows.length) : w.cell? ⟨N, k, none⟩ = some rows[k].1 := by
  rw [World.ownsRow.cellAt h.1 k (by omega)]
  simp [hk]
theorem RD.frozen {w : World} {B N : Nat} {rows : List (Value × List (Dp × Value))} (h : RD w B N rows) (k : Nat) : w.frozen? ⟨N, k, none⟩ = false := World.ownsRow.frozenAt h.1 k

/-- A dependency put behind list k, and the list's slice put into its place. -/
theorem RD.app {w w1 : World} {B N : Nat} {rows : List (Value × List (Dp × Value))} (h : RD w B N rows) (k : Nat) (hk : k < rows.length) {d : Dp} {u v' : Value} (hu : OwnS w B u d.rg)
    (ho : w1.ownsRow B 36 2 v' (rows[k].2.length + 1) (dpCells rows[k].2 ++ [.string d.nm, u])) (hg : w.grownBy w1 rows[k].1.ownBlock) (hat : v'.ownBlock = rows[k].1.ownBlock ∨ v'.ownBlock = some w.heap.size) :
    RD (w1.setCell ⟨N, k, none⟩ v') B N (rows.set k (v', rows[k].2 ++ [(d, u)])) := by
  obtain ⟨h1, h2, h3⟩ := h
  have hrow := h2 _ (List.getElem_mem hk)
  -- the row of rows, and what else stays
  have k1 : w1.ownsRow B 22 1 (.slice (some ⟨N, 0, none⟩) rows.length rows.length) rows.length (rows.map (·.1)) := h1.kept hg (Or.inr fun e => own_ne h1 hrow.1 (by decide) rfl e.symm)
  obtain ⟨k2, _⟩ := k1.stored k v'
  have far : ∀ {v : Value} {e : TypeId} {z n : Nat} {xs : List Value}, w1.ownsRow B e z v n xs → e ≠ 22 → (w1.setCell ⟨N, k, none⟩ v').ownsRow B e z v n xs := by
    intro v e z n xs hv hne
    exact own_of hv fun g hg2 => Below.heap_setCell _ _ _ _ fun e2 => own_ne hv k1 hne hg2 (by rw [e2]; rfl)
  have spn : ∀ {v : Value} {L : List Sp}, OwnS w B v L → OwnS (w1.setCell ⟨N, k, none⟩ v') B v L := by
    intro v L hv
    refine far (World.ownsRow.kept hv hg ?_) (by decide)
    cases hb : v.ownBlock with
    | none => exact Or.inl rfl
    | some g => exact Or.inr fun e => own_ne hv hrow.1 (by decide) hb e.symm
  refine ⟨?_, ?_, ?_⟩
  · rw [List.length_set, List.map_set]; exact k2
  · intro r hr
    obtain ⟨i, hi, rfl⟩ := List.getElem_of_mem hr
    rw [List.length_set] at hi
    by_cases hik : i = k
    · subst hik
      rw [List.getElem_set_self]
      refine ⟨?_, ?_⟩
      · show (w1.setCell ⟨N, i, none⟩ v').ownsRow B 36 2 v' (rows[i].2 ++ [(d, u)]).length (dpCells (rows[i].2 ++ [(d, u)]))
        rw [dpCells_snoc, List.length_append]
        exact far ho (by decide)
      · intro p hp
        rcases List.mem_append.1 hp with hp | hp
        · exact spn (hrow.2 p hp)
        · obtain rfl : p = (d, u) := by simpa using hp
          exact spn hu
    · rw [List.getElem_set_ne (fun e => hik e.symm)]
      have hri := h2 _ (List.getElem_mem hi)
      refine ⟨far (hri.1.kept hg ?_) (by decide), fun p hp => spn (hri.2 p hp)⟩
      cases hb : rows[i].1.ownBlock with
      | none => exact Or.inl rfl
      | some g =>
        refine Or.inr fun e => ?_
        have := h3 i k hi hk hik (by rw [hb, ← e])
        rw [hb] at this
        cases this
  · intro i j hi0 hj0 hij he
    have hi : i < rows.length := by rw [List.length_set] at hi0; exact hi0
    have hj : j < rows.length := by rw [List.length_set] at hj0; exact hj0
    have old : ∀ m (hm : m < rows.length), ∀ g, rows[m].1.ownBlock = some g → g < w.heap.size := fun m hm g hg2 => ((h2 _ (List.getElem_mem hm)).1.lt g hg2).2
    by_cases hik : i = k
    · subst hik
      have hji : i ≠ j := hij
      rw [List.getElem_set_self] at he ⊢
      rw [List.getElem_set_ne hji] at he
      rcases hat with e | e
      · rw [show ((v', rows[i].2 ++ [(d, u)]) : Value × List (Dp × Value)).1 = v' from rfl, e] at he ⊢
        exact h3 i j hi hj hij he
      · rw [show ((v', rows[i].2 ++ [(d, u)]) : Value × List (Dp × Value)).1 = v' from rfl, e] at he
        have := old j hj _ he.symm
        omega
    · rw [List.getElem_set_ne (fun e => hik e.symm)] at he ⊢
      by_cases hjk : j = k
      · subst hjk
        rw [List.getElem_set_self] at he
        rcases hat with e | e
        · rw [show ((v', rows[j].2 ++ [(d, u)]) : Value × List (Dp × Value)).1 = v' from rfl, e] at he
          exact h3 i j hi hj hij he
        · rw [show ((v', rows[j].2 ++ [(d, u)]) : Value × List (Dp × Value)).1 = v' from rfl, e] at he
          have := old i hi _ he
          omega
      · rw [List.getElem_set_ne (fun e => hjk e.symm)] at he
        exact h3 i j hi hj hij he

/-- What lies in the lists. -/
def plainR (rows : List (Value × List (Dp × Value))) : List (List Dp) := rows.map fun r => r.2.map (·.1)
/-- The place of a word in a list of words. -/
def idxW : List Sc.Bs → Sc.Bs → Int
  | [], _ => -1
  | x :: X, s => if s = x then 0 else if idxW X s = -1 then -1 else idxW X s + 1
/-- A dependency that a line tells. -/
def lineDp (ln : List Sc.Bs) : Dp := ⟨Sc.ba (ln.getD 1 []), (parL (parR (jnT (ln.drop 2)))).map spR⟩
/-- What Read answers. -/
def readF (X : List Sc.Bs) : Nat → List (List Dp) → List (List Sc.Bs) → Int × List (List Dp)
  | _, acc, [] => (0, acc)
  | a, acc, ln :: r =>
    if ln.length < 3 then (22, []) else
    if idxW X (ln.getD 0 []) < (a : Int) then (22, []) else
    if depE (lastN (acc.getD (idxW X (ln.getD 0 [])).toNat [])) (Sc.ba (ln.getD 1 [])) (ln.drop 2) = 0 then
      readF X (idxW X (ln.getD 0 [])).toNat (acc.set (idxW X (ln.getD 0 [])).toNat (acc.getD (idxW X (ln.getD 0 [])).toNat [] ++ [lineDp ln])) r
    else (depE (lastN (acc.getD (idxW X (ln.getD 0 [])).toNat [])) (Sc.ba (ln.getD 1 [])) (ln.drop 2), [])
theorem idxW_lt : ∀ (X : List Sc.Bs) (s : Sc.Bs), idxW X s < (X.length : Int) ∧ -1 ≤ idxW X s
  | [], _ => by simp [idxW]
  | x :: X, s => by
    have := idxW_lt X s
    unfold idxW
    simp only [List.length_cons]
    split
    · omega
    · split <;> omega
end Go.Proofs.YtjfbgiajjkjghaaGreatDoor
