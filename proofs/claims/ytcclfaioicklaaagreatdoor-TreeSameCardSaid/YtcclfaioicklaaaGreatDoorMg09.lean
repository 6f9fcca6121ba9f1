/- Ps3, laid in one text. -/
import Derived.Test.YtcclfaioicklaaaGreatDoorMg08
namespace Go.Proofs.YtcclfaioicklaaaGreatDoor
open Go.RowKit
set_option maxRecDepth 100000

/-- The words of the lines. -/
def lwK : Nat → ByteArray
  | 0 => ⟨#[110, 101, 101, 100, 115]⟩
  | 1 => ⟨#[98, 101, 115, 105, 100, 101]⟩
  | _ => ⟨#[108, 105, 107, 101, 115]⟩

theorem lw_size (k : Nat) : (lwK k).size ≤ 16 := by
  match k with
  | 0 | 1 => decide
  | _ + 2 => show (⟨#[108, 105, 107, 101, 115]⟩ : ByteArray).size ≤ 16; decide

/-- A package's text. -/
def textP (P : Pg) : Sc.Bs := lineB ⟨#[112, 97, 99, 107, 97, 103, 101]⟩ P.nm (textV P.a P.b P.c) ++ (listT (lwK 0) P.d ++ (listT (lwK 1) P.p ++ listT (lwK 2) P.o))
noncomputable def writtenB (P : Pg) : Bool := soundB P && decide ((textP P).length ≤ 4096)
noncomputable def writtenT (P : Pg) : ByteArray := if writtenB P = true then ⟨(textP P).toArray⟩ else ⟨#[]⟩

/-- The block of the words. -/
def wordsO : Obj := .cells #[.string (lwK 0), .string (lwK 1), .string (lwK 2)] 9 (0, 0)

theorem listWords_any (w : World) : Calls Tryz.prog 111 #[] w fun e w' => e = .returned (.slice (some ⟨w.heap.size, 0, none⟩) 3 3) ∧ w' = w.alloc (.cells #[.string (lwK 0), .string (lwK 1), .string (lwK 2)] 9) := by
  go_enter Tryz.func111, Tryz.ntmps111
  go_wp2
  go_ret
  exact ⟨rfl, rfl⟩

theorem app_list (a b : ByteArray) : (a ++ b).data.toList = a.data.toList ++ b.data.toList := by simp

theorem app_size (a b : ByteArray) : (a ++ b).size = a.size + b.size := by simp

/-- The text so far, ahead of list k. -/
def preT (P : Pg) : Nat → Sc.Bs
  | 0 => lineB ⟨#[112, 97, 99, 107, 97, 103, 101]⟩ P.nm (textV P.a P.b P.c)
  | 1 => lineB ⟨#[112, 97, 99, 107, 97, 103, 101]⟩ P.nm (textV P.a P.b P.c) ++ listT (lwK 0) P.d
  | 2 => lineB ⟨#[112, 97, 99, 107, 97, 103, 101]⟩ P.nm (textV P.a P.b P.c) ++ listT (lwK 0) P.d ++ listT (lwK 1) P.p
  | _ => lineB ⟨#[112, 97, 99, 107, 97, 103, 101]⟩ P.nm (textV P.a P.b P.c) ++ listT (lwK 0) P.d ++ listT (lwK 1) P.p ++ listT (lwK 2) P.o

theorem preT_text (P : Pg) : preT P 3 = textP P := by unfold preT textP; simp

set_option maxHeartbeats 6400000 in
theorem written_sound {P : Pg} {v1 v2 v3 : Value} {w : World} (h : PgAt w P v1 v2 v3) (he : Env w) (hf : FL w) (hsd : soundB P = true) :
    Calls Tryz.prog 82 #[.agg #[.string P.nm, .int .i64 P.a, .int .i64 P.b, .int .i64 P.c, v1, v2, v3]] w fun e w' => e = .returned (.tuple #[.string (writtenT P), .bool (writtenB P)]) ∧ Below w.heap.size w w' := by
  have HSO : Hid (∀ w1, Below w.heap.size w w1 → Calls Tryz.prog 109 #[.agg #[.string P.nm, .int .i64 P.a, .int .i64 P.b, .int .i64 P.c, v1, v2, v3]] w1 fun e w' => e = .returned (.bool true) ∧ Below w1.heap.size w1 w') := fun w1 hb => by have := sound_any (h.below hb); rw [hsd] at this; exact this
  have hs := hsd
  unfold soundB at hs
  simp only [Bool.and_eq_true] at hs
  obtain ⟨⟨⟨hnm, hmv⟩, hd, hp, ho⟩, _⟩ := hs
  have hnz : P.nm.size ≤ 16 := by unfold Sc.nameA at hnm; rw [Bool.and_eq_true, decide_eq_true_eq, list_size] at hnm; exact hnm.2
  have hvz := text_size P.a P.b P.c
  have HPR : Hid (∀ w1, Below w.heap.size w w1 → Calls Tryz.prog 110 #[.agg #[.int .i64 P.a, .int .i64 P.b, .int .i64 P.c]] w1 fun e w' => e = .returned (.string (textV P.a P.b P.c)) ∧ Below w1.heap.size w1 w') := fun w1 hb => print_on he.tab _ _ _ w1 hb
  have HPG : Hid (∀ w1, Below w.heap.size w w1 → PgAt w1 P v1 v2 v3) := fun w1 hb => h.below hb
  have HMD : Hid (mayD P.d = true ∧ mayD P.p = true ∧ mayD P.o = true) := ⟨hd, hp, ho⟩
  have HLN : Hid ((∀ k, (listT (lwK 0) (P.d.take k)).length ≤ 80000) ∧ (∀ k, (listT (lwK 1) (P.p.take k)).length ≤ 80000) ∧ (∀ k, (listT (lwK 2) (P.o.take k)).length ≤ 80000)) := ⟨list_len (lw_size 0) hd, list_len (lw_size 1) hp, list_len (lw_size 2) ho⟩
  have hll : (lineB ⟨#[112, 97, 99, 107, 97, 103, 101]⟩ P.nm (textV P.a P.b P.c)).length ≤ 5000 := line_len (by decide) hnz (by omega)
  have HF0 := hide3 (HLN.out.1 P.d.length)
  have HF1 := hide3 (HLN.out.2.1 P.p.length)
  rw [List.take_length] at HF0 HF1
  have HSZ : Hid ((P.d.length ≤ 16 ∧ P.p.length ≤ 16) ∧ P.o.length ≤ 16) := ⟨⟨(short_may hd).1, (short_may hp).1⟩, (short_may ho).1⟩
  obtain ⟨⟨z1, z2⟩, z3⟩ := HSZ.out
  have HWB : Hid (writtenB P = decide ((textP P).length ≤ 4096)) := by unfold Hid writtenB; rw [hsd]; rfl
  have HPT := hide3 (preT_text P)
  obtain ⟨a1, c1, rfl, q1⟩ := h.1.len
  obtain ⟨a2, c2, rfl, q2⟩ := h.2.1.len
  obtain ⟨a3, c3, rfl, q3⟩ := h.2.2.len
  have HLI : Hid (∀ w1, Calls Tryz.prog 112 #[.agg #[.string P.nm, .int .i64 P.a, .int .i64 P.b, .int .i64 P.c, .slice a1 P.d.length c1, .slice a2 P.p.length c2, .slice a3 P.o.length c3]] w1 fun e w' => e = .returned (.agg #[.slice a1 P.d.length c1, .slice a2 P.p.length c2, .slice a3 P.o.length c3]) ∧ Below w1.heap.size w1 w') := lists_any _ _ _ _ _ _ _ _ _ _ _ _ _
  have HLE : Hid (∀ w1 l w', TW w1 l w' → Calls Tryz.prog 114 #[.pointer (some ⟨w1.heap.size, 0, none⟩)] w' fun e w2 => e = .returned (.int .i64 l.length) ∧ w2 = w') := fun w1 l w' h => Len_any h.1
  have HST : Hid (∀ w1 l w', TW w1 l w' → Calls Tryz.prog 36 #[.pointer (some ⟨w1.heap.size, 0, none⟩)] w' fun e w2 => e = .returned (.string ⟨l.toArray⟩) ∧ Below w1.heap.size w' w2) := fun w1 l w' h => Tryz.Builder_String_any _ _ l w' h.1 h.2.size
  have HWR : Hid (∀ w1, Below w.heap.size w w1 → ∀ (l : Sc.Bs) wz (x : ByteArray) v L, TW w1 l wz → DepsAt w1 v L → mayD L = true → x.size ≤ 16 → l.length ≤ 1000000 → Calls Tryz.prog 113 #[.pointer (some ⟨w1.heap.size, 0, none⟩), .string x, v] wz fun e w' => e = .returned (.tuple #[]) ∧ TW w1 (l ++ listT x L) w' ∧ FarB w1.heap.size wz w') := fun w1 hb l wz x v L h1 h2 h3 h4 h5 => Write_any h1 h2 h3 (he.below hb) (hf.below hb) h4 h5
  have HPU : Hid (∀ w1 (l : Sc.Bs) wz (s : ByteArray), TW w1 l wz → l.length ≤ 1000000 → s.size ≤ 1000000 → Calls Tryz.prog 35 #[.pointer (some ⟨w1.heap.size, 0, none⟩), .string s] wz fun e w' => e = .returned (.tuple #[.int .i64 s.size, .nilIface]) ∧ TW w1 (l ++ s.data.toList) w' ∧ FarB w1.heap.size wz w') := fun w1 l wz s h1 h2 h3 => h1.put s (by omega) h3
  have HHD : Hid ([] ++ (⟨#[112, 97, 99, 107, 97, 103, 101, 32]⟩ ++ P.nm ++ ⟨#[32]⟩ ++ textV P.a P.b P.c ++ ⟨#[10]⟩ : ByteArray).data.toList = preT P 0 ∧ (⟨#[112, 97, 99, 107, 97, 103, 101, 32]⟩ ++ P.nm ++ ⟨#[32]⟩ ++ textV P.a P.b P.c ++ ⟨#[10]⟩ : ByteArray).size ≤ 1000000) := by
    refine ⟨by unfold preT lineB; simp, ?_⟩
    rw [app_size, app_size, app_size, app_size]
    have e1 : (⟨#[112, 97, 99, 107, 97, 103, 101, 32]⟩ : ByteArray).size = 8 := rfl
    have e2 : (⟨#[32]⟩ : ByteArray).size = 1 := rfl
    have e3 : (⟨#[10]⟩ : ByteArray).size = 1 := rfl
    omega
  have ix0 := index3_0
  have ix1 := index3_1
  have ix2 := index3_2
  clear h he hf hsd hnm hmv hd hp ho
  have HBX : Hid (BxP (w.alloc (.cells #[.string P.nm, .int .i64 P.a, .int .i64 P.b, .int .i64 P.c, .slice a1 P.d.length c1, .slice a2 P.p.length c2, .slice a3 P.o.length c3] 44)) w.heap.size P.nm P.a P.b P.c (.slice a1 P.d.length c1) (.slice a2 P.p.length c2) (.slice a3 P.o.length c3)) := BxP.new rfl _ _ _ _ _ _ _
  have HKB : Hid (KeepP fun w1 => BxP w1 w.heap.size P.nm P.a P.b P.c (.slice a1 P.d.length c1) (.slice a2 P.p.length c2) (.slice a3 P.o.length c3)) := keepBxP _ _ _ _ _ _ _ _
  go_enter Tryz.func82, Tryz.ntmps82
  go_wp2_with (go_at_call 109; refine (HSO.out _ (boxB _ _)).mono ?_; rintro e w1 ⟨rfl, ok⟩; have HO1 : Hid (Below w.heap.size w w1 ∧ BxP w1 w.heap.size P.nm P.a P.b P.c (.slice a1 P.d.length c1) (.slice a2 P.p.length c2) (.slice a3 P.o.length c3)) := ⟨below_then (boxB _ _) ok, HKB.out _ _ HBX.out ok⟩; clear ok HBX)
  have e1 := fun W : World => run_string_add_sum (P := Tryz.prog) (w := W) ⟨#[112, 97, 99, 107, 97, 103, 101, 32]⟩ P.nm (by rw [show (⟨#[112, 97, 99, 107, 97, 103, 101, 32]⟩ : ByteArray).size = 8 from rfl]; omega)
  have e2 := fun W : World => run_string_add_sum (P := Tryz.prog) (w := W) (⟨#[112, 97, 99, 107, 97, 103, 101, 32]⟩ ++ P.nm) ⟨#[32]⟩ (by rw [app_size, show (⟨#[112, 97, 99, 107, 97, 103, 101, 32]⟩ : ByteArray).size = 8 from rfl, show (⟨#[32]⟩ : ByteArray).size = 1 from rfl]; omega)
  have e3 := fun W : World => run_string_add_sum (P := Tryz.prog) (w := W) (⟨#[112, 97, 99, 107, 97, 103, 101, 32]⟩ ++ P.nm ++ ⟨#[32]⟩) (textV P.a P.b P.c) (by rw [app_size, app_size, show (⟨#[112, 97, 99, 107, 97, 103, 101, 32]⟩ : ByteArray).size = 8 from rfl, show (⟨#[32]⟩ : ByteArray).size = 1 from rfl]; omega)
  have e4 := fun W : World => run_string_add_sum (P := Tryz.prog) (w := W) (⟨#[112, 97, 99, 107, 97, 103, 101, 32]⟩ ++ P.nm ++ ⟨#[32]⟩ ++ textV P.a P.b P.c) ⟨#[10]⟩ (by rw [app_size, app_size, app_size, show (⟨#[112, 97, 99, 107, 97, 103, 101, 32]⟩ : ByteArray).size = 8 from rfl, show (⟨#[32]⟩ : ByteArray).size = 1 from rfl, show (⟨#[10]⟩ : ByteArray).size = 1 from rfl]; omega)
  have HT0 : Hid (TW w1 [] (w1.alloc (.cells #[.pointer none, .slice none 0 0] 63))) := TW.new w1
  have HBP : Hid (∀ w', Below w1.heap.size w1 w' → BxP w' w.heap.size P.nm P.a P.b P.c (.slice a1 P.d.length c1) (.slice a2 P.p.length c2) (.slice a3 P.o.length c3)) := fun w' hb => HKB.out _ _ HO1.out.2 hb
  obtain ⟨k0, k1, k2, k3, k4, k5, k6, k7⟩ := HBP.out _ HT0.out.2
  go_region_held3 (fun w' => w'.cell? ⟨w.heap.size, 0, none⟩ = some (.string P.nm) ∧ w'.cell? ⟨w.heap.size, 1, none⟩ = some (.int .i64 P.a) ∧ w'.cell? ⟨w.heap.size, 2, none⟩ = some (.int .i64 P.b) ∧ w'.cell? ⟨w.heap.size, 3, none⟩ = some (.int .i64 P.c)) (go_keep)
    (first
      | (have _h := HT0; go_at_call 110; refine (HPR.out _ (below_then HO1.out.1 (boxB _ _).drew)).mono ?_; rintro e w2 ⟨rfl, ok⟩; have HT2 := hide3 (keepTW _ _ _ _ ((keepTW _ _).drew HT0.out) ok); clear ok HT0 k0 k1 k2 k3 k4 k5 k6 k7; obtain ⟨k0, k1, k2, k3, k4, k5, k6, k7⟩ := HBP.out _ HT2.out.2)
      | (have _h := HT2; go_at_call 35; refine (HPU.out w1 [] _ _ HT2.out (by decide) HHD.out.2).mono ?_; rintro e w3 ⟨rfl, ok, _⟩; have HT3 : Hid (TW w1 (preT P 0) w3) := (by have h3 := ok; rw [HHD.out.1] at h3; exact h3); clear ok HT2 k0 k1 k2 k3 k4 k5 k6 k7; obtain ⟨k0, k1, k2, k3, k4, k5, k6, k7⟩ := HBP.out _ HT3.out.2))
  go_wp2_with (first
    | (go_at_call 111; refine (listWords_any _).mono ?_; rintro e w3b ⟨rfl, hw3b⟩; have HT3b : Hid (TW w1 (preT P 0) w3b ∧ w3b.heap[w3.heap.size]? = some wordsO ∧ w1.heap.size < w3.heap.size) := (by rw [hw3b]; exact ⟨keepTW _ _ _ _ HT3.out (boxB _ _), (by show (w3.heap.push _)[w3.heap.size]? = _; rw [Array.getElem?_push, if_pos rfl]; rfl), HT3.out.far⟩); clear hw3b k0 k1 k2 k3 k4 k5 k6 k7; obtain ⟨k0, k1, k2, k3, k4, k5, k6, k7⟩ := HBP.out _ HT3b.out.1.2)
    | (go_at_call 112; refine (HLI.out _).mono ?_; rintro e w4 ⟨rfl, ok⟩; have HT4 : Hid (TW w1 (preT P 0) w4 ∧ w4.heap[w3.heap.size]? = some wordsO ∧ w1.heap.size < w3.heap.size) := ⟨keepTW _ _ _ _ HT3b.out.1 ok, (ok.block _ (Array.getElem?_eq_some_iff.1 HT3b.out.2.1).1).trans HT3b.out.2.1, HT3b.out.2.2⟩; clear ok HT3b))
  clear k0 k1 k2 k3 k4 k5 k6 k7
  go_loopw [24] (fun i wr => ∃ k : Nat, k ≤ 3 ∧ i = .int .i64 k ∧ TW w1 (preT P k) wr ∧ wr.heap[w3.heap.size]? = some wordsO ∧ w1.heap.size < w3.heap.size) (fun i _ => 3 - (intOf i).toNat)
  case atStart => exact ⟨0, Nat.zero_le _, rfl, HT4.out⟩
  case round =>
    obtain ⟨k, hk, rfl, htw⟩ := hrel
    rcases (show k = 0 ∨ k = 1 ∨ k = 2 ∨ k = 3 by omega) with rfl | rfl | rfl | rfl
    · have HTK := hide3 htw
      clear htw
      have g0 : wr.cell? ⟨w3.heap.size, 0, none⟩ = some (.string (lwK 0)) := by rw [Lib.cell_of_heap HTK.out.2.1]; rfl
      have hpl : (preT P 0).length ≤ 1000000 := by
        have h2 := HF0.out
        have h3 := HF1.out
        simp only [preT] at *
        omega
      go_wp2_with (go_at_call 113; refine (HWR.out w1 HO1.out.1 _ _ (lwK 0) _ P.d HTK.out.1 (HPG.out w1 HO1.out.1).1 HMD.out.1 (lw_size 0) hpl).mono ?_; rintro e w5 ⟨rfl, ok, far⟩; have HT5 : Hid (TW w1 (preT P (0 + 1)) w5 ∧ w5.heap[w3.heap.size]? = some wordsO ∧ w1.heap.size < w3.heap.size) := ⟨ok, far _ _ _ _ HTK.out.2.1 (by decide) (by have := HTK.out.2.2; omega), HTK.out.2.2⟩; clear ok far)
      exact ⟨⟨0 + 1, by omega, rfl, HT5.out⟩, by simp [intOf]⟩
    · have HTK := hide3 htw
      clear htw
      have g0 : wr.cell? ⟨w3.heap.size, 1, none⟩ = some (.string (lwK 1)) := by rw [Lib.cell_of_heap HTK.out.2.1]; rfl
      have hpl : (preT P 1).length ≤ 1000000 := by
        have h2 := HF0.out
        have h3 := HF1.out
        simp only [preT, List.length_append] at *
        omega
      go_wp2_with (go_at_call 113; refine (HWR.out w1 HO1.out.1 _ _ (lwK 1) _ P.p HTK.out.1 (HPG.out w1 HO1.out.1).2.1 HMD.out.2.1 (lw_size 1) hpl).mono ?_; rintro e w5 ⟨rfl, ok, far⟩; have HT5 : Hid (TW w1 (preT P (1 + 1)) w5 ∧ w5.heap[w3.heap.size]? = some wordsO ∧ w1.heap.size < w3.heap.size) := ⟨ok, far _ _ _ _ HTK.out.2.1 (by decide) (by have := HTK.out.2.2; omega), HTK.out.2.2⟩; clear ok far)
      exact ⟨⟨1 + 1, by omega, rfl, HT5.out⟩, by simp [intOf]⟩
    · have HTK := hide3 htw
      clear htw
      have g0 : wr.cell? ⟨w3.heap.size, 2, none⟩ = some (.string (lwK 2)) := by rw [Lib.cell_of_heap HTK.out.2.1]; rfl
      have hpl : (preT P 2).length ≤ 1000000 := by
        have h2 := HF0.out
        have h3 := HF1.out
        simp only [preT, List.length_append] at *
        omega
      go_wp2_with (go_at_call 113; refine (HWR.out w1 HO1.out.1 _ _ (lwK 2) _ P.o HTK.out.1 (HPG.out w1 HO1.out.1).2.2 HMD.out.2.2 (lw_size 2) hpl).mono ?_; rintro e w5 ⟨rfl, ok, far⟩; have HT5 : Hid (TW w1 (preT P (2 + 1)) w5 ∧ w5.heap[w3.heap.size]? = some wordsO ∧ w1.heap.size < w3.heap.size) := ⟨ok, far _ _ _ _ HTK.out.2.1 (by decide) (by have := HTK.out.2.2; omega), HTK.out.2.2⟩; clear ok far)
      exact ⟨⟨2 + 1, by omega, rfl, HT5.out⟩, by simp [intOf]⟩
    · have HTE := hide3 htw.1
      rw [HPT.out] at HTE
      clear htw
      by_cases hlen : (textP P).length ≤ 4096
      · have HR : Hid (writtenB P = true ∧ writtenT P = ⟨(textP P).toArray⟩) := by
          have : writtenB P = true := by rw [HWB.out]; exact decide_eq_true hlen
          exact ⟨this, by unfold writtenT; rw [if_pos this]⟩
        go_wp2_with (first
          | (go_at_call 114; refine (HLE.out _ _ _ HTE.out).mono ?_; rintro e w5 ⟨rfl, rfl⟩)
          | (go_at_call 36; refine (HST.out _ _ _ HTE.out).mono ?_; rintro e w6 ⟨rfl, ok⟩; have HB6 := hide3 (below_then HO1.out.1 (HTE.out.2.trans ok)); clear ok))
        go_ret2
        exact ⟨by rw [HR.out.1, HR.out.2]; rfl, HB6.out⟩
      · have HR : Hid (writtenB P = false ∧ writtenT P = ⟨#[]⟩) := by
          have : writtenB P = false := by rw [HWB.out]; exact decide_eq_false hlen
          exact ⟨this, by unfold writtenT; rw [if_neg (by rw [this]; simp)]⟩
        go_wp2_with (go_at_call 114; refine (HLE.out _ _ _ HTE.out).mono ?_; rintro e w5 ⟨rfl, rfl⟩)
        go_ret2
        exact ⟨by rw [HR.out.1, HR.out.2]; rfl, below_then HO1.out.1 HTE.out.2⟩

theorem written_any {P : Pg} {v1 v2 v3 : Value} {w : World} (h : PgAt w P v1 v2 v3) (he : Env w) (hf : FL w) :
    Calls Tryz.prog 82 #[.agg #[.string P.nm, .int .i64 P.a, .int .i64 P.b, .int .i64 P.c, v1, v2, v3]] w fun e w' => e = .returned (.tuple #[.string (writtenT P), .bool (writtenB P)]) ∧ Below w.heap.size w w' := by
  cases hsd : soundB P
  · have HSO : Hid (∀ w1, Below w.heap.size w w1 → Calls Tryz.prog 109 #[.agg #[.string P.nm, .int .i64 P.a, .int .i64 P.b, .int .i64 P.c, v1, v2, v3]] w1 fun e w' => e = .returned (.bool false) ∧ Below w1.heap.size w1 w') := fun w1 hb => by have := sound_any (h.below hb); rw [hsd] at this; exact this
    have HR : Hid (writtenB P = false ∧ writtenT P = ⟨#[]⟩) := by
      have : writtenB P = false := by unfold writtenB; rw [hsd]; rfl
      exact ⟨this, by unfold writtenT; rw [if_neg (by rw [this]; simp)]⟩
    obtain ⟨a1, c1, rfl⟩ := h.1.sl
    obtain ⟨a2, c2, rfl⟩ := h.2.1.sl
    obtain ⟨a3, c3, rfl⟩ := h.2.2.sl
    clear h he hf hsd
    go_enter Tryz.func82, Tryz.ntmps82
    go_wp2_with (go_at_call 109; refine (HSO.out _ (boxB _ _)).mono ?_; rintro e w1 ⟨rfl, ok⟩; have HO1 := hide3 (below_then (boxB _ _) ok); clear ok)
    go_ret2
    exact ⟨by rw [HR.out.1, HR.out.2]; rfl, HO1.out⟩
  · exact written_sound h he hf hsd

/-- May of package pack. -/
theorem pMay_any {P : Pg} {v1 v2 v3 : Value} {w : World} (h : PgAt w P v1 v2 v3) (he : Env w) (hf : FL w) :
    Calls Tryz.prog 61 #[.agg #[.string P.nm, .int .i64 P.a, .int .i64 P.b, .int .i64 P.c, v1, v2, v3]] w fun e w' => e = .returned (.bool (writtenB P)) ∧ Below w.heap.size w w' := by
  have HW : Hid (∀ w1, Below w.heap.size w w1 → Calls Tryz.prog 82 #[.agg #[.string P.nm, .int .i64 P.a, .int .i64 P.b, .int .i64 P.c, v1, v2, v3]] w1 fun e w' => e = .returned (.tuple #[.string (writtenT P), .bool (writtenB P)]) ∧ Below w1.heap.size w1 w') := fun w1 hb => written_any (h.below hb) (he.below hb) (hf.below hb)
  obtain ⟨a1, c1, rfl⟩ := h.1.sl
  obtain ⟨a2, c2, rfl⟩ := h.2.1.sl
  obtain ⟨a3, c3, rfl⟩ := h.2.2.sl
  clear h he hf
  go_enter Tryz.func61, Tryz.ntmps61
  go_wp2_with (go_at_call 82; refine (HW.out _ (boxB _ _)).mono ?_; rintro e w1 ⟨rfl, ok⟩; have HO1 := hide3 (below_then (boxB _ _) ok); clear ok)
  go_ret
  exact ⟨rfl, HO1.out⟩

end Go.Proofs.YtcclfaioicklaaaGreatDoor
