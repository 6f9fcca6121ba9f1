/- Rk6, Rk9, Rk7d, Rc1, Ct23, laid in one text. -/
import Derived.Deep.QuietTactic
import Derived.BigQuiet
import Derived.Test.YtjpmlagofcgheaaGreatDoorMg20
namespace Go.Proofs.YtjpmlagofcgheaaGreatDoor
open Go.RowKit
set_option maxRecDepth 100000

set_option maxHeartbeats 3200000 in
theorem rText_any {P : Pg} {v1 v2 v3 : Value} {w : World} (h : PgAt w P v1 v2 v3) (hn : P.nm.size ≤ 16) (h1 : mayD P.d = true) (h2 : mayD P.p = true) (h3 : mayD P.o = true) :
    Calls Tryz.prog 72 #[.agg #[.string P.nm, .int .i64 P.a, .int .i64 P.b, .int .i64 P.c, v1, v2, v3]] w fun e w' => e = .returned (.string ⟨(textP P).toArray⟩) ∧ Below w.heap.size w w' := by
  have HL1 : Hid (∀ w1, Below w.heap.size w w1 → Calls Tryz.prog 100 #[.string (lwK 0), v1] w1 fun e w' => e = .returned (.string ⟨(listT (lwK 0) P.d).toArray⟩) ∧ Below w1.heap.size w1 w') := fun w1 hb => rLines_is (h.1.below hb) h1 (lw_size 0)
  have HL2 : Hid (∀ w1, Below w.heap.size w w1 → Calls Tryz.prog 100 #[.string (lwK 1), v2] w1 fun e w' => e = .returned (.string ⟨(listT (lwK 1) P.p).toArray⟩) ∧ Below w1.heap.size w1 w') := fun w1 hb => rLines_is (h.2.1.below hb) h2 (lw_size 1)
  have HL3 : Hid (∀ w1, Below w.heap.size w w1 → Calls Tryz.prog 100 #[.string (lwK 2), v3] w1 fun e w' => e = .returned (.string ⟨(listT (lwK 2) P.o).toArray⟩) ∧ Below w1.heap.size w1 w') := fun w1 hb => rLines_is (h.2.2.below hb) h3 (lw_size 2)
  have HPV : Hid (∀ w1, Calls Tryz.prog 99 #[.agg #[.int .i64 P.a, .int .i64 P.b, .int .i64 P.c]] w1 fun e w' => e = .returned (.string (textV P.a P.b P.c)) ∧ Below w1.heap.size w1 w') := fun w1 => rPrint_any _ _ _ w1
  have s1 : (⟨(listT (lwK 0) P.d).toArray⟩ : ByteArray).size ≤ 80000 := by have := list_len (lw_size 0) h1 P.d.length; rw [List.take_length] at this; rw [arr_size]; exact this
  have s2 : (⟨(listT (lwK 1) P.p).toArray⟩ : ByteArray).size ≤ 80000 := by have := list_len (lw_size 1) h2 P.p.length; rw [List.take_length] at this; rw [arr_size]; exact this
  have s3 : (⟨(listT (lwK 2) P.o).toArray⟩ : ByteArray).size ≤ 80000 := by have := list_len (lw_size 2) h3 P.o.length; rw [List.take_length] at this; rw [arr_size]; exact this
  have sv := text_size P.a P.b P.c
  have HTX : Hid ((⟨#[112, 97, 99, 107, 97, 103, 101, 32]⟩ ++ P.nm ++ ⟨#[32]⟩ ++ textV P.a P.b P.c ++ ⟨#[10]⟩ ++ ⟨(listT (lwK 0) P.d).toArray⟩ ++ ⟨(listT (lwK 1) P.p).toArray⟩ ++ ⟨(listT (lwK 2) P.o).toArray⟩ : ByteArray) = ⟨(textP P).toArray⟩) := by
    refine same_list ?_
    simp only [catL]
    unfold textP lineB
    simp
  have k0 : lwK 0 = ⟨#[110, 101, 101, 100, 115]⟩ := rfl
  have k1 : lwK 1 = ⟨#[98, 101, 115, 105, 100, 101]⟩ := rfl
  have k2 : lwK 2 = ⟨#[108, 105, 107, 101, 115]⟩ := rfl
  obtain ⟨a1, c1, rfl⟩ := h.1.sl
  obtain ⟨a2, c2, rfl⟩ := h.2.1.sl
  obtain ⟨a3, c3, rfl⟩ := h.2.2.sl
  clear h h1 h2 h3
  generalize textP P = TP at *
  generalize (⟨(listT (lwK 0) P.d).toArray⟩ : ByteArray) = T1 at *
  generalize (⟨(listT (lwK 1) P.p).toArray⟩ : ByteArray) = T2 at *
  generalize (⟨(listT (lwK 2) P.o).toArray⟩ : ByteArray) = T3 at *
  generalize textV P.a P.b P.c = TV at *
  rw [k0] at HL1
  rw [k1] at HL2
  rw [k2] at HL3
  clear k0 k1 k2
  have z0 : (⟨#[112, 97, 99, 107, 97, 103, 101, 32]⟩ : ByteArray).size = 8 := rfl
  have z1 : (⟨#[32]⟩ : ByteArray).size = 1 := rfl
  have z2 : (⟨#[10]⟩ : ByteArray).size = 1 := rfl
  have e1 := fun W : World => run_string_add_sum (P := Tryz.prog) (w := W) (⟨#[112, 97, 99, 107, 97, 103, 101, 32]⟩) P.nm (by omega)
  have e2 := fun W : World => run_string_add_sum (P := Tryz.prog) (w := W) (⟨#[112, 97, 99, 107, 97, 103, 101, 32]⟩ ++ P.nm) ⟨#[32]⟩ (by rw [catZ]; omega)
  have e3 := fun W : World => run_string_add_sum (P := Tryz.prog) (w := W) (⟨#[112, 97, 99, 107, 97, 103, 101, 32]⟩ ++ P.nm ++ ⟨#[32]⟩) TV (by rw [catZ, catZ]; omega)
  have e4 := fun W : World => run_string_add_sum (P := Tryz.prog) (w := W) (⟨#[112, 97, 99, 107, 97, 103, 101, 32]⟩ ++ P.nm ++ ⟨#[32]⟩ ++ TV) ⟨#[10]⟩ (by rw [catZ, catZ, catZ]; omega)
  have e5 := fun W : World => run_string_add_sum (P := Tryz.prog) (w := W) (⟨#[112, 97, 99, 107, 97, 103, 101, 32]⟩ ++ P.nm ++ ⟨#[32]⟩ ++ TV ++ ⟨#[10]⟩) T1 (by rw [catZ, catZ, catZ, catZ]; omega)
  have e6 := fun W : World => run_string_add_sum (P := Tryz.prog) (w := W) (⟨#[112, 97, 99, 107, 97, 103, 101, 32]⟩ ++ P.nm ++ ⟨#[32]⟩ ++ TV ++ ⟨#[10]⟩ ++ T1) T2 (by rw [catZ, catZ, catZ, catZ, catZ]; omega)
  have e7 := fun W : World => run_string_add_sum (P := Tryz.prog) (w := W) (⟨#[112, 97, 99, 107, 97, 103, 101, 32]⟩ ++ P.nm ++ ⟨#[32]⟩ ++ TV ++ ⟨#[10]⟩ ++ T1 ++ T2) T3 (by rw [catZ, catZ, catZ, catZ, catZ, catZ]; omega)
  clear z0 z1 z2 s1 s2 s3 sv
  have HO : Hid (Below w.heap.size w (w.alloc (.cells #[.string P.nm, .int .i64 P.a, .int .i64 P.b, .int .i64 P.c, .slice a1 P.d.length c1, .slice a2 P.p.length c2, .slice a3 P.o.length c3] 34)) ∧ BxP (w.alloc (.cells #[.string P.nm, .int .i64 P.a, .int .i64 P.b, .int .i64 P.c, .slice a1 P.d.length c1, .slice a2 P.p.length c2, .slice a3 P.o.length c3] 34)) w.heap.size P.nm P.a P.b P.c (.slice a1 P.d.length c1) (.slice a2 P.p.length c2) (.slice a3 P.o.length c3)) := ⟨boxB _ _, BxP.new rfl _ _ _ _ _ _ _⟩
  have HK : Hid (KeepP fun w1 => Below w.heap.size w w1 ∧ BxP w1 w.heap.size P.nm P.a P.b P.c (.slice a1 P.d.length c1) (.slice a2 P.p.length c2) (.slice a3 P.o.length c3)) := (keepBelow w).and (keepBxP _ _ _ _ _ _ _ _)
  have HC1 : Hid (∀ w1, (Below w.heap.size w w1 ∧ BxP w1 w.heap.size P.nm P.a P.b P.c (.slice a1 P.d.length c1) (.slice a2 P.p.length c2) (.slice a3 P.o.length c3)) → Calls Tryz.prog 100 #[.string ⟨#[110, 101, 101, 100, 115]⟩, .slice a1 P.d.length c1] w1 fun e w' => e = .returned (.string T1) ∧ Below w1.heap.size w1 w') := fun w1 hh => HL1.out w1 hh.1
  have HC2 : Hid (∀ w1, (Below w.heap.size w w1 ∧ BxP w1 w.heap.size P.nm P.a P.b P.c (.slice a1 P.d.length c1) (.slice a2 P.p.length c2) (.slice a3 P.o.length c3)) → Calls Tryz.prog 100 #[.string ⟨#[98, 101, 115, 105, 100, 101]⟩, .slice a2 P.p.length c2] w1 fun e w' => e = .returned (.string T2) ∧ Below w1.heap.size w1 w') := fun w1 hh => HL2.out w1 hh.1
  have HC3 : Hid (∀ w1, (Below w.heap.size w w1 ∧ BxP w1 w.heap.size P.nm P.a P.b P.c (.slice a1 P.d.length c1) (.slice a2 P.p.length c2) (.slice a3 P.o.length c3)) → Calls Tryz.prog 100 #[.string ⟨#[108, 105, 107, 101, 115]⟩, .slice a3 P.o.length c3] w1 fun e w' => e = .returned (.string T3) ∧ Below w1.heap.size w1 w') := fun w1 hh => HL3.out w1 hh.1
  clear HL1 HL2 HL3
  go_enter Tryz.func72, Tryz.ntmps72
  go_wp2_with fail
  refine wp_region_keep HK.out (by kernel_rfl) (by kernel_rfl) (by first | exact HO.out | exact HK.out.drew HO.out) ?_
  intro C hin hout
  have HIN := hide3 hin
  have HOUT := hide3 hout
  clear hin hout HO
  repeat
    (with_reducible refine wpQuiet_step (fun K hK => ?_)
     go_simp
     first
       | (refine hK _ ?_; clear hK K)
       | (apply Exists.intro; refine ⟨fun w1 hC => ?_, hK _ ?_⟩; (focus ((first | (go_at_call 99; with_reducible exact callC HIN.out HOUT.out HK.out HPV.out w1 hC) | (go_at_call 100; with_reducible exact callC' HIN.out HOUT.out HK.out HC1.out w1 hC) | (go_at_call 100; with_reducible exact callC' HIN.out HOUT.out HK.out HC2.out w1 hC) | (go_at_call 100; with_reducible exact callC' HIN.out HOUT.out HK.out HC3.out w1 hC) | (exact rfl) | (obtain ⟨hb1, ⟨y0, y1, y2, y3, y4, y5, y6, y7⟩⟩ := HOUT.out w1 hC; clear hC; go_simp; first | done | exact rfl)); done)); clear hK K))
  refine wpQuiet_nil ?_
  intro wn hC
  have HO := hide3 (HOUT.out _ hC)
  clear hC HIN HOUT C
  obtain ⟨hb1, ⟨y0, y1, y2, y3, y4, y5, y6, y7⟩⟩ := HO.out
  go_wp2
  go_ret
  exact ⟨congrArg (fun s => Ending.returned (.string s)) HTX.out, HO.out.1⟩

/-- A package may be, as the document says. -/
def docB (P : Pg) : Bool := Sc.nameA P.nm.data.toList && mayV P.a P.b P.c && (mayD P.d && (mayD P.p && mayD P.o)) && (apartB P.d P.p && (apartB P.d P.o && apartB P.p P.o)) && decide ((textP P).length ≤ 4096)

set_option maxHeartbeats 6400000 in
theorem rMay_pk {P : Pg} {v1 v2 v3 : Value} {w : World} (h : PgAt w P v1 v2 v3) (hz : P.d.length ≤ 9223372036854775807 ∧ P.p.length ≤ 9223372036854775807 ∧ P.o.length ≤ 9223372036854775807) (hn : P.nm.size ≤ 9223372036854775807 ∧ (∀ d ∈ P.d, d.nm.size ≤ 9223372036854775807) ∧ (∀ d ∈ P.p, d.nm.size ≤ 9223372036854775807) ∧ ∀ d ∈ P.o, d.nm.size ≤ 9223372036854775807) :
    Calls Tryz.prog 36 #[.agg #[.string P.nm, .int .i64 P.a, .int .i64 P.b, .int .i64 P.c, v1, v2, v3]] w fun e w' => e = .returned (.bool (docB P)) ∧ Below w.heap.size w w' := by
  obtain ⟨a1, c1, rfl⟩ := h.1.sl
  obtain ⟨a2, c2, rfl⟩ := h.2.1.sl
  obtain ⟨a3, c3, rfl⟩ := h.2.2.sl
  have HN : Hid (∀ w1, Below w.heap.size w w1 → Calls Tryz.prog 69 #[.string P.nm] w1 fun e w' => e = .returned (.bool (Sc.nameA P.nm.data.toList)) ∧ Below w1.heap.size w1 w') := fun w1 _ => (Sc.rName_any P.nm hn.1 w1).mono fun e w' ⟨h1, h2⟩ => ⟨h1, by rw [h2]; exact Below.refl _ _⟩
  have HV : Hid (∀ w1, Below w.heap.size w w1 → Calls Tryz.prog 63 #[.agg #[.int .i64 P.a, .int .i64 P.b, .int .i64 P.c]] w1 fun e w' => e = .returned (.bool (mayV P.a P.b P.c)) ∧ Below w1.heap.size w1 w') := fun w1 _ => rMay_any _ _ _ w1
  have H1 : Hid (∀ w1, Below w.heap.size w w1 → Calls Tryz.prog 70 #[.slice a1 P.d.length c1] w1 fun e w' => e = .returned (.bool (mayD P.d)) ∧ Below w1.heap.size w1 w') := fun w1 hb => rList_any (h.1.below hb) hz.1 hn.2.1
  have H2 : Hid (∀ w1, Below w.heap.size w w1 → Calls Tryz.prog 70 #[.slice a2 P.p.length c2] w1 fun e w' => e = .returned (.bool (mayD P.p)) ∧ Below w1.heap.size w1 w') := fun w1 hb => rList_any (h.2.1.below hb) hz.2.1 hn.2.2.1
  have H3 : Hid (∀ w1, Below w.heap.size w w1 → Calls Tryz.prog 70 #[.slice a3 P.o.length c3] w1 fun e w' => e = .returned (.bool (mayD P.o)) ∧ Below w1.heap.size w1 w') := fun w1 hb => rList_any (h.2.2.below hb) hz.2.2 hn.2.2.2
  have A12 : Hid (mayD P.d = true → mayD P.p = true → ∀ w1, Below w.heap.size w w1 → Calls Tryz.prog 71 #[.slice a1 P.d.length c1, .slice a2 P.p.length c2] w1 fun e w' => e = .returned (.bool (apartB P.d P.p)) ∧ Below w1.heap.size w1 w') := fun g1 g2 w1 hb => rApart_any (h.1.below hb) (h.2.1.below hb) ⟨by have := (short_may g1).1; omega, by have := (short_may g2).1; omega⟩
  have A13 : Hid (mayD P.d = true → mayD P.o = true → ∀ w1, Below w.heap.size w w1 → Calls Tryz.prog 71 #[.slice a1 P.d.length c1, .slice a3 P.o.length c3] w1 fun e w' => e = .returned (.bool (apartB P.d P.o)) ∧ Below w1.heap.size w1 w') := fun g1 g2 w1 hb => rApart_any (h.1.below hb) (h.2.2.below hb) ⟨by have := (short_may g1).1; omega, by have := (short_may g2).1; omega⟩
  have A23 : Hid (mayD P.p = true → mayD P.o = true → ∀ w1, Below w.heap.size w w1 → Calls Tryz.prog 71 #[.slice a2 P.p.length c2, .slice a3 P.o.length c3] w1 fun e w' => e = .returned (.bool (apartB P.p P.o)) ∧ Below w1.heap.size w1 w') := fun g1 g2 w1 hb => rApart_any (h.2.1.below hb) (h.2.2.below hb) ⟨by have := (short_may g1).1; omega, by have := (short_may g2).1; omega⟩
  have HT : Hid (Sc.nameA P.nm.data.toList = true → mayD P.d = true → mayD P.p = true → mayD P.o = true → ∀ w1, Below w.heap.size w w1 → Calls Tryz.prog 72 #[.agg #[.string P.nm, .int .i64 P.a, .int .i64 P.b, .int .i64 P.c, .slice a1 P.d.length c1, .slice a2 P.p.length c2, .slice a3 P.o.length c3]] w1 fun e w' => e = .returned (.string ⟨(textP P).toArray⟩) ∧ Below w1.heap.size w1 w') := fun g0 g1 g2 g3 w1 hb => rText_any (h.below hb) (by unfold Sc.nameA at g0; rw [Bool.and_eq_true, decide_eq_true_eq, list_size] at g0; exact g0.2) g1 g2 g3
  have HD : Hid (docB P = (Sc.nameA P.nm.data.toList && mayV P.a P.b P.c && (mayD P.d && (mayD P.p && mayD P.o)) && (apartB P.d P.p && (apartB P.d P.o && apartB P.p P.o)) && decide ((textP P).length ≤ 4096))) := rfl
  have HZ : Hid ((⟨(textP P).toArray⟩ : ByteArray).size = (textP P).length) := arr_size _
  clear h hz hn
  generalize docB P = DB at *
  generalize Sc.nameA P.nm.data.toList = b0 at *
  generalize mayV P.a P.b P.c = bv at *
  generalize mayD P.d = b1 at *
  generalize mayD P.p = b2 at *
  generalize mayD P.o = b3 at *
  generalize apartB P.d P.p = p12 at *
  generalize apartB P.d P.o = p13 at *
  generalize apartB P.p P.o = p23 at *
  generalize (⟨(textP P).toArray⟩ : ByteArray) = TX at *
  generalize (textP P).length = tl at *
  cases b0
  · skip
    have HR : Hid (DB = false) := by unfold Hid; rw [HD.out]; simp
    have HK0 : Hid (KeepP fun w1 => (Below w.heap.size w w1) ∧ BxP w1 w.heap.size P.nm P.a P.b P.c (.slice a1 P.d.length c1) (.slice a2 P.p.length c2) (.slice a3 P.o.length c3)) := (KeepP.and (keepBelow w) (keepBxP _ _ _ _ _ _ _ _))
    have HO0 : Hid ((Below w.heap.size w (w.alloc (.cells #[.string P.nm, .int .i64 P.a, .int .i64 P.b, .int .i64 P.c, .slice a1 P.d.length c1, .slice a2 P.p.length c2, .slice a3 P.o.length c3] 34))) ∧ BxP (w.alloc (.cells #[.string P.nm, .int .i64 P.a, .int .i64 P.b, .int .i64 P.c, .slice a1 P.d.length c1, .slice a2 P.p.length c2, .slice a3 P.o.length c3] 34)) w.heap.size P.nm P.a P.b P.c (.slice a1 P.d.length c1) (.slice a2 P.p.length c2) (.slice a3 P.o.length c3)) := ⟨boxB _ _, BxP.new rfl _ _ _ _ _ _ _⟩
    obtain ⟨g0, g1, g2, g3, g4, g5, g6, g7⟩ := HO0.out.2
    go_enter Tryz.func36, Tryz.ntmps36
    go_wp2_with (first
      | (have _h := HO0; go_at_call 69; refine (HN.out _ (HO0.out.1)).mono ?_; rintro e y1 ⟨rfl, ok⟩; have HO1 : Hid ((Below w.heap.size w y1) ∧ BxP y1 w.heap.size P.nm P.a P.b P.c (.slice a1 P.d.length c1) (.slice a2 P.p.length c2) (.slice a3 P.o.length c3)) := HK0.out _ _ HO0.out ok; clear ok HO0 g0 g1 g2 g3 g4 g5 g6 g7; obtain ⟨g0, g1, g2, g3, g4, g5, g6, g7⟩ := HO1.out.2))
    go_ret
    exact ⟨ret_bool HR.out.symm, HO1.out.1⟩
  · cases bv
    · skip
      have HR : Hid (DB = false) := by unfold Hid; rw [HD.out]; simp
      have HK0 : Hid (KeepP fun w1 => (Below w.heap.size w w1) ∧ BxP w1 w.heap.size P.nm P.a P.b P.c (.slice a1 P.d.length c1) (.slice a2 P.p.length c2) (.slice a3 P.o.length c3)) := (KeepP.and (keepBelow w) (keepBxP _ _ _ _ _ _ _ _))
      have HO0 : Hid ((Below w.heap.size w (w.alloc (.cells #[.string P.nm, .int .i64 P.a, .int .i64 P.b, .int .i64 P.c, .slice a1 P.d.length c1, .slice a2 P.p.length c2, .slice a3 P.o.length c3] 34))) ∧ BxP (w.alloc (.cells #[.string P.nm, .int .i64 P.a, .int .i64 P.b, .int .i64 P.c, .slice a1 P.d.length c1, .slice a2 P.p.length c2, .slice a3 P.o.length c3] 34)) w.heap.size P.nm P.a P.b P.c (.slice a1 P.d.length c1) (.slice a2 P.p.length c2) (.slice a3 P.o.length c3)) := ⟨boxB _ _, BxP.new rfl _ _ _ _ _ _ _⟩
      obtain ⟨g0, g1, g2, g3, g4, g5, g6, g7⟩ := HO0.out.2
      go_enter Tryz.func36, Tryz.ntmps36
      go_wp2_with (first
        | (have _h := HO0; go_at_call 69; refine (HN.out _ (HO0.out.1)).mono ?_; rintro e y1 ⟨rfl, ok⟩; have HO1 : Hid ((Below w.heap.size w y1) ∧ BxP y1 w.heap.size P.nm P.a P.b P.c (.slice a1 P.d.length c1) (.slice a2 P.p.length c2) (.slice a3 P.o.length c3)) := HK0.out _ _ HO0.out ok; clear ok HO0 g0 g1 g2 g3 g4 g5 g6 g7; obtain ⟨g0, g1, g2, g3, g4, g5, g6, g7⟩ := HO1.out.2)
        | (have _h := HO1; go_at_call 63; refine (HV.out _ (HO1.out.1)).mono ?_; rintro e y2 ⟨rfl, ok⟩; have HO2 : Hid ((Below w.heap.size w y2) ∧ BxP y2 w.heap.size P.nm P.a P.b P.c (.slice a1 P.d.length c1) (.slice a2 P.p.length c2) (.slice a3 P.o.length c3)) := HK0.out _ _ HO1.out ok; clear ok HO1 g0 g1 g2 g3 g4 g5 g6 g7; obtain ⟨g0, g1, g2, g3, g4, g5, g6, g7⟩ := HO2.out.2))
      go_ret
      exact ⟨ret_bool HR.out.symm, HO2.out.1⟩
    · cases b1
      · skip
        have HR : Hid (DB = false) := by unfold Hid; rw [HD.out]; simp
        have HK0 : Hid (KeepP fun w1 => (Below w.heap.size w w1) ∧ BxP w1 w.heap.size P.nm P.a P.b P.c (.slice a1 P.d.length c1) (.slice a2 P.p.length c2) (.slice a3 P.o.length c3)) := (KeepP.and (keepBelow w) (keepBxP _ _ _ _ _ _ _ _))
        have HO0 : Hid ((Below w.heap.size w (w.alloc (.cells #[.string P.nm, .int .i64 P.a, .int .i64 P.b, .int .i64 P.c, .slice a1 P.d.length c1, .slice a2 P.p.length c2, .slice a3 P.o.length c3] 34))) ∧ BxP (w.alloc (.cells #[.string P.nm, .int .i64 P.a, .int .i64 P.b, .int .i64 P.c, .slice a1 P.d.length c1, .slice a2 P.p.length c2, .slice a3 P.o.length c3] 34)) w.heap.size P.nm P.a P.b P.c (.slice a1 P.d.length c1) (.slice a2 P.p.length c2) (.slice a3 P.o.length c3)) := ⟨boxB _ _, BxP.new rfl _ _ _ _ _ _ _⟩
        obtain ⟨g0, g1, g2, g3, g4, g5, g6, g7⟩ := HO0.out.2
        go_enter Tryz.func36, Tryz.ntmps36
        go_wp2_with (first
          | (have _h := HO0; go_at_call 69; refine (HN.out _ (HO0.out.1)).mono ?_; rintro e y1 ⟨rfl, ok⟩; have HO1 : Hid ((Below w.heap.size w y1) ∧ BxP y1 w.heap.size P.nm P.a P.b P.c (.slice a1 P.d.length c1) (.slice a2 P.p.length c2) (.slice a3 P.o.length c3)) := HK0.out _ _ HO0.out ok; clear ok HO0 g0 g1 g2 g3 g4 g5 g6 g7; obtain ⟨g0, g1, g2, g3, g4, g5, g6, g7⟩ := HO1.out.2)
          | (have _h := HO1; go_at_call 63; refine (HV.out _ (HO1.out.1)).mono ?_; rintro e y2 ⟨rfl, ok⟩; have HO2 : Hid ((Below w.heap.size w y2) ∧ BxP y2 w.heap.size P.nm P.a P.b P.c (.slice a1 P.d.length c1) (.slice a2 P.p.length c2) (.slice a3 P.o.length c3)) := HK0.out _ _ HO1.out ok; clear ok HO1 g0 g1 g2 g3 g4 g5 g6 g7; obtain ⟨g0, g1, g2, g3, g4, g5, g6, g7⟩ := HO2.out.2)
          | (have _h := HO2; go_at_call 70; refine (H1.out _ (HO2.out.1)).mono ?_; rintro e y3 ⟨rfl, ok⟩; have HO3 : Hid ((Below w.heap.size w y3) ∧ BxP y3 w.heap.size P.nm P.a P.b P.c (.slice a1 P.d.length c1) (.slice a2 P.p.length c2) (.slice a3 P.o.length c3)) := HK0.out _ _ HO2.out ok; clear ok HO2 g0 g1 g2 g3 g4 g5 g6 g7; obtain ⟨g0, g1, g2, g3, g4, g5, g6, g7⟩ := HO3.out.2))
        go_ret
        exact ⟨ret_bool HR.out.symm, HO3.out.1⟩
      · cases b2
        · skip
          have HR : Hid (DB = false) := by unfold Hid; rw [HD.out]; simp
          have HK0 : Hid (KeepP fun w1 => (Below w.heap.size w w1) ∧ BxP w1 w.heap.size P.nm P.a P.b P.c (.slice a1 P.d.length c1) (.slice a2 P.p.length c2) (.slice a3 P.o.length c3)) := (KeepP.and (keepBelow w) (keepBxP _ _ _ _ _ _ _ _))
          have HO0 : Hid ((Below w.heap.size w (w.alloc (.cells #[.string P.nm, .int .i64 P.a, .int .i64 P.b, .int .i64 P.c, .slice a1 P.d.length c1, .slice a2 P.p.length c2, .slice a3 P.o.length c3] 34))) ∧ BxP (w.alloc (.cells #[.string P.nm, .int .i64 P.a, .int .i64 P.b, .int .i64 P.c, .slice a1 P.d.length c1, .slice a2 P.p.length c2, .slice a3 P.o.length c3] 34)) w.heap.size P.nm P.a P.b P.c (.slice a1 P.d.length c1) (.slice a2 P.p.length c2) (.slice a3 P.o.length c3)) := ⟨boxB _ _, BxP.new rfl _ _ _ _ _ _ _⟩
          obtain ⟨g0, g1, g2, g3, g4, g5, g6, g7⟩ := HO0.out.2
          go_enter Tryz.func36, Tryz.ntmps36
          go_wp2_with (first
            | (have _h := HO0; go_at_call 69; refine (HN.out _ (HO0.out.1)).mono ?_; rintro e y1 ⟨rfl, ok⟩; have HO1 : Hid ((Below w.heap.size w y1) ∧ BxP y1 w.heap.size P.nm P.a P.b P.c (.slice a1 P.d.length c1) (.slice a2 P.p.length c2) (.slice a3 P.o.length c3)) := HK0.out _ _ HO0.out ok; clear ok HO0 g0 g1 g2 g3 g4 g5 g6 g7; obtain ⟨g0, g1, g2, g3, g4, g5, g6, g7⟩ := HO1.out.2)
            | (have _h := HO1; go_at_call 63; refine (HV.out _ (HO1.out.1)).mono ?_; rintro e y2 ⟨rfl, ok⟩; have HO2 : Hid ((Below w.heap.size w y2) ∧ BxP y2 w.heap.size P.nm P.a P.b P.c (.slice a1 P.d.length c1) (.slice a2 P.p.length c2) (.slice a3 P.o.length c3)) := HK0.out _ _ HO1.out ok; clear ok HO1 g0 g1 g2 g3 g4 g5 g6 g7; obtain ⟨g0, g1, g2, g3, g4, g5, g6, g7⟩ := HO2.out.2)
            | (have _h := HO2; go_at_call 70; refine (H1.out _ (HO2.out.1)).mono ?_; rintro e y3 ⟨rfl, ok⟩; have HO3 : Hid ((Below w.heap.size w y3) ∧ BxP y3 w.heap.size P.nm P.a P.b P.c (.slice a1 P.d.length c1) (.slice a2 P.p.length c2) (.slice a3 P.o.length c3)) := HK0.out _ _ HO2.out ok; clear ok HO2 g0 g1 g2 g3 g4 g5 g6 g7; obtain ⟨g0, g1, g2, g3, g4, g5, g6, g7⟩ := HO3.out.2)
            | (have _h := HO3; go_at_call 70; refine (H2.out _ (HO3.out.1)).mono ?_; rintro e y4 ⟨rfl, ok⟩; have HO4 : Hid ((Below w.heap.size w y4) ∧ BxP y4 w.heap.size P.nm P.a P.b P.c (.slice a1 P.d.length c1) (.slice a2 P.p.length c2) (.slice a3 P.o.length c3)) := HK0.out _ _ HO3.out ok; clear ok HO3 g0 g1 g2 g3 g4 g5 g6 g7; obtain ⟨g0, g1, g2, g3, g4, g5, g6, g7⟩ := HO4.out.2))
          go_ret
          exact ⟨ret_bool HR.out.symm, HO4.out.1⟩
        · cases b3
          · skip
            have HR : Hid (DB = false) := by unfold Hid; rw [HD.out]; simp
            have HK0 : Hid (KeepP fun w1 => (Below w.heap.size w w1) ∧ BxP w1 w.heap.size P.nm P.a P.b P.c (.slice a1 P.d.length c1) (.slice a2 P.p.length c2) (.slice a3 P.o.length c3)) := (KeepP.and (keepBelow w) (keepBxP _ _ _ _ _ _ _ _))
            have HO0 : Hid ((Below w.heap.size w (w.alloc (.cells #[.string P.nm, .int .i64 P.a, .int .i64 P.b, .int .i64 P.c, .slice a1 P.d.length c1, .slice a2 P.p.length c2, .slice a3 P.o.length c3] 34))) ∧ BxP (w.alloc (.cells #[.string P.nm, .int .i64 P.a, .int .i64 P.b, .int .i64 P.c, .slice a1 P.d.length c1, .slice a2 P.p.length c2, .slice a3 P.o.length c3] 34)) w.heap.size P.nm P.a P.b P.c (.slice a1 P.d.length c1) (.slice a2 P.p.length c2) (.slice a3 P.o.length c3)) := ⟨boxB _ _, BxP.new rfl _ _ _ _ _ _ _⟩
            obtain ⟨g0, g1, g2, g3, g4, g5, g6, g7⟩ := HO0.out.2
            go_enter Tryz.func36, Tryz.ntmps36
            go_wp2_with (first
              | (have _h := HO0; go_at_call 69; refine (HN.out _ (HO0.out.1)).mono ?_; rintro e y1 ⟨rfl, ok⟩; have HO1 : Hid ((Below w.heap.size w y1) ∧ BxP y1 w.heap.size P.nm P.a P.b P.c (.slice a1 P.d.length c1) (.slice a2 P.p.length c2) (.slice a3 P.o.length c3)) := HK0.out _ _ HO0.out ok; clear ok HO0 g0 g1 g2 g3 g4 g5 g6 g7; obtain ⟨g0, g1, g2, g3, g4, g5, g6, g7⟩ := HO1.out.2)
              | (have _h := HO1; go_at_call 63; refine (HV.out _ (HO1.out.1)).mono ?_; rintro e y2 ⟨rfl, ok⟩; have HO2 : Hid ((Below w.heap.size w y2) ∧ BxP y2 w.heap.size P.nm P.a P.b P.c (.slice a1 P.d.length c1) (.slice a2 P.p.length c2) (.slice a3 P.o.length c3)) := HK0.out _ _ HO1.out ok; clear ok HO1 g0 g1 g2 g3 g4 g5 g6 g7; obtain ⟨g0, g1, g2, g3, g4, g5, g6, g7⟩ := HO2.out.2)
              | (have _h := HO2; go_at_call 70; refine (H1.out _ (HO2.out.1)).mono ?_; rintro e y3 ⟨rfl, ok⟩; have HO3 : Hid ((Below w.heap.size w y3) ∧ BxP y3 w.heap.size P.nm P.a P.b P.c (.slice a1 P.d.length c1) (.slice a2 P.p.length c2) (.slice a3 P.o.length c3)) := HK0.out _ _ HO2.out ok; clear ok HO2 g0 g1 g2 g3 g4 g5 g6 g7; obtain ⟨g0, g1, g2, g3, g4, g5, g6, g7⟩ := HO3.out.2)
              | (have _h := HO3; go_at_call 70; refine (H2.out _ (HO3.out.1)).mono ?_; rintro e y4 ⟨rfl, ok⟩; have HO4 : Hid ((Below w.heap.size w y4) ∧ BxP y4 w.heap.size P.nm P.a P.b P.c (.slice a1 P.d.length c1) (.slice a2 P.p.length c2) (.slice a3 P.o.length c3)) := HK0.out _ _ HO3.out ok; clear ok HO3 g0 g1 g2 g3 g4 g5 g6 g7; obtain ⟨g0, g1, g2, g3, g4, g5, g6, g7⟩ := HO4.out.2)
              | (have _h := HO4; go_at_call 70; refine (H3.out _ (HO4.out.1)).mono ?_; rintro e y5 ⟨rfl, ok⟩; have HO5 : Hid ((Below w.heap.size w y5) ∧ BxP y5 w.heap.size P.nm P.a P.b P.c (.slice a1 P.d.length c1) (.slice a2 P.p.length c2) (.slice a3 P.o.length c3)) := HK0.out _ _ HO4.out ok; clear ok HO4 g0 g1 g2 g3 g4 g5 g6 g7; obtain ⟨g0, g1, g2, g3, g4, g5, g6, g7⟩ := HO5.out.2))
            go_ret
            exact ⟨ret_bool HR.out.symm, HO5.out.1⟩
          · have B12 := hide3 (A12.out (by first | rfl | trivial) (by first | rfl | trivial))
            have B13 := hide3 (A13.out (by first | rfl | trivial) (by first | rfl | trivial))
            have B23 := hide3 (A23.out (by first | rfl | trivial) (by first | rfl | trivial))
            have BT := hide3 (HT.out (by first | rfl | trivial) (by first | rfl | trivial) (by first | rfl | trivial) (by first | rfl | trivial))
            clear A12 A13 A23 HT
            cases p12
            · skip
              have HR : Hid (DB = false) := by unfold Hid; rw [HD.out]; simp
              have HK0 : Hid (KeepP fun w1 => (Below w.heap.size w w1) ∧ BxP w1 w.heap.size P.nm P.a P.b P.c (.slice a1 P.d.length c1) (.slice a2 P.p.length c2) (.slice a3 P.o.length c3)) := (KeepP.and (keepBelow w) (keepBxP _ _ _ _ _ _ _ _))
              have HO0 : Hid ((Below w.heap.size w (w.alloc (.cells #[.string P.nm, .int .i64 P.a, .int .i64 P.b, .int .i64 P.c, .slice a1 P.d.length c1, .slice a2 P.p.length c2, .slice a3 P.o.length c3] 34))) ∧ BxP (w.alloc (.cells #[.string P.nm, .int .i64 P.a, .int .i64 P.b, .int .i64 P.c, .slice a1 P.d.length c1, .slice a2 P.p.length c2, .slice a3 P.o.length c3] 34)) w.heap.size P.nm P.a P.b P.c (.slice a1 P.d.length c1) (.slice a2 P.p.length c2) (.slice a3 P.o.length c3)) := ⟨boxB _ _, BxP.new rfl _ _ _ _ _ _ _⟩
              obtain ⟨g0, g1, g2, g3, g4, g5, g6, g7⟩ := HO0.out.2
              go_enter Tryz.func36, Tryz.ntmps36
              go_wp2_with (first
                | (have _h := HO0; go_at_call 69; refine (HN.out _ (HO0.out.1)).mono ?_; rintro e y1 ⟨rfl, ok⟩; have HO1 : Hid ((Below w.heap.size w y1) ∧ BxP y1 w.heap.size P.nm P.a P.b P.c (.slice a1 P.d.length c1) (.slice a2 P.p.length c2) (.slice a3 P.o.length c3)) := HK0.out _ _ HO0.out ok; clear ok HO0 g0 g1 g2 g3 g4 g5 g6 g7; obtain ⟨g0, g1, g2, g3, g4, g5, g6, g7⟩ := HO1.out.2)
                | (have _h := HO1; go_at_call 63; refine (HV.out _ (HO1.out.1)).mono ?_; rintro e y2 ⟨rfl, ok⟩; have HO2 : Hid ((Below w.heap.size w y2) ∧ BxP y2 w.heap.size P.nm P.a P.b P.c (.slice a1 P.d.length c1) (.slice a2 P.p.length c2) (.slice a3 P.o.length c3)) := HK0.out _ _ HO1.out ok; clear ok HO1 g0 g1 g2 g3 g4 g5 g6 g7; obtain ⟨g0, g1, g2, g3, g4, g5, g6, g7⟩ := HO2.out.2)
                | (have _h := HO2; go_at_call 70; refine (H1.out _ (HO2.out.1)).mono ?_; rintro e y3 ⟨rfl, ok⟩; have HO3 : Hid ((Below w.heap.size w y3) ∧ BxP y3 w.heap.size P.nm P.a P.b P.c (.slice a1 P.d.length c1) (.slice a2 P.p.length c2) (.slice a3 P.o.length c3)) := HK0.out _ _ HO2.out ok; clear ok HO2 g0 g1 g2 g3 g4 g5 g6 g7; obtain ⟨g0, g1, g2, g3, g4, g5, g6, g7⟩ := HO3.out.2)
                | (have _h := HO3; go_at_call 70; refine (H2.out _ (HO3.out.1)).mono ?_; rintro e y4 ⟨rfl, ok⟩; have HO4 : Hid ((Below w.heap.size w y4) ∧ BxP y4 w.heap.size P.nm P.a P.b P.c (.slice a1 P.d.length c1) (.slice a2 P.p.length c2) (.slice a3 P.o.length c3)) := HK0.out _ _ HO3.out ok; clear ok HO3 g0 g1 g2 g3 g4 g5 g6 g7; obtain ⟨g0, g1, g2, g3, g4, g5, g6, g7⟩ := HO4.out.2)
                | (have _h := HO4; go_at_call 70; refine (H3.out _ (HO4.out.1)).mono ?_; rintro e y5 ⟨rfl, ok⟩; have HO5 : Hid ((Below w.heap.size w y5) ∧ BxP y5 w.heap.size P.nm P.a P.b P.c (.slice a1 P.d.length c1) (.slice a2 P.p.length c2) (.slice a3 P.o.length c3)) := HK0.out _ _ HO4.out ok; clear ok HO4 g0 g1 g2 g3 g4 g5 g6 g7; obtain ⟨g0, g1, g2, g3, g4, g5, g6, g7⟩ := HO5.out.2)
                | (have _h := HO5; go_at_call 71; refine (B12.out _ (HO5.out.1)).mono ?_; rintro e y6 ⟨rfl, ok⟩; have HO6 : Hid ((Below w.heap.size w y6) ∧ BxP y6 w.heap.size P.nm P.a P.b P.c (.slice a1 P.d.length c1) (.slice a2 P.p.length c2) (.slice a3 P.o.length c3)) := HK0.out _ _ HO5.out ok; clear ok HO5 g0 g1 g2 g3 g4 g5 g6 g7; obtain ⟨g0, g1, g2, g3, g4, g5, g6, g7⟩ := HO6.out.2))
              go_ret
              exact ⟨ret_bool HR.out.symm, HO6.out.1⟩
            · cases p13
              · skip
                have HR : Hid (DB = false) := by unfold Hid; rw [HD.out]; simp
                have HK0 : Hid (KeepP fun w1 => (Below w.heap.size w w1) ∧ BxP w1 w.heap.size P.nm P.a P.b P.c (.slice a1 P.d.length c1) (.slice a2 P.p.length c2) (.slice a3 P.o.length c3)) := (KeepP.and (keepBelow w) (keepBxP _ _ _ _ _ _ _ _))
                have HO0 : Hid ((Below w.heap.size w (w.alloc (.cells #[.string P.nm, .int .i64 P.a, .int .i64 P.b, .int .i64 P.c, .slice a1 P.d.length c1, .slice a2 P.p.length c2, .slice a3 P.o.length c3] 34))) ∧ BxP (w.alloc (.cells #[.string P.nm, .int .i64 P.a, .int .i64 P.b, .int .i64 P.c, .slice a1 P.d.length c1, .slice a2 P.p.length c2, .slice a3 P.o.length c3] 34)) w.heap.size P.nm P.a P.b P.c (.slice a1 P.d.length c1) (.slice a2 P.p.length c2) (.slice a3 P.o.length c3)) := ⟨boxB _ _, BxP.new rfl _ _ _ _ _ _ _⟩
                obtain ⟨g0, g1, g2, g3, g4, g5, g6, g7⟩ := HO0.out.2
                go_enter Tryz.func36, Tryz.ntmps36
                go_wp2_with (first
                  | (have _h := HO0; go_at_call 69; refine (HN.out _ (HO0.out.1)).mono ?_; rintro e y1 ⟨rfl, ok⟩; have HO1 : Hid ((Below w.heap.size w y1) ∧ BxP y1 w.heap.size P.nm P.a P.b P.c (.slice a1 P.d.length c1) (.slice a2 P.p.length c2) (.slice a3 P.o.length c3)) := HK0.out _ _ HO0.out ok; clear ok HO0 g0 g1 g2 g3 g4 g5 g6 g7; obtain ⟨g0, g1, g2, g3, g4, g5, g6, g7⟩ := HO1.out.2)
                  | (have _h := HO1; go_at_call 63; refine (HV.out _ (HO1.out.1)).mono ?_; rintro e y2 ⟨rfl, ok⟩; have HO2 : Hid ((Below w.heap.size w y2) ∧ BxP y2 w.heap.size P.nm P.a P.b P.c (.slice a1 P.d.length c1) (.slice a2 P.p.length c2) (.slice a3 P.o.length c3)) := HK0.out _ _ HO1.out ok; clear ok HO1 g0 g1 g2 g3 g4 g5 g6 g7; obtain ⟨g0, g1, g2, g3, g4, g5, g6, g7⟩ := HO2.out.2)
                  | (have _h := HO2; go_at_call 70; refine (H1.out _ (HO2.out.1)).mono ?_; rintro e y3 ⟨rfl, ok⟩; have HO3 : Hid ((Below w.heap.size w y3) ∧ BxP y3 w.heap.size P.nm P.a P.b P.c (.slice a1 P.d.length c1) (.slice a2 P.p.length c2) (.slice a3 P.o.length c3)) := HK0.out _ _ HO2.out ok; clear ok HO2 g0 g1 g2 g3 g4 g5 g6 g7; obtain ⟨g0, g1, g2, g3, g4, g5, g6, g7⟩ := HO3.out.2)
                  | (have _h := HO3; go_at_call 70; refine (H2.out _ (HO3.out.1)).mono ?_; rintro e y4 ⟨rfl, ok⟩; have HO4 : Hid ((Below w.heap.size w y4) ∧ BxP y4 w.heap.size P.nm P.a P.b P.c (.slice a1 P.d.length c1) (.slice a2 P.p.length c2) (.slice a3 P.o.length c3)) := HK0.out _ _ HO3.out ok; clear ok HO3 g0 g1 g2 g3 g4 g5 g6 g7; obtain ⟨g0, g1, g2, g3, g4, g5, g6, g7⟩ := HO4.out.2)
                  | (have _h := HO4; go_at_call 70; refine (H3.out _ (HO4.out.1)).mono ?_; rintro e y5 ⟨rfl, ok⟩; have HO5 : Hid ((Below w.heap.size w y5) ∧ BxP y5 w.heap.size P.nm P.a P.b P.c (.slice a1 P.d.length c1) (.slice a2 P.p.length c2) (.slice a3 P.o.length c3)) := HK0.out _ _ HO4.out ok; clear ok HO4 g0 g1 g2 g3 g4 g5 g6 g7; obtain ⟨g0, g1, g2, g3, g4, g5, g6, g7⟩ := HO5.out.2)
                  | (have _h := HO5; go_at_call 71; refine (B12.out _ (HO5.out.1)).mono ?_; rintro e y6 ⟨rfl, ok⟩; have HO6 : Hid ((Below w.heap.size w y6) ∧ BxP y6 w.heap.size P.nm P.a P.b P.c (.slice a1 P.d.length c1) (.slice a2 P.p.length c2) (.slice a3 P.o.length c3)) := HK0.out _ _ HO5.out ok; clear ok HO5 g0 g1 g2 g3 g4 g5 g6 g7; obtain ⟨g0, g1, g2, g3, g4, g5, g6, g7⟩ := HO6.out.2)
                  | (have _h := HO6; go_at_call 71; refine (B13.out _ (HO6.out.1)).mono ?_; rintro e y7 ⟨rfl, ok⟩; have HO7 : Hid ((Below w.heap.size w y7) ∧ BxP y7 w.heap.size P.nm P.a P.b P.c (.slice a1 P.d.length c1) (.slice a2 P.p.length c2) (.slice a3 P.o.length c3)) := HK0.out _ _ HO6.out ok; clear ok HO6 g0 g1 g2 g3 g4 g5 g6 g7; obtain ⟨g0, g1, g2, g3, g4, g5, g6, g7⟩ := HO7.out.2))
                go_ret
                exact ⟨ret_bool HR.out.symm, HO7.out.1⟩
              · cases p23
                · skip
                  have HR : Hid (DB = false) := by unfold Hid; rw [HD.out]; simp
                  have HK0 : Hid (KeepP fun w1 => (Below w.heap.size w w1) ∧ BxP w1 w.heap.size P.nm P.a P.b P.c (.slice a1 P.d.length c1) (.slice a2 P.p.length c2) (.slice a3 P.o.length c3)) := (KeepP.and (keepBelow w) (keepBxP _ _ _ _ _ _ _ _))
                  have HO0 : Hid ((Below w.heap.size w (w.alloc (.cells #[.string P.nm, .int .i64 P.a, .int .i64 P.b, .int .i64 P.c, .slice a1 P.d.length c1, .slice a2 P.p.length c2, .slice a3 P.o.length c3] 34))) ∧ BxP (w.alloc (.cells #[.string P.nm, .int .i64 P.a, .int .i64 P.b, .int .i64 P.c, .slice a1 P.d.length c1, .slice a2 P.p.length c2, .slice a3 P.o.length c3] 34)) w.heap.size P.nm P.a P.b P.c (.slice a1 P.d.length c1) (.slice a2 P.p.length c2) (.slice a3 P.o.length c3)) := ⟨boxB _ _, BxP.new rfl _ _ _ _ _ _ _⟩
                  obtain ⟨g0, g1, g2, g3, g4, g5, g6, g7⟩ := HO0.out.2
                  go_enter Tryz.func36, Tryz.ntmps36
                  go_wp2_with (first
                    | (have _h := HO0; go_at_call 69; refine (HN.out _ (HO0.out.1)).mono ?_; rintro e y1 ⟨rfl, ok⟩; have HO1 : Hid ((Below w.heap.size w y1) ∧ BxP y1 w.heap.size P.nm P.a P.b P.c (.slice a1 P.d.length c1) (.slice a2 P.p.length c2) (.slice a3 P.o.length c3)) := HK0.out _ _ HO0.out ok; clear ok HO0 g0 g1 g2 g3 g4 g5 g6 g7; obtain ⟨g0, g1, g2, g3, g4, g5, g6, g7⟩ := HO1.out.2)
                    | (have _h := HO1; go_at_call 63; refine (HV.out _ (HO1.out.1)).mono ?_; rintro e y2 ⟨rfl, ok⟩; have HO2 : Hid ((Below w.heap.size w y2) ∧ BxP y2 w.heap.size P.nm P.a P.b P.c (.slice a1 P.d.length c1) (.slice a2 P.p.length c2) (.slice a3 P.o.length c3)) := HK0.out _ _ HO1.out ok; clear ok HO1 g0 g1 g2 g3 g4 g5 g6 g7; obtain ⟨g0, g1, g2, g3, g4, g5, g6, g7⟩ := HO2.out.2)
                    | (have _h := HO2; go_at_call 70; refine (H1.out _ (HO2.out.1)).mono ?_; rintro e y3 ⟨rfl, ok⟩; have HO3 : Hid ((Below w.heap.size w y3) ∧ BxP y3 w.heap.size P.nm P.a P.b P.c (.slice a1 P.d.length c1) (.slice a2 P.p.length c2) (.slice a3 P.o.length c3)) := HK0.out _ _ HO2.out ok; clear ok HO2 g0 g1 g2 g3 g4 g5 g6 g7; obtain ⟨g0, g1, g2, g3, g4, g5, g6, g7⟩ := HO3.out.2)
                    | (have _h := HO3; go_at_call 70; refine (H2.out _ (HO3.out.1)).mono ?_; rintro e y4 ⟨rfl, ok⟩; have HO4 : Hid ((Below w.heap.size w y4) ∧ BxP y4 w.heap.size P.nm P.a P.b P.c (.slice a1 P.d.length c1) (.slice a2 P.p.length c2) (.slice a3 P.o.length c3)) := HK0.out _ _ HO3.out ok; clear ok HO3 g0 g1 g2 g3 g4 g5 g6 g7; obtain ⟨g0, g1, g2, g3, g4, g5, g6, g7⟩ := HO4.out.2)
                    | (have _h := HO4; go_at_call 70; refine (H3.out _ (HO4.out.1)).mono ?_; rintro e y5 ⟨rfl, ok⟩; have HO5 : Hid ((Below w.heap.size w y5) ∧ BxP y5 w.heap.size P.nm P.a P.b P.c (.slice a1 P.d.length c1) (.slice a2 P.p.length c2) (.slice a3 P.o.length c3)) := HK0.out _ _ HO4.out ok; clear ok HO4 g0 g1 g2 g3 g4 g5 g6 g7; obtain ⟨g0, g1, g2, g3, g4, g5, g6, g7⟩ := HO5.out.2)
                    | (have _h := HO5; go_at_call 71; refine (B12.out _ (HO5.out.1)).mono ?_; rintro e y6 ⟨rfl, ok⟩; have HO6 : Hid ((Below w.heap.size w y6) ∧ BxP y6 w.heap.size P.nm P.a P.b P.c (.slice a1 P.d.length c1) (.slice a2 P.p.length c2) (.slice a3 P.o.length c3)) := HK0.out _ _ HO5.out ok; clear ok HO5 g0 g1 g2 g3 g4 g5 g6 g7; obtain ⟨g0, g1, g2, g3, g4, g5, g6, g7⟩ := HO6.out.2)
                    | (have _h := HO6; go_at_call 71; refine (B13.out _ (HO6.out.1)).mono ?_; rintro e y7 ⟨rfl, ok⟩; have HO7 : Hid ((Below w.heap.size w y7) ∧ BxP y7 w.heap.size P.nm P.a P.b P.c (.slice a1 P.d.length c1) (.slice a2 P.p.length c2) (.slice a3 P.o.length c3)) := HK0.out _ _ HO6.out ok; clear ok HO6 g0 g1 g2 g3 g4 g5 g6 g7; obtain ⟨g0, g1, g2, g3, g4, g5, g6, g7⟩ := HO7.out.2)
                    | (have _h := HO7; go_at_call 71; refine (B23.out _ (HO7.out.1)).mono ?_; rintro e y8 ⟨rfl, ok⟩; have HO8 : Hid ((Below w.heap.size w y8) ∧ BxP y8 w.heap.size P.nm P.a P.b P.c (.slice a1 P.d.length c1) (.slice a2 P.p.length c2) (.slice a3 P.o.length c3)) := HK0.out _ _ HO7.out ok; clear ok HO7 g0 g1 g2 g3 g4 g5 g6 g7; obtain ⟨g0, g1, g2, g3, g4, g5, g6, g7⟩ := HO8.out.2))
                  go_ret
                  exact ⟨ret_bool HR.out.symm, HO8.out.1⟩
                · by_cases hlen : tl ≤ 4096
                  · have hz1 : decide ((TX.size : Int) ≤ 4096) = true := decide_eq_true (by have := HZ.out; omega)
                    have HR : Hid (DB = true) := by unfold Hid; rw [HD.out]; simp [hlen]
                    have hz2 : (TX.size : Int) ≤ 4096 := by have := HZ.out; omega
                    have _ := hlen
                    have HK0 : Hid (KeepP fun w1 => (Below w.heap.size w w1) ∧ BxP w1 w.heap.size P.nm P.a P.b P.c (.slice a1 P.d.length c1) (.slice a2 P.p.length c2) (.slice a3 P.o.length c3)) := (KeepP.and (keepBelow w) (keepBxP _ _ _ _ _ _ _ _))
                    have HO0 : Hid ((Below w.heap.size w (w.alloc (.cells #[.string P.nm, .int .i64 P.a, .int .i64 P.b, .int .i64 P.c, .slice a1 P.d.length c1, .slice a2 P.p.length c2, .slice a3 P.o.length c3] 34))) ∧ BxP (w.alloc (.cells #[.string P.nm, .int .i64 P.a, .int .i64 P.b, .int .i64 P.c, .slice a1 P.d.length c1, .slice a2 P.p.length c2, .slice a3 P.o.length c3] 34)) w.heap.size P.nm P.a P.b P.c (.slice a1 P.d.length c1) (.slice a2 P.p.length c2) (.slice a3 P.o.length c3)) := ⟨boxB _ _, BxP.new rfl _ _ _ _ _ _ _⟩
                    obtain ⟨g0, g1, g2, g3, g4, g5, g6, g7⟩ := HO0.out.2
                    go_enter Tryz.func36, Tryz.ntmps36
                    go_wp2_with (first
                      | (have _h := HO0; go_at_call 69; refine (HN.out _ (HO0.out.1)).mono ?_; rintro e y1 ⟨rfl, ok⟩; have HO1 : Hid ((Below w.heap.size w y1) ∧ BxP y1 w.heap.size P.nm P.a P.b P.c (.slice a1 P.d.length c1) (.slice a2 P.p.length c2) (.slice a3 P.o.length c3)) := HK0.out _ _ HO0.out ok; clear ok HO0 g0 g1 g2 g3 g4 g5 g6 g7; obtain ⟨g0, g1, g2, g3, g4, g5, g6, g7⟩ := HO1.out.2)
                      | (have _h := HO1; go_at_call 63; refine (HV.out _ (HO1.out.1)).mono ?_; rintro e y2 ⟨rfl, ok⟩; have HO2 : Hid ((Below w.heap.size w y2) ∧ BxP y2 w.heap.size P.nm P.a P.b P.c (.slice a1 P.d.length c1) (.slice a2 P.p.length c2) (.slice a3 P.o.length c3)) := HK0.out _ _ HO1.out ok; clear ok HO1 g0 g1 g2 g3 g4 g5 g6 g7; obtain ⟨g0, g1, g2, g3, g4, g5, g6, g7⟩ := HO2.out.2)
                      | (have _h := HO2; go_at_call 70; refine (H1.out _ (HO2.out.1)).mono ?_; rintro e y3 ⟨rfl, ok⟩; have HO3 : Hid ((Below w.heap.size w y3) ∧ BxP y3 w.heap.size P.nm P.a P.b P.c (.slice a1 P.d.length c1) (.slice a2 P.p.length c2) (.slice a3 P.o.length c3)) := HK0.out _ _ HO2.out ok; clear ok HO2 g0 g1 g2 g3 g4 g5 g6 g7; obtain ⟨g0, g1, g2, g3, g4, g5, g6, g7⟩ := HO3.out.2)
                      | (have _h := HO3; go_at_call 70; refine (H2.out _ (HO3.out.1)).mono ?_; rintro e y4 ⟨rfl, ok⟩; have HO4 : Hid ((Below w.heap.size w y4) ∧ BxP y4 w.heap.size P.nm P.a P.b P.c (.slice a1 P.d.length c1) (.slice a2 P.p.length c2) (.slice a3 P.o.length c3)) := HK0.out _ _ HO3.out ok; clear ok HO3 g0 g1 g2 g3 g4 g5 g6 g7; obtain ⟨g0, g1, g2, g3, g4, g5, g6, g7⟩ := HO4.out.2)
                      | (have _h := HO4; go_at_call 70; refine (H3.out _ (HO4.out.1)).mono ?_; rintro e y5 ⟨rfl, ok⟩; have HO5 : Hid ((Below w.heap.size w y5) ∧ BxP y5 w.heap.size P.nm P.a P.b P.c (.slice a1 P.d.length c1) (.slice a2 P.p.length c2) (.slice a3 P.o.length c3)) := HK0.out _ _ HO4.out ok; clear ok HO4 g0 g1 g2 g3 g4 g5 g6 g7; obtain ⟨g0, g1, g2, g3, g4, g5, g6, g7⟩ := HO5.out.2)
                      | (have _h := HO5; go_at_call 71; refine (B12.out _ (HO5.out.1)).mono ?_; rintro e y6 ⟨rfl, ok⟩; have HO6 : Hid ((Below w.heap.size w y6) ∧ BxP y6 w.heap.size P.nm P.a P.b P.c (.slice a1 P.d.length c1) (.slice a2 P.p.length c2) (.slice a3 P.o.length c3)) := HK0.out _ _ HO5.out ok; clear ok HO5 g0 g1 g2 g3 g4 g5 g6 g7; obtain ⟨g0, g1, g2, g3, g4, g5, g6, g7⟩ := HO6.out.2)
                      | (have _h := HO6; go_at_call 71; refine (B13.out _ (HO6.out.1)).mono ?_; rintro e y7 ⟨rfl, ok⟩; have HO7 : Hid ((Below w.heap.size w y7) ∧ BxP y7 w.heap.size P.nm P.a P.b P.c (.slice a1 P.d.length c1) (.slice a2 P.p.length c2) (.slice a3 P.o.length c3)) := HK0.out _ _ HO6.out ok; clear ok HO6 g0 g1 g2 g3 g4 g5 g6 g7; obtain ⟨g0, g1, g2, g3, g4, g5, g6, g7⟩ := HO7.out.2)
                      | (have _h := HO7; go_at_call 71; refine (B23.out _ (HO7.out.1)).mono ?_; rintro e y8 ⟨rfl, ok⟩; have HO8 : Hid ((Below w.heap.size w y8) ∧ BxP y8 w.heap.size P.nm P.a P.b P.c (.slice a1 P.d.length c1) (.slice a2 P.p.length c2) (.slice a3 P.o.length c3)) := HK0.out _ _ HO7.out ok; clear ok HO7 g0 g1 g2 g3 g4 g5 g6 g7; obtain ⟨g0, g1, g2, g3, g4, g5, g6, g7⟩ := HO8.out.2)
                      | (have _h := HO8; go_at_call 72; refine (BT.out _ (HO8.out.1)).mono ?_; rintro e y9 ⟨rfl, ok⟩; have HO9 : Hid ((Below w.heap.size w y9) ∧ BxP y9 w.heap.size P.nm P.a P.b P.c (.slice a1 P.d.length c1) (.slice a2 P.p.length c2) (.slice a3 P.o.length c3)) := HK0.out _ _ HO8.out ok; clear ok HO8 g0 g1 g2 g3 g4 g5 g6 g7; obtain ⟨g0, g1, g2, g3, g4, g5, g6, g7⟩ := HO9.out.2))
                    go_ret
                    exact ⟨ret_bool HR.out.symm, HO9.out.1⟩
                  · have hz1 : decide ((TX.size : Int) ≤ 4096) = false := decide_eq_false (by have := HZ.out; omega)
                    have HR : Hid (DB = false) := by unfold Hid; rw [HD.out]; simp [hlen]
                    have _ := hlen
                    have HK0 : Hid (KeepP fun w1 => (Below w.heap.size w w1) ∧ BxP w1 w.heap.size P.nm P.a P.b P.c (.slice a1 P.d.length c1) (.slice a2 P.p.length c2) (.slice a3 P.o.length c3)) := (KeepP.and (keepBelow w) (keepBxP _ _ _ _ _ _ _ _))
                    have HO0 : Hid ((Below w.heap.size w (w.alloc (.cells #[.string P.nm, .int .i64 P.a, .int .i64 P.b, .int .i64 P.c, .slice a1 P.d.length c1, .slice a2 P.p.length c2, .slice a3 P.o.length c3] 34))) ∧ BxP (w.alloc (.cells #[.string P.nm, .int .i64 P.a, .int .i64 P.b, .int .i64 P.c, .slice a1 P.d.length c1, .slice a2 P.p.length c2, .slice a3 P.o.length c3] 34)) w.heap.size P.nm P.a P.b P.c (.slice a1 P.d.length c1) (.slice a2 P.p.length c2) (.slice a3 P.o.length c3)) := ⟨boxB _ _, BxP.new rfl _ _ _ _ _ _ _⟩
                    obtain ⟨g0, g1, g2, g3, g4, g5, g6, g7⟩ := HO0.out.2
                    go_enter Tryz.func36, Tryz.ntmps36
                    go_wp2_with (first
                      | (have _h := HO0; go_at_call 69; refine (HN.out _ (HO0.out.1)).mono ?_; rintro e y1 ⟨rfl, ok⟩; have HO1 : Hid ((Below w.heap.size w y1) ∧ BxP y1 w.heap.size P.nm P.a P.b P.c (.slice a1 P.d.length c1) (.slice a2 P.p.length c2) (.slice a3 P.o.length c3)) := HK0.out _ _ HO0.out ok; clear ok HO0 g0 g1 g2 g3 g4 g5 g6 g7; obtain ⟨g0, g1, g2, g3, g4, g5, g6, g7⟩ := HO1.out.2)
                      | (have _h := HO1; go_at_call 63; refine (HV.out _ (HO1.out.1)).mono ?_; rintro e y2 ⟨rfl, ok⟩; have HO2 : Hid ((Below w.heap.size w y2) ∧ BxP y2 w.heap.size P.nm P.a P.b P.c (.slice a1 P.d.length c1) (.slice a2 P.p.length c2) (.slice a3 P.o.length c3)) := HK0.out _ _ HO1.out ok; clear ok HO1 g0 g1 g2 g3 g4 g5 g6 g7; obtain ⟨g0, g1, g2, g3, g4, g5, g6, g7⟩ := HO2.out.2)
                      | (have _h := HO2; go_at_call 70; refine (H1.out _ (HO2.out.1)).mono ?_; rintro e y3 ⟨rfl, ok⟩; have HO3 : Hid ((Below w.heap.size w y3) ∧ BxP y3 w.heap.size P.nm P.a P.b P.c (.slice a1 P.d.length c1) (.slice a2 P.p.length c2) (.slice a3 P.o.length c3)) := HK0.out _ _ HO2.out ok; clear ok HO2 g0 g1 g2 g3 g4 g5 g6 g7; obtain ⟨g0, g1, g2, g3, g4, g5, g6, g7⟩ := HO3.out.2)
                      | (have _h := HO3; go_at_call 70; refine (H2.out _ (HO3.out.1)).mono ?_; rintro e y4 ⟨rfl, ok⟩; have HO4 : Hid ((Below w.heap.size w y4) ∧ BxP y4 w.heap.size P.nm P.a P.b P.c (.slice a1 P.d.length c1) (.slice a2 P.p.length c2) (.slice a3 P.o.length c3)) := HK0.out _ _ HO3.out ok; clear ok HO3 g0 g1 g2 g3 g4 g5 g6 g7; obtain ⟨g0, g1, g2, g3, g4, g5, g6, g7⟩ := HO4.out.2)
                      | (have _h := HO4; go_at_call 70; refine (H3.out _ (HO4.out.1)).mono ?_; rintro e y5 ⟨rfl, ok⟩; have HO5 : Hid ((Below w.heap.size w y5) ∧ BxP y5 w.heap.size P.nm P.a P.b P.c (.slice a1 P.d.length c1) (.slice a2 P.p.length c2) (.slice a3 P.o.length c3)) := HK0.out _ _ HO4.out ok; clear ok HO4 g0 g1 g2 g3 g4 g5 g6 g7; obtain ⟨g0, g1, g2, g3, g4, g5, g6, g7⟩ := HO5.out.2)
                      | (have _h := HO5; go_at_call 71; refine (B12.out _ (HO5.out.1)).mono ?_; rintro e y6 ⟨rfl, ok⟩; have HO6 : Hid ((Below w.heap.size w y6) ∧ BxP y6 w.heap.size P.nm P.a P.b P.c (.slice a1 P.d.length c1) (.slice a2 P.p.length c2) (.slice a3 P.o.length c3)) := HK0.out _ _ HO5.out ok; clear ok HO5 g0 g1 g2 g3 g4 g5 g6 g7; obtain ⟨g0, g1, g2, g3, g4, g5, g6, g7⟩ := HO6.out.2)
                      | (have _h := HO6; go_at_call 71; refine (B13.out _ (HO6.out.1)).mono ?_; rintro e y7 ⟨rfl, ok⟩; have HO7 : Hid ((Below w.heap.size w y7) ∧ BxP y7 w.heap.size P.nm P.a P.b P.c (.slice a1 P.d.length c1) (.slice a2 P.p.length c2) (.slice a3 P.o.length c3)) := HK0.out _ _ HO6.out ok; clear ok HO6 g0 g1 g2 g3 g4 g5 g6 g7; obtain ⟨g0, g1, g2, g3, g4, g5, g6, g7⟩ := HO7.out.2)
                      | (have _h := HO7; go_at_call 71; refine (B23.out _ (HO7.out.1)).mono ?_; rintro e y8 ⟨rfl, ok⟩; have HO8 : Hid ((Below w.heap.size w y8) ∧ BxP y8 w.heap.size P.nm P.a P.b P.c (.slice a1 P.d.length c1) (.slice a2 P.p.length c2) (.slice a3 P.o.length c3)) := HK0.out _ _ HO7.out ok; clear ok HO7 g0 g1 g2 g3 g4 g5 g6 g7; obtain ⟨g0, g1, g2, g3, g4, g5, g6, g7⟩ := HO8.out.2)
                      | (have _h := HO8; go_at_call 72; refine (BT.out _ (HO8.out.1)).mono ?_; rintro e y9 ⟨rfl, ok⟩; have HO9 : Hid ((Below w.heap.size w y9) ∧ BxP y9 w.heap.size P.nm P.a P.b P.c (.slice a1 P.d.length c1) (.slice a2 P.p.length c2) (.slice a3 P.o.length c3)) := HK0.out _ _ HO8.out ok; clear ok HO8 g0 g1 g2 g3 g4 g5 g6 g7; obtain ⟨g0, g1, g2, g3, g4, g5, g6, g7⟩ := HO9.out.2))
                    go_ret
                    exact ⟨ret_bool HR.out.symm, HO9.out.1⟩
end Go.Proofs.YtjpmlagofcgheaaGreatDoor
namespace Go.Proofs.YtjpmlagofcgheaaGreatDoor
open Go.RowKit
set_option maxRecDepth 100000

theorem bl_irr : ∀ l : List UInt8, Op.bytesLess l l = false
  | [] => rfl
  | a :: l => by
    show (decide (a < a) || (a == a && Op.bytesLess l l)) = false
    rw [bl_irr l]
    simp

theorem bl_trans : ∀ {a b c : List UInt8}, Op.bytesLess a b = true → Op.bytesLess b c = true → Op.bytesLess a c = true
  | _, [], _, h, _ => by cases ‹List UInt8› <;> simp [Op.bytesLess] at h
  | _, _ :: _, [], _, h => by simp [Op.bytesLess] at h
  | [], _ :: _, _ :: _, _, _ => rfl
  | x :: a, y :: b, z :: c, h1, h2 => by
    have e1 : (decide (x < y) || (x == y && Op.bytesLess a b)) = true := h1
    have e2 : (decide (y < z) || (y == z && Op.bytesLess b c)) = true := h2
    show (decide (x < z) || (x == z && Op.bytesLess a c)) = true
    simp only [Bool.or_eq_true, decide_eq_true_eq, Bool.and_eq_true, beq_iff_eq] at e1 e2 ⊢
    rcases e1 with h | ⟨rfl, h⟩
    · rcases e2 with k | ⟨rfl, _⟩
      · exact Or.inl (UInt8.lt_trans h k)
      · exact Or.inl h
    · rcases e2 with k | ⟨rfl, k⟩
      · exact Or.inl k
      · exact Or.inr ⟨rfl, bl_trans h k⟩

theorem rise_gt : ∀ {L : List Dp} {p : ByteArray}, riseD (some p) L = true → ∀ d ∈ L, ltS p d.nm = true
  | e :: M, p, h, d, hd => by
    rw [riseD, Bool.and_eq_true, Bool.and_eq_true] at h
    have h1 : ltS p e.nm = true := by
      have := h.1.1
      unfold followB at this
      rw [Bool.and_eq_true] at this
      exact this.2
    rcases List.mem_cons.1 hd with rfl | hd
    · exact h1
    · exact bl_trans h1 (rise_gt h.2 d hd)

theorem rise_nodup : ∀ {L : List Dp} {q : Option ByteArray}, riseD q L = true → (L.map Dp.nm).Nodup
  | [], _, _ => List.nodup_nil
  | e :: M, q, h => by
    rw [riseD, Bool.and_eq_true, Bool.and_eq_true] at h
    rw [List.map_cons, List.nodup_cons]
    refine ⟨fun hm => ?_, rise_nodup h.2⟩
    obtain ⟨d, hd, he⟩ := List.mem_map.1 hm
    have := rise_gt h.2 d hd
    rw [he] at this
    unfold ltS at this
    rw [bl_irr] at this
    cases this

theorem apart_iff {A B : List Dp} : apartB A B = true ↔ ∀ a ∈ A.map Dp.nm, ∀ b ∈ B.map Dp.nm, a ≠ b := by
  unfold apartB
  rw [List.all_eq_true]
  constructor
  · intro h a ha b hb
    obtain ⟨d, hd, rfl⟩ := List.mem_map.1 ha
    obtain ⟨e, he, rfl⟩ := List.mem_map.1 hb
    have := List.all_eq_true.1 (h d hd) e he
    intro hq
    rw [hq] at this
    simp at this
  · intro h d hd
    refine List.all_eq_true.2 fun e he => ?_
    have := h _ (List.mem_map.2 ⟨d, hd, rfl⟩) _ (List.mem_map.2 ⟨e, he, rfl⟩)
    rw [Bool.not_eq_true', beq_eq_false_iff_ne]
    exact fun hq => this (bytes_same hq)

theorem once_apart {A B C : List Dp} (ha : riseD none A = true) (hb : riseD none B = true) (hc : riseD none C = true) : onceL [A, B, C] = (apartB A B && (apartB A C && apartB B C)) := by
  have e : namesL [A, B, C] = A.map Dp.nm ++ (B.map Dp.nm ++ C.map Dp.nm) := by unfold namesL; simp
  rw [Bool.eq_iff_iff, Bool.and_eq_true, Bool.and_eq_true, apart_iff, apart_iff, apart_iff]
  unfold onceL
  rw [e]
  have hd : @decide ((A.map Dp.nm ++ (B.map Dp.nm ++ C.map Dp.nm)).Nodup) (Classical.propDecidable _) = true ↔ (A.map Dp.nm ++ (B.map Dp.nm ++ C.map Dp.nm)).Nodup := ⟨fun h => @of_decide_eq_true _ (Classical.propDecidable _) h, fun h => @decide_eq_true _ (Classical.propDecidable _) h⟩
  rw [hd, List.nodup_append, List.nodup_append]
  constructor
  · rintro ⟨_, ⟨_, _, h2⟩, h3⟩
    exact ⟨fun a ka b kb => h3 a ka b (List.mem_append_left _ kb), fun a ka b kb => h3 a ka b (List.mem_append_right _ kb), h2⟩
  · rintro ⟨h1, h2, h3⟩
    exact ⟨rise_nodup ha, ⟨rise_nodup hb, rise_nodup hc, h3⟩, fun a ka b kb => by
      rcases List.mem_append.1 kb with kb | kb
      · exact h1 a ka b kb
      · exact h2 a ka b kb⟩
end Go.Proofs.YtjpmlagofcgheaaGreatDoor
namespace Go.Proofs.YtjpmlagofcgheaaGreatDoor
open Go.RowKit
set_option maxRecDepth 100000

theorem doc_is (P : Pg) : docB P = writtenB P := by
  unfold docB writtenB soundB
  cases hl : (mayD P.d && (mayD P.p && mayD P.o))
  · simp
  · rw [Bool.and_eq_true, Bool.and_eq_true] at hl
    have r : ∀ {L : List Dp}, mayD L = true → riseD none L = true := fun h => by unfold mayD at h; rw [Bool.and_eq_true] at h; exact h.2
    unfold onceB
    rw [once_apart (r hl.1) (r hl.2.1) (r hl.2.2)]
end Go.Proofs.YtjpmlagofcgheaaGreatDoor
namespace Go.Proofs.YtjpmlagofcgheaaGreatDoor
open Go.RowKit Go.Maps Go.WideMaps
set_option maxRecDepth 100000

/-- Does a package stand ahead of another one? -/
def ahC (x y : CV) : Bool := if x.pg.nm = y.pg.nm then gtV (verC x) (verC y) else ltS x.pg.nm y.pg.nm
/-- How many stand ahead of a new one; the list with it. -/
def posC : List CV → CV → Nat
  | [], _ => 0
  | y :: r, x => if ahC y x = true then posC r x + 1 else 0
def insC (R : List CV) (x : CV) : List CV := R.take (posC R x) ++ x :: R.drop (posC R x)
theorem posC_le : ∀ (R : List CV) (x : CV), posC R x ≤ R.length
  | [], _ => Nat.le_refl _
  | y :: r, x => by
    have := posC_le r x
    unfold posC
    split
    · rw [List.length_cons]; omega
    · exact Nat.zero_le _
theorem posC_ahead : ∀ {R : List CV} {x : CV} {i : Nat} (hi : i < R.length), i < posC R x → ahC R[i] x = true
  | [], _, _, hi, _ => by cases hi
  | y :: r, x, i, hi, h => by
    unfold posC at h
    by_cases hy : ahC y x = true
    · rw [if_pos hy] at h
      cases i with
      | zero => exact hy
      | succ j =>
        rw [List.getElem_cons_succ]
        exact posC_ahead (by simpa using hi) (by omega)
    · rw [if_neg hy] at h
      omega
theorem posC_at : ∀ {R : List CV} {x : CV} {i : Nat} (hi : i < R.length), i = posC R x → ahC R[i] x = false
  | [], _, _, hi, _ => by cases hi
  | y :: r, x, i, hi, h => by
    unfold posC at h
    by_cases hy : ahC y x = true
    · rw [if_pos hy] at h
      subst h
      rw [List.getElem_cons_succ]
      exact posC_at (by simpa using hi) rfl
    · rw [if_neg hy] at h
      subst h
      exact Bool.eq_false_iff.2 hy
theorem insC_perm (R : List CV) (x : CV) : (insC R x).Perm (x :: R) := by
  unfold insC
  have h := List.perm_middle (a := x) (l₁ := R.take (posC R x)) (l₂ := R.drop (posC R x))
  rw [List.take_append_drop] at h
  exact h
theorem insC_len (R : List CV) (x : CV) : (insC R x).length = R.length + 1 := by rw [(insC_perm R x).length_eq, List.length_cons]
theorem insC_cells (R : List CV) (x : CV) : (insC R x).flatMap encG = (R.take (posC R x)).flatMap encG ++ encG x ++ (R.drop (posC R x)).flatMap encG := by
  unfold insC
  rw [List.flatMap_append, List.flatMap_cons, List.append_assoc]

/-- The document's catalog lies there; what its packages point to lay there in the world w0. -/
def RcAt (w0 w : World) (E : Nat) (R : List CV) : Prop := (∃ v, w.heap[E]? = some (.cells #[v] 28 (0, 0)) ∧ w.ownsRow w0.heap.size 34 7 v R.length (R.flatMap encG)) ∧ (∀ x ∈ R, PgAt w0 x.pg x.u1 x.u2 x.u3 ∧ writtenB x.pg = true) ∧ (R.Pairwise fun x y => isAt x.pg.nm x.pg.a x.pg.b x.pg.c y = false) ∧ R.length ≤ 128
theorem RcAt.lt {w0 w : World} {E : Nat} {R : List CV} (h : RcAt w0 w E R) : E < w.heap.size := by
  obtain ⟨⟨v, hv, _⟩, _⟩ := h
  exact (Array.getElem?_eq_some_iff.1 hv).1
theorem RcAt.below {w0 w w' : World} {E : Nat} {R : List CV} (h : RcAt w0 w E R) (hb : Below w.heap.size w w') : RcAt w0 w' E R := by
  have hl := h.lt
  obtain ⟨⟨v, hv, ho⟩, hr⟩ := h
  exact ⟨⟨v, (hb.block E hl).trans hv, own_below ho hb⟩, hr⟩
theorem RcAt.new (w0 w : World) : RcAt w0 (w.alloc (.cells #[.slice none 0 0] 28)) w.heap.size [] := by
  refine ⟨⟨.slice none 0 0, ?_, rfl, Or.inl ⟨rfl, rfl⟩⟩, (fun x hx => (by cases hx)), List.Pairwise.nil, (by decide)⟩
  show (w.heap.push _)[w.heap.size]? = _
  rw [Array.getElem?_push, if_pos rfl]
/-- It is as it was where a map is written into. -/
theorem RcAt.map {w0 w w' : World} {E M : Nat} {R : List CV} (h : RcAt w0 w E R) (hM : ∃ es cl, w.heap[M]? = some (.map es cl)) (hg : w.grownBy w' (some M)) : RcAt w0 w' E R := by
  have hl := h.lt
  obtain ⟨⟨v, hv, ho⟩, hr⟩ := h
  refine ⟨⟨v, ?_, own_map ho hM hg⟩, hr⟩
  rw [hg.block E hl (fun q => by
    obtain ⟨es, cl, hm⟩ := hM
    rw [← Option.some.inj q, hv] at hm
    cases hm)]
  exact hv
theorem encG_at (l : List CV) (i : Nat) (h : i < l.length) : (l.flatMap encG)[i * 7]? = some (.string l[i].pg.nm) ∧ (l.flatMap encG)[i * 7 + 1]? = some (.int .i64 l[i].pg.a) ∧ (l.flatMap encG)[i * 7 + 2]? = some (.int .i64 l[i].pg.b) ∧ (l.flatMap encG)[i * 7 + 3]? = some (.int .i64 l[i].pg.c) ∧ (l.flatMap encG)[i * 7 + 4]? = some l[i].u1 ∧ (l.flatMap encG)[i * 7 + 5]? = some l[i].u2 ∧ (l.flatMap encG)[i * 7 + 6]? = some l[i].u3 := by
  haveI : Inhabited CV := ⟨l[i]⟩
  have h0 := flatMap_get encG 7 (fun _ => rfl) l i 0 h (by decide)
  have h1 := flatMap_get encG 7 (fun _ => rfl) l i 1 h (by decide)
  have h2 := flatMap_get encG 7 (fun _ => rfl) l i 2 h (by decide)
  have h3 := flatMap_get encG 7 (fun _ => rfl) l i 3 h (by decide)
  have h4 := flatMap_get encG 7 (fun _ => rfl) l i 4 h (by decide)
  have h5 := flatMap_get encG 7 (fun _ => rfl) l i 5 h (by decide)
  have h6 := flatMap_get encG 7 (fun _ => rfl) l i 6 h (by decide)
  rw [getElem!_pos l i h] at h0 h1 h2 h3 h4 h5 h6
  exact ⟨h0, h1, h2, h3, h4, h5, h6⟩
/-- The cells of a package in a row. -/
def PkIn (w : World) (g o : Nat) (x : CV) : Prop := w.cell? ⟨g, o, none⟩ = some (.string x.pg.nm) ∧ w.cell? ⟨g, o + 1, none⟩ = some (.int .i64 x.pg.a) ∧ w.cell? ⟨g, o + 2, none⟩ = some (.int .i64 x.pg.b) ∧ w.cell? ⟨g, o + 3, none⟩ = some (.int .i64 x.pg.c) ∧ w.cell? ⟨g, o + 4, none⟩ = some x.u1 ∧ w.cell? ⟨g, o + 5, none⟩ = some x.u2 ∧ w.cell? ⟨g, o + 6, none⟩ = some x.u3
theorem rc_cells {w : World} {B : Nat} {v : Value} {R : List CV} (h : w.ownsRow B 34 7 v R.length (R.flatMap encG)) (hn : 0 < R.length) : ∃ g cap, B ≤ g ∧ g < w.heap.size ∧ v = .slice (some ⟨g, 0, none⟩) R.length cap ∧ R.length ≤ cap ∧ ∀ i (hi : i < R.length), PkIn w g (i * 7) R[i] := by
  obtain ⟨g, cap, h1, h2, h3, h4, q⟩ := own_news h hn
  refine ⟨g, cap, h1, h2, h3, h4, fun i hi => ?_⟩
  obtain ⟨e0, e1, e2, e3, e4, e5, e6⟩ := encG_at R i hi
  exact ⟨q _ _ e0, q _ _ e1, q _ _ e2, q _ _ e3, q _ _ e4, q _ _ e5, q _ _ e6⟩
theorem PkIn.below {w w' : World} {g o : Nat} {x : CV} (h : PkIn w g o x) {B : Nat} (hb : Below B w w') (hg : g < B) : PkIn w' g o x := by
  obtain ⟨h0, h1, h2, h3, h4, h5, h6⟩ := h
  have q : ∀ i, w'.cell? ⟨g, i, none⟩ = w.cell? ⟨g, i, none⟩ := fun i => hb.cell (p := ⟨g, i, none⟩) hg
  exact ⟨by rw [q]; exact h0, by rw [q]; exact h1, by rw [q]; exact h2, by rw [q]; exact h3, by rw [q]; exact h4, by rw [q]; exact h5, by rw [q]; exact h6⟩
theorem pg_slices {w : World} {P : Pg} {v1 v2 v3 : Value} (h : PgAt w P v1 v2 v3) : (∃ a n c, v1 = .slice a n c) ∧ (∃ a n c, v2 = .slice a n c) ∧ ∃ a n c, v3 = .slice a n c := by
  obtain ⟨⟨a1, c1, e1, _⟩, ⟨a2, c2, e2, _⟩, a3, c3, e3, _⟩ := h
  exact ⟨⟨_, _, _, e1⟩, ⟨_, _, _, e2⟩, _, _, _, e3⟩
theorem encG_one {w : World} {R : List CV} (h : ∀ x ∈ R, PgAt w x.pg x.u1 x.u2 x.u3) : ∀ u ∈ R.flatMap encG, u.oneCell' = true := fun u hu => by
  obtain ⟨x, hx, hu⟩ := List.mem_flatMap.1 hu
  obtain ⟨⟨a1, n1, c1, e1⟩, ⟨a2, n2, c2, e2⟩, a3, n3, c3, e3⟩ := pg_slices (h x hx)
  simp [encG, e1, e2, e3] at hu
  rcases hu with rfl | rfl | rfl | rfl | rfl | rfl | rfl <;> rfl
end Go.Proofs.YtjpmlagofcgheaaGreatDoor
namespace Go.Proofs.YtjpmlagofcgheaaGreatDoor
open Go.RowKit Go.Maps Go.WideMaps
set_option maxRecDepth 100000

theorem meet_ok {A B : Rg} (hA : RangeR A) (hB : RangeR B) : RangeR (meetR A B) := hA.meet hB
theorem join_ok {A B : Rg} (hA : RangeR A) (hB : RangeR B) : RangeR (joinR A B) := hA.join hB
/-- There is a told list. -/
theorem told_any {L : List CV} (s : ByteArray) (hP : L.Pairwise fun x y => keyC x ≠ keyC y) : ∃ ts, Told L s ts := by
  refine ⟨(verL s L).mergeSort (fun x y => !gtV y x), Told.of hP (List.mergeSort_perm _ _) ?_⟩
  have h := List.pairwise_mergeSort (le := fun x y => !gtV y x) (fun x y z h1 h2 => by
    simp only [Bool.not_eq_true'] at h1 h2 ⊢
    exact gtV_ntrans h2 h1) (fun x y => by
    cases h : gtV y x with
    | false => simp
    | true => simp [gtV_asymm h]) (verL s L)
  exact h.imp fun {x y} q => by simpa using q

end Go.Proofs.YtjpmlagofcgheaaGreatDoor
