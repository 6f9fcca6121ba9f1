/- Rk6, Rk9, Rk7d, Env1, RowS, laid in one text. -/
import Derived.Test.YtcclfaioicklaaaGreatDoorMg21
namespace Go.Proofs.YtcclfaioicklaaaGreatDoor
open Go.RowKit
set_option maxRecDepth 100000

set_option maxHeartbeats 3200000 in
theorem rText_any {P : Pg} {v1 v2 v3 : Value} {w : World} (h : PgAt w P v1 v2 v3) (hn : P.nm.size ≤ 16) (h1 : mayD P.d = true) (h2 : mayD P.p = true) (h3 : mayD P.o = true) :
    Calls Tryz.prog 87 #[.agg #[.string P.nm, .int .i64 P.a, .int .i64 P.b, .int .i64 P.c, v1, v2, v3]] w fun e w' => e = .returned (.string ⟨(textP P).toArray⟩) ∧ Below w.heap.size w w' := by
  have HL1 : Hid (∀ w1, Below w.heap.size w w1 → Calls Tryz.prog 119 #[.string (lwK 0), v1] w1 fun e w' => e = .returned (.string ⟨(listT (lwK 0) P.d).toArray⟩) ∧ Below w1.heap.size w1 w') := fun w1 hb => rLines_is (h.1.below hb) h1 (lw_size 0)
  have HL2 : Hid (∀ w1, Below w.heap.size w w1 → Calls Tryz.prog 119 #[.string (lwK 1), v2] w1 fun e w' => e = .returned (.string ⟨(listT (lwK 1) P.p).toArray⟩) ∧ Below w1.heap.size w1 w') := fun w1 hb => rLines_is (h.2.1.below hb) h2 (lw_size 1)
  have HL3 : Hid (∀ w1, Below w.heap.size w w1 → Calls Tryz.prog 119 #[.string (lwK 2), v3] w1 fun e w' => e = .returned (.string ⟨(listT (lwK 2) P.o).toArray⟩) ∧ Below w1.heap.size w1 w') := fun w1 hb => rLines_is (h.2.2.below hb) h3 (lw_size 2)
  have HPV : Hid (∀ w1, Calls Tryz.prog 118 #[.agg #[.int .i64 P.a, .int .i64 P.b, .int .i64 P.c]] w1 fun e w' => e = .returned (.string (textV P.a P.b P.c)) ∧ Below w1.heap.size w1 w') := fun w1 => rPrint_any _ _ _ w1
  have s1 : (⟨(listT (lwK 0) P.d).toArray⟩ : ByteArray).size ≤ 80000 := by have := list_len (lw_size 0) h1 P.d.length; rw [List.take_length] at this; rw [arr_size]; exact this
  have s2 : (⟨(listT (lwK 1) P.p).toArray⟩ : ByteArray).size ≤ 80000 := by have := list_len (lw_size 1) h2 P.p.length; rw [List.take_length] at this; rw [arr_size]; exact this
  have s3 : (⟨(listT (lwK 2) P.o).toArray⟩ : ByteArray).size ≤ 80000 := by have := list_len (lw_size 2) h3 P.o.length; rw [List.take_length] at this; rw [arr_size]; exact this
  have sv := text_size P.a P.b P.c
  have HTX : Hid ((⟨#[112, 97, 99, 107, 97, 103, 101, 32]⟩ ++ P.nm ++ ⟨#[32]⟩ ++ textV P.a P.b P.c ++ ⟨#[10]⟩ ++ ⟨(listT (lwK 0) P.d).toArray⟩ ++ ⟨(listT (lwK 1) P.p).toArray⟩ ++ ⟨(listT (lwK 2) P.o).toArray⟩ : ByteArray) = ⟨(textP P).toArray⟩) := by
    refine same_list ?_
    simp only [catL]
    unfold textP lineB
    simp
  have k0 : lwK 0 = ⟨#[110, 101, 101, 100, 115]⟩ := rfl
  have k1 : lwK 1 = ⟨#[98, 101, 115, 105, 100, 101]⟩ := rfl
  have k2 : lwK 2 = ⟨#[108, 105, 107, 101, 115]⟩ := rfl
  obtain ⟨a1, c1, rfl⟩ := h.1.sl
  obtain ⟨a2, c2, rfl⟩ := h.2.1.sl
  obtain ⟨a3, c3, rfl⟩ := h.2.2.sl
  clear h h1 h2 h3
  generalize textP P = TP at *
  generalize (⟨(listT (lwK 0) P.d).toArray⟩ : ByteArray) = T1 at *
  generalize (⟨(listT (lwK 1) P.p).toArray⟩ : ByteArray) = T2 at *
  generalize (⟨(listT (lwK 2) P.o).toArray⟩ : ByteArray) = T3 at *
  generalize textV P.a P.b P.c = TV at *
  rw [k0] at HL1
  rw [k1] at HL2
  rw [k2] at HL3
  clear k0 k1 k2
  have z0 : (⟨#[112, 97, 99, 107, 97, 103, 101, 32]⟩ : ByteArray).size = 8 := rfl
  have z1 : (⟨#[32]⟩ : ByteArray).size = 1 := rfl
  have z2 : (⟨#[10]⟩ : ByteArray).size = 1 := rfl
  have e1 := fun W : World => run_string_add_sum (P := Tryz.prog) (w := W) (⟨#[112, 97, 99, 107, 97, 103, 101, 32]⟩) P.nm (by omega)
  have e2 := fun W : World => run_string_add_sum (P := Tryz.prog) (w := W) (⟨#[112, 97, 99, 107, 97, 103, 101, 32]⟩ ++ P.nm) ⟨#[32]⟩ (by rw [catZ]; omega)
  have e3 := fun W : World => run_string_add_sum (P := Tryz.prog) (w := W) (⟨#[112, 97, 99, 107, 97, 103, 101, 32]⟩ ++ P.nm ++ ⟨#[32]⟩) TV (by rw [catZ, catZ]; omega)
  have e4 := fun W : World => run_string_add_sum (P := Tryz.prog) (w := W) (⟨#[112, 97, 99, 107, 97, 103, 101, 32]⟩ ++ P.nm ++ ⟨#[32]⟩ ++ TV) ⟨#[10]⟩ (by rw [catZ, catZ, catZ]; omega)
  have e5 := fun W : World => run_string_add_sum (P := Tryz.prog) (w := W) (⟨#[112, 97, 99, 107, 97, 103, 101, 32]⟩ ++ P.nm ++ ⟨#[32]⟩ ++ TV ++ ⟨#[10]⟩) T1 (by rw [catZ, catZ, catZ, catZ]; omega)
  have e6 := fun W : World => run_string_add_sum (P := Tryz.prog) (w := W) (⟨#[112, 97, 99, 107, 97, 103, 101, 32]⟩ ++ P.nm ++ ⟨#[32]⟩ ++ TV ++ ⟨#[10]⟩ ++ T1) T2 (by rw [catZ, catZ, catZ, catZ, catZ]; omega)
  have e7 := fun W : World => run_string_add_sum (P := Tryz.prog) (w := W) (⟨#[112, 97, 99, 107, 97, 103, 101, 32]⟩ ++ P.nm ++ ⟨#[32]⟩ ++ TV ++ ⟨#[10]⟩ ++ T1 ++ T2) T3 (by rw [catZ, catZ, catZ, catZ, catZ, catZ]; omega)
  clear z0 z1 z2 s1 s2 s3 sv
  have HO : Hid (Below w.heap.size w (w.alloc (.cells #[.string P.nm, .int .i64 P.a, .int .i64 P.b, .int .i64 P.c, .slice a1 P.d.length c1, .slice a2 P.p.length c2, .slice a3 P.o.length c3] 44)) ∧ BxP (w.alloc (.cells #[.string P.nm, .int .i64 P.a, .int .i64 P.b, .int .i64 P.c, .slice a1 P.d.length c1, .slice a2 P.p.length c2, .slice a3 P.o.length c3] 44)) w.heap.size P.nm P.a P.b P.c (.slice a1 P.d.length c1) (.slice a2 P.p.length c2) (.slice a3 P.o.length c3)) := ⟨boxB _ _, BxP.new rfl _ _ _ _ _ _ _⟩
  have HK : Hid (KeepP fun w1 => Below w.heap.size w w1 ∧ BxP w1 w.heap.size P.nm P.a P.b P.c (.slice a1 P.d.length c1) (.slice a2 P.p.length c2) (.slice a3 P.o.length c3)) := (keepBelow w).and (keepBxP _ _ _ _ _ _ _ _)
  have HC1 : Hid (∀ w1, (Below w.heap.size w w1 ∧ BxP w1 w.heap.size P.nm P.a P.b P.c (.slice a1 P.d.length c1) (.slice a2 P.p.length c2) (.slice a3 P.o.length c3)) → Calls Tryz.prog 119 #[.string ⟨#[110, 101, 101, 100, 115]⟩, .slice a1 P.d.length c1] w1 fun e w' => e = .returned (.string T1) ∧ Below w1.heap.size w1 w') := fun w1 hh => HL1.out w1 hh.1
  have HC2 : Hid (∀ w1, (Below w.heap.size w w1 ∧ BxP w1 w.heap.size P.nm P.a P.b P.c (.slice a1 P.d.length c1) (.slice a2 P.p.length c2) (.slice a3 P.o.length c3)) → Calls Tryz.prog 119 #[.string ⟨#[98, 101, 115, 105, 100, 101]⟩, .slice a2 P.p.length c2] w1 fun e w' => e = .returned (.string T2) ∧ Below w1.heap.size w1 w') := fun w1 hh => HL2.out w1 hh.1
  have HC3 : Hid (∀ w1, (Below w.heap.size w w1 ∧ BxP w1 w.heap.size P.nm P.a P.b P.c (.slice a1 P.d.length c1) (.slice a2 P.p.length c2) (.slice a3 P.o.length c3)) → Calls Tryz.prog 119 #[.string ⟨#[108, 105, 107, 101, 115]⟩, .slice a3 P.o.length c3] w1 fun e w' => e = .returned (.string T3) ∧ Below w1.heap.size w1 w') := fun w1 hh => HL3.out w1 hh.1
  clear HL1 HL2 HL3
  go_enter Tryz.func87, Tryz.ntmps87
  go_wp2_with fail
  refine wp_region_keep HK.out (by kernel_rfl) (by kernel_rfl) (by first | exact HO.out | exact HK.out.drew HO.out) ?_
  intro C hin hout
  have HIN := hide3 hin
  have HOUT := hide3 hout
  clear hin hout HO
  repeat
    (with_reducible refine wpQuiet_step (fun K hK => ?_)
     go_simp
     first
       | (refine hK _ ?_; clear hK K)
       | (apply Exists.intro; refine ⟨fun w1 hC => ?_, hK _ ?_⟩; (focus ((first | (go_at_call 118; with_reducible exact callC HIN.out HOUT.out HK.out HPV.out w1 hC) | (go_at_call 119; with_reducible exact callC' HIN.out HOUT.out HK.out HC1.out w1 hC) | (go_at_call 119; with_reducible exact callC' HIN.out HOUT.out HK.out HC2.out w1 hC) | (go_at_call 119; with_reducible exact callC' HIN.out HOUT.out HK.out HC3.out w1 hC) | (exact rfl) | (obtain ⟨hb1, ⟨y0, y1, y2, y3, y4, y5, y6, y7⟩⟩ := HOUT.out w1 hC; clear hC; go_simp; first | done | exact rfl)); done)); clear hK K))
  refine wpQuiet_nil ?_
  intro wn hC
  have HO := hide3 (HOUT.out _ hC)
  clear hC HIN HOUT C
  obtain ⟨hb1, ⟨y0, y1, y2, y3, y4, y5, y6, y7⟩⟩ := HO.out
  go_wp2
  go_ret
  exact ⟨congrArg (fun s => Ending.returned (.string s)) HTX.out, HO.out.1⟩

/-- A package may be, as the document says. -/
def docB (P : Pg) : Bool := Sc.nameA P.nm.data.toList && mayV P.a P.b P.c && (mayD P.d && (mayD P.p && mayD P.o)) && (apartB P.d P.p && (apartB P.d P.o && apartB P.p P.o)) && decide ((textP P).length ≤ 4096)

set_option maxHeartbeats 6400000 in
theorem rMay_pk {P : Pg} {v1 v2 v3 : Value} {w : World} (h : PgAt w P v1 v2 v3) (hz : P.d.length ≤ 9223372036854775807 ∧ P.p.length ≤ 9223372036854775807 ∧ P.o.length ≤ 9223372036854775807) (hn : P.nm.size ≤ 9223372036854775807 ∧ (∀ d ∈ P.d, d.nm.size ≤ 9223372036854775807) ∧ (∀ d ∈ P.p, d.nm.size ≤ 9223372036854775807) ∧ ∀ d ∈ P.o, d.nm.size ≤ 9223372036854775807) :
    Calls Tryz.prog 63 #[.agg #[.string P.nm, .int .i64 P.a, .int .i64 P.b, .int .i64 P.c, v1, v2, v3]] w fun e w' => e = .returned (.bool (docB P)) ∧ Below w.heap.size w w' := by
  obtain ⟨a1, c1, rfl⟩ := h.1.sl
  obtain ⟨a2, c2, rfl⟩ := h.2.1.sl
  obtain ⟨a3, c3, rfl⟩ := h.2.2.sl
  have HN : Hid (∀ w1, Below w.heap.size w w1 → Calls Tryz.prog 39 #[.string P.nm] w1 fun e w' => e = .returned (.bool (Sc.nameA P.nm.data.toList)) ∧ Below w1.heap.size w1 w') := fun w1 _ => (Sc.rName_any P.nm hn.1 w1).mono fun e w' ⟨h1, h2⟩ => ⟨h1, by rw [h2]; exact Below.refl _ _⟩
  have HV : Hid (∀ w1, Below w.heap.size w w1 → Calls Tryz.prog 84 #[.agg #[.int .i64 P.a, .int .i64 P.b, .int .i64 P.c]] w1 fun e w' => e = .returned (.bool (mayV P.a P.b P.c)) ∧ Below w1.heap.size w1 w') := fun w1 _ => rMay_any _ _ _ w1
  have H1 : Hid (∀ w1, Below w.heap.size w w1 → Calls Tryz.prog 85 #[.slice a1 P.d.length c1] w1 fun e w' => e = .returned (.bool (mayD P.d)) ∧ Below w1.heap.size w1 w') := fun w1 hb => rList_any (h.1.below hb) hz.1 hn.2.1
  have H2 : Hid (∀ w1, Below w.heap.size w w1 → Calls Tryz.prog 85 #[.slice a2 P.p.length c2] w1 fun e w' => e = .returned (.bool (mayD P.p)) ∧ Below w1.heap.size w1 w') := fun w1 hb => rList_any (h.2.1.below hb) hz.2.1 hn.2.2.1
  have H3 : Hid (∀ w1, Below w.heap.size w w1 → Calls Tryz.prog 85 #[.slice a3 P.o.length c3] w1 fun e w' => e = .returned (.bool (mayD P.o)) ∧ Below w1.heap.size w1 w') := fun w1 hb => rList_any (h.2.2.below hb) hz.2.2 hn.2.2.2
  have A12 : Hid (mayD P.d = true → mayD P.p = true → ∀ w1, Below w.heap.size w w1 → Calls Tryz.prog 86 #[.slice a1 P.d.length c1, .slice a2 P.p.length c2] w1 fun e w' => e = .returned (.bool (apartB P.d P.p)) ∧ Below w1.heap.size w1 w') := fun g1 g2 w1 hb => rApart_any (h.1.below hb) (h.2.1.below hb) ⟨by have := (short_may g1).1; omega, by have := (short_may g2).1; omega⟩
  have A13 : Hid (mayD P.d = true → mayD P.o = true → ∀ w1, Below w.heap.size w w1 → Calls Tryz.prog 86 #[.slice a1 P.d.length c1, .slice a3 P.o.length c3] w1 fun e w' => e = .returned (.bool (apartB P.d P.o)) ∧ Below w1.heap.size w1 w') := fun g1 g2 w1 hb => rApart_any (h.1.below hb) (h.2.2.below hb) ⟨by have := (short_may g1).1; omega, by have := (short_may g2).1; omega⟩
  have A23 : Hid (mayD P.p = true → mayD P.o = true → ∀ w1, Below w.heap.size w w1 → Calls Tryz.prog 86 #[.slice a2 P.p.length c2, .slice a3 P.o.length c3] w1 fun e w' => e = .returned (.bool (apartB P.p P.o)) ∧ Below w1.heap.size w1 w') := fun g1 g2 w1 hb => rApart_any (h.2.1.below hb) (h.2.2.below hb) ⟨by have := (short_may g1).1; omega, by have := (short_may g2).1; omega⟩
  have HT : Hid (Sc.nameA P.nm.data.toList = true → mayD P.d = true → mayD P.p = true → mayD P.o = true → ∀ w1, Below w.heap.size w w1 → Calls Tryz.prog 87 #[.agg #[.string P.nm, .int .i64 P.a, .int .i64 P.b, .int .i64 P.c, .slice a1 P.d.length c1, .slice a2 P.p.length c2, .slice a3 P.o.length c3]] w1 fun e w' => e = .returned (.string ⟨(textP P).toArray⟩) ∧ Below w1.heap.size w1 w') := fun g0 g1 g2 g3 w1 hb => rText_any (h.below hb) (by unfold Sc.nameA at g0; rw [Bool.and_eq_true, decide_eq_true_eq, list_size] at g0; exact g0.2) g1 g2 g3
  have HD : Hid (docB P = (Sc.nameA P.nm.data.toList && mayV P.a P.b P.c && (mayD P.d && (mayD P.p && mayD P.o)) && (apartB P.d P.p && (apartB P.d P.o && apartB P.p P.o)) && decide ((textP P).length ≤ 4096))) := rfl
  have HZ : Hid ((⟨(textP P).toArray⟩ : ByteArray).size = (textP P).length) := arr_size _
  clear h hz hn
  generalize docB P = DB at *
  generalize Sc.nameA P.nm.data.toList = b0 at *
  generalize mayV P.a P.b P.c = bv at *
  generalize mayD P.d = b1 at *
  generalize mayD P.p = b2 at *
  generalize mayD P.o = b3 at *
  generalize apartB P.d P.p = p12 at *
  generalize apartB P.d P.o = p13 at *
  generalize apartB P.p P.o = p23 at *
  generalize (⟨(textP P).toArray⟩ : ByteArray) = TX at *
  generalize (textP P).length = tl at *
  cases b0
  · skip
    have HR : Hid (DB = false) := by unfold Hid; rw [HD.out]; simp
    have HK0 : Hid (KeepP fun w1 => (Below w.heap.size w w1) ∧ BxP w1 w.heap.size P.nm P.a P.b P.c (.slice a1 P.d.length c1) (.slice a2 P.p.length c2) (.slice a3 P.o.length c3)) := (KeepP.and (keepBelow w) (keepBxP _ _ _ _ _ _ _ _))
    have HO0 : Hid ((Below w.heap.size w (w.alloc (.cells #[.string P.nm, .int .i64 P.a, .int .i64 P.b, .int .i64 P.c, .slice a1 P.d.length c1, .slice a2 P.p.length c2, .slice a3 P.o.length c3] 44))) ∧ BxP (w.alloc (.cells #[.string P.nm, .int .i64 P.a, .int .i64 P.b, .int .i64 P.c, .slice a1 P.d.length c1, .slice a2 P.p.length c2, .slice a3 P.o.length c3] 44)) w.heap.size P.nm P.a P.b P.c (.slice a1 P.d.length c1) (.slice a2 P.p.length c2) (.slice a3 P.o.length c3)) := ⟨boxB _ _, BxP.new rfl _ _ _ _ _ _ _⟩
    obtain ⟨g0, g1, g2, g3, g4, g5, g6, g7⟩ := HO0.out.2
    go_enter Tryz.func63, Tryz.ntmps63
    go_wp2_with (first
      | (have _h := HO0; go_at_call 39; refine (HN.out _ (HO0.out.1)).mono ?_; rintro e y1 ⟨rfl, ok⟩; have HO1 : Hid ((Below w.heap.size w y1) ∧ BxP y1 w.heap.size P.nm P.a P.b P.c (.slice a1 P.d.length c1) (.slice a2 P.p.length c2) (.slice a3 P.o.length c3)) := HK0.out _ _ HO0.out ok; clear ok HO0 g0 g1 g2 g3 g4 g5 g6 g7; obtain ⟨g0, g1, g2, g3, g4, g5, g6, g7⟩ := HO1.out.2))
    go_ret
    exact ⟨ret_bool HR.out.symm, HO1.out.1⟩
  · cases bv
    · skip
      have HR : Hid (DB = false) := by unfold Hid; rw [HD.out]; simp
      have HK0 : Hid (KeepP fun w1 => (Below w.heap.size w w1) ∧ BxP w1 w.heap.size P.nm P.a P.b P.c (.slice a1 P.d.length c1) (.slice a2 P.p.length c2) (.slice a3 P.o.length c3)) := (KeepP.and (keepBelow w) (keepBxP _ _ _ _ _ _ _ _))
      have HO0 : Hid ((Below w.heap.size w (w.alloc (.cells #[.string P.nm, .int .i64 P.a, .int .i64 P.b, .int .i64 P.c, .slice a1 P.d.length c1, .slice a2 P.p.length c2, .slice a3 P.o.length c3] 44))) ∧ BxP (w.alloc (.cells #[.string P.nm, .int .i64 P.a, .int .i64 P.b, .int .i64 P.c, .slice a1 P.d.length c1, .slice a2 P.p.length c2, .slice a3 P.o.length c3] 44)) w.heap.size P.nm P.a P.b P.c (.slice a1 P.d.length c1) (.slice a2 P.p.length c2) (.slice a3 P.o.length c3)) := ⟨boxB _ _, BxP.new rfl _ _ _ _ _ _ _⟩
      obtain ⟨g0, g1, g2, g3, g4, g5, g6, g7⟩ := HO0.out.2
      go_enter Tryz.func63, Tryz.ntmps63
      go_wp2_with (first
        | (have _h := HO0; go_at_call 39; refine (HN.out _ (HO0.out.1)).mono ?_; rintro e y1 ⟨rfl, ok⟩; have HO1 : Hid ((Below w.heap.size w y1) ∧ BxP y1 w.heap.size P.nm P.a P.b P.c (.slice a1 P.d.length c1) (.slice a2 P.p.length c2) (.slice a3 P.o.length c3)) := HK0.out _ _ HO0.out ok; clear ok HO0 g0 g1 g2 g3 g4 g5 g6 g7; obtain ⟨g0, g1, g2, g3, g4, g5, g6, g7⟩ := HO1.out.2)
        | (have _h := HO1; go_at_call 84; refine (HV.out _ (HO1.out.1)).mono ?_; rintro e y2 ⟨rfl, ok⟩; have HO2 : Hid ((Below w.heap.size w y2) ∧ BxP y2 w.heap.size P.nm P.a P.b P.c (.slice a1 P.d.length c1) (.slice a2 P.p.length c2) (.slice a3 P.o.length c3)) := HK0.out _ _ HO1.out ok; clear ok HO1 g0 g1 g2 g3 g4 g5 g6 g7; obtain ⟨g0, g1, g2, g3, g4, g5, g6, g7⟩ := HO2.out.2))
      go_ret
      exact ⟨ret_bool HR.out.symm, HO2.out.1⟩
    · cases b1
      · skip
        have HR : Hid (DB = false) := by unfold Hid; rw [HD.out]; simp
        have HK0 : Hid (KeepP fun w1 => (Below w.heap.size w w1) ∧ BxP w1 w.heap.size P.nm P.a P.b P.c (.slice a1 P.d.length c1) (.slice a2 P.p.length c2) (.slice a3 P.o.length c3)) := (KeepP.and (keepBelow w) (keepBxP _ _ _ _ _ _ _ _))
        have HO0 : Hid ((Below w.heap.size w (w.alloc (.cells #[.string P.nm, .int .i64 P.a, .int .i64 P.b, .int .i64 P.c, .slice a1 P.d.length c1, .slice a2 P.p.length c2, .slice a3 P.o.length c3] 44))) ∧ BxP (w.alloc (.cells #[.string P.nm, .int .i64 P.a, .int .i64 P.b, .int .i64 P.c, .slice a1 P.d.length c1, .slice a2 P.p.length c2, .slice a3 P.o.length c3] 44)) w.heap.size P.nm P.a P.b P.c (.slice a1 P.d.length c1) (.slice a2 P.p.length c2) (.slice a3 P.o.length c3)) := ⟨boxB _ _, BxP.new rfl _ _ _ _ _ _ _⟩
        obtain ⟨g0, g1, g2, g3, g4, g5, g6, g7⟩ := HO0.out.2
        go_enter Tryz.func63, Tryz.ntmps63
        go_wp2_with (first
          | (have _h := HO0; go_at_call 39; refine (HN.out _ (HO0.out.1)).mono ?_; rintro e y1 ⟨rfl, ok⟩; have HO1 : Hid ((Below w.heap.size w y1) ∧ BxP y1 w.heap.size P.nm P.a P.b P.c (.slice a1 P.d.length c1) (.slice a2 P.p.length c2) (.slice a3 P.o.length c3)) := HK0.out _ _ HO0.out ok; clear ok HO0 g0 g1 g2 g3 g4 g5 g6 g7; obtain ⟨g0, g1, g2, g3, g4, g5, g6, g7⟩ := HO1.out.2)
          | (have _h := HO1; go_at_call 84; refine (HV.out _ (HO1.out.1)).mono ?_; rintro e y2 ⟨rfl, ok⟩; have HO2 : Hid ((Below w.heap.size w y2) ∧ BxP y2 w.heap.size P.nm P.a P.b P.c (.slice a1 P.d.length c1) (.slice a2 P.p.length c2) (.slice a3 P.o.length c3)) := HK0.out _ _ HO1.out ok; clear ok HO1 g0 g1 g2 g3 g4 g5 g6 g7; obtain ⟨g0, g1, g2, g3, g4, g5, g6, g7⟩ := HO2.out.2)
          | (have _h := HO2; go_at_call 85; refine (H1.out _ (HO2.out.1)).mono ?_; rintro e y3 ⟨rfl, ok⟩; have HO3 : Hid ((Below w.heap.size w y3) ∧ BxP y3 w.heap.size P.nm P.a P.b P.c (.slice a1 P.d.length c1) (.slice a2 P.p.length c2) (.slice a3 P.o.length c3)) := HK0.out _ _ HO2.out ok; clear ok HO2 g0 g1 g2 g3 g4 g5 g6 g7; obtain ⟨g0, g1, g2, g3, g4, g5, g6, g7⟩ := HO3.out.2))
        go_ret
        exact ⟨ret_bool HR.out.symm, HO3.out.1⟩
      · cases b2
        · skip
          have HR : Hid (DB = false) := by unfold Hid; rw [HD.out]; simp
          have HK0 : Hid (KeepP fun w1 => (Below w.heap.size w w1) ∧ BxP w1 w.heap.size P.nm P.a P.b P.c (.slice a1 P.d.length c1) (.slice a2 P.p.length c2) (.slice a3 P.o.length c3)) := (KeepP.and (keepBelow w) (keepBxP _ _ _ _ _ _ _ _))
          have HO0 : Hid ((Below w.heap.size w (w.alloc (.cells #[.string P.nm, .int .i64 P.a, .int .i64 P.b, .int .i64 P.c, .slice a1 P.d.length c1, .slice a2 P.p.length c2, .slice a3 P.o.length c3] 44))) ∧ BxP (w.alloc (.cells #[.string P.nm, .int .i64 P.a, .int .i64 P.b, .int .i64 P.c, .slice a1 P.d.length c1, .slice a2 P.p.length c2, .slice a3 P.o.length c3] 44)) w.heap.size P.nm P.a P.b P.c (.slice a1 P.d.length c1) (.slice a2 P.p.length c2) (.slice a3 P.o.length c3)) := ⟨boxB _ _, BxP.new rfl _ _ _ _ _ _ _⟩
          obtain ⟨g0, g1, g2, g3, g4, g5, g6, g7⟩ := HO0.out.2
          go_enter Tryz.func63, Tryz.ntmps63
          go_wp2_with (first
            | (have _h := HO0; go_at_call 39; refine (HN.out _ (HO0.out.1)).mono ?_; rintro e y1 ⟨rfl, ok⟩; have HO1 : Hid ((Below w.heap.size w y1) ∧ BxP y1 w.heap.size P.nm P.a P.b P.c (.slice a1 P.d.length c1) (.slice a2 P.p.length c2) (.slice a3 P.o.length c3)) := HK0.out _ _ HO0.out ok; clear ok HO0 g0 g1 g2 g3 g4 g5 g6 g7; obtain ⟨g0, g1, g2, g3, g4, g5, g6, g7⟩ := HO1.out.2)
            | (have _h := HO1; go_at_call 84; refine (HV.out _ (HO1.out.1)).mono ?_; rintro e y2 ⟨rfl, ok⟩; have HO2 : Hid ((Below w.heap.size w y2) ∧ BxP y2 w.heap.size P.nm P.a P.b P.c (.slice a1 P.d.length c1) (.slice a2 P.p.length c2) (.slice a3 P.o.length c3)) := HK0.out _ _ HO1.out ok; clear ok HO1 g0 g1 g2 g3 g4 g5 g6 g7; obtain ⟨g0, g1, g2, g3, g4, g5, g6, g7⟩ := HO2.out.2)
            | (have _h := HO2; go_at_call 85; refine (H1.out _ (HO2.out.1)).mono ?_; rintro e y3 ⟨rfl, ok⟩; have HO3 : Hid ((Below w.heap.size w y3) ∧ BxP y3 w.heap.size P.nm P.a P.b P.c (.slice a1 P.d.length c1) (.slice a2 P.p.length c2) (.slice a3 P.o.length c3)) := HK0.out _ _ HO2.out ok; clear ok HO2 g0 g1 g2 g3 g4 g5 g6 g7; obtain ⟨g0, g1, g2, g3, g4, g5, g6, g7⟩ := HO3.out.2)
            | (have _h := HO3; go_at_call 85; refine (H2.out _ (HO3.out.1)).mono ?_; rintro e y4 ⟨rfl, ok⟩; have HO4 : Hid ((Below w.heap.size w y4) ∧ BxP y4 w.heap.size P.nm P.a P.b P.c (.slice a1 P.d.length c1) (.slice a2 P.p.length c2) (.slice a3 P.o.length c3)) := HK0.out _ _ HO3.out ok; clear ok HO3 g0 g1 g2 g3 g4 g5 g6 g7; obtain ⟨g0, g1, g2, g3, g4, g5, g6, g7⟩ := HO4.out.2))
          go_ret
          exact ⟨ret_bool HR.out.symm, HO4.out.1⟩
        · cases b3
          · skip
            have HR : Hid (DB = false) := by unfold Hid; rw [HD.out]; simp
            have HK0 : Hid (KeepP fun w1 => (Below w.heap.size w w1) ∧ BxP w1 w.heap.size P.nm P.a P.b P.c (.slice a1 P.d.length c1) (.slice a2 P.p.length c2) (.slice a3 P.o.length c3)) := (KeepP.and (keepBelow w) (keepBxP _ _ _ _ _ _ _ _))
            have HO0 : Hid ((Below w.heap.size w (w.alloc (.cells #[.string P.nm, .int .i64 P.a, .int .i64 P.b, .int .i64 P.c, .slice a1 P.d.length c1, .slice a2 P.p.length c2, .slice a3 P.o.length c3] 44))) ∧ BxP (w.alloc (.cells #[.string P.nm, .int .i64 P.a, .int .i64 P.b, .int .i64 P.c, .slice a1 P.d.length c1, .slice a2 P.p.length c2, .slice a3 P.o.length c3] 44)) w.heap.size P.nm P.a P.b P.c (.slice a1 P.d.length c1) (.slice a2 P.p.length c2) (.slice a3 P.o.length c3)) := ⟨boxB _ _, BxP.new rfl _ _ _ _ _ _ _⟩
            obtain ⟨g0, g1, g2, g3, g4, g5, g6, g7⟩ := HO0.out.2
            go_enter Tryz.func63, Tryz.ntmps63
            go_wp2_with (first
              | (have _h := HO0; go_at_call 39; refine (HN.out _ (HO0.out.1)).mono ?_; rintro e y1 ⟨rfl, ok⟩; have HO1 : Hid ((Below w.heap.size w y1) ∧ BxP y1 w.heap.size P.nm P.a P.b P.c (.slice a1 P.d.length c1) (.slice a2 P.p.length c2) (.slice a3 P.o.length c3)) := HK0.out _ _ HO0.out ok; clear ok HO0 g0 g1 g2 g3 g4 g5 g6 g7; obtain ⟨g0, g1, g2, g3, g4, g5, g6, g7⟩ := HO1.out.2)
              | (have _h := HO1; go_at_call 84; refine (HV.out _ (HO1.out.1)).mono ?_; rintro e y2 ⟨rfl, ok⟩; have HO2 : Hid ((Below w.heap.size w y2) ∧ BxP y2 w.heap.size P.nm P.a P.b P.c (.slice a1 P.d.length c1) (.slice a2 P.p.length c2) (.slice a3 P.o.length c3)) := HK0.out _ _ HO1.out ok; clear ok HO1 g0 g1 g2 g3 g4 g5 g6 g7; obtain ⟨g0, g1, g2, g3, g4, g5, g6, g7⟩ := HO2.out.2)
              | (have _h := HO2; go_at_call 85; refine (H1.out _ (HO2.out.1)).mono ?_; rintro e y3 ⟨rfl, ok⟩; have HO3 : Hid ((Below w.heap.size w y3) ∧ BxP y3 w.heap.size P.nm P.a P.b P.c (.slice a1 P.d.length c1) (.slice a2 P.p.length c2) (.slice a3 P.o.length c3)) := HK0.out _ _ HO2.out ok; clear ok HO2 g0 g1 g2 g3 g4 g5 g6 g7; obtain ⟨g0, g1, g2, g3, g4, g5, g6, g7⟩ := HO3.out.2)
              | (have _h := HO3; go_at_call 85; refine (H2.out _ (HO3.out.1)).mono ?_; rintro e y4 ⟨rfl, ok⟩; have HO4 : Hid ((Below w.heap.size w y4) ∧ BxP y4 w.heap.size P.nm P.a P.b P.c (.slice a1 P.d.length c1) (.slice a2 P.p.length c2) (.slice a3 P.o.length c3)) := HK0.out _ _ HO3.out ok; clear ok HO3 g0 g1 g2 g3 g4 g5 g6 g7; obtain ⟨g0, g1, g2, g3, g4, g5, g6, g7⟩ := HO4.out.2)
              | (have _h := HO4; go_at_call 85; refine (H3.out _ (HO4.out.1)).mono ?_; rintro e y5 ⟨rfl, ok⟩; have HO5 : Hid ((Below w.heap.size w y5) ∧ BxP y5 w.heap.size P.nm P.a P.b P.c (.slice a1 P.d.length c1) (.slice a2 P.p.length c2) (.slice a3 P.o.length c3)) := HK0.out _ _ HO4.out ok; clear ok HO4 g0 g1 g2 g3 g4 g5 g6 g7; obtain ⟨g0, g1, g2, g3, g4, g5, g6, g7⟩ := HO5.out.2))
            go_ret
            exact ⟨ret_bool HR.out.symm, HO5.out.1⟩
          · have B12 := hide3 (A12.out (by first | rfl | trivial) (by first | rfl | trivial))
            have B13 := hide3 (A13.out (by first | rfl | trivial) (by first | rfl | trivial))
            have B23 := hide3 (A23.out (by first | rfl | trivial) (by first | rfl | trivial))
            have BT := hide3 (HT.out (by first | rfl | trivial) (by first | rfl | trivial) (by first | rfl | trivial) (by first | rfl | trivial))
            clear A12 A13 A23 HT
            cases p12
            · skip
              have HR : Hid (DB = false) := by unfold Hid; rw [HD.out]; simp
              have HK0 : Hid (KeepP fun w1 => (Below w.heap.size w w1) ∧ BxP w1 w.heap.size P.nm P.a P.b P.c (.slice a1 P.d.length c1) (.slice a2 P.p.length c2) (.slice a3 P.o.length c3)) := (KeepP.and (keepBelow w) (keepBxP _ _ _ _ _ _ _ _))
              have HO0 : Hid ((Below w.heap.size w (w.alloc (.cells #[.string P.nm, .int .i64 P.a, .int .i64 P.b, .int .i64 P.c, .slice a1 P.d.length c1, .slice a2 P.p.length c2, .slice a3 P.o.length c3] 44))) ∧ BxP (w.alloc (.cells #[.string P.nm, .int .i64 P.a, .int .i64 P.b, .int .i64 P.c, .slice a1 P.d.length c1, .slice a2 P.p.length c2, .slice a3 P.o.length c3] 44)) w.heap.size P.nm P.a P.b P.c (.slice a1 P.d.length c1) (.slice a2 P.p.length c2) (.slice a3 P.o.length c3)) := ⟨boxB _ _, BxP.new rfl _ _ _ _ _ _ _⟩
              obtain ⟨g0, g1, g2, g3, g4, g5, g6, g7⟩ := HO0.out.2
              go_enter Tryz.func63, Tryz.ntmps63
              go_wp2_with (first
                | (have _h := HO0; go_at_call 39; refine (HN.out _ (HO0.out.1)).mono ?_; rintro e y1 ⟨rfl, ok⟩; have HO1 : Hid ((Below w.heap.size w y1) ∧ BxP y1 w.heap.size P.nm P.a P.b P.c (.slice a1 P.d.length c1) (.slice a2 P.p.length c2) (.slice a3 P.o.length c3)) := HK0.out _ _ HO0.out ok; clear ok HO0 g0 g1 g2 g3 g4 g5 g6 g7; obtain ⟨g0, g1, g2, g3, g4, g5, g6, g7⟩ := HO1.out.2)
                | (have _h := HO1; go_at_call 84; refine (HV.out _ (HO1.out.1)).mono ?_; rintro e y2 ⟨rfl, ok⟩; have HO2 : Hid ((Below w.heap.size w y2) ∧ BxP y2 w.heap.size P.nm P.a P.b P.c (.slice a1 P.d.length c1) (.slice a2 P.p.length c2) (.slice a3 P.o.length c3)) := HK0.out _ _ HO1.out ok; clear ok HO1 g0 g1 g2 g3 g4 g5 g6 g7; obtain ⟨g0, g1, g2, g3, g4, g5, g6, g7⟩ := HO2.out.2)
                | (have _h := HO2; go_at_call 85; refine (H1.out _ (HO2.out.1)).mono ?_; rintro e y3 ⟨rfl, ok⟩; have HO3 : Hid ((Below w.heap.size w y3) ∧ BxP y3 w.heap.size P.nm P.a P.b P.c (.slice a1 P.d.length c1) (.slice a2 P.p.length c2) (.slice a3 P.o.length c3)) := HK0.out _ _ HO2.out ok; clear ok HO2 g0 g1 g2 g3 g4 g5 g6 g7; obtain ⟨g0, g1, g2, g3, g4, g5, g6, g7⟩ := HO3.out.2)
                | (have _h := HO3; go_at_call 85; refine (H2.out _ (HO3.out.1)).mono ?_; rintro e y4 ⟨rfl, ok⟩; have HO4 : Hid ((Below w.heap.size w y4) ∧ BxP y4 w.heap.size P.nm P.a P.b P.c (.slice a1 P.d.length c1) (.slice a2 P.p.length c2) (.slice a3 P.o.length c3)) := HK0.out _ _ HO3.out ok; clear ok HO3 g0 g1 g2 g3 g4 g5 g6 g7; obtain ⟨g0, g1, g2, g3, g4, g5, g6, g7⟩ := HO4.out.2)
                | (have _h := HO4; go_at_call 85; refine (H3.out _ (HO4.out.1)).mono ?_; rintro e y5 ⟨rfl, ok⟩; have HO5 : Hid ((Below w.heap.size w y5) ∧ BxP y5 w.heap.size P.nm P.a P.b P.c (.slice a1 P.d.length c1) (.slice a2 P.p.length c2) (.slice a3 P.o.length c3)) := HK0.out _ _ HO4.out ok; clear ok HO4 g0 g1 g2 g3 g4 g5 g6 g7; obtain ⟨g0, g1, g2, g3, g4, g5, g6, g7⟩ := HO5.out.2)
                | (have _h := HO5; go_at_call 86; refine (B12.out _ (HO5.out.1)).mono ?_; rintro e y6 ⟨rfl, ok⟩; have HO6 : Hid ((Below w.heap.size w y6) ∧ BxP y6 w.heap.size P.nm P.a P.b P.c (.slice a1 P.d.length c1) (.slice a2 P.p.length c2) (.slice a3 P.o.length c3)) := HK0.out _ _ HO5.out ok; clear ok HO5 g0 g1 g2 g3 g4 g5 g6 g7; obtain ⟨g0, g1, g2, g3, g4, g5, g6, g7⟩ := HO6.out.2))
              go_ret
              exact ⟨ret_bool HR.out.symm, HO6.out.1⟩
            · cases p13
              · skip
                have HR : Hid (DB = false) := by unfold Hid; rw [HD.out]; simp
                have HK0 : Hid (KeepP fun w1 => (Below w.heap.size w w1) ∧ BxP w1 w.heap.size P.nm P.a P.b P.c (.slice a1 P.d.length c1) (.slice a2 P.p.length c2) (.slice a3 P.o.length c3)) := (KeepP.and (keepBelow w) (keepBxP _ _ _ _ _ _ _ _))
                have HO0 : Hid ((Below w.heap.size w (w.alloc (.cells #[.string P.nm, .int .i64 P.a, .int .i64 P.b, .int .i64 P.c, .slice a1 P.d.length c1, .slice a2 P.p.length c2, .slice a3 P.o.length c3] 44))) ∧ BxP (w.alloc (.cells #[.string P.nm, .int .i64 P.a, .int .i64 P.b, .int .i64 P.c, .slice a1 P.d.length c1, .slice a2 P.p.length c2, .slice a3 P.o.length c3] 44)) w.heap.size P.nm P.a P.b P.c (.slice a1 P.d.length c1) (.slice a2 P.p.length c2) (.slice a3 P.o.length c3)) := ⟨boxB _ _, BxP.new rfl _ _ _ _ _ _ _⟩
                obtain ⟨g0, g1, g2, g3, g4, g5, g6, g7⟩ := HO0.out.2
                go_enter Tryz.func63, Tryz.ntmps63
                go_wp2_with (first
                  | (have _h := HO0; go_at_call 39; refine (HN.out _ (HO0.out.1)).mono ?_; rintro e y1 ⟨rfl, ok⟩; have HO1 : Hid ((Below w.heap.size w y1) ∧ BxP y1 w.heap.size P.nm P.a P.b P.c (.slice a1 P.d.length c1) (.slice a2 P.p.length c2) (.slice a3 P.o.length c3)) := HK0.out _ _ HO0.out ok; clear ok HO0 g0 g1 g2 g3 g4 g5 g6 g7; obtain ⟨g0, g1, g2, g3, g4, g5, g6, g7⟩ := HO1.out.2)
                  | (have _h := HO1; go_at_call 84; refine (HV.out _ (HO1.out.1)).mono ?_; rintro e y2 ⟨rfl, ok⟩; have HO2 : Hid ((Below w.heap.size w y2) ∧ BxP y2 w.heap.size P.nm P.a P.b P.c (.slice a1 P.d.length c1) (.slice a2 P.p.length c2) (.slice a3 P.o.length c3)) := HK0.out _ _ HO1.out ok; clear ok HO1 g0 g1 g2 g3 g4 g5 g6 g7; obtain ⟨g0, g1, g2, g3, g4, g5, g6, g7⟩ := HO2.out.2)
                  | (have _h := HO2; go_at_call 85; refine (H1.out _ (HO2.out.1)).mono ?_; rintro e y3 ⟨rfl, ok⟩; have HO3 : Hid ((Below w.heap.size w y3) ∧ BxP y3 w.heap.size P.nm P.a P.b P.c (.slice a1 P.d.length c1) (.slice a2 P.p.length c2) (.slice a3 P.o.length c3)) := HK0.out _ _ HO2.out ok; clear ok HO2 g0 g1 g2 g3 g4 g5 g6 g7; obtain ⟨g0, g1, g2, g3, g4, g5, g6, g7⟩ := HO3.out.2)
                  | (have _h := HO3; go_at_call 85; refine (H2.out _ (HO3.out.1)).mono ?_; rintro e y4 ⟨rfl, ok⟩; have HO4 : Hid ((Below w.heap.size w y4) ∧ BxP y4 w.heap.size P.nm P.a P.b P.c (.slice a1 P.d.length c1) (.slice a2 P.p.length c2) (.slice a3 P.o.length c3)) := HK0.out _ _ HO3.out ok; clear ok HO3 g0 g1 g2 g3 g4 g5 g6 g7; obtain ⟨g0, g1, g2, g3, g4, g5, g6, g7⟩ := HO4.out.2)
                  | (have _h := HO4; go_at_call 85; refine (H3.out _ (HO4.out.1)).mono ?_; rintro e y5 ⟨rfl, ok⟩; have HO5 : Hid ((Below w.heap.size w y5) ∧ BxP y5 w.heap.size P.nm P.a P.b P.c (.slice a1 P.d.length c1) (.slice a2 P.p.length c2) (.slice a3 P.o.length c3)) := HK0.out _ _ HO4.out ok; clear ok HO4 g0 g1 g2 g3 g4 g5 g6 g7; obtain ⟨g0, g1, g2, g3, g4, g5, g6, g7⟩ := HO5.out.2)
                  | (have _h := HO5; go_at_call 86; refine (B12.out _ (HO5.out.1)).mono ?_; rintro e y6 ⟨rfl, ok⟩; have HO6 : Hid ((Below w.heap.size w y6) ∧ BxP y6 w.heap.size P.nm P.a P.b P.c (.slice a1 P.d.length c1) (.slice a2 P.p.length c2) (.slice a3 P.o.length c3)) := HK0.out _ _ HO5.out ok; clear ok HO5 g0 g1 g2 g3 g4 g5 g6 g7; obtain ⟨g0, g1, g2, g3, g4, g5, g6, g7⟩ := HO6.out.2)
                  | (have _h := HO6; go_at_call 86; refine (B13.out _ (HO6.out.1)).mono ?_; rintro e y7 ⟨rfl, ok⟩; have HO7 : Hid ((Below w.heap.size w y7) ∧ BxP y7 w.heap.size P.nm P.a P.b P.c (.slice a1 P.d.length c1) (.slice a2 P.p.length c2) (.slice a3 P.o.length c3)) := HK0.out _ _ HO6.out ok; clear ok HO6 g0 g1 g2 g3 g4 g5 g6 g7; obtain ⟨g0, g1, g2, g3, g4, g5, g6, g7⟩ := HO7.out.2))
                go_ret
                exact ⟨ret_bool HR.out.symm, HO7.out.1⟩
              · cases p23
                · skip
                  have HR : Hid (DB = false) := by unfold Hid; rw [HD.out]; simp
                  have HK0 : Hid (KeepP fun w1 => (Below w.heap.size w w1) ∧ BxP w1 w.heap.size P.nm P.a P.b P.c (.slice a1 P.d.length c1) (.slice a2 P.p.length c2) (.slice a3 P.o.length c3)) := (KeepP.and (keepBelow w) (keepBxP _ _ _ _ _ _ _ _))
                  have HO0 : Hid ((Below w.heap.size w (w.alloc (.cells #[.string P.nm, .int .i64 P.a, .int .i64 P.b, .int .i64 P.c, .slice a1 P.d.length c1, .slice a2 P.p.length c2, .slice a3 P.o.length c3] 44))) ∧ BxP (w.alloc (.cells #[.string P.nm, .int .i64 P.a, .int .i64 P.b, .int .i64 P.c, .slice a1 P.d.length c1, .slice a2 P.p.length c2, .slice a3 P.o.length c3] 44)) w.heap.size P.nm P.a P.b P.c (.slice a1 P.d.length c1) (.slice a2 P.p.length c2) (.slice a3 P.o.length c3)) := ⟨boxB _ _, BxP.new rfl _ _ _ _ _ _ _⟩
                  obtain ⟨g0, g1, g2, g3, g4, g5, g6, g7⟩ := HO0.out.2
                  go_enter Tryz.func63, Tryz.ntmps63
                  go_wp2_with (first
                    | (have _h := HO0; go_at_call 39; refine (HN.out _ (HO0.out.1)).mono ?_; rintro e y1 ⟨rfl, ok⟩; have HO1 : Hid ((Below w.heap.size w y1) ∧ BxP y1 w.heap.size P.nm P.a P.b P.c (.slice a1 P.d.length c1) (.slice a2 P.p.length c2) (.slice a3 P.o.length c3)) := HK0.out _ _ HO0.out ok; clear ok HO0 g0 g1 g2 g3 g4 g5 g6 g7; obtain ⟨g0, g1, g2, g3, g4, g5, g6, g7⟩ := HO1.out.2)
                    | (have _h := HO1; go_at_call 84; refine (HV.out _ (HO1.out.1)).mono ?_; rintro e y2 ⟨rfl, ok⟩; have HO2 : Hid ((Below w.heap.size w y2) ∧ BxP y2 w.heap.size P.nm P.a P.b P.c (.slice a1 P.d.length c1) (.slice a2 P.p.length c2) (.slice a3 P.o.length c3)) := HK0.out _ _ HO1.out ok; clear ok HO1 g0 g1 g2 g3 g4 g5 g6 g7; obtain ⟨g0, g1, g2, g3, g4, g5, g6, g7⟩ := HO2.out.2)
                    | (have _h := HO2; go_at_call 85; refine (H1.out _ (HO2.out.1)).mono ?_; rintro e y3 ⟨rfl, ok⟩; have HO3 : Hid ((Below w.heap.size w y3) ∧ BxP y3 w.heap.size P.nm P.a P.b P.c (.slice a1 P.d.length c1) (.slice a2 P.p.length c2) (.slice a3 P.o.length c3)) := HK0.out _ _ HO2.out ok; clear ok HO2 g0 g1 g2 g3 g4 g5 g6 g7; obtain ⟨g0, g1, g2, g3, g4, g5, g6, g7⟩ := HO3.out.2)
                    | (have _h := HO3; go_at_call 85; refine (H2.out _ (HO3.out.1)).mono ?_; rintro e y4 ⟨rfl, ok⟩; have HO4 : Hid ((Below w.heap.size w y4) ∧ BxP y4 w.heap.size P.nm P.a P.b P.c (.slice a1 P.d.length c1) (.slice a2 P.p.length c2) (.slice a3 P.o.length c3)) := HK0.out _ _ HO3.out ok; clear ok HO3 g0 g1 g2 g3 g4 g5 g6 g7; obtain ⟨g0, g1, g2, g3, g4, g5, g6, g7⟩ := HO4.out.2)
                    | (have _h := HO4; go_at_call 85; refine (H3.out _ (HO4.out.1)).mono ?_; rintro e y5 ⟨rfl, ok⟩; have HO5 : Hid ((Below w.heap.size w y5) ∧ BxP y5 w.heap.size P.nm P.a P.b P.c (.slice a1 P.d.length c1) (.slice a2 P.p.length c2) (.slice a3 P.o.length c3)) := HK0.out _ _ HO4.out ok; clear ok HO4 g0 g1 g2 g3 g4 g5 g6 g7; obtain ⟨g0, g1, g2, g3, g4, g5, g6, g7⟩ := HO5.out.2)
                    | (have _h := HO5; go_at_call 86; refine (B12.out _ (HO5.out.1)).mono ?_; rintro e y6 ⟨rfl, ok⟩; have HO6 : Hid ((Below w.heap.size w y6) ∧ BxP y6 w.heap.size P.nm P.a P.b P.c (.slice a1 P.d.length c1) (.slice a2 P.p.length c2) (.slice a3 P.o.length c3)) := HK0.out _ _ HO5.out ok; clear ok HO5 g0 g1 g2 g3 g4 g5 g6 g7; obtain ⟨g0, g1, g2, g3, g4, g5, g6, g7⟩ := HO6.out.2)
                    | (have _h := HO6; go_at_call 86; refine (B13.out _ (HO6.out.1)).mono ?_; rintro e y7 ⟨rfl, ok⟩; have HO7 : Hid ((Below w.heap.size w y7) ∧ BxP y7 w.heap.size P.nm P.a P.b P.c (.slice a1 P.d.length c1) (.slice a2 P.p.length c2) (.slice a3 P.o.length c3)) := HK0.out _ _ HO6.out ok; clear ok HO6 g0 g1 g2 g3 g4 g5 g6 g7; obtain ⟨g0, g1, g2, g3, g4, g5, g6, g7⟩ := HO7.out.2)
                    | (have _h := HO7; go_at_call 86; refine (B23.out _ (HO7.out.1)).mono ?_; rintro e y8 ⟨rfl, ok⟩; have HO8 : Hid ((Below w.heap.size w y8) ∧ BxP y8 w.heap.size P.nm P.a P.b P.c (.slice a1 P.d.length c1) (.slice a2 P.p.length c2) (.slice a3 P.o.length c3)) := HK0.out _ _ HO7.out ok; clear ok HO7 g0 g1 g2 g3 g4 g5 g6 g7; obtain ⟨g0, g1, g2, g3, g4, g5, g6, g7⟩ := HO8.out.2))
                  go_ret
                  exact ⟨ret_bool HR.out.symm, HO8.out.1⟩
                · by_cases hlen : tl ≤ 4096
                  · have hz1 : decide ((TX.size : Int) ≤ 4096) = true := decide_eq_true (by have := HZ.out; omega)
                    have HR : Hid (DB = true) := by unfold Hid; rw [HD.out]; simp [hlen]
                    have hz2 : (TX.size : Int) ≤ 4096 := by have := HZ.out; omega
                    have _ := hlen
                    have HK0 : Hid (KeepP fun w1 => (Below w.heap.size w w1) ∧ BxP w1 w.heap.size P.nm P.a P.b P.c (.slice a1 P.d.length c1) (.slice a2 P.p.length c2) (.slice a3 P.o.length c3)) := (KeepP.and (keepBelow w) (keepBxP _ _ _ _ _ _ _ _))
                    have HO0 : Hid ((Below w.heap.size w (w.alloc (.cells #[.string P.nm, .int .i64 P.a, .int .i64 P.b, .int .i64 P.c, .slice a1 P.d.length c1, .slice a2 P.p.length c2, .slice a3 P.o.length c3] 44))) ∧ BxP (w.alloc (.cells #[.string P.nm, .int .i64 P.a, .int .i64 P.b, .int .i64 P.c, .slice a1 P.d.length c1, .slice a2 P.p.length c2, .slice a3 P.o.length c3] 44)) w.heap.size P.nm P.a P.b P.c (.slice a1 P.d.length c1) (.slice a2 P.p.length c2) (.slice a3 P.o.length c3)) := ⟨boxB _ _, BxP.new rfl _ _ _ _ _ _ _⟩
                    obtain ⟨g0, g1, g2, g3, g4, g5, g6, g7⟩ := HO0.out.2
                    go_enter Tryz.func63, Tryz.ntmps63
                    go_wp2_with (first
                      | (have _h := HO0; go_at_call 39; refine (HN.out _ (HO0.out.1)).mono ?_; rintro e y1 ⟨rfl, ok⟩; have HO1 : Hid ((Below w.heap.size w y1) ∧ BxP y1 w.heap.size P.nm P.a P.b P.c (.slice a1 P.d.length c1) (.slice a2 P.p.length c2) (.slice a3 P.o.length c3)) := HK0.out _ _ HO0.out ok; clear ok HO0 g0 g1 g2 g3 g4 g5 g6 g7; obtain ⟨g0, g1, g2, g3, g4, g5, g6, g7⟩ := HO1.out.2)
                      | (have _h := HO1; go_at_call 84; refine (HV.out _ (HO1.out.1)).mono ?_; rintro e y2 ⟨rfl, ok⟩; have HO2 : Hid ((Below w.heap.size w y2) ∧ BxP y2 w.heap.size P.nm P.a P.b P.c (.slice a1 P.d.length c1) (.slice a2 P.p.length c2) (.slice a3 P.o.length c3)) := HK0.out _ _ HO1.out ok; clear ok HO1 g0 g1 g2 g3 g4 g5 g6 g7; obtain ⟨g0, g1, g2, g3, g4, g5, g6, g7⟩ := HO2.out.2)
                      | (have _h := HO2; go_at_call 85; refine (H1.out _ (HO2.out.1)).mono ?_; rintro e y3 ⟨rfl, ok⟩; have HO3 : Hid ((Below w.heap.size w y3) ∧ BxP y3 w.heap.size P.nm P.a P.b P.c (.slice a1 P.d.length c1) (.slice a2 P.p.length c2) (.slice a3 P.o.length c3)) := HK0.out _ _ HO2.out ok; clear ok HO2 g0 g1 g2 g3 g4 g5 g6 g7; obtain ⟨g0, g1, g2, g3, g4, g5, g6, g7⟩ := HO3.out.2)
                      | (have _h := HO3; go_at_call 85; refine (H2.out _ (HO3.out.1)).mono ?_; rintro e y4 ⟨rfl, ok⟩; have HO4 : Hid ((Below w.heap.size w y4) ∧ BxP y4 w.heap.size P.nm P.a P.b P.c (.slice a1 P.d.length c1) (.slice a2 P.p.length c2) (.slice a3 P.o.length c3)) := HK0.out _ _ HO3.out ok; clear ok HO3 g0 g1 g2 g3 g4 g5 g6 g7; obtain ⟨g0, g1, g2, g3, g4, g5, g6, g7⟩ := HO4.out.2)
                      | (have _h := HO4; go_at_call 85; refine (H3.out _ (HO4.out.1)).mono ?_; rintro e y5 ⟨rfl, ok⟩; have HO5 : Hid ((Below w.heap.size w y5) ∧ BxP y5 w.heap.size P.nm P.a P.b P.c (.slice a1 P.d.length c1) (.slice a2 P.p.length c2) (.slice a3 P.o.length c3)) := HK0.out _ _ HO4.out ok; clear ok HO4 g0 g1 g2 g3 g4 g5 g6 g7; obtain ⟨g0, g1, g2, g3, g4, g5, g6, g7⟩ := HO5.out.2)
                      | (have _h := HO5; go_at_call 86; refine (B12.out _ (HO5.out.1)).mono ?_; rintro e y6 ⟨rfl, ok⟩; have HO6 : Hid ((Below w.heap.size w y6) ∧ BxP y6 w.heap.size P.nm P.a P.b P.c (.slice a1 P.d.length c1) (.slice a2 P.p.length c2) (.slice a3 P.o.length c3)) := HK0.out _ _ HO5.out ok; clear ok HO5 g0 g1 g2 g3 g4 g5 g6 g7; obtain ⟨g0, g1, g2, g3, g4, g5, g6, g7⟩ := HO6.out.2)
                      | (have _h := HO6; go_at_call 86; refine (B13.out _ (HO6.out.1)).mono ?_; rintro e y7 ⟨rfl, ok⟩; have HO7 : Hid ((Below w.heap.size w y7) ∧ BxP y7 w.heap.size P.nm P.a P.b P.c (.slice a1 P.d.length c1) (.slice a2 P.p.length c2) (.slice a3 P.o.length c3)) := HK0.out _ _ HO6.out ok; clear ok HO6 g0 g1 g2 g3 g4 g5 g6 g7; obtain ⟨g0, g1, g2, g3, g4, g5, g6, g7⟩ := HO7.out.2)
                      | (have _h := HO7; go_at_call 86; refine (B23.out _ (HO7.out.1)).mono ?_; rintro e y8 ⟨rfl, ok⟩; have HO8 : Hid ((Below w.heap.size w y8) ∧ BxP y8 w.heap.size P.nm P.a P.b P.c (.slice a1 P.d.length c1) (.slice a2 P.p.length c2) (.slice a3 P.o.length c3)) := HK0.out _ _ HO7.out ok; clear ok HO7 g0 g1 g2 g3 g4 g5 g6 g7; obtain ⟨g0, g1, g2, g3, g4, g5, g6, g7⟩ := HO8.out.2)
                      | (have _h := HO8; go_at_call 87; refine (BT.out _ (HO8.out.1)).mono ?_; rintro e y9 ⟨rfl, ok⟩; have HO9 : Hid ((Below w.heap.size w y9) ∧ BxP y9 w.heap.size P.nm P.a P.b P.c (.slice a1 P.d.length c1) (.slice a2 P.p.length c2) (.slice a3 P.o.length c3)) := HK0.out _ _ HO8.out ok; clear ok HO8 g0 g1 g2 g3 g4 g5 g6 g7; obtain ⟨g0, g1, g2, g3, g4, g5, g6, g7⟩ := HO9.out.2))
                    go_ret
                    exact ⟨ret_bool HR.out.symm, HO9.out.1⟩
                  · have hz1 : decide ((TX.size : Int) ≤ 4096) = false := decide_eq_false (by have := HZ.out; omega)
                    have HR : Hid (DB = false) := by unfold Hid; rw [HD.out]; simp [hlen]
                    have _ := hlen
                    have HK0 : Hid (KeepP fun w1 => (Below w.heap.size w w1) ∧ BxP w1 w.heap.size P.nm P.a P.b P.c (.slice a1 P.d.length c1) (.slice a2 P.p.length c2) (.slice a3 P.o.length c3)) := (KeepP.and (keepBelow w) (keepBxP _ _ _ _ _ _ _ _))
                    have HO0 : Hid ((Below w.heap.size w (w.alloc (.cells #[.string P.nm, .int .i64 P.a, .int .i64 P.b, .int .i64 P.c, .slice a1 P.d.length c1, .slice a2 P.p.length c2, .slice a3 P.o.length c3] 44))) ∧ BxP (w.alloc (.cells #[.string P.nm, .int .i64 P.a, .int .i64 P.b, .int .i64 P.c, .slice a1 P.d.length c1, .slice a2 P.p.length c2, .slice a3 P.o.length c3] 44)) w.heap.size P.nm P.a P.b P.c (.slice a1 P.d.length c1) (.slice a2 P.p.length c2) (.slice a3 P.o.length c3)) := ⟨boxB _ _, BxP.new rfl _ _ _ _ _ _ _⟩
                    obtain ⟨g0, g1, g2, g3, g4, g5, g6, g7⟩ := HO0.out.2
                    go_enter Tryz.func63, Tryz.ntmps63
                    go_wp2_with (first
                      | (have _h := HO0; go_at_call 39; refine (HN.out _ (HO0.out.1)).mono ?_; rintro e y1 ⟨rfl, ok⟩; have HO1 : Hid ((Below w.heap.size w y1) ∧ BxP y1 w.heap.size P.nm P.a P.b P.c (.slice a1 P.d.length c1) (.slice a2 P.p.length c2) (.slice a3 P.o.length c3)) := HK0.out _ _ HO0.out ok; clear ok HO0 g0 g1 g2 g3 g4 g5 g6 g7; obtain ⟨g0, g1, g2, g3, g4, g5, g6, g7⟩ := HO1.out.2)
                      | (have _h := HO1; go_at_call 84; refine (HV.out _ (HO1.out.1)).mono ?_; rintro e y2 ⟨rfl, ok⟩; have HO2 : Hid ((Below w.heap.size w y2) ∧ BxP y2 w.heap.size P.nm P.a P.b P.c (.slice a1 P.d.length c1) (.slice a2 P.p.length c2) (.slice a3 P.o.length c3)) := HK0.out _ _ HO1.out ok; clear ok HO1 g0 g1 g2 g3 g4 g5 g6 g7; obtain ⟨g0, g1, g2, g3, g4, g5, g6, g7⟩ := HO2.out.2)
                      | (have _h := HO2; go_at_call 85; refine (H1.out _ (HO2.out.1)).mono ?_; rintro e y3 ⟨rfl, ok⟩; have HO3 : Hid ((Below w.heap.size w y3) ∧ BxP y3 w.heap.size P.nm P.a P.b P.c (.slice a1 P.d.length c1) (.slice a2 P.p.length c2) (.slice a3 P.o.length c3)) := HK0.out _ _ HO2.out ok; clear ok HO2 g0 g1 g2 g3 g4 g5 g6 g7; obtain ⟨g0, g1, g2, g3, g4, g5, g6, g7⟩ := HO3.out.2)
                      | (have _h := HO3; go_at_call 85; refine (H2.out _ (HO3.out.1)).mono ?_; rintro e y4 ⟨rfl, ok⟩; have HO4 : Hid ((Below w.heap.size w y4) ∧ BxP y4 w.heap.size P.nm P.a P.b P.c (.slice a1 P.d.length c1) (.slice a2 P.p.length c2) (.slice a3 P.o.length c3)) := HK0.out _ _ HO3.out ok; clear ok HO3 g0 g1 g2 g3 g4 g5 g6 g7; obtain ⟨g0, g1, g2, g3, g4, g5, g6, g7⟩ := HO4.out.2)
                      | (have _h := HO4; go_at_call 85; refine (H3.out _ (HO4.out.1)).mono ?_; rintro e y5 ⟨rfl, ok⟩; have HO5 : Hid ((Below w.heap.size w y5) ∧ BxP y5 w.heap.size P.nm P.a P.b P.c (.slice a1 P.d.length c1) (.slice a2 P.p.length c2) (.slice a3 P.o.length c3)) := HK0.out _ _ HO4.out ok; clear ok HO4 g0 g1 g2 g3 g4 g5 g6 g7; obtain ⟨g0, g1, g2, g3, g4, g5, g6, g7⟩ := HO5.out.2)
                      | (have _h := HO5; go_at_call 86; refine (B12.out _ (HO5.out.1)).mono ?_; rintro e y6 ⟨rfl, ok⟩; have HO6 : Hid ((Below w.heap.size w y6) ∧ BxP y6 w.heap.size P.nm P.a P.b P.c (.slice a1 P.d.length c1) (.slice a2 P.p.length c2) (.slice a3 P.o.length c3)) := HK0.out _ _ HO5.out ok; clear ok HO5 g0 g1 g2 g3 g4 g5 g6 g7; obtain ⟨g0, g1, g2, g3, g4, g5, g6, g7⟩ := HO6.out.2)
                      | (have _h := HO6; go_at_call 86; refine (B13.out _ (HO6.out.1)).mono ?_; rintro e y7 ⟨rfl, ok⟩; have HO7 : Hid ((Below w.heap.size w y7) ∧ BxP y7 w.heap.size P.nm P.a P.b P.c (.slice a1 P.d.length c1) (.slice a2 P.p.length c2) (.slice a3 P.o.length c3)) := HK0.out _ _ HO6.out ok; clear ok HO6 g0 g1 g2 g3 g4 g5 g6 g7; obtain ⟨g0, g1, g2, g3, g4, g5, g6, g7⟩ := HO7.out.2)
                      | (have _h := HO7; go_at_call 86; refine (B23.out _ (HO7.out.1)).mono ?_; rintro e y8 ⟨rfl, ok⟩; have HO8 : Hid ((Below w.heap.size w y8) ∧ BxP y8 w.heap.size P.nm P.a P.b P.c (.slice a1 P.d.length c1) (.slice a2 P.p.length c2) (.slice a3 P.o.length c3)) := HK0.out _ _ HO7.out ok; clear ok HO7 g0 g1 g2 g3 g4 g5 g6 g7; obtain ⟨g0, g1, g2, g3, g4, g5, g6, g7⟩ := HO8.out.2)
                      | (have _h := HO8; go_at_call 87; refine (BT.out _ (HO8.out.1)).mono ?_; rintro e y9 ⟨rfl, ok⟩; have HO9 : Hid ((Below w.heap.size w y9) ∧ BxP y9 w.heap.size P.nm P.a P.b P.c (.slice a1 P.d.length c1) (.slice a2 P.p.length c2) (.slice a3 P.o.length c3)) := HK0.out _ _ HO8.out ok; clear ok HO8 g0 g1 g2 g3 g4 g5 g6 g7; obtain ⟨g0, g1, g2, g3, g4, g5, g6, g7⟩ := HO9.out.2))
                    go_ret
                    exact ⟨ret_bool HR.out.symm, HO9.out.1⟩
end Go.Proofs.YtcclfaioicklaaaGreatDoor
namespace Go.Proofs.YtcclfaioicklaaaGreatDoor
open Go.RowKit
set_option maxRecDepth 100000

theorem bl_irr : ∀ l : List UInt8, Op.bytesLess l l = false
  | [] => rfl
  | a :: l => by
    show (decide (a < a) || (a == a && Op.bytesLess l l)) = false
    rw [bl_irr l]
    simp

theorem bl_trans : ∀ {a b c : List UInt8}, Op.bytesLess a b = true → Op.bytesLess b c = true → Op.bytesLess a c = true
  | _, [], _, h, _ => by cases ‹List UInt8› <;> simp [Op.bytesLess] at h
  | _, _ :: _, [], _, h => by simp [Op.bytesLess] at h
  | [], _ :: _, _ :: _, _, _ => rfl
  | x :: a, y :: b, z :: c, h1, h2 => by
    have e1 : (decide (x < y) || (x == y && Op.bytesLess a b)) = true := h1
    have e2 : (decide (y < z) || (y == z && Op.bytesLess b c)) = true := h2
    show (decide (x < z) || (x == z && Op.bytesLess a c)) = true
    simp only [Bool.or_eq_true, decide_eq_true_eq, Bool.and_eq_true, beq_iff_eq] at e1 e2 ⊢
    rcases e1 with h | ⟨rfl, h⟩
    · rcases e2 with k | ⟨rfl, _⟩
      · exact Or.inl (UInt8.lt_trans h k)
      · exact Or.inl h
    · rcases e2 with k | ⟨rfl, k⟩
      · exact Or.inl k
      · exact Or.inr ⟨rfl, bl_trans h k⟩

theorem rise_gt : ∀ {L : List Dp} {p : ByteArray}, riseD (some p) L = true → ∀ d ∈ L, ltS p d.nm = true
  | e :: M, p, h, d, hd => by
    rw [riseD, Bool.and_eq_true, Bool.and_eq_true] at h
    have h1 : ltS p e.nm = true := by
      have := h.1.1
      unfold followB at this
      rw [Bool.and_eq_true] at this
      exact this.2
    rcases List.mem_cons.1 hd with rfl | hd
    · exact h1
    · exact bl_trans h1 (rise_gt h.2 d hd)

theorem rise_nodup : ∀ {L : List Dp} {q : Option ByteArray}, riseD q L = true → (L.map Dp.nm).Nodup
  | [], _, _ => List.nodup_nil
  | e :: M, q, h => by
    rw [riseD, Bool.and_eq_true, Bool.and_eq_true] at h
    rw [List.map_cons, List.nodup_cons]
    refine ⟨fun hm => ?_, rise_nodup h.2⟩
    obtain ⟨d, hd, he⟩ := List.mem_map.1 hm
    have := rise_gt h.2 d hd
    rw [he] at this
    unfold ltS at this
    rw [bl_irr] at this
    cases this

theorem apart_iff {A B : List Dp} : apartB A B = true ↔ ∀ a ∈ A.map Dp.nm, ∀ b ∈ B.map Dp.nm, a ≠ b := by
  unfold apartB
  rw [List.all_eq_true]
  constructor
  · intro h a ha b hb
    obtain ⟨d, hd, rfl⟩ := List.mem_map.1 ha
    obtain ⟨e, he, rfl⟩ := List.mem_map.1 hb
    have := List.all_eq_true.1 (h d hd) e he
    intro hq
    rw [hq] at this
    simp at this
  · intro h d hd
    refine List.all_eq_true.2 fun e he => ?_
    have := h _ (List.mem_map.2 ⟨d, hd, rfl⟩) _ (List.mem_map.2 ⟨e, he, rfl⟩)
    rw [Bool.not_eq_true', beq_eq_false_iff_ne]
    exact fun hq => this (bytes_same hq)

theorem once_apart {A B C : List Dp} (ha : riseD none A = true) (hb : riseD none B = true) (hc : riseD none C = true) : onceL [A, B, C] = (apartB A B && (apartB A C && apartB B C)) := by
  have e : namesL [A, B, C] = A.map Dp.nm ++ (B.map Dp.nm ++ C.map Dp.nm) := by unfold namesL; simp
  rw [Bool.eq_iff_iff, Bool.and_eq_true, Bool.and_eq_true, apart_iff, apart_iff, apart_iff]
  unfold onceL
  rw [e]
  have hd : @decide ((A.map Dp.nm ++ (B.map Dp.nm ++ C.map Dp.nm)).Nodup) (Classical.propDecidable _) = true ↔ (A.map Dp.nm ++ (B.map Dp.nm ++ C.map Dp.nm)).Nodup := ⟨fun h => @of_decide_eq_true _ (Classical.propDecidable _) h, fun h => @decide_eq_true _ (Classical.propDecidable _) h⟩
  rw [hd, List.nodup_append, List.nodup_append]
  constructor
  · rintro ⟨_, ⟨_, _, h2⟩, h3⟩
    exact ⟨fun a ka b kb => h3 a ka b (List.mem_append_left _ kb), fun a ka b kb => h3 a ka b (List.mem_append_right _ kb), h2⟩
  · rintro ⟨h1, h2, h3⟩
    exact ⟨rise_nodup ha, ⟨rise_nodup hb, rise_nodup hc, h3⟩, fun a ka b kb => by
      rcases List.mem_append.1 kb with kb | kb
      · exact h1 a ka b kb
      · exact h2 a ka b kb⟩
end Go.Proofs.YtcclfaioicklaaaGreatDoor
namespace Go.Proofs.YtcclfaioicklaaaGreatDoor
open Go.RowKit
set_option maxRecDepth 100000

theorem doc_is (P : Pg) : docB P = writtenB P := by
  unfold docB writtenB soundB
  cases hl : (mayD P.d && (mayD P.p && mayD P.o))
  · simp
  · rw [Bool.and_eq_true, Bool.and_eq_true] at hl
    have r : ∀ {L : List Dp}, mayD L = true → riseD none L = true := fun h => by unfold mayD at h; rw [Bool.and_eq_true] at h; exact h.2
    unfold onceB
    rw [once_apart (r hl.1) (r hl.2.1) (r hl.2.2)]
end Go.Proofs.YtcclfaioicklaaaGreatDoor
namespace Go.Proofs.YtcclfaioicklaaaGreatDoor
open Go.ChangeShapes Go.WideShapes Go.ChangeAt Go.RowKit
set_option maxRecDepth 100000

theorem star : "*" ++ "errors.errorString" = "*errors.errorString" := by decide

theorem max_cell {W : World} (h : W.ShapedOpen Tryz.prog) : ∃ m, W.cell? ⟨0, 0, none⟩ = some (.int .i64 m) :=
  cell_of_shapedOpen_int (t := 3) (zero := #[.int .i64 0]) h (by decide +kernel) (by kernel_rfl) rfl (by kernel_rfl) (by kernel_rfl) Tryz.underlying3

end Go.Proofs.YtcclfaioicklaaaGreatDoor
namespace Go.Proofs.YtcclfaioicklaaaGreatDoor
open Go.ChangeShapes Go.WideShapes Go.ChangeAt Go.RowKit
set_option maxRecDepth 100000

theorem cellsSp : Tryz.prog.cellsOf 148 = 6 := by kernel_rfl

theorem ints_of {H : Type} {enc : TypeId × Value → H} {W : World} {base : Nat} {spare : Nat → Bool} {held : Bool} {n : Nat} {cs : List Value} {x : DataW H × List MemPlace} (h : DataW.trod enc Tryz.prog W base spare held n 41 cs = some x) :
    ∃ a b c, cs[0]? = some (.int .i64 a) ∧ cs[1]? = some (.int .i64 b) ∧ cs[2]? = some (.int .i64 c) ∧ x.1 = .agg [.lit (.int .i64 a), .lit (.int .i64 b), .lit (.int .i64 c)] := by
  have hs : Tryz.prog.underlying 41 = some (.struct (Tryz.prog.fieldsOf 41)) := by kernel_rfl
  obtain ⟨xs, n', _, hx, _, hxl, hf⟩ := DataW.trod_struct hs h
  have hfz : (Tryz.prog.fieldsOf 41).size = 3 := by kernel_rfl
  have ints : ∀ i off, ((Tryz.prog.fieldsOf 41)[i]?).map (fun f => (f.type, f.offset)) = some (3, off) → i < 3 → ∃ k, cs[off]? = some (.int .i64 k) ∧ xs[i]? = some (.lit (.int .i64 k), []) := by
    intro i off hfd hi
    obtain ⟨f, h1, h2, h3⟩ := field_at hfd
    have hr := hf i f h1
    rw [h2, h3, cellsInt, List.getElem?_eq_getElem (by omega : i < xs.length)] at hr
    obtain ⟨k, e1, e2, wk⟩ := DataW.trod_int Tryz.underlying3 hr
    exact ⟨k, take_one e1, by rw [List.getElem?_eq_getElem (by omega : i < xs.length), e2]⟩
  obtain ⟨a, a0, x0⟩ := ints 0 0 (by kernel_rfl) (by decide)
  obtain ⟨b, a1, x1⟩ := ints 1 1 (by kernel_rfl) (by decide)
  obtain ⟨c, a2, x2⟩ := ints 2 2 (by kernel_rfl) (by decide)
  refine ⟨a, b, c, a0, a1, a2, ?_⟩
  rw [hx]
  obtain ⟨y0, y1, y2, rfl⟩ := list3 (l := xs) (by omega)
  simp at x0 x1 x2
  subst x0 x1 x2
  rfl

theorem span_read {H : Type} {enc : TypeId × Value → H} {W : World} {base : Nat} {spare : Nat → Bool} {held : Bool} {n : Nat} {g o : Nat} {cs : List Value} {x : DataW H × List MemPlace} (hc : W.cells? base ⟨g, o, none⟩ 6 = some cs) (h : DataW.trod enc Tryz.prog W base spare held n 148 cs = some x) : ∃ s, SpAt W g o s := by
  have hs : Tryz.prog.underlying 148 = some (.struct (Tryz.prog.fieldsOf 148)) := by kernel_rfl
  obtain ⟨xs, n', _, _, _, hxl, hf⟩ := DataW.trod_struct hs h
  have hsz : (Tryz.prog.fieldsOf 148).size = 2 := by kernel_rfl
  obtain ⟨_, _, hq⟩ := World.cells?_some hc
  have vers : ∀ i off, ((Tryz.prog.fieldsOf 148)[i]?).map (fun f => (f.type, f.offset)) = some (41, off) → i < 2 → ∃ a b c, cs[off]? = some (.int .i64 a) ∧ cs[off + 1]? = some (.int .i64 b) ∧ cs[off + 2]? = some (.int .i64 c) := by
    intro i off hfd hi
    obtain ⟨f, h1, h2, h3⟩ := field_at hfd
    have hr := hf i f h1
    rw [h2, h3, cellsVer, List.getElem?_eq_getElem (by omega : i < xs.length)] at hr
    obtain ⟨a, b, c, e0, e1, e2, _⟩ := ints_of hr
    simp at e0 e1 e2
    exact ⟨a, b, c, e0, e1, e2⟩
  obtain ⟨a, b, c, a0, a1, a2⟩ := vers 0 0 (by kernel_rfl) (by decide)
  obtain ⟨x, y, z, a3, a4, a5⟩ := vers 1 3 (by kernel_rfl) (by decide)
  have ad : ∀ i, (⟨g, o, none⟩ : Addr).add i = ⟨g, o + i, none⟩ := fun i => by unfold Addr.add; split <;> simp_all
  have q0 := hq 0 (by decide)
  have q1 := hq 1 (by decide)
  have q2 := hq 2 (by decide)
  have q3 := hq 3 (by decide)
  have q4 := hq 4 (by decide)
  have q5 := hq 5 (by decide)
  rw [ad] at q0 q1 q2 q3 q4 q5
  exact ⟨⟨a, b, c, x, y, z⟩, by rw [← a0, ← q0]; rfl, by rw [← a1, ← q1], by rw [← a2, ← q2], by rw [← a3, ← q3], by rw [← a4, ← q4], by rw [← a5, ← q5]⟩

theorem list_of {P : Nat → Sp → Prop} : ∀ {n : Nat}, (∀ i, i < n → ∃ s, P i s) → ∃ L : List Sp, L.length = n ∧ ∀ i (h : i < L.length), P i L[i]
  | 0, _ => ⟨[], rfl, fun i h => by simp at h⟩
  | n + 1, h => by
    obtain ⟨L, hl, hP⟩ := list_of (n := n) fun i hi => h i (by omega)
    obtain ⟨s, hs⟩ := h n (by omega)
    refine ⟨L ++ [s], by simp [hl], fun i hi => ?_⟩
    by_cases hin : i < L.length
    · rw [List.getElem_append_left hin]; exact hP i hin
    · have : i = n := by simp at hi; omega
      subst this
      simpa [hl] using hs

/-- A list of spans that came in. -/
theorem open_spans {H : Type} {enc : TypeId × Value → H} {W : World} {base fuel : Nat} {held : Bool} {a : Option Addr} {len cap : Nat} {x : DataW H × List MemPlace} (h : DataW.trod enc Tryz.prog W base (fun _ => true) held fuel 111 [.slice a len cap] = some x) :
    ∃ L : List Sp, SpansC W (.slice a len cap) L := by
  rcases Go.Deep.open_slice Tryz.underlying111 h with ⟨hcs, _⟩ | ⟨ad, l, c, m, n, D, Pl, hcs, _, hl, _, hm, hx, hel⟩
  · simp only [List.cons.injEq, Value.slice.injEq, and_true] at hcs
    obtain ⟨rfl, rfl, rfl⟩ := hcs
    exact ⟨[], ⟨_, _, rfl, Or.inl rfl⟩, _, _, _, rfl, Nat.le_refl _⟩
  · simp only [List.cons.injEq, Value.slice.injEq, and_true] at hcs
    obtain ⟨rfl, rfl, rfl⟩ := hcs
    rcases Nat.eq_zero_or_pos len with h0 | h0
    · subst h0
      exact ⟨[], ⟨_, _, rfl, Or.inl rfl⟩, _, _, _, rfl, hl⟩
    · have hmm : len ≤ m := by rw [hm]; simp; exact hl
      rw [cellsSp] at hel
      obtain ⟨g, off, spot⟩ := ad
      obtain ⟨cs0, hc0, _⟩ := hel 0 (by omega)
      obtain ⟨_, hln, hq⟩ := World.cells?_some hc0
      have hcell := hq 0 (by decide)
      rw [List.getElem?_eq_getElem (by omega : 0 < cs0.length)] at hcell
      have hspot : spot = none := by simpa [Addr.add] using World.cell?_spot hcell
      subst hspot
      have ad2 : ∀ o i, (⟨g, o, none⟩ : Addr).add i = ⟨g, o + i, none⟩ := fun o i => by unfold Addr.add; split <;> simp_all
      obtain ⟨L, hL, hP⟩ := list_of (P := fun i s => SpAt W g (off + i * 6) s) (n := len) fun i hi => by
        obtain ⟨cs, hc, ht⟩ := hel i (by omega)
        rw [ad2] at hc
        exact span_read hc ht
      subst hL
      refine ⟨L, ⟨_, _, rfl, Or.inr ⟨g, off, rfl, ?_, hP⟩⟩, _, _, _, rfl, hl⟩
      have := cell_in hcell
      rw [ad2, ad2] at this; exact this

/-- A variable of three ints that is listed first. -/
theorem ver_laid {W : World} {nm : String} {a b c : Int} {r : List (String × DataW Unit)} {g : Nat} (hg : Tryz.prog.globalNamed nm = some g) (hty : (Tryz.prog.globals[g]?).map (·.type) = some 41)
    (h : laidMet Tryz.prog ((nm, .agg [.lit (.int .i64 a), .lit (.int .i64 b), .lit (.int .i64 c)]) :: r) W) :
    W.cell? ⟨g, 0, none⟩ = some (.int .i64 a) ∧ W.cell? ⟨g, 1, none⟩ = some (.int .i64 b) ∧ W.cell? ⟨g, 2, none⟩ = some (.int .i64 c) := by
  obtain ⟨ps, ⟨g', t', cs, fuel, p, q, hg', ht', hvar, hd, _, _⟩, _⟩ := h
  obtain rfl := Option.some.inj (hg.symm.trans hg')
  obtain rfl := Option.some.inj (hty.symm.trans ht')
  obtain ⟨x, y, z, e0, e1, e2, hx⟩ := ints_of hd
  simp at hx
  obtain ⟨rfl, rfl, rfl⟩ := hx
  have c0 := World.var?_cell hg hvar 0
  have c1 := World.var?_cell hg hvar 1
  have c2 := World.var?_cell hg hvar 2
  exact ⟨by rw [c0]; simpa using e0, by rw [c1]; simpa using e1, by rw [c2]; simpa using e2⟩

/-- What the rows of a layer without a parser list. -/
abbrev laid3 : List (String × DataW Unit) := [("math/bits.deBruijn32tab", Rows.laid_math_bits_deBruijn32tab), ("math/bits.deBruijn64tab", Rows.laid_math_bits_deBruijn64tab), ("internal/strconv.uint64pow10", Rows.laid_internal_strconv_uint64pow10), ("halyard/span.first", Rows.laid_halyard_span_first), ("halyard/span.last", Rows.laid_halyard_span_last)]
theorem env3_of {W : World} (h : laidMet Tryz.prog laid3 W) : Env W ∧ FL W := by
  have hT := tab_is h
  have h5 := laidMet.tail (laidMet.tail (laidMet.tail h))
  have h6 := laidMet.tail h5
  have f1 := ver_laid (g := 1) (by kernel_rfl) (by kernel_rfl) h5
  have f2 := ver_laid (g := 2) (by kernel_rfl) (by kernel_rfl) h6
  exact ⟨{ tab := hT }, f1, f2, cell_in f1.1, cell_in f2.1⟩

end Go.Proofs.YtcclfaioicklaaaGreatDoor
