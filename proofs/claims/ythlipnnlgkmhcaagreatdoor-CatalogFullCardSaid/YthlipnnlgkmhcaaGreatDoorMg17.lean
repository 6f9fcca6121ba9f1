/- Rk5, Rk6, Rk9, Rk7d, laid in one text. -/
import Derived.Test.YthlipnnlgkmhcaaGreatDoorMg16
namespace Go.Proofs.YthlipnnlgkmhcaaGreatDoor
open Go.RowKit
set_option maxRecDepth 100000

theorem rPrint_sp {L : List Sp} {u : Value} {w : World} (h : rangeB L = true) (hu : SpansC w u L) : Calls Tryz.prog 110 #[u] w fun e w' => e = .returned (.string (prS L)) ∧ Below w.heap.size w w' := by
  have hmay := rMayL_any hu.1
  unfold rangeB at h
  rw [Bool.and_eq_true, decide_eq_true_eq] at h
  rw [h.2] at hmay
  obtain ⟨A, rfl, hA, hl⟩ := may_iff.1 h.2
  have hne : A ≠ [] := by rintro rfl; simp at h
  unfold prS
  rw [pl_sp hA]
  obtain ⟨ad, cap, rfl, hc, hs⟩ := hu.rg
  rcases hs with rfl | ⟨g, o, rfl, hg, hs⟩
  · exact absurd rfl hne
  · exact rPrint_walk A hA hne g o cap w hl hg hs hmay

theorem catL (a b : ByteArray) : (a ++ b).data.toList = a.data.toList ++ b.data.toList := by simp

theorem catZ (a b : ByteArray) : (a ++ b).size = a.size + b.size := by simp

set_option maxHeartbeats 3200000 in
theorem rLines_dep {v : Value} {L : List Dp} {x : ByteArray} {w : World} (hd : DepsAt w v L) (hm : mayD L = true) (hx : x.size ≤ 16) :
    Calls Tryz.prog 78 #[.string x, v] w fun e w' => ∃ T : ByteArray, e = .returned (.string T) ∧ T.data.toList = listT x L ∧ Below w.heap.size w w' := by
  have HD : Hid (∀ w', Below w.heap.size w w' → DepsAt w' v L) := fun w' hb => hd.below hb
  have HAll : Hid (∀ d ∈ L, d.nm.size ≤ 16 ∧ rangeB d.rg = true) := by
    have := hm
    unfold mayD at this
    rw [Bool.and_eq_true] at this
    exact rise_all this.2
  have HLN := hide3 (list_len hx hm)
  have h16 := (short_may hm).1
  obtain ⟨ad, cap, rfl⟩ := hd.sl
  clear hd hm
  go_enter Tryz.func78, Tryz.ntmps78
  go_wp2_with fail
  go_loopw [5, 6] (fun vt i wr => ∃ (k : Nat) (T : ByteArray), k ≤ L.length ∧ i = .int .i64 k ∧ vt = .string T ∧ T.data.toList = listT x (L.take k) ∧ Below w.heap.size w wr) (fun _ i _ => L.length - (intOf i).toNat)
  case atStart => exact ⟨0, ⟨#[]⟩, Nat.zero_le _, rfl, rfl, rfl, Below.refl _ _⟩
  case round =>
    obtain ⟨k, T, hk, rfl, rfl, hT, hb⟩ := hrel
    have HT := hide3 hT
    have HB := hide3 hb
    by_cases hlt : k < L.length
    · obtain ⟨ad', cap', e, _, hcs⟩ := HD.out wr hb
      cases e
      obtain ⟨g, o, rfl, hg, hcs⟩ : ∃ g o, ad = some ⟨g, o, none⟩ ∧ g < wr.heap.size ∧ ∀ i (h : i < L.length), ∃ u, DpIn wr g (o + i * 2) L[i] u := by
        rcases hcs with h | h
        · rw [h] at hlt; simp at hlt
        · exact h
      obtain ⟨u, hu⟩ := hcs k hlt
      obtain ⟨hn16, hrb⟩ := HAll.out _ (List.getElem_mem hlt)
      have hpz := prS_size hrb
      have HSN := hide3 (listT_snoc (x := x) hlt)
      have hTz : T.size ≤ 80000 := by rw [← list_size, hT]; exact HLN.out k
      have HO : Hid (Below w.heap.size w wr ∧ DpIn wr g (o + k * 2) L[k] u) := ⟨hb, hu⟩
      have HK : Hid (KeepP fun w1 => Below w.heap.size w w1 ∧ DpIn w1 g (o + k * 2) L[k] u) := (keepBelow w).and (keepDp _ _ _ _)
      have HC : Hid (∀ w1, (Below w.heap.size w w1 ∧ DpIn w1 g (o + k * 2) L[k] u) → Calls Tryz.prog 110 #[u] w1 fun e w' => e = .returned (.string (prS L[k].rg)) ∧ Below w1.heap.size w1 w') := fun w1 h => rPrint_sp hrb h.2.2.2.1.1
      obtain ⟨au, cu, rfl⟩ := hu.2.2.1.1.1.sl
      clear hcs hu hb hT hrb
      generalize prS L[k].rg = rt at *
      generalize L[k] = d at *
      have z1 : (⟨#[32]⟩ : ByteArray).size = 1 := rfl
      have z2 : (⟨#[10]⟩ : ByteArray).size = 1 := rfl
      have e1 := fun W : World => run_string_add_sum (P := Tryz.prog) (w := W) T x (by omega)
      have e2 := fun W : World => run_string_add_sum (P := Tryz.prog) (w := W) (T ++ x) ⟨#[32]⟩ (by rw [catZ]; omega)
      have e3 := fun W : World => run_string_add_sum (P := Tryz.prog) (w := W) (T ++ x ++ ⟨#[32]⟩) d.nm (by rw [catZ, catZ]; omega)
      have e4 := fun W : World => run_string_add_sum (P := Tryz.prog) (w := W) (T ++ x ++ ⟨#[32]⟩ ++ d.nm) ⟨#[32]⟩ (by rw [catZ, catZ, catZ]; omega)
      have e5 := fun W : World => run_string_add_sum (P := Tryz.prog) (w := W) (T ++ x ++ ⟨#[32]⟩ ++ d.nm ++ ⟨#[32]⟩) rt (by rw [catZ, catZ, catZ, catZ]; omega)
      have e6 := fun W : World => run_string_add_sum (P := Tryz.prog) (w := W) (T ++ x ++ ⟨#[32]⟩ ++ d.nm ++ ⟨#[32]⟩ ++ rt) ⟨#[10]⟩ (by rw [catZ, catZ, catZ, catZ, catZ]; omega)
      clear z1 z2
      go_wp2_with fail
      refine wp_region_keep HK.out (by kernel_rfl) (by kernel_rfl) (by first | exact HO.out | exact HK.out.drew HO.out) ?_
      intro C hin hout
      have HIN := hide3 hin
      have HOUT := hide3 hout
      clear hin hout HO
      repeat
        (with_reducible refine wpQuiet_step (fun K hK => ?_)
         go_simp
         first
           | (refine hK _ ?_; clear hK K)
           | (apply Exists.intro; refine ⟨fun w1 hC => ?_, hK _ ?_⟩; (focus ((first | (go_at_call 110; with_reducible exact callC' HIN.out HOUT.out HK.out HC.out w1 hC) | (exact rfl) | (obtain ⟨hb1, ⟨p0, p1, ph, p3⟩⟩ := HOUT.out w1 hC; clear hC; go_simp; first | done | exact rfl)); done)); clear hK K))
      refine wpQuiet_nil ?_
      intro wn hC
      have HO := hide3 (HOUT.out _ hC)
      clear hC HIN HOUT C
      obtain ⟨hb1, ⟨p0, p1, ph, p3⟩⟩ := HO.out
      go_wp2
      refine ⟨⟨k + 1, _, by omega, by go_num, rfl, ?_, HO.out.1⟩, by simp [intOf]; omega⟩
      rw [HSN.out, ← HT.out]
      unfold lineB
      simp
    · obtain rfl : k = L.length := by omega
      rw [List.take_length] at HT
      clear hb hT
      go_wp2
      go_ret
      exact ⟨T, rfl, HT.out, HB.out⟩

theorem rLines_is {v : Value} {L : List Dp} {x : ByteArray} {w : World} (hd : DepsAt w v L) (hm : mayD L = true) (hx : x.size ≤ 16) :
    Calls Tryz.prog 78 #[.string x, v] w fun e w' => e = .returned (.string ⟨(listT x L).toArray⟩) ∧ Below w.heap.size w w' := by
  refine (rLines_dep hd hm hx).mono ?_
  rintro e w' ⟨T, rfl, hT, hb⟩
  refine ⟨?_, hb⟩
  rw [← hT]

theorem arr_size (l : Sc.Bs) : (⟨l.toArray⟩ : ByteArray).size = l.length := by show l.toArray.size = _; simp
end Go.Proofs.YthlipnnlgkmhcaaGreatDoor
namespace Go.Proofs.YthlipnnlgkmhcaaGreatDoor
open Go.RowKit
set_option maxRecDepth 100000

set_option maxHeartbeats 3200000 in
theorem rText_any {P : Pg} {v1 v2 v3 : Value} {w : World} (h : PgAt w P v1 v2 v3) (hn : P.nm.size ≤ 16) (h1 : mayD P.d = true) (h2 : mayD P.p = true) (h3 : mayD P.o = true) :
    Calls Tryz.prog 53 #[.agg #[.string P.nm, .int .i64 P.a, .int .i64 P.b, .int .i64 P.c, v1, v2, v3]] w fun e w' => e = .returned (.string ⟨(textP P).toArray⟩) ∧ Below w.heap.size w w' := by
  have HL1 : Hid (∀ w1, Below w.heap.size w w1 → Calls Tryz.prog 78 #[.string (lwK 0), v1] w1 fun e w' => e = .returned (.string ⟨(listT (lwK 0) P.d).toArray⟩) ∧ Below w1.heap.size w1 w') := fun w1 hb => rLines_is (h.1.below hb) h1 (lw_size 0)
  have HL2 : Hid (∀ w1, Below w.heap.size w w1 → Calls Tryz.prog 78 #[.string (lwK 1), v2] w1 fun e w' => e = .returned (.string ⟨(listT (lwK 1) P.p).toArray⟩) ∧ Below w1.heap.size w1 w') := fun w1 hb => rLines_is (h.2.1.below hb) h2 (lw_size 1)
  have HL3 : Hid (∀ w1, Below w.heap.size w w1 → Calls Tryz.prog 78 #[.string (lwK 2), v3] w1 fun e w' => e = .returned (.string ⟨(listT (lwK 2) P.o).toArray⟩) ∧ Below w1.heap.size w1 w') := fun w1 hb => rLines_is (h.2.2.below hb) h3 (lw_size 2)
  have HPV : Hid (∀ w1, Calls Tryz.prog 77 #[.agg #[.int .i64 P.a, .int .i64 P.b, .int .i64 P.c]] w1 fun e w' => e = .returned (.string (textV P.a P.b P.c)) ∧ Below w1.heap.size w1 w') := fun w1 => rPrint_any _ _ _ w1
  have s1 : (⟨(listT (lwK 0) P.d).toArray⟩ : ByteArray).size ≤ 80000 := by have := list_len (lw_size 0) h1 P.d.length; rw [List.take_length] at this; rw [arr_size]; exact this
  have s2 : (⟨(listT (lwK 1) P.p).toArray⟩ : ByteArray).size ≤ 80000 := by have := list_len (lw_size 1) h2 P.p.length; rw [List.take_length] at this; rw [arr_size]; exact this
  have s3 : (⟨(listT (lwK 2) P.o).toArray⟩ : ByteArray).size ≤ 80000 := by have := list_len (lw_size 2) h3 P.o.length; rw [List.take_length] at this; rw [arr_size]; exact this
  have sv := text_size P.a P.b P.c
  have HTX : Hid ((⟨#[112, 97, 99, 107, 97, 103, 101, 32]⟩ ++ P.nm ++ ⟨#[32]⟩ ++ textV P.a P.b P.c ++ ⟨#[10]⟩ ++ ⟨(listT (lwK 0) P.d).toArray⟩ ++ ⟨(listT (lwK 1) P.p).toArray⟩ ++ ⟨(listT (lwK 2) P.o).toArray⟩ : ByteArray) = ⟨(textP P).toArray⟩) := by
    refine same_list ?_
    simp only [catL]
    unfold textP lineB
    simp
  have k0 : lwK 0 = ⟨#[110, 101, 101, 100, 115]⟩ := rfl
  have k1 : lwK 1 = ⟨#[98, 101, 115, 105, 100, 101]⟩ := rfl
  have k2 : lwK 2 = ⟨#[108, 105, 107, 101, 115]⟩ := rfl
  obtain ⟨a1, c1, rfl⟩ := h.1.sl
  obtain ⟨a2, c2, rfl⟩ := h.2.1.sl
  obtain ⟨a3, c3, rfl⟩ := h.2.2.sl
  clear h h1 h2 h3
  generalize textP P = TP at *
  generalize (⟨(listT (lwK 0) P.d).toArray⟩ : ByteArray) = T1 at *
  generalize (⟨(listT (lwK 1) P.p).toArray⟩ : ByteArray) = T2 at *
  generalize (⟨(listT (lwK 2) P.o).toArray⟩ : ByteArray) = T3 at *
  generalize textV P.a P.b P.c = TV at *
  rw [k0] at HL1
  rw [k1] at HL2
  rw [k2] at HL3
  clear k0 k1 k2
  have z0 : (⟨#[112, 97, 99, 107, 97, 103, 101, 32]⟩ : ByteArray).size = 8 := rfl
  have z1 : (⟨#[32]⟩ : ByteArray).size = 1 := rfl
  have z2 : (⟨#[10]⟩ : ByteArray).size = 1 := rfl
  have e1 := fun W : World => run_string_add_sum (P := Tryz.prog) (w := W) (⟨#[112, 97, 99, 107, 97, 103, 101, 32]⟩) P.nm (by omega)
  have e2 := fun W : World => run_string_add_sum (P := Tryz.prog) (w := W) (⟨#[112, 97, 99, 107, 97, 103, 101, 32]⟩ ++ P.nm) ⟨#[32]⟩ (by rw [catZ]; omega)
  have e3 := fun W : World => run_string_add_sum (P := Tryz.prog) (w := W) (⟨#[112, 97, 99, 107, 97, 103, 101, 32]⟩ ++ P.nm ++ ⟨#[32]⟩) TV (by rw [catZ, catZ]; omega)
  have e4 := fun W : World => run_string_add_sum (P := Tryz.prog) (w := W) (⟨#[112, 97, 99, 107, 97, 103, 101, 32]⟩ ++ P.nm ++ ⟨#[32]⟩ ++ TV) ⟨#[10]⟩ (by rw [catZ, catZ, catZ]; omega)
  have e5 := fun W : World => run_string_add_sum (P := Tryz.prog) (w := W) (⟨#[112, 97, 99, 107, 97, 103, 101, 32]⟩ ++ P.nm ++ ⟨#[32]⟩ ++ TV ++ ⟨#[10]⟩) T1 (by rw [catZ, catZ, catZ, catZ]; omega)
  have e6 := fun W : World => run_string_add_sum (P := Tryz.prog) (w := W) (⟨#[112, 97, 99, 107, 97, 103, 101, 32]⟩ ++ P.nm ++ ⟨#[32]⟩ ++ TV ++ ⟨#[10]⟩ ++ T1) T2 (by rw [catZ, catZ, catZ, catZ, catZ]; omega)
  have e7 := fun W : World => run_string_add_sum (P := Tryz.prog) (w := W) (⟨#[112, 97, 99, 107, 97, 103, 101, 32]⟩ ++ P.nm ++ ⟨#[32]⟩ ++ TV ++ ⟨#[10]⟩ ++ T1 ++ T2) T3 (by rw [catZ, catZ, catZ, catZ, catZ, catZ]; omega)
  clear z0 z1 z2 s1 s2 s3 sv
  have HO : Hid (Below w.heap.size w (w.alloc (.cells #[.string P.nm, .int .i64 P.a, .int .i64 P.b, .int .i64 P.c, .slice a1 P.d.length c1, .slice a2 P.p.length c2, .slice a3 P.o.length c3] 34)) ∧ BxP (w.alloc (.cells #[.string P.nm, .int .i64 P.a, .int .i64 P.b, .int .i64 P.c, .slice a1 P.d.length c1, .slice a2 P.p.length c2, .slice a3 P.o.length c3] 34)) w.heap.size P.nm P.a P.b P.c (.slice a1 P.d.length c1) (.slice a2 P.p.length c2) (.slice a3 P.o.length c3)) := ⟨boxB _ _, BxP.new rfl _ _ _ _ _ _ _⟩
  have HK : Hid (KeepP fun w1 => Below w.heap.size w w1 ∧ BxP w1 w.heap.size P.nm P.a P.b P.c (.slice a1 P.d.length c1) (.slice a2 P.p.length c2) (.slice a3 P.o.length c3)) := (keepBelow w).and (keepBxP _ _ _ _ _ _ _ _)
  have HC1 : Hid (∀ w1, (Below w.heap.size w w1 ∧ BxP w1 w.heap.size P.nm P.a P.b P.c (.slice a1 P.d.length c1) (.slice a2 P.p.length c2) (.slice a3 P.o.length c3)) → Calls Tryz.prog 78 #[.string ⟨#[110, 101, 101, 100, 115]⟩, .slice a1 P.d.length c1] w1 fun e w' => e = .returned (.string T1) ∧ Below w1.heap.size w1 w') := fun w1 hh => HL1.out w1 hh.1
  have HC2 : Hid (∀ w1, (Below w.heap.size w w1 ∧ BxP w1 w.heap.size P.nm P.a P.b P.c (.slice a1 P.d.length c1) (.slice a2 P.p.length c2) (.slice a3 P.o.length c3)) → Calls Tryz.prog 78 #[.string ⟨#[98, 101, 115, 105, 100, 101]⟩, .slice a2 P.p.length c2] w1 fun e w' => e = .returned (.string T2) ∧ Below w1.heap.size w1 w') := fun w1 hh => HL2.out w1 hh.1
  have HC3 : Hid (∀ w1, (Below w.heap.size w w1 ∧ BxP w1 w.heap.size P.nm P.a P.b P.c (.slice a1 P.d.length c1) (.slice a2 P.p.length c2) (.slice a3 P.o.length c3)) → Calls Tryz.prog 78 #[.string ⟨#[108, 105, 107, 101, 115]⟩, .slice a3 P.o.length c3] w1 fun e w' => e = .returned (.string T3) ∧ Below w1.heap.size w1 w') := fun w1 hh => HL3.out w1 hh.1
  clear HL1 HL2 HL3
  go_enter Tryz.func53, Tryz.ntmps53
  go_wp2_with fail
  refine wp_region_keep HK.out (by kernel_rfl) (by kernel_rfl) (by first | exact HO.out | exact HK.out.drew HO.out) ?_
  intro C hin hout
  have HIN := hide3 hin
  have HOUT := hide3 hout
  clear hin hout HO
  repeat
    (with_reducible refine wpQuiet_step (fun K hK => ?_)
     go_simp
     first
       | (refine hK _ ?_; clear hK K)
       | (apply Exists.intro; refine ⟨fun w1 hC => ?_, hK _ ?_⟩; (focus ((first | (go_at_call 77; with_reducible exact callC HIN.out HOUT.out HK.out HPV.out w1 hC) | (go_at_call 78; with_reducible exact callC' HIN.out HOUT.out HK.out HC1.out w1 hC) | (go_at_call 78; with_reducible exact callC' HIN.out HOUT.out HK.out HC2.out w1 hC) | (go_at_call 78; with_reducible exact callC' HIN.out HOUT.out HK.out HC3.out w1 hC) | (exact rfl) | (obtain ⟨hb1, ⟨y0, y1, y2, y3, y4, y5, y6, y7⟩⟩ := HOUT.out w1 hC; clear hC; go_simp; first | done | exact rfl)); done)); clear hK K))
  refine wpQuiet_nil ?_
  intro wn hC
  have HO := hide3 (HOUT.out _ hC)
  clear hC HIN HOUT C
  obtain ⟨hb1, ⟨y0, y1, y2, y3, y4, y5, y6, y7⟩⟩ := HO.out
  go_wp2
  go_ret
  exact ⟨congrArg (fun s => Ending.returned (.string s)) HTX.out, HO.out.1⟩

/-- A package may be, as the document says. -/
def docB (P : Pg) : Bool := Sc.nameA P.nm.data.toList && mayV P.a P.b P.c && (mayD P.d && (mayD P.p && mayD P.o)) && (apartB P.d P.p && (apartB P.d P.o && apartB P.p P.o)) && decide ((textP P).length ≤ 4096)

set_option maxHeartbeats 6400000 in
theorem rMay_pk {P : Pg} {v1 v2 v3 : Value} {w : World} (h : PgAt w P v1 v2 v3) (hz : P.d.length ≤ 9223372036854775807 ∧ P.p.length ≤ 9223372036854775807 ∧ P.o.length ≤ 9223372036854775807) (hn : P.nm.size ≤ 9223372036854775807 ∧ (∀ d ∈ P.d, d.nm.size ≤ 9223372036854775807) ∧ (∀ d ∈ P.p, d.nm.size ≤ 9223372036854775807) ∧ ∀ d ∈ P.o, d.nm.size ≤ 9223372036854775807) :
    Calls Tryz.prog 26 #[.agg #[.string P.nm, .int .i64 P.a, .int .i64 P.b, .int .i64 P.c, v1, v2, v3]] w fun e w' => e = .returned (.bool (docB P)) ∧ Below w.heap.size w w' := by
  obtain ⟨a1, c1, rfl⟩ := h.1.sl
  obtain ⟨a2, c2, rfl⟩ := h.2.1.sl
  obtain ⟨a3, c3, rfl⟩ := h.2.2.sl
  have HN : Hid (∀ w1, Below w.heap.size w w1 → Calls Tryz.prog 50 #[.string P.nm] w1 fun e w' => e = .returned (.bool (Sc.nameA P.nm.data.toList)) ∧ Below w1.heap.size w1 w') := fun w1 _ => (Sc.rName_any P.nm hn.1 w1).mono fun e w' ⟨h1, h2⟩ => ⟨h1, by rw [h2]; exact Below.refl _ _⟩
  have HV : Hid (∀ w1, Below w.heap.size w w1 → Calls Tryz.prog 47 #[.agg #[.int .i64 P.a, .int .i64 P.b, .int .i64 P.c]] w1 fun e w' => e = .returned (.bool (mayV P.a P.b P.c)) ∧ Below w1.heap.size w1 w') := fun w1 _ => rMay_any _ _ _ w1
  have H1 : Hid (∀ w1, Below w.heap.size w w1 → Calls Tryz.prog 51 #[.slice a1 P.d.length c1] w1 fun e w' => e = .returned (.bool (mayD P.d)) ∧ Below w1.heap.size w1 w') := fun w1 hb => rList_any (h.1.below hb) hz.1 hn.2.1
  have H2 : Hid (∀ w1, Below w.heap.size w w1 → Calls Tryz.prog 51 #[.slice a2 P.p.length c2] w1 fun e w' => e = .returned (.bool (mayD P.p)) ∧ Below w1.heap.size w1 w') := fun w1 hb => rList_any (h.2.1.below hb) hz.2.1 hn.2.2.1
  have H3 : Hid (∀ w1, Below w.heap.size w w1 → Calls Tryz.prog 51 #[.slice a3 P.o.length c3] w1 fun e w' => e = .returned (.bool (mayD P.o)) ∧ Below w1.heap.size w1 w') := fun w1 hb => rList_any (h.2.2.below hb) hz.2.2 hn.2.2.2
  have A12 : Hid (mayD P.d = true → mayD P.p = true → ∀ w1, Below w.heap.size w w1 → Calls Tryz.prog 52 #[.slice a1 P.d.length c1, .slice a2 P.p.length c2] w1 fun e w' => e = .returned (.bool (apartB P.d P.p)) ∧ Below w1.heap.size w1 w') := fun g1 g2 w1 hb => rApart_any (h.1.below hb) (h.2.1.below hb) ⟨by have := (short_may g1).1; omega, by have := (short_may g2).1; omega⟩
  have A13 : Hid (mayD P.d = true → mayD P.o = true → ∀ w1, Below w.heap.size w w1 → Calls Tryz.prog 52 #[.slice a1 P.d.length c1, .slice a3 P.o.length c3] w1 fun e w' => e = .returned (.bool (apartB P.d P.o)) ∧ Below w1.heap.size w1 w') := fun g1 g2 w1 hb => rApart_any (h.1.below hb) (h.2.2.below hb) ⟨by have := (short_may g1).1; omega, by have := (short_may g2).1; omega⟩
  have A23 : Hid (mayD P.p = true → mayD P.o = true → ∀ w1, Below w.heap.size w w1 → Calls Tryz.prog 52 #[.slice a2 P.p.length c2, .slice a3 P.o.length c3] w1 fun e w' => e = .returned (.bool (apartB P.p P.o)) ∧ Below w1.heap.size w1 w') := fun g1 g2 w1 hb => rApart_any (h.2.1.below hb) (h.2.2.below hb) ⟨by have := (short_may g1).1; omega, by have := (short_may g2).1; omega⟩
  have HT : Hid (Sc.nameA P.nm.data.toList = true → mayD P.d = true → mayD P.p = true → mayD P.o = true → ∀ w1, Below w.heap.size w w1 → Calls Tryz.prog 53 #[.agg #[.string P.nm, .int .i64 P.a, .int .i64 P.b, .int .i64 P.c, .slice a1 P.d.length c1, .slice a2 P.p.length c2, .slice a3 P.o.length c3]] w1 fun e w' => e = .returned (.string ⟨(textP P).toArray⟩) ∧ Below w1.heap.size w1 w') := fun g0 g1 g2 g3 w1 hb => rText_any (h.below hb) (by unfold Sc.nameA at g0; rw [Bool.and_eq_true, decide_eq_true_eq, list_size] at g0; exact g0.2) g1 g2 g3
  have HD : Hid (docB P = (Sc.nameA P.nm.data.toList && mayV P.a P.b P.c && (mayD P.d && (mayD P.p && mayD P.o)) && (apartB P.d P.p && (apartB P.d P.o && apartB P.p P.o)) && decide ((textP P).length ≤ 4096))) := rfl
  have HZ : Hid ((⟨(textP P).toArray⟩ : ByteArray).size = (textP P).length) := arr_size _
  clear h hz hn
  generalize docB P = DB at *
  generalize Sc.nameA P.nm.data.toList = b0 at *
  generalize mayV P.a P.b P.c = bv at *
  generalize mayD P.d = b1 at *
  generalize mayD P.p = b2 at *
  generalize mayD P.o = b3 at *
  generalize apartB P.d P.p = p12 at *
  generalize apartB P.d P.o = p13 at *
  generalize apartB P.p P.o = p23 at *
  generalize (⟨(textP P).toArray⟩ : ByteArray) = TX at *
  generalize (textP P).length = tl at *
  cases b0
  · skip
    have HR : Hid (DB = false) := by unfold Hid; rw [HD.out]; simp
    have HK0 : Hid (KeepP fun w1 => (Below w.heap.size w w1) ∧ BxP w1 w.heap.size P.nm P.a P.b P.c (.slice a1 P.d.length c1) (.slice a2 P.p.length c2) (.slice a3 P.o.length c3)) := (KeepP.and (keepBelow w) (keepBxP _ _ _ _ _ _ _ _))
    have HO0 : Hid ((Below w.heap.size w (w.alloc (.cells #[.string P.nm, .int .i64 P.a, .int .i64 P.b, .int .i64 P.c, .slice a1 P.d.length c1, .slice a2 P.p.length c2, .slice a3 P.o.length c3] 34))) ∧ BxP (w.alloc (.cells #[.string P.nm, .int .i64 P.a, .int .i64 P.b, .int .i64 P.c, .slice a1 P.d.length c1, .slice a2 P.p.length c2, .slice a3 P.o.length c3] 34)) w.heap.size P.nm P.a P.b P.c (.slice a1 P.d.length c1) (.slice a2 P.p.length c2) (.slice a3 P.o.length c3)) := ⟨boxB _ _, BxP.new rfl _ _ _ _ _ _ _⟩
    obtain ⟨g0, g1, g2, g3, g4, g5, g6, g7⟩ := HO0.out.2
    go_enter Tryz.func26, Tryz.ntmps26
    go_wp2_with (first
      | (have _h := HO0; go_at_call 50; refine (HN.out _ (HO0.out.1)).mono ?_; rintro e y1 ⟨rfl, ok⟩; have HO1 : Hid ((Below w.heap.size w y1) ∧ BxP y1 w.heap.size P.nm P.a P.b P.c (.slice a1 P.d.length c1) (.slice a2 P.p.length c2) (.slice a3 P.o.length c3)) := HK0.out _ _ HO0.out ok; clear ok HO0 g0 g1 g2 g3 g4 g5 g6 g7; obtain ⟨g0, g1, g2, g3, g4, g5, g6, g7⟩ := HO1.out.2))
    go_ret
    exact ⟨ret_bool HR.out.symm, HO1.out.1⟩
  · cases bv
    · skip
      have HR : Hid (DB = false) := by unfold Hid; rw [HD.out]; simp
      have HK0 : Hid (KeepP fun w1 => (Below w.heap.size w w1) ∧ BxP w1 w.heap.size P.nm P.a P.b P.c (.slice a1 P.d.length c1) (.slice a2 P.p.length c2) (.slice a3 P.o.length c3)) := (KeepP.and (keepBelow w) (keepBxP _ _ _ _ _ _ _ _))
      have HO0 : Hid ((Below w.heap.size w (w.alloc (.cells #[.string P.nm, .int .i64 P.a, .int .i64 P.b, .int .i64 P.c, .slice a1 P.d.length c1, .slice a2 P.p.length c2, .slice a3 P.o.length c3] 34))) ∧ BxP (w.alloc (.cells #[.string P.nm, .int .i64 P.a, .int .i64 P.b, .int .i64 P.c, .slice a1 P.d.length c1, .slice a2 P.p.length c2, .slice a3 P.o.length c3] 34)) w.heap.size P.nm P.a P.b P.c (.slice a1 P.d.length c1) (.slice a2 P.p.length c2) (.slice a3 P.o.length c3)) := ⟨boxB _ _, BxP.new rfl _ _ _ _ _ _ _⟩
      obtain ⟨g0, g1, g2, g3, g4, g5, g6, g7⟩ := HO0.out.2
      go_enter Tryz.func26, Tryz.ntmps26
      go_wp2_with (first
        | (have _h := HO0; go_at_call 50; refine (HN.out _ (HO0.out.1)).mono ?_; rintro e y1 ⟨rfl, ok⟩; have HO1 : Hid ((Below w.heap.size w y1) ∧ BxP y1 w.heap.size P.nm P.a P.b P.c (.slice a1 P.d.length c1) (.slice a2 P.p.length c2) (.slice a3 P.o.length c3)) := HK0.out _ _ HO0.out ok; clear ok HO0 g0 g1 g2 g3 g4 g5 g6 g7; obtain ⟨g0, g1, g2, g3, g4, g5, g6, g7⟩ := HO1.out.2)
        | (have _h := HO1; go_at_call 47; refine (HV.out _ (HO1.out.1)).mono ?_; rintro e y2 ⟨rfl, ok⟩; have HO2 : Hid ((Below w.heap.size w y2) ∧ BxP y2 w.heap.size P.nm P.a P.b P.c (.slice a1 P.d.length c1) (.slice a2 P.p.length c2) (.slice a3 P.o.length c3)) := HK0.out _ _ HO1.out ok; clear ok HO1 g0 g1 g2 g3 g4 g5 g6 g7; obtain ⟨g0, g1, g2, g3, g4, g5, g6, g7⟩ := HO2.out.2))
      go_ret
      exact ⟨ret_bool HR.out.symm, HO2.out.1⟩
    · cases b1
      · skip
        have HR : Hid (DB = false) := by unfold Hid; rw [HD.out]; simp
        have HK0 : Hid (KeepP fun w1 => (Below w.heap.size w w1) ∧ BxP w1 w.heap.size P.nm P.a P.b P.c (.slice a1 P.d.length c1) (.slice a2 P.p.length c2) (.slice a3 P.o.length c3)) := (KeepP.and (keepBelow w) (keepBxP _ _ _ _ _ _ _ _))
        have HO0 : Hid ((Below w.heap.size w (w.alloc (.cells #[.string P.nm, .int .i64 P.a, .int .i64 P.b, .int .i64 P.c, .slice a1 P.d.length c1, .slice a2 P.p.length c2, .slice a3 P.o.length c3] 34))) ∧ BxP (w.alloc (.cells #[.string P.nm, .int .i64 P.a, .int .i64 P.b, .int .i64 P.c, .slice a1 P.d.length c1, .slice a2 P.p.length c2, .slice a3 P.o.length c3] 34)) w.heap.size P.nm P.a P.b P.c (.slice a1 P.d.length c1) (.slice a2 P.p.length c2) (.slice a3 P.o.length c3)) := ⟨boxB _ _, BxP.new rfl _ _ _ _ _ _ _⟩
        obtain ⟨g0, g1, g2, g3, g4, g5, g6, g7⟩ := HO0.out.2
        go_enter Tryz.func26, Tryz.ntmps26
        go_wp2_with (first
          | (have _h := HO0; go_at_call 50; refine (HN.out _ (HO0.out.1)).mono ?_; rintro e y1 ⟨rfl, ok⟩; have HO1 : Hid ((Below w.heap.size w y1) ∧ BxP y1 w.heap.size P.nm P.a P.b P.c (.slice a1 P.d.length c1) (.slice a2 P.p.length c2) (.slice a3 P.o.length c3)) := HK0.out _ _ HO0.out ok; clear ok HO0 g0 g1 g2 g3 g4 g5 g6 g7; obtain ⟨g0, g1, g2, g3, g4, g5, g6, g7⟩ := HO1.out.2)
          | (have _h := HO1; go_at_call 47; refine (HV.out _ (HO1.out.1)).mono ?_; rintro e y2 ⟨rfl, ok⟩; have HO2 : Hid ((Below w.heap.size w y2) ∧ BxP y2 w.heap.size P.nm P.a P.b P.c (.slice a1 P.d.length c1) (.slice a2 P.p.length c2) (.slice a3 P.o.length c3)) := HK0.out _ _ HO1.out ok; clear ok HO1 g0 g1 g2 g3 g4 g5 g6 g7; obtain ⟨g0, g1, g2, g3, g4, g5, g6, g7⟩ := HO2.out.2)
          | (have _h := HO2; go_at_call 51; refine (H1.out _ (HO2.out.1)).mono ?_; rintro e y3 ⟨rfl, ok⟩; have HO3 : Hid ((Below w.heap.size w y3) ∧ BxP y3 w.heap.size P.nm P.a P.b P.c (.slice a1 P.d.length c1) (.slice a2 P.p.length c2) (.slice a3 P.o.length c3)) := HK0.out _ _ HO2.out ok; clear ok HO2 g0 g1 g2 g3 g4 g5 g6 g7; obtain ⟨g0, g1, g2, g3, g4, g5, g6, g7⟩ := HO3.out.2))
        go_ret
        exact ⟨ret_bool HR.out.symm, HO3.out.1⟩
      · cases b2
        · skip
          have HR : Hid (DB = false) := by unfold Hid; rw [HD.out]; simp
          have HK0 : Hid (KeepP fun w1 => (Below w.heap.size w w1) ∧ BxP w1 w.heap.size P.nm P.a P.b P.c (.slice a1 P.d.length c1) (.slice a2 P.p.length c2) (.slice a3 P.o.length c3)) := (KeepP.and (keepBelow w) (keepBxP _ _ _ _ _ _ _ _))
          have HO0 : Hid ((Below w.heap.size w (w.alloc (.cells #[.string P.nm, .int .i64 P.a, .int .i64 P.b, .int .i64 P.c, .slice a1 P.d.length c1, .slice a2 P.p.length c2, .slice a3 P.o.length c3] 34))) ∧ BxP (w.alloc (.cells #[.string P.nm, .int .i64 P.a, .int .i64 P.b, .int .i64 P.c, .slice a1 P.d.length c1, .slice a2 P.p.length c2, .slice a3 P.o.length c3] 34)) w.heap.size P.nm P.a P.b P.c (.slice a1 P.d.length c1) (.slice a2 P.p.length c2) (.slice a3 P.o.length c3)) := ⟨boxB _ _, BxP.new rfl _ _ _ _ _ _ _⟩
          obtain ⟨g0, g1, g2, g3, g4, g5, g6, g7⟩ := HO0.out.2
          go_enter Tryz.func26, Tryz.ntmps26
          go_wp2_with (first
            | (have _h := HO0; go_at_call 50; refine (HN.out _ (HO0.out.1)).mono ?_; rintro e y1 ⟨rfl, ok⟩; have HO1 : Hid ((Below w.heap.size w y1) ∧ BxP y1 w.heap.size P.nm P.a P.b P.c (.slice a1 P.d.length c1) (.slice a2 P.p.length c2) (.slice a3 P.o.length c3)) := HK0.out _ _ HO0.out ok; clear ok HO0 g0 g1 g2 g3 g4 g5 g6 g7; obtain ⟨g0, g1, g2, g3, g4, g5, g6, g7⟩ := HO1.out.2)
            | (have _h := HO1; go_at_call 47; refine (HV.out _ (HO1.out.1)).mono ?_; rintro e y2 ⟨rfl, ok⟩; have HO2 : Hid ((Below w.heap.size w y2) ∧ BxP y2 w.heap.size P.nm P.a P.b P.c (.slice a1 P.d.length c1) (.slice a2 P.p.length c2) (.slice a3 P.o.length c3)) := HK0.out _ _ HO1.out ok; clear ok HO1 g0 g1 g2 g3 g4 g5 g6 g7; obtain ⟨g0, g1, g2, g3, g4, g5, g6, g7⟩ := HO2.out.2)
            | (have _h := HO2; go_at_call 51; refine (H1.out _ (HO2.out.1)).mono ?_; rintro e y3 ⟨rfl, ok⟩; have HO3 : Hid ((Below w.heap.size w y3) ∧ BxP y3 w.heap.size P.nm P.a P.b P.c (.slice a1 P.d.length c1) (.slice a2 P.p.length c2) (.slice a3 P.o.length c3)) := HK0.out _ _ HO2.out ok; clear ok HO2 g0 g1 g2 g3 g4 g5 g6 g7; obtain ⟨g0, g1, g2, g3, g4, g5, g6, g7⟩ := HO3.out.2)
            | (have _h := HO3; go_at_call 51; refine (H2.out _ (HO3.out.1)).mono ?_; rintro e y4 ⟨rfl, ok⟩; have HO4 : Hid ((Below w.heap.size w y4) ∧ BxP y4 w.heap.size P.nm P.a P.b P.c (.slice a1 P.d.length c1) (.slice a2 P.p.length c2) (.slice a3 P.o.length c3)) := HK0.out _ _ HO3.out ok; clear ok HO3 g0 g1 g2 g3 g4 g5 g6 g7; obtain ⟨g0, g1, g2, g3, g4, g5, g6, g7⟩ := HO4.out.2))
          go_ret
          exact ⟨ret_bool HR.out.symm, HO4.out.1⟩
        · cases b3
          · skip
            have HR : Hid (DB = false) := by unfold Hid; rw [HD.out]; simp
            have HK0 : Hid (KeepP fun w1 => (Below w.heap.size w w1) ∧ BxP w1 w.heap.size P.nm P.a P.b P.c (.slice a1 P.d.length c1) (.slice a2 P.p.length c2) (.slice a3 P.o.length c3)) := (KeepP.and (keepBelow w) (keepBxP _ _ _ _ _ _ _ _))
            have HO0 : Hid ((Below w.heap.size w (w.alloc (.cells #[.string P.nm, .int .i64 P.a, .int .i64 P.b, .int .i64 P.c, .slice a1 P.d.length c1, .slice a2 P.p.length c2, .slice a3 P.o.length c3] 34))) ∧ BxP (w.alloc (.cells #[.string P.nm, .int .i64 P.a, .int .i64 P.b, .int .i64 P.c, .slice a1 P.d.length c1, .slice a2 P.p.length c2, .slice a3 P.o.length c3] 34)) w.heap.size P.nm P.a P.b P.c (.slice a1 P.d.length c1) (.slice a2 P.p.length c2) (.slice a3 P.o.length c3)) := ⟨boxB _ _, BxP.new rfl _ _ _ _ _ _ _⟩
            obtain ⟨g0, g1, g2, g3, g4, g5, g6, g7⟩ := HO0.out.2
            go_enter Tryz.func26, Tryz.ntmps26
            go_wp2_with (first
              | (have _h := HO0; go_at_call 50; refine (HN.out _ (HO0.out.1)).mono ?_; rintro e y1 ⟨rfl, ok⟩; have HO1 : Hid ((Below w.heap.size w y1) ∧ BxP y1 w.heap.size P.nm P.a P.b P.c (.slice a1 P.d.length c1) (.slice a2 P.p.length c2) (.slice a3 P.o.length c3)) := HK0.out _ _ HO0.out ok; clear ok HO0 g0 g1 g2 g3 g4 g5 g6 g7; obtain ⟨g0, g1, g2, g3, g4, g5, g6, g7⟩ := HO1.out.2)
              | (have _h := HO1; go_at_call 47; refine (HV.out _ (HO1.out.1)).mono ?_; rintro e y2 ⟨rfl, ok⟩; have HO2 : Hid ((Below w.heap.size w y2) ∧ BxP y2 w.heap.size P.nm P.a P.b P.c (.slice a1 P.d.length c1) (.slice a2 P.p.length c2) (.slice a3 P.o.length c3)) := HK0.out _ _ HO1.out ok; clear ok HO1 g0 g1 g2 g3 g4 g5 g6 g7; obtain ⟨g0, g1, g2, g3, g4, g5, g6, g7⟩ := HO2.out.2)
              | (have _h := HO2; go_at_call 51; refine (H1.out _ (HO2.out.1)).mono ?_; rintro e y3 ⟨rfl, ok⟩; have HO3 : Hid ((Below w.heap.size w y3) ∧ BxP y3 w.heap.size P.nm P.a P.b P.c (.slice a1 P.d.length c1) (.slice a2 P.p.length c2) (.slice a3 P.o.length c3)) := HK0.out _ _ HO2.out ok; clear ok HO2 g0 g1 g2 g3 g4 g5 g6 g7; obtain ⟨g0, g1, g2, g3, g4, g5, g6, g7⟩ := HO3.out.2)
              | (have _h := HO3; go_at_call 51; refine (H2.out _ (HO3.out.1)).mono ?_; rintro e y4 ⟨rfl, ok⟩; have HO4 : Hid ((Below w.heap.size w y4) ∧ BxP y4 w.heap.size P.nm P.a P.b P.c (.slice a1 P.d.length c1) (.slice a2 P.p.length c2) (.slice a3 P.o.length c3)) := HK0.out _ _ HO3.out ok; clear ok HO3 g0 g1 g2 g3 g4 g5 g6 g7; obtain ⟨g0, g1, g2, g3, g4, g5, g6, g7⟩ := HO4.out.2)
              | (have _h := HO4; go_at_call 51; refine (H3.out _ (HO4.out.1)).mono ?_; rintro e y5 ⟨rfl, ok⟩; have HO5 : Hid ((Below w.heap.size w y5) ∧ BxP y5 w.heap.size P.nm P.a P.b P.c (.slice a1 P.d.length c1) (.slice a2 P.p.length c2) (.slice a3 P.o.length c3)) := HK0.out _ _ HO4.out ok; clear ok HO4 g0 g1 g2 g3 g4 g5 g6 g7; obtain ⟨g0, g1, g2, g3, g4, g5, g6, g7⟩ := HO5.out.2))
            go_ret
            exact ⟨ret_bool HR.out.symm, HO5.out.1⟩
          · have B12 := hide3 (A12.out (by first | rfl | trivial) (by first | rfl | trivial))
            have B13 := hide3 (A13.out (by first | rfl | trivial) (by first | rfl | trivial))
            have B23 := hide3 (A23.out (by first | rfl | trivial) (by first | rfl | trivial))
            have BT := hide3 (HT.out (by first | rfl | trivial) (by first | rfl | trivial) (by first | rfl | trivial) (by first | rfl | trivial))
            clear A12 A13 A23 HT
            cases p12
            · skip
              have HR : Hid (DB = false) := by unfold Hid; rw [HD.out]; simp
              have HK0 : Hid (KeepP fun w1 => (Below w.heap.size w w1) ∧ BxP w1 w.heap.size P.nm P.a P.b P.c (.slice a1 P.d.length c1) (.slice a2 P.p.length c2) (.slice a3 P.o.length c3)) := (KeepP.and (keepBelow w) (keepBxP _ _ _ _ _ _ _ _))
              have HO0 : Hid ((Below w.heap.size w (w.alloc (.cells #[.string P.nm, .int .i64 P.a, .int .i64 P.b, .int .i64 P.c, .slice a1 P.d.length c1, .slice a2 P.p.length c2, .slice a3 P.o.length c3] 34))) ∧ BxP (w.alloc (.cells #[.string P.nm, .int .i64 P.a, .int .i64 P.b, .int .i64 P.c, .slice a1 P.d.length c1, .slice a2 P.p.length c2, .slice a3 P.o.length c3] 34)) w.heap.size P.nm P.a P.b P.c (.slice a1 P.d.length c1) (.slice a2 P.p.length c2) (.slice a3 P.o.length c3)) := ⟨boxB _ _, BxP.new rfl _ _ _ _ _ _ _⟩
              obtain ⟨g0, g1, g2, g3, g4, g5, g6, g7⟩ := HO0.out.2
              go_enter Tryz.func26, Tryz.ntmps26
              go_wp2_with (first
                | (have _h := HO0; go_at_call 50; refine (HN.out _ (HO0.out.1)).mono ?_; rintro e y1 ⟨rfl, ok⟩; have HO1 : Hid ((Below w.heap.size w y1) ∧ BxP y1 w.heap.size P.nm P.a P.b P.c (.slice a1 P.d.length c1) (.slice a2 P.p.length c2) (.slice a3 P.o.length c3)) := HK0.out _ _ HO0.out ok; clear ok HO0 g0 g1 g2 g3 g4 g5 g6 g7; obtain ⟨g0, g1, g2, g3, g4, g5, g6, g7⟩ := HO1.out.2)
                | (have _h := HO1; go_at_call 47; refine (HV.out _ (HO1.out.1)).mono ?_; rintro e y2 ⟨rfl, ok⟩; have HO2 : Hid ((Below w.heap.size w y2) ∧ BxP y2 w.heap.size P.nm P.a P.b P.c (.slice a1 P.d.length c1) (.slice a2 P.p.length c2) (.slice a3 P.o.length c3)) := HK0.out _ _ HO1.out ok; clear ok HO1 g0 g1 g2 g3 g4 g5 g6 g7; obtain ⟨g0, g1, g2, g3, g4, g5, g6, g7⟩ := HO2.out.2)
                | (have _h := HO2; go_at_call 51; refine (H1.out _ (HO2.out.1)).mono ?_; rintro e y3 ⟨rfl, ok⟩; have HO3 : Hid ((Below w.heap.size w y3) ∧ BxP y3 w.heap.size P.nm P.a P.b P.c (.slice a1 P.d.length c1) (.slice a2 P.p.length c2) (.slice a3 P.o.length c3)) := HK0.out _ _ HO2.out ok; clear ok HO2 g0 g1 g2 g3 g4 g5 g6 g7; obtain ⟨g0, g1, g2, g3, g4, g5, g6, g7⟩ := HO3.out.2)
                | (have _h := HO3; go_at_call 51; refine (H2.out _ (HO3.out.1)).mono ?_; rintro e y4 ⟨rfl, ok⟩; have HO4 : Hid ((Below w.heap.size w y4) ∧ BxP y4 w.heap.size P.nm P.a P.b P.c (.slice a1 P.d.length c1) (.slice a2 P.p.length c2) (.slice a3 P.o.length c3)) := HK0.out _ _ HO3.out ok; clear ok HO3 g0 g1 g2 g3 g4 g5 g6 g7; obtain ⟨g0, g1, g2, g3, g4, g5, g6, g7⟩ := HO4.out.2)
                | (have _h := HO4; go_at_call 51; refine (H3.out _ (HO4.out.1)).mono ?_; rintro e y5 ⟨rfl, ok⟩; have HO5 : Hid ((Below w.heap.size w y5) ∧ BxP y5 w.heap.size P.nm P.a P.b P.c (.slice a1 P.d.length c1) (.slice a2 P.p.length c2) (.slice a3 P.o.length c3)) := HK0.out _ _ HO4.out ok; clear ok HO4 g0 g1 g2 g3 g4 g5 g6 g7; obtain ⟨g0, g1, g2, g3, g4, g5, g6, g7⟩ := HO5.out.2)
                | (have _h := HO5; go_at_call 52; refine (B12.out _ (HO5.out.1)).mono ?_; rintro e y6 ⟨rfl, ok⟩; have HO6 : Hid ((Below w.heap.size w y6) ∧ BxP y6 w.heap.size P.nm P.a P.b P.c (.slice a1 P.d.length c1) (.slice a2 P.p.length c2) (.slice a3 P.o.length c3)) := HK0.out _ _ HO5.out ok; clear ok HO5 g0 g1 g2 g3 g4 g5 g6 g7; obtain ⟨g0, g1, g2, g3, g4, g5, g6, g7⟩ := HO6.out.2))
              go_ret
              exact ⟨ret_bool HR.out.symm, HO6.out.1⟩
            · cases p13
              · skip
                have HR : Hid (DB = false) := by unfold Hid; rw [HD.out]; simp
                have HK0 : Hid (KeepP fun w1 => (Below w.heap.size w w1) ∧ BxP w1 w.heap.size P.nm P.a P.b P.c (.slice a1 P.d.length c1) (.slice a2 P.p.length c2) (.slice a3 P.o.length c3)) := (KeepP.and (keepBelow w) (keepBxP _ _ _ _ _ _ _ _))
                have HO0 : Hid ((Below w.heap.size w (w.alloc (.cells #[.string P.nm, .int .i64 P.a, .int .i64 P.b, .int .i64 P.c, .slice a1 P.d.length c1, .slice a2 P.p.length c2, .slice a3 P.o.length c3] 34))) ∧ BxP (w.alloc (.cells #[.string P.nm, .int .i64 P.a, .int .i64 P.b, .int .i64 P.c, .slice a1 P.d.length c1, .slice a2 P.p.length c2, .slice a3 P.o.length c3] 34)) w.heap.size P.nm P.a P.b P.c (.slice a1 P.d.length c1) (.slice a2 P.p.length c2) (.slice a3 P.o.length c3)) := ⟨boxB _ _, BxP.new rfl _ _ _ _ _ _ _⟩
                obtain ⟨g0, g1, g2, g3, g4, g5, g6, g7⟩ := HO0.out.2
                go_enter Tryz.func26, Tryz.ntmps26
                go_wp2_with (first
                  | (have _h := HO0; go_at_call 50; refine (HN.out _ (HO0.out.1)).mono ?_; rintro e y1 ⟨rfl, ok⟩; have HO1 : Hid ((Below w.heap.size w y1) ∧ BxP y1 w.heap.size P.nm P.a P.b P.c (.slice a1 P.d.length c1) (.slice a2 P.p.length c2) (.slice a3 P.o.length c3)) := HK0.out _ _ HO0.out ok; clear ok HO0 g0 g1 g2 g3 g4 g5 g6 g7; obtain ⟨g0, g1, g2, g3, g4, g5, g6, g7⟩ := HO1.out.2)
                  | (have _h := HO1; go_at_call 47; refine (HV.out _ (HO1.out.1)).mono ?_; rintro e y2 ⟨rfl, ok⟩; have HO2 : Hid ((Below w.heap.size w y2) ∧ BxP y2 w.heap.size P.nm P.a P.b P.c (.slice a1 P.d.length c1) (.slice a2 P.p.length c2) (.slice a3 P.o.length c3)) := HK0.out _ _ HO1.out ok; clear ok HO1 g0 g1 g2 g3 g4 g5 g6 g7; obtain ⟨g0, g1, g2, g3, g4, g5, g6, g7⟩ := HO2.out.2)
                  | (have _h := HO2; go_at_call 51; refine (H1.out _ (HO2.out.1)).mono ?_; rintro e y3 ⟨rfl, ok⟩; have HO3 : Hid ((Below w.heap.size w y3) ∧ BxP y3 w.heap.size P.nm P.a P.b P.c (.slice a1 P.d.length c1) (.slice a2 P.p.length c2) (.slice a3 P.o.length c3)) := HK0.out _ _ HO2.out ok; clear ok HO2 g0 g1 g2 g3 g4 g5 g6 g7; obtain ⟨g0, g1, g2, g3, g4, g5, g6, g7⟩ := HO3.out.2)
                  | (have _h := HO3; go_at_call 51; refine (H2.out _ (HO3.out.1)).mono ?_; rintro e y4 ⟨rfl, ok⟩; have HO4 : Hid ((Below w.heap.size w y4) ∧ BxP y4 w.heap.size P.nm P.a P.b P.c (.slice a1 P.d.length c1) (.slice a2 P.p.length c2) (.slice a3 P.o.length c3)) := HK0.out _ _ HO3.out ok; clear ok HO3 g0 g1 g2 g3 g4 g5 g6 g7; obtain ⟨g0, g1, g2, g3, g4, g5, g6, g7⟩ := HO4.out.2)
                  | (have _h := HO4; go_at_call 51; refine (H3.out _ (HO4.out.1)).mono ?_; rintro e y5 ⟨rfl, ok⟩; have HO5 : Hid ((Below w.heap.size w y5) ∧ BxP y5 w.heap.size P.nm P.a P.b P.c (.slice a1 P.d.length c1) (.slice a2 P.p.length c2) (.slice a3 P.o.length c3)) := HK0.out _ _ HO4.out ok; clear ok HO4 g0 g1 g2 g3 g4 g5 g6 g7; obtain ⟨g0, g1, g2, g3, g4, g5, g6, g7⟩ := HO5.out.2)
                  | (have _h := HO5; go_at_call 52; refine (B12.out _ (HO5.out.1)).mono ?_; rintro e y6 ⟨rfl, ok⟩; have HO6 : Hid ((Below w.heap.size w y6) ∧ BxP y6 w.heap.size P.nm P.a P.b P.c (.slice a1 P.d.length c1) (.slice a2 P.p.length c2) (.slice a3 P.o.length c3)) := HK0.out _ _ HO5.out ok; clear ok HO5 g0 g1 g2 g3 g4 g5 g6 g7; obtain ⟨g0, g1, g2, g3, g4, g5, g6, g7⟩ := HO6.out.2)
                  | (have _h := HO6; go_at_call 52; refine (B13.out _ (HO6.out.1)).mono ?_; rintro e y7 ⟨rfl, ok⟩; have HO7 : Hid ((Below w.heap.size w y7) ∧ BxP y7 w.heap.size P.nm P.a P.b P.c (.slice a1 P.d.length c1) (.slice a2 P.p.length c2) (.slice a3 P.o.length c3)) := HK0.out _ _ HO6.out ok; clear ok HO6 g0 g1 g2 g3 g4 g5 g6 g7; obtain ⟨g0, g1, g2, g3, g4, g5, g6, g7⟩ := HO7.out.2))
                go_ret
                exact ⟨ret_bool HR.out.symm, HO7.out.1⟩
              · cases p23
                · skip
                  have HR : Hid (DB = false) := by unfold Hid; rw [HD.out]; simp
                  have HK0 : Hid (KeepP fun w1 => (Below w.heap.size w w1) ∧ BxP w1 w.heap.size P.nm P.a P.b P.c (.slice a1 P.d.length c1) (.slice a2 P.p.length c2) (.slice a3 P.o.length c3)) := (KeepP.and (keepBelow w) (keepBxP _ _ _ _ _ _ _ _))
                  have HO0 : Hid ((Below w.heap.size w (w.alloc (.cells #[.string P.nm, .int .i64 P.a, .int .i64 P.b, .int .i64 P.c, .slice a1 P.d.length c1, .slice a2 P.p.length c2, .slice a3 P.o.length c3] 34))) ∧ BxP (w.alloc (.cells #[.string P.nm, .int .i64 P.a, .int .i64 P.b, .int .i64 P.c, .slice a1 P.d.length c1, .slice a2 P.p.length c2, .slice a3 P.o.length c3] 34)) w.heap.size P.nm P.a P.b P.c (.slice a1 P.d.length c1) (.slice a2 P.p.length c2) (.slice a3 P.o.length c3)) := ⟨boxB _ _, BxP.new rfl _ _ _ _ _ _ _⟩
                  obtain ⟨g0, g1, g2, g3, g4, g5, g6, g7⟩ := HO0.out.2
                  go_enter Tryz.func26, Tryz.ntmps26
                  go_wp2_with (first
                    | (have _h := HO0; go_at_call 50; refine (HN.out _ (HO0.out.1)).mono ?_; rintro e y1 ⟨rfl, ok⟩; have HO1 : Hid ((Below w.heap.size w y1) ∧ BxP y1 w.heap.size P.nm P.a P.b P.c (.slice a1 P.d.length c1) (.slice a2 P.p.length c2) (.slice a3 P.o.length c3)) := HK0.out _ _ HO0.out ok; clear ok HO0 g0 g1 g2 g3 g4 g5 g6 g7; obtain ⟨g0, g1, g2, g3, g4, g5, g6, g7⟩ := HO1.out.2)
                    | (have _h := HO1; go_at_call 47; refine (HV.out _ (HO1.out.1)).mono ?_; rintro e y2 ⟨rfl, ok⟩; have HO2 : Hid ((Below w.heap.size w y2) ∧ BxP y2 w.heap.size P.nm P.a P.b P.c (.slice a1 P.d.length c1) (.slice a2 P.p.length c2) (.slice a3 P.o.length c3)) := HK0.out _ _ HO1.out ok; clear ok HO1 g0 g1 g2 g3 g4 g5 g6 g7; obtain ⟨g0, g1, g2, g3, g4, g5, g6, g7⟩ := HO2.out.2)
                    | (have _h := HO2; go_at_call 51; refine (H1.out _ (HO2.out.1)).mono ?_; rintro e y3 ⟨rfl, ok⟩; have HO3 : Hid ((Below w.heap.size w y3) ∧ BxP y3 w.heap.size P.nm P.a P.b P.c (.slice a1 P.d.length c1) (.slice a2 P.p.length c2) (.slice a3 P.o.length c3)) := HK0.out _ _ HO2.out ok; clear ok HO2 g0 g1 g2 g3 g4 g5 g6 g7; obtain ⟨g0, g1, g2, g3, g4, g5, g6, g7⟩ := HO3.out.2)
                    | (have _h := HO3; go_at_call 51; refine (H2.out _ (HO3.out.1)).mono ?_; rintro e y4 ⟨rfl, ok⟩; have HO4 : Hid ((Below w.heap.size w y4) ∧ BxP y4 w.heap.size P.nm P.a P.b P.c (.slice a1 P.d.length c1) (.slice a2 P.p.length c2) (.slice a3 P.o.length c3)) := HK0.out _ _ HO3.out ok; clear ok HO3 g0 g1 g2 g3 g4 g5 g6 g7; obtain ⟨g0, g1, g2, g3, g4, g5, g6, g7⟩ := HO4.out.2)
                    | (have _h := HO4; go_at_call 51; refine (H3.out _ (HO4.out.1)).mono ?_; rintro e y5 ⟨rfl, ok⟩; have HO5 : Hid ((Below w.heap.size w y5) ∧ BxP y5 w.heap.size P.nm P.a P.b P.c (.slice a1 P.d.length c1) (.slice a2 P.p.length c2) (.slice a3 P.o.length c3)) := HK0.out _ _ HO4.out ok; clear ok HO4 g0 g1 g2 g3 g4 g5 g6 g7; obtain ⟨g0, g1, g2, g3, g4, g5, g6, g7⟩ := HO5.out.2)
                    | (have _h := HO5; go_at_call 52; refine (B12.out _ (HO5.out.1)).mono ?_; rintro e y6 ⟨rfl, ok⟩; have HO6 : Hid ((Below w.heap.size w y6) ∧ BxP y6 w.heap.size P.nm P.a P.b P.c (.slice a1 P.d.length c1) (.slice a2 P.p.length c2) (.slice a3 P.o.length c3)) := HK0.out _ _ HO5.out ok; clear ok HO5 g0 g1 g2 g3 g4 g5 g6 g7; obtain ⟨g0, g1, g2, g3, g4, g5, g6, g7⟩ := HO6.out.2)
                    | (have _h := HO6; go_at_call 52; refine (B13.out _ (HO6.out.1)).mono ?_; rintro e y7 ⟨rfl, ok⟩; have HO7 : Hid ((Below w.heap.size w y7) ∧ BxP y7 w.heap.size P.nm P.a P.b P.c (.slice a1 P.d.length c1) (.slice a2 P.p.length c2) (.slice a3 P.o.length c3)) := HK0.out _ _ HO6.out ok; clear ok HO6 g0 g1 g2 g3 g4 g5 g6 g7; obtain ⟨g0, g1, g2, g3, g4, g5, g6, g7⟩ := HO7.out.2)
                    | (have _h := HO7; go_at_call 52; refine (B23.out _ (HO7.out.1)).mono ?_; rintro e y8 ⟨rfl, ok⟩; have HO8 : Hid ((Below w.heap.size w y8) ∧ BxP y8 w.heap.size P.nm P.a P.b P.c (.slice a1 P.d.length c1) (.slice a2 P.p.length c2) (.slice a3 P.o.length c3)) := HK0.out _ _ HO7.out ok; clear ok HO7 g0 g1 g2 g3 g4 g5 g6 g7; obtain ⟨g0, g1, g2, g3, g4, g5, g6, g7⟩ := HO8.out.2))
                  go_ret
                  exact ⟨ret_bool HR.out.symm, HO8.out.1⟩
                · by_cases hlen : tl ≤ 4096
                  · have hz1 : decide ((TX.size : Int) ≤ 4096) = true := decide_eq_true (by have := HZ.out; omega)
                    have HR : Hid (DB = true) := by unfold Hid; rw [HD.out]; simp [hlen]
                    have hz2 : (TX.size : Int) ≤ 4096 := by have := HZ.out; omega
                    have _ := hlen
                    have HK0 : Hid (KeepP fun w1 => (Below w.heap.size w w1) ∧ BxP w1 w.heap.size P.nm P.a P.b P.c (.slice a1 P.d.length c1) (.slice a2 P.p.length c2) (.slice a3 P.o.length c3)) := (KeepP.and (keepBelow w) (keepBxP _ _ _ _ _ _ _ _))
                    have HO0 : Hid ((Below w.heap.size w (w.alloc (.cells #[.string P.nm, .int .i64 P.a, .int .i64 P.b, .int .i64 P.c, .slice a1 P.d.length c1, .slice a2 P.p.length c2, .slice a3 P.o.length c3] 34))) ∧ BxP (w.alloc (.cells #[.string P.nm, .int .i64 P.a, .int .i64 P.b, .int .i64 P.c, .slice a1 P.d.length c1, .slice a2 P.p.length c2, .slice a3 P.o.length c3] 34)) w.heap.size P.nm P.a P.b P.c (.slice a1 P.d.length c1) (.slice a2 P.p.length c2) (.slice a3 P.o.length c3)) := ⟨boxB _ _, BxP.new rfl _ _ _ _ _ _ _⟩
                    obtain ⟨g0, g1, g2, g3, g4, g5, g6, g7⟩ := HO0.out.2
                    go_enter Tryz.func26, Tryz.ntmps26
                    go_wp2_with (first
                      | (have _h := HO0; go_at_call 50; refine (HN.out _ (HO0.out.1)).mono ?_; rintro e y1 ⟨rfl, ok⟩; have HO1 : Hid ((Below w.heap.size w y1) ∧ BxP y1 w.heap.size P.nm P.a P.b P.c (.slice a1 P.d.length c1) (.slice a2 P.p.length c2) (.slice a3 P.o.length c3)) := HK0.out _ _ HO0.out ok; clear ok HO0 g0 g1 g2 g3 g4 g5 g6 g7; obtain ⟨g0, g1, g2, g3, g4, g5, g6, g7⟩ := HO1.out.2)
                      | (have _h := HO1; go_at_call 47; refine (HV.out _ (HO1.out.1)).mono ?_; rintro e y2 ⟨rfl, ok⟩; have HO2 : Hid ((Below w.heap.size w y2) ∧ BxP y2 w.heap.size P.nm P.a P.b P.c (.slice a1 P.d.length c1) (.slice a2 P.p.length c2) (.slice a3 P.o.length c3)) := HK0.out _ _ HO1.out ok; clear ok HO1 g0 g1 g2 g3 g4 g5 g6 g7; obtain ⟨g0, g1, g2, g3, g4, g5, g6, g7⟩ := HO2.out.2)
                      | (have _h := HO2; go_at_call 51; refine (H1.out _ (HO2.out.1)).mono ?_; rintro e y3 ⟨rfl, ok⟩; have HO3 : Hid ((Below w.heap.size w y3) ∧ BxP y3 w.heap.size P.nm P.a P.b P.c (.slice a1 P.d.length c1) (.slice a2 P.p.length c2) (.slice a3 P.o.length c3)) := HK0.out _ _ HO2.out ok; clear ok HO2 g0 g1 g2 g3 g4 g5 g6 g7; obtain ⟨g0, g1, g2, g3, g4, g5, g6, g7⟩ := HO3.out.2)
                      | (have _h := HO3; go_at_call 51; refine (H2.out _ (HO3.out.1)).mono ?_; rintro e y4 ⟨rfl, ok⟩; have HO4 : Hid ((Below w.heap.size w y4) ∧ BxP y4 w.heap.size P.nm P.a P.b P.c (.slice a1 P.d.length c1) (.slice a2 P.p.length c2) (.slice a3 P.o.length c3)) := HK0.out _ _ HO3.out ok; clear ok HO3 g0 g1 g2 g3 g4 g5 g6 g7; obtain ⟨g0, g1, g2, g3, g4, g5, g6, g7⟩ := HO4.out.2)
                      | (have _h := HO4; go_at_call 51; refine (H3.out _ (HO4.out.1)).mono ?_; rintro e y5 ⟨rfl, ok⟩; have HO5 : Hid ((Below w.heap.size w y5) ∧ BxP y5 w.heap.size P.nm P.a P.b P.c (.slice a1 P.d.length c1) (.slice a2 P.p.length c2) (.slice a3 P.o.length c3)) := HK0.out _ _ HO4.out ok; clear ok HO4 g0 g1 g2 g3 g4 g5 g6 g7; obtain ⟨g0, g1, g2, g3, g4, g5, g6, g7⟩ := HO5.out.2)
                      | (have _h := HO5; go_at_call 52; refine (B12.out _ (HO5.out.1)).mono ?_; rintro e y6 ⟨rfl, ok⟩; have HO6 : Hid ((Below w.heap.size w y6) ∧ BxP y6 w.heap.size P.nm P.a P.b P.c (.slice a1 P.d.length c1) (.slice a2 P.p.length c2) (.slice a3 P.o.length c3)) := HK0.out _ _ HO5.out ok; clear ok HO5 g0 g1 g2 g3 g4 g5 g6 g7; obtain ⟨g0, g1, g2, g3, g4, g5, g6, g7⟩ := HO6.out.2)
                      | (have _h := HO6; go_at_call 52; refine (B13.out _ (HO6.out.1)).mono ?_; rintro e y7 ⟨rfl, ok⟩; have HO7 : Hid ((Below w.heap.size w y7) ∧ BxP y7 w.heap.size P.nm P.a P.b P.c (.slice a1 P.d.length c1) (.slice a2 P.p.length c2) (.slice a3 P.o.length c3)) := HK0.out _ _ HO6.out ok; clear ok HO6 g0 g1 g2 g3 g4 g5 g6 g7; obtain ⟨g0, g1, g2, g3, g4, g5, g6, g7⟩ := HO7.out.2)
                      | (have _h := HO7; go_at_call 52; refine (B23.out _ (HO7.out.1)).mono ?_; rintro e y8 ⟨rfl, ok⟩; have HO8 : Hid ((Below w.heap.size w y8) ∧ BxP y8 w.heap.size P.nm P.a P.b P.c (.slice a1 P.d.length c1) (.slice a2 P.p.length c2) (.slice a3 P.o.length c3)) := HK0.out _ _ HO7.out ok; clear ok HO7 g0 g1 g2 g3 g4 g5 g6 g7; obtain ⟨g0, g1, g2, g3, g4, g5, g6, g7⟩ := HO8.out.2)
                      | (have _h := HO8; go_at_call 53; refine (BT.out _ (HO8.out.1)).mono ?_; rintro e y9 ⟨rfl, ok⟩; have HO9 : Hid ((Below w.heap.size w y9) ∧ BxP y9 w.heap.size P.nm P.a P.b P.c (.slice a1 P.d.length c1) (.slice a2 P.p.length c2) (.slice a3 P.o.length c3)) := HK0.out _ _ HO8.out ok; clear ok HO8 g0 g1 g2 g3 g4 g5 g6 g7; obtain ⟨g0, g1, g2, g3, g4, g5, g6, g7⟩ := HO9.out.2))
                    go_ret
                    exact ⟨ret_bool HR.out.symm, HO9.out.1⟩
                  · have hz1 : decide ((TX.size : Int) ≤ 4096) = false := decide_eq_false (by have := HZ.out; omega)
                    have HR : Hid (DB = false) := by unfold Hid; rw [HD.out]; simp [hlen]
                    have _ := hlen
                    have HK0 : Hid (KeepP fun w1 => (Below w.heap.size w w1) ∧ BxP w1 w.heap.size P.nm P.a P.b P.c (.slice a1 P.d.length c1) (.slice a2 P.p.length c2) (.slice a3 P.o.length c3)) := (KeepP.and (keepBelow w) (keepBxP _ _ _ _ _ _ _ _))
                    have HO0 : Hid ((Below w.heap.size w (w.alloc (.cells #[.string P.nm, .int .i64 P.a, .int .i64 P.b, .int .i64 P.c, .slice a1 P.d.length c1, .slice a2 P.p.length c2, .slice a3 P.o.length c3] 34))) ∧ BxP (w.alloc (.cells #[.string P.nm, .int .i64 P.a, .int .i64 P.b, .int .i64 P.c, .slice a1 P.d.length c1, .slice a2 P.p.length c2, .slice a3 P.o.length c3] 34)) w.heap.size P.nm P.a P.b P.c (.slice a1 P.d.length c1) (.slice a2 P.p.length c2) (.slice a3 P.o.length c3)) := ⟨boxB _ _, BxP.new rfl _ _ _ _ _ _ _⟩
                    obtain ⟨g0, g1, g2, g3, g4, g5, g6, g7⟩ := HO0.out.2
                    go_enter Tryz.func26, Tryz.ntmps26
                    go_wp2_with (first
                      | (have _h := HO0; go_at_call 50; refine (HN.out _ (HO0.out.1)).mono ?_; rintro e y1 ⟨rfl, ok⟩; have HO1 : Hid ((Below w.heap.size w y1) ∧ BxP y1 w.heap.size P.nm P.a P.b P.c (.slice a1 P.d.length c1) (.slice a2 P.p.length c2) (.slice a3 P.o.length c3)) := HK0.out _ _ HO0.out ok; clear ok HO0 g0 g1 g2 g3 g4 g5 g6 g7; obtain ⟨g0, g1, g2, g3, g4, g5, g6, g7⟩ := HO1.out.2)
                      | (have _h := HO1; go_at_call 47; refine (HV.out _ (HO1.out.1)).mono ?_; rintro e y2 ⟨rfl, ok⟩; have HO2 : Hid ((Below w.heap.size w y2) ∧ BxP y2 w.heap.size P.nm P.a P.b P.c (.slice a1 P.d.length c1) (.slice a2 P.p.length c2) (.slice a3 P.o.length c3)) := HK0.out _ _ HO1.out ok; clear ok HO1 g0 g1 g2 g3 g4 g5 g6 g7; obtain ⟨g0, g1, g2, g3, g4, g5, g6, g7⟩ := HO2.out.2)
                      | (have _h := HO2; go_at_call 51; refine (H1.out _ (HO2.out.1)).mono ?_; rintro e y3 ⟨rfl, ok⟩; have HO3 : Hid ((Below w.heap.size w y3) ∧ BxP y3 w.heap.size P.nm P.a P.b P.c (.slice a1 P.d.length c1) (.slice a2 P.p.length c2) (.slice a3 P.o.length c3)) := HK0.out _ _ HO2.out ok; clear ok HO2 g0 g1 g2 g3 g4 g5 g6 g7; obtain ⟨g0, g1, g2, g3, g4, g5, g6, g7⟩ := HO3.out.2)
                      | (have _h := HO3; go_at_call 51; refine (H2.out _ (HO3.out.1)).mono ?_; rintro e y4 ⟨rfl, ok⟩; have HO4 : Hid ((Below w.heap.size w y4) ∧ BxP y4 w.heap.size P.nm P.a P.b P.c (.slice a1 P.d.length c1) (.slice a2 P.p.length c2) (.slice a3 P.o.length c3)) := HK0.out _ _ HO3.out ok; clear ok HO3 g0 g1 g2 g3 g4 g5 g6 g7; obtain ⟨g0, g1, g2, g3, g4, g5, g6, g7⟩ := HO4.out.2)
                      | (have _h := HO4; go_at_call 51; refine (H3.out _ (HO4.out.1)).mono ?_; rintro e y5 ⟨rfl, ok⟩; have HO5 : Hid ((Below w.heap.size w y5) ∧ BxP y5 w.heap.size P.nm P.a P.b P.c (.slice a1 P.d.length c1) (.slice a2 P.p.length c2) (.slice a3 P.o.length c3)) := HK0.out _ _ HO4.out ok; clear ok HO4 g0 g1 g2 g3 g4 g5 g6 g7; obtain ⟨g0, g1, g2, g3, g4, g5, g6, g7⟩ := HO5.out.2)
                      | (have _h := HO5; go_at_call 52; refine (B12.out _ (HO5.out.1)).mono ?_; rintro e y6 ⟨rfl, ok⟩; have HO6 : Hid ((Below w.heap.size w y6) ∧ BxP y6 w.heap.size P.nm P.a P.b P.c (.slice a1 P.d.length c1) (.slice a2 P.p.length c2) (.slice a3 P.o.length c3)) := HK0.out _ _ HO5.out ok; clear ok HO5 g0 g1 g2 g3 g4 g5 g6 g7; obtain ⟨g0, g1, g2, g3, g4, g5, g6, g7⟩ := HO6.out.2)
                      | (have _h := HO6; go_at_call 52; refine (B13.out _ (HO6.out.1)).mono ?_; rintro e y7 ⟨rfl, ok⟩; have HO7 : Hid ((Below w.heap.size w y7) ∧ BxP y7 w.heap.size P.nm P.a P.b P.c (.slice a1 P.d.length c1) (.slice a2 P.p.length c2) (.slice a3 P.o.length c3)) := HK0.out _ _ HO6.out ok; clear ok HO6 g0 g1 g2 g3 g4 g5 g6 g7; obtain ⟨g0, g1, g2, g3, g4, g5, g6, g7⟩ := HO7.out.2)
                      | (have _h := HO7; go_at_call 52; refine (B23.out _ (HO7.out.1)).mono ?_; rintro e y8 ⟨rfl, ok⟩; have HO8 : Hid ((Below w.heap.size w y8) ∧ BxP y8 w.heap.size P.nm P.a P.b P.c (.slice a1 P.d.length c1) (.slice a2 P.p.length c2) (.slice a3 P.o.length c3)) := HK0.out _ _ HO7.out ok; clear ok HO7 g0 g1 g2 g3 g4 g5 g6 g7; obtain ⟨g0, g1, g2, g3, g4, g5, g6, g7⟩ := HO8.out.2)
                      | (have _h := HO8; go_at_call 53; refine (BT.out _ (HO8.out.1)).mono ?_; rintro e y9 ⟨rfl, ok⟩; have HO9 : Hid ((Below w.heap.size w y9) ∧ BxP y9 w.heap.size P.nm P.a P.b P.c (.slice a1 P.d.length c1) (.slice a2 P.p.length c2) (.slice a3 P.o.length c3)) := HK0.out _ _ HO8.out ok; clear ok HO8 g0 g1 g2 g3 g4 g5 g6 g7; obtain ⟨g0, g1, g2, g3, g4, g5, g6, g7⟩ := HO9.out.2))
                    go_ret
                    exact ⟨ret_bool HR.out.symm, HO9.out.1⟩
end Go.Proofs.YthlipnnlgkmhcaaGreatDoor
namespace Go.Proofs.YthlipnnlgkmhcaaGreatDoor
open Go.RowKit
set_option maxRecDepth 100000

theorem bl_irr : ∀ l : List UInt8, Op.bytesLess l l = false
  | [] => rfl
  | a :: l => by
    show (decide (a < a) || (a == a && Op.bytesLess l l)) = false
    rw [bl_irr l]
    simp

theorem bl_trans : ∀ {a b c : List UInt8}, Op.bytesLess a b = true → Op.bytesLess b c = true → Op.bytesLess a c = true
  | _, [], _, h, _ => by cases ‹List UInt8› <;> simp [Op.bytesLess] at h
  | _, _ :: _, [], _, h => by simp [Op.bytesLess] at h
  | [], _ :: _, _ :: _, _, _ => rfl
  | x :: a, y :: b, z :: c, h1, h2 => by
    have e1 : (decide (x < y) || (x == y && Op.bytesLess a b)) = true := h1
    have e2 : (decide (y < z) || (y == z && Op.bytesLess b c)) = true := h2
    show (decide (x < z) || (x == z && Op.bytesLess a c)) = true
    simp only [Bool.or_eq_true, decide_eq_true_eq, Bool.and_eq_true, beq_iff_eq] at e1 e2 ⊢
    rcases e1 with h | ⟨rfl, h⟩
    · rcases e2 with k | ⟨rfl, _⟩
      · exact Or.inl (UInt8.lt_trans h k)
      · exact Or.inl h
    · rcases e2 with k | ⟨rfl, k⟩
      · exact Or.inl k
      · exact Or.inr ⟨rfl, bl_trans h k⟩

theorem rise_gt : ∀ {L : List Dp} {p : ByteArray}, riseD (some p) L = true → ∀ d ∈ L, ltS p d.nm = true
  | e :: M, p, h, d, hd => by
    rw [riseD, Bool.and_eq_true, Bool.and_eq_true] at h
    have h1 : ltS p e.nm = true := by
      have := h.1.1
      unfold followB at this
      rw [Bool.and_eq_true] at this
      exact this.2
    rcases List.mem_cons.1 hd with rfl | hd
    · exact h1
    · exact bl_trans h1 (rise_gt h.2 d hd)

theorem rise_nodup : ∀ {L : List Dp} {q : Option ByteArray}, riseD q L = true → (L.map Dp.nm).Nodup
  | [], _, _ => List.nodup_nil
  | e :: M, q, h => by
    rw [riseD, Bool.and_eq_true, Bool.and_eq_true] at h
    rw [List.map_cons, List.nodup_cons]
    refine ⟨fun hm => ?_, rise_nodup h.2⟩
    obtain ⟨d, hd, he⟩ := List.mem_map.1 hm
    have := rise_gt h.2 d hd
    rw [he] at this
    unfold ltS at this
    rw [bl_irr] at this
    cases this

theorem apart_iff {A B : List Dp} : apartB A B = true ↔ ∀ a ∈ A.map Dp.nm, ∀ b ∈ B.map Dp.nm, a ≠ b := by
  unfold apartB
  rw [List.all_eq_true]
  constructor
  · intro h a ha b hb
    obtain ⟨d, hd, rfl⟩ := List.mem_map.1 ha
    obtain ⟨e, he, rfl⟩ := List.mem_map.1 hb
    have := List.all_eq_true.1 (h d hd) e he
    intro hq
    rw [hq] at this
    simp at this
  · intro h d hd
    refine List.all_eq_true.2 fun e he => ?_
    have := h _ (List.mem_map.2 ⟨d, hd, rfl⟩) _ (List.mem_map.2 ⟨e, he, rfl⟩)
    rw [Bool.not_eq_true', beq_eq_false_iff_ne]
    exact fun hq => this (bytes_same hq)

theorem once_apart {A B C : List Dp} (ha : riseD none A = true) (hb : riseD none B = true) (hc : riseD none C = true) : onceL [A, B, C] = (apartB A B && (apartB A C && apartB B C)) := by
  have e : namesL [A, B, C] = A.map Dp.nm ++ (B.map Dp.nm ++ C.map Dp.nm) := by unfold namesL; simp
  rw [Bool.eq_iff_iff, Bool.and_eq_true, Bool.and_eq_true, apart_iff, apart_iff, apart_iff]
  unfold onceL
  rw [e]
  have hd : @decide ((A.map Dp.nm ++ (B.map Dp.nm ++ C.map Dp.nm)).Nodup) (Classical.propDecidable _) = true ↔ (A.map Dp.nm ++ (B.map Dp.nm ++ C.map Dp.nm)).Nodup := ⟨fun h => @of_decide_eq_true _ (Classical.propDecidable _) h, fun h => @decide_eq_true _ (Classical.propDecidable _) h⟩
  rw [hd, List.nodup_append, List.nodup_append]
  constructor
  · rintro ⟨_, ⟨_, _, h2⟩, h3⟩
    exact ⟨fun a ka b kb => h3 a ka b (List.mem_append_left _ kb), fun a ka b kb => h3 a ka b (List.mem_append_right _ kb), h2⟩
  · rintro ⟨h1, h2, h3⟩
    exact ⟨rise_nodup ha, ⟨rise_nodup hb, rise_nodup hc, h3⟩, fun a ka b kb => by
      rcases List.mem_append.1 kb with kb | kb
      · exact h1 a ka b kb
      · exact h2 a ka b kb⟩
end Go.Proofs.YthlipnnlgkmhcaaGreatDoor
namespace Go.Proofs.YthlipnnlgkmhcaaGreatDoor
open Go.RowKit
set_option maxRecDepth 100000

theorem doc_is (P : Pg) : docB P = writtenB P := by
  unfold docB writtenB soundB
  cases hl : (mayD P.d && (mayD P.p && mayD P.o))
  · simp
  · rw [Bool.and_eq_true, Bool.and_eq_true] at hl
    have r : ∀ {L : List Dp}, mayD L = true → riseD none L = true := fun h => by unfold mayD at h; rw [Bool.and_eq_true] at h; exact h.2
    unfold onceB
    rw [once_apart (r hl.1) (r hl.2.1) (r hl.2.2)]
end Go.Proofs.YthlipnnlgkmhcaaGreatDoor
