/- Tc6, Tc7, Tc8, laid in one text. -/
import Derived.Test.YtcclfaioicklaaaGreatDoorShelfQ
import Derived.Test.YtcclfaioicklaaaGreatDoorMg15
namespace Go.Proofs.YtcclfaioicklaaaGreatDoor
open Go.Shelf Go.RowKit Go.Lib Go.Sort
set_option maxRecDepth 100000

/-- Directories are not too great. -/
def FitK (A : List Dr) : Prop := ∀ d ∈ A, d.pa.length ≤ 9223372036854775807 ∧ PgZ d.pk
/-- Where they stand, and their packages. -/
def keysD (A : List Dr) : List (List ByteArray × Pg) := A.map keyD
theorem keysD_get {A : List Dr} {i : Nat} (h : i < A.length) : (keysD A)[i]'(by unfold keysD; simpa using h) = keyD A[i] := by simp [keysD]
theorem keysD_len (A : List Dr) : (keysD A).length = A.length := by simp [keysD]

set_option maxHeartbeats 3200000 in
theorem EqualD_walk {A B : List Dr} {va vb : Value} {w : World} (ha : DirsAt w va A) (hb : DirsAt w vb B) (hAB : A.length = B.length) (hA : A.length ≤ 9223372036854775807) (hf : FitK A) :
    Calls Tryz.prog 51 #[va, vb, .func (.func 53) #[] #[]] w fun e w' => e = .returned (.bool (eqB (keysD A) (keysD B))) ∧ Below w.heap.size w w' := by
  obtain ⟨ad, ca, rfl, hca, hea⟩ := ha.sl
  obtain ⟨bd, cb, rfl, hcb, heb⟩ := hb.sl
  have HL : Hid (∀ w1, Below w.heap.size w w1 → ∀ i (h : i < A.length) (h2 : i < B.length), (∃ g o, ad = some ⟨g, o, none⟩ ∧ ∃ u v1 v2 v3, DrIn w1 g (o + i * 9) A[i] u v1 v2 v3) ∧ ∃ g o, bd = some ⟨g, o, none⟩ ∧ ∃ u v1 v2 v3, DrIn w1 g (o + i * 9) B[i] u v1 v2 v3) := fun w1 h1 i hi hi2 => by
    obtain ⟨g, o, e, u, v1, v2, v3, h⟩ := hea i hi
    obtain ⟨g', o', e', u', v1', v2', v3', h'⟩ := heb i hi2
    exact ⟨⟨g, o, e, u, v1, v2, v3, h.below h1⟩, g', o', e', u', v1', v2', v3', h'.below h1⟩
  have HAB := hide3 hAB
  have HF := hide3 hf
  clear ha hb hea heb hf hca hcb
  rw [← hAB]
  clear hAB
  go_enter Tryz.func51, Tryz.ntmps51
  go_wp2_with fail
  go_loopw [17] (fun i wr => ∃ k : Nat, k ≤ A.length ∧ i = .int .i64 k ∧ Below w.heap.size w wr ∧ ∀ j (h : j < k) (h1 : j < A.length) (h2 : j < B.length), keyD A[j] = keyD B[j]) (fun i _ => A.length - (intOf i).toNat)
  case atStart => exact ⟨0, Nat.zero_le _, rfl, Below.refl _ _, fun j h => by omega⟩
  case round =>
    obtain ⟨k, hk, rfl, hb, hall⟩ := hrel
    have HALL := hide3 hall
    have HB := hide3 hb
    clear hall
    by_cases hlt : k < A.length
    · have hltB : k < B.length := HAB.out ▸ hlt
      obtain ⟨⟨g, o, rfl, u, v1, v2, v3, hA0⟩, h, t, rfl, x, y1, y2, y3, hB0⟩ := HL.out wr hb k hlt hltB
      have HC : Hid (∀ w1, Below wr.heap.size wr w1 → Calls Tryz.prog 53 #[.agg #[u, .string A[k].pk.nm, .int .i64 A[k].pk.a, .int .i64 A[k].pk.b, .int .i64 A[k].pk.c, v1, v2, v3, .int .i64 A[k].nd], .agg #[x, .string B[k].pk.nm, .int .i64 B[k].pk.a, .int .i64 B[k].pk.b, .int .i64 B[k].pk.c, y1, y2, y3, .int .i64 B[k].nd]] w1 fun r w' => r = .returned (.bool (eqB (keyD A[k]) (keyD B[k]))) ∧ Below w1.heap.size w1 w') := fun w1 h1 => sameDir_any (hA0.2.1.1.below h1) (hA0.2.1.2.below h1) (hB0.2.1.1.below h1) (hB0.2.1.2.below h1) (HF.out _ (List.getElem_mem hlt)).1 (HF.out _ (List.getElem_mem hlt)).2
      have HNE : Hid (eqB (keyD A[k]) (keyD B[k]) = false → eqB (keysD A) (keysD B) = false) := fun h => eqB_no fun e => by
        have h1 := keysD_get hlt
        have h2 := keysD_get hltB
        simp only [e] at h1
        rw [h1] at h2
        rw [eqB_yes h2] at h
        cases h
      have HST : Hid (eqB (keyD A[k]) (keyD B[k]) = true → ∀ j (h : j < k + 1) (h1 : j < A.length) (h2 : j < B.length), keyD A[j] = keyD B[j]) := fun h j hj h1 h2 => by
        rcases Nat.lt_or_ge j k with hjk | hjk
        · exact HALL.out j hjk h1 h2
        · obtain rfl : j = k := by omega
          exact eqB_iff.1 h
      obtain ⟨ua, uc, rfl⟩ := hA0.2.1.1.sl
      obtain ⟨a1, c1, rfl⟩ := hA0.2.1.2.1.sl
      obtain ⟨a2, c2, rfl⟩ := hA0.2.1.2.2.1.sl
      obtain ⟨a3, c3, rfl⟩ := hA0.2.1.2.2.2.sl
      obtain ⟨xa, xc, rfl⟩ := hB0.2.1.1.sl
      obtain ⟨b1, e1, rfl⟩ := hB0.2.1.2.1.sl
      obtain ⟨b2, e2, rfl⟩ := hB0.2.1.2.2.1.sl
      obtain ⟨b3, e3, rfl⟩ := hB0.2.1.2.2.2.sl
      obtain ⟨⟨q0, q1, q2, q3, q4, q5, q6, q7, q8⟩, _, q9⟩ := hB0.below (boxB wr (.cells #[.slice ua A[k].pa.length uc, .string A[k].pk.nm, .int .i64 A[k].pk.a, .int .i64 A[k].pk.b, .int .i64 A[k].pk.c, .slice a1 A[k].pk.d.length c1, .slice a2 A[k].pk.p.length c2, .slice a3 A[k].pk.o.length c3, .int .i64 A[k].nd] 46))
      obtain ⟨⟨p0, p1, p2, p3, p4, p5, p6, p7, p8⟩, _, p9⟩ := hA0
      clear hB0
      generalize eqB (keyD A[k]) (keyD B[k]) = r at *
      generalize A[k].pk.d.length = l1 at *
      generalize A[k].pk.p.length = l2 at *
      generalize A[k].pk.o.length = l3 at *
      generalize A[k].pa.length = n at *
      generalize A[k].pk.nm = s at *
      generalize A[k].pk.a = a at *
      generalize A[k].pk.b = b at *
      generalize A[k].pk.c = c at *
      generalize A[k].nd = nd at *
      generalize B[k].pk.d.length = m1 at *
      generalize B[k].pk.p.length = m2 at *
      generalize B[k].pk.o.length = m3 at *
      generalize B[k].pa.length = m at *
      generalize B[k].pk.nm = t' at *
      generalize B[k].pk.a = a' at *
      generalize B[k].pk.b = b' at *
      generalize B[k].pk.c = c' at *
      generalize B[k].nd = md at *
      cases r
      · have HR := hide3 (HNE.out rfl)
        clear hb HNE HST HALL
        go_wp2_with (go_at_call 53; refine (HC.out _ (boxB2 _ _ _)).mono ?_; rintro r w1 ⟨rfl, ok⟩)
        go_ret
        exact ⟨ret_bool HR.out.symm, below_then HB.out (below_then (boxB2 _ _ _) ok)⟩
      · have HR := hide3 (HST.out rfl)
        clear hb HNE HST HALL
        go_wp2_with (go_at_call 53; refine (HC.out _ (boxB2 _ _ _)).mono ?_; rintro r w1 ⟨rfl, ok⟩)
        exact ⟨⟨k + 1, by omega, by go_num, below_then HB.out (below_then (boxB2 _ _ _) ok), HR.out⟩, by simp [intOf]; omega⟩
    · have hke : k = A.length := by omega
      subst hke
      have HR : Hid (eqB (keysD A) (keysD B) = true) := eqB_yes (List.ext_getElem (by rw [keysD_len, keysD_len]; exact HAB.out) fun j h1 h2 => by
        rw [keysD_len] at h1 h2
        rw [keysD_get h1, keysD_get h2]
        exact HALL.out j h1 h1 h2)
      clear hb
      go_wp2
      go_ret
      exact ⟨ret_bool HR.out.symm, HB.out⟩

theorem EqualD_len (ad bd : Option Addr) (n m ca cb : Nat) (h : n ≠ m) (w : World) :
    Calls Tryz.prog 51 #[.slice ad n ca, .slice bd m cb, .func (.func 53) #[] #[]] w fun e w' => e = .returned (.bool false) ∧ Below w.heap.size w w' := by
  have hn : ((n : Int) = (m : Int)) = False := by simp; omega
  go_enter Tryz.func51, Tryz.ntmps51
  go_wp2
  go_ret
  exact ⟨rfl, Below.refl _ _⟩

theorem EqualD_any {A B : List Dr} {va vb : Value} {w : World} (ha : DirsAt w va A) (hb : DirsAt w vb B) (hA : A.length ≤ 9223372036854775807) (hf : FitK A) :
    Calls Tryz.prog 51 #[va, vb, .func (.func 53) #[] #[]] w fun e w' => e = .returned (.bool (eqB (keysD A) (keysD B))) ∧ Below w.heap.size w w' := by
  by_cases h : A.length = B.length
  · exact EqualD_walk ha hb h hA hf
  · rw [eqB_no fun e => h (by rw [← keysD_len A, ← keysD_len B, e])]
    obtain ⟨ad, ca, rfl, _⟩ := ha.sl
    obtain ⟨bd, cb, rfl, _⟩ := hb.sl
    exact EqualD_len _ _ _ _ _ _ h w

set_option maxHeartbeats 3200000 in
/-- Where no directory stands twice in a row nothing is taken out. -/
theorem compact_nd {A : List Dr} {v : Value} {w : World} (h : DirsAt w v A) (hA : A.length ≤ 9223372036854775807) (hf : FitK A) (hd : ∀ i (h : i + 1 < A.length), keyD A[i + 1] ≠ keyD A[i]) :
    Calls Tryz.prog 77 #[v, .func (.func 53) #[] #[]] w fun e w' => e = .returned v ∧ Below w.heap.size w w' := by
  obtain ⟨ad, ca, rfl, hca, hea⟩ := h.sl
  by_cases h2 : A.length < 2
  · have h2i : decide ((A.length : Int) < 2) = true := decide_eq_true (by omega)
    clear h hf hd hea hA
    generalize A.length = n at *
    go_enter Tryz.func77, Tryz.ntmps77
    go_wp2
    go_ret
    exact ⟨rfl, Below.refl _ _⟩
  · have HL : Hid (∀ w1, Below w.heap.size w w1 → ∀ i (h : i < A.length), ∃ g o, ad = some ⟨g, o, none⟩ ∧ ∃ u v1 v2 v3, DrIn w1 g (o + i * 9) A[i] u v1 v2 v3) := fun w1 h1 i hi => by
      obtain ⟨g, o, e, u, v1, v2, v3, h⟩ := hea i hi
      exact ⟨g, o, e, u, v1, v2, v3, h.below h1⟩
    have HF := hide3 hf
    have HD := hide3 hd
    have h2i : decide ((A.length : Int) < 2) = false := decide_eq_false (by omega)
    obtain ⟨g, o, rfl, _⟩ := hea 0 (by omega)
    clear h hea hf hd
    go_enter Tryz.func77, Tryz.ntmps77
    go_wp2_with fail
    go_loopw [5] (fun i wr => ∃ j : Nat, j < A.length ∧ i = .int .i64 ((j + 1 : Nat) : Int) ∧ Below w.heap.size w wr) (fun i _ => A.length - (intOf i).toNat)
    case atStart => exact ⟨0, by omega, rfl, Below.refl _ _⟩
    case round =>
      obtain ⟨k, hk, rfl, hb⟩ := hrel
      have HB := hide3 hb
      by_cases hlt : k + 1 < A.length
      · obtain ⟨g1, o1, e1, u, v1, v2, v3, hA0⟩ := HL.out wr hb (k + 1) hlt
        cases e1
        obtain ⟨g2, o2, e2, x, y1, y2, y3, hB0⟩ := HL.out wr hb k hk
        cases e2
        have HC : Hid (∀ w1, Below wr.heap.size wr w1 → Calls Tryz.prog 53 #[.agg #[u, .string A[k + 1].pk.nm, .int .i64 A[k + 1].pk.a, .int .i64 A[k + 1].pk.b, .int .i64 A[k + 1].pk.c, v1, v2, v3, .int .i64 A[k + 1].nd], .agg #[x, .string A[k].pk.nm, .int .i64 A[k].pk.a, .int .i64 A[k].pk.b, .int .i64 A[k].pk.c, y1, y2, y3, .int .i64 A[k].nd]] w1 fun r w' => r = .returned (.bool false) ∧ Below w1.heap.size w1 w') := fun w1 h1 => by
          have q := sameDir_any (hA0.2.1.1.below h1) (hA0.2.1.2.below h1) (hB0.2.1.1.below h1) (hB0.2.1.2.below h1) (HF.out _ (List.getElem_mem hlt)).1 (HF.out _ (List.getElem_mem hlt)).2
          rw [eqB_no (HD.out k hlt)] at q
          exact q
        have HK : Hid (KeepP fun w1 => Below wr.heap.size wr w1 ∧ DrIn w1 g (o + (k + 1) * 9) A[k + 1] u v1 v2 v3 ∧ DrIn w1 g (o + k * 9) A[k] x y1 y2 y3) := (keepBelow wr).and ((keepDr _ _ _ _ _ _ _).and (keepDr _ _ _ _ _ _ _))
        have HO : Hid (Below wr.heap.size wr wr ∧ DrIn wr g (o + (k + 1) * 9) A[k + 1] u v1 v2 v3 ∧ DrIn wr g (o + k * 9) A[k] x y1 y2 y3) := ⟨Below.refl _ _, hA0, hB0⟩
        have hw1 : IntKind.i64.wrap (k : Int) = k := wrapN (by omega)
        have hki : (k : Int) + 1 < A.length := by omega
        have hk0 : (0 : Int) ≤ (k : Int) + 1 := by omega
        have hkj : (k : Int) < A.length := by omega
        obtain ⟨ua, uc, rfl⟩ := hA0.2.1.1.sl
        obtain ⟨a1, c1, rfl⟩ := hA0.2.1.2.1.sl
        obtain ⟨a2, c2, rfl⟩ := hA0.2.1.2.2.1.sl
        obtain ⟨a3, c3, rfl⟩ := hA0.2.1.2.2.2.sl
        obtain ⟨xa, xc, rfl⟩ := hB0.2.1.1.sl
        obtain ⟨b1, e1, rfl⟩ := hB0.2.1.2.1.sl
        obtain ⟨b2, e2, rfl⟩ := hB0.2.1.2.2.1.sl
        obtain ⟨b3, e3, rfl⟩ := hB0.2.1.2.2.2.sl
        clear hA0 hB0 hb
        go_wp2_with fail
        refine wp_region_keep HK.out (by kernel_rfl) (by kernel_rfl) (by first | exact HO.out | exact HK.out.drew HO.out) ?_
        intro C hin hout
        have HIN := hide3 hin
        have HOUT := hide3 hout
        clear hin hout HO
        repeat
          (with_reducible refine wpQuiet_step (fun K hK => ?_)
           go_simp
           first
             | (refine hK _ ?_; clear hK K)
             | (apply Exists.intro; refine ⟨fun w1 hC => ?_, hK _ ?_⟩; (focus ((first | (go_at_call 53; with_reducible exact callC' HIN.out HOUT.out HK.out (fun w1 hk => HC.out w1 hk.1) w1 hC) | (exact rfl) | (obtain ⟨hb1, ⟨⟨p0, p1, p2, p3, p4, p5, p6, p7, p8⟩, _, p9⟩, ⟨⟨q0, q1, q2, q3, q4, q5, q6, q7, q8⟩, _, q9⟩⟩ := HOUT.out w1 hC; clear hC; go_simp; first | done | exact rfl)); done)); clear hK K))
        refine wpQuiet_nil ?_
        intro wn hC
        have HO := hide3 (HOUT.out _ hC)
        clear hC HIN HOUT C
        obtain ⟨hb1, ⟨⟨p0, p1, p2, p3, p4, p5, p6, p7, p8⟩, _, p9⟩, ⟨⟨q0, q1, q2, q3, q4, q5, q6, q7, q8⟩, _, q9⟩⟩ := HO.out
        go_wp2
        exact ⟨⟨k + 1, by omega, by go_num, below_then HB.out HO.out.1⟩, by simp [intOf]; omega⟩
      · have hki : ¬ ((k : Int) + 1 < A.length) := by omega
        clear hb
        go_wp2
        go_ret
        exact ⟨rfl, HB.out⟩
end Go.Proofs.YtcclfaioicklaaaGreatDoor
namespace Go.Proofs.YtcclfaioicklaaaGreatDoor
open Go.Shelf Go.RowKit Go.Lib Go.Sort
set_option maxRecDepth 100000

theorem infoDr : (Tryz.prog.info? 46).map (fun i => (i.zero, i.size, i.bytes)) = some (some (.agg #[.slice none 0 0, .string ⟨#[]⟩, .int .i64 0, .int .i64 0, .int .i64 0, .slice none 0 0, .slice none 0 0, .slice none 0 0, .int .i64 0]), 9, 144) := by kernel_rfl

/-- A directory with the slices that it has in memory. -/
structure DV where
  d : Dr
  u : Value
  v1 : Value
  v2 : Value
  v3 : Value
def encD (x : DV) : List Value := [x.u, .string x.d.pk.nm, .int .i64 x.d.pk.a, .int .i64 x.d.pk.b, .int .i64 x.d.pk.c, x.v1, x.v2, x.v3, .int .i64 x.d.nd]
theorem encD_len (x : DV) : (encD x).length = 9 := rfl
/-- What it has lies there, and is not too great. -/
def InD (w : World) (x : DV) : Prop := (PathAt w x.u x.d.pa ∧ PgAt w x.d.pk x.v1 x.v2 x.v3) ∧ x.d.pa.length ≤ 9223372036854775807 ∧ PgZ x.d.pk
theorem InD.below {w w' : World} {x : DV} (h : InD w x) (hb : Below w.heap.size w w') : InD w' x := ⟨⟨h.1.1.below hb, h.1.2.below hb⟩, h.2⟩
theorem InD.one {w : World} {x : DV} (h : InD w x) : ∀ v ∈ encD x, v.oneCell' = true := fun v hv => by
  obtain ⟨ua, uc, e0⟩ := h.1.1.sl
  obtain ⟨a1, c1, e1⟩ := h.1.2.1.sl
  obtain ⟨a2, c2, e2⟩ := h.1.2.2.1.sl
  obtain ⟨a3, c3, e3⟩ := h.1.2.2.2.sl
  simp only [encD, List.mem_cons, List.not_mem_nil, or_false] at hv
  rcases hv with rfl | rfl | rfl | rfl | rfl | rfl | rfl | rfl | rfl
  · rw [e0]; rfl
  · rfl
  · rfl
  · rfl
  · rfl
  · rw [e1]; rfl
  · rw [e2]; rfl
  · rw [e3]; rfl
  · rfl

theorem enc_cells {w : World} {g o : Nat} {D : Dr} {u v1 v2 v3 : Value} (h : DrIn w g o D u v1 v2 v3) : ∀ r x, (encD ⟨D, u, v1, v2, v3⟩)[r]? = some x → w.cell? ⟨g, o + r, none⟩ = some x := fun r x hr => by
  obtain ⟨⟨c0, c1, c2, c3, c4, c5, c6, c7, c8⟩, _⟩ := h
  have hl : r < 9 := by
    have := (List.getElem?_eq_some_iff.1 hr).1
    rwa [encD_len] at this
  rcases (show r = 0 ∨ r = 1 ∨ r = 2 ∨ r = 3 ∨ r = 4 ∨ r = 5 ∨ r = 6 ∨ r = 7 ∨ r = 8 by omega) with rfl | rfl | rfl | rfl | rfl | rfl | rfl | rfl | rfl <;> (simp only [encD, List.getElem?_cons_zero, List.getElem?_cons_succ, Option.some.injEq] at hr; subst hr; assumption)

/-- Directories in memory, with their slices. -/
theorem dirs_dv {w : World} {v : Value} {L : List Dr} (h : DirsAt w v L) (hf : FitK L) : ∃ xs : List DV, xs.map (·.d) = L ∧ (∀ x ∈ xs, InD w x) ∧ ∃ ad cap, v = .slice ad L.length cap ∧ (L = [] ∨ ∃ g o, ad = some ⟨g, o, none⟩ ∧ ∀ j u, (xs.flatMap encD)[j]? = some u → w.cell? ⟨g, o + j, none⟩ = some u) := by
  obtain ⟨ad, cap, hv, hc, hl⟩ := h
  rcases hl with rfl | ⟨g, o, ha, hs⟩
  · exact ⟨[], rfl, (fun x hx => by cases hx), ad, cap, hv, Or.inl rfl⟩
  · have hch : ∀ i : Fin L.length, ∃ x : DV, x.d = L[i.1] ∧ DrIn w g (o + i.1 * 9) L[i.1] x.u x.v1 x.v2 x.v3 := fun i => by
      obtain ⟨u, v1, v2, v3, hd⟩ := hs i.1 i.2
      exact ⟨⟨L[i.1], u, v1, v2, v3⟩, rfl, hd⟩
    obtain ⟨f, hfx⟩ := Classical.axiomOfChoice hch
    have hlen : (List.ofFn f).length = L.length := by simp
    haveI : Inhabited DV := ⟨⟨⟨[], zeroPg, 0⟩, undef, undef, undef, undef⟩⟩
    refine ⟨List.ofFn f, ?_, ?_, ad, cap, hv, Or.inr ⟨g, o, ha, fun j u hj => ?_⟩⟩
    · apply List.ext_getElem
      · simp
      · intro i h1 h2
        rw [List.getElem_map, List.getElem_ofFn]
        exact (hfx ⟨i, h2⟩).1
    · intro x hx
      obtain ⟨i, hi, rfl⟩ := List.getElem_of_mem hx
      rw [List.getElem_ofFn]
      have hd := (hfx ⟨i, by simpa using hi⟩)
      have hff := hf _ (List.getElem_mem (l := L) (n := i) (by simpa using hi))
      refine ⟨?_, ?_⟩
      · rw [hd.1]
        exact hd.2.2.1
      · rw [hd.1]
        exact hff
    · have hjl : j < (List.ofFn f).length * 9 := by
        have := (List.getElem?_eq_some_iff.1 hj).1
        rwa [flatMap_len encD 9 encD_len] at this
      have hq : j / 9 < (List.ofFn f).length := (Nat.div_lt_iff_lt_mul (by decide)).2 hjl
      have hg := flatMap_get encD 9 encD_len (List.ofFn f) (j / 9) (j % 9) hq (Nat.mod_lt _ (by decide))
      rw [show j / 9 * 9 + j % 9 = j by omega, hj] at hg
      rw [getElem!_pos (List.ofFn f) (j / 9) hq, List.getElem_ofFn] at hg
      have hd := hfx ⟨j / 9, by rw [hlen] at hq; exact hq⟩
      have := enc_cells (D := L[j / 9]'(by rw [hlen] at hq; exact hq)) hd.2 (j % 9) u (by
        rw [← hd.1]
        exact hg.symm)
      rw [show o + j / 9 * 9 + j % 9 = o + j by omega] at this
      exact this

theorem row_noneD (w : World) : (w.alloc (.cells #[] 46)).ownsRow w.heap.size 46 9 (.slice (some ⟨w.heap.size, 0, none⟩) 0 0) 0 [] :=
  ⟨rfl, Or.inr ⟨w.heap.size, 0, #[], rfl, Nat.le_refl _, heap_alloc_new w _, Nat.le_refl _, Nat.zero_le _, rfl, rfl⟩⟩

/-- Directories in a row of one's own; what they have lies where it lay. -/
def OwnDr (w0 w : World) (B : Nat) (v : Value) (xs : List DV) : Prop := w.ownsRow B 46 9 v xs.length (xs.flatMap encD) ∧ ∀ x ∈ xs, InD w0 x

set_option maxHeartbeats 1600000 in
theorem cloneD_any {L : List Dr} {v : Value} {w : World} (h : DirsAt w v L) (hf : FitK L) (hl : (L.length + L.length / 4 + 192) * 144 ≤ 281474976710656) : Calls Tryz.prog 74 #[v] w fun e w' => ∃ v' xs, e = .returned v' ∧ xs.map (·.d) = L ∧ OwnDr w w' w.heap.size v' xs ∧ Below w.heap.size w w' := by
  obtain ⟨xs, hxs, hin, ad, cap, rfl, hc⟩ := dirs_dv h hf
  have HXS := hide3 hxs
  have HIN := hide3 hin
  have hlx : xs.length = L.length := by rw [← hxs]; simp
  clear h hf hxs
  cases ad with
  | none =>
    obtain rfl : L = [] := by
      rcases hc with e | ⟨_, _, q, _⟩
      · exact e
      · cases q
    obtain rfl : xs = [] := List.length_eq_zero_iff.1 hlx
    rw [List.length_nil]
    have q0 : ∀ w, (binOp .eql 22 (.slice none 0 cap) (.slice none 0 0)).run Tryz.prog w = .ok (.bool true) w := fun w => run_eql_slice_nil w 22 46 none 0 cap Tryz.underlying22
    clear hlx hc
    go_enter Tryz.func74, Tryz.ntmps74
    go_wp2
    go_ret
    exact ⟨_, [], rfl, rfl, ⟨⟨rfl, Or.inl ⟨rfl, rfl⟩⟩, fun x hx => by cases hx⟩, Below.refl _ _⟩
  | some a =>
    obtain ⟨g, o, sp⟩ := a
    have HNW : Hid (∀ j u, (xs.flatMap encD)[j]? = some u → (w.alloc (.cells #[] 46)).cell? ((⟨g, o, sp⟩ : Addr).add j) = some u) := fun j u hj => by
      rcases hc with e | ⟨g', o', q, hs⟩
      · rw [e] at hlx
        rw [List.length_eq_zero_iff.1 hlx] at hj
        simp at hj
      · cases q
        have hcell := hs j u hj
        have ad : (⟨g, o, none⟩ : Addr).add j = ⟨g, o + j, none⟩ := by unfold Addr.add; split <;> simp_all
        rw [ad]
        have hg : g < w.heap.size := by
          rcases Nat.lt_or_ge g w.heap.size with h | h
          · exact h
          · simp [World.cell?, Array.getElem?_eq_none h] at hcell
        exact ((boxB w (.cells #[] 46)).cell (p := ⟨g, o + j, none⟩) hg).trans hcell
    have HOC : Hid (∀ u ∈ xs.flatMap encD, u.oneCell' = true) := fun u hu => by
      obtain ⟨x, hx, hux⟩ := List.mem_flatMap.1 hu
      exact (HIN.out x hx).one u hux
    have HRW := hide3 (row_noneD w)
    have HFL : Hid ((xs.flatMap encD).length = L.length * 9) := by unfold Hid; rw [flatMap_len encD 9 encD_len, hlx]
    have HLX := hide3 hlx
    have q0 : ∀ w, (binOp .eql 22 (.slice (some ⟨g, o, sp⟩) L.length cap) (.slice none 0 0)).run Tryz.prog w = .ok (.bool false) w := fun w => run_eql_slice_nil w 22 46 (some ⟨g, o, sp⟩) L.length cap Tryz.underlying22
    clear hc hlx hin
    obtain ⟨i0, hi, hz0, hz1, hz2⟩ := Sc.info_parts infoDr
    go_enter Tryz.func74, Tryz.ntmps74
    go_wp2_with (at_builtin; refine wpList_append_own_wide _ rfl (.tmp 5) (.tmp 6) 22 rfl w.heap.size 46 i0 _ 9 144 Tryz.underlying22 hi hz0 hz1 hz2 rfl (by decide) _ 0 [] rfl HRW.out ⟨g, o, sp⟩ L.length cap (xs.flatMap encD) rfl HFL.out HNW.out HOC.out (by unfold maxLen; omega) (by rw [Nat.zero_add]; omega) (by simp) ?_; intro v1 w1 ho hgr _; have HO : Hid (OwnDr w w1 w.heap.size v1 xs) := ⟨(by have e := ho; rw [Nat.zero_add, List.nil_append, ← HLX.out] at e; exact e), HIN.out⟩; have HB : Hid (Below w.heap.size w w1) := (boxB w (.cells #[] 46)).trans (grown_below (B := w.heap.size) hgr (fun g e => by cases e; exact Nat.le_refl _) (by simp)); clear ho hgr)
    go_ret
    exact ⟨_, xs, rfl, HXS.out, HO.out, HB.out⟩

/-- A row of one's own is there as directories. -/
theorem OwnDr.at {w0 w : World} {B : Nat} {v : Value} {xs : List DV} (h : OwnDr w0 w B v xs) (hb : Below w0.heap.size w0 w) : DirsAt w v (xs.map (·.d)) := by
  have h0 := h.1
  rcases h.1.2 with ⟨rfl, hn⟩ | ⟨g, cap, cur, rfl, hB, hg, hc, _⟩
  · obtain rfl : xs = [] := List.length_eq_zero_iff.1 hn
    exact ⟨none, 0, rfl, Nat.le_refl _, Or.inl rfl⟩
  · haveI : Inhabited DV := ⟨⟨⟨[], zeroPg, 0⟩, undef, undef, undef, undef⟩⟩
    refine ⟨_, cap, by rw [List.length_map], by rw [List.length_map]; exact hc, Or.inr ⟨g, 0, rfl, fun i hi => ?_⟩⟩
    rw [List.length_map] at hi
    have hin := (h.2 xs[i] (List.getElem_mem hi)).below hb
    rw [List.getElem_map]
    have hcell : ∀ r x, r < 9 → (encD xs[i])[r]? = some x → w.cell? ⟨g, 0 + i * 9 + r, none⟩ = some x := fun r x hr hx => by
      have hlt : i * 9 + r < xs.length * 9 := by omega
      have := World.ownsRow.cellAt h0 (i * 9 + r) hlt
      rw [show 0 + i * 9 + r = i * 9 + r by omega, this, flatMap_get encD 9 encD_len xs i r hi hr, getElem!_pos xs i hi, hx]
    exact ⟨xs[i].u, xs[i].v1, xs[i].v2, xs[i].v3, ⟨hcell 0 _ (by decide) rfl, hcell 1 _ (by decide) rfl, hcell 2 _ (by decide) rfl, hcell 3 _ (by decide) rfl, hcell 4 _ (by decide) rfl, hcell 5 _ (by decide) rfl, hcell 6 _ (by decide) rfl, hcell 7 _ (by decide) rfl, hcell 8 _ (by decide) rfl⟩, hin.1, (Array.getElem?_eq_some_iff.1 hg).1⟩

/-- Directories of one's own are sorted. -/
theorem sortD_any {w0 w : World} {B : Nat} {v : Value} {xs : List DV} (h : OwnDr w0 w B v xs) (hb : Below w0.heap.size w0 w) (hB : w0.heap.size ≤ B) (hz : xs.length < 4611686018427387904) :
    Calls Tryz.prog 75 #[v, .func (.func 76) #[] #[]] w fun e w' => e = .returned (.tuple #[]) ∧ ∃ ts : List DV, ts.Perm xs ∧ (ts.Pairwise fun x y => 0 ≤ cmpK (keyD y.d) (keyD x.d)) ∧ OwnDr w0 w' B v ts ∧ w.grownBy w' v.ownBlock := by
  by_cases hn : xs = []
  · subst hn
    have hv : v = .slice none 0 0 ∨ ∃ g c, v = .slice (some ⟨g, 0, none⟩) 0 c := by
      rcases h.1.2 with ⟨rfl, _⟩ | ⟨g, cap, cur, rfl, _⟩
      · exact Or.inl rfl
      · exact Or.inr ⟨g, cap, rfl⟩
    have hno : ∀ p c, v = .slice p 0 c → Calls Tryz.prog 75 #[v, .func (.func 76) #[] #[]] w fun e w' => e = .returned (.tuple #[]) ∧ w' = w := fun p c e => by
      subst e
      exact AnyF.slices_SortFunc_none Tryz.sortD p c _ w
    have hc : Calls Tryz.prog 75 #[v, .func (.func 76) #[] #[]] w fun e w' => e = .returned (.tuple #[]) ∧ w' = w := by
      rcases hv with e | ⟨g, c, e⟩
      · exact hno _ _ e
      · exact hno _ _ e
    refine hc.mono ?_
    rintro e w' ⟨rfl, rfl⟩
    exact ⟨rfl, [], List.Perm.refl _, List.Pairwise.nil, h, ⟨rfl, rfl, rfl, Nat.le_refl _, fun _ _ _ => rfl⟩⟩
  · haveI : Inhabited {x : DV // InD w0 x} := by
      cases xs with
      | nil => exact absurd rfl hn
      | cons x _ => exact ⟨⟨x, h.2 x List.mem_cons_self⟩⟩
    have eg : ∀ args w, (callFunc 76 args).run Tryz.prog w = .ok (.enter 76 args) w := enters_of Tryz.func76 (by kernel_rfl) rfl
    obtain ⟨ys, hys⟩ : ∃ ys : List {x : DV // InD w0 x}, ys.map (·.1) = xs := ⟨xs.attachWith _ h.2, by simp⟩
    have hfm : ∀ zs : List {x : DV // InD w0 x}, zs.flatMap (fun x => encD x.1) = (zs.map (·.1)).flatMap encD := fun zs => by rw [List.flatMap_map]
    have hown : w.ownsRow B 46 9 v ys.length (ys.flatMap fun x => encD x.1) := by
      have q := h.1
      rw [show xs.length = ys.length by rw [← hys, List.length_map]] at q
      rw [hfm, hys]
      exact q
    have hs := sort_mem (α := {x : DV // InD w0 x}) Tryz.sortD 9 (by decide) Tryz.isAgg46 Tryz.sizeOf46 (fun x => encD x.1) (fun _ => rfl) (fun x v hv => x.2.one v hv) (fun x y => cmpK (keyD x.1.d) (keyD y.1.d)) (ordK.swo fun x : {x : DV // InD w0 x} => keyD x.1.d) 76 #[] eg hown (by rw [← hys, List.length_map] at hz; exact hz) (fun W hW x y => by
      have hbW : Below w0.heap.size w0 W := hb.grown hW hb.size (fun k hk => Nat.le_trans hB (World.ownsRow.lt h.1 k hk).1)
      exact byPath_gd (x.2.below hbW).1.1 (x.2.below hbW).1.2 (y.2.below hbW).1.1 (y.2.below hbW).1.2 x.2.2.1 x.2.2.2)
    refine hs.mono ?_
    rintro e w' ⟨rfl, ts, hp, hpw, ho, hg⟩
    refine ⟨rfl, ts.map (·.1), ?_, ?_, ⟨?_, ?_⟩, hg⟩
    · rw [← hys]
      exact hp.map _
    · rw [List.pairwise_map]
      refine hpw.imp fun {x y} q => ?_
      unfold ltOf at q
      rw [decide_eq_false_iff_not] at q
      exact Int.not_lt.1 q
    · rw [List.length_map, ← hfm]
      exact ho
    · intro x hx
      obtain ⟨y, _, rfl⟩ := List.mem_map.1 hx
      exact y.2
end Go.Proofs.YtcclfaioicklaaaGreatDoor
namespace Go.Proofs.YtcclfaioicklaaaGreatDoor
open Go.Shelf Go.RowKit Go.Lib Go.Sort
set_option maxRecDepth 100000

/-- The same packages at the same paths. -/
noncomputable def sameK (A B : List Dr) : Bool := @decide (∀ k, k ∈ keysD A ↔ k ∈ keysD B) (Classical.propDecidable _)
/-- What sorted answers. -/
def SrtQ (w : World) (L : List Dr) (e : Ending) (w' : World) : Prop := ∃ v' ts, e = .returned v' ∧ DirsAt w' v' ts ∧ (∀ k, k ∈ keysD ts ↔ k ∈ keysD L) ∧ (keysD ts).Pairwise (fun x y => cmpK x y < 0) ∧ FitK ts ∧ ts.length ≤ 9223372036854775807 ∧ Below w.heap.size w w'

theorem strict_nodup {l : List (List ByteArray × Pg)} (h : l.Pairwise fun x y => cmpK x y < 0) : l.Nodup := h.imp fun {x y} q e => by
  subst e
  rw [ordK.irr] at q
  omega
theorem strict_uniq {l m : List (List ByteArray × Pg)} (hl : l.Pairwise fun x y => cmpK x y < 0) (hm : m.Pairwise fun x y => cmpK x y < 0) (h : ∀ k, k ∈ l ↔ k ∈ m) : l = m := by
  have hp : l.Perm m := (List.perm_ext_iff_of_nodup (strict_nodup hl) (strict_nodup hm)).2 h
  exact List.Perm.eq_of_pairwise (le := fun x y => cmpK x y < 0) (fun a b _ _ h1 h2 => absurd h2 (ordK.asymm h1)) hl hm hp
theorem same_keys {A B s t : List Dr} (hs : ∀ k, k ∈ keysD s ↔ k ∈ keysD A) (ht : ∀ k, k ∈ keysD t ↔ k ∈ keysD B) (ps : (keysD s).Pairwise fun x y => cmpK x y < 0) (pt : (keysD t).Pairwise fun x y => cmpK x y < 0) : eqB (keysD s) (keysD t) = sameK A B := by
  unfold sameK
  by_cases h : ∀ k, k ∈ keysD A ↔ k ∈ keysD B
  · rw [@decide_eq_true _ (Classical.propDecidable _) h]
    exact eqB_yes (strict_uniq ps pt fun k => (hs k).trans ((h k).trans (ht k).symm))
  · rw [@decide_eq_false _ (Classical.propDecidable _) h]
    exact eqB_no fun e => h fun k => (hs k).symm.trans (by rw [e]; exact ht k)

set_option maxHeartbeats 1600000 in
theorem sorted_nd {L : List Dr} {v : Value} {w : World} (h : DirsAt w v L) (hf : FitK L) (hl : (L.length + L.length / 4 + 192) * 144 ≤ 281474976710656) (hd : (keysD L).Nodup) : Calls Tryz.prog 52 #[.agg #[v]] w fun e w' => SrtQ w L e w' := by
  have HCL := hide3 (cloneD_any (h.below (boxB w (.cells #[v] 24))) hf hl)
  have HD := hide3 hd
  have HF := hide3 hf
  have HB0 : Hid (Below w.heap.size w (w.alloc (.cells #[v] 24))) := boxB _ _
  obtain ⟨ad, cap, rfl, hsl⟩ := h.sl
  have hll : L.length < 4611686018427387904 := by omega
  have HGN : Hid (∀ ts : List DV, (ts.map (·.d)).Perm L → (ts.Pairwise fun x y => 0 ≤ cmpK (keyD y.d) (keyD x.d)) → (keysD (ts.map (·.d))).Pairwise fun x y => cmpK x y < 0) := fun ts hp hpw => by
    have hn : (keysD (ts.map (·.d))).Nodup := (hp.map keyD).nodup_iff.2 HD.out
    unfold keysD at hn ⊢
    rw [List.map_map] at hn ⊢
    rw [List.pairwise_map]
    rw [List.Nodup, List.pairwise_map] at hn
    refine (hpw.and hn).imp fun {x y} q => ?_
    rcases ordK.tri (keyD x.d) (keyD y.d) with p | p | p
    · exact p
    · exact absurd p q.2
    · exact absurd q.1 (by omega)
  have HGC : Hid (∀ (l : List Dr), (keysD l).Pairwise (fun x y => cmpK x y < 0) → ∀ i (h : i + 1 < l.length), keyD l[i + 1] ≠ keyD l[i]) := fun l hpw i hi e => by
    have q := List.pairwise_iff_getElem.1 hpw i (i + 1) (by rw [keysD_len]; omega) (by rw [keysD_len]; exact hi) (by omega)
    rw [keysD_get (by omega : i < l.length), keysD_get hi, e, ordK.irr] at q
    omega
  have HGF : Hid (∀ ts : List Dr, ts.Perm L → FitK ts) := fun ts hp d hd => HF.out d (hp.mem_iff.1 hd)
  clear h hf hd hl hsl
  have k0 : (w.alloc (.cells #[.slice ad L.length cap] 24)).cell? ⟨w.heap.size, 0, none⟩ = some (.slice ad L.length cap) := by simp
  generalize hW0 : w.alloc (.cells #[.slice ad L.length cap] 24) = W0 at *
  go_enter Tryz.func52, Tryz.ntmps52
  go_wp2_with (go_at_call 74; refine HCL.out.mono ?_; rintro e w1 ⟨v1, xs, rfl, hxs, ho, hb1⟩; have hxl : xs.length < 4611686018427387904 := (by have q := congrArg List.length hxs; rw [List.length_map] at q; omega); have HXS := hide3 hxs; have HO1 := hide3 ho; have HB1 := hide3 hb1; clear hxs ho hb1)
  refine (sortD_any HO1.out HB1.out (Nat.le_refl _) hxl).mono ?_
  rintro e w2 ⟨rfl, ts, hp, hpw, ho2, hg2⟩
  have HBW : Hid (Below W0.heap.size W0 w2) := HB1.out.grown hg2 HB1.out.size (fun k hk => (World.ownsRow.lt HO1.out.1 k hk).1)
  have HB2 : Hid (Below w.heap.size w w2) := below_then HB0.out HBW.out
  have HPM : Hid ((ts.map (·.d)).Perm L) := by
    have q := hp.map (·.d)
    rw [HXS.out] at q
    exact q
  have HAT := hide3 (ho2.at HBW.out)
  have HPW := hide3 (HGN.out ts HPM.out hpw)
  have HCO := hide3 (compact_nd HAT.out (by rw [HPM.out.length_eq]; omega) (HGF.out _ HPM.out) (HGC.out _ HPW.out))
  clear hp hpw ho2 hg2
  go_wp2_with (go_at_call 77; refine HCO.out.mono ?_; rintro e w3 ⟨rfl, hb3⟩; have HB3 := hide3 (below_then HB2.out hb3); have HQ3 := hide3 (HAT.out.below hb3); clear hb3)
  go_ret
  exact ⟨v1, ts.map (·.d), rfl, HQ3.out, fun k => by unfold keysD; rw [(HPM.out.map keyD).mem_iff], HPW.out, HGF.out _ HPM.out, by rw [HPM.out.length_eq]; omega, HB3.out⟩

set_option maxHeartbeats 1600000 in
theorem tSame_of {A B : List Dr} {va vb : Value} {w : World} (ha : ∃ ad n cap, va = .slice ad n cap) (hb : ∃ ad n cap, vb = .slice ad n cap) (hA : ∀ W, Below w.heap.size w W → Calls Tryz.prog 52 #[.agg #[va]] W (SrtQ W A)) (hB : ∀ W, Below w.heap.size w W → Calls Tryz.prog 52 #[.agg #[vb]] W (SrtQ W B)) :
    Calls Tryz.prog 25 #[.agg #[va], .agg #[vb]] w fun e w' => e = .returned (.bool (sameK A B)) ∧ Below w.heap.size w w' := by
  obtain ⟨aa, na, ca, rfl⟩ := ha
  obtain ⟨ab, nb, cb, rfl⟩ := hb
  have HA := hide3 hA
  have HB := hide3 hB
  have HW0 : Hid (Below w.heap.size w ((w.alloc (.cells #[.slice aa na ca] 24)).alloc (.cells #[.slice ab nb cb] 24)).drew) := (boxB2 _ _ _).drew
  have HCE : Hid (∀ W, Below ((w.alloc (.cells #[.slice aa na ca] 24)).alloc (.cells #[.slice ab nb cb] 24)).drew.heap.size ((w.alloc (.cells #[.slice aa na ca] 24)).alloc (.cells #[.slice ab nb cb] 24)).drew W → W.cell? ⟨w.heap.size, 0, none⟩ = some (.slice aa na ca) ∧ W.cell? ⟨w.heap.size + 1, 0, none⟩ = some (.slice ab nb cb)) := fun W hb => by
    have q : ∀ (g i : Nat), g < w.heap.size + 2 → W.cell? ⟨g, i, none⟩ = ((w.alloc (.cells #[.slice aa na ca] 24)).alloc (.cells #[.slice ab nb cb] 24)).cell? ⟨g, i, none⟩ := fun g i hg => hb.cell (p := ⟨g, i, none⟩) (by simpa using hg)
    refine ⟨?_, ?_⟩ <;> rw [q _ _ (by omega)] <;> simp
  obtain ⟨k0, j0⟩ := HCE.out _ (Below.refl _ _)
  clear hA hB
  go_enter Tryz.func25, Tryz.ntmps25
  go_wp2_with fail
  generalize ((w.alloc (.cells #[.slice aa na ca] 24)).alloc (.cells #[.slice ab nb cb] 24)) = W0 at *
  go_region_held3 (fun w' => w'.cell? ⟨w.heap.size, 0, none⟩ = some (.slice aa na ca) ∧ w'.cell? ⟨w.heap.size + 1, 0, none⟩ = some (.slice ab nb cb)) (go_keep) (first
    | (have _t := HQ2; go_at_call 51; refine (EqualD_any (HQ1.out.below HB2.out) HQ2.out hl1 HF1.out).mono ?_; rintro e w3 ⟨rfl, ok⟩; have HB3 := hide3 (below_then (below_then HW0.out (below_then HB1.out HB2.out)) ok); obtain ⟨k0, j0⟩ := HCE.out _ (below_then (below_then HB1.out HB2.out) ok); clear ok)
    | (have _t := HQ1; go_at_call 52; refine (HB.out _ (below_then HW0.out HB1.out)).mono ?_; rintro e w2 ⟨v2, t2, rfl, hd2, hm2, hp2, hf2, hl2, ok⟩; have HQ2 := hide3 hd2; have HM2 := hide3 hm2; have HP2 := hide3 hp2; have HB2 := hide3 ok; obtain ⟨k0, j0⟩ := HCE.out _ (below_then HB1.out ok); clear ok hd2 hm2 hp2 hf2 hl2)
    | (go_at_call 52; refine (HA.out _ HW0.out).mono ?_; rintro e w1 ⟨v1, t1, rfl, hd1, hm1, hp1, hf1, hl1, ok⟩; have HQ1 := hide3 hd1; have HM1 := hide3 hm1; have HP1 := hide3 hp1; have HF1 := hide3 hf1; have HB1 := hide3 ok; obtain ⟨k0, j0⟩ := HCE.out _ ok; clear ok hd1 hm1 hp1 hf1))
  all_goals go_wp2
  all_goals go_ret
  all_goals exact ⟨by rw [same_keys HM1.out HM2.out HP1.out HP2.out]; rfl, HB3.out⟩
end Go.Proofs.YtcclfaioicklaaaGreatDoor
