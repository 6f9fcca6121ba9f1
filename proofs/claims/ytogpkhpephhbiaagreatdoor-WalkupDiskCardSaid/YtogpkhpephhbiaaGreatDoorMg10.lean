/- Tw6, Tw7, Tw9, laid in one text. -/
import Derived.Test.YtogpkhpephhbiaaGreatDoorMg09
namespace Go.Proofs.YtogpkhpephhbiaaGreatDoor
open Go.RowKit
set_option maxRecDepth 100000

/-- A path's last name. -/
def lastP (L : List ByteArray) : ByteArray := L.getLastD ⟨#[]⟩
theorem lastP_at {L : List ByteArray} (h : 0 < L.length) : lastP L = L[L.length - 1]'(by omega) := by
  unfold lastP
  rw [List.getLastD_eq_getLast?, List.getLast?_eq_getElem?, List.getElem?_eq_getElem (by omega)]
  rfl

theorem last_any {L : List ByteArray} {v : Value} {w : World} (h : PathAt w v L) (h0 : 0 < L.length) (hz : L.length ≤ 9223372036854775807) :
    Calls Tryz.prog 65 #[v] w fun e w' => e = .returned (.string (lastP L)) ∧ Below w.heap.size w w' := by
  have HR := hide3 (lastP_at h0)
  obtain ⟨ad, cap, rfl, hc, hl⟩ := h
  obtain ⟨g, o, rfl, hs⟩ : ∃ g o, ad = some ⟨g, o, none⟩ ∧ ∀ i (h : i < L.length), StIn w g (o + i) L[i] := by
    rcases hl with h | h
    · rw [h] at h0; simp at h0
    · exact h
  obtain ⟨c0, c1⟩ := hs (L.length - 1) (by omega)
  rw [← HR.out] at c0
  clear hl hs
  obtain ⟨k, hk⟩ : ∃ k, L.length = k + 1 := ⟨L.length - 1, by omega⟩
  rw [hk] at c0 hc hz ⊢
  rw [Nat.add_sub_cancel] at c0
  clear h0 hk HR
  generalize lastP L = s at *
  go_enter Tryz.func65, Tryz.ntmps65
  go_wp2
  go_ret
  exact ⟨rfl, Below.refl _ _⟩

theorem above_any {ad : Option Addr} {n cap : Nat} (h0 : 0 < n) (hc : n ≤ cap) (hz : n ≤ 9223372036854775807) (w : World) :
    Calls Tryz.prog 67 #[.slice ad n cap] w fun e w' => e = .returned (.slice ad (n - 1) cap) ∧ Below w.heap.size w w' := by
  obtain ⟨k, rfl⟩ : ∃ k, n = k + 1 := ⟨n - 1, by omega⟩
  have hk : k ≤ cap := by omega
  rw [Nat.add_sub_cancel]
  go_enter Tryz.func67, Tryz.ntmps67
  go_wp2
  go_ret
  exact ⟨rfl, Below.refl _ _⟩

/-- The package of the root's directory. -/
def zeroPg : Pg := ⟨⟨#[]⟩, 0, 0, 0, [], [], []⟩
theorem deps_nil (w : World) : DepsAt w (.slice none 0 0) [] := ⟨none, 0, rfl, Nat.le_refl _, Or.inl rfl⟩
theorem zero_at (w : World) : PgAt w zeroPg (.slice none 0 0) (.slice none 0 0) (.slice none 0 0) := ⟨deps_nil w, deps_nil w, deps_nil w⟩
/-- A directory's package is not too great. -/
def PgZ (P : Pg) : Prop := P.d.length ≤ 9223372036854775807 ∧ P.p.length ≤ 9223372036854775807 ∧ P.o.length ≤ 9223372036854775807

/-- The root's directory. -/
noncomputable def rootB (d : Dr) : Bool := decide (d.pa.length = 0) && decide (d.nd = 0) && eqB d.pk zeroPg

/-- A directory's variable. -/
def BxDr (w : World) (N : Nat) (u : Value) (s : ByteArray) (a b c : Int) (v1 v2 v3 : Value) (nd : Int) : Prop :=
  (w.cell? ⟨N, 0, none⟩ = some u ∧ w.cell? ⟨N, 1, none⟩ = some (.string s) ∧ w.cell? ⟨N, 2, none⟩ = some (.int .i64 a) ∧ w.cell? ⟨N, 3, none⟩ = some (.int .i64 b) ∧ w.cell? ⟨N, 4, none⟩ = some (.int .i64 c) ∧ w.cell? ⟨N, 5, none⟩ = some v1 ∧ w.cell? ⟨N, 6, none⟩ = some v2 ∧ w.cell? ⟨N, 7, none⟩ = some v3 ∧ w.cell? ⟨N, 8, none⟩ = some (.int .i64 nd)) ∧ N < w.heap.size
theorem keepBxDr (N : Nat) (u : Value) (s : ByteArray) (a b c : Int) (v1 v2 v3 : Value) (nd : Int) : KeepP fun w1 => BxDr w1 N u s a b c v1 v2 v3 nd := fun w w' h hb => by
  obtain ⟨⟨h0, h1, h2, h3, h4, h5, h6, h7, h8⟩, hg⟩ := h
  have q : ∀ i, w'.cell? ⟨N, i, none⟩ = w.cell? ⟨N, i, none⟩ := fun i => hb.cell (p := ⟨N, i, none⟩) hg
  exact ⟨⟨by rw [q]; exact h0, by rw [q]; exact h1, by rw [q]; exact h2, by rw [q]; exact h3, by rw [q]; exact h4, by rw [q]; exact h5, by rw [q]; exact h6, by rw [q]; exact h7, by rw [q]; exact h8⟩, Nat.lt_of_lt_of_le hg hb.size⟩
theorem BxDr.new {w : World} {N : Nat} (hN : w.heap.size = N) (u : Value) (s : ByteArray) (a b c : Int) (v1 v2 v3 : Value) (nd : Int) : BxDr (w.alloc (.cells #[u, .string s, .int .i64 a, .int .i64 b, .int .i64 c, v1, v2, v3, .int .i64 nd] 64)) N u s a b c v1 v2 v3 nd := by
  subst hN
  refine ⟨⟨?_, ?_, ?_, ?_, ?_, ?_, ?_, ?_, ?_⟩, ?_⟩ <;> simp

set_option maxHeartbeats 1600000 in
theorem tMayRoot_any {d : Dr} {u v1 v2 v3 : Value} {w : World} (hu : PathAt w u d.pa) (hp : PgAt w d.pk v1 v2 v3) (hz : PgZ d.pk) :
    Calls Tryz.prog 52 #[.agg #[u, .string d.pk.nm, .int .i64 d.pk.a, .int .i64 d.pk.b, .int .i64 d.pk.c, v1, v2, v3, .int .i64 d.nd]] w fun e w' => e = .returned (.bool (rootB d)) ∧ Below w.heap.size w w' := by
  have HS : Hid (∀ w1, Below w.heap.size w w1 → Calls Tryz.prog 63 #[.agg #[.string d.pk.nm, .int .i64 d.pk.a, .int .i64 d.pk.b, .int .i64 d.pk.c, v1, v2, v3], .agg #[.string ⟨#[]⟩, .int .i64 0, .int .i64 0, .int .i64 0, .slice none 0 0, .slice none 0 0, .slice none 0 0]] w1 fun e w' => e = .returned (.bool (eqB d.pk zeroPg)) ∧ Below w1.heap.size w1 w') := fun w1 hb => Same_any (hp.below hb) (zero_at w1) hz.1 hz.2.1 hz.2.2
  have HRB : Hid (rootB d = (decide (d.pa.length = 0) && decide (d.nd = 0) && eqB d.pk zeroPg)) := rfl
  obtain ⟨ua, uc, rfl⟩ := hu.sl
  obtain ⟨a1, c1, rfl⟩ := hp.1.sl
  obtain ⟨a2, c2, rfl⟩ := hp.2.1.sl
  obtain ⟨a3, c3, rfl⟩ := hp.2.2.sl
  clear hu hp hz
  generalize rootB d = rb at *
  generalize eqB d.pk zeroPg = eb at *
  generalize d.pk.d.length = l1 at *
  generalize d.pk.p.length = l2 at *
  generalize d.pk.o.length = l3 at *
  generalize d.pa.length = n at *
  generalize d.pk.nm = s at *
  generalize d.pk.a = a at *
  generalize d.pk.b = b at *
  generalize d.pk.c = c at *
  generalize d.nd = nd at *
  by_cases hn : n = 0
  · subst hn
    by_cases hd : nd = 0
    · subst hd
      go_enter Tryz.func52, Tryz.ntmps52
      go_wp2_with (go_at_call 63; refine (HS.out _ (boxB _ _)).mono ?_; rintro e w1 ⟨rfl, ok⟩)
      go_ret
      exact ⟨ret_bool (by rw [HRB.out]; simp), below_then (boxB _ _) ok⟩
    · have hdi : (nd == 0) = false := by rw [beq_eq_false_iff_ne]; exact hd
      go_enter Tryz.func52, Tryz.ntmps52
      go_wp2
      go_ret
      exact ⟨ret_bool (by rw [HRB.out, decide_eq_false hd]; simp), boxB _ _⟩
  · have hni : ((n : Int) == 0) = false := by rw [beq_eq_false_iff_ne]; omega
    go_enter Tryz.func52, Tryz.ntmps52
    go_wp2
    go_ret
    exact ⟨ret_bool (by rw [HRB.out, decide_eq_false hn]; simp), boxB _ _⟩

/-- A directory other than the root may stand behind those ahead of it. -/
noncomputable def follD (A : List Dr) (d : Dr) : Bool := mayPaB d.pa && decide (0 < d.nd) && eqB d.pk.nm (lastP d.pa) && writtenB d.pk && decide (findV A d.pa < 0) && decide (0 ≤ findV A (d.pa.take (d.pa.length - 1)))
theorem mayPa_pos {L : List ByteArray} (h : mayPaB L = true) : 0 < L.length := by
  unfold mayPaB at h
  simp only [Bool.and_eq_true, decide_eq_true_eq] at h
  exact h.1.1

set_option maxHeartbeats 6400000 in
theorem tMayFollow_any {A : List Dr} {va : Value} {d : Dr} {u v1 v2 v3 : Value} {w : World} (hA : DirsAt w va A) (hAz : A.length ≤ 9223372036854775807) (hAf : FitD A) (hu : PathAt w u d.pa) (huz : d.pa.length * 16 ≤ 140737488355328) (hp : PgAt w d.pk v1 v2 v3) (he : Env w) (hf : FL w) :
    Calls Tryz.prog 53 #[.agg #[va], .agg #[u, .string d.pk.nm, .int .i64 d.pk.a, .int .i64 d.pk.b, .int .i64 d.pk.c, v1, v2, v3, .int .i64 d.nd]] w fun e w' => e = .returned (.bool (follD A d)) ∧ Below w.heap.size w w' := by
  have HRB : Hid (follD A d = (mayPaB d.pa && decide (0 < d.nd) && eqB d.pk.nm (lastP d.pa) && writtenB d.pk && decide (findV A d.pa < 0) && decide (0 ≤ findV A (d.pa.take (d.pa.length - 1))))) := rfl
  have HMP : Hid (∀ w1, Below w.heap.size w w1 → Calls Tryz.prog 64 #[u] w1 fun e w' => e = .returned (.bool (mayPaB d.pa)) ∧ Below w1.heap.size w1 w') := fun w1 hb => tMayPath_any (hu.below hb) huz
  have HMY : Hid (∀ w1, Below w.heap.size w w1 → Calls Tryz.prog 66 #[.agg #[.string d.pk.nm, .int .i64 d.pk.a, .int .i64 d.pk.b, .int .i64 d.pk.c, v1, v2, v3]] w1 fun e w' => e = .returned (.bool (writtenB d.pk)) ∧ Below w1.heap.size w1 w') := fun w1 hb => pMay_any (hp.below hb) (he.below hb) (hf.below hb)
  have HLA : Hid (mayPaB d.pa = true → ∀ w1, Below w.heap.size w w1 → Calls Tryz.prog 65 #[u] w1 fun e w' => e = .returned (.string (lastP d.pa)) ∧ Below w1.heap.size w1 w') := fun h w1 hb => last_any (hu.below hb) (mayPa_pos h) (by omega)
  have HF1 : Hid (∀ w1, Below w.heap.size w w1 → Calls Tryz.prog 43 #[.agg #[va], u] w1 fun e w' => e = .returned (.int .i64 (findV A d.pa)) ∧ Below w1.heap.size w1 w') := fun w1 hb => tFind_any (hA.below hb) hAz hAf (hu.below hb)
  obtain ⟨ua, uc, rfl, huc, hus⟩ := hu
  have HAB : Hid (mayPaB d.pa = true → ∀ w1, Calls Tryz.prog 67 #[.slice ua d.pa.length uc] w1 fun e w' => e = .returned (.slice ua (d.pa.length - 1) uc) ∧ Below w1.heap.size w1 w') := fun h w1 => above_any (mayPa_pos h) huc (by omega) w1
  have HF2 : Hid (∀ w1, Below w.heap.size w w1 → Calls Tryz.prog 43 #[.agg #[va], .slice ua (d.pa.length - 1) uc] w1 fun e w' => e = .returned (.int .i64 (findV A (d.pa.take (d.pa.length - 1)))) ∧ Below w1.heap.size w1 w') := fun w1 hb => tFind_any (hA.below hb) hAz hAf ((PathAt.cut (n := d.pa.length) ⟨_, _, rfl, huc, hus⟩ (Nat.sub_le _ _)).below hb)
  obtain ⟨aa, ac, rfl, hax⟩ := hA.sl
  obtain ⟨a1, c1, rfl⟩ := hp.1.sl
  obtain ⟨a2, c2, rfl⟩ := hp.2.1.sl
  obtain ⟨a3, c3, rfl⟩ := hp.2.2.sl
  have HG1 := hide3 (findV_ge A d.pa)
  have HG2 := hide3 (findV_ge A (d.pa.take (d.pa.length - 1)))
  clear hp he hf hA hAz hAf huz hax hus huc
  generalize follD A d = rb at *
  generalize findV A (d.pa.take (d.pa.length - 1)) = f2 at *
  generalize findV A d.pa = f1 at *
  generalize writtenB d.pk = b4 at *
  generalize mayPaB d.pa = b1 at *
  generalize lastP d.pa = ls at *
  generalize d.pk.d.length = l1 at *
  generalize d.pk.p.length = l2 at *
  generalize d.pk.o.length = l3 at *
  generalize d.pa.length - 1 = n1 at *
  generalize d.pa.length = n at *
  generalize d.pk.nm = s at *
  generalize d.pk.a = a at *
  generalize d.pk.b = b at *
  generalize d.pk.c = c at *
  generalize d.nd = nd at *
  generalize A.length = m at *
  have HK : Hid (KeepP fun w1 => Below w.heap.size w w1 ∧ BxT w1 w.heap.size (.slice aa m ac) ∧ BxDr w1 (w.heap.size + 1) (.slice ua n uc) s a b c (.slice a1 l1 c1) (.slice a2 l2 c2) (.slice a3 l3 c3) nd) := (keepBelow w).and ((keepBxT _ _).and (keepBxDr _ _ _ _ _ _ _ _ _ _))
  have HO : Hid (Below w.heap.size w ((w.alloc (.cells #[.slice aa m ac] 67)).alloc (.cells #[.slice ua n uc, .string s, .int .i64 a, .int .i64 b, .int .i64 c, .slice a1 l1 c1, .slice a2 l2 c2, .slice a3 l3 c3, .int .i64 nd] 64)) ∧ BxT ((w.alloc (.cells #[.slice aa m ac] 67)).alloc (.cells #[.slice ua n uc, .string s, .int .i64 a, .int .i64 b, .int .i64 c, .slice a1 l1 c1, .slice a2 l2 c2, .slice a3 l3 c3, .int .i64 nd] 64)) w.heap.size (.slice aa m ac) ∧ BxDr ((w.alloc (.cells #[.slice aa m ac] 67)).alloc (.cells #[.slice ua n uc, .string s, .int .i64 a, .int .i64 b, .int .i64 c, .slice a1 l1 c1, .slice a2 l2 c2, .slice a3 l3 c3, .int .i64 nd] 64)) (w.heap.size + 1) (.slice ua n uc) s a b c (.slice a1 l1 c1) (.slice a2 l2 c2) (.slice a3 l3 c3) nd) := ⟨boxB2 _ _ _, keepBxT _ _ _ _ (BxT.new _ _) (boxB _ _), BxDr.new (by simp) _ _ _ _ _ _ _ _ _⟩
  cases b1
  · have q1 : True := trivial
    go_enter Tryz.func53, Tryz.ntmps53
    go_wp2_with fail
    refine wp_region_keep HK.out (by kernel_rfl) (by kernel_rfl) (by first | exact HO.out | exact HK.out.drew HO.out) ?_
    intro C hin hout
    have HIN := hide3 hin
    have HOUT := hide3 hout
    clear hin hout HO
    repeat
      (with_reducible refine wpQuiet_step (fun K hK => ?_)
       go_simp
       first
         | (refine hK _ ?_; clear hK K)
         | (apply Exists.intro; refine ⟨fun w1 hC => ?_, hK _ ?_⟩; (focus ((first | (go_at_call 64; with_reducible exact callC' HIN.out HOUT.out HK.out (fun w1 hk => HMP.out w1 hk.1) w1 hC) | (go_at_call 66; with_reducible exact callC' HIN.out HOUT.out HK.out (fun w1 hk => HMY.out w1 hk.1) w1 hC) | (go_at_call 43; with_reducible exact callC' HIN.out HOUT.out HK.out (fun w1 hk => HF2.out w1 hk.1) w1 hC) | (go_at_call 43; with_reducible exact callC' HIN.out HOUT.out HK.out (fun w1 hk => HF1.out w1 hk.1) w1 hC) | (exact rfl) | (obtain ⟨hb1, ⟨x0, x1⟩, ⟨⟨y0, y1, y2, y3, y4, y5, y6, y7, y8⟩, y9⟩⟩ := HOUT.out w1 hC; clear hC; go_simp; first | done | exact rfl)); done)); clear hK K))
    refine wpQuiet_nil ?_
    intro wn hC
    have HO := hide3 (HOUT.out _ hC)
    clear hC HIN HOUT C
    obtain ⟨hb1, ⟨x0, x1⟩, ⟨⟨y0, y1, y2, y3, y4, y5, y6, y7, y8⟩, y9⟩⟩ := HO.out
    go_wp2
    go_ret
    exact ⟨ret_bool (by rw [HRB.out]; simp), HO.out.1⟩
  · have HLA2 := hide3 (HLA.out rfl)
    have HAB2 := hide3 (HAB.out rfl)
    by_cases hd : 0 < nd
    · have hd2 : decide (nd > 0) = true := decide_eq_true hd
      by_cases h3 : s = ls
      · have q3 : (s.toList == ls.toList) = true := by rw [h3]; simp
        have q3b : (s.toList = ls.toList) = True := by rw [h3]; simp
        have HE3 : Hid (eqB s ls = true) := eqB_yes h3
        rw [HE3.out, decide_eq_true hd] at HRB
        clear h3 HE3
        cases b4
        · go_enter Tryz.func53, Tryz.ntmps53
          go_wp2_with fail
          refine wp_region_keep HK.out (by kernel_rfl) (by kernel_rfl) (by first | exact HO.out | exact HK.out.drew HO.out) ?_
          intro C hin hout
          have HIN := hide3 hin
          have HOUT := hide3 hout
          clear hin hout HO
          repeat
            (with_reducible refine wpQuiet_step (fun K hK => ?_)
             go_simp
             first
               | (refine hK _ ?_; clear hK K)
               | (apply Exists.intro; refine ⟨fun w1 hC => ?_, hK _ ?_⟩; (focus ((first | (go_at_call 64; with_reducible exact callC' HIN.out HOUT.out HK.out (fun w1 hk => HMP.out w1 hk.1) w1 hC) | (go_at_call 65; with_reducible exact callC' HIN.out HOUT.out HK.out (fun w1 hk => HLA2.out w1 hk.1) w1 hC) | (go_at_call 66; with_reducible exact callC' HIN.out HOUT.out HK.out (fun w1 hk => HMY.out w1 hk.1) w1 hC) | (go_at_call 67; with_reducible exact callC HIN.out HOUT.out HK.out HAB2.out w1 hC) | (go_at_call 43; with_reducible exact callC' HIN.out HOUT.out HK.out (fun w1 hk => HF2.out w1 hk.1) w1 hC) | (go_at_call 43; with_reducible exact callC' HIN.out HOUT.out HK.out (fun w1 hk => HF1.out w1 hk.1) w1 hC) | (exact rfl) | (obtain ⟨hb1, ⟨x0, x1⟩, ⟨⟨y0, y1, y2, y3, y4, y5, y6, y7, y8⟩, y9⟩⟩ := HOUT.out w1 hC; clear hC; go_simp; first | done | exact rfl)); done)); clear hK K))
          refine wpQuiet_nil ?_
          intro wn hC
          have HO := hide3 (HOUT.out _ hC)
          clear hC HIN HOUT C
          obtain ⟨hb1, ⟨x0, x1⟩, ⟨⟨y0, y1, y2, y3, y4, y5, y6, y7, y8⟩, y9⟩⟩ := HO.out
          go_wp2
          go_ret
          exact ⟨ret_bool (by rw [HRB.out]; simp), HO.out.1⟩
        · rcases (show f1 = -1 ∨ 0 ≤ f1 by have := HG1.out; omega) with h5 | h5
          · subst h5
            rcases (show f2 = -1 ∨ 0 ≤ f2 by have := HG2.out; omega) with h6 | h6
            · subst h6
              go_enter Tryz.func53, Tryz.ntmps53
              go_wp2_with fail
              refine wp_region_keep HK.out (by kernel_rfl) (by kernel_rfl) (by first | exact HO.out | exact HK.out.drew HO.out) ?_
              intro C hin hout
              have HIN := hide3 hin
              have HOUT := hide3 hout
              clear hin hout HO
              repeat
                (with_reducible refine wpQuiet_step (fun K hK => ?_)
                 go_simp
                 first
                   | (refine hK _ ?_; clear hK K)
                   | (apply Exists.intro; refine ⟨fun w1 hC => ?_, hK _ ?_⟩; (focus ((first | (go_at_call 64; with_reducible exact callC' HIN.out HOUT.out HK.out (fun w1 hk => HMP.out w1 hk.1) w1 hC) | (go_at_call 65; with_reducible exact callC' HIN.out HOUT.out HK.out (fun w1 hk => HLA2.out w1 hk.1) w1 hC) | (go_at_call 66; with_reducible exact callC' HIN.out HOUT.out HK.out (fun w1 hk => HMY.out w1 hk.1) w1 hC) | (go_at_call 67; with_reducible exact callC HIN.out HOUT.out HK.out HAB2.out w1 hC) | (go_at_call 43; with_reducible exact callC' HIN.out HOUT.out HK.out (fun w1 hk => HF2.out w1 hk.1) w1 hC) | (go_at_call 43; with_reducible exact callC' HIN.out HOUT.out HK.out (fun w1 hk => HF1.out w1 hk.1) w1 hC) | (exact rfl) | (obtain ⟨hb1, ⟨x0, x1⟩, ⟨⟨y0, y1, y2, y3, y4, y5, y6, y7, y8⟩, y9⟩⟩ := HOUT.out w1 hC; clear hC; go_simp; first | done | exact rfl)); done)); clear hK K))
              refine wpQuiet_nil ?_
              intro wn hC
              have HO := hide3 (HOUT.out _ hC)
              clear hC HIN HOUT C
              obtain ⟨hb1, ⟨x0, x1⟩, ⟨⟨y0, y1, y2, y3, y4, y5, y6, y7, y8⟩, y9⟩⟩ := HO.out
              go_wp2
              go_ret
              exact ⟨ret_bool (by rw [HRB.out]; simp), HO.out.1⟩
            · have q6 : decide (f2 ≥ 0) = true := decide_eq_true h6
              rw [decide_eq_true h6] at HRB
              go_enter Tryz.func53, Tryz.ntmps53
              go_wp2_with fail
              refine wp_region_keep HK.out (by kernel_rfl) (by kernel_rfl) (by first | exact HO.out | exact HK.out.drew HO.out) ?_
              intro C hin hout
              have HIN := hide3 hin
              have HOUT := hide3 hout
              clear hin hout HO
              repeat
                (with_reducible refine wpQuiet_step (fun K hK => ?_)
                 go_simp
                 first
                   | (refine hK _ ?_; clear hK K)
                   | (apply Exists.intro; refine ⟨fun w1 hC => ?_, hK _ ?_⟩; (focus ((first | (go_at_call 64; with_reducible exact callC' HIN.out HOUT.out HK.out (fun w1 hk => HMP.out w1 hk.1) w1 hC) | (go_at_call 65; with_reducible exact callC' HIN.out HOUT.out HK.out (fun w1 hk => HLA2.out w1 hk.1) w1 hC) | (go_at_call 66; with_reducible exact callC' HIN.out HOUT.out HK.out (fun w1 hk => HMY.out w1 hk.1) w1 hC) | (go_at_call 67; with_reducible exact callC HIN.out HOUT.out HK.out HAB2.out w1 hC) | (go_at_call 43; with_reducible exact callC' HIN.out HOUT.out HK.out (fun w1 hk => HF2.out w1 hk.1) w1 hC) | (go_at_call 43; with_reducible exact callC' HIN.out HOUT.out HK.out (fun w1 hk => HF1.out w1 hk.1) w1 hC) | (exact rfl) | (obtain ⟨hb1, ⟨x0, x1⟩, ⟨⟨y0, y1, y2, y3, y4, y5, y6, y7, y8⟩, y9⟩⟩ := HOUT.out w1 hC; clear hC; go_simp; first | done | exact rfl)); done)); clear hK K))
              refine wpQuiet_nil ?_
              intro wn hC
              have HO := hide3 (HOUT.out _ hC)
              clear hC HIN HOUT C
              obtain ⟨hb1, ⟨x0, x1⟩, ⟨⟨y0, y1, y2, y3, y4, y5, y6, y7, y8⟩, y9⟩⟩ := HO.out
              go_wp2
              go_ret
              exact ⟨ret_bool (by rw [HRB.out]; simp), HO.out.1⟩
          · have q5 : decide (f1 < 0) = false := decide_eq_false (by omega)
            have q5b : (f1 < 0) = False := eq_false (by omega)
            rw [q5] at HRB
            go_enter Tryz.func53, Tryz.ntmps53
            go_wp2_with fail
            refine wp_region_keep HK.out (by kernel_rfl) (by kernel_rfl) (by first | exact HO.out | exact HK.out.drew HO.out) ?_
            intro C hin hout
            have HIN := hide3 hin
            have HOUT := hide3 hout
            clear hin hout HO
            repeat
              (with_reducible refine wpQuiet_step (fun K hK => ?_)
               go_simp
               first
                 | (refine hK _ ?_; clear hK K)
                 | (apply Exists.intro; refine ⟨fun w1 hC => ?_, hK _ ?_⟩; (focus ((first | (go_at_call 64; with_reducible exact callC' HIN.out HOUT.out HK.out (fun w1 hk => HMP.out w1 hk.1) w1 hC) | (go_at_call 65; with_reducible exact callC' HIN.out HOUT.out HK.out (fun w1 hk => HLA2.out w1 hk.1) w1 hC) | (go_at_call 66; with_reducible exact callC' HIN.out HOUT.out HK.out (fun w1 hk => HMY.out w1 hk.1) w1 hC) | (go_at_call 67; with_reducible exact callC HIN.out HOUT.out HK.out HAB2.out w1 hC) | (go_at_call 43; with_reducible exact callC' HIN.out HOUT.out HK.out (fun w1 hk => HF2.out w1 hk.1) w1 hC) | (go_at_call 43; with_reducible exact callC' HIN.out HOUT.out HK.out (fun w1 hk => HF1.out w1 hk.1) w1 hC) | (exact rfl) | (obtain ⟨hb1, ⟨x0, x1⟩, ⟨⟨y0, y1, y2, y3, y4, y5, y6, y7, y8⟩, y9⟩⟩ := HOUT.out w1 hC; clear hC; go_simp; first | done | exact rfl)); done)); clear hK K))
            refine wpQuiet_nil ?_
            intro wn hC
            have HO := hide3 (HOUT.out _ hC)
            clear hC HIN HOUT C
            obtain ⟨hb1, ⟨x0, x1⟩, ⟨⟨y0, y1, y2, y3, y4, y5, y6, y7, y8⟩, y9⟩⟩ := HO.out
            go_wp2
            go_ret
            exact ⟨ret_bool (by rw [HRB.out]; simp), HO.out.1⟩
      · have q3 : (s.toList == ls.toList) = false := by rw [beq_eq_false_iff_ne]; exact fun e => h3 (bytes_same e)
        have q3b : (s.toList = ls.toList) = False := eq_false fun e => h3 (bytes_same e)
        have HE3 : Hid (eqB s ls = false) := eqB_no h3
        rw [HE3.out] at HRB
        clear h3 HE3
        go_enter Tryz.func53, Tryz.ntmps53
        go_wp2_with fail
        refine wp_region_keep HK.out (by kernel_rfl) (by kernel_rfl) (by first | exact HO.out | exact HK.out.drew HO.out) ?_
        intro C hin hout
        have HIN := hide3 hin
        have HOUT := hide3 hout
        clear hin hout HO
        repeat
          (with_reducible refine wpQuiet_step (fun K hK => ?_)
           go_simp
           first
             | (refine hK _ ?_; clear hK K)
             | (apply Exists.intro; refine ⟨fun w1 hC => ?_, hK _ ?_⟩; (focus ((first | (go_at_call 64; with_reducible exact callC' HIN.out HOUT.out HK.out (fun w1 hk => HMP.out w1 hk.1) w1 hC) | (go_at_call 65; with_reducible exact callC' HIN.out HOUT.out HK.out (fun w1 hk => HLA2.out w1 hk.1) w1 hC) | (go_at_call 66; with_reducible exact callC' HIN.out HOUT.out HK.out (fun w1 hk => HMY.out w1 hk.1) w1 hC) | (go_at_call 67; with_reducible exact callC HIN.out HOUT.out HK.out HAB2.out w1 hC) | (go_at_call 43; with_reducible exact callC' HIN.out HOUT.out HK.out (fun w1 hk => HF2.out w1 hk.1) w1 hC) | (go_at_call 43; with_reducible exact callC' HIN.out HOUT.out HK.out (fun w1 hk => HF1.out w1 hk.1) w1 hC) | (exact rfl) | (obtain ⟨hb1, ⟨x0, x1⟩, ⟨⟨y0, y1, y2, y3, y4, y5, y6, y7, y8⟩, y9⟩⟩ := HOUT.out w1 hC; clear hC; go_simp; first | done | exact rfl)); done)); clear hK K))
        refine wpQuiet_nil ?_
        intro wn hC
        have HO := hide3 (HOUT.out _ hC)
        clear hC HIN HOUT C
        obtain ⟨hb1, ⟨x0, x1⟩, ⟨⟨y0, y1, y2, y3, y4, y5, y6, y7, y8⟩, y9⟩⟩ := HO.out
        go_wp2
        go_ret
        exact ⟨ret_bool (by rw [HRB.out]; simp), HO.out.1⟩
    · have hd2 : decide (nd > 0) = false := decide_eq_false hd
      rw [decide_eq_false hd] at HRB
      go_enter Tryz.func53, Tryz.ntmps53
      go_wp2_with fail
      refine wp_region_keep HK.out (by kernel_rfl) (by kernel_rfl) (by first | exact HO.out | exact HK.out.drew HO.out) ?_
      intro C hin hout
      have HIN := hide3 hin
      have HOUT := hide3 hout
      clear hin hout HO
      repeat
        (with_reducible refine wpQuiet_step (fun K hK => ?_)
         go_simp
         first
           | (refine hK _ ?_; clear hK K)
           | (apply Exists.intro; refine ⟨fun w1 hC => ?_, hK _ ?_⟩; (focus ((first | (go_at_call 64; with_reducible exact callC' HIN.out HOUT.out HK.out (fun w1 hk => HMP.out w1 hk.1) w1 hC) | (go_at_call 65; with_reducible exact callC' HIN.out HOUT.out HK.out (fun w1 hk => HLA2.out w1 hk.1) w1 hC) | (go_at_call 66; with_reducible exact callC' HIN.out HOUT.out HK.out (fun w1 hk => HMY.out w1 hk.1) w1 hC) | (go_at_call 67; with_reducible exact callC HIN.out HOUT.out HK.out HAB2.out w1 hC) | (go_at_call 43; with_reducible exact callC' HIN.out HOUT.out HK.out (fun w1 hk => HF2.out w1 hk.1) w1 hC) | (go_at_call 43; with_reducible exact callC' HIN.out HOUT.out HK.out (fun w1 hk => HF1.out w1 hk.1) w1 hC) | (exact rfl) | (obtain ⟨hb1, ⟨x0, x1⟩, ⟨⟨y0, y1, y2, y3, y4, y5, y6, y7, y8⟩, y9⟩⟩ := HOUT.out w1 hC; clear hC; go_simp; first | done | exact rfl)); done)); clear hK K))
      refine wpQuiet_nil ?_
      intro wn hC
      have HO := hide3 (HOUT.out _ hC)
      clear hC HIN HOUT C
      obtain ⟨hb1, ⟨x0, x1⟩, ⟨⟨y0, y1, y2, y3, y4, y5, y6, y7, y8⟩, y9⟩⟩ := HO.out
      go_wp2
      go_ret
      exact ⟨ret_bool (by rw [HRB.out]; simp), HO.out.1⟩
end Go.Proofs.YtogpkhpephhbiaaGreatDoor
namespace Go.Proofs.YtogpkhpephhbiaaGreatDoor
open Go.RowKit
set_option maxRecDepth 100000

/-- A directory at a place behind the root's. -/
noncomputable def follI (L : List Dr) (i : Nat) : Bool := match L[i]? with
  | some d => follD (L.take i) d
  | none => true
theorem follI_at {L : List Dr} {i : Nat} (h : i < L.length) : follI L i = follD (L.take i) L[i] := by
  unfold follI
  rw [List.getElem?_eq_getElem h]
noncomputable def rootL : List Dr → Bool
  | [] => false
  | d :: _ => rootB d
theorem rootL_at {L : List Dr} (h : 0 < L.length) : rootL L = rootB L[0] := by
  cases L with
  | nil => simp at h
  | cons d L => rfl
/-- A tree may be. -/
noncomputable def checkB (L : List Dr) : Bool := (decide (0 < L.length) && decide (L.length ≤ 257)) && (rootL L && (List.range L.length).all fun i => decide (i = 0) || follI L i)
theorem checkB_iff {L : List Dr} : checkB L = true ↔ (0 < L.length ∧ L.length ≤ 257) ∧ rootL L = true ∧ ∀ i, i < L.length → i ≠ 0 → follI L i = true := by
  unfold checkB
  simp only [Bool.and_eq_true, decide_eq_true_eq, List.all_eq_true, List.mem_range, Bool.or_eq_true]
  exact ⟨fun ⟨h1, h2, h3⟩ => ⟨h1, h2, fun i hi h0 => (h3 i hi).resolve_left h0⟩, fun ⟨h1, h2, h3⟩ => ⟨h1, h2, fun i hi => (Nat.eq_zero_or_pos i).imp id fun h => h3 i hi (by omega)⟩⟩
theorem checkB_no {L : List Dr} (h : ¬ ((0 < L.length ∧ L.length ≤ 257) ∧ rootL L = true ∧ ∀ i, i < L.length → i ≠ 0 → follI L i = true)) : checkB L = false := by
  cases hc : checkB L with
  | false => rfl
  | true => exact absurd (checkB_iff.1 hc) h
/-- Directories that are not too great. -/
def DrsOk (L : List Dr) : Prop := FitP1 L ∧ ∀ d ∈ L, PgZ d.pk
theorem FitD.take {L : List Dr} (h : FitD L) (k : Nat) : FitD (L.take k) := fun d hd => h d (List.mem_of_mem_take hd)

/-- What Check answers. -/
def errT : Bool → Int
  | true => 0
  | false => 42

set_option maxHeartbeats 6400000 in
theorem tCheck_any {L : List Dr} {v : Value} {w : World} (h : DirsAt w v L) (hz : L.length ≤ 9223372036854775807) (hk : DrsOk L) (he : Env w) (hf : FL w) :
    Calls Tryz.prog 38 #[.agg #[v]] w fun e w' => e = .returned (.int .i64 (errT (checkB L))) ∧ Below w.heap.size w w' := by
  have HYE : Hid (checkB L = true → errT (checkB L) = 0) := fun e => by rw [e]; rfl
  have HNO : Hid (checkB L = false → errT (checkB L) = 42) := fun e => by rw [e]; rfl
  have HDA : Hid (∀ w1, Below w.heap.size w w1 → DirsAt w1 v L) := fun w1 hb => h.below hb
  obtain ⟨ad, cap, rfl, hc, hsl⟩ := h.sl
  have HMR : Hid (∀ w1, Below w.heap.size w w1 → ∀ i (hi : i < L.length) u v1 v2 v3 g o, DrIn w1 g o L[i] u v1 v2 v3 → Calls Tryz.prog 52 #[.agg #[u, .string L[i].pk.nm, .int .i64 L[i].pk.a, .int .i64 L[i].pk.b, .int .i64 L[i].pk.c, v1, v2, v3, .int .i64 L[i].nd]] w1 fun e w' => e = .returned (.bool (rootB L[i])) ∧ Below w1.heap.size w1 w') := fun w1 hb i hi u v1 v2 v3 g o hd => tMayRoot_any hd.2.1.1 hd.2.1.2 (hk.2 _ (List.getElem_mem hi))
  have HMF : Hid (∀ w1, Below w.heap.size w w1 → ∀ i (hi : i < L.length) u v1 v2 v3 g o, DrIn w1 g o L[i] u v1 v2 v3 → Calls Tryz.prog 53 #[.agg #[.slice ad i cap], .agg #[u, .string L[i].pk.nm, .int .i64 L[i].pk.a, .int .i64 L[i].pk.b, .int .i64 L[i].pk.c, v1, v2, v3, .int .i64 L[i].nd]] w1 fun e w' => e = .returned (.bool (follI L i)) ∧ Below w1.heap.size w1 w') := fun w1 hb i hi u v1 v2 v3 g o hd => by
    rw [follI_at hi]
    exact tMayFollow_any (DirsAt.cut (n := L.length) (HDA.out w1 hb) (by omega)) (by rw [List.length_take]; omega) (hk.1.fit.take i) hd.2.1.1 (hk.1 _ (List.getElem_mem hi)) hd.2.1.2 (he.below hb) (hf.below hb)
  have HS : Hid (∀ w1, Below w.heap.size w w1 → ∀ i (_ : i < L.length), ∃ g o, ad = some ⟨g, o, none⟩ ∧ ∃ u v1 v2 v3, DrIn w1 g (o + i * 9) L[i] u v1 v2 v3) := fun w1 hb i hi => by
    obtain ⟨g, o, e, u, v1, v2, v3, hd⟩ := hsl i hi
    exact ⟨g, o, e, u, v1, v2, v3, hd.below hb⟩
  clear h hk he hf hsl
  by_cases h0 : L.length = 0
  · have HR : Hid (checkB L = false) := checkB_no fun h => by omega
    rw [h0]
    go_enter Tryz.func38, Tryz.ntmps38
    go_wp2
    go_ret
    exact ⟨ret_int (HNO.out HR.out).symm, boxB _ _⟩
  · have hn0 : ((L.length : Int) == 0) = false := by rw [beq_eq_false_iff_ne]; omega
    by_cases h1 : 257 < L.length
    · have HR : Hid (checkB L = false) := checkB_no fun h => by omega
      have hg1 : decide ((L.length : Int) > 257) = true := decide_eq_true (by omega)
      go_enter Tryz.func38, Tryz.ntmps38
      go_wp2
      go_ret
      exact ⟨ret_int (HNO.out HR.out).symm, boxB _ _⟩
    · have hg1 : decide ((L.length : Int) > 257) = false := decide_eq_false (by omega)
      have hpos : 0 < L.length := by omega
      obtain ⟨g, o, rfl, u, v1, v2, v3, hd⟩ := HS.out _ (boxB w (.cells #[.slice ad L.length cap] 67)) 0 hpos
      have HC := hide3 (HMR.out _ (boxB w (.cells #[.slice (some ⟨g, o, none⟩) L.length cap] 67)) 0 hpos u v1 v2 v3 _ _ hd)
      have HRL := hide3 (rootL_at hpos)
      obtain ⟨⟨c0, c1, c2, c3, c4, c5, c6, c7, c8⟩, ⟨hpa, hpk⟩, hg⟩ := hd
      obtain ⟨ua, uc, rfl⟩ := hpa.sl
      obtain ⟨x1, y1, rfl⟩ := hpk.1.sl
      obtain ⟨x2, y2, rfl⟩ := hpk.2.1.sl
      obtain ⟨x3, y3, rfl⟩ := hpk.2.2.sl
      rw [Nat.zero_mul, Nat.add_zero] at c0 c1 c2 c3 c4 c5 c6 c7 c8
      generalize L[0] = d at *
      clear hpa hpk
      cases hrb : rootB d
      · have HR : Hid (checkB L = false) := checkB_no fun h => by rw [HRL.out, hrb] at h; cases h.2.1
        rw [hrb] at HC
        go_enter Tryz.func38, Tryz.ntmps38
        go_wp2_with (go_at_call 52; refine HC.out.mono ?_; rintro e w1 ⟨rfl, ok⟩)
        go_ret
        exact ⟨ret_int (HNO.out HR.out).symm, below_then (boxB _ _) ok⟩
      · rw [hrb] at HC HRL
        go_enter Tryz.func38, Tryz.ntmps38
        go_wp2_with (go_at_call 52; refine HC.out.mono ?_; rintro e w1 ⟨rfl, ok⟩; have HB1 : Hid (Below w.heap.size w w1 ∧ BxT w1 w.heap.size (.slice (some ⟨g, o, none⟩) L.length cap)) := ⟨below_then (boxB _ _) ok, keepBxT _ _ _ _ (BxT.new _ _) ok⟩; obtain ⟨_, z0, z1⟩ := HB1.out; clear ok)
        clear c0 c1 c2 c3 c4 c5 c6 c7 c8 HC hrb z0 z1 hg
        go_loopw [25] (fun i wr => ∃ k : Nat, k ≤ L.length ∧ i = .int .i64 k ∧ (Below w.heap.size w wr ∧ BxT wr w.heap.size (.slice (some ⟨g, o, none⟩) L.length cap)) ∧ ∀ j, j < k → j ≠ 0 → follI L j = true) (fun i _ => L.length - (intOf i).toNat)
        case atStart => exact ⟨0, Nat.zero_le _, rfl, HB1.out, fun j h => by omega⟩
        case round =>
          obtain ⟨k, hk, rfl, ⟨hb, bx0, bx1⟩, hall⟩ := hrel
          have HALL := hide3 hall
          have HBX : Hid (BxT wr w.heap.size (.slice (some ⟨g, o, none⟩) L.length cap)) := ⟨bx0, bx1⟩
          have HB := hide3 hb
          clear hall
          by_cases hlt : k < L.length
          · rcases Nat.eq_zero_or_pos k with hk0 | hk0
            · subst hk0
              clear bx0 bx1 hb
              have HK : Hid (KeepP fun w1 => Below w.heap.size w w1 ∧ BxT w1 w.heap.size (.slice (some ⟨g, o, none⟩) L.length cap)) := (keepBelow w).and (keepBxT _ _)
              have HO : Hid (Below w.heap.size w wr ∧ BxT wr w.heap.size (.slice (some ⟨g, o, none⟩) L.length cap)) := ⟨HB.out, HBX.out⟩
              go_wp2_with fail
              refine wp_region_keep HK.out (by kernel_rfl) (by kernel_rfl) (by first | exact HO.out | exact HK.out.drew HO.out) ?_
              intro C hin hout
              have HIN := hide3 hin
              have HOUT := hide3 hout
              clear hin hout HO
              repeat
                (with_reducible refine wpQuiet_step (fun K hK => ?_)
                 go_simp
                 first
                   | (refine hK _ ?_; clear hK K)
                   | (apply Exists.intro; refine ⟨fun w1 hC => ?_, hK _ ?_⟩; (focus ((first | (exact rfl) | (obtain ⟨hb1, ⟨b0, b1⟩⟩ := HOUT.out w1 hC; clear hC; go_simp; first | done | exact rfl)); done)); clear hK K))
              refine wpQuiet_nil ?_
              intro wn hC
              have HO := hide3 (HOUT.out _ hC)
              clear hC HIN HOUT C
              obtain ⟨hb1, ⟨b0, b1⟩⟩ := HO.out
              go_wp2
              exact ⟨⟨0 + 1, by omega, by go_num, HO.out, fun j h h2 => by omega⟩, by simp [intOf]; omega⟩
            · obtain ⟨g', o', eg, u, v1, v2, v3, hd⟩ := HS.out wr hb k hlt
              cases eg
              have HMC : Hid (∀ w1, Below w.heap.size w w1 → DrIn w1 g (o + k * 9) L[k] u v1 v2 v3 → Calls Tryz.prog 53 #[.agg #[.slice (some ⟨g, o, none⟩) k cap], .agg #[u, .string L[k].pk.nm, .int .i64 L[k].pk.a, .int .i64 L[k].pk.b, .int .i64 L[k].pk.c, v1, v2, v3, .int .i64 L[k].nd]] w1 fun e w' => e = .returned (.bool (follI L k)) ∧ Below w1.heap.size w1 w') := fun w1 hb hd => HMF.out w1 hb k hlt u v1 v2 v3 g _ hd
              have HNX : Hid (follI L k = true → ∀ j, j < k + 1 → j ≠ 0 → follI L j = true) := fun h j hj h2 => by
                rcases Nat.lt_or_ge j k with hjk | hjk
                · exact HALL.out j hjk h2
                · obtain rfl : j = k := by omega
                  exact h
              have HBD : Hid (follI L k = false → checkB L = false) := fun h => checkB_no fun hh => by have := hh.2.2 k hlt (by omega); rw [h] at this; cases this
              obtain ⟨ua', uc', rfl⟩ := hd.2.1.1.sl
              obtain ⟨p1, q1, rfl⟩ := hd.2.1.2.1.sl
              obtain ⟨p2, q2, rfl⟩ := hd.2.1.2.2.1.sl
              obtain ⟨p3, q3, rfl⟩ := hd.2.1.2.2.2.sl
              generalize L[k] = dk at *
              have HK : Hid (KeepP fun w1 => Below w.heap.size w w1 ∧ BxT w1 w.heap.size (.slice (some ⟨g, o, none⟩) L.length cap) ∧ DrIn w1 g (o + k * 9) dk (.slice ua' dk.pa.length uc') (.slice p1 dk.pk.d.length q1) (.slice p2 dk.pk.p.length q2) (.slice p3 dk.pk.o.length q3)) := (keepBelow w).and ((keepBxT _ _).and (keepDr _ _ _ _ _ _ _))
              have HO : Hid (Below w.heap.size w wr ∧ BxT wr w.heap.size (.slice (some ⟨g, o, none⟩) L.length cap) ∧ DrIn wr g (o + k * 9) dk (.slice ua' dk.pa.length uc') (.slice p1 dk.pk.d.length q1) (.slice p2 dk.pk.p.length q2) (.slice p3 dk.pk.o.length q3)) := ⟨HB.out, HBX.out, hd⟩
              have hkc : k ≤ cap := by omega
              have hki : ((k : Int) > 0) = True := eq_true (by omega)
              have hki2 : decide ((k : Int) > 0) = true := decide_eq_true (by omega)
              clear hd bx0 bx1 hb
              cases hfo : follI L k
              · have HR := hide3 (HBD.out hfo)
                rw [hfo] at HMC
                clear HNX HBD HALL
                go_wp2_with fail
                refine wp_region_keep HK.out (by kernel_rfl) (by kernel_rfl) (by first | exact HO.out | exact HK.out.drew HO.out) ?_
                intro C hin hout
                have HIN := hide3 hin
                have HOUT := hide3 hout
                clear hin hout HO
                repeat
                  (with_reducible refine wpQuiet_step (fun K hK => ?_)
                   go_simp
                   first
                     | (refine hK _ ?_; clear hK K)
                     | (apply Exists.intro; refine ⟨fun w1 hC => ?_, hK _ ?_⟩; (focus ((first | (go_at_call 53; with_reducible exact callC' HIN.out HOUT.out HK.out (fun w1 hk => HMC.out w1 hk.1 hk.2.2) w1 hC) | (exact rfl) | (obtain ⟨hb1, ⟨b0, b1⟩, ⟨⟨d0, d1, d2, d3, d4, d5, d6, d7, d8⟩, _, dg⟩⟩ := HOUT.out w1 hC; clear hC; go_simp; first | done | exact rfl)); done)); clear hK K))
                refine wpQuiet_nil ?_
                intro wn hC
                have HO := hide3 (HOUT.out _ hC)
                clear hC HIN HOUT C
                obtain ⟨hb1, ⟨b0, b1⟩, ⟨⟨d0, d1, d2, d3, d4, d5, d6, d7, d8⟩, _, dg⟩⟩ := HO.out
                go_wp2
                go_ret
                exact ⟨ret_int (HNO.out HR.out).symm, HO.out.1⟩
              · have HR := hide3 (HNX.out hfo)
                rw [hfo] at HMC
                clear HNX HBD HALL
                go_wp2_with fail
                refine wp_region_keep HK.out (by kernel_rfl) (by kernel_rfl) (by first | exact HO.out | exact HK.out.drew HO.out) ?_
                intro C hin hout
                have HIN := hide3 hin
                have HOUT := hide3 hout
                clear hin hout HO
                repeat
                  (with_reducible refine wpQuiet_step (fun K hK => ?_)
                   go_simp
                   first
                     | (refine hK _ ?_; clear hK K)
                     | (apply Exists.intro; refine ⟨fun w1 hC => ?_, hK _ ?_⟩; (focus ((first | (go_at_call 53; with_reducible exact callC' HIN.out HOUT.out HK.out (fun w1 hk => HMC.out w1 hk.1 hk.2.2) w1 hC) | (exact rfl) | (obtain ⟨hb1, ⟨b0, b1⟩, ⟨⟨d0, d1, d2, d3, d4, d5, d6, d7, d8⟩, _, dg⟩⟩ := HOUT.out w1 hC; clear hC; go_simp; first | done | exact rfl)); done)); clear hK K))
                refine wpQuiet_nil ?_
                intro wn hC
                have HO := hide3 (HOUT.out _ hC)
                clear hC HIN HOUT C
                obtain ⟨hb1, ⟨b0, b1⟩, ⟨⟨d0, d1, d2, d3, d4, d5, d6, d7, d8⟩, _, dg⟩⟩ := HO.out
                go_wp2
                exact ⟨⟨k + 1, by omega, by go_num, ⟨HO.out.1, HO.out.2.1⟩, HR.out⟩, by simp [intOf]; omega⟩
          · obtain rfl : k = L.length := by omega
            have HR : Hid (checkB L = true) := checkB_iff.2 ⟨⟨hpos, by omega⟩, HRL.out, HALL.out⟩
            clear hb
            go_wp2
            go_ret
            exact ⟨ret_int (HYE.out HR.out).symm, HB.out⟩
end Go.Proofs.YtogpkhpephhbiaaGreatDoor
namespace Go.Proofs.YtogpkhpephhbiaaGreatDoor
open Go.RowKit
set_option maxRecDepth 100000

theorem BxG.new (w : World) (v : Value) : BxT (w.alloc (.cells #[v] 76)) w.heap.size v := ⟨by simp, by simp⟩
/-- A directory has a node's package. -/
noncomputable def isOfB (d : Dr) (n : Nd) : Bool := eqB d.pk.nm n.nm && (decide (d.pk.a = n.a) && decide (d.pk.b = n.b) && decide (d.pk.c = n.c))

set_option maxHeartbeats 1600000 in
theorem isOf_any (d : Dr) (n : Nd) (ua x1 x2 x3 y1 y2 : Option Addr) (un uc l1 c1 l2 c2 l3 c3 m1 k1 m2 k2 : Nat) (w : World) :
    Calls Tryz.prog 41 #[.agg #[.slice ua un uc, .string d.pk.nm, .int .i64 d.pk.a, .int .i64 d.pk.b, .int .i64 d.pk.c, .slice x1 l1 c1, .slice x2 l2 c2, .slice x3 l3 c3, .int .i64 d.nd], .agg #[.string n.nm, .int .i64 n.a, .int .i64 n.b, .int .i64 n.c, .slice y1 m1 k1, .slice y2 m2 k2]] w fun e w' => e = .returned (.bool (isOfB d n)) ∧ Below w.heap.size w w' := by
  have HRB : Hid (isOfB d n = (eqB d.pk.nm n.nm && (decide (d.pk.a = n.a) && decide (d.pk.b = n.b) && decide (d.pk.c = n.c)))) := rfl
  have hv := eqV2 d.pk.a d.pk.b d.pk.c n.a n.b n.c
  have hgd := guardV
  generalize isOfB d n = rb at *
  by_cases hn : d.pk.nm = n.nm
  · have q1 : (d.pk.nm.toList == n.nm.toList) = true := by rw [hn]; simp
    have q2 : (d.pk.nm.toList = n.nm.toList) = True := by rw [hn]; simp
    rw [eqB_yes hn] at HRB
    clear hn
    generalize (decide (d.pk.a = n.a) && decide (d.pk.b = n.b) && decide (d.pk.c = n.c)) = xv at *
    generalize d.pk.nm = s at *
    generalize n.nm = t at *
    go_enter Tryz.func41, Tryz.ntmps41
    go_wp2
    go_ret
    exact ⟨ret_bool (by rw [HRB.out]; simp), boxB2 _ _ _⟩
  · have q1 : (d.pk.nm.toList == n.nm.toList) = false := by rw [beq_eq_false_iff_ne]; exact fun e => hn (bytes_same e)
    have q2 : (d.pk.nm.toList = n.nm.toList) = False := eq_false fun e => hn (bytes_same e)
    rw [eqB_no hn] at HRB
    clear hn
    generalize (decide (d.pk.a = n.a) && decide (d.pk.b = n.b) && decide (d.pk.c = n.c)) = xv at *
    generalize d.pk.nm = s at *
    generalize n.nm = t at *
    go_enter Tryz.func41, Tryz.ntmps41
    go_wp2
    go_ret
    exact ⟨ret_bool (by rw [HRB.out]; simp), boxB2 _ _ _⟩

/-- An edge leads to a node behind the root. -/
def toB (N : Nat) (e : Eg) : Bool := decide (0 < e.to) && decide (e.to < (N : Int))
/-- A graph has a root, and each of its edges leads to a node behind it. -/
def leadB (G : List Nd) : Bool := decide (0 < G.length) && G.all fun n => n.ed.all (toB G.length)
/-- A graph that is not too great. -/
def GrOk (G : List Nd) : Prop := G.length ≤ 9223372036854775807 ∧ ∀ n ∈ G, n.ed.length ≤ 9223372036854775807

theorem all_next {α : Type} {p : α → Bool} {L : List α} {k : Nat} (hk : k < L.length) (h : (L.take k).all p = true) (h2 : p L[k] = true) : (L.take (k + 1)).all p = true := by
  rw [List.take_succ_eq_append_getElem hk, List.all_append, h]
  simp [h2]
theorem all_not {α : Type} {p : α → Bool} {L : List α} {k : Nat} (hk : k < L.length) (h2 : p L[k] = false) : L.all p = false := by
  rw [List.all_eq_false]
  exact ⟨_, List.getElem_mem hk, by rw [h2]; simp⟩

set_option maxHeartbeats 6400000 in
theorem mayLead_any {G : List Nd} {v : Value} {w : World} (h : NodesAt w v G) (hz : GrOk G) :
    Calls Tryz.prog 39 #[.agg #[v]] w fun e w' => e = .returned (.bool (leadB G)) ∧ Below w.heap.size w w' := by
  have HNA : Hid (∀ w1, Below w.heap.size w w1 → NodesAt w1 v G) := fun w1 hb => h.below hb
  obtain ⟨ad, cap, rfl, hc, _⟩ := h
  have HZ := hide3 hz.2
  have hz1 := hz.1
  clear hz
  have HNO : Hid (∀ k (hk : k < G.length), G[k].ed.all (toB G.length) = false → leadB G = false) := fun k hk h => by
    unfold leadB
    rw [all_not (p := fun n : Nd => n.ed.all (toB G.length)) hk h]
    simp
  have HYE : Hid (G.all (fun n => n.ed.all (toB G.length)) = true → leadB G = decide (0 < G.length)) := fun h => by
    unfold leadB
    rw [h]
    simp
  go_enter Tryz.func39, Tryz.ntmps39
  go_wp2_with fail
  go_loopw [10] (fun i wr => ∃ k : Nat, k ≤ G.length ∧ i = .int .i64 k ∧ (Below w.heap.size w wr ∧ BxT wr w.heap.size (.slice ad G.length cap)) ∧ (G.take k).all (fun n => n.ed.all (toB G.length)) = true) (fun i _ => G.length - (intOf i).toNat)
  case atStart => exact ⟨0, Nat.zero_le _, rfl, ⟨boxB _ _, BxG.new _ _⟩, rfl⟩
  case round =>
    obtain ⟨k, hk, rfl, ⟨hb, bx0, bx1⟩, hall⟩ := hrel
    have HALL := hide3 hall
    have HB := hide3 hb
    obtain ⟨wa, rfl⟩ : ∃ x, x = wr := ⟨wr, rfl⟩
    have HBX : Hid (BxT wa w.heap.size (.slice ad G.length cap)) := ⟨bx0, bx1⟩
    by_cases hlt : k < G.length
    · obtain ⟨ad', cap', e, _, hcs⟩ := HNA.out wa hb
      cases e
      obtain ⟨g, o, rfl, hg, hcz⟩ : ∃ g o, ad = some ⟨g, o, none⟩ ∧ g < wa.heap.size ∧ ∀ i (h : i < G.length), ∃ vc ve, NdIn wa g (o + i * 6) G[i] vc ve := by
        rcases hcs with h | h
        · rw [h] at hlt; simp at hlt
        · exact h
      clear hcs
      obtain ⟨vc, ve, ⟨c0, c1, c2, c3, c4, c5⟩, ⟨hpn, hed⟩, hgg⟩ := hcz k hlt
      have HED : Hid (∀ w1, Below wa.heap.size wa w1 → EdgesAt w1 ve G[k].ed) := fun w1 hb => hed.below hb
      have hzk := HZ.out _ (List.getElem_mem hlt)
      have HNK := hide3 (HNO.out k hlt)
      have HNX : Hid (G[k].ed.all (toB G.length) = true → (G.take (k + 1)).all (fun n => n.ed.all (toB G.length)) = true) := fun h => all_next hlt HALL.out h
      obtain ⟨pa, pc, rfl⟩ := hpn.sl
      obtain ⟨ea, ec, rfl⟩ := hed.sl
      generalize G[k] = n at *
      clear hall hb hcz hpn hed
      obtain ⟨wb, hwb⟩ : ∃ wb, wb = wa.alloc (.cells #[.string n.nm, .int .i64 n.a, .int .i64 n.b, .int .i64 n.c, .slice pa n.cx.length pc, .slice ea n.ed.length ec] 73) := ⟨_, rfl⟩
      have HB1 : Hid (Below wa.heap.size wa wb) := by rw [hwb]; exact boxB _ _
      have hsz : wa.heap.size < wb.heap.size := by rw [hwb]; simp
      go_wp2_with fail
      rw [← hwb]
      clear c0 c1 c2 c3 c4 c5 hwb
      go_loopw [17] (fun i wx => ∃ j : Nat, j ≤ n.ed.length ∧ i = .int .i64 j ∧ Below wb.heap.size wb wx ∧ (n.ed.take j).all (toB G.length) = true) (fun i _ => n.ed.length - (intOf i).toNat)
      case atStart => exact ⟨0, Nat.zero_le _, rfl, Below.refl _ _, rfl⟩
      case round =>
        obtain ⟨j, hj, rfl, hbi, hali⟩ := hrel
        have HBI := hide3 hbi
        have HALI := hide3 hali
        have HBW : Hid (Below w.heap.size w wr) := below_then HB.out (below_then HB1.out hbi)
        have HBT : Hid (BxT wr w.heap.size (.slice (some ⟨g, o, none⟩) G.length cap)) := keepBxT _ _ _ _ HBX.out (below_then HB1.out hbi)
        obtain ⟨t0, t1⟩ := HBT.out
        clear bx0 bx1
        by_cases hlj : j < n.ed.length
        · obtain ⟨ea', ec', e, _, hcs⟩ := HED.out wr (below_then HB1.out hbi)
          cases e
          obtain ⟨eg, eo, rfl, heg, hcz⟩ : ∃ g o, ea = some ⟨g, o, none⟩ ∧ g < wr.heap.size ∧ ∀ i (h : i < n.ed.length), EgIn wr g (o + i * 2) n.ed[i] := by
            rcases hcs with h | h
            · rw [h] at hlj; simp at hlj
            · exact h
          clear hcs
          obtain ⟨⟨e0, e1⟩, _⟩ := hcz j hlj
          have HTN : Hid (toB G.length n.ed[j] = true → (n.ed.take (j + 1)).all (toB G.length) = true) := fun h => all_next hlj HALI.out h
          have HTF : Hid (toB G.length n.ed[j] = false → leadB G = false) := fun h => HNK.out (all_not hlj h)
          have HTB : Hid (toB G.length n.ed[j] = (decide (0 < n.ed[j].to) && decide (n.ed[j].to < (G.length : Int)))) := rfl
          generalize toB G.length n.ed[j] = tb at *
          generalize n.ed[j] = eg1 at *
          clear hcz hali hbi
          have t0' : (wr.alloc (.cells #[.string eg1.lb, .int .i64 eg1.to] 69)).cell? ⟨w.heap.size, 0, none⟩ = some (.slice (some ⟨g, o, none⟩) G.length cap) := ((boxB wr (.cells #[.string eg1.lb, .int .i64 eg1.to] 69)).cell (p := ⟨w.heap.size, 0, none⟩) t1).trans t0
          by_cases hq1 : eg1.to ≤ 0
          · have HR : Hid (leadB G = false) := HTF.out (by rw [HTB.out, decide_eq_false (by omega)]; rfl)
            go_wp2
            go_ret
            exact ⟨ret_bool HR.out.symm, below_then HBW.out (boxB _ _)⟩
          · by_cases hq2 : (G.length : Int) ≤ eg1.to
            · have HR : Hid (leadB G = false) := HTF.out (by rw [HTB.out, decide_eq_false (show ¬ eg1.to < (G.length : Int) by omega)]; simp)
              go_wp2
              go_ret
              exact ⟨ret_bool HR.out.symm, below_then HBW.out (boxB _ _)⟩
            · have HR := hide3 (HTN.out (by rw [HTB.out, decide_eq_true (by omega), decide_eq_true (by omega)]; rfl))
              go_wp2
              exact ⟨⟨j + 1, by omega, by go_num, below_then HBI.out (boxB _ _), HR.out⟩, by simp [intOf]; omega⟩
        · obtain rfl : j = n.ed.length := by omega
          have HR := hide3 (HNX.out (by rw [List.take_length] at hali; exact hali))
          clear hali hbi
          go_wp2
          exact ⟨⟨k + 1, by omega, by go_num, ⟨HBW.out, HBT.out⟩, HR.out⟩, by simp [intOf]; omega⟩
    · obtain rfl : k = G.length := by omega
      have HR : Hid (leadB G = decide (0 < G.length)) := HYE.out (by rw [List.take_length] at hall; exact hall)
      clear hb hall
      rcases Nat.eq_zero_or_pos G.length with h0 | h0
      · rw [h0] at HR
        go_wp2
        go_ret
        exact ⟨ret_bool (by rw [HR.out]; simp), HB.out⟩
      · have hp : decide ((G.length : Int) > 0) = true := decide_eq_true (by omega)
        rw [decide_eq_true h0] at HR
        go_wp2
        go_ret
        exact ⟨ret_bool (by rw [HR.out]), HB.out⟩
end Go.Proofs.YtogpkhpephhbiaaGreatDoor
