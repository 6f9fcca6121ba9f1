/- Tw6, Tw7, Ts1, ScLi2, ScRf1, ScRf2, ScLi3, laid in one text. -/
import Derived.Test.YtogpkhpephhbiaaGreatDoorScA
import Derived.Test.YtogpkhpephhbiaaGreatDoorMg12
namespace Go.Proofs.YtogpkhpephhbiaaGreatDoor
open Go.RowKit
set_option maxRecDepth 100000

/-- A path's last name. -/
def lastP (L : List ByteArray) : ByteArray := L.getLastD ⟨#[]⟩
theorem lastP_at {L : List ByteArray} (h : 0 < L.length) : lastP L = L[L.length - 1]'(by omega) := by
  unfold lastP
  rw [List.getLastD_eq_getLast?, List.getLast?_eq_getElem?, List.getElem?_eq_getElem (by omega)]
  rfl

theorem last_any {L : List ByteArray} {v : Value} {w : World} (h : PathAt w v L) (h0 : 0 < L.length) (hz : L.length ≤ 9223372036854775807) :
    Calls Tryz.prog 65 #[v] w fun e w' => e = .returned (.string (lastP L)) ∧ Below w.heap.size w w' := by
  have HR := hide3 (lastP_at h0)
  obtain ⟨ad, cap, rfl, hc, hl⟩ := h
  obtain ⟨g, o, rfl, hs⟩ : ∃ g o, ad = some ⟨g, o, none⟩ ∧ ∀ i (h : i < L.length), StIn w g (o + i) L[i] := by
    rcases hl with h | h
    · rw [h] at h0; simp at h0
    · exact h
  obtain ⟨c0, c1⟩ := hs (L.length - 1) (by omega)
  rw [← HR.out] at c0
  clear hl hs
  obtain ⟨k, hk⟩ : ∃ k, L.length = k + 1 := ⟨L.length - 1, by omega⟩
  rw [hk] at c0 hc hz ⊢
  rw [Nat.add_sub_cancel] at c0
  clear h0 hk HR
  generalize lastP L = s at *
  go_enter Tryz.func65, Tryz.ntmps65
  go_wp2
  go_ret
  exact ⟨rfl, Below.refl _ _⟩

theorem above_any {ad : Option Addr} {n cap : Nat} (h0 : 0 < n) (hc : n ≤ cap) (hz : n ≤ 9223372036854775807) (w : World) :
    Calls Tryz.prog 67 #[.slice ad n cap] w fun e w' => e = .returned (.slice ad (n - 1) cap) ∧ Below w.heap.size w w' := by
  obtain ⟨k, rfl⟩ : ∃ k, n = k + 1 := ⟨n - 1, by omega⟩
  have hk : k ≤ cap := by omega
  rw [Nat.add_sub_cancel]
  go_enter Tryz.func67, Tryz.ntmps67
  go_wp2
  go_ret
  exact ⟨rfl, Below.refl _ _⟩

/-- The package of the root's directory. -/
def zeroPg : Pg := ⟨⟨#[]⟩, 0, 0, 0, [], [], []⟩
theorem deps_nil (w : World) : DepsAt w (.slice none 0 0) [] := ⟨none, 0, rfl, Nat.le_refl _, Or.inl rfl⟩
theorem zero_at (w : World) : PgAt w zeroPg (.slice none 0 0) (.slice none 0 0) (.slice none 0 0) := ⟨deps_nil w, deps_nil w, deps_nil w⟩
/-- A directory's package is not too great. -/
def PgZ (P : Pg) : Prop := P.d.length ≤ 9223372036854775807 ∧ P.p.length ≤ 9223372036854775807 ∧ P.o.length ≤ 9223372036854775807

/-- The root's directory. -/
noncomputable def rootB (d : Dr) : Bool := decide (d.pa.length = 0) && decide (d.nd = 0) && eqB d.pk zeroPg

/-- A directory's variable. -/
def BxDr (w : World) (N : Nat) (u : Value) (s : ByteArray) (a b c : Int) (v1 v2 v3 : Value) (nd : Int) : Prop :=
  (w.cell? ⟨N, 0, none⟩ = some u ∧ w.cell? ⟨N, 1, none⟩ = some (.string s) ∧ w.cell? ⟨N, 2, none⟩ = some (.int .i64 a) ∧ w.cell? ⟨N, 3, none⟩ = some (.int .i64 b) ∧ w.cell? ⟨N, 4, none⟩ = some (.int .i64 c) ∧ w.cell? ⟨N, 5, none⟩ = some v1 ∧ w.cell? ⟨N, 6, none⟩ = some v2 ∧ w.cell? ⟨N, 7, none⟩ = some v3 ∧ w.cell? ⟨N, 8, none⟩ = some (.int .i64 nd)) ∧ N < w.heap.size
theorem keepBxDr (N : Nat) (u : Value) (s : ByteArray) (a b c : Int) (v1 v2 v3 : Value) (nd : Int) : KeepP fun w1 => BxDr w1 N u s a b c v1 v2 v3 nd := fun w w' h hb => by
  obtain ⟨⟨h0, h1, h2, h3, h4, h5, h6, h7, h8⟩, hg⟩ := h
  have q : ∀ i, w'.cell? ⟨N, i, none⟩ = w.cell? ⟨N, i, none⟩ := fun i => hb.cell (p := ⟨N, i, none⟩) hg
  exact ⟨⟨by rw [q]; exact h0, by rw [q]; exact h1, by rw [q]; exact h2, by rw [q]; exact h3, by rw [q]; exact h4, by rw [q]; exact h5, by rw [q]; exact h6, by rw [q]; exact h7, by rw [q]; exact h8⟩, Nat.lt_of_lt_of_le hg hb.size⟩
theorem BxDr.new {w : World} {N : Nat} (hN : w.heap.size = N) (u : Value) (s : ByteArray) (a b c : Int) (v1 v2 v3 : Value) (nd : Int) : BxDr (w.alloc (.cells #[u, .string s, .int .i64 a, .int .i64 b, .int .i64 c, v1, v2, v3, .int .i64 nd] 64)) N u s a b c v1 v2 v3 nd := by
  subst hN
  refine ⟨⟨?_, ?_, ?_, ?_, ?_, ?_, ?_, ?_, ?_⟩, ?_⟩ <;> simp

set_option maxHeartbeats 1600000 in
theorem tMayRoot_any {d : Dr} {u v1 v2 v3 : Value} {w : World} (hu : PathAt w u d.pa) (hp : PgAt w d.pk v1 v2 v3) (hz : PgZ d.pk) :
    Calls Tryz.prog 52 #[.agg #[u, .string d.pk.nm, .int .i64 d.pk.a, .int .i64 d.pk.b, .int .i64 d.pk.c, v1, v2, v3, .int .i64 d.nd]] w fun e w' => e = .returned (.bool (rootB d)) ∧ Below w.heap.size w w' := by
  have HS : Hid (∀ w1, Below w.heap.size w w1 → Calls Tryz.prog 63 #[.agg #[.string d.pk.nm, .int .i64 d.pk.a, .int .i64 d.pk.b, .int .i64 d.pk.c, v1, v2, v3], .agg #[.string ⟨#[]⟩, .int .i64 0, .int .i64 0, .int .i64 0, .slice none 0 0, .slice none 0 0, .slice none 0 0]] w1 fun e w' => e = .returned (.bool (eqB d.pk zeroPg)) ∧ Below w1.heap.size w1 w') := fun w1 hb => Same_any (hp.below hb) (zero_at w1) hz.1 hz.2.1 hz.2.2
  have HRB : Hid (rootB d = (decide (d.pa.length = 0) && decide (d.nd = 0) && eqB d.pk zeroPg)) := rfl
  obtain ⟨ua, uc, rfl⟩ := hu.sl
  obtain ⟨a1, c1, rfl⟩ := hp.1.sl
  obtain ⟨a2, c2, rfl⟩ := hp.2.1.sl
  obtain ⟨a3, c3, rfl⟩ := hp.2.2.sl
  clear hu hp hz
  generalize rootB d = rb at *
  generalize eqB d.pk zeroPg = eb at *
  generalize d.pk.d.length = l1 at *
  generalize d.pk.p.length = l2 at *
  generalize d.pk.o.length = l3 at *
  generalize d.pa.length = n at *
  generalize d.pk.nm = s at *
  generalize d.pk.a = a at *
  generalize d.pk.b = b at *
  generalize d.pk.c = c at *
  generalize d.nd = nd at *
  by_cases hn : n = 0
  · subst hn
    by_cases hd : nd = 0
    · subst hd
      go_enter Tryz.func52, Tryz.ntmps52
      go_wp2_with (go_at_call 63; refine (HS.out _ (boxB _ _)).mono ?_; rintro e w1 ⟨rfl, ok⟩)
      go_ret
      exact ⟨ret_bool (by rw [HRB.out]; simp), below_then (boxB _ _) ok⟩
    · have hdi : (nd == 0) = false := by rw [beq_eq_false_iff_ne]; exact hd
      go_enter Tryz.func52, Tryz.ntmps52
      go_wp2
      go_ret
      exact ⟨ret_bool (by rw [HRB.out, decide_eq_false hd]; simp), boxB _ _⟩
  · have hni : ((n : Int) == 0) = false := by rw [beq_eq_false_iff_ne]; omega
    go_enter Tryz.func52, Tryz.ntmps52
    go_wp2
    go_ret
    exact ⟨ret_bool (by rw [HRB.out, decide_eq_false hn]; simp), boxB _ _⟩

/-- A directory other than the root may stand behind those ahead of it. -/
noncomputable def follD (A : List Dr) (d : Dr) : Bool := mayPaB d.pa && decide (0 < d.nd) && eqB d.pk.nm (lastP d.pa) && writtenB d.pk && decide (findV A d.pa < 0) && decide (0 ≤ findV A (d.pa.take (d.pa.length - 1)))
theorem mayPa_pos {L : List ByteArray} (h : mayPaB L = true) : 0 < L.length := by
  unfold mayPaB at h
  simp only [Bool.and_eq_true, decide_eq_true_eq] at h
  exact h.1.1

set_option maxHeartbeats 6400000 in
theorem tMayFollow_any {A : List Dr} {va : Value} {d : Dr} {u v1 v2 v3 : Value} {w : World} (hA : DirsAt w va A) (hAz : A.length ≤ 9223372036854775807) (hAf : FitD A) (hu : PathAt w u d.pa) (huz : d.pa.length * 16 ≤ 140737488355328) (hp : PgAt w d.pk v1 v2 v3) (he : Env w) (hf : FL w) :
    Calls Tryz.prog 53 #[.agg #[va], .agg #[u, .string d.pk.nm, .int .i64 d.pk.a, .int .i64 d.pk.b, .int .i64 d.pk.c, v1, v2, v3, .int .i64 d.nd]] w fun e w' => e = .returned (.bool (follD A d)) ∧ Below w.heap.size w w' := by
  have HRB : Hid (follD A d = (mayPaB d.pa && decide (0 < d.nd) && eqB d.pk.nm (lastP d.pa) && writtenB d.pk && decide (findV A d.pa < 0) && decide (0 ≤ findV A (d.pa.take (d.pa.length - 1))))) := rfl
  have HMP : Hid (∀ w1, Below w.heap.size w w1 → Calls Tryz.prog 64 #[u] w1 fun e w' => e = .returned (.bool (mayPaB d.pa)) ∧ Below w1.heap.size w1 w') := fun w1 hb => tMayPath_any (hu.below hb) huz
  have HMY : Hid (∀ w1, Below w.heap.size w w1 → Calls Tryz.prog 66 #[.agg #[.string d.pk.nm, .int .i64 d.pk.a, .int .i64 d.pk.b, .int .i64 d.pk.c, v1, v2, v3]] w1 fun e w' => e = .returned (.bool (writtenB d.pk)) ∧ Below w1.heap.size w1 w') := fun w1 hb => pMay_any (hp.below hb) (he.below hb) (hf.below hb)
  have HLA : Hid (mayPaB d.pa = true → ∀ w1, Below w.heap.size w w1 → Calls Tryz.prog 65 #[u] w1 fun e w' => e = .returned (.string (lastP d.pa)) ∧ Below w1.heap.size w1 w') := fun h w1 hb => last_any (hu.below hb) (mayPa_pos h) (by omega)
  have HF1 : Hid (∀ w1, Below w.heap.size w w1 → Calls Tryz.prog 43 #[.agg #[va], u] w1 fun e w' => e = .returned (.int .i64 (findV A d.pa)) ∧ Below w1.heap.size w1 w') := fun w1 hb => tFind_any (hA.below hb) hAz hAf (hu.below hb)
  obtain ⟨ua, uc, rfl, huc, hus⟩ := hu
  have HAB : Hid (mayPaB d.pa = true → ∀ w1, Calls Tryz.prog 67 #[.slice ua d.pa.length uc] w1 fun e w' => e = .returned (.slice ua (d.pa.length - 1) uc) ∧ Below w1.heap.size w1 w') := fun h w1 => above_any (mayPa_pos h) huc (by omega) w1
  have HF2 : Hid (∀ w1, Below w.heap.size w w1 → Calls Tryz.prog 43 #[.agg #[va], .slice ua (d.pa.length - 1) uc] w1 fun e w' => e = .returned (.int .i64 (findV A (d.pa.take (d.pa.length - 1)))) ∧ Below w1.heap.size w1 w') := fun w1 hb => tFind_any (hA.below hb) hAz hAf ((PathAt.cut (n := d.pa.length) ⟨_, _, rfl, huc, hus⟩ (Nat.sub_le _ _)).below hb)
  obtain ⟨aa, ac, rfl, hax⟩ := hA.sl
  obtain ⟨a1, c1, rfl⟩ := hp.1.sl
  obtain ⟨a2, c2, rfl⟩ := hp.2.1.sl
  obtain ⟨a3, c3, rfl⟩ := hp.2.2.sl
  have HG1 := hide3 (findV_ge A d.pa)
  have HG2 := hide3 (findV_ge A (d.pa.take (d.pa.length - 1)))
  clear hp he hf hA hAz hAf huz hax hus huc
  generalize follD A d = rb at *
  generalize findV A (d.pa.take (d.pa.length - 1)) = f2 at *
  generalize findV A d.pa = f1 at *
  generalize writtenB d.pk = b4 at *
  generalize mayPaB d.pa = b1 at *
  generalize lastP d.pa = ls at *
  generalize d.pk.d.length = l1 at *
  generalize d.pk.p.length = l2 at *
  generalize d.pk.o.length = l3 at *
  generalize d.pa.length - 1 = n1 at *
  generalize d.pa.length = n at *
  generalize d.pk.nm = s at *
  generalize d.pk.a = a at *
  generalize d.pk.b = b at *
  generalize d.pk.c = c at *
  generalize d.nd = nd at *
  generalize A.length = m at *
  have HK : Hid (KeepP fun w1 => Below w.heap.size w w1 ∧ BxT w1 w.heap.size (.slice aa m ac) ∧ BxDr w1 (w.heap.size + 1) (.slice ua n uc) s a b c (.slice a1 l1 c1) (.slice a2 l2 c2) (.slice a3 l3 c3) nd) := (keepBelow w).and ((keepBxT _ _).and (keepBxDr _ _ _ _ _ _ _ _ _ _))
  have HO : Hid (Below w.heap.size w ((w.alloc (.cells #[.slice aa m ac] 67)).alloc (.cells #[.slice ua n uc, .string s, .int .i64 a, .int .i64 b, .int .i64 c, .slice a1 l1 c1, .slice a2 l2 c2, .slice a3 l3 c3, .int .i64 nd] 64)) ∧ BxT ((w.alloc (.cells #[.slice aa m ac] 67)).alloc (.cells #[.slice ua n uc, .string s, .int .i64 a, .int .i64 b, .int .i64 c, .slice a1 l1 c1, .slice a2 l2 c2, .slice a3 l3 c3, .int .i64 nd] 64)) w.heap.size (.slice aa m ac) ∧ BxDr ((w.alloc (.cells #[.slice aa m ac] 67)).alloc (.cells #[.slice ua n uc, .string s, .int .i64 a, .int .i64 b, .int .i64 c, .slice a1 l1 c1, .slice a2 l2 c2, .slice a3 l3 c3, .int .i64 nd] 64)) (w.heap.size + 1) (.slice ua n uc) s a b c (.slice a1 l1 c1) (.slice a2 l2 c2) (.slice a3 l3 c3) nd) := ⟨boxB2 _ _ _, keepBxT _ _ _ _ (BxT.new _ _) (boxB _ _), BxDr.new (by simp) _ _ _ _ _ _ _ _ _⟩
  cases b1
  · have q1 : True := trivial
    go_enter Tryz.func53, Tryz.ntmps53
    go_wp2_with fail
    refine wp_region_keep HK.out (by kernel_rfl) (by kernel_rfl) (by first | exact HO.out | exact HK.out.drew HO.out) ?_
    intro C hin hout
    have HIN := hide3 hin
    have HOUT := hide3 hout
    clear hin hout HO
    repeat
      (with_reducible refine wpQuiet_step (fun K hK => ?_)
       go_simp
       first
         | (refine hK _ ?_; clear hK K)
         | (apply Exists.intro; refine ⟨fun w1 hC => ?_, hK _ ?_⟩; (focus ((first | (go_at_call 64; with_reducible exact callC' HIN.out HOUT.out HK.out (fun w1 hk => HMP.out w1 hk.1) w1 hC) | (go_at_call 66; with_reducible exact callC' HIN.out HOUT.out HK.out (fun w1 hk => HMY.out w1 hk.1) w1 hC) | (go_at_call 43; with_reducible exact callC' HIN.out HOUT.out HK.out (fun w1 hk => HF2.out w1 hk.1) w1 hC) | (go_at_call 43; with_reducible exact callC' HIN.out HOUT.out HK.out (fun w1 hk => HF1.out w1 hk.1) w1 hC) | (exact rfl) | (obtain ⟨hb1, ⟨x0, x1⟩, ⟨⟨y0, y1, y2, y3, y4, y5, y6, y7, y8⟩, y9⟩⟩ := HOUT.out w1 hC; clear hC; go_simp; first | done | exact rfl)); done)); clear hK K))
    refine wpQuiet_nil ?_
    intro wn hC
    have HO := hide3 (HOUT.out _ hC)
    clear hC HIN HOUT C
    obtain ⟨hb1, ⟨x0, x1⟩, ⟨⟨y0, y1, y2, y3, y4, y5, y6, y7, y8⟩, y9⟩⟩ := HO.out
    go_wp2
    go_ret
    exact ⟨ret_bool (by rw [HRB.out]; simp), HO.out.1⟩
  · have HLA2 := hide3 (HLA.out rfl)
    have HAB2 := hide3 (HAB.out rfl)
    by_cases hd : 0 < nd
    · have hd2 : decide (nd > 0) = true := decide_eq_true hd
      by_cases h3 : s = ls
      · have q3 : (s.toList == ls.toList) = true := by rw [h3]; simp
        have q3b : (s.toList = ls.toList) = True := by rw [h3]; simp
        have HE3 : Hid (eqB s ls = true) := eqB_yes h3
        rw [HE3.out, decide_eq_true hd] at HRB
        clear h3 HE3
        cases b4
        · go_enter Tryz.func53, Tryz.ntmps53
          go_wp2_with fail
          refine wp_region_keep HK.out (by kernel_rfl) (by kernel_rfl) (by first | exact HO.out | exact HK.out.drew HO.out) ?_
          intro C hin hout
          have HIN := hide3 hin
          have HOUT := hide3 hout
          clear hin hout HO
          repeat
            (with_reducible refine wpQuiet_step (fun K hK => ?_)
             go_simp
             first
               | (refine hK _ ?_; clear hK K)
               | (apply Exists.intro; refine ⟨fun w1 hC => ?_, hK _ ?_⟩; (focus ((first | (go_at_call 64; with_reducible exact callC' HIN.out HOUT.out HK.out (fun w1 hk => HMP.out w1 hk.1) w1 hC) | (go_at_call 65; with_reducible exact callC' HIN.out HOUT.out HK.out (fun w1 hk => HLA2.out w1 hk.1) w1 hC) | (go_at_call 66; with_reducible exact callC' HIN.out HOUT.out HK.out (fun w1 hk => HMY.out w1 hk.1) w1 hC) | (go_at_call 67; with_reducible exact callC HIN.out HOUT.out HK.out HAB2.out w1 hC) | (go_at_call 43; with_reducible exact callC' HIN.out HOUT.out HK.out (fun w1 hk => HF2.out w1 hk.1) w1 hC) | (go_at_call 43; with_reducible exact callC' HIN.out HOUT.out HK.out (fun w1 hk => HF1.out w1 hk.1) w1 hC) | (exact rfl) | (obtain ⟨hb1, ⟨x0, x1⟩, ⟨⟨y0, y1, y2, y3, y4, y5, y6, y7, y8⟩, y9⟩⟩ := HOUT.out w1 hC; clear hC; go_simp; first | done | exact rfl)); done)); clear hK K))
          refine wpQuiet_nil ?_
          intro wn hC
          have HO := hide3 (HOUT.out _ hC)
          clear hC HIN HOUT C
          obtain ⟨hb1, ⟨x0, x1⟩, ⟨⟨y0, y1, y2, y3, y4, y5, y6, y7, y8⟩, y9⟩⟩ := HO.out
          go_wp2
          go_ret
          exact ⟨ret_bool (by rw [HRB.out]; simp), HO.out.1⟩
        · rcases (show f1 = -1 ∨ 0 ≤ f1 by have := HG1.out; omega) with h5 | h5
          · subst h5
            rcases (show f2 = -1 ∨ 0 ≤ f2 by have := HG2.out; omega) with h6 | h6
            · subst h6
              go_enter Tryz.func53, Tryz.ntmps53
              go_wp2_with fail
              refine wp_region_keep HK.out (by kernel_rfl) (by kernel_rfl) (by first | exact HO.out | exact HK.out.drew HO.out) ?_
              intro C hin hout
              have HIN := hide3 hin
              have HOUT := hide3 hout
              clear hin hout HO
              repeat
                (with_reducible refine wpQuiet_step (fun K hK => ?_)
                 go_simp
                 first
                   | (refine hK _ ?_; clear hK K)
                   | (apply Exists.intro; refine ⟨fun w1 hC => ?_, hK _ ?_⟩; (focus ((first | (go_at_call 64; with_reducible exact callC' HIN.out HOUT.out HK.out (fun w1 hk => HMP.out w1 hk.1) w1 hC) | (go_at_call 65; with_reducible exact callC' HIN.out HOUT.out HK.out (fun w1 hk => HLA2.out w1 hk.1) w1 hC) | (go_at_call 66; with_reducible exact callC' HIN.out HOUT.out HK.out (fun w1 hk => HMY.out w1 hk.1) w1 hC) | (go_at_call 67; with_reducible exact callC HIN.out HOUT.out HK.out HAB2.out w1 hC) | (go_at_call 43; with_reducible exact callC' HIN.out HOUT.out HK.out (fun w1 hk => HF2.out w1 hk.1) w1 hC) | (go_at_call 43; with_reducible exact callC' HIN.out HOUT.out HK.out (fun w1 hk => HF1.out w1 hk.1) w1 hC) | (exact rfl) | (obtain ⟨hb1, ⟨x0, x1⟩, ⟨⟨y0, y1, y2, y3, y4, y5, y6, y7, y8⟩, y9⟩⟩ := HOUT.out w1 hC; clear hC; go_simp; first | done | exact rfl)); done)); clear hK K))
              refine wpQuiet_nil ?_
              intro wn hC
              have HO := hide3 (HOUT.out _ hC)
              clear hC HIN HOUT C
              obtain ⟨hb1, ⟨x0, x1⟩, ⟨⟨y0, y1, y2, y3, y4, y5, y6, y7, y8⟩, y9⟩⟩ := HO.out
              go_wp2
              go_ret
              exact ⟨ret_bool (by rw [HRB.out]; simp), HO.out.1⟩
            · have q6 : decide (f2 ≥ 0) = true := decide_eq_true h6
              rw [decide_eq_true h6] at HRB
              go_enter Tryz.func53, Tryz.ntmps53
              go_wp2_with fail
              refine wp_region_keep HK.out (by kernel_rfl) (by kernel_rfl) (by first | exact HO.out | exact HK.out.drew HO.out) ?_
              intro C hin hout
              have HIN := hide3 hin
              have HOUT := hide3 hout
              clear hin hout HO
              repeat
                (with_reducible refine wpQuiet_step (fun K hK => ?_)
                 go_simp
                 first
                   | (refine hK _ ?_; clear hK K)
                   | (apply Exists.intro; refine ⟨fun w1 hC => ?_, hK _ ?_⟩; (focus ((first | (go_at_call 64; with_reducible exact callC' HIN.out HOUT.out HK.out (fun w1 hk => HMP.out w1 hk.1) w1 hC) | (go_at_call 65; with_reducible exact callC' HIN.out HOUT.out HK.out (fun w1 hk => HLA2.out w1 hk.1) w1 hC) | (go_at_call 66; with_reducible exact callC' HIN.out HOUT.out HK.out (fun w1 hk => HMY.out w1 hk.1) w1 hC) | (go_at_call 67; with_reducible exact callC HIN.out HOUT.out HK.out HAB2.out w1 hC) | (go_at_call 43; with_reducible exact callC' HIN.out HOUT.out HK.out (fun w1 hk => HF2.out w1 hk.1) w1 hC) | (go_at_call 43; with_reducible exact callC' HIN.out HOUT.out HK.out (fun w1 hk => HF1.out w1 hk.1) w1 hC) | (exact rfl) | (obtain ⟨hb1, ⟨x0, x1⟩, ⟨⟨y0, y1, y2, y3, y4, y5, y6, y7, y8⟩, y9⟩⟩ := HOUT.out w1 hC; clear hC; go_simp; first | done | exact rfl)); done)); clear hK K))
              refine wpQuiet_nil ?_
              intro wn hC
              have HO := hide3 (HOUT.out _ hC)
              clear hC HIN HOUT C
              obtain ⟨hb1, ⟨x0, x1⟩, ⟨⟨y0, y1, y2, y3, y4, y5, y6, y7, y8⟩, y9⟩⟩ := HO.out
              go_wp2
              go_ret
              exact ⟨ret_bool (by rw [HRB.out]; simp), HO.out.1⟩
          · have q5 : decide (f1 < 0) = false := decide_eq_false (by omega)
            have q5b : (f1 < 0) = False := eq_false (by omega)
            rw [q5] at HRB
            go_enter Tryz.func53, Tryz.ntmps53
            go_wp2_with fail
            refine wp_region_keep HK.out (by kernel_rfl) (by kernel_rfl) (by first | exact HO.out | exact HK.out.drew HO.out) ?_
            intro C hin hout
            have HIN := hide3 hin
            have HOUT := hide3 hout
            clear hin hout HO
            repeat
              (with_reducible refine wpQuiet_step (fun K hK => ?_)
               go_simp
               first
                 | (refine hK _ ?_; clear hK K)
                 | (apply Exists.intro; refine ⟨fun w1 hC => ?_, hK _ ?_⟩; (focus ((first | (go_at_call 64; with_reducible exact callC' HIN.out HOUT.out HK.out (fun w1 hk => HMP.out w1 hk.1) w1 hC) | (go_at_call 65; with_reducible exact callC' HIN.out HOUT.out HK.out (fun w1 hk => HLA2.out w1 hk.1) w1 hC) | (go_at_call 66; with_reducible exact callC' HIN.out HOUT.out HK.out (fun w1 hk => HMY.out w1 hk.1) w1 hC) | (go_at_call 67; with_reducible exact callC HIN.out HOUT.out HK.out HAB2.out w1 hC) | (go_at_call 43; with_reducible exact callC' HIN.out HOUT.out HK.out (fun w1 hk => HF2.out w1 hk.1) w1 hC) | (go_at_call 43; with_reducible exact callC' HIN.out HOUT.out HK.out (fun w1 hk => HF1.out w1 hk.1) w1 hC) | (exact rfl) | (obtain ⟨hb1, ⟨x0, x1⟩, ⟨⟨y0, y1, y2, y3, y4, y5, y6, y7, y8⟩, y9⟩⟩ := HOUT.out w1 hC; clear hC; go_simp; first | done | exact rfl)); done)); clear hK K))
            refine wpQuiet_nil ?_
            intro wn hC
            have HO := hide3 (HOUT.out _ hC)
            clear hC HIN HOUT C
            obtain ⟨hb1, ⟨x0, x1⟩, ⟨⟨y0, y1, y2, y3, y4, y5, y6, y7, y8⟩, y9⟩⟩ := HO.out
            go_wp2
            go_ret
            exact ⟨ret_bool (by rw [HRB.out]; simp), HO.out.1⟩
      · have q3 : (s.toList == ls.toList) = false := by rw [beq_eq_false_iff_ne]; exact fun e => h3 (bytes_same e)
        have q3b : (s.toList = ls.toList) = False := eq_false fun e => h3 (bytes_same e)
        have HE3 : Hid (eqB s ls = false) := eqB_no h3
        rw [HE3.out] at HRB
        clear h3 HE3
        go_enter Tryz.func53, Tryz.ntmps53
        go_wp2_with fail
        refine wp_region_keep HK.out (by kernel_rfl) (by kernel_rfl) (by first | exact HO.out | exact HK.out.drew HO.out) ?_
        intro C hin hout
        have HIN := hide3 hin
        have HOUT := hide3 hout
        clear hin hout HO
        repeat
          (with_reducible refine wpQuiet_step (fun K hK => ?_)
           go_simp
           first
             | (refine hK _ ?_; clear hK K)
             | (apply Exists.intro; refine ⟨fun w1 hC => ?_, hK _ ?_⟩; (focus ((first | (go_at_call 64; with_reducible exact callC' HIN.out HOUT.out HK.out (fun w1 hk => HMP.out w1 hk.1) w1 hC) | (go_at_call 65; with_reducible exact callC' HIN.out HOUT.out HK.out (fun w1 hk => HLA2.out w1 hk.1) w1 hC) | (go_at_call 66; with_reducible exact callC' HIN.out HOUT.out HK.out (fun w1 hk => HMY.out w1 hk.1) w1 hC) | (go_at_call 67; with_reducible exact callC HIN.out HOUT.out HK.out HAB2.out w1 hC) | (go_at_call 43; with_reducible exact callC' HIN.out HOUT.out HK.out (fun w1 hk => HF2.out w1 hk.1) w1 hC) | (go_at_call 43; with_reducible exact callC' HIN.out HOUT.out HK.out (fun w1 hk => HF1.out w1 hk.1) w1 hC) | (exact rfl) | (obtain ⟨hb1, ⟨x0, x1⟩, ⟨⟨y0, y1, y2, y3, y4, y5, y6, y7, y8⟩, y9⟩⟩ := HOUT.out w1 hC; clear hC; go_simp; first | done | exact rfl)); done)); clear hK K))
        refine wpQuiet_nil ?_
        intro wn hC
        have HO := hide3 (HOUT.out _ hC)
        clear hC HIN HOUT C
        obtain ⟨hb1, ⟨x0, x1⟩, ⟨⟨y0, y1, y2, y3, y4, y5, y6, y7, y8⟩, y9⟩⟩ := HO.out
        go_wp2
        go_ret
        exact ⟨ret_bool (by rw [HRB.out]; simp), HO.out.1⟩
    · have hd2 : decide (nd > 0) = false := decide_eq_false hd
      rw [decide_eq_false hd] at HRB
      go_enter Tryz.func53, Tryz.ntmps53
      go_wp2_with fail
      refine wp_region_keep HK.out (by kernel_rfl) (by kernel_rfl) (by first | exact HO.out | exact HK.out.drew HO.out) ?_
      intro C hin hout
      have HIN := hide3 hin
      have HOUT := hide3 hout
      clear hin hout HO
      repeat
        (with_reducible refine wpQuiet_step (fun K hK => ?_)
         go_simp
         first
           | (refine hK _ ?_; clear hK K)
           | (apply Exists.intro; refine ⟨fun w1 hC => ?_, hK _ ?_⟩; (focus ((first | (go_at_call 64; with_reducible exact callC' HIN.out HOUT.out HK.out (fun w1 hk => HMP.out w1 hk.1) w1 hC) | (go_at_call 65; with_reducible exact callC' HIN.out HOUT.out HK.out (fun w1 hk => HLA2.out w1 hk.1) w1 hC) | (go_at_call 66; with_reducible exact callC' HIN.out HOUT.out HK.out (fun w1 hk => HMY.out w1 hk.1) w1 hC) | (go_at_call 67; with_reducible exact callC HIN.out HOUT.out HK.out HAB2.out w1 hC) | (go_at_call 43; with_reducible exact callC' HIN.out HOUT.out HK.out (fun w1 hk => HF2.out w1 hk.1) w1 hC) | (go_at_call 43; with_reducible exact callC' HIN.out HOUT.out HK.out (fun w1 hk => HF1.out w1 hk.1) w1 hC) | (exact rfl) | (obtain ⟨hb1, ⟨x0, x1⟩, ⟨⟨y0, y1, y2, y3, y4, y5, y6, y7, y8⟩, y9⟩⟩ := HOUT.out w1 hC; clear hC; go_simp; first | done | exact rfl)); done)); clear hK K))
      refine wpQuiet_nil ?_
      intro wn hC
      have HO := hide3 (HOUT.out _ hC)
      clear hC HIN HOUT C
      obtain ⟨hb1, ⟨x0, x1⟩, ⟨⟨y0, y1, y2, y3, y4, y5, y6, y7, y8⟩, y9⟩⟩ := HO.out
      go_wp2
      go_ret
      exact ⟨ret_bool (by rw [HRB.out]; simp), HO.out.1⟩
end Go.Proofs.YtogpkhpephhbiaaGreatDoor
namespace Go.Proofs.YtogpkhpephhbiaaGreatDoor
open Go.RowKit
set_option maxRecDepth 100000

/-- A directory at a place behind the root's. -/
noncomputable def follI (L : List Dr) (i : Nat) : Bool := match L[i]? with
  | some d => follD (L.take i) d
  | none => true
theorem follI_at {L : List Dr} {i : Nat} (h : i < L.length) : follI L i = follD (L.take i) L[i] := by
  unfold follI
  rw [List.getElem?_eq_getElem h]
noncomputable def rootL : List Dr → Bool
  | [] => false
  | d :: _ => rootB d
theorem rootL_at {L : List Dr} (h : 0 < L.length) : rootL L = rootB L[0] := by
  cases L with
  | nil => simp at h
  | cons d L => rfl
/-- A tree may be. -/
noncomputable def checkB (L : List Dr) : Bool := (decide (0 < L.length) && decide (L.length ≤ 257)) && (rootL L && (List.range L.length).all fun i => decide (i = 0) || follI L i)
theorem checkB_iff {L : List Dr} : checkB L = true ↔ (0 < L.length ∧ L.length ≤ 257) ∧ rootL L = true ∧ ∀ i, i < L.length → i ≠ 0 → follI L i = true := by
  unfold checkB
  simp only [Bool.and_eq_true, decide_eq_true_eq, List.all_eq_true, List.mem_range, Bool.or_eq_true]
  exact ⟨fun ⟨h1, h2, h3⟩ => ⟨h1, h2, fun i hi h0 => (h3 i hi).resolve_left h0⟩, fun ⟨h1, h2, h3⟩ => ⟨h1, h2, fun i hi => (Nat.eq_zero_or_pos i).imp id fun h => h3 i hi (by omega)⟩⟩
theorem checkB_no {L : List Dr} (h : ¬ ((0 < L.length ∧ L.length ≤ 257) ∧ rootL L = true ∧ ∀ i, i < L.length → i ≠ 0 → follI L i = true)) : checkB L = false := by
  cases hc : checkB L with
  | false => rfl
  | true => exact absurd (checkB_iff.1 hc) h
/-- Directories that are not too great. -/
def DrsOk (L : List Dr) : Prop := FitP1 L ∧ ∀ d ∈ L, PgZ d.pk
theorem FitD.take {L : List Dr} (h : FitD L) (k : Nat) : FitD (L.take k) := fun d hd => h d (List.mem_of_mem_take hd)

/-- What Check answers. -/
def errT : Bool → Int
  | true => 0
  | false => 42

set_option maxHeartbeats 6400000 in
theorem tCheck_any {L : List Dr} {v : Value} {w : World} (h : DirsAt w v L) (hz : L.length ≤ 9223372036854775807) (hk : DrsOk L) (he : Env w) (hf : FL w) :
    Calls Tryz.prog 38 #[.agg #[v]] w fun e w' => e = .returned (.int .i64 (errT (checkB L))) ∧ Below w.heap.size w w' := by
  have HYE : Hid (checkB L = true → errT (checkB L) = 0) := fun e => by rw [e]; rfl
  have HNO : Hid (checkB L = false → errT (checkB L) = 42) := fun e => by rw [e]; rfl
  have HDA : Hid (∀ w1, Below w.heap.size w w1 → DirsAt w1 v L) := fun w1 hb => h.below hb
  obtain ⟨ad, cap, rfl, hc, hsl⟩ := h.sl
  have HMR : Hid (∀ w1, Below w.heap.size w w1 → ∀ i (hi : i < L.length) u v1 v2 v3 g o, DrIn w1 g o L[i] u v1 v2 v3 → Calls Tryz.prog 52 #[.agg #[u, .string L[i].pk.nm, .int .i64 L[i].pk.a, .int .i64 L[i].pk.b, .int .i64 L[i].pk.c, v1, v2, v3, .int .i64 L[i].nd]] w1 fun e w' => e = .returned (.bool (rootB L[i])) ∧ Below w1.heap.size w1 w') := fun w1 hb i hi u v1 v2 v3 g o hd => tMayRoot_any hd.2.1.1 hd.2.1.2 (hk.2 _ (List.getElem_mem hi))
  have HMF : Hid (∀ w1, Below w.heap.size w w1 → ∀ i (hi : i < L.length) u v1 v2 v3 g o, DrIn w1 g o L[i] u v1 v2 v3 → Calls Tryz.prog 53 #[.agg #[.slice ad i cap], .agg #[u, .string L[i].pk.nm, .int .i64 L[i].pk.a, .int .i64 L[i].pk.b, .int .i64 L[i].pk.c, v1, v2, v3, .int .i64 L[i].nd]] w1 fun e w' => e = .returned (.bool (follI L i)) ∧ Below w1.heap.size w1 w') := fun w1 hb i hi u v1 v2 v3 g o hd => by
    rw [follI_at hi]
    exact tMayFollow_any (DirsAt.cut (n := L.length) (HDA.out w1 hb) (by omega)) (by rw [List.length_take]; omega) (hk.1.fit.take i) hd.2.1.1 (hk.1 _ (List.getElem_mem hi)) hd.2.1.2 (he.below hb) (hf.below hb)
  have HS : Hid (∀ w1, Below w.heap.size w w1 → ∀ i (_ : i < L.length), ∃ g o, ad = some ⟨g, o, none⟩ ∧ ∃ u v1 v2 v3, DrIn w1 g (o + i * 9) L[i] u v1 v2 v3) := fun w1 hb i hi => by
    obtain ⟨g, o, e, u, v1, v2, v3, hd⟩ := hsl i hi
    exact ⟨g, o, e, u, v1, v2, v3, hd.below hb⟩
  clear h hk he hf hsl
  by_cases h0 : L.length = 0
  · have HR : Hid (checkB L = false) := checkB_no fun h => by omega
    rw [h0]
    go_enter Tryz.func38, Tryz.ntmps38
    go_wp2
    go_ret
    exact ⟨ret_int (HNO.out HR.out).symm, boxB _ _⟩
  · have hn0 : ((L.length : Int) == 0) = false := by rw [beq_eq_false_iff_ne]; omega
    by_cases h1 : 257 < L.length
    · have HR : Hid (checkB L = false) := checkB_no fun h => by omega
      have hg1 : decide ((L.length : Int) > 257) = true := decide_eq_true (by omega)
      go_enter Tryz.func38, Tryz.ntmps38
      go_wp2
      go_ret
      exact ⟨ret_int (HNO.out HR.out).symm, boxB _ _⟩
    · have hg1 : decide ((L.length : Int) > 257) = false := decide_eq_false (by omega)
      have hpos : 0 < L.length := by omega
      obtain ⟨g, o, rfl, u, v1, v2, v3, hd⟩ := HS.out _ (boxB w (.cells #[.slice ad L.length cap] 67)) 0 hpos
      have HC := hide3 (HMR.out _ (boxB w (.cells #[.slice (some ⟨g, o, none⟩) L.length cap] 67)) 0 hpos u v1 v2 v3 _ _ hd)
      have HRL := hide3 (rootL_at hpos)
      obtain ⟨⟨c0, c1, c2, c3, c4, c5, c6, c7, c8⟩, ⟨hpa, hpk⟩, hg⟩ := hd
      obtain ⟨ua, uc, rfl⟩ := hpa.sl
      obtain ⟨x1, y1, rfl⟩ := hpk.1.sl
      obtain ⟨x2, y2, rfl⟩ := hpk.2.1.sl
      obtain ⟨x3, y3, rfl⟩ := hpk.2.2.sl
      rw [Nat.zero_mul, Nat.add_zero] at c0 c1 c2 c3 c4 c5 c6 c7 c8
      generalize L[0] = d at *
      clear hpa hpk
      cases hrb : rootB d
      · have HR : Hid (checkB L = false) := checkB_no fun h => by rw [HRL.out, hrb] at h; cases h.2.1
        rw [hrb] at HC
        go_enter Tryz.func38, Tryz.ntmps38
        go_wp2_with (go_at_call 52; refine HC.out.mono ?_; rintro e w1 ⟨rfl, ok⟩)
        go_ret
        exact ⟨ret_int (HNO.out HR.out).symm, below_then (boxB _ _) ok⟩
      · rw [hrb] at HC HRL
        go_enter Tryz.func38, Tryz.ntmps38
        go_wp2_with (go_at_call 52; refine HC.out.mono ?_; rintro e w1 ⟨rfl, ok⟩; have HB1 : Hid (Below w.heap.size w w1 ∧ BxT w1 w.heap.size (.slice (some ⟨g, o, none⟩) L.length cap)) := ⟨below_then (boxB _ _) ok, keepBxT _ _ _ _ (BxT.new _ _) ok⟩; obtain ⟨_, z0, z1⟩ := HB1.out; clear ok)
        clear c0 c1 c2 c3 c4 c5 c6 c7 c8 HC hrb z0 z1 hg
        go_loopw [25] (fun i wr => ∃ k : Nat, k ≤ L.length ∧ i = .int .i64 k ∧ (Below w.heap.size w wr ∧ BxT wr w.heap.size (.slice (some ⟨g, o, none⟩) L.length cap)) ∧ ∀ j, j < k → j ≠ 0 → follI L j = true) (fun i _ => L.length - (intOf i).toNat)
        case atStart => exact ⟨0, Nat.zero_le _, rfl, HB1.out, fun j h => by omega⟩
        case round =>
          obtain ⟨k, hk, rfl, ⟨hb, bx0, bx1⟩, hall⟩ := hrel
          have HALL := hide3 hall
          have HBX : Hid (BxT wr w.heap.size (.slice (some ⟨g, o, none⟩) L.length cap)) := ⟨bx0, bx1⟩
          have HB := hide3 hb
          clear hall
          by_cases hlt : k < L.length
          · rcases Nat.eq_zero_or_pos k with hk0 | hk0
            · subst hk0
              clear bx0 bx1 hb
              have HK : Hid (KeepP fun w1 => Below w.heap.size w w1 ∧ BxT w1 w.heap.size (.slice (some ⟨g, o, none⟩) L.length cap)) := (keepBelow w).and (keepBxT _ _)
              have HO : Hid (Below w.heap.size w wr ∧ BxT wr w.heap.size (.slice (some ⟨g, o, none⟩) L.length cap)) := ⟨HB.out, HBX.out⟩
              go_wp2_with fail
              refine wp_region_keep HK.out (by kernel_rfl) (by kernel_rfl) (by first | exact HO.out | exact HK.out.drew HO.out) ?_
              intro C hin hout
              have HIN := hide3 hin
              have HOUT := hide3 hout
              clear hin hout HO
              repeat
                (with_reducible refine wpQuiet_step (fun K hK => ?_)
                 go_simp
                 first
                   | (refine hK _ ?_; clear hK K)
                   | (apply Exists.intro; refine ⟨fun w1 hC => ?_, hK _ ?_⟩; (focus ((first | (exact rfl) | (obtain ⟨hb1, ⟨b0, b1⟩⟩ := HOUT.out w1 hC; clear hC; go_simp; first | done | exact rfl)); done)); clear hK K))
              refine wpQuiet_nil ?_
              intro wn hC
              have HO := hide3 (HOUT.out _ hC)
              clear hC HIN HOUT C
              obtain ⟨hb1, ⟨b0, b1⟩⟩ := HO.out
              go_wp2
              exact ⟨⟨0 + 1, by omega, by go_num, HO.out, fun j h h2 => by omega⟩, by simp [intOf]; omega⟩
            · obtain ⟨g', o', eg, u, v1, v2, v3, hd⟩ := HS.out wr hb k hlt
              cases eg
              have HMC : Hid (∀ w1, Below w.heap.size w w1 → DrIn w1 g (o + k * 9) L[k] u v1 v2 v3 → Calls Tryz.prog 53 #[.agg #[.slice (some ⟨g, o, none⟩) k cap], .agg #[u, .string L[k].pk.nm, .int .i64 L[k].pk.a, .int .i64 L[k].pk.b, .int .i64 L[k].pk.c, v1, v2, v3, .int .i64 L[k].nd]] w1 fun e w' => e = .returned (.bool (follI L k)) ∧ Below w1.heap.size w1 w') := fun w1 hb hd => HMF.out w1 hb k hlt u v1 v2 v3 g _ hd
              have HNX : Hid (follI L k = true → ∀ j, j < k + 1 → j ≠ 0 → follI L j = true) := fun h j hj h2 => by
                rcases Nat.lt_or_ge j k with hjk | hjk
                · exact HALL.out j hjk h2
                · obtain rfl : j = k := by omega
                  exact h
              have HBD : Hid (follI L k = false → checkB L = false) := fun h => checkB_no fun hh => by have := hh.2.2 k hlt (by omega); rw [h] at this; cases this
              obtain ⟨ua', uc', rfl⟩ := hd.2.1.1.sl
              obtain ⟨p1, q1, rfl⟩ := hd.2.1.2.1.sl
              obtain ⟨p2, q2, rfl⟩ := hd.2.1.2.2.1.sl
              obtain ⟨p3, q3, rfl⟩ := hd.2.1.2.2.2.sl
              generalize L[k] = dk at *
              have HK : Hid (KeepP fun w1 => Below w.heap.size w w1 ∧ BxT w1 w.heap.size (.slice (some ⟨g, o, none⟩) L.length cap) ∧ DrIn w1 g (o + k * 9) dk (.slice ua' dk.pa.length uc') (.slice p1 dk.pk.d.length q1) (.slice p2 dk.pk.p.length q2) (.slice p3 dk.pk.o.length q3)) := (keepBelow w).and ((keepBxT _ _).and (keepDr _ _ _ _ _ _ _))
              have HO : Hid (Below w.heap.size w wr ∧ BxT wr w.heap.size (.slice (some ⟨g, o, none⟩) L.length cap) ∧ DrIn wr g (o + k * 9) dk (.slice ua' dk.pa.length uc') (.slice p1 dk.pk.d.length q1) (.slice p2 dk.pk.p.length q2) (.slice p3 dk.pk.o.length q3)) := ⟨HB.out, HBX.out, hd⟩
              have hkc : k ≤ cap := by omega
              have hki : ((k : Int) > 0) = True := eq_true (by omega)
              have hki2 : decide ((k : Int) > 0) = true := decide_eq_true (by omega)
              clear hd bx0 bx1 hb
              cases hfo : follI L k
              · have HR := hide3 (HBD.out hfo)
                rw [hfo] at HMC
                clear HNX HBD HALL
                go_wp2_with fail
                refine wp_region_keep HK.out (by kernel_rfl) (by kernel_rfl) (by first | exact HO.out | exact HK.out.drew HO.out) ?_
                intro C hin hout
                have HIN := hide3 hin
                have HOUT := hide3 hout
                clear hin hout HO
                repeat
                  (with_reducible refine wpQuiet_step (fun K hK => ?_)
                   go_simp
                   first
                     | (refine hK _ ?_; clear hK K)
                     | (apply Exists.intro; refine ⟨fun w1 hC => ?_, hK _ ?_⟩; (focus ((first | (go_at_call 53; with_reducible exact callC' HIN.out HOUT.out HK.out (fun w1 hk => HMC.out w1 hk.1 hk.2.2) w1 hC) | (exact rfl) | (obtain ⟨hb1, ⟨b0, b1⟩, ⟨⟨d0, d1, d2, d3, d4, d5, d6, d7, d8⟩, _, dg⟩⟩ := HOUT.out w1 hC; clear hC; go_simp; first | done | exact rfl)); done)); clear hK K))
                refine wpQuiet_nil ?_
                intro wn hC
                have HO := hide3 (HOUT.out _ hC)
                clear hC HIN HOUT C
                obtain ⟨hb1, ⟨b0, b1⟩, ⟨⟨d0, d1, d2, d3, d4, d5, d6, d7, d8⟩, _, dg⟩⟩ := HO.out
                go_wp2
                go_ret
                exact ⟨ret_int (HNO.out HR.out).symm, HO.out.1⟩
              · have HR := hide3 (HNX.out hfo)
                rw [hfo] at HMC
                clear HNX HBD HALL
                go_wp2_with fail
                refine wp_region_keep HK.out (by kernel_rfl) (by kernel_rfl) (by first | exact HO.out | exact HK.out.drew HO.out) ?_
                intro C hin hout
                have HIN := hide3 hin
                have HOUT := hide3 hout
                clear hin hout HO
                repeat
                  (with_reducible refine wpQuiet_step (fun K hK => ?_)
                   go_simp
                   first
                     | (refine hK _ ?_; clear hK K)
                     | (apply Exists.intro; refine ⟨fun w1 hC => ?_, hK _ ?_⟩; (focus ((first | (go_at_call 53; with_reducible exact callC' HIN.out HOUT.out HK.out (fun w1 hk => HMC.out w1 hk.1 hk.2.2) w1 hC) | (exact rfl) | (obtain ⟨hb1, ⟨b0, b1⟩, ⟨⟨d0, d1, d2, d3, d4, d5, d6, d7, d8⟩, _, dg⟩⟩ := HOUT.out w1 hC; clear hC; go_simp; first | done | exact rfl)); done)); clear hK K))
                refine wpQuiet_nil ?_
                intro wn hC
                have HO := hide3 (HOUT.out _ hC)
                clear hC HIN HOUT C
                obtain ⟨hb1, ⟨b0, b1⟩, ⟨⟨d0, d1, d2, d3, d4, d5, d6, d7, d8⟩, _, dg⟩⟩ := HO.out
                go_wp2
                exact ⟨⟨k + 1, by omega, by go_num, ⟨HO.out.1, HO.out.2.1⟩, HR.out⟩, by simp [intOf]; omega⟩
          · obtain rfl : k = L.length := by omega
            have HR : Hid (checkB L = true) := checkB_iff.2 ⟨⟨hpos, by omega⟩, HRL.out, HALL.out⟩
            clear hb
            go_wp2
            go_ret
            exact ⟨ret_int (HYE.out HR.out).symm, HB.out⟩
end Go.Proofs.YtogpkhpephhbiaaGreatDoor
namespace Go.Proofs.YtogpkhpephhbiaaGreatDoor
open Go.RowKit
set_option maxRecDepth 100000

theorem wrapN {n : Nat} (h : n ≤ 9223372036854775807) : IntKind.i64.wrap (n : Int) = n := by
  simp [IntKind.wrap, IntKind.bits, IntKind.signed]
  omega

def textBA (L : List ByteArray) : ByteArray := ⟨(textN L).toArray⟩
theorem textBA_size (L : List ByteArray) : (textBA L).size = (textN L).length := by show (textN L).toArray.size = _; simp
theorem textBA_snoc (L : List ByteArray) (s : ByteArray) : textBA (L ++ [s]) = textBA L ++ modS ++ s := by
  refine bytes_same ?_
  rw [ByteArray.toList_eq, ByteArray.toList_eq, app_list, app_list]
  simp [textBA, textN_snoc]

set_option maxHeartbeats 3200000 in
theorem rTextP_w {L : List ByteArray} {v : Value} {w : World} (h : PathAt w v L) (hz : L.length ≤ 4611686018427387904) (hs : ∀ s ∈ L, s.size ≤ 9223372036854775807) (hlen : ∀ k, k ≤ L.length → namesB (L.take k) = true → (textBA (L.take k)).size ≤ 219902325555200) :
    Calls Tryz.prog 27 #[v] w fun e w' => e = .returned (.string (textPa L)) ∧ Below w.heap.size w w' := by
  have HNA : Hid (∀ k (hk : k < L.length) w1, Calls Tryz.prog 26 #[.string L[k]] w1 fun e w' => e = .returned (.bool (Sc.nameA L[k].data.toList)) ∧ w' = w1) := fun k hk w1 => Sc.rName_any _ (hs _ (List.getElem_mem hk)) w1
  obtain ⟨ad, cap, rfl, hc, hel⟩ := h.el
  have HEL := hide3 hel
  clear h hs hel
  by_cases h0 : L = []
  · subst h0
    have HR : Hid (textPa [] = ⟨#[47]⟩) := rfl
    rw [List.length_nil]
    go_enter Tryz.func27, Tryz.ntmps27
    go_wp2
    go_ret
    exact ⟨by rw [HR.out]; rfl, Below.refl _ _⟩
  · have hpos : 0 < L.length := List.length_pos_iff.2 h0
    have HNO : Hid (namesB L = false → textPa L = ⟨#[]⟩) := fun e => by unfold textPa; rw [if_neg h0, if_neg (by rw [e]; simp)]
    have HYE : Hid (namesB L = true → textPa L = textBA L) := fun e => by unfold textPa; rw [if_neg h0, if_pos e]; rfl
    have HL : Hid (∀ k, k ≤ L.length → namesB (L.take k) = true → (textBA (L.take k)).size ≤ 219902325555200) := hlen
    clear hlen
    have hne0 : ((L.length : Int) == 0) = false := by rw [beq_eq_false_iff_ne]; omega
    have HT0 : Hid (textBA (L.take 0) = ⟨#[]⟩) := rfl
    clear h0
    go_enter Tryz.func27, Tryz.ntmps27
    go_wp2_with fail
    go_loopw [3, 4] (fun vo vi wr => ∃ k : Nat, k ≤ L.length ∧ vi = .int .i64 k ∧ vo = .string (textBA (L.take k)) ∧ wr = w ∧ namesB (L.take k) = true) (fun _ vi _ => L.length - (intOf vi).toNat)
    case atStart => exact ⟨0, Nat.zero_le _, rfl, by rw [HT0.out], rfl, rfl⟩
    case round =>
      obtain ⟨k, hk, rfl, rfl, hww, hns⟩ := hrel
      subst wr
      by_cases hlt : k < L.length
      · obtain ⟨g, o, rfl, c0, c1⟩ := HEL.out k hlt
        have HLK := hide3 (HL.out k hk hns)
        have HTS : Hid (textBA (L.take (k + 1)) = textBA (L.take k) ++ modS ++ L[k]) := by
          unfold Hid
          rw [List.take_succ_eq_append_getElem hlt, textBA_snoc]
        have HNT : Hid (Sc.nameA L[k].data.toList = true → namesB (L.take (k + 1)) = true) := fun e => by rw [names_take hlt, hns, e]; rfl
        have HNB : Hid (Sc.nameA L[k].data.toList = false → namesB L = false) := fun e => names_bad hlt e
        have HNM := hide3 (HNA.out k hlt)
        generalize textBA (L.take k) = tx at *
        generalize L[k] = s at *
        clear hns
        cases hn : Sc.nameA s.data.toList
        · have HR := hide3 (HNO.out (HNB.out hn))
          rw [hn] at HNM
          clear HNT HNB HNO HYE
          go_wp2_with (go_at_call 26; refine (HNM.out _).mono ?_; rintro e w1 ⟨rfl, hw1⟩; subst w1)
          go_ret
          exact ⟨by rw [HR.out]; rfl, Below.refl _ _⟩
        · have HR := hide3 (HNT.out hn)
          rw [hn] at HNM
          have hs16 : s.size ≤ 16 := name_size hn
          have hms : modS.size = 9 := rfl
          have hlk := HLK.out
          have e1 := fun W : World => run_string_add_sum (P := Tryz.prog) (w := W) tx modS (by omega)
          have e2 := fun W : World => run_string_add_sum (P := Tryz.prog) (w := W) (tx ++ modS) s (by rw [app_size]; omega)
          unfold modS at e1 e2
          clear HNT HNB HNO HYE hlk
          go_wp2_with (go_at_call 26; refine (HNM.out _).mono ?_; rintro e w1 ⟨rfl, hw1⟩; subst w1)
          exact ⟨⟨k + 1, by omega, by go_num, by rw [HTS.out]; rfl, trivial, HR.out⟩, by simp [intOf]; omega⟩
      · obtain rfl : k = L.length := by omega
        rw [List.take_length] at hns ⊢
        have HR : Hid (textPa L = textBA L) := HYE.out hns
        go_wp2
        go_ret
        exact ⟨by rw [HR.out]; rfl, Below.refl _ _⟩

theorem rTextP_any {L : List ByteArray} {v : Value} {w : World} (h : PathAt w v L) (hz : L.length * 16 ≤ 140737488355328) (hs : ∀ s ∈ L, s.size ≤ 9223372036854775807) :
    Calls Tryz.prog 27 #[v] w fun e w' => e = .returned (.string (textPa L)) ∧ Below w.heap.size w w' :=
  rTextP_w h (by omega) hs fun k hk hn => by
    have := textN_len hn
    rw [List.length_take] at this
    rw [textBA_size]
    omega

end Go.Proofs.YtogpkhpephhbiaaGreatDoor
namespace Go.Proofs.YtogpkhpephhbiaaGreatDoor.Sc
open Go.RowKit
set_option maxRecDepth 100000

/-- The frame: text, bound, lines, words, where it is, where the word began. -/
def Fr (t : ByteArray) (most : Int) (vl vw vk vf : Value) (a : Act) : Prop := ∃ (u2 u3 u4 u5 u6 u11 u12 u13 u14 u15 u16 u17 u18 u19 u20 u21 u22 u23 u24 u25 u26 u27 u28 u29 u30 u31 u32 u33 u34 u35 u36 u37 u38 u39 u40 u41 u42 u43 u44 u45 u46 u47 u48 u49 u50 u51 u52 u53 u54 u55 u56 u57 u58 u59 u60 u61 u62 u63 u64 u65 u66 : Value), a = { tmps := #[.string t, .int .i64 most, u2, u3, u4, u5, u6, vl, vw, vk, vf, u11, u12, u13, u14, u15, u16, u17, u18, u19, u20, u21, u22, u23, u24, u25, u26, u27, u28, u29, u30, u31, u32, u33, u34, u35, u36, u37, u38, u39, u40, u41, u42, u43, u44, u45, u46, u47, u48, u49, u50, u51, u52, u53, u54, u55, u56, u57, u58, u59, u60, u61, u62, u63, u64, u65, u66], defers := [] }

/-- What holds at a label, the frame aside. -/
def D4 (t : ByteArray) (w : World) (R : Except Nat (List (List Bs))) (l : Nat) (vl vw vf : Value) (k : Nat) (w' : World) : Prop :=
    ((l = 0 ∧ ∃ ps, St w vl (.slice none 0 0) ps [] w' ∧ ps.length ≤ k ∧ scanR (t.data.toList.drop k) [] [] (ps.map (·.2)) = R) ∨
     (l = 1 ∧ ∃ ps ws, St w vl vw ps ws w' ∧ ps.length ≤ k ∧ ws.length ≤ k ∧ ws ≠ [] ∧ scanR (t.data.toList.drop k) [] ws (ps.map (·.2)) = R) ∨
     (l = 2 ∧ ∃ (f : Nat) (ps : List (Value × List Bs)) (ws : List Bs), vf = .int .i64 f ∧ f < k ∧ St w vl vw ps ws w' ∧ ps.length ≤ k ∧ ws.length ≤ k ∧ scanR (t.data.toList.drop k) ((t.data.toList.take k).drop f) ws (ps.map (·.2)) = R) ∨
     (l = 3 ∧ ∃ ps, LL w' w.heap.size vl ps ∧ ps.length ≤ k ∧ Below w.heap.size w w' ∧ R = .error (ps.length + 1)))
/-- What holds at a label. -/
def J4 (t : ByteArray) (most : Int) (w : World) (R : Except Nat (List (List Bs))) (l : Nat) (a : Act) (w' : World) : Prop :=
  ∃ (vl vw vf : Value) (k : Nat), Fr t most vl vw (.int .i64 k) vf a ∧ k ≤ t.size ∧ D4 t w R l vl vw vf k w'
/-- A measure that each pass lowers. -/
def mu4 (t : ByteArray) (l : Nat) (a : Act) (_ : World) : Nat := if l = 3 then 0 else t.size + 1 - (intOf (a.tmps.getD 9 undef)).toNat

theorem mu4_at {t : ByteArray} {most : Int} {vl vw vf : Value} {k : Nat} {a : Act} {w : World} (h : Fr t most vl vw (.int .i64 k) vf a) {l : Nat} (hl : l ≠ 3) : mu4 t l a w = t.size + 1 - k := by
  obtain ⟨u2, u3, u4, u5, u6, u11, u12, u13, u14, u15, u16, u17, u18, u19, u20, u21, u22, u23, u24, u25, u26, u27, u28, u29, u30, u31, u32, u33, u34, u35, u36, u37, u38, u39, u40, u41, u42, u43, u44, u45, u46, u47, u48, u49, u50, u51, u52, u53, u54, u55, u56, u57, u58, u59, u60, u61, u62, u63, u64, u65, u66, rfl⟩ := h
  unfold mu4
  rw [if_neg hl]
  rfl

def linE : Except Nat (List (List Bs)) → Int
  | .ok _ => 0
  | .error _ => 22
def linN : Except Nat (List (List Bs)) → Nat
  | .ok _ => 0
  | .error n => n
def linL : Except Nat (List (List Bs)) → List (List Bs)
  | .ok L => L
  | .error _ => []
/-- Lines of one's own. -/
def OwnLL (w : World) (B : Nat) (v : Value) (L : List (List Bs)) : Prop := ∃ ps, ps.map (·.2) = L ∧ LL w B v ps
/-- What Lines answers with. -/
def LinesP (w : World) (R : Except Nat (List (List Bs))) (e : Ending) (w' : World) : Prop := ∃ v, e = .returned (.tuple #[v, .int .i64 (linE R), .int .i64 (linN R : Int)]) ∧ OwnLL w' w.heap.size v (linL R) ∧ Below w.heap.size w w'
theorem LinesP.ok {w w' : World} {R : Except Nat (List (List Bs))} {vl : Value} {ps : List (Value × List Bs)} (hR : R = .ok (ps.map (·.2))) (h : LL w' w.heap.size vl ps) (hb : Below w.heap.size w w') : LinesP w R (.returned (.tuple #[vl, .int .i64 0, .int .i64 0])) w' := by
  subst hR
  exact ⟨vl, rfl, ⟨ps, rfl, h⟩, hb⟩
theorem LinesP.no {w w' : World} {R : Except Nat (List (List Bs))} {n : Nat} (hR : R = .error n) (hb : Below w.heap.size w w') : LinesP w R (.returned (.tuple #[.slice none 0 0, .int .i64 22, .int .i64 (n : Int)])) w' := by
  subst hR
  exact ⟨_, rfl, ⟨[], rfl, LL.nil _ _⟩, hb⟩
theorem drop_at {t : ByteArray} {k : Nat} (h : k < t.size) : t.data.toList.drop k = t[k] :: t.data.toList.drop (k + 1) := List.drop_eq_getElem_cons (by rw [list_size]; exact h)
theorem take_at {t : ByteArray} {f k : Nat} (h : k < t.size) (hf : f ≤ k) : (t.data.toList.take (k + 1)).drop f = (t.data.toList.take k).drop f ++ [t[k]] := by
  rw [List.take_succ_eq_append_getElem (by rw [list_size]; exact h), List.drop_append_of_le_length (by rw [List.length_take, list_size]; omega)]
  rfl
theorem cur_ne {t : ByteArray} {f k : Nat} (h : k ≤ t.size) (hf : f < k) : (t.data.toList.take k).drop f ≠ [] := by
  intro e
  have := congrArg List.length e
  rw [List.length_drop, List.length_take, list_size] at this
  simp at this
  omega
theorem cur_nil (t : ByteArray) (k : Nat) : (t.data.toList.take k).drop k = [] := List.drop_of_length_le (by rw [List.length_take]; omega)
theorem drop_end {t : ByteArray} {k : Nat} (h : ¬ k < t.size) : t.data.toList.drop k = [] := List.drop_of_length_le (by rw [list_size]; omega)


theorem jump_ok {t : ByteArray} {most : Int} {w w' : World} {R : Except Nat (List (List Bs))} {vl vw vf : Value} {a : Act} {k k' l N : Nat} (hF : Fr t most vl vw (.int .i64 (k' : Nat)) vf a) (hl : l ≠ 3) (hN : N = t.size + 1 - k) (hk : k < k') (hk' : k' ≤ t.size) (h : D4 t w R l vl vw vf k' w') : J4 t most w R l a w' ∧ mu4 t l a w' < N :=
  ⟨⟨vl, vw, vf, k', hF, hk', h⟩, by rw [mu4_at hF hl, hN]; omega⟩
theorem jump_wrong {t : ByteArray} {most : Int} {w w' : World} {R : Except Nat (List (List Bs))} {vl vw vf : Value} {a : Act} {k k' N : Nat} {ps : List (Value × List Bs)} (hF : Fr t most vl vw (.int .i64 (k' : Nat)) vf a) (hN : N = t.size + 1 - k) (hk : k ≤ t.size) (hk' : k' ≤ t.size) (h : LL w' w.heap.size vl ps) (hp : ps.length ≤ k') (hb : Below w.heap.size w w') (hR : R = .error (ps.length + 1)) : J4 t most w R 3 a w' ∧ mu4 t 3 a w' < N :=
  ⟨⟨vl, vw, vf, k', hF, hk', Or.inr (Or.inr (Or.inr ⟨rfl, ps, h, hp, hb, hR⟩))⟩, by show (if 3 = 3 then 0 else _) < N; rw [if_pos rfl]; omega⟩
theorem own_one {w : World} {B : Nat} {v : Value} {ws : List Bs} (h : OwnW w B v ws) : v.oneCell' = true := by
  rcases h.2 with ⟨rfl, _⟩ | ⟨g, cap, cur, rfl, _⟩ <;> rfl

theorem own_form {w : World} {B : Nat} {v : Value} {ws : List Bs} {x : Bs} (h : OwnW w B v (ws ++ [x])) : ∃ g cap, v = .slice (some ⟨g, 0, none⟩) (ws.length + 1) cap := by
  rcases h.2 with ⟨_, h0⟩ | ⟨g, cap, cur, rfl, _⟩
  · simp at h0
  · exact ⟨g, cap, by simp⟩
end Go.Proofs.YtogpkhpephhbiaaGreatDoor.Sc
namespace Go.Proofs.YtogpkhpephhbiaaGreatDoor.Sc
open Go.RowKit
set_option maxRecDepth 100000

theorem wB_of {b : UInt8} (h : wB b = true) : 33 ≤ b.toNat ∧ b.toNat ≤ 126 := by simpa [wB] using h
theorem wB_no {b : UInt8} (h : wB b = false) : b.toNat < 33 ∨ 126 < b.toNat := by
  simp [wB] at h
  omega
end Go.Proofs.YtogpkhpephhbiaaGreatDoor.Sc
namespace Go.Proofs.YtogpkhpephhbiaaGreatDoor.Sc
open Go.RowKit
set_option maxRecDepth 100000

theorem cutF_len (b : UInt8) : ∀ (t c : Bs), (cutF b c t).length ≤ t.length + 1
  | [], c => by simp [cutF]
  | x :: r, c => by
    by_cases hx : x = b
    · subst hx; rw [cutF_hit]; have := cutF_len x r []; simp; omega
    · rw [cutF_go hx]; have := cutF_len b r (c ++ [x]); simp; omega
theorem cutF_size (b : UInt8) : ∀ (t c : Bs), ∀ p ∈ cutF b c t, p.length ≤ c.length + t.length
  | [], c, p, hp => by simp [cutF] at hp; subst hp; simp
  | x :: r, c, p, hp => by
    by_cases hx : x = b
    · subst hx
      rw [cutF_hit] at hp
      rcases List.mem_cons.1 hp with rfl | hp
      · simp
      · have := cutF_size x r [] p hp; simp at *; omega
    · rw [cutF_go hx] at hp
      have := cutF_size b r (c ++ [x]) p hp
      simp at *; omega
theorem lineR_isW {s : Bs} : (lineR s).isSome = (cutF 32 [] s).all isW := by unfold lineR; split <;> simp_all
theorem lineR_some {s : Bs} (h : (cutF 32 [] s).all isW = true) : lineR s = some (cutF 32 [] s) := by unfold lineR; rw [if_pos h]
theorem lineR_none {s : Bs} (h : (cutF 32 [] s).all isW = false) : lineR s = none := by unfold lineR; rw [if_neg (by rw [h]; simp)]

def okW (P : List Bs) : List Bs := if P.all isW = true then P else []
theorem okW_yes {P : List Bs} (h : P.all isW = true) : okW P = P := by unfold okW; rw [if_pos h]
theorem okW_no {P : List Bs} (h : P.all isW = false) : okW P = [] := by unfold okW; rw [if_neg (by rw [h]; simp)]

theorem own_some {w : World} {B : Nat} {v : Value} {ws : List Bs} (h : OwnW w B v ws) (hne : ws ≠ []) : ∃ g cap, v = .slice (some ⟨g, 0, none⟩) ws.length cap := by
  rcases h.2 with ⟨_, h0⟩ | ⟨g, cap, cur, rfl, _⟩
  · exact absurd (List.eq_nil_of_length_eq_zero h0) hne
  · exact ⟨g, cap, rfl⟩
theorem row_mono {w : World} {base base' : Nat} {e : TypeId} {size : Nat} {v : Value} {n : Nat} {xs : List Value} (h : w.ownsRow base e size v n xs) (hb : base' ≤ base) : w.ownsRow base' e size v n xs := by
  refine ⟨h.1, ?_⟩
  rcases h.2 with hn | ⟨g, cap, cur, hv, hB, r⟩
  · exact Or.inl hn
  · exact Or.inr ⟨g, cap, cur, hv, Nat.le_trans hb hB, r⟩
theorem LL.base {w : World} {B C : Nat} {vl : Value} {ps : List (Value × List Bs)} (h : LL w B vl ps) (hc : C ≤ B) : LL w C vl ps :=
  ⟨row_mono h.1 hc, fun p hp => ⟨row_mono (h.2.1 p hp).1 hc, (h.2.1 p hp).2⟩, h.2.2.1, h.2.2.2⟩
/-- A list of one's own that came of a call. -/
theorem St.take {w0 : World} {vl vw : Value} {ps : List (Value × List Bs)} {ws : List Bs} {w w' : World} (h : St w0 vl (.slice none 0 0) ps [] w) (ho : OwnW w' w.heap.size vw ws) (hb : Below w.heap.size w w') : St w0 vl vw ps ws w' := by
  obtain ⟨h1, h2, h3, h4, h5⟩ := h
  have hs := h5.size
  refine ⟨h1.below hb, row_mono ho hs, ?_, ?_, below_then h5 hb⟩
  · intro p hp e
    obtain ⟨g, hg⟩ := (h1.2.1 p hp).1.block (h1.2.1 p hp).2
    rw [hg] at e
    have a := (World.ownsRow.lt ho g e).1
    have b := (World.ownsRow.lt (h1.2.1 p hp).1 g hg).2
    omega
  · cases hv : vw.ownBlock with
    | none => exact Or.inl rfl
    | some g =>
      refine Or.inr fun e => ?_
      have a := (World.ownsRow.lt ho g hv).1
      have b := (World.ownsRow.lt h1.1 g e.symm).2
      omega

theorem ref_more {P : List Bs} {k : Nat} (h : k + 1 < P.length) (ls : List (List Bs)) : refR ls (P.drop k) = match lineR (P[k]'(by omega)) with | none => .error (ls.length + 1) | some w => refR (ls ++ [w]) (P.drop (k + 1)) := by
  have h1 : P.drop k = P[k]'(by omega) :: P.drop (k + 1) := List.drop_eq_getElem_cons (by omega)
  have h2 : P.drop (k + 1) = P[k + 1] :: P.drop (k + 1 + 1) := List.drop_eq_getElem_cons h
  rw [h1, h2]
  rfl
theorem ref_last {P : List Bs} {k : Nat} (h : k < P.length) (h2 : ¬ k + 1 < P.length) (ls : List (List Bs)) : refR ls (P.drop k) = if P[k] = [] then .ok ls else .error (ls.length + 1) := by
  have h1 : P.drop k = P[k]'(by omega) :: P.drop (k + 1) := List.drop_eq_getElem_cons (by omega)
  rw [h1, List.drop_of_length_le (by omega : P.length ≤ k + 1)]
  rfl
end Go.Proofs.YtogpkhpephhbiaaGreatDoor.Sc
namespace Go.Proofs.YtogpkhpephhbiaaGreatDoor.Sc
open Go.RowKit
set_option maxRecDepth 100000

theorem Clone_any (s : ByteArray) (hs : s.size ≤ 281474976710656) (w : World) : Calls Tryz.prog 33 #[.string s] w fun e w' => e = .returned (.string s) ∧ Below w.heap.size w w' := by
  have HC := hide3 (Tryz.stringslite_Clone s w hs)
  go_enter Tryz.func33, Tryz.ntmps33
  go_wp2_with (go_at_call 50; refine HC.out.mono ?_; rintro e w1 ⟨rfl, hb⟩; have HB := hide3 hb; clear hb)
  go_ret
  exact ⟨rfl, HB.out⟩

/-- What both answer, with a bound. -/
def ansE (t : ByteArray) (most : Int) : Int := if most < (t.size : Int) then 25 else linE (scanR t.data.toList [] [] [])
def ansN (t : ByteArray) (most : Int) : Nat := if most < (t.size : Int) then 0 else linN (scanR t.data.toList [] [] [])
def ansL (t : ByteArray) (most : Int) : List (List Bs) := if most < (t.size : Int) then [] else linL (scanR t.data.toList [] [] [])
/-- A new answer. -/
def LinesQ (w : World) (e1 : Int) (n : Nat) (L : List (List Bs)) (e : Ending) (w' : World) : Prop := ∃ v, e = .returned (.tuple #[v, .int .i64 e1, .int .i64 (n : Int)]) ∧ OwnLL w' w.heap.size v L ∧ Below w.heap.size w w'

/-- Lines of a text are not too many. -/
theorem scan_fits : ∀ (t cur : Bs) (ws : List Bs) (ls L : List (List Bs)) (N : Nat), scanR t cur ws ls = .ok L → ls.length + t.length ≤ N → ws.length + t.length ≤ N → (∀ l ∈ ls, l.length ≤ N) → L.length ≤ N ∧ ∀ l ∈ L, l.length ≤ N
  | [], cur, ws, ls, L, N, h, h1, h2, h3 => by
    unfold scanR at h
    split at h
    · cases h; simp at h1; exact ⟨h1, h3⟩
    · cases h
  | b :: r, cur, ws, ls, L, N, h, h1, h2, h3 => by
    simp only [List.length_cons] at h1 h2
    by_cases hb : wB b = true
    · rw [scan_b hb] at h; exact scan_fits r _ _ _ L N h (by omega) (by omega) h3
    · have hb' : wB b = false := by simpa using hb
      by_cases hc : cur = []
      · subst hc; rw [scan_none hb'] at h; cases h
      · by_cases h32 : b = 32
        · subst h32; rw [scan_32 hc] at h; exact scan_fits r _ _ _ L N h (by omega) (by simp; omega) h3
        · by_cases h10 : b = 10
          · subst h10
            rw [scan_10 hc] at h
            refine scan_fits r _ _ _ L N h (by simp; omega) (by simp; omega) ?_
            intro l hl
            rcases List.mem_append.1 hl with hl | hl
            · exact h3 l hl
            · rw [List.mem_singleton.1 hl]; simp; omega
          · rw [scan_bad hb' h32 h10] at h; cases h
theorem lin_fits (t : ByteArray) : (linL (scanR t.data.toList [] [] [])).length ≤ t.size ∧ ∀ l ∈ linL (scanR t.data.toList [] [] []), l.length ≤ t.size := by
  cases h : scanR t.data.toList [] [] [] with
  | error n => exact ⟨Nat.zero_le _, fun l hl => by cases hl⟩
  | ok L => exact scan_fits _ _ _ _ L t.size h (by rw [list_size]; simp) (by rw [list_size]; simp) (fun l hl => by cases hl)
end Go.Proofs.YtogpkhpephhbiaaGreatDoor.Sc
