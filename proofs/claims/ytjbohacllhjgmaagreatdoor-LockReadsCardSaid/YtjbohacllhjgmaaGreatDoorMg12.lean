/- Lk28, Fold1, Ref2, Lk33, laid in one text. -/
import Derived.Deep.AppendLies
import Derived.Laws.OwnMore
import Derived.Laws.AppendOwn
import Derived.OwnWalk
import Derived.Test.YtjbohacllhjgmaaGreatDoorMg11
namespace Go.Proofs.YtjbohacllhjgmaaGreatDoor
open Go.RowKit
open Sc (KeepP hide3 keepBelow Bs ba textT lineT nameA wp_region_keep callC callC')
set_option maxRecDepth 100000

theorem catZ (a b : ByteArray) : (a ++ b).size = a.size + b.size := by simp
theorem textT_app (A B : List (List Bs)) : textT (A ++ B) = textT A ++ textT B := by simp [textT]
theorem textT_pre (A B : List (List Bs)) : (textT A).length ≤ (textT (A ++ B)).length := by rw [textT_app, List.length_append]; omega
/-- The lines of the nodes so far. -/
def preL (G : List Nd) (k : Nat) : List (List Bs) := [wLock] :: outL (G.take k)
def hdL (k : Nat) (x : Nd) : List Bs := if k = 0 then [wRoot] else nodeL x
theorem preL_step {G : List Nd} {k : Nat} (h : k < G.length) : preL G (k + 1) = preL G k ++ (hdL k G[k] :: listL G[k]) := by
  unfold preL hdL
  rw [List.take_succ_eq_append_getElem h]
  by_cases hk : k = 0
  · subst hk
    simp [outL, restL]
  · have hne : G.take k ≠ [] := fun e => by
      have := congrArg List.length e
      rw [List.length_take] at this
      simp only [List.length_nil] at this
      omega
    rw [outL_snoc hne, if_neg hk]
    rfl
theorem preL_le {G : List Nd} : ∀ {k n : Nat}, k ≤ n → n ≤ G.length → (textT (preL G k)).length ≤ (textT (preL G n)).length
  | k, 0, h, _ => (by obtain rfl : k = 0 := (by omega); exact Nat.le_refl _)
  | k, n + 1, h, hn => by
    rcases Nat.lt_or_ge k (n + 1) with h1 | h1
    · refine Nat.le_trans (preL_le (k := k) (n := n) (by omega) (by omega)) ?_
      rw [preL_step (by omega)]
      exact textT_pre _ _
    · obtain rfl : k = n + 1 := by omega
      exact Nat.le_refl _
theorem preL_short {G : List Nd} (h : mayG G = true) {k : Nat} (hk : k ≤ G.length) : (textT (preL G k)).length ≤ 1048576 := by
  refine Nat.le_trans (preL_le hk (Nat.le_refl _)) ?_
  obtain ⟨_, h2⟩ := linesG_ok h
  have hne : G ≠ [] := by rintro rfl; cases h
  rw [linesG_out hne] at h2
  unfold preL
  rw [List.take_length]
  exact h2
theorem map_snoc {α β : Type} (f : α → β) {L : List α} {m : Nat} (h : m < L.length) : (L.take (m + 1)).map f = (L.take m).map f ++ [f L[m]] := by
  rw [List.take_succ_eq_append_getElem h, List.map_append]
  rfl
theorem map_split {α β : Type} (f : α → β) (L : List α) (m : Nat) : L.map f = (L.take m).map f ++ (L.drop m).map f := by rw [← List.map_append, List.take_append_drop]
theorem nm_len {s : ByteArray} (h : nameA s.data.toList = true) : s.size ≤ 16 := by
  have := name_len h
  rwa [Sc.list_size] at this
theorem keepPn2 (g o : Nat) (p : Pn) : KeepP fun W => PnIn W g o p := fun _ _ h hb => h.below hb
theorem keepEg2 (g o : Nat) (p : Eg) : KeepP fun W => EgIn W g o p := fun _ _ h hb => h.below hb
theorem pins_cell2 {W : World} {ad : Option Addr} {n cap : Nat} {L : List Pn} (h : PinsAt W (.slice ad n cap) L) {m : Nat} (hm : m < L.length) : ∃ g o, ad = some ⟨g, o, none⟩ ∧ PnIn W g (o + m * 4) L[m] := by
  obtain ⟨a1, c1, hv, hc, hl⟩ := h
  cases hv
  rcases hl with rfl | ⟨g, o, rfl, _, hs⟩
  · cases hm
  · exact ⟨g, o, rfl, hs m hm⟩
theorem edges_cell2 {W : World} {ad : Option Addr} {n cap : Nat} {L : List Eg} (h : EdgesAt W (.slice ad n cap) L) {m : Nat} (hm : m < L.length) : ∃ g o, ad = some ⟨g, o, none⟩ ∧ EgIn W g (o + m * 2) L[m] := by
  obtain ⟨a1, c1, hv, hc, hl⟩ := h
  cases hv
  rcases hl with rfl | ⟨g, o, rfl, _, hs⟩
  · cases hm
  · exact ⟨g, o, rfl, hs m hm⟩
theorem line_data (x y z : Bs) : lineT [x, y, z] = x ++ [32] ++ (y ++ [32] ++ (z ++ [10])) := rfl
theorem cat_line {T A B C : ByteArray} {x : Bs} (hA : A.data.toList = x ++ [32]) : (T ++ A ++ B ++ ⟨#[32]⟩ ++ C ++ ⟨#[10]⟩).data.toList = T.data.toList ++ lineT [x, B.data.toList, C.data.toList] := by
  rw [line_data]
  simp [hA]

set_option maxHeartbeats 12800000 in
theorem rTextG_walk {G : List Nd} {ad : Option Addr} {cap : Nat} {w : World} (h : NodesAt w (.slice ad G.length cap) G) (hm : mayG G = true) :
    Calls Tryz.prog 15 #[.agg #[.slice ad G.length cap]] w fun e w' => e = .returned (.string (textG G)) ∧ Below w.heap.size w w' := by
  obtain ⟨gl, g0, g3, g4⟩ := mayG_nodes hm
  obtain ⟨ga, oa, rfl, hcs⟩ : ∃ ga oa, ad = some ⟨ga, oa, none⟩ ∧ ∀ W, Below w.heap.size w W → ∀ i (h : i < G.length), ∃ vc ve, NdIn W ga (oa + i * 6) G[i] vc ve := by
    obtain ⟨a1, c1, hv, _, hl⟩ := h
    cases hv
    rcases hl with rfl | ⟨g, o, rfl, _, hs⟩
    · cases hm
    · exact ⟨g, o, rfl, fun W hb i hi => by obtain ⟨vc, ve, k⟩ := hs i hi; exact ⟨vc, ve, k.below hb⟩⟩
  have HCS := hide3 hcs
  have HG3 := hide3 g3
  have HG4 := hide3 g4
  have HSHORT : Hid (∀ k, k ≤ G.length → (textT (preL G k)).length ≤ 1048576) := fun k hk => preL_short hm hk
  have HEND : Hid (∀ T : ByteArray, T.data.toList = textT (preL G G.length) → T = textG G) := fun T hT => by
    have hne : G ≠ [] := by rintro rfl; cases hm
    unfold textG
    rw [linesG_out hne, ← Sc.ba_of T, hT]
    unfold preL
    rw [List.take_length]
  have HB0 : Hid (Below w.heap.size w (w.alloc (.cells #[.slice (some ⟨ga, oa, none⟩) G.length cap] 24)) ∧ BxG (w.alloc (.cells #[.slice (some ⟨ga, oa, none⟩) G.length cap] 24)) w.heap.size (.slice (some ⟨ga, oa, none⟩) G.length cap)) := ⟨boxB _ _, BxG.new rfl _⟩
  clear h hm hcs g3 g4 g0
  go_enter Tryz.func15, Tryz.ntmps15
  go_wp2_with fail
  go_loopw [3, 4] (fun vt i wr => ∃ (k : Nat) (T : ByteArray), k ≤ G.length ∧ i = .int .i64 k ∧ vt = .string T ∧ T.data.toList = textT (preL G k) ∧ Below w.heap.size w wr ∧ BxG wr w.heap.size (.slice (some ⟨ga, oa, none⟩) G.length cap)) (fun _ i _ => G.length - (intOf i).toNat)
  case atStart => exact ⟨0, ⟨#[108, 111, 99, 107, 10]⟩, Nat.zero_le _, rfl, rfl, rfl, HB0.out⟩
  case round =>
    clear HB0
    obtain ⟨k, T, hk, rfl, rfl, hT, hb⟩ := hrel
    have HT := hide3 hT
    have HB := hide3 hb
    obtain ⟨_, y0, y1⟩ := hb
    clear hT
    by_cases hlt : k < G.length
    · obtain ⟨vc, ve, hx⟩ := HCS.out wr HB.out.1 k hlt
      have HNP : Hid (∀ p ∈ G[k].cx, p.nm.size ≤ 16 ∧ mayV p.a p.b p.c = true) := fun p hp => ⟨nm_len ((HG3.out _ (List.getElem_mem hlt)).1.2 p hp).1, ((HG3.out _ (List.getElem_mem hlt)).1.2 p hp).2⟩
      have HNE : Hid (∀ e ∈ G[k].ed, e.lb.size ≤ 16 ∧ 0 ≤ e.to ∧ e.to ≤ 999) := fun p hp => ⟨nm_len ((HG3.out _ (List.getElem_mem hlt)).2.2 p hp).1, ((HG3.out _ (List.getElem_mem hlt)).2.2 p hp).2⟩
      have hl1 := (HG3.out _ (List.getElem_mem hlt)).1.1
      have hl2 := (HG3.out _ (List.getElem_mem hlt)).2.1
      have HNN : Hid (0 < k → G[k].nm.size ≤ 16 ∧ mayV G[k].a G[k].b G[k].c = true) := fun h => ⟨nm_len (HG4.out k hlt h).1, (HG4.out k hlt h).2⟩
      have HPS := hide3 (preL_step hlt)
      have hTz : T.size ≤ 1048576 := by rw [← Sc.list_size, HT.out]; exact HSHORT.out k hk
      have HS1 : Hid (∀ A B, preL G k ++ (hdL k G[k] :: listL G[k]) = A ++ B → (textT A).length ≤ 1048576) := fun A B e => by
        have := HSHORT.out (k + 1) hlt
        rw [HPS.out, e] at this
        exact Nat.le_trans (textT_pre A B) this
      clear HCS HG3 HG4 HSHORT HEND
      generalize G[k] = x at *
      obtain ⟨av, cv, rfl⟩ := hx.2.1.1.sl
      obtain ⟨ae, ce, rfl⟩ := hx.2.1.2.sl
      have HX1 := hide3 (hx.below (boxB wr (.cells #[.string x.nm, .int .i64 x.a, .int .i64 x.b, .int .i64 x.c, .slice av x.cx.length cv, .slice ae x.ed.length ce] 43)))
      have HKM : Hid (KM w (.slice (some ⟨ga, oa, none⟩) G.length cap) x (.slice av x.cx.length cv) (.slice ae x.ed.length ce) wr.heap.size (wr.alloc (.cells #[.string x.nm, .int .i64 x.a, .int .i64 x.b, .int .i64 x.c, .slice av x.cx.length cv, .slice ae x.ed.length ce] 43))) := ⟨⟨below_then HB.out.1 (boxB _ _), keepBxG _ _ _ _ HB.out.2 (boxB _ _)⟩, BxNd.new rfl _ _ _, HX1.out.2.1.1, HX1.out.2.1.2⟩
      have HKP := hide3 (keepKM w (.slice (some ⟨ga, oa, none⟩) G.length cap) x (.slice av x.cx.length cv) (.slice ae x.ed.length ce) wr.heap.size)
      obtain ⟨⟨x0, x1, x2, x3, x4, x5⟩, _, x6⟩ := hx
      clear HX1
      obtain ⟨wa, rfl⟩ : ∃ q, q = wr := ⟨wr, rfl⟩
      rcases Nat.eq_zero_or_pos k with hk0 | hk0
      · have hk1 : ((k : Int) == 0) = true := by rw [hk0]; rfl
        have z0 : (⟨#[114, 111, 111, 116, 10]⟩ : ByteArray).size = 5 := rfl
        have e0 := fun W : World => run_string_add_sum (P := Tryz.prog) (w := W) T ⟨#[114, 111, 111, 116, 10]⟩ (by omega)
        have HT1 : Hid ((T ++ ⟨#[114, 111, 111, 116, 10]⟩).data.toList = textT (preL G k ++ [hdL k x])) := by
          unfold Hid
          rw [textT_app, ← HT.out]
          have : (T ++ ⟨#[114, 111, 111, 116, 10]⟩).data.toList = T.data.toList ++ [114, 111, 111, 116, 10] := by simp
          rw [this]
          unfold hdL
          rw [if_pos hk0]
          rfl
        clear z0 HNN HT hk0
        go_wp2_with fail
        generalize T ++ ⟨#[114, 111, 111, 116, 10]⟩ = T1 at *
        clear e0 x0 x1 x2 x3 x4 x5 x6 hTz
        go_loopw [3, 6] (fun vt j wq => ∃ (m : Nat) (T2 : ByteArray), m ≤ x.cx.length ∧ j = .int .i64 m ∧ vt = .string T2 ∧ T2.data.toList = textT (preL G k ++ [hdL k x] ++ (x.cx.take m).map pinL) ∧ KM w (.slice (some ⟨ga, oa, none⟩) G.length cap) x (.slice av x.cx.length cv) (.slice ae x.ed.length ce) wa.heap.size wq) (fun _ j _ => x.cx.length - (intOf j).toNat)
        case atStart => exact ⟨0, T1, Nat.zero_le _, rfl, rfl, by rw [HT1.out]; simp, HKM.out⟩
        case round =>
          clear HKM HT1
          obtain ⟨m, T2, hm, rfl, rfl, hT2, hkm⟩ := hrel
          have HT2 := hide3 hT2
          have HKM := hide3 hkm
          obtain ⟨_, ⟨⟨b0, b1, b2, b3, b4, b5⟩, b6⟩, _, _⟩ := hkm
          clear hT2
          by_cases hml : m < x.cx.length
          · obtain ⟨gp, op, rfl, hpi⟩ := pins_cell2 HKM.out.2.2.1 hml
            have hT2z : T2.size ≤ 1048576 := by
              rw [← Sc.list_size, HT2.out]
              exact HS1.out _ ((x.cx.drop m).map pinL ++ x.ed.map edgL) (by
                unfold listL
                rw [map_split pinL x.cx m]
                simp only [List.append_assoc, List.cons_append, List.nil_append])
            have HSN : Hid ((x.cx.take (m + 1)).map pinL = (x.cx.take m).map pinL ++ [pinL x.cx[m]]) := map_snoc _ hml
            have hpz := HNP.out _ (List.getElem_mem hml)
            have HO : Hid (KM w (.slice (some ⟨ga, oa, none⟩) G.length cap) x (.slice (some ⟨gp, op, none⟩) x.cx.length cv) (.slice ae x.ed.length ce) wa.heap.size wr ∧ PnIn wr gp (op + m * 4) x.cx[m]) := ⟨HKM.out, hpi⟩
            have HK : Hid (KeepP fun W => KM w (.slice (some ⟨ga, oa, none⟩) G.length cap) x (.slice (some ⟨gp, op, none⟩) x.cx.length cv) (.slice ae x.ed.length ce) wa.heap.size W ∧ PnIn W gp (op + m * 4) x.cx[m]) := HKP.out.and (keepPn2 _ _ _)
            clear HKM hpi
            generalize x.cx[m] = p at *
            have HT3 : Hid ((T2 ++ ⟨#[119, 105, 116, 104, 32]⟩ ++ p.nm ++ ⟨#[32]⟩ ++ textV p.a p.b p.c ++ ⟨#[10]⟩).data.toList = textT (preL G k ++ [hdL k x] ++ (x.cx.take (m + 1)).map pinL)) := by
              unfold Hid
              rw [HSN.out, ← List.append_assoc, textT_app, ← HT2.out, cat_line (x := wWith) rfl]
              simp [textT, pinL, bsV, wWith]
            have hvz : (textV p.a p.b p.c).size ≤ 11 := by have := bsV_len hpz.2; unfold bsV at this; rwa [Sc.list_size] at this
            have HC : Hid (∀ W, Calls Tryz.prog 25 #[.agg #[.int .i64 p.a, .int .i64 p.b, .int .i64 p.c]] W fun e w' => e = .returned (.string (textV p.a p.b p.c)) ∧ Below W.heap.size W w') := fun W => rPrint_any _ _ _ W
            generalize textV p.a p.b p.c = pt at *
            have z1 : (⟨#[32]⟩ : ByteArray).size = 1 := rfl
            have z2 : (⟨#[10]⟩ : ByteArray).size = 1 := rfl
            have z3 : (⟨#[119, 105, 116, 104, 32]⟩ : ByteArray).size = 5 := rfl
            have hpn := hpz.1
            have e1 := fun W : World => run_string_add_sum (P := Tryz.prog) (w := W) T2 ⟨#[119, 105, 116, 104, 32]⟩ (by omega)
            have e2 := fun W : World => run_string_add_sum (P := Tryz.prog) (w := W) (T2 ++ ⟨#[119, 105, 116, 104, 32]⟩) p.nm (by rw [catZ]; omega)
            have e3 := fun W : World => run_string_add_sum (P := Tryz.prog) (w := W) (T2 ++ ⟨#[119, 105, 116, 104, 32]⟩ ++ p.nm) ⟨#[32]⟩ (by rw [catZ, catZ]; omega)
            have e4 := fun W : World => run_string_add_sum (P := Tryz.prog) (w := W) (T2 ++ ⟨#[119, 105, 116, 104, 32]⟩ ++ p.nm ++ ⟨#[32]⟩) pt (by rw [catZ, catZ, catZ]; omega)
            have e5 := fun W : World => run_string_add_sum (P := Tryz.prog) (w := W) (T2 ++ ⟨#[119, 105, 116, 104, 32]⟩ ++ p.nm ++ ⟨#[32]⟩ ++ pt) ⟨#[10]⟩ (by rw [catZ, catZ, catZ, catZ]; omega)
            clear z1 z2 z3 hpn hpz hvz hT2z HT2 HSN
            go_wp2_with fail
            clear b0 b1 b2 b3 b4 b5 b6
            refine wp_region_keep HK.out (by kernel_rfl) (by kernel_rfl) (by first | exact HO.out | exact HK.out.drew HO.out) ?_
            intro C hin hout
            have HIN := hide3 hin
            have HOUT := hide3 hout
            clear hin hout HO
            repeat
              (with_reducible refine wpQuiet_step (fun K hK => ?_)
               go_simp
               first
                 | (refine hK _ ?_; clear hK K)
                 | (apply Exists.intro; refine ⟨fun w1 hC => ?_, hK _ ?_⟩; (focus ((first | (go_at_call 25; with_reducible exact callC HIN.out HOUT.out HK.out HC.out w1 hC) | (exact rfl) | (obtain ⟨⟨⟨hb1, hg1⟩, ⟨⟨b0, b1, b2, b3, b4, b5⟩, b6⟩, hp1, hq1⟩, ⟨⟨p0, p1, p2, p3⟩, p4⟩⟩ := HOUT.out w1 hC; clear hC; go_simp; first | done | exact rfl)); done)); clear hK K))
            refine wpQuiet_nil ?_
            intro wn hC
            have HO := hide3 (HOUT.out _ hC)
            clear hC HIN HOUT C
            obtain ⟨⟨⟨hb1, hg1⟩, ⟨⟨b0, b1, b2, b3, b4, b5⟩, b6⟩, hp1, hq1⟩, ⟨⟨p0, p1, p2, p3⟩, p4⟩⟩ := HO.out
            go_wp2
            exact ⟨⟨m + 1, _, by omega, by go_num, rfl, HT3.out, HO.out.1⟩, by simp [intOf]; omega⟩
          · have hme : m = x.cx.length := by omega
            have HT4 : Hid (T2.data.toList = textT (preL G k ++ [hdL k x] ++ x.cx.map pinL)) := by
              unfold Hid
              rw [HT2.out, hme, List.take_length]
            subst hme
            clear HT2
            obtain ⟨wb, rfl⟩ : ∃ q, q = wr := ⟨wr, rfl⟩
            go_wp2_with fail
            clear b0 b1 b2 b3 b4 b5 b6
            go_loopw [3, 7] (fun vt j wq => ∃ (m : Nat) (T2 : ByteArray), m ≤ x.ed.length ∧ j = .int .i64 m ∧ vt = .string T2 ∧ T2.data.toList = textT (preL G k ++ [hdL k x] ++ x.cx.map pinL ++ (x.ed.take m).map edgL) ∧ KM w (.slice (some ⟨ga, oa, none⟩) G.length cap) x (.slice av x.cx.length cv) (.slice ae x.ed.length ce) wa.heap.size wq) (fun _ j _ => x.ed.length - (intOf j).toNat)
            case atStart => exact ⟨0, T2, Nat.zero_le _, rfl, rfl, by rw [HT4.out]; simp, HKM.out⟩
            case round =>
              clear HKM HT4
              obtain ⟨m, T2, hm, rfl, rfl, hT2, hkm⟩ := hrel
              have HT2 := hide3 hT2
              have HKM := hide3 hkm
              obtain ⟨_, ⟨⟨b0, b1, b2, b3, b4, b5⟩, b6⟩, _, _⟩ := hkm
              clear hT2
              by_cases hml : m < x.ed.length
              · obtain ⟨gp, op, rfl, hpi⟩ := edges_cell2 HKM.out.2.2.2 hml
                have hT2z : T2.size ≤ 1048576 := by
                  rw [← Sc.list_size, HT2.out]
                  exact HS1.out _ ((x.ed.drop m).map edgL) (by
                    unfold listL
                    rw [map_split edgL x.ed m]
                    simp only [List.append_assoc, List.cons_append, List.nil_append])
                have HSN : Hid ((x.ed.take (m + 1)).map edgL = (x.ed.take m).map edgL ++ [edgL x.ed[m]]) := map_snoc _ hml
                have hpz := HNE.out _ (List.getElem_mem hml)
                have HO : Hid (KM w (.slice (some ⟨ga, oa, none⟩) G.length cap) x (.slice av x.cx.length cv) (.slice (some ⟨gp, op, none⟩) x.ed.length ce) wa.heap.size wr ∧ EgIn wr gp (op + m * 2) x.ed[m]) := ⟨HKM.out, hpi⟩
                have HK : Hid (KeepP fun W => KM w (.slice (some ⟨ga, oa, none⟩) G.length cap) x (.slice av x.cx.length cv) (.slice (some ⟨gp, op, none⟩) x.ed.length ce) wa.heap.size W ∧ EgIn W gp (op + m * 2) x.ed[m]) := HKP.out.and (keepEg2 _ _ _)
                clear HKM hpi
                generalize x.ed[m] = p at *
                have HT3 : Hid ((T2 ++ ⟨#[116, 111, 32]⟩ ++ p.lb ++ ⟨#[32]⟩ ++ (⟨(Lib.itoa p.to).toArray⟩ : ByteArray) ++ ⟨#[10]⟩).data.toList = textT (preL G k ++ [hdL k x] ++ x.cx.map pinL ++ (x.ed.take (m + 1)).map edgL)) := by
                  unfold Hid
                  rw [HSN.out, ← List.append_assoc, textT_app, ← HT2.out, cat_line (x := wTo) rfl]
                  simp [textT, edgL, wTo]
                have hvz : (⟨(Lib.itoa p.to).toArray⟩ : ByteArray).size ≤ 11 := by
                  have := itoa_len hpz.2.1 hpz.2.2
                  show (Lib.itoa p.to).toArray.size ≤ 11
                  rw [List.size_toArray]
                  omega
                have HC : Hid (∀ W, Calls Tryz.prog 30 #[.int .i64 p.to] W fun e w' => e = .returned (.string ⟨(Lib.itoa p.to).toArray⟩) ∧ Below W.heap.size W w') := fun W => Number_any _ hpz.2.1 hpz.2.2 W
                generalize (⟨(Lib.itoa p.to).toArray⟩ : ByteArray) = pt at *
                have z1 : (⟨#[32]⟩ : ByteArray).size = 1 := rfl
                have z2 : (⟨#[10]⟩ : ByteArray).size = 1 := rfl
                have z3 : (⟨#[116, 111, 32]⟩ : ByteArray).size = 3 := rfl
                have hpn := hpz.1
                have e1 := fun W : World => run_string_add_sum (P := Tryz.prog) (w := W) T2 ⟨#[116, 111, 32]⟩ (by omega)
                have e2 := fun W : World => run_string_add_sum (P := Tryz.prog) (w := W) (T2 ++ ⟨#[116, 111, 32]⟩) p.lb (by rw [catZ]; omega)
                have e3 := fun W : World => run_string_add_sum (P := Tryz.prog) (w := W) (T2 ++ ⟨#[116, 111, 32]⟩ ++ p.lb) ⟨#[32]⟩ (by rw [catZ, catZ]; omega)
                have e4 := fun W : World => run_string_add_sum (P := Tryz.prog) (w := W) (T2 ++ ⟨#[116, 111, 32]⟩ ++ p.lb ++ ⟨#[32]⟩) pt (by rw [catZ, catZ, catZ]; omega)
                have e5 := fun W : World => run_string_add_sum (P := Tryz.prog) (w := W) (T2 ++ ⟨#[116, 111, 32]⟩ ++ p.lb ++ ⟨#[32]⟩ ++ pt) ⟨#[10]⟩ (by rw [catZ, catZ, catZ, catZ]; omega)
                clear z1 z2 z3 hpn hpz hvz hT2z HT2 HSN
                go_wp2_with fail
                clear b0 b1 b2 b3 b4 b5 b6
                refine wp_region_keep HK.out (by kernel_rfl) (by kernel_rfl) (by first | exact HO.out | exact HK.out.drew HO.out) ?_
                intro C hin hout
                have HIN := hide3 hin
                have HOUT := hide3 hout
                clear hin hout HO
                repeat
                  (with_reducible refine wpQuiet_step (fun K hK => ?_)
                   go_simp
                   first
                     | (refine hK _ ?_; clear hK K)
                     | (apply Exists.intro; refine ⟨fun w1 hC => ?_, hK _ ?_⟩; (focus ((first | (go_at_call 30; with_reducible exact callC HIN.out HOUT.out HK.out HC.out w1 hC) | (exact rfl) | (obtain ⟨⟨⟨hb1, hg1⟩, ⟨⟨b0, b1, b2, b3, b4, b5⟩, b6⟩, hp1, hq1⟩, ⟨⟨p0, p1⟩, p4⟩⟩ := HOUT.out w1 hC; clear hC; go_simp; first | done | exact rfl)); done)); clear hK K))
                refine wpQuiet_nil ?_
                intro wn hC
                have HO := hide3 (HOUT.out _ hC)
                clear hC HIN HOUT C
                obtain ⟨⟨⟨hb1, hg1⟩, ⟨⟨b0, b1, b2, b3, b4, b5⟩, b6⟩, hp1, hq1⟩, ⟨⟨p0, p1⟩, p4⟩⟩ := HO.out
                go_wp2
                exact ⟨⟨m + 1, _, by omega, by go_num, rfl, HT3.out, HO.out.1⟩, by simp [intOf]; omega⟩
              · have hme : m = x.ed.length := by omega
                have HT4 : Hid (T2.data.toList = textT (preL G k ++ [hdL k x] ++ x.cx.map pinL ++ x.ed.map edgL)) := by
                  unfold Hid
                  rw [HT2.out, hme, List.take_length]
                subst hme
                clear HT2
                have HR : Hid (T2.data.toList = textT (preL G (k + 1))) := by
                  unfold Hid
                  rw [HT4.out, HPS.out]
                  unfold listL
                  simp
                clear HT4 HPS HS1
                go_wp2
                exact ⟨⟨k + 1, T2, by omega, by go_num, rfl, HR.out, HKM.out.1⟩, by simp [intOf]; omega⟩
      · have hk1 : ((k : Int) == 0) = false := by rw [beq_eq_false_iff_ne]; omega
        obtain ⟨hn1, hn2⟩ := HNN.out hk0
        have hvz : (textV x.a x.b x.c).size ≤ 11 := by have := bsV_len hn2; unfold bsV at this; rwa [Sc.list_size] at this
        have HC : Hid (∀ W, Calls Tryz.prog 25 #[.agg #[.int .i64 x.a, .int .i64 x.b, .int .i64 x.c]] W fun e w' => e = .returned (.string (textV x.a x.b x.c)) ∧ Below W.heap.size W w') := fun W => rPrint_any _ _ _ W
        have HT1 : Hid ((T ++ ⟨#[110, 111, 100, 101, 32]⟩ ++ x.nm ++ ⟨#[32]⟩ ++ textV x.a x.b x.c ++ ⟨#[10]⟩).data.toList = textT (preL G k ++ [hdL k x])) := by
          unfold Hid
          rw [textT_app, ← HT.out, cat_line (x := wNode) rfl]
          unfold hdL
          rw [if_neg (by omega)]
          simp [textT, nodeL, bsV, wNode]
        generalize textV x.a x.b x.c = pt at *
        have z1 : (⟨#[32]⟩ : ByteArray).size = 1 := rfl
        have z2 : (⟨#[10]⟩ : ByteArray).size = 1 := rfl
        have z3 : (⟨#[110, 111, 100, 101, 32]⟩ : ByteArray).size = 5 := rfl
        have e1 := fun W : World => run_string_add_sum (P := Tryz.prog) (w := W) T ⟨#[110, 111, 100, 101, 32]⟩ (by omega)
        have e2 := fun W : World => run_string_add_sum (P := Tryz.prog) (w := W) (T ++ ⟨#[110, 111, 100, 101, 32]⟩) x.nm (by rw [catZ]; omega)
        have e3 := fun W : World => run_string_add_sum (P := Tryz.prog) (w := W) (T ++ ⟨#[110, 111, 100, 101, 32]⟩ ++ x.nm) ⟨#[32]⟩ (by rw [catZ, catZ]; omega)
        have e4 := fun W : World => run_string_add_sum (P := Tryz.prog) (w := W) (T ++ ⟨#[110, 111, 100, 101, 32]⟩ ++ x.nm ++ ⟨#[32]⟩) pt (by rw [catZ, catZ, catZ]; omega)
        have e5 := fun W : World => run_string_add_sum (P := Tryz.prog) (w := W) (T ++ ⟨#[110, 111, 100, 101, 32]⟩ ++ x.nm ++ ⟨#[32]⟩ ++ pt) ⟨#[10]⟩ (by rw [catZ, catZ, catZ, catZ]; omega)
        have HO := HKM
        have HK := HKP
        clear z1 z2 z3 HNN HT HKM hn1 hn2 hvz hTz
        go_wp2_with fail
        clear x0 x1 x2 x3 x4 x5 x6
        refine wp_region_keep HK.out (by kernel_rfl) (by kernel_rfl) (by first | exact HO.out | exact HK.out.drew HO.out) ?_
        intro C hin hout
        have HIN := hide3 hin
        have HOUT := hide3 hout
        clear hin hout HO
        repeat
          (with_reducible refine wpQuiet_step (fun K hK => ?_)
           go_simp
           first
             | (refine hK _ ?_; clear hK K)
             | (apply Exists.intro; refine ⟨fun w1 hC => ?_, hK _ ?_⟩; (focus ((first | (go_at_call 25; with_reducible exact callC HIN.out HOUT.out HK.out HC.out w1 hC) | (exact rfl) | (obtain ⟨⟨hb1, hg1⟩, ⟨⟨b0, b1, b2, b3, b4, b5⟩, b6⟩, hp1, hq1⟩ := HOUT.out w1 hC; clear hC; go_simp; first | done | exact rfl)); done)); clear hK K))
        refine wpQuiet_nil ?_
        intro wn hC
        have HO := hide3 (HOUT.out _ hC)
        clear hC HIN HOUT C
        obtain ⟨⟨hb1, hg1⟩, ⟨⟨b0, b1, b2, b3, b4, b5⟩, b6⟩, hp1, hq1⟩ := HO.out
        have HKM := HO
        clear HO hb1 hg1 hp1 hq1 HK HC
        go_wp2_with fail
        generalize T ++ ⟨#[110, 111, 100, 101, 32]⟩ ++ x.nm ++ ⟨#[32]⟩ ++ pt ++ ⟨#[10]⟩ = T1 at *
        clear e1 e2 e3 e4 e5 b0 b1 b2 b3 b4 b5 b6
        go_loopw [3, 6] (fun vt j wq => ∃ (m : Nat) (T2 : ByteArray), m ≤ x.cx.length ∧ j = .int .i64 m ∧ vt = .string T2 ∧ T2.data.toList = textT (preL G k ++ [hdL k x] ++ (x.cx.take m).map pinL) ∧ KM w (.slice (some ⟨ga, oa, none⟩) G.length cap) x (.slice av x.cx.length cv) (.slice ae x.ed.length ce) wa.heap.size wq) (fun _ j _ => x.cx.length - (intOf j).toNat)
        case atStart => exact ⟨0, T1, Nat.zero_le _, rfl, rfl, by rw [HT1.out]; simp, HKM.out⟩
        case round =>
          clear HKM HT1
          obtain ⟨m, T2, hm, rfl, rfl, hT2, hkm⟩ := hrel
          have HT2 := hide3 hT2
          have HKM := hide3 hkm
          obtain ⟨_, ⟨⟨b0, b1, b2, b3, b4, b5⟩, b6⟩, _, _⟩ := hkm
          clear hT2
          by_cases hml : m < x.cx.length
          · obtain ⟨gp, op, rfl, hpi⟩ := pins_cell2 HKM.out.2.2.1 hml
            have hT2z : T2.size ≤ 1048576 := by
              rw [← Sc.list_size, HT2.out]
              exact HS1.out _ ((x.cx.drop m).map pinL ++ x.ed.map edgL) (by
                unfold listL
                rw [map_split pinL x.cx m]
                simp only [List.append_assoc, List.cons_append, List.nil_append])
            have HSN : Hid ((x.cx.take (m + 1)).map pinL = (x.cx.take m).map pinL ++ [pinL x.cx[m]]) := map_snoc _ hml
            have hpz := HNP.out _ (List.getElem_mem hml)
            have HO : Hid (KM w (.slice (some ⟨ga, oa, none⟩) G.length cap) x (.slice (some ⟨gp, op, none⟩) x.cx.length cv) (.slice ae x.ed.length ce) wa.heap.size wr ∧ PnIn wr gp (op + m * 4) x.cx[m]) := ⟨HKM.out, hpi⟩
            have HK : Hid (KeepP fun W => KM w (.slice (some ⟨ga, oa, none⟩) G.length cap) x (.slice (some ⟨gp, op, none⟩) x.cx.length cv) (.slice ae x.ed.length ce) wa.heap.size W ∧ PnIn W gp (op + m * 4) x.cx[m]) := HKP.out.and (keepPn2 _ _ _)
            clear HKM hpi
            generalize x.cx[m] = p at *
            have HT3 : Hid ((T2 ++ ⟨#[119, 105, 116, 104, 32]⟩ ++ p.nm ++ ⟨#[32]⟩ ++ textV p.a p.b p.c ++ ⟨#[10]⟩).data.toList = textT (preL G k ++ [hdL k x] ++ (x.cx.take (m + 1)).map pinL)) := by
              unfold Hid
              rw [HSN.out, ← List.append_assoc, textT_app, ← HT2.out, cat_line (x := wWith) rfl]
              simp [textT, pinL, bsV, wWith]
            have hvz : (textV p.a p.b p.c).size ≤ 11 := by have := bsV_len hpz.2; unfold bsV at this; rwa [Sc.list_size] at this
            have HC : Hid (∀ W, Calls Tryz.prog 25 #[.agg #[.int .i64 p.a, .int .i64 p.b, .int .i64 p.c]] W fun e w' => e = .returned (.string (textV p.a p.b p.c)) ∧ Below W.heap.size W w') := fun W => rPrint_any _ _ _ W
            generalize textV p.a p.b p.c = pt at *
            have z1 : (⟨#[32]⟩ : ByteArray).size = 1 := rfl
            have z2 : (⟨#[10]⟩ : ByteArray).size = 1 := rfl
            have z3 : (⟨#[119, 105, 116, 104, 32]⟩ : ByteArray).size = 5 := rfl
            have hpn := hpz.1
            have e1 := fun W : World => run_string_add_sum (P := Tryz.prog) (w := W) T2 ⟨#[119, 105, 116, 104, 32]⟩ (by omega)
            have e2 := fun W : World => run_string_add_sum (P := Tryz.prog) (w := W) (T2 ++ ⟨#[119, 105, 116, 104, 32]⟩) p.nm (by rw [catZ]; omega)
            have e3 := fun W : World => run_string_add_sum (P := Tryz.prog) (w := W) (T2 ++ ⟨#[119, 105, 116, 104, 32]⟩ ++ p.nm) ⟨#[32]⟩ (by rw [catZ, catZ]; omega)
            have e4 := fun W : World => run_string_add_sum (P := Tryz.prog) (w := W) (T2 ++ ⟨#[119, 105, 116, 104, 32]⟩ ++ p.nm ++ ⟨#[32]⟩) pt (by rw [catZ, catZ, catZ]; omega)
            have e5 := fun W : World => run_string_add_sum (P := Tryz.prog) (w := W) (T2 ++ ⟨#[119, 105, 116, 104, 32]⟩ ++ p.nm ++ ⟨#[32]⟩ ++ pt) ⟨#[10]⟩ (by rw [catZ, catZ, catZ, catZ]; omega)
            clear z1 z2 z3 hpn hpz hvz hT2z HT2 HSN
            go_wp2_with fail
            clear b0 b1 b2 b3 b4 b5 b6
            refine wp_region_keep HK.out (by kernel_rfl) (by kernel_rfl) (by first | exact HO.out | exact HK.out.drew HO.out) ?_
            intro C hin hout
            have HIN := hide3 hin
            have HOUT := hide3 hout
            clear hin hout HO
            repeat
              (with_reducible refine wpQuiet_step (fun K hK => ?_)
               go_simp
               first
                 | (refine hK _ ?_; clear hK K)
                 | (apply Exists.intro; refine ⟨fun w1 hC => ?_, hK _ ?_⟩; (focus ((first | (go_at_call 25; with_reducible exact callC HIN.out HOUT.out HK.out HC.out w1 hC) | (exact rfl) | (obtain ⟨⟨⟨hb1, hg1⟩, ⟨⟨b0, b1, b2, b3, b4, b5⟩, b6⟩, hp1, hq1⟩, ⟨⟨p0, p1, p2, p3⟩, p4⟩⟩ := HOUT.out w1 hC; clear hC; go_simp; first | done | exact rfl)); done)); clear hK K))
            refine wpQuiet_nil ?_
            intro wn hC
            have HO := hide3 (HOUT.out _ hC)
            clear hC HIN HOUT C
            obtain ⟨⟨⟨hb1, hg1⟩, ⟨⟨b0, b1, b2, b3, b4, b5⟩, b6⟩, hp1, hq1⟩, ⟨⟨p0, p1, p2, p3⟩, p4⟩⟩ := HO.out
            go_wp2
            exact ⟨⟨m + 1, _, by omega, by go_num, rfl, HT3.out, HO.out.1⟩, by simp [intOf]; omega⟩
          · have hme : m = x.cx.length := by omega
            have HT4 : Hid (T2.data.toList = textT (preL G k ++ [hdL k x] ++ x.cx.map pinL)) := by
              unfold Hid
              rw [HT2.out, hme, List.take_length]
            subst hme
            clear HT2
            obtain ⟨wb, rfl⟩ : ∃ q, q = wr := ⟨wr, rfl⟩
            go_wp2_with fail
            clear b0 b1 b2 b3 b4 b5 b6
            go_loopw [3, 7] (fun vt j wq => ∃ (m : Nat) (T2 : ByteArray), m ≤ x.ed.length ∧ j = .int .i64 m ∧ vt = .string T2 ∧ T2.data.toList = textT (preL G k ++ [hdL k x] ++ x.cx.map pinL ++ (x.ed.take m).map edgL) ∧ KM w (.slice (some ⟨ga, oa, none⟩) G.length cap) x (.slice av x.cx.length cv) (.slice ae x.ed.length ce) wa.heap.size wq) (fun _ j _ => x.ed.length - (intOf j).toNat)
            case atStart => exact ⟨0, T2, Nat.zero_le _, rfl, rfl, by rw [HT4.out]; simp, HKM.out⟩
            case round =>
              clear HKM HT4
              obtain ⟨m, T2, hm, rfl, rfl, hT2, hkm⟩ := hrel
              have HT2 := hide3 hT2
              have HKM := hide3 hkm
              obtain ⟨_, ⟨⟨b0, b1, b2, b3, b4, b5⟩, b6⟩, _, _⟩ := hkm
              clear hT2
              by_cases hml : m < x.ed.length
              · obtain ⟨gp, op, rfl, hpi⟩ := edges_cell2 HKM.out.2.2.2 hml
                have hT2z : T2.size ≤ 1048576 := by
                  rw [← Sc.list_size, HT2.out]
                  exact HS1.out _ ((x.ed.drop m).map edgL) (by
                    unfold listL
                    rw [map_split edgL x.ed m]
                    simp only [List.append_assoc, List.cons_append, List.nil_append])
                have HSN : Hid ((x.ed.take (m + 1)).map edgL = (x.ed.take m).map edgL ++ [edgL x.ed[m]]) := map_snoc _ hml
                have hpz := HNE.out _ (List.getElem_mem hml)
                have HO : Hid (KM w (.slice (some ⟨ga, oa, none⟩) G.length cap) x (.slice av x.cx.length cv) (.slice (some ⟨gp, op, none⟩) x.ed.length ce) wa.heap.size wr ∧ EgIn wr gp (op + m * 2) x.ed[m]) := ⟨HKM.out, hpi⟩
                have HK : Hid (KeepP fun W => KM w (.slice (some ⟨ga, oa, none⟩) G.length cap) x (.slice av x.cx.length cv) (.slice (some ⟨gp, op, none⟩) x.ed.length ce) wa.heap.size W ∧ EgIn W gp (op + m * 2) x.ed[m]) := HKP.out.and (keepEg2 _ _ _)
                clear HKM hpi
                generalize x.ed[m] = p at *
                have HT3 : Hid ((T2 ++ ⟨#[116, 111, 32]⟩ ++ p.lb ++ ⟨#[32]⟩ ++ (⟨(Lib.itoa p.to).toArray⟩ : ByteArray) ++ ⟨#[10]⟩).data.toList = textT (preL G k ++ [hdL k x] ++ x.cx.map pinL ++ (x.ed.take (m + 1)).map edgL)) := by
                  unfold Hid
                  rw [HSN.out, ← List.append_assoc, textT_app, ← HT2.out, cat_line (x := wTo) rfl]
                  simp [textT, edgL, wTo]
                have hvz : (⟨(Lib.itoa p.to).toArray⟩ : ByteArray).size ≤ 11 := by
                  have := itoa_len hpz.2.1 hpz.2.2
                  show (Lib.itoa p.to).toArray.size ≤ 11
                  rw [List.size_toArray]
                  omega
                have HC : Hid (∀ W, Calls Tryz.prog 30 #[.int .i64 p.to] W fun e w' => e = .returned (.string ⟨(Lib.itoa p.to).toArray⟩) ∧ Below W.heap.size W w') := fun W => Number_any _ hpz.2.1 hpz.2.2 W
                generalize (⟨(Lib.itoa p.to).toArray⟩ : ByteArray) = pt at *
                have z1 : (⟨#[32]⟩ : ByteArray).size = 1 := rfl
                have z2 : (⟨#[10]⟩ : ByteArray).size = 1 := rfl
                have z3 : (⟨#[116, 111, 32]⟩ : ByteArray).size = 3 := rfl
                have hpn := hpz.1
                have e1 := fun W : World => run_string_add_sum (P := Tryz.prog) (w := W) T2 ⟨#[116, 111, 32]⟩ (by omega)
                have e2 := fun W : World => run_string_add_sum (P := Tryz.prog) (w := W) (T2 ++ ⟨#[116, 111, 32]⟩) p.lb (by rw [catZ]; omega)
                have e3 := fun W : World => run_string_add_sum (P := Tryz.prog) (w := W) (T2 ++ ⟨#[116, 111, 32]⟩ ++ p.lb) ⟨#[32]⟩ (by rw [catZ, catZ]; omega)
                have e4 := fun W : World => run_string_add_sum (P := Tryz.prog) (w := W) (T2 ++ ⟨#[116, 111, 32]⟩ ++ p.lb ++ ⟨#[32]⟩) pt (by rw [catZ, catZ, catZ]; omega)
                have e5 := fun W : World => run_string_add_sum (P := Tryz.prog) (w := W) (T2 ++ ⟨#[116, 111, 32]⟩ ++ p.lb ++ ⟨#[32]⟩ ++ pt) ⟨#[10]⟩ (by rw [catZ, catZ, catZ, catZ]; omega)
                clear z1 z2 z3 hpn hpz hvz hT2z HT2 HSN
                go_wp2_with fail
                clear b0 b1 b2 b3 b4 b5 b6
                refine wp_region_keep HK.out (by kernel_rfl) (by kernel_rfl) (by first | exact HO.out | exact HK.out.drew HO.out) ?_
                intro C hin hout
                have HIN := hide3 hin
                have HOUT := hide3 hout
                clear hin hout HO
                repeat
                  (with_reducible refine wpQuiet_step (fun K hK => ?_)
                   go_simp
                   first
                     | (refine hK _ ?_; clear hK K)
                     | (apply Exists.intro; refine ⟨fun w1 hC => ?_, hK _ ?_⟩; (focus ((first | (go_at_call 30; with_reducible exact callC HIN.out HOUT.out HK.out HC.out w1 hC) | (exact rfl) | (obtain ⟨⟨⟨hb1, hg1⟩, ⟨⟨b0, b1, b2, b3, b4, b5⟩, b6⟩, hp1, hq1⟩, ⟨⟨p0, p1⟩, p4⟩⟩ := HOUT.out w1 hC; clear hC; go_simp; first | done | exact rfl)); done)); clear hK K))
                refine wpQuiet_nil ?_
                intro wn hC
                have HO := hide3 (HOUT.out _ hC)
                clear hC HIN HOUT C
                obtain ⟨⟨⟨hb1, hg1⟩, ⟨⟨b0, b1, b2, b3, b4, b5⟩, b6⟩, hp1, hq1⟩, ⟨⟨p0, p1⟩, p4⟩⟩ := HO.out
                go_wp2
                exact ⟨⟨m + 1, _, by omega, by go_num, rfl, HT3.out, HO.out.1⟩, by simp [intOf]; omega⟩
              · have hme : m = x.ed.length := by omega
                have HT4 : Hid (T2.data.toList = textT (preL G k ++ [hdL k x] ++ x.cx.map pinL ++ x.ed.map edgL)) := by
                  unfold Hid
                  rw [HT2.out, hme, List.take_length]
                subst hme
                clear HT2
                have HR : Hid (T2.data.toList = textT (preL G (k + 1))) := by
                  unfold Hid
                  rw [HT4.out, HPS.out]
                  unfold listL
                  simp
                clear HT4 HPS HS1
                go_wp2
                exact ⟨⟨k + 1, T2, by omega, by go_num, rfl, HR.out, HKM.out.1⟩, by simp [intOf]; omega⟩
    · obtain rfl : k = G.length := by omega
      have HR := hide3 (HEND.out T HT.out)
      clear HCS HEND HSHORT
      go_wp2
      go_ret
      exact ⟨ret_str HR.out, HB.out.1⟩

end Go.Proofs.YtjbohacllhjgmaaGreatDoor
namespace Go.Proofs.YtjbohacllhjgmaaGreatDoor
set_option maxRecDepth 100000

/-- One byte more: the parts that are done, and the one under way. -/
def stepR (q : List Int × Int) (b : UInt8) : Option (List Int × Int) :=
  if b.toNat = 46 then some (q.1 ++ [q.2], 0) else if 48 ≤ b.toNat ∧ b.toNat ≤ 57 ∧ q.2 ≤ 999 then some (q.1, 10 * q.2 + ((b.toNat : Int) - 48)) else none
def foldR : List UInt8 → List Int × Int → Option (List Int × Int)
  | [], q => some q
  | b :: l, q => (stepR q b).bind (foldR l)

theorem fold_append (l1 l2 : List UInt8) (q : List Int × Int) : foldR (l1 ++ l2) q = (foldR l1 q).bind (foldR l2) := by
  induction l1 generalizing q with
  | nil => rfl
  | cons b l ih =>
    simp only [List.cons_append, foldR]
    cases stepR q b with
    | none => rfl
    | some r => exact ih r
theorem fold_snoc (l : List UInt8) (b : UInt8) (q : List Int × Int) : foldR (l ++ [b]) q = (foldR l q).bind (stepR · b) := by
  rw [fold_append]
  cases foldR l q with
  | none => rfl
  | some r =>
    simp only [Option.bind_some, foldR]
    cases stepR r b <;> rfl

theorem fold_dec (pre : List Int) (u : Nat) (h : u ≤ 9999) : foldR (Lib.decDigits u) (pre, 0) = some (pre, (u : Int)) := by
  induction u using Nat.strongRecOn with
  | _ u ih =>
    rw [Lib.decDigits]
    split
    · rename_i h1
      have e := digit_nat h1
      simp only [foldR, stepR]
      rw [e, if_neg (by omega), if_pos (by omega)]
      simp
      omega
    · rename_i h1
      have e := digit_nat (k := u % 10) (by omega)
      rw [fold_snoc, ih (u / 10) (by omega) (by omega)]
      simp only [Option.bind_some, stepR]
      rw [e, if_neg (by omega), if_pos (by omega)]
      congr 2
      omega
theorem fold_itoa (pre : List Int) {n : Int} (h0 : 0 ≤ n) (h1 : n ≤ 999) : foldR (Lib.itoa n) (pre, 0) = some (pre, n) := by
  rw [itoa_of h0, fold_dec pre n.toNat (by omega)]
  congr 2
  omega
theorem fold_dot (r : List UInt8) (q : List Int × Int) : foldR (46 :: r) q = foldR r (q.1 ++ [q.2], 0) := by
  show (stepR q 46).bind (foldR r) = _
  have : stepR q 46 = some (q.1 ++ [q.2], 0) := by unfold stepR; rw [if_pos (by decide)]
  rw [this]; rfl
theorem fold_text {a b c : Int} (h : mayV a b c = true) : foldR (textV a b c).data.toList ([], 0) = some ([a, b], c) := by
  obtain ⟨a0, a1, b0, b1, c0, c1⟩ := may_all h
  rw [text_list h, fold_append, fold_itoa [] a0 a1]
  simp only [Option.bind_some]
  rw [fold_dot, fold_append]
  simp only [List.nil_append]
  rw [fold_itoa [a] b0 b1]
  simp only [Option.bind_some]
  rw [fold_dot]
  simp only [List.cons_append, List.nil_append]
  exact fold_itoa [a, b] c0 c1

theorem fold_ok {s : ByteArray} (h : okP s = true) : foldR s.data.toList ([], 0) = some ([resA s, resB s], resC s) := by
  obtain ⟨hm, he⟩ := okP_text h
  have := fold_text hm
  rw [← he] at this
  exact this

theorem take_more (s : ByteArray) (k : Nat) (hk : k < s.size) : s.data.toList.take (k + 1) = s.data.toList.take k ++ [s[k]] :=
  List.take_succ_eq_append_getElem (by rw [list_size]; exact hk)

/-- A byte that doesn't serve: the text is no version's. -/
theorem fold_bad {s : ByteArray} {k : Nat} (hk : k < s.size) {q : List Int × Int} (h : foldR (s.data.toList.take k) ([], 0) = some q) (hb : stepR q s[k] = none) : okP s = false := by
  rw [Bool.eq_false_iff]
  intro ho
  have h1 := fold_ok ho
  rw [← List.take_append_drop (k + 1) s.data.toList, fold_append, take_more s k hk, fold_snoc, h] at h1
  simp only [Option.bind_some, hb, Option.bind_none] at h1
  cases h1
theorem fold_more {s : ByteArray} {k : Nat} (hk : k < s.size) {q r : List Int × Int} (h : foldR (s.data.toList.take k) ([], 0) = some q) (hb : stepR q s[k] = some r) : foldR (s.data.toList.take (k + 1)) ([], 0) = some r := by
  rw [take_more s k hk, fold_snoc, h]
  exact hb
theorem fold_end {s : ByteArray} {k : Nat} (hk : s.size ≤ k) : s.data.toList.take k = s.data.toList := List.take_of_length_le (by rw [list_size]; exact hk)

/-- What was read prints as the text: that version. -/
theorem fold_right {s : ByteArray} {x y z : Int} (hne : s ≠ ByteArray.empty) (ht : textV x y z = s) : okP s = true ∧ resA s = x ∧ resB s = y ∧ resC s = z := by
  have hm : mayV x y z = true := by
    rw [← Bool.not_eq_false]
    intro h
    apply hne
    rw [← ht]
    unfold textV
    rw [h]; rfl
  have := okP_of hm
  rw [ht] at this
  exact this
theorem fold_wrong {s : ByteArray} {x y z : Int} (h : foldR s.data.toList ([], 0) = some ([x, y], z)) (ht : textV x y z ≠ s) : okP s = false := by
  rw [Bool.eq_false_iff]
  intro ho
  have h1 := fold_ok ho
  rw [h] at h1
  simp only [Option.some.injEq, Prod.mk.injEq, List.cons.injEq, and_true] at h1
  obtain ⟨⟨rfl, rfl⟩, rfl⟩ := h1
  exact ht (okP_text ho).2.symm
theorem fold_few {s : ByteArray} {pre : List Int} {z : Int} (h : foldR s.data.toList ([], 0) = some (pre, z)) (hl : pre.length ≠ 2) : okP s = false := by
  rw [Bool.eq_false_iff]
  intro ho
  have h1 := fold_ok ho
  rw [h] at h1
  simp only [Option.some.injEq, Prod.mk.injEq] at h1
  rw [h1.1] at hl
  exact hl rfl
theorem res_no {s : ByteArray} (h : okP s = false) : resA s = 0 ∧ resB s = 0 ∧ resC s = 0 := by
  unfold resA resB resC; rw [h]; exact ⟨rfl, rfl, rfl⟩
end Go.Proofs.YtjbohacllhjgmaaGreatDoor
namespace Go.Proofs.YtjbohacllhjgmaaGreatDoor
open Go.RowKit
set_option maxRecDepth 100000


def intCells (l : List Int) : List Value := l.map (Value.int .i64)
theorem hideV {p : Prop} (h : p) : Hid p := h
theorem infoIntV : (Tryz.prog.info? 3).map (fun i => (i.zero, i.size, i.bytes)) = some (some (.int .i64 0), 1, 8) := by kernel_rfl
theorem info_partsV {e : TypeId} {z : Value} {n b : Nat} (h : (Tryz.prog.info? e).map (fun i => (i.zero, i.size, i.bytes)) = some (some z, n, b)) : ∃ i, Tryz.prog.info? e = some i ∧ i.zero = some z ∧ i.size = n ∧ i.bytes = b := by
  cases hi : Tryz.prog.info? e with
  | none => rw [hi] at h; cases h
  | some i =>
    rw [hi] at h
    simp only [Option.map_some, Option.some.injEq, Prod.mk.injEq] at h
    exact ⟨i, rfl, h.1, h.2.1, h.2.2⟩

/-- The result's place stays, whatever a row of the call's own becomes. -/
theorem OKr.grown {w : World} {N : Nat} {x y z : Value} {w1 w' : World} {row : Option Nat} (h : OKr w N [⟨N, x, y, z⟩] w1) (hw : w.heap.size ≤ N) (hg : w1.grownBy w' row) (hr : ∀ k, row = some k → N < k) : OKr w N [⟨N, x, y, z⟩] w' := by
  obtain ⟨⟨hb, hq⟩, f0, f1, f2, f3⟩ := h
  have hN : w'.heap[N]? = w1.heap[N]? := hg.block N f3 (fun e => Nat.lt_irrefl _ (hr N e.symm))
  have hc : ∀ o, w'.cell? ⟨N, o, none⟩ = w1.cell? ⟨N, o, none⟩ := fun o => World.cell?_of_block (w := w1) hN
  have hf : ∀ o, w'.frozen? ⟨N, o, none⟩ = w1.frozen? ⟨N, o, none⟩ := fun o => World.frozen?_of_block (w := w1) hN
  have hl : N < w'.heap.size := Nat.lt_of_lt_of_le f3 hg.size
  refine ⟨⟨hb.grown hg hb.size (fun k hk => Nat.le_trans hw (Nat.le_of_lt (hr k hk))), fun q hq' => ?_⟩, (hf 0).trans f0, (hf 1).trans f1, (hf 2).trans f2, hl⟩
  obtain rfl : q = ⟨N, x, y, z⟩ := by simpa using hq'
  obtain ⟨c0, c1, c2, _⟩ := hq _ hq'
  exact ⟨(hc 0).trans c0, (hc 1).trans c1, (hc 2).trans c2, hl⟩

theorem OKr.alloc {w : World} {N : Nat} {bs : List Bx} {w1 : World} (h : OKr w N bs w1) (o : Obj) : OKr w N bs (w1.alloc o) := h.below (boxB _ _)

theorem int_news (w : World) (t : TypeId) : ∀ j u, [Value.int .i64 0][j]? = some u → (w.alloc (.cells #[.int .i64 0] t)).cell? ((⟨w.heap.size, 0, none⟩ : Addr).add j) = some u :=
  World.news_of_block (cs := #[.int .i64 0]) (t := t) (fr := (0, 0)) (by
    show (w.heap.push _)[w.heap.size]? = _
    rw [Array.getElem?_push, if_pos rfl])

theorem cells_get (pre : List Int) (cur : Int) (j : Nat) (h : j < pre.length) : (intCells (pre ++ [cur]))[j]? = some (.int .i64 pre[j]) := by
  unfold intCells
  rw [List.getElem?_map, List.getElem?_append_left h, List.getElem?_eq_getElem h]; rfl
theorem cells_last (pre : List Int) (cur : Int) : (intCells (pre ++ [cur]))[pre.length]? = some (.int .i64 cur) := by
  unfold intCells; simp
theorem cells_set (pre : List Int) (cur v : Int) : (intCells (pre ++ [cur])).set pre.length (.int .i64 v) = intCells (pre ++ [v]) := by
  unfold intCells; simp

set_option maxHeartbeats 8000000 in
theorem rParse_walk (s : ByteArray) (hs : s.size ≤ 1048576) (w : World) :
    Calls Tryz.prog 12 #[.string s] w fun e w' => e = .returned (.tuple #[.agg #[.int .i64 (resA s), .int .i64 (resB s), .int .i64 (resC s)], .bool (okP s)]) ∧ Below w.heap.size w w' := by
  obtain ⟨i0, hi, hz0, hz1, hz2⟩ := info_partsV infoIntV
  have HO : Hid (OKr w w.heap.size [⟨w.heap.size, .int .i64 0, .int .i64 0, .int .i64 0⟩] (w.alloc (.cells #[.int .i64 0, .int .i64 0, .int .i64 0] 39))) := OKr.start (OKs.nil w) rfl _ _ _
  go_enter Tryz.func12, Tryz.ntmps12
  go_wp2_with fail
  go_loopw [4, 5] (fun v i wr => ∃ (k : Nat) (pre : List Int) (cur : Int), k ≤ s.size ∧ i = .int .i64 k ∧ foldR (s.data.toList.take k) ([], 0) = some (pre, cur) ∧ 0 ≤ cur ∧ cur ≤ 9999 ∧ pre.length ≤ k ∧
      wr.ownsRow (w.heap.size + 1) 3 1 v (pre.length + 1) (intCells (pre ++ [cur])) ∧ OKr w w.heap.size [⟨w.heap.size, .int .i64 0, .int .i64 0, .int .i64 0⟩] wr) (fun _ i _ => s.size - (intOf i).toNat)
  case atStart =>
    refine ⟨0, [], 0, Nat.zero_le _, rfl, rfl, by decide, by decide, Nat.le_refl _, ?_, HO.out.alloc _⟩
    have h := World.ownsRow_lit (e := 3) (base := w.heap.size + 1) (size := 1) (w.alloc (.cells #[.int .i64 0, .int .i64 0, .int .i64 0] 39)) #[.int .i64 0] 1 (by simp) (by decide) rfl
    simpa [intCells] using h
  case round =>
    obtain ⟨k, pre, cur, hk, rfl, hfold, c0, c1, hpl, hrow, hok⟩ := hrel
    have HR := hideV hrow
    have HK := hideV hok
    have HF := hideV hfold
    clear hrow hok hfold HO
    obtain ⟨g, cap, rfl, hgb⟩ : ∃ g cap, u4 = .slice (some ⟨g, 0, none⟩) (pre.length + 1) cap ∧ w.heap.size + 1 ≤ g := by
      rcases HR.out.2 with ⟨_, h0⟩ | ⟨g, cap, cur', rfl, hb, _⟩
      · omega
      · exact ⟨g, cap, rfl, hb⟩
    have hcl : wr.cell? ⟨g, pre.length, none⟩ = some (.int .i64 cur) := (HR.out.cellAt pre.length (by omega)).trans (cells_last pre cur)
    have hfz := HR.out.frozenAt pre.length
    have hwr := HK.out.2.2.2.2
    by_cases hlt : k < s.size
    · by_cases hd : s[k].toNat = 46
      · have HN : Hid (foldR (s.data.toList.take (k + 1)) ([], 0) = some (pre ++ [cur], 0)) := fold_more hlt HF.out (by unfold stepR; rw [if_pos hd])
        have e46 : ((s[k].toNat : Int) == 46) = true := by rw [beq_iff_eq]; omega
        clear hcl hfz
        go_wp2_with (first
          | (at_builtin; refine wpList_append_own _ rfl _ _ 66 rfl (w.heap.size + 1) 3 i0 (.int .i64 0) 1 8 Tryz.underlying66 hi hz0 hz1 hz2 rfl (by decide) _ _ _ rfl (HR.out.alloc _) ⟨wr.heap.size, 0, none⟩ 1 1 [.int .i64 0] rfl rfl (int_news _ _) (by simp [Value.oneCell']) (by unfold maxLen; omega) (by omega) (by simp; omega) ?_; intro v' w3 hown' hg3 hnil3; go_frame)
          | fail)
        refine ⟨⟨k + 1, pre ++ [cur], 0, hlt, by go_num, HN.out, by decide, by decide, by simp; omega, ?_, ?_⟩, by simp [intOf]; omega⟩
        · have e1 : intCells (pre ++ [cur] ++ [0]) = intCells (pre ++ [cur]) ++ [.int .i64 0] := by unfold intCells; simp
          rw [e1, List.length_append]
          exact hown'
        · exact (HK.out.alloc _).grown (Nat.le_refl _) hg3 (fun j hj => by have : g = j := Option.some.inj hj; omega)
      · have e46 : ((s[k].toNat : Int) == 46) = false := by rw [beq_eq_false_iff_ne]; omega
        by_cases hc : 48 ≤ s[k].toNat ∧ s[k].toNat ≤ 57 ∧ cur ≤ 999
        · have HN : Hid (foldR (s.data.toList.take (k + 1)) ([], 0) = some (pre, 10 * cur + ((s[k].toNat : Int) - 48))) := fold_more hlt HF.out (by unfold stepR; rw [if_neg hd, if_pos hc])
          obtain ⟨d0, d1, d2⟩ := hc
          clear hd
          have w1 : IntKind.i64.wrap (10 * cur) = 10 * cur := by rw [IntKind.wrap_i64]; omega
          have w2 : IntKind.u8.wrap ((s[k].toNat : Int) - 48) = (s[k].toNat : Int) - 48 := by rw [IntKind.wrap_u8]; omega
          have w3 : IntKind.i64.wrap ((s[k].toNat : Int) - 48) = (s[k].toNat : Int) - 48 := by rw [IntKind.wrap_i64]; omega
          have w4 : IntKind.i64.wrap (10 * cur + ((s[k].toNat : Int) - 48)) = 10 * cur + ((s[k].toNat : Int) - 48) := by rw [IntKind.wrap_i64]; omega
          have b0 : (0 : Int) ≤ (pre.length : Int) := by omega
          have b1 : (pre.length : Int) < ((pre.length + 1 : Nat) : Int) := by omega
          go_wp2_with fail
          go_region
          all_goals go_wp2
          all_goals
            obtain ⟨r1, r2⟩ := HR.out.stored pre.length (.int .i64 (10 * cur + ((s[k].toNat : Int) - 48)))
            rw [cells_set] at r1
            refine ⟨⟨k + 1, pre, 10 * cur + ((s[k].toNat : Int) - 48), hlt, by go_num, HN.out, by omega, by omega, by omega, ?_, ?_⟩, by simp [intOf]; omega⟩
            · exact r1.drew
            · exact (HK.out.grown (Nat.le_refl _) r2 (fun j hj => by have : g = j := Option.some.inj hj; omega)).drew
        · have HN : Hid (okP s = false) := fold_bad hlt HF.out (by unfold stepR; rw [if_neg hd, if_neg hc])
          obtain ⟨_, f0, f1, f2, f3⟩ := HK.out
          obtain ⟨x0, y0, z0, s0⟩ := HK.out.1.one
          have b0 : (0 : Int) ≤ (pre.length : Int) := by omega
          have b1 : (pre.length : Int) < ((pre.length + 1 : Nat) : Int) := by omega
          clear hd
          by_cases q0 : s[k].toNat < 48
          · clear hc
            go_wp2_with fail
            obtain ⟨v0, v1, v2⟩ := setV x0 y0 z0
            try simp only [Exit.inBlock, Exit.then]
            refine bodyPost_ret (by simp [results, Tryz.results12, v0, v1, v2, go_sem]; try rfl) rfl ?_
            obtain ⟨e1, e2, e3⟩ := res_no HN.out
            exact ⟨ret_ver e1.symm e2.symm e3.symm HN.out.symm, below_setV (Nat.le_refl _) HK.out.1.1⟩
          by_cases q1 : 57 < s[k].toNat
          · clear hc
            go_wp2_with fail
            obtain ⟨v0, v1, v2⟩ := setV x0 y0 z0
            try simp only [Exit.inBlock, Exit.then]
            refine bodyPost_ret (by simp [results, Tryz.results12, v0, v1, v2, go_sem]; try rfl) rfl ?_
            obtain ⟨e1, e2, e3⟩ := res_no HN.out
            exact ⟨ret_ver e1.symm e2.symm e3.symm HN.out.symm, below_setV (Nat.le_refl _) HK.out.1.1⟩
          · have q2 : 999 < cur := by omega
            clear hc
            go_wp2_with fail
            obtain ⟨v0, v1, v2⟩ := setV x0 y0 z0
            try simp only [Exit.inBlock, Exit.then]
            refine bodyPost_ret (by simp [results, Tryz.results12, v0, v1, v2, go_sem]; try rfl) rfl ?_
            obtain ⟨e1, e2, e3⟩ := res_no HN.out
            exact ⟨ret_ver e1.symm e2.symm e3.symm HN.out.symm, below_setV (Nat.le_refl _) HK.out.1.1⟩
    · have hkk : k = s.size := by omega
      subst hkk
      have HF2 : Hid (foldR s.data.toList ([], 0) = some (pre, cur)) := by have h := HF.out; rw [fold_end (Nat.le_refl _)] at h; exact h
      obtain ⟨_, f0, f1, f2, f3⟩ := HK.out
      obtain ⟨x0, y0, z0, s0⟩ := HK.out.1.one
      by_cases hl : pre.length = 2
      · obtain ⟨x, y, rfl⟩ : ∃ x y, pre = [x, y] := by
          match pre, hl with
          | [x, y], _ => exact ⟨x, y, rfl⟩
        have a0 : wr.cell? ⟨g, 0, none⟩ = some (.int .i64 x) := (HR.out.cellAt 0 (by simp)).trans rfl
        have a1 : wr.cell? ⟨g, 1, none⟩ = some (.int .i64 y) := (HR.out.cellAt 1 (by simp)).trans rfl
        have a2 : wr.cell? ⟨g, 2, none⟩ = some (.int .i64 cur) := (HR.out.cellAt 2 (by simp)).trans rfl
        have HP : Hid (∀ w1, Below w.heap.size w w1 → Calls Tryz.prog 25 #[.agg #[.int .i64 x, .int .i64 y, .int .i64 cur]] w1 fun e w' => e = .returned (.string (textV x y cur)) ∧ Below w1.heap.size w1 w') := fun w1 _ => rPrint_any x y cur w1
        have hgl := cell_in a0
        clear hl hcl hfz
        simp only [List.length_cons, List.length_nil, Nat.zero_add, Nat.reduceAdd] at *
        by_cases hse : (s.toList == []) = true
        · have hem : s = ByteArray.empty := bytes_same ((beq_iff_eq.1 hse).trans (by rw [ByteArray.toList_eq]; rfl))
          have HN : Hid (okP s = false) := by unfold Hid; rw [hem]; exact okP_empty
          clear hem
          go_wp2_with fail
          go_region
          all_goals go_wp2_with fail
          all_goals
            obtain ⟨v0, v1, v2⟩ := setV x0 y0 z0
            try simp only [Exit.inBlock, Exit.then]
            refine bodyPost_ret (by simp [results, Tryz.results12, v0, v1, v2, f3, go_sem]; try rfl) rfl ?_
            obtain ⟨e1, e2, e3⟩ := res_no HN.out
            refine ⟨ret_ver e1.symm e2.symm e3.symm HN.out.symm, ?_⟩
            have hB := HK.out.1.1
            have hBs := hB.size
            have hB2 : Below w.heap.size w (((wr.setCell ⟨w.heap.size, 0, none⟩ (.int .i64 0)).setCell ⟨w.heap.size, 1, none⟩ (.int .i64 0)).setCell ⟨w.heap.size, 2, none⟩ (.int .i64 0)) := below_setV (Nat.le_refl _) hB
            exact (hB2.alloc hB2.size _).drew
        · have hne : s ≠ ByteArray.empty := fun e => hse (by rw [e, ByteArray.toList_eq]; rfl)
          rw [Bool.not_eq_true] at hse
          have HQ : Hid (OKr w w.heap.size [⟨wr.heap.size, .int .i64 x, .int .i64 y, .int .i64 cur⟩, ⟨w.heap.size, .int .i64 0, .int .i64 0, .int .i64 0⟩] (wr.alloc (.cells #[.int .i64 x, .int .i64 y, .int .i64 cur] 39))) := HK.out.box rfl _ _ _
          by_cases ht : textV x y cur = s
          · obtain ⟨h1, h2, h3, h4⟩ := fold_right hne ht
            have HN : Hid (okP s = true ∧ resA s = x ∧ resB s = y ∧ resC s = cur) := ⟨h1, h2, h3, h4⟩
            rw [ht] at HP
            clear ht hne h1 h2 h3 h4
            go_wp2_with fail
            go_region
            all_goals go_wp2_with (go_at_call 25; refine (liftr HP.out (N := w.heap.size) (bs := [⟨wr.heap.size, .int .i64 x, .int .i64 y, .int .i64 cur⟩, ⟨w.heap.size, .int .i64 0, .int .i64 0, .int .i64 0⟩]) _ ?_).mono ?_; (first | exact HQ.out | exact HQ.out.drew); clear HQ; rintro e w2 ⟨rfl, ok⟩; have HQ : Hid (OKr w w.heap.size [⟨wr.heap.size, .int .i64 x, .int .i64 y, .int .i64 cur⟩, ⟨w.heap.size, .int .i64 0, .int .i64 0, .int .i64 0⟩] w2) := ok; clear ok; obtain ⟨_, g0, g1, g2, g3⟩ := HQ.out; obtain ⟨p0, p1, p2, p3⟩ := HQ.out.1.one; obtain ⟨q0, q1, q2, q3⟩ := HQ.out.1.two)
            all_goals
              obtain ⟨v0, v1, v2⟩ := setV q0 q1 q2
              try simp only [Exit.inBlock, Exit.then]
              refine bodyPost_ret (by simp [results, Tryz.results12, v0, v1, v2, go_sem]; try rfl) rfl ?_
              obtain ⟨h1, h2, h3, h4⟩ := HN.out
              exact ⟨ret_ver h2.symm h3.symm h4.symm h1.symm, below_setV (Nat.le_refl _) HQ.out.1.1⟩
          · have HN : Hid (okP s = false) := fold_wrong HF2.out ht
            have hs1 := beq_eq_false_iff_ne.2 (fun e => ht (bytes_same e))
            clear hne ht
            generalize textV x y cur = T at *
            go_wp2_with fail
            go_region
            all_goals go_wp2_with (go_at_call 25; refine (liftr HP.out (N := w.heap.size) (bs := [⟨wr.heap.size, .int .i64 x, .int .i64 y, .int .i64 cur⟩, ⟨w.heap.size, .int .i64 0, .int .i64 0, .int .i64 0⟩]) _ ?_).mono ?_; (first | exact HQ.out | exact HQ.out.drew); clear HQ; rintro e w2 ⟨rfl, ok⟩; have HQ : Hid (OKr w w.heap.size [⟨wr.heap.size, .int .i64 x, .int .i64 y, .int .i64 cur⟩, ⟨w.heap.size, .int .i64 0, .int .i64 0, .int .i64 0⟩] w2) := ok; clear ok; obtain ⟨_, g0, g1, g2, g3⟩ := HQ.out; obtain ⟨p0, p1, p2, p3⟩ := HQ.out.1.one; obtain ⟨q0, q1, q2, q3⟩ := HQ.out.1.two)
            all_goals
              obtain ⟨v0, v1, v2⟩ := setV q0 q1 q2
              try simp only [Exit.inBlock, Exit.then]
              refine bodyPost_ret (by simp [results, Tryz.results12, v0, v1, v2, go_sem]; try rfl) rfl ?_
              obtain ⟨e1, e2, e3⟩ := res_no HN.out
              exact ⟨ret_ver e1.symm e2.symm e3.symm HN.out.symm, below_setV (Nat.le_refl _) HQ.out.1.1⟩
      · have HN : Hid (okP s = false) := fold_few HF2.out hl
        have b3 : (((pre.length : Int) + 1) == 3) = false := by rw [beq_eq_false_iff_ne]; omega
        clear hl
        go_wp2_with fail
        obtain ⟨v0, v1, v2⟩ := setV x0 y0 z0
        try simp only [Exit.inBlock, Exit.then]
        refine bodyPost_ret (by simp [results, Tryz.results12, v0, v1, v2, go_sem]; try rfl) rfl ?_
        obtain ⟨e1, e2, e3⟩ := res_no HN.out
        exact ⟨ret_ver e1.symm e2.symm e3.symm HN.out.symm, below_setV (Nat.le_refl _) HK.out.1.1⟩
end Go.Proofs.YtjbohacllhjgmaaGreatDoor
namespace Go.Proofs.YtjbohacllhjgmaaGreatDoor
open Go.RowKit
open Sc (KeepP hide3 keepBelow Bs ba WordsAt LinesAt isL)
set_option maxRecDepth 100000

/-- Nodes of one's own under way; the last one's lists lie apart. -/
def RL (W : World) (B : Nat) (v : Value) (all : List NV) : Prop := RA W B v all ∧ (all = [] ∨ ∃ dn lt, all = dn ++ [lt] ∧ LA dn lt)
/-- What the document's Parse answers. -/
def RpQ (w : World) (t : ByteArray) (e : Ending) (w' : World) : Prop := Below w.heap.size w w' ∧
  ((∃ ad n cap G, docG t = some G ∧ e = .returned (.tuple #[.agg #[.slice ad n cap], .int .i64 0]) ∧ NodesAt w' (.slice ad n cap) G) ∨ (docG t = none ∧ e = .returned (.tuple #[.agg #[.slice none 0 0], .int .i64 (parGE t)])))
theorem rlines_any (t : ByteArray) (w : World) : Calls Tryz.prog 11 #[.string t, .int .i64 1048576] w fun e w' => ∃ v n, e = .returned (.tuple #[v, .int .i64 (Sc.ansE t 1048576), .int .i64 n]) ∧ LinesAt w' v (Sc.ansL t 1048576) ∧ Below w.heap.size w w' := by
  have : Calls Tryz.prog 11 #[.string t, .int .i64 1048576] w (Sc.LinesQ w (Sc.ansE t 1048576) (Sc.ansN t 1048576) (Sc.ansL t 1048576)) := by
    by_cases h : (1048576 : Int) < (t.size : Int)
    · have := Sc.rLines_far t 1048576 h w
      unfold Sc.ansE Sc.ansN Sc.ansL
      rw [if_pos h, if_pos h, if_pos h]
      exact this
    · exact Sc.rLines_all t (by omega) 1048576 w
  exact this.mono fun e w' ⟨v, h1, h2, h3⟩ => ⟨v, _, h1, by obtain ⟨ps, hp, hl⟩ := h2; rw [← hp]; exact hl.at, h3⟩
end Go.Proofs.YtjbohacllhjgmaaGreatDoor
