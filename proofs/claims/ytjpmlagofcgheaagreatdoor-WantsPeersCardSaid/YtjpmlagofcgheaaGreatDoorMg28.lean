/- We1, We2, laid in one text. -/
import Derived.Test.YtjpmlagofcgheaaGreatDoorMg27
namespace Go.Proofs.YtjpmlagofcgheaaGreatDoor
open Go.RowKit
set_option maxRecDepth 100000

/-- Things are put behind a row of one's own, in a region that keeps its order. -/
theorem wp_ownB {B : Nat} {wx : World} {elt slt : TypeId} {z : Value} {sz bs n m c : Nat} {v : Value} {xs news : List Value} {ad : Addr} {ops : Array Oper} {rest : List Oper} {o : Oper} {f : Act} {Q : Exit → Act → World → Prop}
    (hinfo : (Tryz.prog.info? elt).map (fun i => (i.zero, i.size, i.bytes)) = some (some z, sz, bs)) (hund : Tryz.prog.underlying slt = some (.slice elt)) (hzc : z.cells.size = sz) (hsz : 0 < sz)
    (hgd : o.guard = none) (s t : Operand) (ho : o.op = .call { callee := .builtin .append, args := #[s, t], argTypes := #[slt, slt] }) (hs : f.eval s = v)
    (hown : wx.ownsRow B elt sz v n xs) (hB : B ≤ wx.heap.size) (hx : f.eval t = .slice (some ad) m c) (hl : news.length = m * sz) (hnews : ∀ j u, news[j]? = some u → wx.cell? (ad.add j) = some u) (hone : ∀ u ∈ news, u.oneCell' = true) (hbb : (n + m) * bs ≤ 140737488355328) (hlen : n + m ≤ 140737488355328)
    (h : ∀ v1 w1, w1.ownsRow B elt sz v1 (n + m) (xs ++ news) → wx.grownBy w1 v.ownBlock → (v1.ownBlock = v.ownBlock ∨ v1.ownBlock = some wx.heap.size) → wpList Tryz.prog ops Q rest (f.put o.dst v1) w1) :
    wpList Tryz.prog ops Q (o :: rest) f wx := by
  obtain ⟨i0, hi, hz0, hz1, hz2⟩ := Sc.info_parts hinfo
  refine wpList_append_own_at _ hgd s t slt ho B elt i0 z sz bs hund hi hz0 hz1 hz2 hzc hsz v n xs hs hown ad m c news hx hl hnews hone (by unfold maxLen; omega) hbb hB ?_
  intro v1 w1 hown1 hg1 _ hat
  exact h v1 w1 hown1 hg1 hat

set_option maxHeartbeats 1600000 in
theorem cloneS_big {L : List Sp} {v : Value} {w : World} (h : SpansC w v L) (hl : L.length * 48 ≤ 140737488355328) : Calls Tryz.prog 60 #[v] w fun e w' => ∃ v', e = .returned v' ∧ OwnS w' w.heap.size v' L ∧ Below w.heap.size w w' := by
  obtain ⟨⟨ad, cap, rfl, hc⟩, _⟩ := h
  cases ad with
  | none =>
    obtain rfl : L = [] := by
      rcases hc with e | ⟨_, _, q, _⟩
      · exact e
      · cases q
    rw [List.length_nil]
    have q0 : ∀ w, (binOp .eql 39 (.slice none 0 cap) (.slice none 0 0)).run Tryz.prog w = .ok (.bool true) w := fun w => run_eql_slice_nil w 39 80 none 0 cap Tryz.underlying39
    go_enter Tryz.func60, Tryz.ntmps60
    go_wp2
    go_ret
    exact ⟨_, rfl, OwnS.nil _ _, Below.refl _ _⟩
  | some a =>
    have HNW : Hid (∀ j u, (spCells L)[j]? = some u → (w.alloc (.cells #[] 80)).cell? (a.add j) = some u) := fun j u hj => by
      rcases hc with e | ⟨g, o, q, hg, hs⟩
      · subst e; simp [spCells] at hj
      · cases q
        have e := sp_news hs j u hj
        have e2 : (⟨g, o, none⟩ : Addr).add j = ⟨g, o + j, none⟩ := by simp [Addr.add]
        rw [e2]
        exact ((boxB w (.cells #[] 80)).cell (p := ⟨g, o + j, none⟩) hg).trans e
    have HRW := hide3 (row_empty w)
    clear hc
    have q0 : ∀ w, (binOp .eql 39 (.slice (some a) L.length cap) (.slice none 0 0)).run Tryz.prog w = .ok (.bool false) w := fun w => run_eql_slice_nil w 39 80 (some a) L.length cap Tryz.underlying39
    go_enter Tryz.func60, Tryz.ntmps60
    go_wp2_with (at_builtin; refine wp_ownB (B := w.heap.size) (wx := w.alloc (.cells #[] 80)) (news := spCells L) (xs := []) (n := 0) infoSpan Tryz.underlying39 rfl (by decide) rfl (.tmp 5) (.tmp 6) rfl rfl HRW.out (by simp) rfl (spCells_length L) HNW.out (sp_one L) (by omega) (by omega) ?_; intro v1 w1 ho hgr hat; have HO : Hid (OwnS w1 w.heap.size v1 L) := (by have e := ho; rw [Nat.zero_add, List.nil_append] at e; exact e); have HB : Hid (Below w.heap.size w w1) := (boxB w (.cells #[] 80)).trans (below_grown (B := w.heap.size) hgr (fun g e => by cases e; exact Nat.le_refl _) (by simp)); clear ho hgr hat)
    go_ret
    exact ⟨_, rfl, HO.out, HB.out⟩

/-- What is copied fits. -/
def FitP (O ds : List Dp) : Prop := ds.length ≤ 100000000 ∧ ∀ d ∈ ds, d.nm.size ≤ 281474976710656 ∧ (rangeD O d).length * 48 ≤ 140737488355328
end Go.Proofs.YtjpmlagofcgheaaGreatDoor
namespace Go.Proofs.YtjpmlagofcgheaaGreatDoor
open Go.RowKit Go.Maps Go.WideMaps
set_option maxRecDepth 100000

set_option maxHeartbeats 12800000 in
theorem peers_any {w : World} {O : List Dp} {x1 x2 x3 : Option Addr} {y1 y2 y3 z1 z2 z3 : Nat} {v4 : Value} (h : DepsAt w v4 O) (hlen : O.length ≤ 9223372036854775807) (hn : ∀ d ∈ O, d.nm.size ≤ 9223372036854775807) {ds : List Dp} (nm : ByteArray) (a b c : Int) {p1 p2 p3 : Option Addr} {q1 r1 r2 q3 r3 : Nat} (hp : DepsAt w (.slice p2 ds.length r2) ds) (hfit : FitP O ds) : Calls Tryz.prog 29 #[.agg #[.string nm, .int .i64 a, .int .i64 b, .int .i64 c, .slice p1 q1 r1, .slice p2 ds.length r2, .slice p3 q3 r3], .agg #[.slice x1 y1 z1, .slice x2 y2 z2, .slice x3 y3 z3, v4]] w fun e w' => ∃ v, e = .returned v ∧ ∃ ps, OwnD w' w.heap.size v ps ∧ ps.map (·.1) = peersD O ds ∧ Below w.heap.size w w' := by
  obtain ⟨ad, cap, rfl, hcap, _⟩ := h.el
  have HB0 : Hid (Below w.heap.size w ((w.alloc (.cells #[.string nm, .int .i64 a, .int .i64 b, .int .i64 c, .slice p1 q1 r1, .slice p2 ds.length r2, .slice p3 q3 r3] 34)).alloc (.cells #[.slice x1 y1 z1, .slice x2 y2 z2, .slice x3 y3 z3, .slice ad O.length cap] 54))) := boxB2 _ _ _
  have HOV : Hid (Calls Tryz.prog 48 #[.agg #[.slice x1 y1 z1, .slice x2 y2 z2, .slice x3 y3 z3, .slice ad O.length cap]] ((w.alloc (.cells #[.string nm, .int .i64 a, .int .i64 b, .int .i64 c, .slice p1 q1 r1, .slice p2 ds.length r2, .slice p3 q3 r3] 34)).alloc (.cells #[.slice x1 y1 z1, .slice x2 y2 z2, .slice x3 y3 z3, .slice ad O.length cap] 54)) fun e w' => ∃ M, e = .returned (.agg #[.slice ad O.length cap, .map (some M)]) ∧ (∃ n, SmAt w' M n (.int .i64 0) (firstI O)) ∧ Below ((w.alloc (.cells #[.string nm, .int .i64 a, .int .i64 b, .int .i64 c, .slice p1 q1 r1, .slice p2 ds.length r2, .slice p3 q3 r3] 34)).alloc (.cells #[.slice x1 y1 z1, .slice x2 y2 z2, .slice x3 y3 z3, .slice ad O.length cap] 54)).heap.size ((w.alloc (.cells #[.string nm, .int .i64 a, .int .i64 b, .int .i64 c, .slice p1 q1 r1, .slice p2 ds.length r2, .slice p3 q3 r3] 34)).alloc (.cells #[.slice x1 y1 z1, .slice x2 y2 z2, .slice x3 y3 z3, .slice ad O.length cap] 54)) w') := (ovs_any (h.below HB0.out) hlen hn).mono fun e w' ⟨h1, h2, h3⟩ => ⟨_, h1, h2, h3⟩
  have HOW := hide3 h
  have HDS := hide3 hp
  have HFD := hide3 hfit.2
  have hfl := hfit.1
  have HCL : Hid (∀ (W : World) (u : Value) (R : List Sp), SpansC W u R → R.length * 48 ≤ 140737488355328 → Calls Tryz.prog 60 #[u] W fun e w' => ∃ v', e = .returned v' ∧ OwnS w' W.heap.size v' R ∧ Below W.heap.size W w') := fun W u R hu hr => cloneS_big hu hr
  have HSC : Hid (∀ (s : ByteArray) (W : World), s.size ≤ 281474976710656 → Calls Tryz.prog 59 #[.string s] W fun e w' => e = .returned (.string s) ∧ Below W.heap.size W w') := fun s W hs => strClone_any s hs W
  have b0 : ((w.alloc (.cells #[.string nm, .int .i64 a, .int .i64 b, .int .i64 c, .slice p1 q1 r1, .slice p2 ds.length r2, .slice p3 q3 r3] 34)).alloc (.cells #[.slice x1 y1 z1, .slice x2 y2 z2, .slice x3 y3 z3, .slice ad O.length cap] 54)).cell? ⟨w.heap.size, 5, none⟩ = some (.slice p2 ds.length r2) := by simp
  have hbl0 : w.heap.size < ((w.alloc (.cells #[.string nm, .int .i64 a, .int .i64 b, .int .i64 c, .slice p1 q1 r1, .slice p2 ds.length r2, .slice p3 q3 r3] 34)).alloc (.cells #[.slice x1 y1 z1, .slice x2 y2 z2, .slice x3 y3 z3, .slice ad O.length cap] 54)).heap.size := by simp; omega
  clear h hp hfit hn
  go_enter Tryz.func29, Tryz.ntmps29
  go_upto_region 1 with fail
  have e0 : ((w.alloc (.cells #[.string nm, .int .i64 a, .int .i64 b, .int .i64 c, .slice p1 q1 r1, .slice p2 ds.length r2, .slice p3 q3 r3] 34)).alloc (.cells #[.slice x1 y1 z1, .slice x2 y2 z2, .slice x3 y3 z3, .slice ad O.length cap] 54)).cell? ⟨w.heap.size + 1, 0, none⟩ = some (.slice x1 y1 z1) := (new_cell (by simp) rfl).1
  have e1 : ((w.alloc (.cells #[.string nm, .int .i64 a, .int .i64 b, .int .i64 c, .slice p1 q1 r1, .slice p2 ds.length r2, .slice p3 q3 r3] 34)).alloc (.cells #[.slice x1 y1 z1, .slice x2 y2 z2, .slice x3 y3 z3, .slice ad O.length cap] 54)).cell? ⟨w.heap.size + 1, 1, none⟩ = some (.slice x2 y2 z2) := (new_cell (by simp) rfl).1
  have e2 : ((w.alloc (.cells #[.string nm, .int .i64 a, .int .i64 b, .int .i64 c, .slice p1 q1 r1, .slice p2 ds.length r2, .slice p3 q3 r3] 34)).alloc (.cells #[.slice x1 y1 z1, .slice x2 y2 z2, .slice x3 y3 z3, .slice ad O.length cap] 54)).cell? ⟨w.heap.size + 1, 2, none⟩ = some (.slice x3 y3 z3) := (new_cell (by simp) rfl).1
  have e3 : ((w.alloc (.cells #[.string nm, .int .i64 a, .int .i64 b, .int .i64 c, .slice p1 q1 r1, .slice p2 ds.length r2, .slice p3 q3 r3] 34)).alloc (.cells #[.slice x1 y1 z1, .slice x2 y2 z2, .slice x3 y3 z3, .slice ad O.length cap] 54)).cell? ⟨w.heap.size + 1, 3, none⟩ = some (.slice ad O.length cap) := (new_cell (by simp) rfl).1
  generalize ((w.alloc (.cells #[.string nm, .int .i64 a, .int .i64 b, .int .i64 c, .slice p1 q1 r1, .slice p2 ds.length r2, .slice p3 q3 r3] 34)).alloc (.cells #[.slice x1 y1 z1, .slice x2 y2 z2, .slice x3 y3 z3, .slice ad O.length cap] 54)) = WA at *
  go_upto_region 2 with (go_at_call 48; refine HOV.out.mono ?_; rintro e w1 ⟨M, rfl, ⟨n, hsm⟩, hb1⟩; have HSM := hide3 hsm; have HB1 := hide3 hb1; clear hsm hb1)
  have HWW : Hid (Below WA.heap.size WA (w1.alloc (.cells #[.slice ad O.length cap, .map (some M)] 95))) := below_then HB1.out (boxB _ _)
  have b1 := (HWW.out.cell (p := ⟨w.heap.size, 5, none⟩) hbl0).trans b0
  have HSW : Hid (SmAt (w1.alloc (.cells #[.slice ad O.length cap, .map (some M)] 95)) M n (.int .i64 0) (firstI O)) := HSM.out.below (boxB _ _)
  have k0 : (w1.alloc (.cells #[.slice ad O.length cap, .map (some M)] 95)).cell? ⟨w1.heap.size, 0, none⟩ = some (.slice ad O.length cap) := by simp
  have k1 : (w1.alloc (.cells #[.slice ad O.length cap, .map (some M)] 95)).cell? ⟨w1.heap.size, 1, none⟩ = some (.map (some M)) := by simp
  have hkl : w1.heap.size < (w1.alloc (.cells #[.slice ad O.length cap, .map (some M)] 95)).heap.size := by simp
  have HOV2 : Hid (Below w.heap.size w (w1.alloc (.cells #[.slice ad O.length cap, .map (some M)] 95))) := below_then HB0.out HWW.out
  obtain ⟨KB, hKB⟩ : ∃ k, k = w1.heap.size := ⟨_, rfl⟩
  rw [← hKB] at k0 k1 hkl
  rw [← hKB]
  generalize (w1.alloc (.cells #[.slice ad O.length cap, .map (some M)] 95)) = W at *
  clear hKB e0 e1 e2 e3 b0 HOV HB0
  go_wp2_with fail
  have HEL : Hid (∀ k (_ : k < ds.length), ∃ g o, p2 = some ⟨g, o, none⟩ ∧ ∃ au nu cu, DpIn W g (o + k * 2) ds[k] (.slice au nu cu)) := by
    obtain ⟨ad', cap', e, _, hel⟩ := (HDS.out.below HOV2.out).el
    injection e with e1 _ _
    subst e1
    exact hel
  have HDO : Hid (DepsAt W (.slice ad O.length cap) O) := HOW.out.below HOV2.out
  go_loopw [6, 14] (fun vo vi wr => ∃ (k : Nat) (ps : List (Dp × Value)), k ≤ ds.length ∧ vi = .int .i64 k ∧ OwnD wr W.heap.size vo ps ∧ ps.map (·.1) = peersD O (ds.take k) ∧ Below W.heap.size W wr) (fun _ vi _ => ds.length - (intOf vi).toNat)
  case atStart => exact ⟨0, [], Nat.zero_le _, rfl, OwnD.nil _ _, rfl, Below.refl _ _⟩
  case round =>
    obtain ⟨k, ps, hk, rfl, hod, hps, hb⟩ := hrel
    obtain ⟨ao, co, rfl⟩ := hod.len
    have HBR := hide3 hb
    have HOD := hide3 hod
    have HPS := hide3 hps
    have hpl : ps.length = k := by have := congrArg List.length hps; unfold peersD at this; rw [List.length_map, List.length_map, List.length_take] at this; omega
    have hpz : ps.length ≤ 100000000 := by omega
    clear hb hod hps hpl
    by_cases hlt : k < ds.length
    · have hki : (k : Int) < (ds.length : Int) := by omega
      obtain ⟨g, o, rfl, au, nu, cu, c0, c1, hsp, hg⟩ := HEL.out k hlt
      obtain ⟨hz1, hz2⟩ := HFD.out _ (List.getElem_mem hlt)
      have HTK : Hid (peersD O (ds.take (k + 1)) = peersD O (ds.take k) ++ [⟨ds[k].nm, rangeD O ds[k]⟩]) := by
        unfold Hid peersD
        rw [List.take_succ_eq_append_getElem hlt, List.map_append]
        rfl
      obtain ⟨d, hd⟩ : ∃ d, d = ds[k] := ⟨_, rfl⟩
      rw [← hd] at c0 hsp hz1 hz2 HTK
      have d0 := (HBR.out.cell (p := ⟨g, o + k * 2, none⟩) hg).trans c0
      have d1 := (HBR.out.cell (p := ⟨g, o + k * 2 + 1, none⟩) hg).trans c1
      have HDL : Hid (d.rg.length ≤ 9223372036854775807 ∧ d.nm.size ≤ 9223372036854775807) := ⟨hsp.2, by omega⟩
      have HKD : Hid (KeepP fun X => ((Below W.heap.size W X ∧ OwnD X W.heap.size (.slice ao ps.length co) ps) ∧ (SmAt X M n (.int .i64 0) (firstI O) ∧ DepsAt X (.slice ad O.length cap) O)) ∧ SpansC X (.slice au nu cu) d.rg) := fun p q hx hpq => ⟨⟨⟨below_then hx.1.1.1 hpq, hx.1.1.2.below hpq⟩, hx.1.2.1.below hpq, hx.1.2.2.below hpq⟩, hx.2.below hpq⟩
      have HO0 : Hid (((Below W.heap.size W wr ∧ OwnD wr W.heap.size (.slice ao ps.length co) ps) ∧ (SmAt wr M n (.int .i64 0) (firstI O) ∧ DepsAt wr (.slice ad O.length cap) O)) ∧ SpansC wr (.slice au nu cu) d.rg) := ⟨⟨⟨HBR.out, HOD.out⟩, HSW.out.below HBR.out, HDO.out.below HBR.out⟩, hsp.1.below HBR.out⟩
      have HO : Hid (((Below W.heap.size W (wr.alloc (.cells #[.string d.nm, .slice au nu cu] 70)).drew ∧ OwnD (wr.alloc (.cells #[.string d.nm, .slice au nu cu] 70)).drew W.heap.size (.slice ao ps.length co) ps) ∧ (SmAt (wr.alloc (.cells #[.string d.nm, .slice au nu cu] 70)).drew M n (.int .i64 0) (firstI O) ∧ DepsAt (wr.alloc (.cells #[.string d.nm, .slice au nu cu] 70)).drew (.slice ad O.length cap) O)) ∧ SpansC (wr.alloc (.cells #[.string d.nm, .slice au nu cu] 70)).drew (.slice au nu cu) d.rg) := HKD.out _ _ (HKD.out _ _ HO0.out (boxB _ _)) (Below.refl _ _).drew
      have hkr : KB < wr.heap.size := Nat.lt_of_lt_of_le hkl HBR.out.size
      have HBX : Hid (∀ X, Below (wr.alloc (.cells #[.string d.nm, .slice au nu cu] 70)).heap.size (wr.alloc (.cells #[.string d.nm, .slice au nu cu] 70)) X → X.cell? ⟨wr.heap.size, 0, none⟩ = some (.string d.nm) ∧ X.cell? ⟨wr.heap.size, 1, none⟩ = some (.slice au nu cu) ∧ X.cell? ⟨KB, 0, none⟩ = some (.slice ad O.length cap) ∧ X.cell? ⟨KB, 1, none⟩ = some (.map (some M))) := fun X hb => by
        have hq : Below W.heap.size W X := below_then (below_then HBR.out (boxB _ _)) hb
        exact ⟨(hb.cell (p := ⟨wr.heap.size, 0, none⟩) (by simp)).trans (by simp), (hb.cell (p := ⟨wr.heap.size, 1, none⟩) (by simp)).trans (by simp), (hq.cell (p := ⟨KB, 0, none⟩) hkl).trans k0, (hq.cell (p := ⟨KB, 1, none⟩) hkl).trans k1⟩
      have HBB : Hid (Below (wr.alloc (.cells #[.string d.nm, .slice au nu cu] 70)).heap.size (wr.alloc (.cells #[.string d.nm, .slice au nu cu] 70)) (wr.alloc (.cells #[.string d.nm, .slice au nu cu] 70)).drew) := (Below.refl _ _).drew
      have m0 := (HBR.out.cell (p := ⟨KB, 0, none⟩) hkl).trans k0
      have m1 := (HBR.out.cell (p := ⟨KB, 1, none⟩) hkl).trans k1
      have hle : W.heap.size ≤ wr.heap.size := HBR.out.size
      have HNE : Hid (∀ q, (q = wr.heap.size ∨ q = KB) → some q ≠ (Value.slice ao ps.length co).ownBlock) := fun q hq e => by
        have := HOD.out.1.lt _ e.symm
        omega
      have HRO : Hid (∀ X, (((Below W.heap.size W X ∧ OwnD X W.heap.size (.slice ao ps.length co) ps) ∧ (SmAt X M n (.int .i64 0) (firstI O) ∧ DepsAt X (.slice ad O.length cap) O)) ∧ SpansC X (.slice au nu cu) d.rg) → Calls Tryz.prog 61 #[.agg #[.slice ad O.length cap, .map (some M)], .agg #[.string d.nm, .slice au nu cu]] X fun e w' => ∃ a9 b9 c9, e = .returned (.slice a9 b9 c9) ∧ SpansC w' (.slice a9 b9 c9) (rangeD O d) ∧ Below X.heap.size X w') := fun X hx => (range_any hx.1.2.2 hx.1.2.1 d hx.2 HDL.out.1 HDL.out.2).mono fun e w' hq => by
        obtain ⟨v, h1, h2, h3, h4⟩ := hq
        have h2' := h2
        obtain ⟨⟨a9, c9, rfl, _⟩, _⟩ := h2
        exact ⟨a9, _, c9, h1, h2', h4⟩
      have HFIN : Hid (∀ (w6 w7 : World) (vs v1 : Value), (((Below W.heap.size W w6 ∧ OwnD w6 W.heap.size (.slice ao ps.length co) ps) ∧ (SmAt w6 M n (.int .i64 0) (firstI O) ∧ DepsAt w6 (.slice ad O.length cap) O)) ∧ SpansC w6 (.slice au nu cu) d.rg) → OwnS w6 W.heap.size vs (rangeD O d) → w7.ownsRow W.heap.size 70 2 v1 (ps.length + 1) (dpCells ps ++ [.string d.nm, vs]) → w6.grownBy w7 (Value.slice ao ps.length co).ownBlock → OwnD w7 W.heap.size v1 (ps ++ [(Dp.mk d.nm (rangeD O d), vs)]) ∧ (ps ++ [(Dp.mk d.nm (rangeD O d), vs)]).map (·.1) = peersD O (ds.take (k + 1)) ∧ Below W.heap.size W w7) := fun w6 w7 vs v1 h6 hs ho hg => ⟨OwnD.snoc (d := Dp.mk d.nm (rangeD O d)) h6.1.1.2 hs ho hg, by rw [List.map_append, HPS.out, HTK.out]; rfl, h6.1.1.1.trans (below_grown hg (fun g e => (h6.1.1.2.1.lt g e).1) h6.1.1.1.size)⟩
      clear hcap hd
      go_wp2_with fail
      go_region_held3 (fun w' => w'.cell? ⟨wr.heap.size, 0, none⟩ = some (.string d.nm) ∧ w'.cell? ⟨wr.heap.size, 1, none⟩ = some (.slice au nu cu) ∧ w'.cell? ⟨KB, 0, none⟩ = some (.slice ad O.length cap) ∧ w'.cell? ⟨KB, 1, none⟩ = some (.map (some M))) (go_keep) (first
        | (refine step_own (B := W.heap.size) (M := w7.heap.size) (wx := w7) (v := .slice ao ps.length co) infoDp Tryz.underlying32 rfl (by decide) (by decide) rfl (.tmp 18) (.tmp 27) rfl rfl HO7.out.1.1.2.1 hB7 #[.string d.nm, .slice a7 n7 c7] rfl (by simp [Value.oneCell']) rfl rfl (by omega) ?_; intro v1 w8 ho hgr hat; obtain ⟨g8, cap8, rfl, _⟩ := ho.form (by omega); have HP := hide3 (HFIN.out _ _ _ _ HO7.out HS7.out ho (grown_pre (boxB _ _) hgr)); have z0 := (grown_pre (boxB _ _) hgr).cell y0 (HNE.out _ (Or.inl rfl)); have z1 := (grown_pre (boxB _ _) hgr).cell y1 (HNE.out _ (Or.inl rfl)); have z2 := (grown_pre (boxB _ _) hgr).cell y2 (HNE.out _ (Or.inr rfl)); have z3 := (grown_pre (boxB _ _) hgr).cell y3 (HNE.out _ (Or.inr rfl)); clear ho hgr hat)
        | (go_at_call 60; refine (HCL.out _ _ _ HV6.out hz2).mono ?_; rintro e w7 ⟨vs, rfl, hos, hb7⟩; have HB7 := hide3 (below_then HB6.out hb7); have HO7 := hide3 (HKD.out _ _ HO6.out hb7); obtain ⟨y0, y1, y2, y3⟩ := HBX.out _ HB7.out; have HS7 : Hid (OwnS w7 W.heap.size vs (rangeD O d)) := hos.base HO6.out.1.1.1.size; obtain ⟨a7, c7, hvs, _, _⟩ := hos.sp; obtain ⟨n7, hn7⟩ : ∃ n, n = (rangeD O d).length := ⟨_, rfl⟩; rw [← hn7] at hvs; subst hvs; have hB7 : W.heap.size ≤ w7.heap.size := HO7.out.1.1.1.size; clear hb7 hos hn7)
        | (go_at_call 61; refine (HRO.out _ HO5.out).mono ?_; rintro e w6 ⟨a9, b9, c9, rfl, hv6, hb6⟩; have HV6 := hide3 hv6; have HB6 := hide3 (below_then HB5.out hb6); have HO6 := hide3 (HKD.out _ _ HO5.out hb6); obtain ⟨t0, t1, t2, t3⟩ := HBX.out _ HB6.out; clear hb6 hv6)
        | (go_at_call 59; refine (HSC.out _ _ hz1).mono ?_; rintro e w5 ⟨rfl, hb5⟩; have HB5 := hide3 (below_then HBB.out hb5); have HO5 := hide3 (HKD.out _ _ HO.out hb5); obtain ⟨x0, x1, x2, x3⟩ := HBX.out _ HB5.out; clear hb5))
      all_goals go_wp2
      all_goals exact ⟨⟨k + 1, _, by omega, by go_num, HP.out.1, HP.out.2.1, HP.out.2.2⟩, by simp [intOf]; omega⟩
    · obtain rfl : k = ds.length := by omega
      have HPL : Hid (ps.map (·.1) = peersD O ds) := by
        unfold Hid
        rw [HPS.out, List.take_length]
      have hki : ¬ ((ds.length : Int) < (ds.length : Int)) := by omega
      clear HPS
      go_wp2
      go_ret
      exact ⟨_, rfl, ps, HOD.out.base HOV2.out.size, HPL.out, below_then HOV2.out HBR.out⟩
end Go.Proofs.YtjpmlagofcgheaaGreatDoor
