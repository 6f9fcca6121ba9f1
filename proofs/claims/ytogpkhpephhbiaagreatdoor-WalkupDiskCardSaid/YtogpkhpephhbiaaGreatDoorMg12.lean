/- Tw11, Tw12, laid in one text. -/
import Derived.Test.YtogpkhpephhbiaaGreatDoorMg11
namespace Go.Proofs.YtogpkhpephhbiaaGreatDoor
open Go.RowKit
set_option maxRecDepth 100000

theorem lead_to {G : List Nd} (h : leadB G = true) : 0 < G.length ∧ ∀ n ∈ G, ∀ e ∈ n.ed, 0 < e.to ∧ e.to < (G.length : Int) := by
  unfold leadB at h
  simp only [Bool.and_eq_true, decide_eq_true_eq, List.all_eq_true, toB] at h
  exact ⟨h.1, fun n hn e he => h.2 n hn e he⟩
theorem mapQ_no {w w' : World} {L : List Dr} {G : List Nd} {x : Int} (h1 : mapE L G = x) (h2 : mapO L G = []) (hb : Below w.heap.size w w') : MapQ w L G (.returned (.tuple #[.slice none 0 0, .int .i64 x])) w' :=
  ⟨_, by rw [h1], by rw [h2]; exact ⟨rfl, Or.inl ⟨rfl, rfl⟩⟩, hb⟩
theorem mapQ_c {w w' : World} {L : List Dr} {G : List Nd} (h : checkB L = false) (hb : Below w.heap.size w w') : MapQ w L G (.returned (.tuple #[.slice none 0 0, .int .i64 42])) w' :=
  mapQ_no (by unfold mapE; rw [if_neg (by rw [h]; simp)]) (by unfold mapO; rw [if_neg (by rw [h]; simp)]) hb
theorem mapQ_l {w w' : World} {L : List Dr} {G : List Nd} (h0 : checkB L = true) (h : leadB G = false) (hb : Below w.heap.size w w') : MapQ w L G (.returned (.tuple #[.slice none 0 0, .int .i64 33])) w' :=
  mapQ_no (by unfold mapE; rw [if_pos h0, if_neg (by rw [h]; simp)]) (by unfold mapO; rw [if_neg (by rw [h]; simp)]) hb
theorem mapQ_n {w w' : World} {L : List Dr} {G : List Nd} (h0 : checkB L = true) (h1 : leadB G = true) (h : mapV L G = none) (hb : Below w.heap.size w w') : MapQ w L G (.returned (.tuple #[.slice none 0 0, .int .i64 42])) w' :=
  mapQ_no (by unfold mapE; rw [if_pos h0, if_pos h1, if_neg (by rw [h]; simp)]) (by unfold mapO; rw [if_pos ⟨h0, h1⟩, h]; rfl) hb
theorem mapQ_y {w w' : World} {L : List Dr} {G : List Nd} {m : List Int} {v : Value} (h0 : checkB L = true) (h1 : leadB G = true) (h : mapV L G = some m) (ho : OwnI w' w.heap.size v m) (hb : Below w.heap.size w w') : MapQ w L G (.returned (.tuple #[v, .int .i64 0])) w' :=
  ⟨v, by unfold mapE; rw [if_pos h0, if_pos h1, if_pos (by rw [h]; rfl)], by unfold mapO; rw [if_pos ⟨h0, h1⟩, h]; exact ho, hb⟩

theorem getD_at {α : Type} {l : List α} {k : Nat} {d : α} (h : k < l.length) : l.getD k d = l[k] := by
  rw [List.getD_eq_getElem?_getD, List.getElem?_eq_getElem h]
  rfl
theorem step_none1 {L : List Dr} {G : List Nd} {r : Nat} {st : MS} {e : Eg} (h : lookV L (r : Int) e.lb < 0) : stepM L G r st e = none := by unfold stepM; rw [if_pos h]
theorem step_none2 {L : List Dr} {G : List Nd} {r k y : Nat} {st : MS} {e : Eg} (h : lookV L (r : Int) e.lb = k) (hk : k < L.length) (hy : e.to = y) (hyl : y < G.length) (h2 : isOfB L[k] G[y] = false) : stepM L G r st e = none := by
  unfold stepM
  rw [h, hy, if_neg (by omega), Int.toNat_natCast, Int.toNat_natCast, if_pos]
  rw [getD_at hk, getD_at hyl]
  exact h2
theorem step_new {L : List Dr} {G : List Nd} {r k y : Nat} {st : MS} {e : Eg} (h : lookV L (r : Int) e.lb = k) (hk : k < L.length) (hy : e.to = y) (hyl : y < G.length) (h2 : isOfB L[k] G[y] = true) (hm : k < st.m.length) (hx : st.m[k] < 0) : stepM L G r st e = some ⟨st.m.set k e.to, st.q ++ [k]⟩ := by
  unfold stepM
  rw [h, hy, if_neg (by omega), Int.toNat_natCast, Int.toNat_natCast, if_neg, if_pos]
  · rw [getD_at hm]; exact hx
  · rw [getD_at hk, getD_at hyl, h2]; simp
theorem step_old {L : List Dr} {G : List Nd} {r k y : Nat} {st : MS} {e : Eg} (h : lookV L (r : Int) e.lb = k) (hk : k < L.length) (hy : e.to = y) (hyl : y < G.length) (h2 : isOfB L[k] G[y] = true) (hm : k < st.m.length) (hx : ¬ st.m[k] < 0) : stepM L G r st e = if st.m[k] = e.to then some st else none := by
  unfold stepM
  rw [h, hy, if_neg (by omega), Int.toNat_natCast, Int.toNat_natCast, if_neg, if_neg]
  · rw [getD_at hm]
  · rw [getD_at hm]; exact hx
  · rw [getD_at hk, getD_at hyl, h2]; simp

theorem run_on {L : List Dr} {G : List Nd} {n i r : Nat} {st : MS} (h : st.q[i]? = some r) : runM L G (n + 1) i st = (edgesM L G r (edsOf G st r) st).bind (runM L G n (i + 1)) := by rw [runM, h]
theorem run_end {L : List Dr} {G : List Nd} {n i : Nat} {st : MS} (h : st.q[i]? = none) : runM L G (n + 1) i st = some st.m := by rw [runM, h]

/-- What holds at the outer loop's door. -/
def OutM (w : World) (vt vg : Value) (g : Nat) (L : List Dr) (G : List Nd) (vq vi : Value) (wr : World) : Prop :=
  ∃ st i q c, MInv L G st ∧ i ≤ st.q.length ∧ vi = .int .i64 (i : Nat) ∧ vq = .slice (some ⟨q, 0, none⟩) st.q.length c ∧ StM w vt vg g q c st wr ∧ mapV L G = runM L G (L.length + 1 - i) i st
/-- What holds at the inner loop's. -/
def InnM (w : World) (vt vg : Value) (g : Nat) (L : List Dr) (G : List Nd) (i r : Nat) (ed : List Eg) (vq vj : Value) (wr : World) : Prop :=
  ∃ st j q c, MInv L G st ∧ j ≤ ed.length ∧ st.q[i]? = some r ∧ vj = .int .i64 (j : Nat) ∧ vq = .slice (some ⟨q, 0, none⟩) st.q.length c ∧ StM w vt vg g q c st wr ∧ mapV L G = (edgesM L G r (ed.drop j) st).bind (runM L G (L.length - i) (i + 1))

theorem StM.bel {w : World} {vt vg : Value} {g q c : Nat} {st : MS} {wr : World} (h : StM w vt vg g q c st wr) : Below w.heap.size w wr := h.1.1
/-- An edge's variable. -/
def BxE (w : World) (N : Nat) (e : Eg) : Prop := (w.cell? ⟨N, 0, none⟩ = some (.string e.lb) ∧ w.cell? ⟨N, 1, none⟩ = some (.int .i64 e.to)) ∧ N < w.heap.size
theorem keepBxE (N : Nat) (e : Eg) : KeepP fun w1 => BxE w1 N e := fun w w' h hb => by
  obtain ⟨⟨h0, h1⟩, hg⟩ := h
  exact ⟨⟨(hb.cell (p := ⟨N, 0, none⟩) hg).trans h0, (hb.cell (p := ⟨N, 1, none⟩) hg).trans h1⟩, Nat.lt_of_lt_of_le hg hb.size⟩
theorem BxE.new (w : World) (e : Eg) : BxE (w.alloc (.cells #[.string e.lb, .int .i64 e.to] 69)) w.heap.size e := ⟨⟨by simp, by simp⟩, by simp⟩
theorem row_base {w : World} {B B' : Nat} {e : TypeId} {sz : Nat} {v : Value} {n : Nat} {xs : List Value} (h : w.ownsRow B e sz v n xs) (hb : B' ≤ B) : w.ownsRow B' e sz v n xs := ⟨h.1, h.2.imp id fun ⟨g, cap, cur, e, hB, r⟩ => ⟨g, cap, cur, e, Nat.le_trans hb hB, r⟩⟩
theorem keepNd (g o : Nat) (n : Nd) (vc ve : Value) : KeepP fun w1 => NdIn w1 g o n vc ve := fun _ _ h hb => h.below hb

set_option maxHeartbeats 25600000 in
theorem map_any {L : List Dr} {G : List Nd} {vt vg : Value} {w : World} (ht : DirsAt w vt L) (hz : L.length ≤ 9223372036854775807) (hk : DrsOk L) (hg : NodesAt w vg G) (hgz : GrOk G) (he : Env w) (hf : FL w) :
    Calls Tryz.prog 23 #[.agg #[vt], .agg #[vg]] w fun e w' => MapQ w L G e w' := by
  have HCK : Hid (∀ w1, Below w.heap.size w w1 → Calls Tryz.prog 38 #[.agg #[vt]] w1 fun e w' => e = .returned (.int .i64 (errT (checkB L))) ∧ Below w1.heap.size w1 w') := fun w1 hb => tCheck_any (ht.below hb) hz hk (he.below hb) (hf.below hb)
  have HLE : Hid (∀ w1, Below w.heap.size w w1 → Calls Tryz.prog 39 #[.agg #[vg]] w1 fun e w' => e = .returned (.bool (leadB G)) ∧ Below w1.heap.size w1 w') := fun w1 hb => mayLead_any (hg.below hb) hgz
  have HLK : Hid (∀ w1, Below w.heap.size w w1 → ∀ (r : Nat) s, Calls Tryz.prog 24 #[.agg #[vt], .int .i64 r, .string s] w1 fun e w' => e = .returned (.int .i64 (lookV L r s)) ∧ Below w1.heap.size w1 w') := fun w1 hb r s => look_any (ht.below hb) hz hk.1 r s
  have HDT : Hid (∀ w1, Below w.heap.size w w1 → DirsAt w1 vt L) := fun w1 hb => ht.below hb
  have HDG : Hid (∀ w1, Below w.heap.size w w1 → NodesAt w1 vg G) := fun w1 hb => hg.below hb
  obtain ⟨ta, tc, rfl, htc, htx⟩ := ht.sl
  obtain ⟨ga, gc, rfl, hgc, hgx⟩ := hg
  have HKB : Hid (KeepP fun w1 => Below w.heap.size w w1 ∧ BxT w1 w.heap.size (.slice ta L.length tc) ∧ BxT w1 (w.heap.size + 1) (.slice ga G.length gc)) := (keepBelow w).and ((keepBxT _ _).and (keepBxT _ _))
  have HBX : Hid (Below w.heap.size w ((w.alloc (.cells #[.slice ta L.length tc] 67)).alloc (.cells #[.slice ga G.length gc] 76)) ∧ BxT ((w.alloc (.cells #[.slice ta L.length tc] 67)).alloc (.cells #[.slice ga G.length gc] 76)) w.heap.size (.slice ta L.length tc) ∧ BxT ((w.alloc (.cells #[.slice ta L.length tc] 67)).alloc (.cells #[.slice ga G.length gc] 76)) (w.heap.size + 1) (.slice ga G.length gc)) := ⟨boxB2 _ _ _, keepBxT _ _ _ _ (BxT.new _ _) (boxB _ _), by have h := BxG.new (w.alloc (.cells #[.slice ta L.length tc] 67)) (.slice ga G.length gc); rw [show (w.alloc (.cells #[.slice ta L.length tc] 67)).heap.size = w.heap.size + 1 by simp] at h; exact h⟩
  have hgz1 := hgz.1
  have HGZ := hide3 hgz.2
  clear ht he hf hk hgz htx hgx
  cases hcb : checkB L
  · rw [hcb] at HCK
    have HQ : Hid (∀ w', Below w.heap.size w w' → MapQ w L G (.returned (.tuple #[.slice none 0 0, .int .i64 42])) w') := fun w' hb => mapQ_c hcb hb
    go_enter Tryz.func23, Tryz.ntmps23
    go_wp2_with (go_at_call 38; refine (HCK.out _ (boxB2 _ _ _)).mono ?_; rintro e w3 ⟨rfl, ok⟩; have HB3 := hide3 (HKB.out _ _ HBX.out ok); clear ok)
    go_ret2
    exact HQ.out _ HB3.out.1
  · rw [hcb] at HCK
    cases hlb : leadB G
    · rw [hlb] at HLE
      have HQ : Hid (∀ w', Below w.heap.size w w' → MapQ w L G (.returned (.tuple #[.slice none 0 0, .int .i64 33])) w') := fun w' hb => mapQ_l hcb hlb hb
      go_enter Tryz.func23, Tryz.ntmps23
      go_wp2_with (first
        | (go_at_call 38; refine (HCK.out _ (boxB2 _ _ _)).mono ?_; rintro e w3 ⟨rfl, ok⟩; have HB3 := hide3 (HKB.out _ _ HBX.out ok); obtain ⟨_, ⟨x0, x1⟩, ⟨y0, y1⟩⟩ := HB3.out; clear ok)
        | (go_at_call 39; refine (HLE.out _ HB3.out.1).mono ?_; rintro e w4 ⟨rfl, ok⟩; have HB4 := hide3 (HKB.out _ _ HB3.out ok); clear ok))
      go_ret2
      exact HQ.out _ HB4.out.1
    · rw [hlb] at HLE
      have hcc := (checkB_iff.1 hcb).1
      have hl1 : 1 ≤ L.length := hcc.1
      have hl2 : L.length ≤ 257 := hcc.2
      have HTO := hide3 (lead_to hlb)
      have HQN : Hid (mapV L G = none → ∀ w', Below w.heap.size w w' → MapQ w L G (.returned (.tuple #[.slice none 0 0, .int .i64 42])) w') := fun h w' hb => mapQ_n hcb hlb h hb
      have HQY : Hid (∀ m v w', mapV L G = some m → OwnI w' w.heap.size v m → Below w.heap.size w w' → MapQ w L G (.returned (.tuple #[v, .int .i64 0])) w') := fun m v w' h ho hb => mapQ_y hcb hlb h ho hb
      have HRP : Hid (∀ w4, w.heap.size + 2 ≤ w4.heap.size → Calls Tryz.prog 40 #[.slice (some ⟨w4.heap.size, 0, none⟩) 1 1, .int .i64 L.length] (w4.alloc (.cells #[.int .i64 (-1)] 3)) fun e w' => ∃ g, e = .returned (.slice (some ⟨g, 0, none⟩) L.length L.length) ∧ w.heap.size + 2 ≤ g ∧ w'.heap[g]? = some (.cells (List.replicate L.length (Value.int .i64 (-1))).toArray 3 (0, 0)) ∧ Below w4.heap.size w4 w') := fun w4 hs => by
        refine (repeat_any (g0 := w4.heap.size) (n := L.length) (w := w4.alloc (.cells #[.int .i64 (-1)] 3)) (by simp) hl1 (by omega)).mono ?_
        rintro e w' ⟨rfl, h1, h2⟩
        exact ⟨_, rfl, by simp; omega, h1, below_then (boxB _ _) h2⟩
      clear hcc hcb hlb
      go_enter Tryz.func23, Tryz.ntmps23
      go_wp2_with (first
        | (go_at_call 38; refine (HCK.out _ (boxB2 _ _ _)).mono ?_; rintro e w3 ⟨rfl, ok⟩; have HB3 := hide3 (HKB.out _ _ HBX.out ok); obtain ⟨_, ⟨x0, x1⟩, ⟨y0, y1⟩⟩ := HB3.out; clear ok)
        | (go_at_call 39; refine (HLE.out _ HB3.out.1).mono ?_; rintro e w4 ⟨rfl, ok⟩; have HB4 := hide3 (HKB.out _ _ HB3.out ok); have z0 : (w4.alloc (.cells #[.int .i64 (-1)] 3)).cell? ⟨w.heap.size, 0, none⟩ = some (.slice ta L.length tc) := ((boxB w4 (.cells #[.int .i64 (-1)] 3)).cell (p := ⟨w.heap.size, 0, none⟩) HB4.out.2.1.2).trans HB4.out.2.1.1; clear ok)
        | (go_at_call 40; refine (HRP.out w4 HB4.out.2.2.2).mono ?_; rintro e w5 ⟨g, rfl, hg5, hr5, hb5⟩; have HB5 := hide3 (HKB.out _ _ HB4.out hb5); have HR5 := hide3 hr5; have n0 : w5.cell? ⟨g, 0, none⟩ = some (.int .i64 (-1)) := (by rw [Lib.cell_of_heap hr5]; show (List.replicate L.length (Value.int .i64 (-1))).toArray[0]? = _; rw [List.getElem?_toArray, List.getElem?_replicate, if_pos (show 0 < L.length from hl1)]); have f0 : w5.frozen? ⟨g, 0, none⟩ = false := Lib.frozen_of_heap hr5 0; clear hb5 hr5))
      have HST : Hid (StM w (.slice ta L.length tc) (.slice ga G.length gc) g w5.heap.size 1 (startM L.length) ((w5.setCell ⟨g, 0, none⟩ (.int .i64 0)).alloc (.cells #[.int .i64 0] 3))) := by
        have hlen : (List.replicate L.length (-1 : Int)).length = L.length := List.length_replicate
        have h1 : w5.ownsRow (w.heap.size + 2) 3 1 (.slice (some ⟨g, 0, none⟩) L.length L.length) L.length (ints (List.replicate L.length (-1))) := ⟨by rw [ints_length, hlen, Nat.mul_one], Or.inr ⟨g, L.length, _, rfl, hg5, HR5.out, Nat.le_refl _, by unfold maxLen; omega, by simp, by simp [ints]⟩⟩
        obtain ⟨h2, h3⟩ := World.ownsRow.stored h1 0 (.int .i64 0)
        have hs5 : (w5.setCell ⟨g, 0, none⟩ (.int .i64 0)).heap.size = w5.heap.size := by simp
        have hB5 : w.heap.size + 2 ≤ w5.heap.size := HB5.out.2.2.2
        have hg6 : g < w5.heap.size := (World.ownsRow.lt h1 g rfl).2
        have hbb := boxB (w5.setCell ⟨g, 0, none⟩ (.int .i64 0)) (.cells #[.int .i64 0] 3)
        refine ⟨⟨below_then (HB5.out.1.grown h3 HB5.out.1.size (fun k hk => by cases hk; omega)) hbb, keepBxT _ _ _ _ ⟨h3.cell HB5.out.2.1.1 (by simp; omega), by rw [hs5]; exact HB5.out.2.1.2⟩ hbb, keepBxT _ _ _ _ ⟨h3.cell HB5.out.2.2.1 (by simp; omega), by rw [hs5]; exact HB5.out.2.2.2⟩ hbb⟩, ⟨?_, ?_⟩, by omega⟩
        · have h4 := row_below h2 hbb
          rw [← ints_set] at h4
          have e : (startM L.length).m.length = L.length := by simp [startM]
          rw [e]
          exact h4
        · refine ⟨rfl, Or.inr ⟨w5.heap.size, 1, #[.int .i64 0], rfl, hB5, ?_, Nat.le_refl _, by unfold maxLen; omega, rfl, rfl⟩⟩
          rw [← hs5]
          exact heap_alloc_new _ _
      clear n0 f0 z0 x0 x1 y0 y1
      have HMI : Hid (MInv L G (startM L.length)) := MInv.start hl1 HTO.out.1
      go_loopw [8, 9] (fun vq vi wr => OutM w (.slice ta L.length tc) (.slice ga G.length gc) g L G vq vi wr) (fun _ vi _ => L.length + 1 - (intOf vi).toNat)
      case atStart => exact ⟨startM L.length, 0, w5.heap.size, 1, HMI.out, Nat.zero_le _, rfl, rfl, HST.out, rfl⟩
      case round =>
        obtain ⟨st, i, q, c, hinv, hi, rfl, rfl, hst, hrun⟩ := hrel
        have HIN := hide3 hinv
        have HSTM := hide3 hst
        have HRUN := hide3 hrun
        obtain ⟨wa, rfl⟩ : ∃ x, x = wr := ⟨wr, rfl⟩
        have hqL := hinv.short
        by_cases hlt : i < st.q.length
        · obtain ⟨r, hr⟩ : ∃ r, r = st.q[i] := ⟨_, rfl⟩
          obtain ⟨hrm, hr0⟩ := hinv.qin r (by rw [hr]; exact List.getElem_mem hlt)
          have hrL : r < L.length := by rw [← hinv.len]; exact hrm
          obtain ⟨y, hy⟩ : ∃ y : Nat, st.m[r] = y := ⟨st.m[r].toNat, by omega⟩
          have hyG : y < G.length := by
            rcases hinv.each r hrm with h | h
            · omega
            · rw [hy] at h; omega
          have HSQ : Hid (st.q[i]? = some r) := by unfold Hid; rw [List.getElem?_eq_getElem hlt, hr]
          have HED0 : Hid (mapV L G = (edgesM L G r G[y].ed st).bind (runM L G (L.length - i) (i + 1))) := by
            unfold Hid
            rw [HRUN.out, show L.length + 1 - i = (L.length - i) + 1 by omega, run_on HSQ.out]
            have e : edsOf G st r = G[y].ed := by
              unfold edsOf
              rw [getD_at hrm, hy, Int.toNat_natCast, getD_at hyG]
            rw [e]
          obtain ⟨ga', gc', eq, _, hnd⟩ := HDG.out w (Below.refl _ _)
          cases eq
          obtain ⟨gg, go, rfl, _, hnz⟩ : ∃ g o, ga = some ⟨g, o, none⟩ ∧ g < w.heap.size ∧ ∀ i (h : i < G.length), ∃ vc ve, NdIn w g (o + i * 6) G[i] vc ve := by
            rcases hnd with h | h
            · rw [h] at hyG; simp at hyG
            · exact h
          obtain ⟨vc, ve, hni⟩ := hnz y hyG
          have HEA : Hid (∀ w1, Below w.heap.size w w1 → EdgesAt w1 ve G[y].ed) := fun w1 hb => hni.2.1.2.below hb
          have HNZ : Hid (∀ w1, Below w.heap.size w w1 → ∀ i (h : i < G.length), ∃ vc ve, NdIn w1 gg (go + i * 6) G[i] vc ve) := fun w1 hb i hi => by obtain ⟨vc, ve, h⟩ := hnz i hi; exact ⟨vc, ve, h.below hb⟩
          have HTY : Hid (∀ e ∈ G[y].ed, 0 < e.to ∧ e.to < (G.length : Int)) := HTO.out.2 _ (List.getElem_mem hyG)
          have hez := HGZ.out _ (List.getElem_mem hyG)
          have i1 := hst.seen hlt
          rw [← hr] at i1
          have i2 := hst.node hrm
          rw [hy] at i2
          obtain ⟨ea, ec, rfl⟩ := hni.2.1.2.sl
          obtain ⟨pa, pc, rfl⟩ := hni.2.1.1.sl
          generalize G[y] = nd at *
          have HK : Hid (KeepP fun w1 => StM w (.slice ta L.length tc) (.slice (some ⟨gg, go, none⟩) G.length gc) g q c st w1 ∧ (InI w1 q i (r : Int) ∧ InI w1 g r (y : Int)) ∧ NdIn w1 gg (go + y * 6) nd (.slice pa nd.cx.length pc) (.slice ea nd.ed.length ec)) := (keepStM _ _ _ _ _ _ _).and (((keepInI _ _ _).and (keepInI _ _ _)).and (keepNd _ _ _ _ _))
          have HO : Hid (StM w (.slice ta L.length tc) (.slice (some ⟨gg, go, none⟩) G.length gc) g q c st wa ∧ (InI wa q i (r : Int) ∧ InI wa g r (y : Int)) ∧ NdIn wa gg (go + y * 6) nd (.slice pa nd.cx.length pc) (.slice ea nd.ed.length ec)) := ⟨hst, ⟨i1, i2⟩, hni.below hst.1.1⟩
          clear hst hrun hinv hnd hnz hni i1 i2 hr hy hr0 hrm
          go_wp2_with fail
          refine wp_region_keep HK.out (by kernel_rfl) (by kernel_rfl) (by first | exact HO.out | exact HK.out.drew HO.out) ?_
          intro C hin hout
          have HIN := hide3 hin
          have HOUT := hide3 hout
          clear hin hout HO
          repeat
            (with_reducible refine wpQuiet_step (fun K hK => ?_)
             go_simp
             first
               | (refine hK _ ?_; clear hK K)
               | (apply Exists.intro; refine ⟨fun w1 hC => ?_, hK _ ?_⟩; (focus ((first | (exact rfl) | (obtain ⟨⟨⟨hb1, ⟨t0, t1⟩, ⟨u0, u1⟩⟩, _, _⟩, ⟨⟨p0, p1⟩, ⟨p2, p3⟩⟩, ⟨⟨d0, d1, d2, d3, d4, d5⟩, _, dg⟩⟩ := HOUT.out w1 hC; clear hC; go_simp; first | done | exact rfl)); done)); clear hK K))
          refine wpQuiet_nil ?_
          intro wn hC
          have HO := hide3 (HOUT.out _ hC)
          clear hC HIN HOUT C
          obtain ⟨⟨⟨hb1, ⟨t0, t1⟩, ⟨u0, u1⟩⟩, _, _⟩, ⟨⟨p0, p1⟩, ⟨p2, p3⟩⟩, ⟨⟨d0, d1, d2, d3, d4, d5⟩, _, dg⟩⟩ := HO.out
          go_wp2_with fail
          have HS0 : Hid (StM w (.slice ta L.length tc) (.slice (some ⟨gg, go, none⟩) G.length gc) g q c st wn) := HO.out.1
          clear HO HK hb1 t0 t1 u0 u1 p0 p1 p2 p3 d0 d1 d2 d3 d4 d5 dg
          go_loopw [8, 48] (fun vq vj wx => InnM w (.slice ta L.length tc) (.slice (some ⟨gg, go, none⟩) G.length gc) g L G i r nd.ed vq vj wx) (fun _ vj _ => nd.ed.length - (intOf vj).toNat)
          case atStart => exact ⟨st, 0, q, c, HIN.out, Nat.zero_le _, HSQ.out, rfl, rfl, HS0.out, HED0.out⟩
          case round =>
            clear HS0 HSQ HED0 HIN HSTM HRUN
            obtain ⟨st, j, q, c, hinv, hj, hsq, rfl, rfl, hst, hrun⟩ := hrel
            have HIN := hide3 hinv
            have HSQ := hide3 hsq
            have HRUN := hide3 hrun
            have hqL := hinv.short
            have hiq : i < st.q.length := (List.getElem?_eq_some_iff.1 hsq).1
            by_cases hlj : j < nd.ed.length
            · have hej := HTY.out _ (List.getElem_mem hlj)
              obtain ⟨yt, hyt⟩ : ∃ yt : Nat, nd.ed[j].to = yt := ⟨nd.ed[j].to.toNat, by omega⟩
              have hytG : yt < G.length := by omega
              obtain ⟨ea', ec', eq2, _, hcs⟩ := HEA.out wr hst.1.1
              cases eq2
              obtain ⟨eg, eo, rfl, heg, hcz⟩ : ∃ g o, ea = some ⟨g, o, none⟩ ∧ g < wr.heap.size ∧ ∀ i (h : i < nd.ed.length), EgIn wr g (o + i * 2) nd.ed[i] := by
                rcases hcs with h | h
                · rw [h] at hlj; simp at hlj
                · exact h
              obtain ⟨⟨e0, e1⟩, _⟩ := hcz j hlj
              obtain ⟨ta', tc', eq3, _, hdd⟩ := HDT.out w (Below.refl _ _)
              cases eq3
              obtain ⟨tg, tf, rfl, hds⟩ : ∃ g o, ta = some ⟨g, o, none⟩ ∧ ∀ i (h : i < L.length), ∃ u v1 v2 v3, DrIn w g (o + i * 9) L[i] u v1 v2 v3 := by
                rcases hdd with h | h
                · rw [h] at hl1; simp at hl1
                · exact h
              have HDS := hide3 hds
              have HSTEP : Hid (mapV L G = ((stepM L G r st nd.ed[j]).bind (edgesM L G r (nd.ed.drop (j + 1)))).bind (runM L G (L.length - i) (i + 1))) := by
                unfold Hid
                rw [HRUN.out, List.drop_eq_getElem_cons hlj]
                rfl
              have i1 := hst.seen hiq
              have hqi : st.q[i] = r := (List.getElem?_eq_some_iff.1 hsq).2
              rw [hqi] at i1
              clear hcs hdd hcz hds hqi hrun hinv hsq HRUN
              generalize nd.ed[j] = e at *
              have HL := hide3 (fun w1 hb => HLK.out w1 hb r e.lb)
              have HN1 : Hid (lookV L (r : Int) e.lb < 0 → mapV L G = none) := fun h => by rw [HSTEP.out, step_none1 h]; rfl
              have HN2 : Hid (∀ k, lookV L (r : Int) e.lb = (k : Nat) → ∀ hk : k < L.length, isOfB L[k] G[yt] = false → mapV L G = none) := fun k h hk h2 => by rw [HSTEP.out, step_none2 h hk hyt hytG h2]; rfl
              have HN3 : Hid (∀ k, lookV L (r : Int) e.lb = (k : Nat) → ∀ hk : k < L.length, isOfB L[k] G[yt] = true → ∀ hm : k < st.m.length, st.m[k] < 0 → mapV L G = (edgesM L G r (nd.ed.drop (j + 1)) ⟨st.m.set k e.to, st.q ++ [k]⟩).bind (runM L G (L.length - i) (i + 1))) := fun k h hk h2 hm hx => by rw [HSTEP.out, step_new h hk hyt hytG h2 hm hx]; rfl
              have HN4 : Hid (∀ k, lookV L (r : Int) e.lb = (k : Nat) → ∀ hk : k < L.length, isOfB L[k] G[yt] = true → ∀ hm : k < st.m.length, ¬ st.m[k] < 0 → ¬ st.m[k] = e.to → mapV L G = none) := fun k h hk h2 hm hx hy => by rw [HSTEP.out, step_old h hk hyt hytG h2 hm hx, if_neg hy]; rfl
              have HN5 : Hid (∀ k, lookV L (r : Int) e.lb = (k : Nat) → ∀ hk : k < L.length, isOfB L[k] G[yt] = true → ∀ hm : k < st.m.length, ¬ st.m[k] < 0 → st.m[k] = e.to → mapV L G = (edgesM L G r (nd.ed.drop (j + 1)) st).bind (runM L G (L.length - i) (i + 1))) := fun k h hk h2 hm hx hy => by rw [HSTEP.out, step_old h hk hyt hytG h2 hm hx, if_pos hy]; rfl
              have hlv := lookV_lt L (r : Int) e.lb
              generalize lookV L (r : Int) e.lb = av at *
              have HGQ : Hid (g < wr.heap.size ∧ q < wr.heap.size) := ⟨(World.ownsRow.lt hst.2.1.1 g rfl).2, (World.ownsRow.lt hst.2.1.2 q rfl).2⟩
              have HK : Hid (KeepP fun w1 => StM w (.slice (some ⟨tg, tf, none⟩) L.length tc) (.slice (some ⟨gg, go, none⟩) G.length gc) g q c st w1 ∧ InI w1 q i (r : Int) ∧ BxE w1 wr.heap.size e) := (keepStM _ _ _ _ _ _ _).and ((keepInI _ _ _).and (keepBxE _ _))
              have HO : Hid (StM w (.slice (some ⟨tg, tf, none⟩) L.length tc) (.slice (some ⟨gg, go, none⟩) G.length gc) g q c st (wr.alloc (.cells #[.string e.lb, .int .i64 (yt : Int)] 69)) ∧ InI (wr.alloc (.cells #[.string e.lb, .int .i64 (yt : Int)] 69)) q i (r : Int) ∧ BxE (wr.alloc (.cells #[.string e.lb, .int .i64 (yt : Int)] 69)) wr.heap.size e) := by
                unfold Hid
                rw [← hyt]
                exact ⟨keepStM _ _ _ _ _ _ _ _ _ hst (boxB _ _), keepInI _ _ _ _ _ i1 (boxB _ _), BxE.new _ _⟩
              clear hst i1 HSTEP
              rcases (show av = -1 ∨ ∃ k : Nat, av = k ∧ k < L.length by
                rcases (show av = -1 ∨ 0 ≤ av by omega) with h | h
                · exact Or.inl h
                · exact Or.inr ⟨av.toNat, by omega, by omega⟩) with rfl | ⟨k, rfl, hkL⟩
              · have HR := hide3 (HN1.out (by decide))
                go_wp2_with fail
                refine wp_region_keep HK.out (by kernel_rfl) (by kernel_rfl) (by first | exact HO.out | exact HK.out.drew HO.out) ?_
                intro C hin hout
                have HIN := hide3 hin
                have HOUT := hide3 hout
                clear hin hout HO
                repeat
                  (with_reducible refine wpQuiet_step (fun K hK => ?_)
                   go_simp
                   first
                     | (refine hK _ ?_; clear hK K)
                     | (apply Exists.intro; refine ⟨fun w1 hC => ?_, hK _ ?_⟩; (focus ((first | (go_at_call 24; with_reducible exact callC' HIN.out HOUT.out HK.out (fun w1 hk => HL.out w1 (StM.bel hk.1)) w1 hC) | (exact rfl) | (obtain ⟨⟨⟨hb1, ⟨t0, t1⟩, ⟨u0, u1⟩⟩, _, _⟩, ⟨p0, p1⟩, ⟨⟨b0, b1⟩, b2⟩⟩ := HOUT.out w1 hC; clear hC; go_simp; first | done | exact rfl)); done)); clear hK K))
                refine wpQuiet_nil ?_
                intro w15 hC
                have HO := hide3 (HOUT.out _ hC)
                clear hC HIN HOUT C
                obtain ⟨⟨⟨hb1, ⟨t0, t1⟩, ⟨u0, u1⟩⟩, _, _⟩, ⟨p0, p1⟩, ⟨⟨b0, b1⟩, b2⟩⟩ := HO.out
                go_wp2_with fail
                clear hb1 t0 t1 u0 u1 p0 p1 b0 b1 b2
                refine wp_region_keep HK.out (by kernel_rfl) (by kernel_rfl) (by first | exact HO.out | exact HK.out.drew HO.out) ?_
                intro C hin hout
                have HIN := hide3 hin
                have HOUT := hide3 hout
                clear hin hout HO
                repeat
                  (with_reducible refine wpQuiet_step (fun K hK => ?_)
                   go_simp
                   first
                     | (refine hK _ ?_; clear hK K)
                     | (apply Exists.intro; refine ⟨fun w1 hC => ?_, hK _ ?_⟩; (focus ((first | (exact rfl) | (obtain ⟨⟨⟨hb1, ⟨t0, t1⟩, ⟨u0, u1⟩⟩, _, _⟩, ⟨p0, p1⟩, ⟨⟨b0, b1⟩, b2⟩⟩ := HOUT.out w1 hC; clear hC; go_simp; first | done | exact rfl)); done)); clear hK K))
                refine wpQuiet_nil ?_
                intro w16 hC
                have HO := hide3 (HOUT.out _ hC)
                clear hC HIN HOUT C
                obtain ⟨⟨⟨hb1, ⟨t0, t1⟩, ⟨u0, u1⟩⟩, _, _⟩, ⟨p0, p1⟩, ⟨⟨b0, b1⟩, b2⟩⟩ := HO.out
                go_wp2
                go_ret2
                exact HQN.out HR.out _ HO.out.1.1.1
              · go_wp2_with fail
                refine wp_region_keep HK.out (by kernel_rfl) (by kernel_rfl) (by first | exact HO.out | exact HK.out.drew HO.out) ?_
                intro C hin hout
                have HIN := hide3 hin
                have HOUT := hide3 hout
                clear hin hout HO
                repeat
                  (with_reducible refine wpQuiet_step (fun K hK => ?_)
                   go_simp
                   first
                     | (refine hK _ ?_; clear hK K)
                     | (apply Exists.intro; refine ⟨fun w1 hC => ?_, hK _ ?_⟩; (focus ((first | (go_at_call 24; with_reducible exact callC' HIN.out HOUT.out HK.out (fun w1 hk => HL.out w1 (StM.bel hk.1)) w1 hC) | (exact rfl) | (obtain ⟨⟨⟨hb1, ⟨t0, t1⟩, ⟨u0, u1⟩⟩, _, _⟩, ⟨p0, p1⟩, ⟨⟨b0, b1⟩, b2⟩⟩ := HOUT.out w1 hC; clear hC; go_simp; first | done | exact rfl)); done)); clear hK K))
                refine wpQuiet_nil ?_
                intro w15 hC
                have HO := hide3 (HOUT.out _ hC)
                clear hC HIN HOUT C
                obtain ⟨⟨⟨hb1, ⟨t0, t1⟩, ⟨u0, u1⟩⟩, _, _⟩, ⟨p0, p1⟩, ⟨⟨b0, b1⟩, b2⟩⟩ := HO.out
                go_wp2_with fail
                clear t0 t1 u0 u1 p0 p1 b0 b1 b2
                have hmk : k < st.m.length := by rw [HIN.out.len]; exact hkL
                have HMK := hide3 (HIN.out.each k hmk)
                obtain ⟨u, v1, v2, v3, hdk⟩ := HDS.out k hkL
                obtain ⟨vc2, ve2, hn2⟩ := HNZ.out w (Below.refl _ _) yt hytG
                obtain ⟨ua, uc, rfl⟩ := hdk.2.1.1.sl
                obtain ⟨x1, z1, rfl⟩ := hdk.2.1.2.1.sl
                obtain ⟨x2, z2, rfl⟩ := hdk.2.1.2.2.1.sl
                obtain ⟨x3, z3, rfl⟩ := hdk.2.1.2.2.2.sl
                obtain ⟨y1, k1, rfl⟩ := hn2.2.1.1.sl
                obtain ⟨y2, k2, rfl⟩ := hn2.2.1.2.sl
                have HIS := hide3 (isOf_any L[k] G[yt] ua x1 x2 x3 y1 y2 L[k].pa.length uc L[k].pk.d.length z1 L[k].pk.p.length z2 L[k].pk.o.length z3 G[yt].cx.length k1 G[yt].ed.length k2)
                have H2 := hide3 (HN2.out k rfl hkL)
                have H3 := hide3 (fun h => HN3.out k rfl hkL h hmk)
                have H4 := hide3 (fun h => HN4.out k rfl hkL h hmk)
                have H5 := hide3 (fun h => HN5.out k rfl hkL h hmk)
                have HMS : Hid (∀ w1, StM w (.slice (some ⟨tg, tf, none⟩) L.length tc) (.slice (some ⟨gg, go, none⟩) G.length gc) g q c st w1 → InI w1 g k st.m[k]) := fun w1 h => h.node hmk
                have HIV : Hid (st.m[k] < 0 → MInv L G ⟨st.m.set k e.to, st.q ++ [k]⟩) := fun h => HIN.out.set hmk h hej.1 hej.2
                have hkm := hmk
                generalize isOfB L[k] G[yt] = ib at *
                generalize L[k] = dk at *
                generalize G[yt] = n2 at *
                generalize st.m[k] = xm at *
                have HD2 : Hid (DrIn w15 tg (tf + k * 9) dk (.slice ua dk.pa.length uc) (.slice x1 dk.pk.d.length z1) (.slice x2 dk.pk.p.length z2) (.slice x3 dk.pk.o.length z3) ∧ NdIn w15 gg (go + yt * 6) n2 (.slice y1 n2.cx.length k1) (.slice y2 n2.ed.length k2)) := ⟨hdk.below HO.out.1.1.1, hn2.below HO.out.1.1.1⟩
                have HS15 := hide3 HO.out.1
                have HE15 := hide3 HO.out.2.2
                clear HO HK hdk hn2 hb1 HN1 HN2 HN3 HN4 HN5 HL
                have HK : Hid (KeepP fun w1 => StM w (.slice (some ⟨tg, tf, none⟩) L.length tc) (.slice (some ⟨gg, go, none⟩) G.length gc) g q c st w1 ∧ (InI w1 g k xm ∧ BxE w1 wr.heap.size e) ∧ DrIn w1 tg (tf + k * 9) dk (.slice ua dk.pa.length uc) (.slice x1 dk.pk.d.length z1) (.slice x2 dk.pk.p.length z2) (.slice x3 dk.pk.o.length z3) ∧ NdIn w1 gg (go + yt * 6) n2 (.slice y1 n2.cx.length k1) (.slice y2 n2.ed.length k2)) := (keepStM _ _ _ _ _ _ _).and (((keepInI _ _ _).and (keepBxE _ _)).and ((keepDr _ _ _ _ _ _ _).and (keepNd _ _ _ _ _)))
                have HO : Hid (StM w (.slice (some ⟨tg, tf, none⟩) L.length tc) (.slice (some ⟨gg, go, none⟩) G.length gc) g q c st w15 ∧ (InI w15 g k xm ∧ BxE w15 wr.heap.size e) ∧ DrIn w15 tg (tf + k * 9) dk (.slice ua dk.pa.length uc) (.slice x1 dk.pk.d.length z1) (.slice x2 dk.pk.p.length z2) (.slice x3 dk.pk.o.length z3) ∧ NdIn w15 gg (go + yt * 6) n2 (.slice y1 n2.cx.length k1) (.slice y2 n2.ed.length k2)) := ⟨HS15.out, ⟨HMS.out _ HS15.out, HE15.out⟩, HD2.out⟩
                obtain ⟨⟨⟨hb1, ⟨t0, t1⟩, ⟨u0, u1⟩⟩, _, _⟩, ⟨⟨n0, n1⟩, ⟨⟨b0, b1⟩, b2⟩⟩, ⟨⟨d0, d1, d2, d3, d4, d5, d6, d7, d8⟩, _, dg⟩, ⟨⟨m0, m1, m2, m3, m4, m5⟩, _, mg⟩⟩ := HO.out
                clear hb1 t0 t1 u0 u1 n0 n1 b0 b1 b2 d0 d1 d2 d3 d4 d5 d6 d7 d8 dg m0 m1 m2 m3 m4 m5 mg HD2 HS15 HE15
                cases ib
                · have HR := hide3 (H2.out rfl)
                  refine wp_region_keep HK.out (by kernel_rfl) (by kernel_rfl) (by first | exact HO.out | exact HK.out.drew HO.out) ?_
                  intro C hin hout
                  have HIN := hide3 hin
                  have HOUT := hide3 hout
                  clear hin hout HO
                  repeat
                    (with_reducible refine wpQuiet_step (fun K hK => ?_)
                     go_simp
                     first
                       | (refine hK _ ?_; clear hK K)
                       | (apply Exists.intro; refine ⟨fun w1 hC => ?_, hK _ ?_⟩; (focus ((first | (go_at_call 41; with_reducible exact callC HIN.out HOUT.out HK.out HIS.out w1 hC) | (exact rfl) | (obtain ⟨⟨⟨hb1, ⟨t0, t1⟩, ⟨u0, u1⟩⟩, _, _⟩, ⟨⟨n0, n1⟩, ⟨⟨b0, b1⟩, b2⟩⟩, ⟨⟨d0, d1, d2, d3, d4, d5, d6, d7, d8⟩, _, dg⟩, ⟨⟨m0, m1, m2, m3, m4, m5⟩, _, mg⟩⟩ := HOUT.out w1 hC; clear hC; go_simp; first | done | exact rfl)); done)); clear hK K))
                  refine wpQuiet_nil ?_
                  intro w16 hC
                  have HO := hide3 (HOUT.out _ hC)
                  clear hC HIN HOUT C
                  obtain ⟨⟨⟨hb1, ⟨t0, t1⟩, ⟨u0, u1⟩⟩, _, _⟩, ⟨⟨n0, n1⟩, ⟨⟨b0, b1⟩, b2⟩⟩, ⟨⟨d0, d1, d2, d3, d4, d5, d6, d7, d8⟩, _, dg⟩, ⟨⟨m0, m1, m2, m3, m4, m5⟩, _, mg⟩⟩ := HO.out
                  go_wp2
                  go_ret2
                  exact HQN.out HR.out _ HO.out.1.1.1
                · by_cases hx : xm < 0
                  · have HR := hide3 (H3.out rfl hx)
                    have HIV2 := hide3 (HIV.out hx)
                    refine wp_region_keep HK.out (by kernel_rfl) (by kernel_rfl) (by first | exact HO.out | exact HK.out.drew HO.out) ?_
                    intro C hin hout
                    have HIN := hide3 hin
                    have HOUT := hide3 hout
                    clear hin hout HO
                    repeat
                      (with_reducible refine wpQuiet_step (fun K hK => ?_)
                       go_simp
                       first
                         | (refine hK _ ?_; clear hK K)
                         | (apply Exists.intro; refine ⟨fun w1 hC => ?_, hK _ ?_⟩; (focus ((first | (go_at_call 41; with_reducible exact callC HIN.out HOUT.out HK.out HIS.out w1 hC) | (exact rfl) | (obtain ⟨⟨⟨hb1, ⟨t0, t1⟩, ⟨u0, u1⟩⟩, _, _⟩, ⟨⟨n0, n1⟩, ⟨⟨b0, b1⟩, b2⟩⟩, ⟨⟨d0, d1, d2, d3, d4, d5, d6, d7, d8⟩, _, dg⟩, ⟨⟨m0, m1, m2, m3, m4, m5⟩, _, mg⟩⟩ := HOUT.out w1 hC; clear hC; go_simp; first | done | exact rfl)); done)); clear hK K))
                    refine wpQuiet_nil ?_
                    intro w16 hC
                    have HO := hide3 (HOUT.out _ hC)
                    clear hC HIN HOUT C
                    obtain ⟨⟨⟨hb1, ⟨t0, t1⟩, ⟨u0, u1⟩⟩, _, _⟩, ⟨⟨n0, n1⟩, ⟨⟨b0, b1⟩, b2⟩⟩, ⟨⟨d0, d1, d2, d3, d4, d5, d6, d7, d8⟩, _, dg⟩, ⟨⟨m0, m1, m2, m3, m4, m5⟩, _, mg⟩⟩ := HO.out
                    have HS16 := hide3 HO.out.1
                    have HS17 : Hid (StM w (.slice (some ⟨tg, tf, none⟩) L.length tc) (.slice (some ⟨gg, go, none⟩) G.length gc) g q c ⟨st.m.set k (yt : Int), st.q⟩ (w16.setCell ⟨g, k, none⟩ (.int .i64 (yt : Int)))) := StM.put HO.out.1 k (yt : Int)
                    have HOW17 : Hid ((w16.setCell ⟨g, k, none⟩ (.int .i64 (yt : Int))).ownsRow (w.heap.size + 2) 3 1 (.slice (some ⟨q, 0, none⟩) st.q.length c) st.q.length (nats st.q)) := HS17.out.2.1.2
                    have fz : w16.frozen? ⟨g, k, none⟩ = false := World.ownsRow.frozenAt HO.out.1.2.1.1 k
                    have hB17 : w.heap.size + 2 ≤ (w16.setCell ⟨g, k, none⟩ (.int .i64 (yt : Int))).heap.size := HS17.out.1.2.2.2
                    have HE16 : Hid (BxE w16 wr.heap.size e) := HO.out.2.1.2
                    have HE17 : Hid (BxE (w16.setCell ⟨g, k, none⟩ (.int .i64 (yt : Int))) wr.heap.size e) := by
                      have h3 := (World.ownsRow.stored HO.out.1.2.1.1 k (.int .i64 (yt : Int))).2
                      have := HGQ.out.1
                      exact ⟨⟨h3.cell HE16.out.1.1 (by simp; omega), h3.cell HE16.out.1.2 (by simp; omega)⟩, Nat.lt_of_lt_of_le HE16.out.2 h3.size⟩
                    clear HO HK
                    go_wp2_with (at_builtin; refine wp_ownI (B := w.heap.size + 2) (wx := w16.setCell ⟨g, k, none⟩ (.int .i64 (yt : Int))) (x := (k : Int)) (v := .slice (some ⟨q, 0, none⟩) st.q.length c) (n := st.q.length) rfl (.tmp 87) (.tmp 89) rfl rfl HOW17.out hB17 (by simp) rfl (by omega) ?_; intro v20 w20 ho hgr hat; obtain ⟨q2, c2, rfl, hs20⟩ := StM.app HS17.out k ho (grown_on (boxB _ _) hgr) hat; have HS20 := hide3 hs20; have HE20 : Hid (BxE w20 wr.heap.size e) := (by have hgo := grown_on (boxB _ _) hgr; have := HGQ.out.2; exact ⟨⟨hgo.cell HE17.out.1.1 (by simp [Value.ownBlock]; omega), hgo.cell HE17.out.1.2 (by simp [Value.ownBlock]; omega)⟩, Nat.lt_of_lt_of_le HE17.out.2 hgo.size⟩); clear ho hgr hat hs20)
                    clear hb1 t0 t1 u0 u1 n0 n1 b0 b1 b2 d0 d1 d2 d3 d4 d5 d6 d7 d8 dg m0 m1 m2 m3 m4 m5 mg fz
                    have HSQ2 : Hid ((st.q ++ [k])[i]? = some r) := by unfold Hid; rw [List.getElem?_append_left hiq]; exact HSQ.out
                    have HIK : Hid (InI w20 g k (yt : Int)) := by
                      have h := HS20.out.node (k := k) (by simpa using hkm)
                      have e2 : (MS.mk (st.m.set k (yt : Int)) (st.q ++ [k])).m[k]'(by simpa using hkm) = (yt : Int) := List.getElem_set_self _
                      rw [e2] at h
                      exact h
                    have HK : Hid (KeepP fun w1 => StM w (.slice (some ⟨tg, tf, none⟩) L.length tc) (.slice (some ⟨gg, go, none⟩) G.length gc) g q2 c2 ⟨st.m.set k (yt : Int), st.q ++ [k]⟩ w1 ∧ InI w1 g k (yt : Int) ∧ BxE w1 wr.heap.size e) := (keepStM _ _ _ _ _ _ _).and ((keepInI _ _ _).and (keepBxE _ _))
                    have HO : Hid (StM w (.slice (some ⟨tg, tf, none⟩) L.length tc) (.slice (some ⟨gg, go, none⟩) G.length gc) g q2 c2 ⟨st.m.set k (yt : Int), st.q ++ [k]⟩ w20 ∧ InI w20 g k (yt : Int) ∧ BxE w20 wr.heap.size e) := ⟨HS20.out, HIK.out, HE20.out⟩
                    refine wp_region_keep HK.out (by kernel_rfl) (by kernel_rfl) (by first | exact HO.out | exact HK.out.drew HO.out) ?_
                    intro C hin hout
                    have HIN := hide3 hin
                    have HOUT := hide3 hout
                    clear hin hout HO
                    repeat
                      (with_reducible refine wpQuiet_step (fun K hK => ?_)
                       go_simp
                       first
                         | (refine hK _ ?_; clear hK K)
                         | (apply Exists.intro; refine ⟨fun w1 hC => ?_, hK _ ?_⟩; (focus ((first | (exact rfl) | (obtain ⟨⟨⟨hb1, ⟨t0, t1⟩, ⟨u0, u1⟩⟩, _, _⟩, ⟨n0, n1⟩, ⟨⟨b0, b1⟩, b2⟩⟩ := HOUT.out w1 hC; clear hC; go_simp; first | done | exact rfl)); done)); clear hK K))
                    refine wpQuiet_nil ?_
                    intro w21 hC
                    have HO := hide3 (HOUT.out _ hC)
                    clear hC HIN HOUT C
                    obtain ⟨⟨⟨hb1, ⟨t0, t1⟩, ⟨u0, u1⟩⟩, _, _⟩, ⟨n0, n1⟩, ⟨⟨b0, b1⟩, b2⟩⟩ := HO.out
                    go_wp2
                    rw [hyt] at HR HIV2
                    exact ⟨⟨⟨st.m.set k (yt : Int), st.q ++ [k]⟩, j + 1, q2, c2, HIV2.out, by omega, HSQ2.out, by go_num, (by show _ = Value.slice _ (st.q ++ [k]).length _; rw [List.length_append]; rfl), HO.out.1, HR.out⟩, by simp [intOf]; omega⟩
                  · by_cases hxe : xm = e.to
                    · have HR := hide3 (H5.out rfl (by omega) hxe)
                      subst hxe
                      refine wp_region_keep HK.out (by kernel_rfl) (by kernel_rfl) (by first | exact HO.out | exact HK.out.drew HO.out) ?_
                      intro C hin hout
                      have HIN := hide3 hin
                      have HOUT := hide3 hout
                      clear hin hout HO
                      repeat
                        (with_reducible refine wpQuiet_step (fun K hK => ?_)
                         go_simp
                         first
                           | (refine hK _ ?_; clear hK K)
                           | (apply Exists.intro; refine ⟨fun w1 hC => ?_, hK _ ?_⟩; (focus ((first | (go_at_call 41; with_reducible exact callC HIN.out HOUT.out HK.out HIS.out w1 hC) | (exact rfl) | (obtain ⟨⟨⟨hb1, ⟨t0, t1⟩, ⟨u0, u1⟩⟩, _, _⟩, ⟨⟨n0, n1⟩, ⟨⟨b0, b1⟩, b2⟩⟩, ⟨⟨d0, d1, d2, d3, d4, d5, d6, d7, d8⟩, _, dg⟩, ⟨⟨m0, m1, m2, m3, m4, m5⟩, _, mg⟩⟩ := HOUT.out w1 hC; clear hC; go_simp; first | done | exact rfl)); done)); clear hK K))
                      refine wpQuiet_nil ?_
                      intro w16 hC
                      have HO := hide3 (HOUT.out _ hC)
                      clear hC HIN HOUT C
                      obtain ⟨⟨⟨hb1, ⟨t0, t1⟩, ⟨u0, u1⟩⟩, _, _⟩, ⟨⟨n0, n1⟩, ⟨⟨b0, b1⟩, b2⟩⟩, ⟨⟨d0, d1, d2, d3, d4, d5, d6, d7, d8⟩, _, dg⟩, ⟨⟨m0, m1, m2, m3, m4, m5⟩, _, mg⟩⟩ := HO.out
                      go_wp2_with fail
                      clear hb1 t0 t1 u0 u1 n0 n1 b0 b1 b2 d0 d1 d2 d3 d4 d5 d6 d7 d8 dg m0 m1 m2 m3 m4 m5 mg
                      refine wp_region_keep HK.out (by kernel_rfl) (by kernel_rfl) (by first | exact HO.out | exact HK.out.drew HO.out) ?_
                      intro C hin hout
                      have HIN := hide3 hin
                      have HOUT := hide3 hout
                      clear hin hout HO
                      repeat
                        (with_reducible refine wpQuiet_step (fun K hK => ?_)
                         go_simp
                         first
                           | (refine hK _ ?_; clear hK K)
                           | (apply Exists.intro; refine ⟨fun w1 hC => ?_, hK _ ?_⟩; (focus ((first | (exact rfl) | (obtain ⟨⟨⟨hb1, ⟨t0, t1⟩, ⟨u0, u1⟩⟩, _, _⟩, ⟨⟨n0, n1⟩, ⟨⟨b0, b1⟩, b2⟩⟩, ⟨⟨d0, d1, d2, d3, d4, d5, d6, d7, d8⟩, _, dg⟩, ⟨⟨m0, m1, m2, m3, m4, m5⟩, _, mg⟩⟩ := HOUT.out w1 hC; clear hC; go_simp; first | done | exact rfl)); done)); clear hK K))
                      refine wpQuiet_nil ?_
                      intro w21 hC
                      have HO := hide3 (HOUT.out _ hC)
                      clear hC HIN HOUT C
                      obtain ⟨⟨⟨hb1, ⟨t0, t1⟩, ⟨u0, u1⟩⟩, _, _⟩, ⟨⟨n0, n1⟩, ⟨⟨b0, b1⟩, b2⟩⟩, ⟨⟨d0, d1, d2, d3, d4, d5, d6, d7, d8⟩, _, dg⟩, ⟨⟨m0, m1, m2, m3, m4, m5⟩, _, mg⟩⟩ := HO.out
                      go_wp2
                      exact ⟨⟨st, j + 1, q, c, HIN.out, by omega, HSQ.out, by go_num, rfl, HO.out.1, HR.out⟩, by simp [intOf]; omega⟩
                    · have HR := hide3 (H4.out rfl (by omega) hxe)
                      have hxb : (xm == e.to) = false := by rw [beq_eq_false_iff_ne]; exact hxe
                      refine wp_region_keep HK.out (by kernel_rfl) (by kernel_rfl) (by first | exact HO.out | exact HK.out.drew HO.out) ?_
                      intro C hin hout
                      have HIN := hide3 hin
                      have HOUT := hide3 hout
                      clear hin hout HO
                      repeat
                        (with_reducible refine wpQuiet_step (fun K hK => ?_)
                         go_simp
                         first
                           | (refine hK _ ?_; clear hK K)
                           | (apply Exists.intro; refine ⟨fun w1 hC => ?_, hK _ ?_⟩; (focus ((first | (go_at_call 41; with_reducible exact callC HIN.out HOUT.out HK.out HIS.out w1 hC) | (exact rfl) | (obtain ⟨⟨⟨hb1, ⟨t0, t1⟩, ⟨u0, u1⟩⟩, _, _⟩, ⟨⟨n0, n1⟩, ⟨⟨b0, b1⟩, b2⟩⟩, ⟨⟨d0, d1, d2, d3, d4, d5, d6, d7, d8⟩, _, dg⟩, ⟨⟨m0, m1, m2, m3, m4, m5⟩, _, mg⟩⟩ := HOUT.out w1 hC; clear hC; go_simp; first | done | exact rfl)); done)); clear hK K))
                      refine wpQuiet_nil ?_
                      intro w16 hC
                      have HO := hide3 (HOUT.out _ hC)
                      clear hC HIN HOUT C
                      obtain ⟨⟨⟨hb1, ⟨t0, t1⟩, ⟨u0, u1⟩⟩, _, _⟩, ⟨⟨n0, n1⟩, ⟨⟨b0, b1⟩, b2⟩⟩, ⟨⟨d0, d1, d2, d3, d4, d5, d6, d7, d8⟩, _, dg⟩, ⟨⟨m0, m1, m2, m3, m4, m5⟩, _, mg⟩⟩ := HO.out
                      go_wp2_with fail
                      clear hb1 t0 t1 u0 u1 n0 n1 b0 b1 b2 d0 d1 d2 d3 d4 d5 d6 d7 d8 dg m0 m1 m2 m3 m4 m5 mg
                      refine wp_region_keep HK.out (by kernel_rfl) (by kernel_rfl) (by first | exact HO.out | exact HK.out.drew HO.out) ?_
                      intro C hin hout
                      have HIN := hide3 hin
                      have HOUT := hide3 hout
                      clear hin hout HO
                      repeat
                        (with_reducible refine wpQuiet_step (fun K hK => ?_)
                         go_simp
                         first
                           | (refine hK _ ?_; clear hK K)
                           | (apply Exists.intro; refine ⟨fun w1 hC => ?_, hK _ ?_⟩; (focus ((first | (exact rfl) | (obtain ⟨⟨⟨hb1, ⟨t0, t1⟩, ⟨u0, u1⟩⟩, _, _⟩, ⟨⟨n0, n1⟩, ⟨⟨b0, b1⟩, b2⟩⟩, ⟨⟨d0, d1, d2, d3, d4, d5, d6, d7, d8⟩, _, dg⟩, ⟨⟨m0, m1, m2, m3, m4, m5⟩, _, mg⟩⟩ := HOUT.out w1 hC; clear hC; go_simp; first | done | exact rfl)); done)); clear hK K))
                      refine wpQuiet_nil ?_
                      intro w21 hC
                      have HO := hide3 (HOUT.out _ hC)
                      clear hC HIN HOUT C
                      obtain ⟨⟨⟨hb1, ⟨t0, t1⟩, ⟨u0, u1⟩⟩, _, _⟩, ⟨⟨n0, n1⟩, ⟨⟨b0, b1⟩, b2⟩⟩, ⟨⟨d0, d1, d2, d3, d4, d5, d6, d7, d8⟩, _, dg⟩, ⟨⟨m0, m1, m2, m3, m4, m5⟩, _, mg⟩⟩ := HO.out
                      go_wp2
                      go_ret2
                      exact HQN.out HR.out _ HO.out.1.1.1
            · obtain rfl : j = nd.ed.length := by omega
              have HR : Hid (mapV L G = runM L G (L.length + 1 - (i + 1)) (i + 1) st) := by
                unfold Hid
                rw [HRUN.out, List.drop_length, show L.length + 1 - (i + 1) = L.length - i by omega]
                rfl
              have HS1 := hide3 hst
              clear hst hrun hsq hinv
              go_wp2
              exact ⟨⟨st, i + 1, q, c, HIN.out, hiq, by go_num, rfl, HS1.out, HR.out⟩, by simp [intOf]; omega⟩
        · obtain rfl : i = st.q.length := by omega
          have HR : Hid (mapV L G = some st.m) := by
            unfold Hid
            rw [HRUN.out, show L.length + 1 - st.q.length = (L.length - st.q.length) + 1 by omega]
            exact run_end (List.getElem?_eq_none (Nat.le_refl _))
          have HOI : Hid (OwnI wa w.heap.size (.slice (some ⟨g, 0, none⟩) L.length L.length) st.m) := by
            have h := hst.2.1.1
            rw [hinv.len] at h
            unfold Hid OwnI
            rw [hinv.len]
            exact row_base h (by omega)
          have HBE := hide3 hst.1.1
          clear hst hrun hinv
          go_wp2
          go_ret2
          exact HQY.out _ _ _ HR.out HOI.out HBE.out
end Go.Proofs.YtogpkhpephhbiaaGreatDoor
namespace Go.Proofs.YtogpkhpephhbiaaGreatDoor
open Go.RowKit
set_option maxRecDepth 100000

def sA : ByteArray := ⟨#[97]⟩
def sB : ByteArray := ⟨#[98]⟩
def pkA : Pg := ⟨sA, 1, 0, 0, [], [], []⟩
def smallL : List Dr := [⟨[], zeroPg, 0⟩, ⟨[sA], pkA, 1⟩]
def smallG : List Nd := [⟨⟨#[]⟩, 0, 0, 0, [], [⟨sA, 1⟩]⟩, ⟨sA, 1, 0, 0, [], []⟩]
theorem sA_ne_sB : sA ≠ sB := by
  intro h
  have : sA.data = sB.data := by rw [h]
  exact absurd this (by decide)
theorem nameSA : Sc.nameA sA.data.toList = true := by decide +kernel
theorem nameSB : Sc.nameA sB.data.toList = true := by decide +kernel
theorem once_none : onceL [[], [], []] = true := by
  unfold onceL
  refine @decide_eq_true _ (Classical.propDecidable _) ?_
  have h : namesL [[], [], []] = [] := rfl
  rw [h]
  exact List.nodup_nil
theorem pkA_written : writtenB pkA = true := by
  unfold writtenB soundB onceB
  have h1 : Sc.nameA pkA.nm.data.toList = true := nameSA
  have h2 : mayV pkA.a pkA.b pkA.c = true := by decide +kernel
  have h3 : mayD pkA.d = true ∧ mayD pkA.p = true ∧ mayD pkA.o = true := ⟨by decide +kernel, by decide +kernel, by decide +kernel⟩
  have h4 : onceL [pkA.d, pkA.p, pkA.o] = true := once_none
  have h5 : (textP pkA).length ≤ 4096 := by decide +kernel
  rw [h1, h2, h3.1, h3.2.1, h3.2.2, h4, decide_eq_true h5]
  rfl
theorem find_a : findV smallL [sA] = 1 := findV_at (k := 1) (by decide) rfl (fun j hj h1 h => by
  obtain rfl : j = 0 := by omega
  cases h)
theorem find_aa : findV smallL [sA, sA] = -1 := findV_no fun j h1 h => by
  rcases (show j = 0 ∨ j = 1 by have : smallL.length = 2 := rfl; omega) with rfl | rfl
  · cases h
  · cases h
theorem find_b : findV smallL [sB] = -1 := findV_no fun j h1 h => by
  rcases (show j = 0 ∨ j = 1 by have : smallL.length = 2 := rfl; omega) with rfl | rfl
  · cases h
  · exact sA_ne_sB (List.cons.inj h).1
theorem look_1a : lookV smallL 1 sA = 1 := by
  rw [show (1 : Int) = ((1 : Nat) : Int) from rfl, lookV_in (by decide) nameSA]
  show lookN smallL [sA] sA 1 = 1
  rw [look_miss (by exact find_aa), look_end]
  exact find_a
theorem look_0a : lookV smallL 0 sA = 1 := by
  rw [show (0 : Int) = ((0 : Nat) : Int) from rfl, lookV_in (by decide) nameSA]
  exact find_a
theorem look_0b : lookV smallL 0 sB = -1 := by
  rw [show (0 : Int) = ((0 : Nat) : Int) from rfl, lookV_in (by decide) nameSB]
  exact find_b
theorem small_check : checkB smallL = true := by
  refine checkB_iff.2 ⟨by decide, ?_, fun i hi h0 => ?_⟩
  · show rootB ⟨[], zeroPg, 0⟩ = true
    unfold rootB
    rw [eqB_yes rfl]
    rfl
  · obtain rfl : i = 1 := by have : smallL.length = 2 := rfl; omega
    rw [follI_at hi]
    show follD [⟨[], zeroPg, 0⟩] ⟨[sA], pkA, 1⟩ = true
    unfold follD
    have h1 : mayPaB [sA] = true := by decide +kernel
    have h2 : eqB pkA.nm (lastP [sA]) = true := eqB_yes rfl
    have h3 : findV [⟨[], zeroPg, 0⟩] [sA] = -1 := findV_no fun j h1 h => by
      obtain rfl : j = 0 := by simpa using h1
      cases h
    have h4 : findV [⟨[], zeroPg, 0⟩] ([sA].take ([sA].length - 1)) = 0 := findV_at (k := 0) (by decide) rfl (fun j hj => by omega)
    simp only [h1, h2, pkA_written, h3, h4]
    rfl
theorem small_lead : leadB smallG = true := by decide +kernel
theorem small_isOf : isOfB ⟨[sA], pkA, 1⟩ ⟨sA, 1, 0, 0, [], []⟩ = true := by
  unfold isOfB
  show (eqB sA sA && _) = true
  rw [eqB_yes rfl]
  rfl
theorem small_map : mapV smallL smallG = some [0, 1] := by
  have h1 : stepM smallL smallG 0 ⟨[0, -1], [0]⟩ ⟨sA, 1⟩ = some ⟨[0, 1], [0, 1]⟩ :=
    step_new (k := 1) (y := 1) look_0a (by decide) rfl (by decide) small_isOf (by decide) (by decide)
  show runM smallL smallG 3 0 ⟨[0, -1], [0]⟩ = _
  rw [run_on (r := 0) rfl]
  show ((stepM smallL smallG 0 ⟨[0, -1], [0]⟩ ⟨sA, 1⟩).bind (edgesM smallL smallG 0 [])).bind _ = _
  rw [h1]
  show runM smallL smallG 2 1 ⟨[0, 1], [0, 1]⟩ = _
  rw [run_on (r := 1) rfl]
  show runM smallL smallG 1 2 ⟨[0, 1], [0, 1]⟩ = _
  rw [run_end rfl]
theorem small_mapO : mapO smallL smallG = [0, 1] := by
  unfold mapO
  rw [if_pos ⟨small_check, small_lead⟩, small_map]
  rfl
theorem small_mapE : mapE smallL smallG = 0 := by
  unfold mapE
  rw [if_pos small_check, if_pos small_lead, small_map]
  rfl

/-- The small tree and graph in memory. -/
def w1S (w : World) : World := (w.alloc (.cells #[.int .i64 1, .int .i64 0, .int .i64 0] 59)).alloc (.cells #[.string ⟨#[97]⟩] 9)
def w2S (w : World) : World := (w1S w).alloc (.cells #[.slice none 0 0, .string ⟨#[]⟩, .int .i64 0, .int .i64 0, .int .i64 0, .slice none 0 0, .slice none 0 0, .slice none 0 0, .int .i64 0, .slice (some ⟨w.heap.size + 1, 0, none⟩) 1 1, .string ⟨#[97]⟩, .int .i64 1, .int .i64 0, .int .i64 0, .slice none 0 0, .slice none 0 0, .slice none 0 0, .int .i64 1] 64)
def w3S (w : World) : World := (w2S w).alloc (.cells #[.slice (some ⟨w.heap.size + 1 + 1, 0, none⟩) 2 2] 67)
def w4S (w : World) : World := (w3S w).alloc (.cells #[.string ⟨#[97]⟩, .int .i64 1] 69)
def w5S (w : World) : World := (w4S w).alloc (.cells #[.string ⟨#[]⟩, .int .i64 0, .int .i64 0, .int .i64 0, .slice none 0 0, .slice (some ⟨w.heap.size + 1 + 1 + 1 + 1, 0, none⟩) 1 1, .string ⟨#[97]⟩, .int .i64 1, .int .i64 0, .int .i64 0, .slice none 0 0, .slice none 0 0] 73)
def w6S (w : World) : World := (w5S w).alloc (.cells #[.slice (some ⟨w.heap.size + 1 + 1 + 1 + 1 + 1, 0, none⟩) 2 2] 76)
theorem s1S (w : World) : (w1S w).heap.size = w.heap.size + 2 := by simp [w1S]
theorem s2S (w : World) : (w2S w).heap.size = w.heap.size + 3 := by simp [w2S, s1S]
theorem s3S (w : World) : (w3S w).heap.size = w.heap.size + 4 := by simp [w3S, s2S]
theorem s4S (w : World) : (w4S w).heap.size = w.heap.size + 5 := by simp [w4S, s3S]
theorem s5S (w : World) : (w5S w).heap.size = w.heap.size + 6 := by simp [w5S, s4S]
theorem b6S (w : World) : Below w.heap.size w (w6S w) := below_then (boxB2 w _ _) (below_then (boxB (w1S w) _) (below_then (boxB (w2S w) _) (below_then (boxB (w3S w) _) (below_then (boxB (w4S w) _) (boxB (w5S w) _)))))
theorem path_none (w : World) : PathAt w (.slice none 0 0) [] := ⟨none, 0, rfl, Nat.le_refl _, Or.inl rfl⟩
theorem deps_none (w : World) : DepsAt w (.slice none 0 0) [] := ⟨none, 0, rfl, Nat.le_refl _, Or.inl rfl⟩
theorem dirs2S (w : World) : DirsAt (w2S w) (.slice (some ⟨w.heap.size + 1 + 1, 0, none⟩) 2 2) smallL := by
  have hsz := s1S w
  have hp : PathAt (w1S w) (.slice (some ⟨w.heap.size + 1, 0, none⟩) 1 1) [sA] := ⟨_, 1, rfl, Nat.le_refl _, Or.inr ⟨w.heap.size + 1, 0, rfl, fun i hi => by
    obtain rfl : i = 0 := by simpa using hi
    exact ⟨by simp [w1S, sA], by rw [hsz]; omega⟩⟩⟩
  have hbb : Below (w1S w).heap.size (w1S w) (w2S w) := boxB _ _
  have cell : ∀ j v, (#[.slice none 0 0, .string ⟨#[]⟩, .int .i64 0, .int .i64 0, .int .i64 0, .slice none 0 0, .slice none 0 0, .slice none 0 0, .int .i64 0, .slice (some ⟨w.heap.size + 1, 0, none⟩) 1 1, .string ⟨#[97]⟩, .int .i64 1, .int .i64 0, .int .i64 0, .slice none 0 0, .slice none 0 0, .slice none 0 0, .int .i64 1] : Array Value)[j]? = some v → (w2S w).cell? ⟨w.heap.size + 1 + 1, j, none⟩ = some v := fun j v hj => by
    have hb : (w2S w).heap[w.heap.size + 1 + 1]? = some (.cells #[.slice none 0 0, .string ⟨#[]⟩, .int .i64 0, .int .i64 0, .int .i64 0, .slice none 0 0, .slice none 0 0, .slice none 0 0, .int .i64 0, .slice (some ⟨w.heap.size + 1, 0, none⟩) 1 1, .string ⟨#[97]⟩, .int .i64 1, .int .i64 0, .int .i64 0, .slice none 0 0, .slice none 0 0, .slice none 0 0, .int .i64 1] 64 (0, 0)) := by
      have h := heap_alloc_new (w1S w) (.cells #[.slice none 0 0, .string ⟨#[]⟩, .int .i64 0, .int .i64 0, .int .i64 0, .slice none 0 0, .slice none 0 0, .slice none 0 0, .int .i64 0, .slice (some ⟨w.heap.size + 1, 0, none⟩) 1 1, .string ⟨#[97]⟩, .int .i64 1, .int .i64 0, .int .i64 0, .slice none 0 0, .slice none 0 0, .slice none 0 0, .int .i64 1] 64)
      rw [hsz] at h
      exact h
    rw [Lib.cell_of_heap hb]
    exact hj
  refine ⟨_, 2, rfl, Nat.le_refl _, Or.inr ⟨w.heap.size + 1 + 1, 0, rfl, fun i hi => ?_⟩⟩
  rcases (show i = 0 ∨ i = 1 by have : smallL.length = 2 := rfl; omega) with rfl | rfl
  · exact ⟨.slice none 0 0, .slice none 0 0, .slice none 0 0, .slice none 0 0, ⟨cell 0 _ rfl, cell 1 _ rfl, cell 2 _ rfl, cell 3 _ rfl, cell 4 _ rfl, cell 5 _ rfl, cell 6 _ rfl, cell 7 _ rfl, cell 8 _ rfl⟩, ⟨path_none _, deps_none _, deps_none _, deps_none _⟩, by rw [s2S]; omega⟩
  · exact ⟨.slice (some ⟨w.heap.size + 1, 0, none⟩) 1 1, .slice none 0 0, .slice none 0 0, .slice none 0 0, ⟨cell 9 _ rfl, cell 10 _ rfl, cell 11 _ rfl, cell 12 _ rfl, cell 13 _ rfl, cell 14 _ rfl, cell 15 _ rfl, cell 16 _ rfl, cell 17 _ rfl⟩, ⟨hp.below hbb, deps_none _, deps_none _, deps_none _⟩, by rw [s2S]; omega⟩
theorem nodes5S (w : World) : NodesAt (w5S w) (.slice (some ⟨w.heap.size + 1 + 1 + 1 + 1 + 1, 0, none⟩) 2 2) smallG := by
  have hsz := s4S w
  have he : EdgesAt (w4S w) (.slice (some ⟨w.heap.size + 1 + 1 + 1 + 1, 0, none⟩) 1 1) [⟨sA, 1⟩] := ⟨_, 1, rfl, Nat.le_refl _, Or.inr ⟨w.heap.size + 1 + 1 + 1 + 1, 0, rfl, by rw [hsz]; omega, fun i hi => by
    obtain rfl : i = 0 := by simpa using hi
    have hb : (w4S w).heap[w.heap.size + 1 + 1 + 1 + 1]? = some (.cells #[.string ⟨#[97]⟩, .int .i64 1] 69 (0, 0)) := by
      have h := heap_alloc_new (w3S w) (.cells #[.string ⟨#[97]⟩, .int .i64 1] 69)
      rw [s3S] at h
      exact h
    exact ⟨⟨by rw [Lib.cell_of_heap hb]; rfl, by rw [Lib.cell_of_heap hb]; rfl⟩, by rw [hsz]; omega⟩⟩⟩
  have hbb : Below (w4S w).heap.size (w4S w) (w5S w) := boxB _ _
  have hb : (w5S w).heap[w.heap.size + 1 + 1 + 1 + 1 + 1]? = some (.cells #[.string ⟨#[]⟩, .int .i64 0, .int .i64 0, .int .i64 0, .slice none 0 0, .slice (some ⟨w.heap.size + 1 + 1 + 1 + 1, 0, none⟩) 1 1, .string ⟨#[97]⟩, .int .i64 1, .int .i64 0, .int .i64 0, .slice none 0 0, .slice none 0 0] 73 (0, 0)) := by
    have h := heap_alloc_new (w4S w) (.cells #[.string ⟨#[]⟩, .int .i64 0, .int .i64 0, .int .i64 0, .slice none 0 0, .slice (some ⟨w.heap.size + 1 + 1 + 1 + 1, 0, none⟩) 1 1, .string ⟨#[97]⟩, .int .i64 1, .int .i64 0, .int .i64 0, .slice none 0 0, .slice none 0 0] 73)
    rw [hsz] at h
    exact h
  have hpn : PinsAt (w5S w) (.slice none 0 0) [] := ⟨none, 0, rfl, Nat.le_refl _, Or.inl rfl⟩
  have hen : EdgesAt (w5S w) (.slice none 0 0) [] := ⟨none, 0, rfl, Nat.le_refl _, Or.inl rfl⟩
  have hlt : w.heap.size + 1 + 1 + 1 + 1 + 1 < (w5S w).heap.size := by rw [s5S]; omega
  refine ⟨_, 2, rfl, Nat.le_refl _, Or.inr ⟨w.heap.size + 1 + 1 + 1 + 1 + 1, 0, rfl, hlt, fun i hi => ?_⟩⟩
  rcases (show i = 0 ∨ i = 1 by have : smallG.length = 2 := rfl; omega) with rfl | rfl
  · exact ⟨.slice none 0 0, .slice (some ⟨w.heap.size + 1 + 1 + 1 + 1, 0, none⟩) 1 1, ⟨by rw [Lib.cell_of_heap hb]; rfl, by rw [Lib.cell_of_heap hb]; rfl, by rw [Lib.cell_of_heap hb]; rfl, by rw [Lib.cell_of_heap hb]; rfl, by rw [Lib.cell_of_heap hb]; rfl, by rw [Lib.cell_of_heap hb]; rfl⟩, ⟨hpn, he.below hbb⟩, hlt⟩
  · exact ⟨.slice none 0 0, .slice none 0 0, ⟨by rw [Lib.cell_of_heap hb]; rfl, by rw [Lib.cell_of_heap hb]; rfl, by rw [Lib.cell_of_heap hb]; rfl, by rw [Lib.cell_of_heap hb]; rfl, by rw [Lib.cell_of_heap hb]; rfl, by rw [Lib.cell_of_heap hb]; rfl⟩, ⟨hpn, hen⟩, hlt⟩
theorem small_ok : DrsOk smallL := ⟨fun d hd => by
  simp only [smallL, List.mem_cons, List.not_mem_nil, or_false] at hd
  rcases hd with rfl | rfl <;> simp, fun d hd => by
  simp only [smallL, List.mem_cons, List.not_mem_nil, or_false] at hd
  rcases hd with rfl | rfl <;> exact ⟨by decide, by decide, by decide⟩⟩
theorem small_gok : GrOk smallG := ⟨by decide, fun n hn => by
  simp only [smallG, List.mem_cons, List.not_mem_nil, or_false] at hn
  rcases hn with rfl | rfl <;> simp⟩
end Go.Proofs.YtogpkhpephhbiaaGreatDoor
