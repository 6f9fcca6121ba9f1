/- Ct28, Rf1, Rf2, laid in one text. -/
import Derived.Test.YthlipnnlgkmhcaaGreatDoorMg19
namespace Go.Proofs.YthlipnnlgkmhcaaGreatDoor
open Go.RowKit Go.Maps Go.WideMaps
set_option maxRecDepth 100000

theorem cand_mem {R : List Sp} {s : ByteArray} {ps : List Pn} {ts : List Vn} {x : Vn} (h : x ∈ candV R s ps ts) : x ∈ ts ∧ inB R x = true := by
  rw [cand_split, split_mem, List.mem_filter] at h
  exact h
theorem cand_next {R : List Sp} {s : ByteArray} {ps : List Pn} {ts : List Vn} (hs : ts.Pairwise fun x y => gtV x y = true) {i : Nat} (hi : i + 1 < (candV R s ps ts).length) : (pinB s ps (candV R s ps ts)[i + 1] = true → pinB s ps ((candV R s ps ts)[i]'(by omega)) = true) ∧ (pinB s ps (candV R s ps ts)[i + 1] = pinB s ps ((candV R s ps ts)[i]'(by omega)) → gtV ((candV R s ps ts)[i]'(by omega)) (candV R s ps ts)[i + 1] = true) := by
  have hF : (fstV R s ps ts).Pairwise fun x y => gtV x y = true := hs.filter _
  have hO : (othV R s ps ts).Pairwise fun x y => gtV x y = true := hs.filter _
  have fm : ∀ x ∈ fstV R s ps ts, pinB s ps x = true := fun x hx => by
    have := (List.mem_filter.1 hx).2
    rw [Bool.and_eq_true] at this
    exact this.2
  have om : ∀ x ∈ othV R s ps ts, pinB s ps x = false := fun x hx => by
    have := (List.mem_filter.1 hx).2
    rw [Bool.and_eq_true, Bool.not_eq_true'] at this
    exact this.2
  have key : ∀ (F O : List Vn), F.Pairwise (fun x y => gtV x y = true) → O.Pairwise (fun x y => gtV x y = true) → (∀ x ∈ F, pinB s ps x = true) → (∀ x ∈ O, pinB s ps x = false) → ∀ (h : i + 1 < (F ++ O).length), (pinB s ps (F ++ O)[i + 1] = true → pinB s ps ((F ++ O)[i]'(by omega)) = true) ∧ (pinB s ps (F ++ O)[i + 1] = pinB s ps ((F ++ O)[i]'(by omega)) → gtV ((F ++ O)[i]'(by omega)) (F ++ O)[i + 1] = true) := by
    intro F O hF hO fm om h
    by_cases h1 : i + 1 < F.length
    · rw [List.getElem_append_left h1, List.getElem_append_left (by omega : i < F.length)]
      exact ⟨fun _ => fm _ (List.getElem_mem _), fun _ => List.pairwise_iff_getElem.1 hF i (i + 1) (by omega) h1 (by omega)⟩
    · rw [List.getElem_append_right (by omega : F.length ≤ i + 1)]
      have hl : i + 1 - F.length < O.length := by rw [List.length_append] at h; omega
      have ho : pinB s ps (O[i + 1 - F.length]'hl) = false := om _ (List.getElem_mem _)
      by_cases h2 : i < F.length
      · rw [List.getElem_append_left h2, ho]
        have hf : pinB s ps F[i] = true := fm _ (List.getElem_mem _)
        rw [hf]
        exact ⟨fun q => (by cases q), fun q => (by cases q)⟩
      · rw [List.getElem_append_right (by omega : F.length ≤ i), ho]
        rw [List.length_append] at h
        refine ⟨fun q => (by cases q), fun _ => ?_⟩
        have := List.pairwise_iff_getElem.1 hO (i - F.length) (i + 1 - F.length) (by omega) (by omega) (by omega)
        exact this
  exact key _ _ hF hO fm om hi
/-- Bools in a row. -/
def Bls (w : World) (g : Nat) (bs : List Bool) : Prop := w.heap[g]? = some (.cells (bs.map Value.bool).toArray 4 (0, 0))
theorem Bls.lt {w : World} {g : Nat} {bs : List Bool} (h : Bls w g bs) : g < w.heap.size := (Array.getElem?_eq_some_iff.1 h).1
theorem Bls.below {w w' : World} {g : Nat} {bs : List Bool} (h : Bls w g bs) (hb : Below w.heap.size w w') : Bls w' g bs := (hb.block g h.lt).trans h
theorem Bls.cell {w : World} {g : Nat} {bs : List Bool} (h : Bls w g bs) {i : Nat} (hi : i < bs.length) : w.cell? ⟨g, i, none⟩ = some (.bool bs[i]) ∧ w.frozen? ⟨g, i, none⟩ = false := by
  unfold Bls at h
  constructor <;> simp [World.cell?, World.frozen?, h, hi]
theorem Bls.set {w : World} {g : Nat} {bs : List Bool} (h : Bls w g bs) (i : Nat) (b : Bool) : Bls (w.setCell ⟨g, i, none⟩ (.bool b)) g (bs.set i b) ∧ w.grownBy (w.setCell ⟨g, i, none⟩ (.bool b)) (some g) := by
  refine ⟨?_, ⟨rfl, rfl, rfl, (KeepsWalks.setCell w ⟨g, i, none⟩ (.bool b)).size, fun k _ hk => Below.heap_setCell _ _ _ k (fun e => hk (by rw [e]))⟩⟩
  unfold Bls at h ⊢
  obtain ⟨hlt, hk⟩ := Array.getElem?_eq_some_iff.1 h
  simp [World.setCell, Array.getElem?_modify, h, List.map_set]
/-- What the row of bools has ahead of the i-th. -/
def markL (q : Vn → Bool) (a : List Vn) (i : Nat) : List Bool := (a.take i).map q ++ List.replicate (a.length - i) false
theorem mark_len (q : Vn → Bool) (a : List Vn) {i : Nat} (hi : i ≤ a.length) : (markL q a i).length = a.length := by
  unfold markL
  rw [List.length_append, List.length_map, List.length_take, List.length_replicate]
  omega
theorem mark_at {q : Vn → Bool} {a : List Vn} {i : Nat} (hi : i < a.length) : (markL q a i)[i]'(by rw [mark_len q a (by omega)]; exact hi) = false := by
  unfold markL
  rw [List.getElem_append_right (by rw [List.length_map, List.length_take]; omega)]
  simp
theorem mark_ahead {q : Vn → Bool} {a : List Vn} {i j : Nat} (hj : j < i) (hi : i ≤ a.length) : (markL q a i)[j]'(by rw [mark_len q a hi]; omega) = q (a[j]'(by omega)) := by
  unfold markL
  rw [List.getElem_append_left (by rw [List.length_map, List.length_take]; omega)]
  simp
theorem mark_behind {q : Vn → Bool} {a : List Vn} {i j : Nat} (hj : i ≤ j) (hl : j < a.length) : (markL q a i)[j]'(by rw [mark_len q a (by omega)]; exact hl) = false := by
  unfold markL
  rw [List.getElem_append_right (by rw [List.length_map, List.length_take]; omega)]
  simp
theorem mark_set {q : Vn → Bool} {a : List Vn} {i : Nat} (hi : i < a.length) : (markL q a i).set i (q a[i]) = markL q a (i + 1) := by
  apply List.ext_getElem
  · rw [List.length_set, mark_len q a (by omega), mark_len q a (by omega)]
  · intro j h1 h2
    rw [mark_len q a (by omega)] at h2
    rw [List.getElem_set]
    by_cases e : i = j
    · subst e
      rw [if_pos rfl, mark_ahead (by omega) (by omega)]
    · rw [if_neg e]
      by_cases h : j < i
      · rw [mark_ahead h (by omega), mark_ahead (by omega) (by omega)]
      · rw [mark_behind (by omega) h2, mark_behind (by omega) h2]
theorem infoB : (Tryz.prog.info? 4).map (fun i => (i.zero, i.size, i.bytes)) = some (some (.bool false), 1, 1) := by kernel_rfl
theorem made_bls {w : World} {B g n : Nat} (h : w.ownsRow B 4 1 (.slice (some ⟨g, 0, none⟩) n n) n (madeCells (Value.bool false).cells (n * 1)).toList) : Bls w g (List.replicate n false) := by
  rcases h.2 with ⟨e, _⟩ | ⟨g', cap, cur, e, _, hgg, _, _, hs, ht⟩
  · cases e
  · injection e with e1 _ e3
    injection e1 with e1
    injection e1 with e1 _ _
    subst e1
    subst e3
    unfold Bls
    rw [hgg]
    congr 2
    have hl : cur.toList.take (n * 1) = cur.toList := List.take_of_length_le (by rw [Array.length_toList, hs]; exact Nat.le_refl _)
    rw [hl] at ht
    apply Array.ext'
    rw [ht]
    simp only [madeCells, Value.cells, Array.toList_map, List.map_replicate]
    apply List.ext_getElem
    · simp
    · intro j h1 h2
      simp [Nat.mod_one]
theorem mark_start (q : Vn → Bool) (a : List Vn) : markL q a 0 = List.replicate a.length false := by
  unfold markL
  simp
theorem mark_self {q : Vn → Bool} {a : List Vn} {i : Nat} (hi : i < a.length) : (markL q a i).set i false = markL q a i := by
  apply List.ext_getElem
  · rw [List.length_set]
  · intro j h1 h2
    rw [List.getElem_set]
    by_cases e : i = j
    · subst e
      rw [if_pos rfl, mark_at hi]
    · rw [if_neg e]
theorem pin_step (s : ByteArray) (ps : List Pn) (k : Nat) (hk : k < ps.length) (x : Vn) : decide (0 < cntP s (ps.take (k + 1)) x) = (decide (0 < cntP s (ps.take k) x) || isPn s x ps[k]) := by
  rw [List.take_succ_eq_append_getElem hk, cntP_snoc]
  cases h : isPn s x ps[k] <;> simp
theorem pin_all (s : ByteArray) (ps : List Pn) (x : Vn) : decide (0 < cntP s (ps.take ps.length) x) = pinB s ps x := by
  rw [List.take_length]
  rfl
theorem keepCk (g i : Nat) (v : Value) : KeepP fun w1 => Sc.CellK w1 g i v := fun _ _ h hb => ⟨(hb.cell (p := ⟨g, i, none⟩) h.2).trans h.1, Nat.lt_of_lt_of_le h.2 hb.size⟩
end Go.Proofs.YthlipnnlgkmhcaaGreatDoor
namespace Go.Proofs.YthlipnnlgkmhcaaGreatDoor
open Go.RowKit
set_option maxRecDepth 100000

theorem rrank_any (a b c : Int) (w : World) :
    Calls Tryz.prog 49 #[.agg #[.int .i64 a, .int .i64 b, .int .i64 c]] w fun e w' => e = .returned (.int .i64 (rankV a b c)) ∧ Below w.heap.size w w' := by
  have HR : Hid (∀ w1, Calls Tryz.prog 75 #[.agg #[.int .i64 a, .int .i64 b, .int .i64 c]] w1 fun e w' => e = .returned (.tuple #[.int .i64 (rankV a b c), .bool (mayV a b c)]) ∧ Below w1.heap.size w1 w') := rRank_any a b c
  go_enter Tryz.func49, Tryz.ntmps49
  go_wp2_with (go_at_call 75; refine (HR.out _).mono ?_; rintro e w1 ⟨rfl, hb⟩)
  go_ret
  exact ⟨rfl, below_then (boxB _ _) hb⟩

theorem rank_small (a b c : Int) : 0 ≤ rankV a b c ∧ rankV a b c < 1000000000 := by
  cases h : mayV a b c
  · have : rankV a b c = 0 := by unfold rankV; rw [h]; rfl
    omega
  · exact rank_low h

/-- What the document's May asks of the span at a place, if those ahead are right. -/
theorem okAt_first {L : List Sp} {s : Sp} (h : L[0]? = some s) : okAt L 0 = (mayV s.a s.b s.c && mayV s.x s.y s.z && decide (rankV s.a s.b s.c ≤ rankV s.x s.y s.z)) := by
  unfold okAt
  rw [h]
  simp only [Bool.and_true]
  rw [Bool.eq_iff_iff, maySp_true, Bool.and_eq_true, Bool.and_eq_true, decide_eq_true_eq]
  constructor
  · rintro ⟨h1, h2, h3⟩; exact ⟨⟨h1, h2⟩, (cmp_lek h1 h2).1 h3⟩
  · rintro ⟨⟨h1, h2⟩, h3⟩; exact ⟨h1, h2, (cmp_lek h1 h2).2 h3⟩
theorem okAt_next {L : List Sp} {j : Nat} {s p : Sp} (h : L[j + 1]? = some s) (hp : L[j]? = some p) (hok : okAt L j = true) :
    okAt L (j + 1) = ((mayV s.a s.b s.c && mayV s.x s.y s.z && decide (rankV s.a s.b s.c ≤ rankV s.x s.y s.z)) && decide (rankV p.x p.y p.z + 1 < rankV s.a s.b s.c)) := by
  have hpm : mayV p.x p.y p.z = true := by
    unfold okAt at hok
    rw [hp] at hok
    simp only [Bool.and_eq_true] at hok
    exact (maySp_true.1 hok.1).2.1
  unfold okAt
  rw [h]
  simp only
  rw [hp]
  simp only
  rw [Bool.eq_iff_iff, Bool.and_eq_true, maySp_true, Bool.and_eq_true, Bool.and_eq_true, Bool.and_eq_true, decide_eq_true_eq, decide_eq_true_eq]
  constructor
  · rintro ⟨⟨h1, h2, h3⟩, h4⟩
    have := (apart_rk hpm h1).1 h4
    exact ⟨⟨⟨h1, h2⟩, (cmp_lek h1 h2).1 h3⟩, by omega⟩
  · rintro ⟨⟨⟨h1, h2⟩, h3⟩, h4⟩
    exact ⟨⟨h1, h2, (cmp_lek h1 h2).2 h3⟩, (apart_rk hpm h1).2 (by omega)⟩

set_option maxHeartbeats 6400000 in
theorem rMay_walk (L : List Sp) (g o cap : Nat) (w : World) (hlen : L.length ≤ 64) (hg : g < w.heap.size) (hl : ∀ i (h : i < L.length), SpAt w g (o + i * 6) L[i]) :
    Calls Tryz.prog 46 #[.slice (some ⟨g, o, none⟩) L.length cap] w fun e w' => e = .returned (.bool (mayL L)) ∧ Below w.heap.size w w' := by
  have HL : Hid (∀ w1, Below w.heap.size w w1 → ∀ i (h : i < L.length), SpIn w1 g (o + i * 6) L[i]) := fun w1 hb i hi => ⟨(hl i hi).below hb hg, Nat.lt_of_lt_of_le hg hb.size⟩
  clear hl
  have HT : Hid (mayL L = (List.range L.length).all (okAt L)) := by unfold Hid mayL; simp [hlen]
  have h64 : decide ((64 : Int) < (L.length : Int)) = false := decide_eq_false (by omega)
  go_enter Tryz.func46, Tryz.ntmps46
  go_wp2_with fail
  go_loopw [3] (fun i wr => ∃ k : Nat, k ≤ L.length ∧ i = .int .i64 k ∧ Below w.heap.size w wr ∧ ∀ j, j < k → okAt L j = true) (fun i _ => L.length - (intOf i).toNat)
  case atStart => exact ⟨0, Nat.zero_le _, rfl, Below.refl _ _, fun j hj => by omega⟩
  case round =>
    obtain ⟨k, hk, rfl, hb, hok⟩ := hrel
    have HOK := hide3 hok
    clear hok
    by_cases hlt : k < L.length
    · have HO : Hid (Below w.heap.size w wr ∧ SpIn wr g (o + k * 6) L[k]) := ⟨hb, HL.out wr hb k hlt⟩
      have HK : Hid (KeepP fun w1 => Below w.heap.size w w1 ∧ SpIn w1 g (o + k * 6) L[k]) := (keepBelow w).and (keepSp _ _ _)
      have HS : Hid (L[k]? = some L[k]) := List.getElem?_eq_getElem hlt
      generalize L[k] = s at *
      obtain ⟨a, b, c, x, y, z⟩ := s
      have HM1 : Hid (∀ w1, Calls Tryz.prog 47 #[.agg #[.int .i64 a, .int .i64 b, .int .i64 c]] w1 fun e w' => e = .returned (.bool (mayV a b c)) ∧ Below w1.heap.size w1 w') := rMay_any a b c
      have HM2 : Hid (∀ w1, Calls Tryz.prog 47 #[.agg #[.int .i64 x, .int .i64 y, .int .i64 z]] w1 fun e w' => e = .returned (.bool (mayV x y z)) ∧ Below w1.heap.size w1 w') := rMay_any x y z
      have HR1 : Hid (∀ w1, Calls Tryz.prog 49 #[.agg #[.int .i64 a, .int .i64 b, .int .i64 c]] w1 fun e w' => e = .returned (.int .i64 (rankV a b c)) ∧ Below w1.heap.size w1 w') := rrank_any a b c
      have HR2 : Hid (∀ w1, Calls Tryz.prog 49 #[.agg #[.int .i64 x, .int .i64 y, .int .i64 z]] w1 fun e w' => e = .returned (.int .i64 (rankV x y z)) ∧ Below w1.heap.size w1 w') := rrank_any x y z
      have HOKs : Hid (∀ v : Bool, (okAt L k = true → v = true) → (mayV a b c && mayV x y z && decide (rankV a b c ≤ rankV x y z)) = false → mayL L = false) := fun v _ hf => may_no HT.out hlt (by
        cases k with
        | zero => rw [okAt_first HS.out]; exact hf
        | succ j => rw [okAt_next HS.out (List.getElem?_eq_getElem (by omega)) (HOK.out j (by omega))]; simp only; rw [hf]; rfl)
      clear hb
      cases m1 : mayV a b c
      · have HF : Hid (mayL L = false) := HOKs.out true (fun _ => rfl) (by rw [m1]; rfl)
        rw [m1] at HM1
        clear HOKs
        go_wp2_with fail
        refine wp_region_keep HK.out (by kernel_rfl) (by kernel_rfl) (by first | exact HO.out | exact HK.out.drew HO.out) ?_
        intro C hin hout
        have HIN := hide3 hin
        have HOUT := hide3 hout
        clear hin hout HO
        repeat
          (with_reducible refine wpQuiet_step (fun K hK => ?_)
           go_simp
           first
             | (refine hK _ ?_; clear hK K)
             | (apply Exists.intro; refine ⟨fun w1 hC => ?_, hK _ ?_⟩; (focus ((first | (go_at_call 47; with_reducible exact callC HIN.out HOUT.out HK.out HM1.out w1 hC) | (exact rfl) | (obtain ⟨hb1, ⟨p0, p1, p2, p3, p4, p5⟩, p6⟩ := HOUT.out w1 hC; clear hC; go_simp; first | done | exact rfl)); done)); clear hK K))
        refine wpQuiet_nil ?_
        intro wn hC
        have HO := hide3 (HOUT.out _ hC)
        clear hC HIN HOUT C
        obtain ⟨hb1, ⟨p0, p1, p2, p3, p4, p5⟩, p6⟩ := HO.out
        go_wp2
        go_ret
        exact ⟨ret_bool HF.out.symm, HO.out.1⟩
      rw [m1] at HM1
      cases m2 : mayV x y z
      · have HF : Hid (mayL L = false) := HOKs.out true (fun _ => rfl) (by rw [m1, m2]; rfl)
        rw [m2] at HM2
        clear HOKs
        go_wp2_with fail
        refine wp_region_keep HK.out (by kernel_rfl) (by kernel_rfl) (by first | exact HO.out | exact HK.out.drew HO.out) ?_
        intro C hin hout
        have HIN := hide3 hin
        have HOUT := hide3 hout
        clear hin hout HO
        repeat
          (with_reducible refine wpQuiet_step (fun K hK => ?_)
           go_simp
           first
             | (refine hK _ ?_; clear hK K)
             | (apply Exists.intro; refine ⟨fun w1 hC => ?_, hK _ ?_⟩; (focus ((first | (go_at_call 47; with_reducible exact callC HIN.out HOUT.out HK.out HM1.out w1 hC) | (go_at_call 47; with_reducible exact callC HIN.out HOUT.out HK.out HM2.out w1 hC) | (exact rfl) | (obtain ⟨hb1, ⟨p0, p1, p2, p3, p4, p5⟩, p6⟩ := HOUT.out w1 hC; clear hC; go_simp; first | done | exact rfl)); done)); clear hK K))
        refine wpQuiet_nil ?_
        intro wn hC
        have HO := hide3 (HOUT.out _ hC)
        clear hC HIN HOUT C
        obtain ⟨hb1, ⟨p0, p1, p2, p3, p4, p5⟩, p6⟩ := HO.out
        go_wp2
        go_ret
        exact ⟨ret_bool HF.out.symm, HO.out.1⟩
      rw [m2] at HM2
      by_cases hr : rankV x y z < rankV a b c
      · have HF : Hid (mayL L = false) := HOKs.out true (fun _ => rfl) (by rw [m1, m2, decide_eq_false (by omega)]; rfl)
        clear HOKs
        generalize rankV a b c = r1 at *
        generalize rankV x y z = r2 at *
        go_wp2_with fail
        refine wp_region_keep HK.out (by kernel_rfl) (by kernel_rfl) (by first | exact HO.out | exact HK.out.drew HO.out) ?_
        intro C hin hout
        have HIN := hide3 hin
        have HOUT := hide3 hout
        clear hin hout HO
        repeat
          (with_reducible refine wpQuiet_step (fun K hK => ?_)
           go_simp
           first
             | (refine hK _ ?_; clear hK K)
             | (apply Exists.intro; refine ⟨fun w1 hC => ?_, hK _ ?_⟩; (focus ((first | (go_at_call 47; with_reducible exact callC HIN.out HOUT.out HK.out HM1.out w1 hC) | (go_at_call 47; with_reducible exact callC HIN.out HOUT.out HK.out HM2.out w1 hC) | (go_at_call 49; with_reducible exact callC HIN.out HOUT.out HK.out HR1.out w1 hC) | (go_at_call 49; with_reducible exact callC HIN.out HOUT.out HK.out HR2.out w1 hC) | (exact rfl) | (obtain ⟨hb1, ⟨p0, p1, p2, p3, p4, p5⟩, p6⟩ := HOUT.out w1 hC; clear hC; go_simp; first | done | exact rfl)); done)); clear hK K))
        refine wpQuiet_nil ?_
        intro wn hC
        have HO := hide3 (HOUT.out _ hC)
        clear hC HIN HOUT C
        obtain ⟨hb1, ⟨p0, p1, p2, p3, p4, p5⟩, p6⟩ := HO.out
        go_wp2
        go_ret
        exact ⟨ret_bool HF.out.symm, HO.out.1⟩
      · rcases Nat.eq_zero_or_pos k with h0 | h0
        · have HF : Hid (okAt L k = true) := by unfold Hid; subst h0; rw [okAt_first HS.out]; simp only; rw [m1, m2, decide_eq_true (by omega)]; rfl
          have H0 := hide3 h0
          have hk0 : decide ((0 : Int) < (k : Int)) = false := decide_eq_false (by omega)
          have hk1 : decide (0 < k) = false := decide_eq_false (by omega)
          clear HOKs h0
          generalize rankV a b c = r1 at *
          generalize rankV x y z = r2 at *
          go_wp2_with fail
          refine wp_region_keep HK.out (by kernel_rfl) (by kernel_rfl) (by first | exact HO.out | exact HK.out.drew HO.out) ?_
          intro C hin hout
          have HIN := hide3 hin
          have HOUT := hide3 hout
          clear hin hout HO
          repeat
            (with_reducible refine wpQuiet_step (fun K hK => ?_)
             go_simp
             first
               | (refine hK _ ?_; clear hK K)
               | (apply Exists.intro; refine ⟨fun w1 hC => ?_, hK _ ?_⟩; (focus ((first | (go_at_call 47; with_reducible exact callC HIN.out HOUT.out HK.out HM1.out w1 hC) | (go_at_call 47; with_reducible exact callC HIN.out HOUT.out HK.out HM2.out w1 hC) | (go_at_call 49; with_reducible exact callC HIN.out HOUT.out HK.out HR1.out w1 hC) | (go_at_call 49; with_reducible exact callC HIN.out HOUT.out HK.out HR2.out w1 hC) | (exact rfl) | (obtain ⟨hb1, ⟨p0, p1, p2, p3, p4, p5⟩, p6⟩ := HOUT.out w1 hC; clear hC; go_simp; first | done | exact rfl)); done)); clear hK K))
          refine wpQuiet_nil ?_
          intro wn hC
          have HO := hide3 (HOUT.out _ hC)
          clear hC HIN HOUT C
          obtain ⟨hb1, ⟨p0, p1, p2, p3, p4, p5⟩, p6⟩ := HO.out
          go_wp2_with fail
          clear hb1 p0 p1 p2 p3 p4 p5 p6
          refine wp_region_keep HK.out (by kernel_rfl) (by kernel_rfl) (by first | exact HO.out | exact HK.out.drew HO.out) ?_
          intro C hin hout
          have HIN := hide3 hin
          have HOUT := hide3 hout
          clear hin hout HO
          repeat
            (with_reducible refine wpQuiet_step (fun K hK => ?_)
             go_simp
             first
               | (refine hK _ ?_; clear hK K)
               | (apply Exists.intro; refine ⟨fun w1 hC => ?_, hK _ ?_⟩; (focus ((first | (exact rfl) | (obtain ⟨hb1, ⟨p0, p1, p2, p3, p4, p5⟩, p6⟩ := HOUT.out w1 hC; clear hC; go_simp; first | done | exact rfl)); done)); clear hK K))
          refine wpQuiet_nil ?_
          intro wm hC
          have HO := hide3 (HOUT.out _ hC)
          clear hC HIN HOUT C
          obtain ⟨hb1, ⟨p0, p1, p2, p3, p4, p5⟩, p6⟩ := HO.out
          go_wp2
          exact ⟨⟨k + 1, by omega, by go_num, HO.out.1, fun j hj => by rw [show j = k by have := H0.out; omega]; exact HF.out⟩, by simp [intOf]; omega⟩
        · obtain ⟨j, hj⟩ : ∃ j, k = j + 1 := ⟨k - 1, by omega⟩
          have hjl : j < L.length := by omega
          have HJ := hide3 hj
          have HPP : Hid (L[j]? = some L[j]) := List.getElem?_eq_getElem hjl
          have HO2 : Hid ((Below w.heap.size w wr ∧ SpIn wr g (o + k * 6) ⟨a, b, c, x, y, z⟩) ∧ SpIn wr g (o + j * 6) L[j]) := ⟨HO.out, HL.out wr HO.out.1 j hjl⟩
          have HK2 : Hid (KeepP fun w1 => (Below w.heap.size w w1 ∧ SpIn w1 g (o + k * 6) ⟨a, b, c, x, y, z⟩) ∧ SpIn w1 g (o + j * 6) L[j]) := HK.out.and (keepSp _ _ _)
          have HN : Hid (okAt L k = ((mayV a b c && mayV x y z && decide (rankV a b c ≤ rankV x y z)) && decide (rankV L[j].x L[j].y L[j].z + 1 < rankV a b c))) := by
            subst hj
            exact okAt_next HS.out HPP.out (HOK.out j (by omega))
          clear HO HK
          have HO := HO2
          have HK := HK2
          clear HO2 HK2
          generalize L[j] = p at *
          obtain ⟨p, q, r, u, v, t⟩ := p
          have HR3 : Hid (∀ w1, Calls Tryz.prog 49 #[.agg #[.int .i64 u, .int .i64 v, .int .i64 t]] w1 fun e w' => e = .returned (.int .i64 (rankV u v t)) ∧ Below w1.heap.size w1 w') := rrank_any u v t
          have hk0 : decide ((0 : Int) < (k : Int)) = true := decide_eq_true (by omega)
          have hk1 : decide (0 < k) = true := decide_eq_true (by omega)
          have hkj : (k : Int) - 1 = (j : Int) := by omega
          have hj2 : (j : Int) < (L.length : Int) := by omega
          have hwj : IntKind.i64.wrap (j : Int) = (j : Int) := wrap_small (by omega) (by omega)
          have hsm := rank_small u v t
          have hwr : IntKind.i64.wrap (rankV u v t + 1) = rankV u v t + 1 := wrap_small (by omega) (by omega)
          clear hj h0 hsm
          by_cases hp : rankV a b c ≤ rankV u v t + 1
          · have HF : Hid (mayL L = false) := may_no HT.out hlt (by rw [HN.out]; rw [decide_eq_false (p := rankV u v t + 1 < rankV a b c) (by omega), Bool.and_false])
            clear HOKs HN
            generalize rankV a b c = r1 at *
            generalize rankV x y z = r2 at *
            generalize rankV u v t = r3 at *
            go_wp2_with fail
            refine wp_region_keep HK.out (by kernel_rfl) (by kernel_rfl) (by first | exact HO.out | exact HK.out.drew HO.out) ?_
            intro C hin hout
            have HIN := hide3 hin
            have HOUT := hide3 hout
            clear hin hout HO
            repeat
              (with_reducible refine wpQuiet_step (fun K hK => ?_)
               go_simp
               first
                 | (refine hK _ ?_; clear hK K)
                 | (apply Exists.intro; refine ⟨fun w1 hC => ?_, hK _ ?_⟩; (focus ((first | (go_at_call 47; with_reducible exact callC HIN.out HOUT.out HK.out HM1.out w1 hC) | (go_at_call 47; with_reducible exact callC HIN.out HOUT.out HK.out HM2.out w1 hC) | (go_at_call 49; with_reducible exact callC HIN.out HOUT.out HK.out HR1.out w1 hC) | (go_at_call 49; with_reducible exact callC HIN.out HOUT.out HK.out HR2.out w1 hC) | (exact rfl) | (obtain ⟨⟨hb1, ⟨p0, p1, p2, p3, p4, p5⟩, p6⟩, ⟨q0, q1, q2, q3, q4, q5⟩, q6⟩ := HOUT.out w1 hC; clear hC; go_simp; first | done | exact rfl)); done)); clear hK K))
            refine wpQuiet_nil ?_
            intro wn hC
            have HO := hide3 (HOUT.out _ hC)
            clear hC HIN HOUT C
            obtain ⟨⟨hb1, ⟨p0, p1, p2, p3, p4, p5⟩, p6⟩, ⟨q0, q1, q2, q3, q4, q5⟩, q6⟩ := HO.out
            go_wp2_with fail
            clear hb1 p0 p1 p2 p3 p4 p5 p6 q0 q1 q2 q3 q4 q5 q6
            refine wp_region_keep HK.out (by kernel_rfl) (by kernel_rfl) (by first | exact HO.out | exact HK.out.drew HO.out) ?_
            intro C hin hout
            have HIN := hide3 hin
            have HOUT := hide3 hout
            clear hin hout HO
            repeat
              (with_reducible refine wpQuiet_step (fun K hK => ?_)
               go_simp
               first
                 | (refine hK _ ?_; clear hK K)
                 | (apply Exists.intro; refine ⟨fun w1 hC => ?_, hK _ ?_⟩; (focus ((first | (go_at_call 49; with_reducible exact callC HIN.out HOUT.out HK.out HR1.out w1 hC) | (go_at_call 49; with_reducible exact callC HIN.out HOUT.out HK.out HR3.out w1 hC) | (exact rfl) | (obtain ⟨⟨hb1, ⟨p0, p1, p2, p3, p4, p5⟩, p6⟩, ⟨q0, q1, q2, q3, q4, q5⟩, q6⟩ := HOUT.out w1 hC; clear hC; go_simp; first | done | exact rfl)); done)); clear hK K))
            refine wpQuiet_nil ?_
            intro wm hC
            have HO := hide3 (HOUT.out _ hC)
            clear hC HIN HOUT C
            obtain ⟨⟨hb1, ⟨p0, p1, p2, p3, p4, p5⟩, p6⟩, ⟨q0, q1, q2, q3, q4, q5⟩, q6⟩ := HO.out
            go_wp2
            go_ret
            exact ⟨ret_bool HF.out.symm, HO.out.1.1⟩
          · have HF : Hid (okAt L k = true) := by unfold Hid; rw [HN.out]; rw [m1, m2, decide_eq_true (p := rankV u v t + 1 < rankV a b c) (by omega), decide_eq_true (p := rankV a b c ≤ rankV x y z) (by omega)]; rfl
            clear HOKs HN
            generalize rankV a b c = r1 at *
            generalize rankV x y z = r2 at *
            generalize rankV u v t = r3 at *
            go_wp2_with fail
            refine wp_region_keep HK.out (by kernel_rfl) (by kernel_rfl) (by first | exact HO.out | exact HK.out.drew HO.out) ?_
            intro C hin hout
            have HIN := hide3 hin
            have HOUT := hide3 hout
            clear hin hout HO
            repeat
              (with_reducible refine wpQuiet_step (fun K hK => ?_)
               go_simp
               first
                 | (refine hK _ ?_; clear hK K)
                 | (apply Exists.intro; refine ⟨fun w1 hC => ?_, hK _ ?_⟩; (focus ((first | (go_at_call 47; with_reducible exact callC HIN.out HOUT.out HK.out HM1.out w1 hC) | (go_at_call 47; with_reducible exact callC HIN.out HOUT.out HK.out HM2.out w1 hC) | (go_at_call 49; with_reducible exact callC HIN.out HOUT.out HK.out HR1.out w1 hC) | (go_at_call 49; with_reducible exact callC HIN.out HOUT.out HK.out HR2.out w1 hC) | (exact rfl) | (obtain ⟨⟨hb1, ⟨p0, p1, p2, p3, p4, p5⟩, p6⟩, ⟨q0, q1, q2, q3, q4, q5⟩, q6⟩ := HOUT.out w1 hC; clear hC; go_simp; first | done | exact rfl)); done)); clear hK K))
            refine wpQuiet_nil ?_
            intro wn hC
            have HO := hide3 (HOUT.out _ hC)
            clear hC HIN HOUT C
            obtain ⟨⟨hb1, ⟨p0, p1, p2, p3, p4, p5⟩, p6⟩, ⟨q0, q1, q2, q3, q4, q5⟩, q6⟩ := HO.out
            go_wp2_with fail
            clear hb1 p0 p1 p2 p3 p4 p5 p6 q0 q1 q2 q3 q4 q5 q6
            refine wp_region_keep HK.out (by kernel_rfl) (by kernel_rfl) (by first | exact HO.out | exact HK.out.drew HO.out) ?_
            intro C hin hout
            have HIN := hide3 hin
            have HOUT := hide3 hout
            clear hin hout HO
            repeat
              (with_reducible refine wpQuiet_step (fun K hK => ?_)
               go_simp
               first
                 | (refine hK _ ?_; clear hK K)
                 | (apply Exists.intro; refine ⟨fun w1 hC => ?_, hK _ ?_⟩; (focus ((first | (go_at_call 49; with_reducible exact callC HIN.out HOUT.out HK.out HR1.out w1 hC) | (go_at_call 49; with_reducible exact callC HIN.out HOUT.out HK.out HR3.out w1 hC) | (exact rfl) | (obtain ⟨⟨hb1, ⟨p0, p1, p2, p3, p4, p5⟩, p6⟩, ⟨q0, q1, q2, q3, q4, q5⟩, q6⟩ := HOUT.out w1 hC; clear hC; go_simp; first | done | exact rfl)); done)); clear hK K))
            refine wpQuiet_nil ?_
            intro wm hC
            have HO := hide3 (HOUT.out _ hC)
            clear hC HIN HOUT C
            obtain ⟨⟨hb1, ⟨p0, p1, p2, p3, p4, p5⟩, p6⟩, ⟨q0, q1, q2, q3, q4, q5⟩, q6⟩ := HO.out
            go_wp2
            refine ⟨⟨k + 1, by omega, by go_num, HO.out.1.1, fun i hi => ?_⟩, by simp [intOf]; omega⟩
            rcases Nat.lt_or_ge i k with h | h
            · exact HOK.out i h
            · rw [show i = k by omega]; exact HF.out
    · have hke : k = L.length := by omega
      subst hke
      have HF : Hid (mayL L = true) := may_yes HT.out HOK.out
      have HB := hide3 hb
      clear hb
      go_wp2
      go_ret
      exact ⟨ret_bool HF.out.symm, HB.out⟩
end Go.Proofs.YthlipnnlgkmhcaaGreatDoor
namespace Go.Proofs.YthlipnnlgkmhcaaGreatDoor
open Go.RowKit
set_option maxRecDepth 100000

theorem rMay_nil (ad : Option Addr) (cap : Nat) (w : World) :
    Calls Tryz.prog 46 #[.slice ad 0 cap] w fun e w' => e = .returned (.bool true) ∧ Below w.heap.size w w' := by
  go_enter Tryz.func46, Tryz.ntmps46
  go_wp2_with fail
  go_loop [3] (fun i => i = .int .i64 0) (fun _ => 0)
  case atStart => rfl
  case round =>
    subst hrel
    go_wp2
    go_ret
    exact ⟨rfl, Below.refl _ _⟩

theorem rMay_many (ad : Option Addr) (n cap : Nat) (w : World) (h : 64 < n) :
    Calls Tryz.prog 46 #[.slice ad n cap] w fun e w' => e = .returned (.bool false) ∧ Below w.heap.size w w' := by
  have h1 : (64 : Int) < (n : Int) := by omega
  go_enter Tryz.func46, Tryz.ntmps46
  go_wp2
  go_ret
  exact ⟨rfl, Below.refl _ _⟩

theorem rMayL_any {w : World} {v : Value} {L : List Sp} (h : SpansAt w v L) :
    Calls Tryz.prog 46 #[v] w fun e w' => e = .returned (.bool (mayL L)) ∧ Below w.heap.size w w' := by
  obtain ⟨ad, cap, rfl, hl⟩ := h
  by_cases h64 : L.length ≤ 64
  · rcases hl with rfl | ⟨g, o, rfl, hg, hs⟩
    · exact rMay_nil ad cap w
    · exact rMay_walk L g o cap w h64 hg hs
  · have : mayL L = false := by unfold mayL; rw [decide_eq_false h64]; rfl
    rw [this]
    exact rMay_many ad _ cap w (by omega)

/-- A place is in one of some spans, by their ranks. -/
def hasN (n : Int) (s : Sp) : Bool := decide (rankV s.a s.b s.c ≤ n) && decide (n ≤ rankV s.x s.y s.z)

set_option maxHeartbeats 3200000 in
theorem has_walk (L : List Sp) (g o cap : Nat) (n : Int) (w : World) (hlen : L.length ≤ 1000000000000) (hg : g < w.heap.size) (hl : ∀ i (h : i < L.length), SpAt w g (o + i * 6) L[i]) :
    Calls Tryz.prog 48 #[.slice (some ⟨g, o, none⟩) L.length cap, .int .i64 n] w fun e w' => e = .returned (.bool (L.any (hasN n))) ∧ Below w.heap.size w w' := by
  have HL : Hid (∀ w1, Below w.heap.size w w1 → ∀ i (h : i < L.length), SpIn w1 g (o + i * 6) L[i]) := fun w1 hb i hi => ⟨(hl i hi).below hb hg, Nat.lt_of_lt_of_le hg hb.size⟩
  clear hl
  go_enter Tryz.func48, Tryz.ntmps48
  go_wp2_with fail
  go_loopw [5] (fun i wr => ∃ k : Nat, k ≤ L.length ∧ i = .int .i64 k ∧ Below w.heap.size w wr ∧ (L.take k).any (hasN n) = false) (fun i _ => L.length - (intOf i).toNat)
  case atStart => exact ⟨0, Nat.zero_le _, rfl, Below.refl _ _, rfl⟩
  case round =>
    obtain ⟨k, hk, rfl, hb, hno⟩ := hrel
    have HN := hide3 hno
    have HB := hide3 hb
    clear hno
    by_cases hlt : k < L.length
    · have hs := HL.out wr hb k hlt
      have HS : Hid ((L.take (k + 1)).any (hasN n) = hasN n L[k]) := by
        unfold Hid
        rw [List.take_succ_eq_append_getElem hlt, List.any_append, HN.out]; simp
      have HS2 : Hid (hasN n L[k] = true → L.any (hasN n) = true) := fun h => List.any_eq_true.2 ⟨L[k], List.getElem_mem hlt, h⟩
      have HKs : Hid (KeepP fun w1 => Below w.heap.size w w1 ∧ SpIn w1 g (o + k * 6) L[k]) := (keepBelow w).and (keepSp _ _ _)
      have HOs : Hid (Below w.heap.size w wr ∧ SpIn wr g (o + k * 6) L[k]) := ⟨hb, hs⟩
      generalize L[k] = s at *
      obtain ⟨a, b, c, x, y, z⟩ := s
      have HR1 : Hid (∀ w1, Calls Tryz.prog 49 #[.agg #[.int .i64 a, .int .i64 b, .int .i64 c]] w1 fun e w' => e = .returned (.int .i64 (rankV a b c)) ∧ Below w1.heap.size w1 w') := rrank_any a b c
      have HR2 : Hid (∀ w1, Calls Tryz.prog 49 #[.agg #[.int .i64 x, .int .i64 y, .int .i64 z]] w1 fun e w' => e = .returned (.int .i64 (rankV x y z)) ∧ Below w1.heap.size w1 w') := rrank_any x y z
      have HH : Hid (hasN n ⟨a, b, c, x, y, z⟩ = (decide (rankV a b c ≤ n) && decide (n ≤ rankV x y z))) := rfl
      obtain ⟨⟨p0, p1, p2, p3, p4, p5⟩, p6⟩ := hs
      simp only at p0 p1 p2 p3 p4 p5
      clear hb
      generalize rankV a b c = r1 at *
      generalize rankV x y z = r2 at *
      by_cases h1 : r1 ≤ n
      · by_cases h2 : n ≤ r2
        · have HT : Hid (L.any (hasN n) = true) := HS2.out (by rw [HH.out]; simp [h1, h2])
          go_wp2_with (first
            | (have _h := HOs; go_at_call 49; refine (HR1.out _).mono ?_; rintro e w1 ⟨rfl, ok⟩; have HO1 := hide3 (HKs.out _ _ HOs.out ok); clear ok HOs p0 p1 p2 p3 p4 p5 p6; obtain ⟨_, ⟨p0, p1, p2, p3, p4, p5⟩, p6⟩ := HO1.out)
            | (have _h := HO1; go_at_call 49; refine (HR2.out _).mono ?_; rintro e w2 ⟨rfl, ok⟩; have HO2 := hide3 (HKs.out _ _ HO1.out ok); clear ok HO1 p0 p1 p2 p3 p4 p5 p6))
          go_ret
          exact ⟨ret_bool HT.out.symm, HO2.out.1⟩
        · have HT : Hid ((L.take (k + 1)).any (hasN n) = false) := by unfold Hid; rw [HS.out, HH.out]; simp [h1, h2]
          go_wp2_with (first
            | (have _h := HOs; go_at_call 49; refine (HR1.out _).mono ?_; rintro e w1 ⟨rfl, ok⟩; have HO1 := hide3 (HKs.out _ _ HOs.out ok); clear ok HOs p0 p1 p2 p3 p4 p5 p6; obtain ⟨_, ⟨p0, p1, p2, p3, p4, p5⟩, p6⟩ := HO1.out)
            | (have _h := HO1; go_at_call 49; refine (HR2.out _).mono ?_; rintro e w2 ⟨rfl, ok⟩; have HO2 := hide3 (HKs.out _ _ HO1.out ok); clear ok HO1 p0 p1 p2 p3 p4 p5 p6))
          exact ⟨⟨k + 1, by omega, by go_num, HO2.out.1, HT.out⟩, by simp [intOf]; omega⟩
      · have HT : Hid ((L.take (k + 1)).any (hasN n) = false) := by unfold Hid; rw [HS.out, HH.out]; simp [h1]
        go_wp2_with (first
          | (have _h := HOs; go_at_call 49; refine (HR1.out _).mono ?_; rintro e w1 ⟨rfl, ok⟩; have HO1 := hide3 (HKs.out _ _ HOs.out ok); clear ok HOs p0 p1 p2 p3 p4 p5 p6))
        exact ⟨⟨k + 1, by omega, by go_num, HO1.out.1, HT.out⟩, by simp [intOf]; omega⟩
    · have hke : k = L.length := by omega
      subst hke
      have HF : Hid (L.any (hasN n) = false) := by have := HN.out; rw [List.take_length] at this; exact this
      clear hb
      go_wp2
      go_ret
      exact ⟨ret_bool HF.out.symm, HB.out⟩

theorem has_nil (ad : Option Addr) (cap : Nat) (n : Int) (w : World) :
    Calls Tryz.prog 48 #[.slice ad 0 cap, .int .i64 n] w fun e w' => e = .returned (.bool false) ∧ Below w.heap.size w w' := by
  go_enter Tryz.func48, Tryz.ntmps48
  go_wp2_with fail
  go_loop [5] (fun i => i = .int .i64 0) (fun _ => 0)
  case atStart => rfl
  case round =>
    subst hrel
    go_wp2
    go_ret
    exact ⟨rfl, Below.refl _ _⟩

theorem has_any {w : World} {v : Value} {L : List Sp} (h : SpansAt w v L) (hlen : L.length ≤ 1000000000000) (n : Int) :
    Calls Tryz.prog 48 #[v, .int .i64 n] w fun e w' => e = .returned (.bool (L.any (hasN n))) ∧ Below w.heap.size w w' := by
  obtain ⟨ad, cap, rfl, hl⟩ := h
  rcases hl with rfl | ⟨g, o, rfl, hg, hs⟩
  · exact has_nil ad cap n w
  · exact has_walk L g o cap n w hlen hg hs

theorem hasN_in {L : List Sp} {p q r : Int} (hm : mayL L = true) (hv : mayV p q r = true) : L.any (hasN (rankV p q r)) = L.any (hasS p q r) := by
  obtain ⟨A, rfl, hA, hlen⟩ := may_iff.1 hm
  have ho : ∀ x ∈ A, okP2 x := fun x hx => by have := RiseR.mem hA hx; unfold okP2 okR; omega
  clear hm hA hlen
  induction A with
  | nil => rfl
  | cons x A ih =>
    rw [List.map_cons, List.any_cons, List.any_cons, ih fun y hy => ho y (List.mem_cons_of_mem _ hy)]
    have hx := ho x List.mem_cons_self
    congr 1
    rw [Bool.eq_iff_iff, has_rg hx hv]
    obtain ⟨_, e1⟩ := may_at hx.1.has
    obtain ⟨_, e2⟩ := may_at hx.2.1.has
    unfold hasN spR
    simp only
    rw [Bool.and_eq_true, decide_eq_true_eq, decide_eq_true_eq, e1, e2]

theorem rIn_any {w : World} {v : Value} {L : List Sp} (h : SpansAt w v L) (p q r : Int) :
    Calls Tryz.prog 24 #[v, .agg #[.int .i64 p, .int .i64 q, .int .i64 r]] w fun e w' => e = .returned (.bool (inL L p q r)) ∧ Below w.heap.size w w' := by
  have HM : Hid (∀ w1, Below w.heap.size w w1 → Calls Tryz.prog 46 #[v] w1 fun e w' => e = .returned (.bool (mayL L)) ∧ Below w1.heap.size w1 w') := fun w1 hb => rMayL_any (h.below hb)
  have HV : Hid (∀ w1, Calls Tryz.prog 47 #[.agg #[.int .i64 p, .int .i64 q, .int .i64 r]] w1 fun e w' => e = .returned (.bool (mayV p q r)) ∧ Below w1.heap.size w1 w') := rMay_any p q r
  have HR : Hid (∀ w1, Calls Tryz.prog 49 #[.agg #[.int .i64 p, .int .i64 q, .int .i64 r]] w1 fun e w' => e = .returned (.int .i64 (rankV p q r)) ∧ Below w1.heap.size w1 w') := rrank_any p q r
  have HO0 : Hid (Below w.heap.size w (w.alloc (.cells #[.int .i64 p, .int .i64 q, .int .i64 r] 31)) ∧ BxAt (w.alloc (.cells #[.int .i64 p, .int .i64 q, .int .i64 r] 31)) ⟨w.heap.size, .int .i64 p, .int .i64 q, .int .i64 r⟩) := ⟨boxB _ _, ((OKs.nil w).box rfl _ _ _).one⟩
  have HK : Hid (KeepP fun w1 => Below w.heap.size w w1 ∧ BxAt w1 ⟨w.heap.size, .int .i64 p, .int .i64 q, .int .i64 r⟩) := (keepBelow w).and (keepV3 _)
  cases hm : mayL L
  · have HF : Hid (inL L p q r = false) := by unfold Hid inL; rw [hm]; rfl
    rw [hm] at HM
    clear h
    go_enter Tryz.func24, Tryz.ntmps24
    go_wp2_with (go_at_call 46; refine (HM.out _ HO0.out.1).mono ?_; rintro e w1 ⟨rfl, ok⟩; have HO1 := hide3 (HK.out _ _ HO0.out ok); clear ok HO0)
    go_ret
    exact ⟨ret_bool HF.out.symm, HO1.out.1⟩
  rw [hm] at HM
  cases hv : mayV p q r
  · have HF : Hid (inL L p q r = false) := by unfold Hid inL; rw [hm, hv]; rfl
    rw [hv] at HV
    clear h
    go_enter Tryz.func24, Tryz.ntmps24
    go_wp2_with (first
      | (go_at_call 46; refine (HM.out _ HO0.out.1).mono ?_; rintro e w1 ⟨rfl, ok⟩; have HO1 := hide3 (HK.out _ _ HO0.out ok); clear ok HO0; obtain ⟨_, b0, b1, b2, b3⟩ := HO1.out)
      | (go_at_call 47; refine (HV.out _).mono ?_; rintro e w2 ⟨rfl, ok⟩; have HO2 := hide3 (HK.out _ _ HO1.out ok); clear ok HO1 b0 b1 b2 b3))
    go_ret
    exact ⟨ret_bool HF.out.symm, HO2.out.1⟩
  rw [hv] at HV
  have HF : Hid (inL L p q r = L.any (hasN (rankV p q r))) := by unfold Hid inL; rw [hm, hv, hasN_in hm hv]; rfl
  have hl : L.length ≤ 64 := by unfold mayL at hm; simp at hm; exact hm.1
  have HH : Hid (∀ w1, Below w.heap.size w w1 → Calls Tryz.prog 48 #[v, .int .i64 (rankV p q r)] w1 fun e w' => e = .returned (.bool (L.any (hasN (rankV p q r)))) ∧ Below w1.heap.size w1 w') := fun w1 hb => has_any (h.below hb) (by omega) _
  clear h
  generalize rankV p q r = n at *
  generalize L.any (hasN n) = bb at *
  go_enter Tryz.func24, Tryz.ntmps24
  go_wp2_with (first
    | (go_at_call 46; refine (HM.out _ HO0.out.1).mono ?_; rintro e w1 ⟨rfl, ok⟩; have HO1 := hide3 (HK.out _ _ HO0.out ok); clear ok HO0; obtain ⟨_, b0, b1, b2, b3⟩ := HO1.out)
    | (go_at_call 47; refine (HV.out _).mono ?_; rintro e w2 ⟨rfl, ok⟩; have HO2 := hide3 (HK.out _ _ HO1.out ok); clear ok HO1 b0 b1 b2 b3; obtain ⟨_, b0, b1, b2, b3⟩ := HO2.out)
    | (go_at_call 49; refine (HR.out _).mono ?_; rintro e w3 ⟨rfl, ok⟩; have HO3 := hide3 (HK.out _ _ HO2.out ok); clear ok HO2 b0 b1 b2 b3)
    | (go_at_call 48; refine (HH.out _ HO3.out.1).mono ?_; rintro e w4 ⟨rfl, ok⟩; have HO4 := hide3 (HK.out _ _ HO3.out ok); clear ok HO3))
  go_ret
  exact ⟨ret_bool HF.out.symm, HO4.out.1⟩
end Go.Proofs.YthlipnnlgkmhcaaGreatDoor
