/- Lk15, ScLi2, ScRf1, ScRf2, ScLi3, laid in one text. -/
import Derived.Test.YtikplmckjcceaaaDoorScA
import Derived.Test.YtikplmckjcceaaaDoorMg06
namespace Go.Proofs.YtikplmckjcceaaaDoor
open Go.RowKit
open Sc (KeepP hide3 keepBelow Bs ba WordsAt LinesAt isL)
set_option maxRecDepth 100000

/-- The lines behind the first one, one by one. -/
def foldT : List Nd → List (List Bs) → Option (List Nd)
  | st, [] => some st
  | _, [] :: _ => none
  | st, (x :: ws) :: r => match takeR st x ws with
    | some st' => foldT st' r
    | none => none
def wLock : Bs := [108, 111, 99, 107]
def readG : List (List Bs) → Option (List Nd)
  | [] => none
  | h :: r => if h = [wLock] then foldT [] r else none
theorem foldT_snoc : ∀ (L : List (List Bs)) (st : List Nd) (x : Bs) (ws : List Bs), foldT st (L ++ [x :: ws]) = match foldT st L with
    | some st' => takeR st' x ws
    | none => none
  | [], st, x, ws => by
    simp only [List.nil_append, foldT]
    cases takeR st x ws <;> rfl
  | [] :: L, st, x, ws => rfl
  | (y :: vs) :: L, st, x, ws => by
    simp only [List.cons_append, foldT]
    cases takeR st y vs with
    | none => rfl
    | some st' => exact foldT_snoc L st' x ws
theorem foldT_none : ∀ (L M : List (List Bs)) (st : List Nd), foldT st L = none → foldT st (L ++ M) = none
  | [], M, st, h => by cases h
  | [] :: L, M, st, _ => rfl
  | (y :: vs) :: L, M, st, h => by
    simp only [List.cons_append, foldT] at h ⊢
    cases ht : takeR st y vs with
    | none => rfl
    | some st' => rw [ht] at h; exact foldT_none L M st' h

/-- Not too many. -/
def Bd (m : Nat) (st : List Nd) : Prop := st.length ≤ m ∧ ∀ n ∈ st, n.cx.length ≤ m ∧ n.ed.length ≤ m
theorem mem_mod {f : Nd → Nd} : ∀ {st : List Nd} {n : Nd}, n ∈ modLast f st → n ∈ st ∨ ∃ l ∈ st, n = f l
  | [], n, h => by cases h
  | [l], n, h => by
    unfold modLast at h
    exact Or.inr ⟨l, by simp, List.mem_singleton.1 h⟩
  | x :: y :: r, n, h => by
    unfold modLast at h
    rcases List.mem_cons.1 h with rfl | h
    · exact Or.inl (by simp)
    · rcases mem_mod h with h | ⟨l, hl, e⟩
      · exact Or.inl (List.mem_cons_of_mem _ h)
      · exact Or.inr ⟨l, List.mem_cons_of_mem _ hl, e⟩
theorem len_mod {f : Nd → Nd} : ∀ st : List Nd, (modLast f st).length = st.length
  | [] => rfl
  | [l] => rfl
  | x :: y :: r => by
    unfold modLast
    rw [List.length_cons, len_mod (y :: r)]
    rfl
theorem bd_snoc {m : Nat} {st : List Nd} (h : Bd m st) (n : Nd) (hc : n.cx = []) (he : n.ed = []) : Bd (m + 1) (st ++ [n]) := by
  refine ⟨by have := h.1; simp; omega, fun x hx => ?_⟩
  rcases List.mem_append.1 hx with hx | hx
  · have := h.2 x hx
    exact ⟨by omega, by omega⟩
  · obtain rfl := List.mem_singleton.1 hx
    rw [hc, he]
    simp
theorem take_bd {m : Nat} {st st' : List Nd} {x : Bs} {ws : List Bs} (h : Bd m st) (ht : takeR st x ws = some st') : Bd (m + 1) st' := by
  unfold takeR at ht
  split at ht
  · split at ht
    · unfold firstR at ht
      split at ht
      · cases ht; exact bd_snoc h _ rfl rfl
      · cases ht
    · cases ht
  · split at ht
    · cases ht
    · split at ht
      · unfold laterR at ht
        split at ht
        · cases ht; exact bd_snoc h _ rfl rfl
        · cases ht
      · split at ht
        · unfold pinsR at ht
          split at ht
          · cases ht
            refine ⟨by rw [len_mod]; have := h.1; omega, fun n hn => ?_⟩
            rcases mem_mod hn with hn | ⟨l, hl, rfl⟩
            · have := h.2 n hn
              exact ⟨by omega, by omega⟩
            · have := h.2 l hl
              simp only [addP, List.length_append, List.length_singleton]
              exact ⟨by omega, by omega⟩
          · cases ht
        · split at ht
          · unfold edgesR at ht
            split at ht
            · cases ht
              refine ⟨by rw [len_mod]; have := h.1; omega, fun n hn => ?_⟩
              rcases mem_mod hn with hn | ⟨l, hl, rfl⟩
              · have := h.2 n hn
                exact ⟨by omega, by omega⟩
              · have := h.2 l hl
                simp only [addE, List.length_append, List.length_singleton]
                exact ⟨by omega, by omega⟩
            · cases ht
          · cases ht

/-- What read answers. -/
def GrQ (w : World) (r : Option (List Nd)) (e : Ending) (w' : World) : Prop := Below w.heap.size w w' ∧
  ((∃ ad cap all, r = some (all.map NV.nd) ∧ e = .returned (.tuple #[.agg #[.slice ad all.length cap], .bool true]) ∧ RA w' w.heap.size (.slice ad all.length cap) all) ∨ (r = none ∧ e = .returned (.tuple #[.agg #[.slice none 0 0], .bool false])))
/-- A graph's variable that may be written. -/
def BxGF (w : World) (N : Nat) (v : Value) : Prop := BxG w N v ∧ w.frozen? ⟨N, 0, none⟩ = false
theorem keepBxGF (N : Nat) (v : Value) : KeepP fun w1 => BxGF w1 N v := fun _ _ h hb => ⟨keepBxG _ _ _ _ h.1 hb, (hb.frozen (p := ⟨N, 0, none⟩) h.1.2).trans h.2⟩
theorem BxGF.new {w : World} {N : Nat} (hN : w.heap.size = N) (v : Value) : BxGF (w.alloc (.cells #[v] 24)) N v := by
  refine ⟨BxG.new hN _, ?_⟩
  subst hN
  simp
theorem BxGF.of {w w' : World} {R N : Nat} {v : Value} (h : BxGF w N v) (hb : Below R w w') (hN : N < R) : BxGF w' N v := ⟨⟨(hb.cell (p := ⟨N, 0, none⟩) hN).trans h.1.1, Nat.lt_of_lt_of_le h.1.2 hb.size⟩, (hb.frozen (p := ⟨N, 0, none⟩) hN).trans h.2⟩
theorem own_low {w : World} {B C : Nat} {e : TypeId} {z : Nat} {v : Value} {n : Nat} {xs : List Value} (h : w.ownsRow B e z v n xs) (hc : C ≤ B) : w.ownsRow C e z v n xs := by
  refine ⟨h.1, h.2.imp id ?_⟩
  rintro ⟨g, cap, cur, rfl, hB, r⟩
  exact ⟨g, cap, cur, rfl, Nat.le_trans hc hB, r⟩
theorem readG_cons (h : List Bs) (r : List (List Bs)) : readG (h :: r) = if h = [wLock] then foldT [] r else none := rfl
theorem RA.low {w : World} {B C : Nat} {v : Value} {all : List NV} (h : RA w B v all) (hc : C ≤ B) : RA w C v all := ⟨own_low h.1 hc, fun x hx => ⟨own_low (h.2 x hx).1 hc, own_low (h.2 x hx).2 hc⟩⟩
theorem RS.start {w : World} {R : Nat} (hR : w.heap.size = R) : RS R [] (w.alloc (.cells #[.slice none 0 0, .pointer none] 77)) := by
  subst hR
  refine ⟨⟨by simp, by simp, by simp⟩, Or.inl ⟨rfl, by simp, by simp⟩⟩

set_option maxHeartbeats 12800000 in
theorem read_any {L : List (List Bs)} {v : Value} {w : World} (hv : LinesAt w v L) (hl : L.all isL = true) (hLl : L.length ≤ 900000) (hz : ∀ l ∈ L, ∀ x ∈ l, x.length ≤ 2000000) (he : Env w) :
    Calls Tryd.prog 25 #[v] w (GrQ w (readG L)) := by
  have HNO : Hid (∀ w', readG L = none → Below w.heap.size w w' → GrQ w (readG L) (.returned (.tuple #[.agg #[.slice none 0 0], .bool false])) w') := fun w' e hb => ⟨hb, Or.inr ⟨e, rfl⟩⟩
  have HYE : Hid (∀ w' ad cap all, readG L = some (all.map NV.nd) → Below w.heap.size w w' → RA w' w.heap.size (.slice ad all.length cap) all → GrQ w (readG L) (.returned (.tuple #[.agg #[.slice ad all.length cap], .bool true])) w') := fun w' ad cap all e hb hr => ⟨hb, Or.inl ⟨ad, cap, all, e, rfl, hr⟩⟩
  obtain ⟨ad, cap, rfl, hcap, hcs⟩ := hv
  have HB0 : Hid (Below w.heap.size w (w.alloc (.cells #[.slice none 0 0] 24)) ∧ BxGF (w.alloc (.cells #[.slice none 0 0] 24)) w.heap.size (.slice none 0 0)) := ⟨boxB _ _, BxGF.new rfl _⟩
  obtain ⟨⟨z0, z1⟩, z2⟩ := HB0.out.2
  cases L with
  | nil =>
    have hR : readG [] = none := rfl
    generalize GrQ w (readG []) = QQ at *
    rw [List.length_nil]
    go_enter Tryd.func25, Tryd.ntmps25
    go_wp2
    try simp only [Exit.inBlock, Exit.then]
    refine bodyPost_ret (by simp [results, Tryd.results25, go_sem]; try rfl) rfl ?_
    exact HNO.out _ hR (by first | exact HB0.out.1.setCell (p := ⟨w.heap.size, 0, none⟩) (Nat.le_refl _) _ | exact HB0.out.1)
  | cons h r =>
    obtain ⟨g, o, rfl, hg, hcs⟩ : ∃ g o, ad = some ⟨g, o, none⟩ ∧ g < w.heap.size ∧ ∀ i (hi : i < (h :: r).length), ∃ u, w.cell? ⟨g, o + i, none⟩ = some u ∧ WordsAt w u (h :: r)[i] := by
      rcases hcs with q | q
      · cases q
      · exact q
    obtain ⟨u, c0, hu⟩ := hcs 0 (by simp)
    have c0' : w.cell? ⟨g, o, none⟩ = some u := c0
    have hu' : WordsAt w u h := hu
    have k0 := ((boxB w (.cells #[.slice none 0 0] 24)).cell (p := ⟨g, o, none⟩) hg).trans c0'
    obtain ⟨au, cu, rfl, hcu, hx⟩ := hu'
    rw [List.length_cons]
    have hb0 : (0 : Int) < (r.length : Int) + 1 := by omega
    have hb1 : (1 : Int) ≤ (r.length : Int) + 1 := by omega
    have hb2 : (r.length : Int) + 1 ≤ (cap : Int) := by simp at hcap; omega
    have hb3 : ((r.length : Int) + 1 == 0) = false := by rw [beq_eq_false_iff_ne]; omega
    clear c0 hu c0'
    by_cases h1 : h.length = 1
    · obtain ⟨x, rfl⟩ : ∃ x, h = [x] := by
        match h, h1 with
        | [x], _ => exact ⟨x, rfl⟩
      obtain ⟨gu, ou, rfl, hgu, hx⟩ : ∃ g o, au = some ⟨g, o, none⟩ ∧ g < w.heap.size ∧ ∀ i (hi : i < [x].length), w.cell? ⟨g, o + i, none⟩ = some (.string (ba [x][i])) := by
        rcases hx with q | q
        · cases q
        · exact q
      have cx : w.cell? ⟨gu, ou, none⟩ = some (.string (ba x)) := hx 0 (by simp)
      have kx := ((boxB w (.cells #[.slice none 0 0] 24)).cell (p := ⟨gu, ou, none⟩) hgu).trans cx
      have q1 := ba_is x [108, 111, 99, 107]
      rw [show ([x] : List Bs).length = 1 from rfl] at k0
      by_cases hx1 : x = wLock
      · rw [decide_eq_true (show x = [108, 111, 99, 107] from hx1)] at q1
        have HRG : Hid (readG ([x] :: r) = foldT [] r) := by unfold Hid; rw [readG_cons, if_pos (by rw [hx1])]
        have hr : ∀ i (hi : i < r.length), ∃ u, w.cell? ⟨g, o + 1 + i, none⟩ = some u ∧ WordsAt w u r[i] := fun i hi => by
          have := hcs (i + 1) (by simpa using hi)
          simpa [Nat.add_assoc, Nat.add_comm 1 i] using this
        have HR := hide3 hr
        have HRL : Hid (∀ i (hi : i < r.length), isL r[i] = true) := fun i hi => by
          rw [List.all_cons, Bool.and_eq_true] at hl
          exact List.all_eq_true.1 hl.2 _ (List.getElem_mem hi)
        have HRZ : Hid (∀ i (hi : i < r.length), ∀ x ∈ r[i], x.length ≤ 2000000) := fun i hi => hz _ (List.mem_cons_of_mem _ (List.getElem_mem hi))
        have HEV := hide3 he
        have hrl : r.length ≤ 900000 := by simp at hLl; omega
        have HS0 : Hid (RS (w.heap.size + 1) [] ((w.alloc (.cells #[.slice none 0 0] 24)).alloc (.cells #[.slice none 0 0, .pointer none] 77))) := RS.start (by simp)
        have HB2 : Hid (Below w.heap.size w ((w.alloc (.cells #[.slice none 0 0] 24)).alloc (.cells #[.slice none 0 0, .pointer none] 77)) ∧ BxGF ((w.alloc (.cells #[.slice none 0 0] 24)).alloc (.cells #[.slice none 0 0, .pointer none] 77)) w.heap.size (.slice none 0 0)) := ⟨below_then HB0.out.1 (boxB _ _), keepBxGF _ _ _ _ HB0.out.2 (boxB _ _)⟩
        clear hcs hx hl hLl hz he cx hx1 hr hcu
        generalize ba x = sx at *
        generalize GrQ w (readG ([x] :: r)) = QQ at *
        by_cases hcap1 : cap = 1
        · subst hcap1
          have hr00 : r.length ≤ 0 := by omega
          have hb5 : ((r.length : Int) + 1 - 1) = (r.length : Int) := by omega
          go_enter Tryd.func25, Tryd.ntmps25
          go_wp2_with fail
          obtain ⟨W2, hW2⟩ : ∃ W2, W2 = ((w.alloc (.cells #[.slice none 0 0] 24)).alloc (.cells #[.slice none 0 0, .pointer none] 77)) := ⟨_, rfl⟩
          have HS1 : Hid (Below (w.heap.size + 1) W2 ((w.alloc (.cells #[.slice none 0 0] 24)).alloc (.cells #[.slice none 0 0, .pointer none] 77))) := by unfold Hid; rw [hW2]; exact Below.refl _ _
          rw [← hW2] at HB2
          clear hW2
          go_loopw [29] (fun i wr => ∃ (k : Nat) (st : List Nd), k ≤ r.length ∧ i = .int .i64 k ∧ RS (w.heap.size + 1) st wr ∧ Below (w.heap.size + 1) W2 wr ∧ foldT [] (r.take k) = some st ∧ Bd k st) (fun i _ => r.length - (intOf i).toNat)
          case atStart => exact ⟨0, [], Nat.zero_le _, rfl, HS0.out, HS1.out, rfl, Nat.le_refl _, fun n hn => by cases hn⟩
          case round =>
            obtain ⟨k, st, hk, rfl, hrs, hb, hft, hbd⟩ := hrel
            have HRS := hide3 hrs
            have HBW : Hid (Below w.heap.size w wr) := HB2.out.1.trans (hb.mono (Nat.le_succ _))
            have HBR := hide3 hb
            have HFT := hide3 hft
            have HBD := hide3 hbd
            have HGF : Hid (BxGF wr w.heap.size (.slice none 0 0)) := HB2.out.2.of hb (Nat.lt_succ_self _)
            clear hrs hb hft hbd
            by_cases hlt : k < r.length
            · exact absurd hlt (by omega)
            · obtain rfl : k = r.length := by omega
              rw [List.take_length] at HFT
              obtain ⟨ad2, cap2, all, rfl, m0, m1, _⟩ := HRS.out.all
              have HM1 := hide3 m1
              obtain ⟨⟨n0, n1⟩, n2⟩ := HGF.out
              have s1 := fun u => World.cell?_setCell_same wr ⟨w.heap.size, 0, none⟩ u n0
              have hki : ¬ ((r.length : Int) < (r.length : Int)) := by omega
              clear m1
              go_wp2
              try simp only [Exit.inBlock, Exit.then]
              refine bodyPost_ret (by simp [results, Tryd.results25, s1, go_sem]; try rfl) rfl ?_
              refine HYE.out _ ad2 cap2 all (by rw [HRG.out, HFT.out]) (HBW.out.setCell (p := ⟨w.heap.size, 0, none⟩) (Nat.le_refl _) _) ((HM1.out.low (by omega : w.heap.size + 1 ≤ w.heap.size + 1 + 1)).of (fun q hq _ => Below.heap_setCell _ _ _ _ (by simp only; omega)) |>.low (Nat.le_succ _))
        · have hc1 : (1 : Int) < (cap : Int) := by omega
          go_enter Tryd.func25, Tryd.ntmps25
          go_wp2_with fail
          obtain ⟨W2, hW2⟩ : ∃ W2, W2 = ((w.alloc (.cells #[.slice none 0 0] 24)).alloc (.cells #[.slice none 0 0, .pointer none] 77)) := ⟨_, rfl⟩
          have HS1 : Hid (Below (w.heap.size + 1) W2 ((w.alloc (.cells #[.slice none 0 0] 24)).alloc (.cells #[.slice none 0 0, .pointer none] 77))) := by unfold Hid; rw [hW2]; exact Below.refl _ _
          rw [← hW2] at HB2
          clear hW2
          go_loopw [29] (fun i wr => ∃ (k : Nat) (st : List Nd), k ≤ r.length ∧ i = .int .i64 k ∧ RS (w.heap.size + 1) st wr ∧ Below (w.heap.size + 1) W2 wr ∧ foldT [] (r.take k) = some st ∧ Bd k st) (fun i _ => r.length - (intOf i).toNat)
          case atStart => exact ⟨0, [], Nat.zero_le _, rfl, HS0.out, HS1.out, rfl, Nat.le_refl _, fun n hn => by cases hn⟩
          case round =>
            obtain ⟨k, st, hk, rfl, hrs, hb, hft, hbd⟩ := hrel
            have HRS := hide3 hrs
            have HBW : Hid (Below w.heap.size w wr) := HB2.out.1.trans (hb.mono (Nat.le_succ _))
            have HBR := hide3 hb
            have HFT := hide3 hft
            have HBD := hide3 hbd
            have HGF : Hid (BxGF wr w.heap.size (.slice none 0 0)) := HB2.out.2.of hb (Nat.lt_succ_self _)
            clear hrs hb hft hbd
            by_cases hlt : k < r.length
            · have hki : (k : Int) < (r.length : Int) := by omega
              obtain ⟨u2, c2, hu2⟩ := HR.out k hlt
              have hil := HRL.out k hlt
              have hzk := HRZ.out k hlt
              obtain ⟨l, hl⟩ : ∃ l, l = r[k] := ⟨_, rfl⟩
              rw [← hl] at hu2 hil hzk
              have HLN0 := hide3 hl
              clear hl
              cases l with
              | nil => exact absurd hil (by decide)
              | cons x' ws' =>
              have HLN : Hid (x' :: ws' = r[k]) := HLN0.out
              obtain ⟨au2, cu2, rfl, hcu2, hx2⟩ := hu2
              obtain ⟨gu2, ou2, rfl, hgu2, hx2⟩ : ∃ g o, au2 = some ⟨g, o, none⟩ ∧ g < w.heap.size ∧ ∀ i (hi : i < (x' :: ws').length), w.cell? ⟨g, o + i, none⟩ = some (.string (ba (x' :: ws')[i])) := by
                rcases hx2 with q | q
                · cases q
                · exact q
              have cx2 : w.cell? ⟨gu2, ou2, none⟩ = some (.string (ba x')) := hx2 0 (by simp)
              have d2 := (HBW.out.cell (p := ⟨g, o + 1 + k, none⟩) hg).trans c2
              have d3 := (HBW.out.cell (p := ⟨gu2, ou2, none⟩) hgu2).trans cx2
              have HCX : Hid (∀ W, Below (w.heap.size + 1) wr.drew W → W.cell? ⟨gu2, ou2, none⟩ = some (.string (ba x'))) := fun W hb => (hb.cell (p := ⟨gu2, ou2, none⟩) (by simp only; omega)).trans d3
              have HTK : Hid (∀ vw, WordsAt wr.drew vw ws' → Calls Tryd.prog 42 #[.pointer (some ⟨w.heap.size + 1, 0, none⟩), .string (ba x'), vw] wr.drew (TakeQ (w.heap.size + 1) wr.drew (takeR st x' ws'))) := fun vw hvw => take_any (HRS.out.below (Below.refl _ _).drew) (by have := HBD.out.1; omega) (fun n hn => by have := HBD.out.2 n hn; exact ⟨by omega, by omega⟩) hvw (fun y hy => hzk y (List.mem_cons_of_mem _ hy)) (HEV.out.below HBW.out.drew)
              have hwl : (x' :: ws').length = ws'.length + 1 := rfl
              rw [hwl] at d2 hcu2
              have hv1 : (1 : Int) ≤ (ws'.length : Int) + 1 := by omega
              have hv2 : (ws'.length : Int) + 1 ≤ (cu2 : Int) := by omega
              have hv3 : (0 : Int) < (ws'.length : Int) + 1 := by omega
              by_cases hcu1 : cu2 = 1
              · subst hcu1
                obtain rfl : ws' = [] := List.eq_nil_of_length_eq_zero (by omega)
                have HW1 : Hid (WordsAt wr.drew (.slice (some ⟨gu2, ou2, none⟩) 0 0) []) := ⟨_, _, rfl, Nat.le_refl _, Or.inl rfl⟩
                rw [List.length_nil] at d2
                clear hx2 hzk hil hwl hcu2 cx2 c2 HLN0 hv1 hv2 hv3
                cases htk : takeR st x' [] with
                | none =>
                  have HTN : Hid (readG ([x] :: r) = none) := by
                    unfold Hid
                    rw [HRG.out]
                    have e1 := foldT_snoc (r.take k) [] x' []
                    rw [HFT.out] at e1
                    simp only [htk] at e1
                    have e2 := foldT_none (r.take k ++ [x' :: []]) (r.drop (k + 1)) [] e1
                    rw [HLN.out, ← List.take_succ_eq_append_getElem hlt, List.take_append_drop] at e2
                    exact e2
                  rw [htk] at HTK
                  clear htk
                  go_wp2_with fail
                  go_region_held3 (fun w' => w'.cell? ⟨gu2, ou2, none⟩ = some (.string (ba x'))) (go_keep)
                    (first | (go_at_call 42; refine (HTK.out _ HW1.out).mono ?_; rintro e w5 ⟨hb5, hq5⟩; obtain ⟨_, rfl⟩ := hq5.resolve_left (fun ⟨_, q, _⟩ => by cases q); have d5 := HCX.out _ hb5; have HG5 := hide3 ((HGF.out.of (Below.refl _ _).drew (Nat.lt_succ_self _)).of hb5 (Nat.lt_succ_self _)); obtain ⟨⟨n0, n1⟩, n2⟩ := HG5.out; have s1 := fun u => World.cell?_setCell_same w5 ⟨w.heap.size, 0, none⟩ u n0; have HB5 := hide3 (HBW.out.drew.trans (hb5.mono (Nat.le_succ _))); clear hb5 hq5))
                  all_goals go_wp2
                  all_goals try simp only [Exit.inBlock, Exit.then]
                  all_goals refine bodyPost_ret (by simp [results, Tryd.results25, s1, go_sem]; try rfl) rfl ?_
                  all_goals exact HNO.out _ HTN.out (HB5.out.setCell (p := ⟨w.heap.size, 0, none⟩) (Nat.le_refl _) _)
                | some st2 =>
                  have HTS : Hid (foldT [] (r.take (k + 1)) = some st2) := by
                    unfold Hid
                    have e1 := foldT_snoc (r.take k) [] x' []
                    rw [HFT.out] at e1
                    simp only [htk] at e1
                    rw [HLN.out, ← List.take_succ_eq_append_getElem hlt] at e1
                    exact e1
                  have HBD2 := hide3 (take_bd HBD.out htk)
                  rw [htk] at HTK
                  clear htk
                  go_wp2_with fail
                  go_region_held3 (fun w' => w'.cell? ⟨gu2, ou2, none⟩ = some (.string (ba x'))) (go_keep)
                    (first | (go_at_call 42; refine (HTK.out _ HW1.out).mono ?_; rintro e w5 ⟨hb5, hq5⟩; obtain ⟨st3, h3, rfl, hr3⟩ := hq5.resolve_right (fun q => by cases q.1); cases h3; have d5 := HCX.out _ hb5; have HR5 := hide3 hr3; have HB5 := hide3 (HBR.out.drew.trans hb5); clear hb5 hq5 hr3))
                  all_goals go_wp2
                  all_goals exact ⟨⟨k + 1, st2, by omega, by go_num, HR5.out, HB5.out, HTS.out, HBD2.out⟩, by simp [intOf]; omega⟩
              · have HW1 : Hid (WordsAt wr.drew (.slice (some ⟨gu2, ou2 + 1, none⟩) ws'.length (cu2 - 1)) ws') := ⟨_, _, rfl, by omega, Or.inr ⟨gu2, ou2 + 1, rfl, Nat.lt_of_lt_of_le hgu2 HBW.out.size, fun i hi => by
                  have := hx2 (i + 1) (by simpa using hi)
                  have e : ou2 + (i + 1) = ou2 + 1 + i := by omega
                  rw [e] at this
                  have h2 : wr.drew.cell? ⟨gu2, ou2 + 1 + i, none⟩ = w.cell? ⟨gu2, ou2 + 1 + i, none⟩ := HBW.out.drew.cell (p := ⟨gu2, ou2 + 1 + i, none⟩) hgu2
                  rw [h2]
                  exact this⟩⟩
                clear hx2 hzk hil hwl cx2 c2 HLN0
                cases htk : takeR st x' ws' with
                | none =>
                  have HTN : Hid (readG ([x] :: r) = none) := by
                    unfold Hid
                    rw [HRG.out]
                    have e1 := foldT_snoc (r.take k) [] x' ws'
                    rw [HFT.out] at e1
                    simp only [htk] at e1
                    have e2 := foldT_none (r.take k ++ [x' :: ws']) (r.drop (k + 1)) [] e1
                    rw [HLN.out, ← List.take_succ_eq_append_getElem hlt, List.take_append_drop] at e2
                    exact e2
                  rw [htk] at HTK
                  clear htk
                  go_wp2_with fail
                  go_region_held3 (fun w' => w'.cell? ⟨gu2, ou2, none⟩ = some (.string (ba x'))) (go_keep)
                    (first | (go_at_call 42; refine (HTK.out _ HW1.out).mono ?_; rintro e w5 ⟨hb5, hq5⟩; obtain ⟨_, rfl⟩ := hq5.resolve_left (fun ⟨_, q, _⟩ => by cases q); have d5 := HCX.out _ hb5; have HG5 := hide3 ((HGF.out.of (Below.refl _ _).drew (Nat.lt_succ_self _)).of hb5 (Nat.lt_succ_self _)); obtain ⟨⟨n0, n1⟩, n2⟩ := HG5.out; have s1 := fun u => World.cell?_setCell_same w5 ⟨w.heap.size, 0, none⟩ u n0; have HB5 := hide3 (HBW.out.drew.trans (hb5.mono (Nat.le_succ _))); clear hb5 hq5))
                  all_goals go_wp2
                  all_goals try simp only [Exit.inBlock, Exit.then]
                  all_goals refine bodyPost_ret (by simp [results, Tryd.results25, s1, go_sem]; try rfl) rfl ?_
                  all_goals exact HNO.out _ HTN.out (HB5.out.setCell (p := ⟨w.heap.size, 0, none⟩) (Nat.le_refl _) _)
                | some st2 =>
                  have HTS : Hid (foldT [] (r.take (k + 1)) = some st2) := by
                    unfold Hid
                    have e1 := foldT_snoc (r.take k) [] x' ws'
                    rw [HFT.out] at e1
                    simp only [htk] at e1
                    rw [HLN.out, ← List.take_succ_eq_append_getElem hlt] at e1
                    exact e1
                  have HBD2 := hide3 (take_bd HBD.out htk)
                  rw [htk] at HTK
                  clear htk
                  go_wp2_with fail
                  go_region_held3 (fun w' => w'.cell? ⟨gu2, ou2, none⟩ = some (.string (ba x'))) (go_keep)
                    (first | (go_at_call 42; refine (HTK.out _ HW1.out).mono ?_; rintro e w5 ⟨hb5, hq5⟩; obtain ⟨st3, h3, rfl, hr3⟩ := hq5.resolve_right (fun q => by cases q.1); cases h3; have d5 := HCX.out _ hb5; have HR5 := hide3 hr3; have HB5 := hide3 (HBR.out.drew.trans hb5); clear hb5 hq5 hr3))
                  all_goals go_wp2
                  all_goals exact ⟨⟨k + 1, st2, by omega, by go_num, HR5.out, HB5.out, HTS.out, HBD2.out⟩, by simp [intOf]; omega⟩
            · obtain rfl : k = r.length := by omega
              rw [List.take_length] at HFT
              obtain ⟨ad2, cap2, all, rfl, m0, m1, _⟩ := HRS.out.all
              have HM1 := hide3 m1
              obtain ⟨⟨n0, n1⟩, n2⟩ := HGF.out
              have s1 := fun u => World.cell?_setCell_same wr ⟨w.heap.size, 0, none⟩ u n0
              have hki : ¬ ((r.length : Int) < (r.length : Int)) := by omega
              clear m1
              go_wp2
              try simp only [Exit.inBlock, Exit.then]
              refine bodyPost_ret (by simp [results, Tryd.results25, s1, go_sem]; try rfl) rfl ?_
              refine HYE.out _ ad2 cap2 all (by rw [HRG.out, HFT.out]) (HBW.out.setCell (p := ⟨w.heap.size, 0, none⟩) (Nat.le_refl _) _) ((HM1.out.low (by omega : w.heap.size + 1 ≤ w.heap.size + 1 + 1)).of (fun q hq _ => Below.heap_setCell _ _ _ _ (by simp only; omega)) |>.low (Nat.le_succ _))
      · rw [decide_eq_false (show ¬ x = [108, 111, 99, 107] from hx1)] at q1
        have hR : readG ([x] :: r) = none := by rw [readG_cons, if_neg (fun e => hx1 (by cases e; rfl))]
        generalize GrQ w (readG ([x] :: r)) = QQ at *
        clear hcs hx hl hz he cx
        generalize ba x = sx at *
        go_enter Tryd.func25, Tryd.ntmps25
        go_wp2
        try simp only [Exit.inBlock, Exit.then]
        refine bodyPost_ret (by simp [results, Tryd.results25, go_sem]; try rfl) rfl ?_
        exact HNO.out _ hR (by first | exact HB0.out.1.setCell (p := ⟨w.heap.size, 0, none⟩) (Nat.le_refl _) _ | exact HB0.out.1)
    · have hb4 : ((h.length : Int) == 1) = false := by rw [beq_eq_false_iff_ne]; omega
      have hR : readG (h :: r) = none := by rw [readG_cons, if_neg (fun e => h1 (by rw [e]; rfl))]
      generalize GrQ w (readG (h :: r)) = QQ at *
      have hb5 : ((h.length : Int) != 1) = true := by rw [bne, hb4]; rfl
      have hb6 : (h.length : Int) ≠ 1 := by omega
      clear hcs hx hl hz he
      go_enter Tryd.func25, Tryd.ntmps25
      go_wp2
      try simp only [Exit.inBlock, Exit.then]
      refine bodyPost_ret (by simp [results, Tryd.results25, go_sem]; try rfl) rfl ?_
      exact HNO.out _ hR (by first | exact HB0.out.1.setCell (p := ⟨w.heap.size, 0, none⟩) (Nat.le_refl _) _ | exact HB0.out.1)
end Go.Proofs.YtikplmckjcceaaaDoor
namespace Go.Proofs.YtikplmckjcceaaaDoor.Sc
open Go.RowKit
set_option maxRecDepth 100000

/-- The frame: text, bound, lines, words, where it is, where the word began. -/
def Fr (t : ByteArray) (most : Int) (vl vw vk vf : Value) (a : Act) : Prop := ∃ (u2 u3 u4 u5 u6 u11 u12 u13 u14 u15 u16 u17 u18 u19 u20 u21 u22 u23 u24 u25 u26 u27 u28 u29 u30 u31 u32 u33 u34 u35 u36 u37 u38 u39 u40 u41 u42 u43 u44 u45 u46 u47 u48 u49 u50 u51 u52 u53 u54 u55 u56 u57 u58 u59 u60 u61 u62 u63 u64 u65 u66 : Value), a = { tmps := #[.string t, .int .i64 most, u2, u3, u4, u5, u6, vl, vw, vk, vf, u11, u12, u13, u14, u15, u16, u17, u18, u19, u20, u21, u22, u23, u24, u25, u26, u27, u28, u29, u30, u31, u32, u33, u34, u35, u36, u37, u38, u39, u40, u41, u42, u43, u44, u45, u46, u47, u48, u49, u50, u51, u52, u53, u54, u55, u56, u57, u58, u59, u60, u61, u62, u63, u64, u65, u66], defers := [] }

/-- What holds at a label, the frame aside. -/
def D4 (t : ByteArray) (w : World) (R : Except Nat (List (List Bs))) (l : Nat) (vl vw vf : Value) (k : Nat) (w' : World) : Prop :=
    ((l = 0 ∧ ∃ ps, St w vl (.slice none 0 0) ps [] w' ∧ ps.length ≤ k ∧ scanR (t.data.toList.drop k) [] [] (ps.map (·.2)) = R) ∨
     (l = 1 ∧ ∃ ps ws, St w vl vw ps ws w' ∧ ps.length ≤ k ∧ ws.length ≤ k ∧ ws ≠ [] ∧ scanR (t.data.toList.drop k) [] ws (ps.map (·.2)) = R) ∨
     (l = 2 ∧ ∃ (f : Nat) (ps : List (Value × List Bs)) (ws : List Bs), vf = .int .i64 f ∧ f < k ∧ St w vl vw ps ws w' ∧ ps.length ≤ k ∧ ws.length ≤ k ∧ scanR (t.data.toList.drop k) ((t.data.toList.take k).drop f) ws (ps.map (·.2)) = R) ∨
     (l = 3 ∧ ∃ ps, LL w' w.heap.size vl ps ∧ ps.length ≤ k ∧ Below w.heap.size w w' ∧ R = .error (ps.length + 1)))
/-- What holds at a label. -/
def J4 (t : ByteArray) (most : Int) (w : World) (R : Except Nat (List (List Bs))) (l : Nat) (a : Act) (w' : World) : Prop :=
  ∃ (vl vw vf : Value) (k : Nat), Fr t most vl vw (.int .i64 k) vf a ∧ k ≤ t.size ∧ D4 t w R l vl vw vf k w'
/-- A measure that each pass lowers. -/
def mu4 (t : ByteArray) (l : Nat) (a : Act) (_ : World) : Nat := if l = 3 then 0 else t.size + 1 - (intOf (a.tmps.getD 9 undef)).toNat

theorem mu4_at {t : ByteArray} {most : Int} {vl vw vf : Value} {k : Nat} {a : Act} {w : World} (h : Fr t most vl vw (.int .i64 k) vf a) {l : Nat} (hl : l ≠ 3) : mu4 t l a w = t.size + 1 - k := by
  obtain ⟨u2, u3, u4, u5, u6, u11, u12, u13, u14, u15, u16, u17, u18, u19, u20, u21, u22, u23, u24, u25, u26, u27, u28, u29, u30, u31, u32, u33, u34, u35, u36, u37, u38, u39, u40, u41, u42, u43, u44, u45, u46, u47, u48, u49, u50, u51, u52, u53, u54, u55, u56, u57, u58, u59, u60, u61, u62, u63, u64, u65, u66, rfl⟩ := h
  unfold mu4
  rw [if_neg hl]
  rfl

def linE : Except Nat (List (List Bs)) → Int
  | .ok _ => 0
  | .error _ => 22
def linN : Except Nat (List (List Bs)) → Nat
  | .ok _ => 0
  | .error n => n
def linL : Except Nat (List (List Bs)) → List (List Bs)
  | .ok L => L
  | .error _ => []
/-- Lines of one's own. -/
def OwnLL (w : World) (B : Nat) (v : Value) (L : List (List Bs)) : Prop := ∃ ps, ps.map (·.2) = L ∧ LL w B v ps
/-- What Lines answers with. -/
def LinesP (w : World) (R : Except Nat (List (List Bs))) (e : Ending) (w' : World) : Prop := ∃ v, e = .returned (.tuple #[v, .int .i64 (linE R), .int .i64 (linN R : Int)]) ∧ OwnLL w' w.heap.size v (linL R) ∧ Below w.heap.size w w'
theorem LinesP.ok {w w' : World} {R : Except Nat (List (List Bs))} {vl : Value} {ps : List (Value × List Bs)} (hR : R = .ok (ps.map (·.2))) (h : LL w' w.heap.size vl ps) (hb : Below w.heap.size w w') : LinesP w R (.returned (.tuple #[vl, .int .i64 0, .int .i64 0])) w' := by
  subst hR
  exact ⟨vl, rfl, ⟨ps, rfl, h⟩, hb⟩
theorem LinesP.no {w w' : World} {R : Except Nat (List (List Bs))} {n : Nat} (hR : R = .error n) (hb : Below w.heap.size w w') : LinesP w R (.returned (.tuple #[.slice none 0 0, .int .i64 22, .int .i64 (n : Int)])) w' := by
  subst hR
  exact ⟨_, rfl, ⟨[], rfl, LL.nil _ _⟩, hb⟩
theorem drop_at {t : ByteArray} {k : Nat} (h : k < t.size) : t.data.toList.drop k = t[k] :: t.data.toList.drop (k + 1) := List.drop_eq_getElem_cons (by rw [list_size]; exact h)
theorem take_at {t : ByteArray} {f k : Nat} (h : k < t.size) (hf : f ≤ k) : (t.data.toList.take (k + 1)).drop f = (t.data.toList.take k).drop f ++ [t[k]] := by
  rw [List.take_succ_eq_append_getElem (by rw [list_size]; exact h), List.drop_append_of_le_length (by rw [List.length_take, list_size]; omega)]
  rfl
theorem cur_ne {t : ByteArray} {f k : Nat} (h : k ≤ t.size) (hf : f < k) : (t.data.toList.take k).drop f ≠ [] := by
  intro e
  have := congrArg List.length e
  rw [List.length_drop, List.length_take, list_size] at this
  simp at this
  omega
theorem cur_nil (t : ByteArray) (k : Nat) : (t.data.toList.take k).drop k = [] := List.drop_of_length_le (by rw [List.length_take]; omega)
theorem drop_end {t : ByteArray} {k : Nat} (h : ¬ k < t.size) : t.data.toList.drop k = [] := List.drop_of_length_le (by rw [list_size]; omega)


theorem jump_ok {t : ByteArray} {most : Int} {w w' : World} {R : Except Nat (List (List Bs))} {vl vw vf : Value} {a : Act} {k k' l N : Nat} (hF : Fr t most vl vw (.int .i64 (k' : Nat)) vf a) (hl : l ≠ 3) (hN : N = t.size + 1 - k) (hk : k < k') (hk' : k' ≤ t.size) (h : D4 t w R l vl vw vf k' w') : J4 t most w R l a w' ∧ mu4 t l a w' < N :=
  ⟨⟨vl, vw, vf, k', hF, hk', h⟩, by rw [mu4_at hF hl, hN]; omega⟩
theorem jump_wrong {t : ByteArray} {most : Int} {w w' : World} {R : Except Nat (List (List Bs))} {vl vw vf : Value} {a : Act} {k k' N : Nat} {ps : List (Value × List Bs)} (hF : Fr t most vl vw (.int .i64 (k' : Nat)) vf a) (hN : N = t.size + 1 - k) (hk : k ≤ t.size) (hk' : k' ≤ t.size) (h : LL w' w.heap.size vl ps) (hp : ps.length ≤ k') (hb : Below w.heap.size w w') (hR : R = .error (ps.length + 1)) : J4 t most w R 3 a w' ∧ mu4 t 3 a w' < N :=
  ⟨⟨vl, vw, vf, k', hF, hk', Or.inr (Or.inr (Or.inr ⟨rfl, ps, h, hp, hb, hR⟩))⟩, by show (if 3 = 3 then 0 else _) < N; rw [if_pos rfl]; omega⟩
theorem own_one {w : World} {B : Nat} {v : Value} {ws : List Bs} (h : OwnW w B v ws) : v.oneCell' = true := by
  rcases h.2 with ⟨rfl, _⟩ | ⟨g, cap, cur, rfl, _⟩ <;> rfl

theorem own_form {w : World} {B : Nat} {v : Value} {ws : List Bs} {x : Bs} (h : OwnW w B v (ws ++ [x])) : ∃ g cap, v = .slice (some ⟨g, 0, none⟩) (ws.length + 1) cap := by
  rcases h.2 with ⟨_, h0⟩ | ⟨g, cap, cur, rfl, _⟩
  · simp at h0
  · exact ⟨g, cap, by simp⟩

set_option maxHeartbeats 6400000 in
theorem Lines_walk (t : ByteArray) (hs : t.size ≤ 4194304) (most : Int) (hm : ¬ most < (t.size : Int)) (w : World)
    (HC : Hid (∀ s : ByteArray, s.size ≤ 4194304 → ∀ w1, Calls Tryd.prog 41 #[.string s] w1 fun e w' => e = .returned (.string s) ∧ Below w1.heap.size w1 w')) :
    Calls Tryd.prog 24 #[.string t, .int .i64 most] w (LinesP w (scanR t.data.toList [] [] [])) := by
  obtain ⟨R, hR⟩ : ∃ R, R = scanR t.data.toList [] [] [] := ⟨_, rfl⟩
  rw [← hR]
  have HR := hide3 hR
  clear hR
  obtain ⟨i0, hi, hz0, hz1, hz2⟩ := info_parts infoStr
  obtain ⟨i1, hj, hy0, hy1, hy2⟩ := info_parts infoStrs
  go_enter Tryd.func24, Tryd.ntmps24
  go_wp2
  refine wp_scope_many (J4 t most w R) (mu4 t) ?_ ?_
  · by_cases h0 : t.size = 0
    · have hR : R = .ok [] := by rw [HR.out, show t.data.toList = [] from List.eq_nil_of_length_eq_zero h0]; rfl
      have e0 : ((0 : Int) == (t.size : Int)) = true := by rw [h0]; rfl
      go_wp2
      go_step3
      go_wp2
      simp only [jumpM_ret]
      go_ret3
      exact LinesP.ok (ps := []) hR (LL.nil _ _) (Below.refl _ _)
    · have e0 : ((0 : Int) == (t.size : Int)) = false := by rw [beq_eq_false_iff_ne]; omega
      have hlt : 0 < t.size := by omega
      have HW := hide3 (wordByte_any t[0])
      have hd := drop_at hlt
      rw [List.drop_zero] at hd
      cases hw : wB t[0]
      · have HJ : Hid (R = .error 1) := by unfold Hid; rw [HR.out, hd, scan_none hw]; rfl
        rw [hw] at HW
        clear hd hw h0 HR
        go_wp2
        go_step3
        go_wp2
        go_step3
        go_wp2
        go_step3
        go_wp2_with (go_at_call 40; refine (HW.out _).mono ?_; rintro e wx ⟨rfl, hwx⟩; subst hwx)
        go_step3
        (try simp only [Exit.then]); (try simp only [Exit.inBlock]); (try simp only [jumpM_goto])
        exact ⟨_, _, _, 0, ⟨_, _, _, _, _, _, _, _, _, _, _, _, _, _, _, _, _, _, _, _, _, _, _, _, _, _, _, _, _, _, _, _, _, _, _, _, _, _, _, _, _, _, _, _, _, _, _, _, _, _, _, _, _, _, _, _, _, _, _, _, _, rfl⟩, Nat.zero_le _, Or.inr (Or.inr (Or.inr ⟨rfl, [], LL.nil _ _, Nat.le_refl _, Below.refl _ _, HJ.out⟩))⟩
      · have HJ : Hid (scanR (t.data.toList.drop 1) ((t.data.toList.take 1).drop 0) [] [] = R) := by
          unfold Hid
          rw [take_at hlt (Nat.le_refl 0), HR.out, hd, scan_b hw]
          simp
        rw [hw] at HW
        clear hd hw h0 HR
        go_wp2
        go_step3
        go_wp2
        go_step3
        go_wp2
        go_step3
        go_wp2_with (go_at_call 40; refine (HW.out _).mono ?_; rintro e wx ⟨rfl, hwx⟩; subst hwx)
        go_step3
        (try simp only [Exit.then]); (try simp only [Exit.inBlock]); (try simp only [jumpM_goto])
        exact ⟨_, _, _, 1, ⟨_, _, _, _, _, _, _, _, _, _, _, _, _, _, _, _, _, _, _, _, _, _, _, _, _, _, _, _, _, _, _, _, _, _, _, _, _, _, _, _, _, _, _, _, _, _, _, _, _, _, _, _, _, _, _, _, _, _, _, _, _, rfl⟩, by omega, Or.inr (Or.inr (Or.inl ⟨rfl, 0, [], [], rfl, by omega, St.start _, by simp, by simp, HJ.out⟩))⟩
  · rintro l a w' ⟨vl, vw, vf, k, hF, hk, hD⟩
    clear HR
    rcases hD with ⟨rfl, ps, hst, hpl, hsc⟩ | ⟨rfl, ps, ws, hst, hpl, hwl, hne, hsc⟩ | ⟨rfl, f, ps, ws, rfl, hfk, hst, hpl, hwl, hsc⟩ | ⟨rfl, ps, hll, hpl, hb, hR⟩
    · -- line
      have HO := hide3 hst
      clear hst
      refine ⟨_, rfl, ?_⟩
      obtain ⟨N, hN⟩ : ∃ N, N = mu4 t 0 a w' := ⟨_, rfl⟩
      rw [← hN]
      rw [mu4_at hF (by decide)] at hN
      have HN := hide3 hN
      clear hN
      obtain ⟨u2, u3, u4, u5, u6, u11, u12, u13, u14, u15, u16, u17, u18, u19, u20, u21, u22, u23, u24, u25, u26, u27, u28, u29, u30, u31, u32, u33, u34, u35, u36, u37, u38, u39, u40, u41, u42, u43, u44, u45, u46, u47, u48, u49, u50, u51, u52, u53, u54, u55, u56, u57, u58, u59, u60, u61, u62, u63, u64, u65, u66, rfl⟩ := hF
      by_cases hlt : k < t.size
      · have e0 : ((k : Int) == (t.size : Int)) = false := by rw [beq_eq_false_iff_ne]; omega
        have HW := hide3 (wordByte_any t[k])
        have hd := drop_at hlt
        cases hw : wB t[k]
        · have HJ : Hid (R = .error (ps.length + 1)) := by unfold Hid; rw [← hsc, hd, scan_none hw]; simp
          rw [hw] at HW
          clear hd hw hsc
          go_wp2
          go_step3
          go_wp2
          go_step3
          go_wp2_with (go_at_call 40; refine (HW.out _).mono ?_; rintro e wx ⟨rfl, hwx⟩; subst hwx)
          go_step3
          (try simp only [Exit.then]); (try simp only [Exit.inBlock]); (try simp only [jumpM_goto])
          exact jump_wrong (k' := k) ⟨_, _, _, _, _, _, _, _, _, _, _, _, _, _, _, _, _, _, _, _, _, _, _, _, _, _, _, _, _, _, _, _, _, _, _, _, _, _, _, _, _, _, _, _, _, _, _, _, _, _, _, _, _, _, _, _, _, _, _, _, _, rfl⟩ HN.out hk hk HO.out.1 hpl HO.out.2.2.2.2 HJ.out
        · have HJ : Hid (scanR (t.data.toList.drop (k + 1)) ((t.data.toList.take (k + 1)).drop k) [] (ps.map (·.2)) = R) := by
            unfold Hid
            rw [take_at hlt (Nat.le_refl k), cur_nil, ← hsc, hd, scan_b hw]
          rw [hw] at HW
          clear hd hw hsc
          go_wp2
          go_step3
          go_wp2
          go_step3
          go_wp2_with (go_at_call 40; refine (HW.out _).mono ?_; rintro e wx ⟨rfl, hwx⟩; subst hwx)
          go_step3
          (try simp only [Exit.then]); (try simp only [Exit.inBlock]); (try simp only [jumpM_goto])
          exact jump_ok (k' := k + 1) ⟨_, _, _, _, _, _, _, _, _, _, _, _, _, _, _, _, _, _, _, _, _, _, _, _, _, _, _, _, _, _, _, _, _, _, _, _, _, _, _, _, _, _, _, _, _, _, _, _, _, _, _, _, _, _, _, _, _, _, _, _, _, rfl⟩ (by decide) HN.out (by omega) (by omega) (Or.inr (Or.inr (Or.inl ⟨rfl, k, ps, [], rfl, by omega, HO.out, by omega, by simp, HJ.out⟩)))
      · have e0 : ((k : Int) == (t.size : Int)) = true := by rw [beq_iff_eq]; omega
        have HJ : Hid (R = .ok (ps.map (·.2))) := by unfold Hid; rw [← hsc, drop_end hlt]; rfl
        clear hsc
        go_wp2
        simp only [jumpM_ret]
        go_ret3
        exact LinesP.ok HJ.out HO.out.1 HO.out.2.2.2.2
    · -- word
      have HO := hide3 hst
      clear hst
      refine ⟨_, rfl, ?_⟩
      obtain ⟨N, hN⟩ : ∃ N, N = mu4 t 1 a w' := ⟨_, rfl⟩
      rw [← hN]
      rw [mu4_at hF (by decide)] at hN
      have HN := hide3 hN
      clear hN
      obtain ⟨u2, u3, u4, u5, u6, u11, u12, u13, u14, u15, u16, u17, u18, u19, u20, u21, u22, u23, u24, u25, u26, u27, u28, u29, u30, u31, u32, u33, u34, u35, u36, u37, u38, u39, u40, u41, u42, u43, u44, u45, u46, u47, u48, u49, u50, u51, u52, u53, u54, u55, u56, u57, u58, u59, u60, u61, u62, u63, u64, u65, u66, rfl⟩ := hF
      by_cases hlt : k < t.size
      · have e0 : ((k : Int) == (t.size : Int)) = false := by rw [beq_eq_false_iff_ne]; omega
        have HW := hide3 (wordByte_any t[k])
        have hd := drop_at hlt
        cases hw : wB t[k]
        · have HJ : Hid (R = .error (ps.length + 1)) := by unfold Hid; rw [← hsc, hd, scan_none hw]; simp
          rw [hw] at HW
          clear hd hw hsc hne
          go_wp2
          go_step3
          go_wp2_with (go_at_call 40; refine (HW.out _).mono ?_; rintro e wx ⟨rfl, hwx⟩; subst hwx)
          go_step3
          (try simp only [Exit.then]); (try simp only [Exit.inBlock]); (try simp only [jumpM_goto])
          exact jump_wrong (k' := k) ⟨_, _, _, _, _, _, _, _, _, _, _, _, _, _, _, _, _, _, _, _, _, _, _, _, _, _, _, _, _, _, _, _, _, _, _, _, _, _, _, _, _, _, _, _, _, _, _, _, _, _, _, _, _, _, _, _, _, _, _, _, _, rfl⟩ HN.out hk hk HO.out.1 hpl HO.out.2.2.2.2 HJ.out
        · have HJ : Hid (scanR (t.data.toList.drop (k + 1)) ((t.data.toList.take (k + 1)).drop k) ws (ps.map (·.2)) = R) := by
            unfold Hid
            rw [take_at hlt (Nat.le_refl k), cur_nil, ← hsc, hd, scan_b hw]
          rw [hw] at HW
          clear hd hw hsc hne
          go_wp2
          go_step3
          go_wp2_with (go_at_call 40; refine (HW.out _).mono ?_; rintro e wx ⟨rfl, hwx⟩; subst hwx)
          go_step3
          (try simp only [Exit.then]); (try simp only [Exit.inBlock]); (try simp only [jumpM_goto])
          exact jump_ok (k' := k + 1) ⟨_, _, _, _, _, _, _, _, _, _, _, _, _, _, _, _, _, _, _, _, _, _, _, _, _, _, _, _, _, _, _, _, _, _, _, _, _, _, _, _, _, _, _, _, _, _, _, _, _, _, _, _, _, _, _, _, _, _, _, _, _, rfl⟩ (by decide) HN.out (by omega) (by omega) (Or.inr (Or.inr (Or.inl ⟨rfl, k, ps, ws, rfl, by omega, HO.out, by omega, by omega, HJ.out⟩)))
      · have e0 : ((k : Int) == (t.size : Int)) = true := by rw [beq_iff_eq]; omega
        have HJ : Hid (R = .error (ps.length + 1)) := by unfold Hid; rw [← hsc, drop_end hlt, scan_end (Or.inr hne)]; simp
        clear hsc hne
        go_wp2
        go_step3
        go_wp2
        go_step3
        (try simp only [Exit.then]); (try simp only [Exit.inBlock]); (try simp only [jumpM_goto])
        exact jump_wrong (k' := k) ⟨_, _, _, _, _, _, _, _, _, _, _, _, _, _, _, _, _, _, _, _, _, _, _, _, _, _, _, _, _, _, _, _, _, _, _, _, _, _, _, _, _, _, _, _, _, _, _, _, _, _, _, _, _, _, _, _, _, _, _, _, _, rfl⟩ HN.out hk hk HO.out.1 hpl HO.out.2.2.2.2 HJ.out
    · -- inside
      have HO := hide3 hst
      clear hst
      refine ⟨_, rfl, ?_⟩
      obtain ⟨N, hN⟩ : ∃ N, N = mu4 t 2 a w' := ⟨_, rfl⟩
      rw [← hN]
      rw [mu4_at hF (by decide)] at hN
      have HN := hide3 hN
      clear hN
      obtain ⟨u2, u3, u4, u5, u6, u11, u12, u13, u14, u15, u16, u17, u18, u19, u20, u21, u22, u23, u24, u25, u26, u27, u28, u29, u30, u31, u32, u33, u34, u35, u36, u37, u38, u39, u40, u41, u42, u43, u44, u45, u46, u47, u48, u49, u50, u51, u52, u53, u54, u55, u56, u57, u58, u59, u60, u61, u62, u63, u64, u65, u66, rfl⟩ := hF
      have ef : ((k : Int) == (f : Int)) = false := by rw [beq_eq_false_iff_ne]; omega
      have hcn := cur_ne hk hfk
      by_cases hlt : k < t.size
      · have e0 : ((k : Int) == (t.size : Int)) = false := by rw [beq_eq_false_iff_ne]; omega
        have HW := hide3 (wordByte_any t[k])
        have hd := drop_at hlt
        cases hw : wB t[k]
        · rw [hw] at HW
          by_cases h32 : t[k] = 32
          · have HJ : Hid (scanR (t.data.toList.drop (k + 1)) [] (ws ++ [(t.data.toList.take k).drop f]) (ps.map (·.2)) = R) := by
              unfold Hid
              rw [← hsc, hd, h32, scan_32 hcn]
            have e32 : ((t[k].toNat : Int) == 32) = true := by rw [h32]; rfl
            clear hd hw hsc h32 hcn
            go_wp2_with (first | (go_at_call 40; refine (HW.out _).mono ?_; rintro e wx ⟨rfl, hwx⟩; subst hwx) | (go_at_call 41; refine (HC.out _ (by rw [ByteArray.size_extract]; omega) _).mono ?_; rintro e w1 ⟨rfl, hb1⟩; have HO1 := hide3 (HO.out.below hb1); clear hb1) | (have _h := HO1; at_builtin; refine wpList_append_own_at _ rfl _ _ 44 rfl w.heap.size 9 i0 _ 1 16 Tryd.underlying44 hi hz0 hz1 hz2 rfl (by decide) _ _ _ rfl (HO1.out.2.1.alloc _) ⟨w1.heap.size, 0, none⟩ 1 1 [.string (t.extract f k)] rfl rfl (cell_one_new _ _ _) (by simp [Value.oneCell']) (by unfold maxLen; omega) (by omega) (by have := HO1.out.2.2.2.2.size; simp; omega) ?_; intro v2 w2 hown2 hg2 hnil2 hat2; have HO2 : Hid (St w vl v2 ps (ws ++ [(t.data.toList.take k).drop f]) w2) := St.word _ (HO1.out.below (boxB _ _)) (by rw [ba_extract] at hown2; exact hown2) hg2 hat2; clear hown2 hg2 hnil2 hat2 HO1; obtain ⟨g2, cap2, rfl⟩ := own_form HO2.out.2.1; go_frame))
            go_step3
            (try simp only [Exit.then]); (try simp only [Exit.inBlock]); (try simp only [jumpM_goto])
            exact jump_ok (k' := k + 1) ⟨_, _, _, _, _, _, _, _, _, _, _, _, _, _, _, _, _, _, _, _, _, _, _, _, _, _, _, _, _, _, _, _, _, _, _, _, _, _, _, _, _, _, _, _, _, _, _, _, _, _, _, _, _, _, _, _, _, _, _, _, _, rfl⟩ (by decide) HN.out (by omega) (by omega) (Or.inr (Or.inl ⟨rfl, ps, _, HO2.out, by omega, by simp; omega, by simp, HJ.out⟩))
          · have e32 : ((t[k].toNat : Int) == 32) = false := by rw [beq_eq_false_iff_ne]; intro e; exact h32 (UInt8.toNat_inj.1 (by show t[k].toNat = 32; omega))
            by_cases h10 : t[k] = 10
            · have HJ : Hid (scanR (t.data.toList.drop (k + 1)) [] [] ((ps.map (·.2)) ++ [ws ++ [(t.data.toList.take k).drop f]]) = R) := by
                unfold Hid
                rw [← hsc, hd, h10, scan_10 hcn]
              have e10 : ((t[k].toNat : Int) == 10) = true := by rw [h10]; rfl
              clear hd hw hsc h32 h10 hcn
              go_wp2_with (first | (go_at_call 40; refine (HW.out _).mono ?_; rintro e wx ⟨rfl, hwx⟩; subst hwx) | (go_at_call 41; refine (HC.out _ (by rw [ByteArray.size_extract]; omega) _).mono ?_; rintro e w1 ⟨rfl, hb1⟩; have HO1 := hide3 (HO.out.below hb1); clear hb1) | (have _h := HO1; at_builtin; refine wpList_append_own_at _ rfl _ _ 44 rfl w.heap.size 9 i0 _ 1 16 Tryd.underlying44 hi hz0 hz1 hz2 rfl (by decide) _ _ _ rfl (HO1.out.2.1.alloc _) ⟨w1.heap.size, 0, none⟩ 1 1 [.string (t.extract f k)] rfl rfl (cell_one_new _ _ _) (by simp [Value.oneCell']) (by unfold maxLen; omega) (by omega) (by have := HO1.out.2.2.2.2.size; simp; omega) ?_; intro v2 w2 hown2 hg2 hnil2 hat2; have HO2 : Hid (St w vl v2 ps (ws ++ [(t.data.toList.take k).drop f]) w2) := St.word _ (HO1.out.below (boxB _ _)) (by rw [ba_extract] at hown2; exact hown2) hg2 hat2; clear hown2 hg2 hnil2 hat2 HO1; obtain ⟨g2, cap2, rfl⟩ := own_form HO2.out.2.1; go_frame) | (have _h := HO2; at_builtin; refine wpList_append_own_at _ rfl _ _ 45 rfl w.heap.size 44 i1 _ 1 24 Tryd.underlying45 hj hy0 hy1 hy2 rfl (by decide) _ _ _ rfl (HO2.out.1.1.alloc _) ⟨w2.heap.size, 0, none⟩ 1 1 [.slice (some ⟨g2, 0, none⟩) (ws.length + 1) cap2] rfl rfl (cell_one_new _ _ _) (by intro u hu; rw [List.mem_singleton.1 hu]; exact own_one HO2.out.2.1) (by unfold maxLen; omega) (by omega) (by have := HO2.out.2.2.2.2.size; simp; omega) ?_; intro v3 w3 hown3 hg3 hnil3 hat3; have HO3 : Hid (St w v3 (.slice none 0 0) (ps ++ [(.slice (some ⟨g2, 0, none⟩) (ws.length + 1) cap2, ws ++ [(t.data.toList.take k).drop f])]) [] w3) := St.line (HO2.out.below (boxB _ _)) (by simp) hown3 hg3 hat3; clear hown3 hg3 hnil3 hat3; go_frame))
              go_step3
              (try simp only [Exit.then]); (try simp only [Exit.inBlock]); (try simp only [jumpM_goto])
              exact jump_ok (k' := k + 1) ⟨_, _, _, _, _, _, _, _, _, _, _, _, _, _, _, _, _, _, _, _, _, _, _, _, _, _, _, _, _, _, _, _, _, _, _, _, _, _, _, _, _, _, _, _, _, _, _, _, _, _, _, _, _, _, _, _, _, _, _, _, _, rfl⟩ (by decide) HN.out (by omega) (by omega) (Or.inl ⟨rfl, _, HO3.out, by simp; omega, by rw [List.map_append]; exact HJ.out⟩)
            · have HJ : Hid (R = .error (ps.length + 1)) := by unfold Hid; rw [← hsc, hd, scan_bad hw h32 h10]; simp
              have e10 : ((t[k].toNat : Int) == 10) = false := by rw [beq_eq_false_iff_ne]; intro e; exact h10 (UInt8.toNat_inj.1 (by show t[k].toNat = 10; omega))
              clear hd hw hsc h32 h10 hcn
              go_wp2_with (first | (go_at_call 40; refine (HW.out _).mono ?_; rintro e wx ⟨rfl, hwx⟩; subst hwx) | (go_at_call 41; refine (HC.out _ (by rw [ByteArray.size_extract]; omega) _).mono ?_; rintro e w1 ⟨rfl, hb1⟩; have HO1 := hide3 (HO.out.below hb1); clear hb1) | (have _h := HO1; at_builtin; refine wpList_append_own_at _ rfl _ _ 44 rfl w.heap.size 9 i0 _ 1 16 Tryd.underlying44 hi hz0 hz1 hz2 rfl (by decide) _ _ _ rfl (HO1.out.2.1.alloc _) ⟨w1.heap.size, 0, none⟩ 1 1 [.string (t.extract f k)] rfl rfl (cell_one_new _ _ _) (by simp [Value.oneCell']) (by unfold maxLen; omega) (by omega) (by have := HO1.out.2.2.2.2.size; simp; omega) ?_; intro v2 w2 hown2 hg2 hnil2 hat2; have HO2 : Hid (St w vl v2 ps (ws ++ [(t.data.toList.take k).drop f]) w2) := St.word _ (HO1.out.below (boxB _ _)) (by rw [ba_extract] at hown2; exact hown2) hg2 hat2; clear hown2 hg2 hnil2 hat2 HO1; obtain ⟨g2, cap2, rfl⟩ := own_form HO2.out.2.1; go_frame))
              go_step3
              obtain ⟨ad, cap, rfl⟩ := HO2.out.1.len
              go_wp2
              simp only [jumpM_ret]
              go_ret3
              exact LinesP.no HJ.out HO2.out.2.2.2.2
        · have HJ : Hid (scanR (t.data.toList.drop (k + 1)) ((t.data.toList.take (k + 1)).drop f) ws (ps.map (·.2)) = R) := by
            unfold Hid
            rw [take_at hlt (Nat.le_of_lt hfk), ← hsc, hd, scan_b hw]
          rw [hw] at HW
          clear hd hw hsc hcn
          go_wp2_with (go_at_call 40; refine (HW.out _).mono ?_; rintro e wx ⟨rfl, hwx⟩; subst hwx)
          go_step3
          (try simp only [Exit.then]); (try simp only [Exit.inBlock]); (try simp only [jumpM_goto])
          exact jump_ok (k' := k + 1) ⟨_, _, _, _, _, _, _, _, _, _, _, _, _, _, _, _, _, _, _, _, _, _, _, _, _, _, _, _, _, _, _, _, _, _, _, _, _, _, _, _, _, _, _, _, _, _, _, _, _, _, _, _, _, _, _, _, _, _, _, _, _, rfl⟩ (by decide) HN.out (by omega) (by omega) (Or.inr (Or.inr (Or.inl ⟨rfl, f, ps, ws, rfl, by omega, HO.out, by omega, by omega, HJ.out⟩)))
      · have e0 : ((k : Int) == (t.size : Int)) = true := by rw [beq_iff_eq]; omega
        have HJ : Hid (R = .error (ps.length + 1)) := by unfold Hid; rw [← hsc, drop_end hlt, scan_end (Or.inl hcn)]; simp
        clear hsc hcn
        go_wp2
        go_step3
        (try simp only [Exit.then]); (try simp only [Exit.inBlock]); (try simp only [jumpM_goto])
        exact jump_wrong (k' := k) ⟨_, _, _, _, _, _, _, _, _, _, _, _, _, _, _, _, _, _, _, _, _, _, _, _, _, _, _, _, _, _, _, _, _, _, _, _, _, _, _, _, _, _, _, _, _, _, _, _, _, _, _, _, _, _, _, _, _, _, _, _, _, rfl⟩ HN.out hk hk HO.out.1 hpl HO.out.2.2.2.2 HJ.out
    · -- wrong
      refine ⟨_, rfl, ?_⟩
      obtain ⟨u2, u3, u4, u5, u6, u11, u12, u13, u14, u15, u16, u17, u18, u19, u20, u21, u22, u23, u24, u25, u26, u27, u28, u29, u30, u31, u32, u33, u34, u35, u36, u37, u38, u39, u40, u41, u42, u43, u44, u45, u46, u47, u48, u49, u50, u51, u52, u53, u54, u55, u56, u57, u58, u59, u60, u61, u62, u63, u64, u65, u66, rfl⟩ := hF
      obtain ⟨ad, cap, rfl⟩ := hll.len
      have HR := hide3 hR
      have HB := hide3 hb
      clear hR hb hll
      go_wp2
      simp only [jumpM_ret]
      go_ret3
      exact LinesP.no HR.out HB.out
end Go.Proofs.YtikplmckjcceaaaDoor.Sc
namespace Go.Proofs.YtikplmckjcceaaaDoor.Sc
open Go.RowKit
set_option maxRecDepth 100000

theorem wB_of {b : UInt8} (h : wB b = true) : 33 ≤ b.toNat ∧ b.toNat ≤ 126 := by simpa [wB] using h
theorem wB_no {b : UInt8} (h : wB b = false) : b.toNat < 33 ∨ 126 < b.toNat := by
  simp [wB] at h
  omega
end Go.Proofs.YtikplmckjcceaaaDoor.Sc
namespace Go.Proofs.YtikplmckjcceaaaDoor.Sc
open Go.RowKit
set_option maxRecDepth 100000

theorem cutF_len (b : UInt8) : ∀ (t c : Bs), (cutF b c t).length ≤ t.length + 1
  | [], c => by simp [cutF]
  | x :: r, c => by
    by_cases hx : x = b
    · subst hx; rw [cutF_hit]; have := cutF_len x r []; simp; omega
    · rw [cutF_go hx]; have := cutF_len b r (c ++ [x]); simp; omega
theorem cutF_size (b : UInt8) : ∀ (t c : Bs), ∀ p ∈ cutF b c t, p.length ≤ c.length + t.length
  | [], c, p, hp => by simp [cutF] at hp; subst hp; simp
  | x :: r, c, p, hp => by
    by_cases hx : x = b
    · subst hx
      rw [cutF_hit] at hp
      rcases List.mem_cons.1 hp with rfl | hp
      · simp
      · have := cutF_size x r [] p hp; simp at *; omega
    · rw [cutF_go hx] at hp
      have := cutF_size b r (c ++ [x]) p hp
      simp at *; omega
theorem lineR_isW {s : Bs} : (lineR s).isSome = (cutF 32 [] s).all isW := by unfold lineR; split <;> simp_all
theorem lineR_some {s : Bs} (h : (cutF 32 [] s).all isW = true) : lineR s = some (cutF 32 [] s) := by unfold lineR; rw [if_pos h]
theorem lineR_none {s : Bs} (h : (cutF 32 [] s).all isW = false) : lineR s = none := by unfold lineR; rw [if_neg (by rw [h]; simp)]

def okW (P : List Bs) : List Bs := if P.all isW = true then P else []
theorem okW_yes {P : List Bs} (h : P.all isW = true) : okW P = P := by unfold okW; rw [if_pos h]
theorem okW_no {P : List Bs} (h : P.all isW = false) : okW P = [] := by unfold okW; rw [if_neg (by rw [h]; simp)]

theorem own_some {w : World} {B : Nat} {v : Value} {ws : List Bs} (h : OwnW w B v ws) (hne : ws ≠ []) : ∃ g cap, v = .slice (some ⟨g, 0, none⟩) ws.length cap := by
  rcases h.2 with ⟨_, h0⟩ | ⟨g, cap, cur, rfl, _⟩
  · exact absurd (List.eq_nil_of_length_eq_zero h0) hne
  · exact ⟨g, cap, rfl⟩
theorem row_mono {w : World} {base base' : Nat} {e : TypeId} {size : Nat} {v : Value} {n : Nat} {xs : List Value} (h : w.ownsRow base e size v n xs) (hb : base' ≤ base) : w.ownsRow base' e size v n xs := by
  refine ⟨h.1, ?_⟩
  rcases h.2 with hn | ⟨g, cap, cur, hv, hB, r⟩
  · exact Or.inl hn
  · exact Or.inr ⟨g, cap, cur, hv, Nat.le_trans hb hB, r⟩
theorem LL.base {w : World} {B C : Nat} {vl : Value} {ps : List (Value × List Bs)} (h : LL w B vl ps) (hc : C ≤ B) : LL w C vl ps :=
  ⟨row_mono h.1 hc, fun p hp => ⟨row_mono (h.2.1 p hp).1 hc, (h.2.1 p hp).2⟩, h.2.2.1, h.2.2.2⟩
/-- A list of one's own that came of a call. -/
theorem St.take {w0 : World} {vl vw : Value} {ps : List (Value × List Bs)} {ws : List Bs} {w w' : World} (h : St w0 vl (.slice none 0 0) ps [] w) (ho : OwnW w' w.heap.size vw ws) (hb : Below w.heap.size w w') : St w0 vl vw ps ws w' := by
  obtain ⟨h1, h2, h3, h4, h5⟩ := h
  have hs := h5.size
  refine ⟨h1.below hb, row_mono ho hs, ?_, ?_, below_then h5 hb⟩
  · intro p hp e
    obtain ⟨g, hg⟩ := (h1.2.1 p hp).1.block (h1.2.1 p hp).2
    rw [hg] at e
    have a := (World.ownsRow.lt ho g e).1
    have b := (World.ownsRow.lt (h1.2.1 p hp).1 g hg).2
    omega
  · cases hv : vw.ownBlock with
    | none => exact Or.inl rfl
    | some g =>
      refine Or.inr fun e => ?_
      have a := (World.ownsRow.lt ho g hv).1
      have b := (World.ownsRow.lt h1.1 g e.symm).2
      omega

theorem ref_more {P : List Bs} {k : Nat} (h : k + 1 < P.length) (ls : List (List Bs)) : refR ls (P.drop k) = match lineR (P[k]'(by omega)) with | none => .error (ls.length + 1) | some w => refR (ls ++ [w]) (P.drop (k + 1)) := by
  have h1 : P.drop k = P[k]'(by omega) :: P.drop (k + 1) := List.drop_eq_getElem_cons (by omega)
  have h2 : P.drop (k + 1) = P[k + 1] :: P.drop (k + 1 + 1) := List.drop_eq_getElem_cons h
  rw [h1, h2]
  rfl
theorem ref_last {P : List Bs} {k : Nat} (h : k < P.length) (h2 : ¬ k + 1 < P.length) (ls : List (List Bs)) : refR ls (P.drop k) = if P[k] = [] then .ok ls else .error (ls.length + 1) := by
  have h1 : P.drop k = P[k]'(by omega) :: P.drop (k + 1) := List.drop_eq_getElem_cons (by omega)
  rw [h1, List.drop_of_length_le (by omega : P.length ≤ k + 1)]
  rfl
end Go.Proofs.YtikplmckjcceaaaDoor.Sc
namespace Go.Proofs.YtikplmckjcceaaaDoor.Sc
open Go.RowKit
set_option maxRecDepth 100000

theorem Clone_any (s : ByteArray) (hs : s.size ≤ 281474976710656) (w : World) : Calls Tryd.prog 41 #[.string s] w fun e w' => e = .returned (.string s) ∧ Below w.heap.size w w' := by
  have HC := hide3 (Tryd.stringslite_Clone s w hs)
  go_enter Tryd.func41, Tryd.ntmps41
  go_wp2_with (go_at_call 51; refine HC.out.mono ?_; rintro e w1 ⟨rfl, hb⟩; have HB := hide3 hb; clear hb)
  go_ret
  exact ⟨rfl, HB.out⟩

/-- What both answer, with a bound. -/
def ansE (t : ByteArray) (most : Int) : Int := if most < (t.size : Int) then 25 else linE (scanR t.data.toList [] [] [])
def ansN (t : ByteArray) (most : Int) : Nat := if most < (t.size : Int) then 0 else linN (scanR t.data.toList [] [] [])
def ansL (t : ByteArray) (most : Int) : List (List Bs) := if most < (t.size : Int) then [] else linL (scanR t.data.toList [] [] [])
/-- A new answer. -/
def LinesQ (w : World) (e1 : Int) (n : Nat) (L : List (List Bs)) (e : Ending) (w' : World) : Prop := ∃ v, e = .returned (.tuple #[v, .int .i64 e1, .int .i64 (n : Int)]) ∧ OwnLL w' w.heap.size v L ∧ Below w.heap.size w w'

theorem Lines_far (t : ByteArray) (most : Int) (hm : most < (t.size : Int)) (w : World) : Calls Tryd.prog 24 #[.string t, .int .i64 most] w (LinesQ w 25 0 []) := by
  go_enter Tryd.func24, Tryd.ntmps24
  go_wp2
  go_step3
  go_wp2
  rw [Exit.noGoto_ret]
  go_ret3
  exact ⟨_, rfl, ⟨[], rfl, LL.nil _ _⟩, Below.refl _ _⟩

theorem Lines_any (t : ByteArray) (hs : t.size ≤ 4194304) (most : Int) (w : World) : Calls Tryd.prog 24 #[.string t, .int .i64 most] w (LinesQ w (ansE t most) (ansN t most) (ansL t most)) := by
  unfold ansE ansN ansL
  by_cases h : most < (t.size : Int)
  · rw [if_pos h, if_pos h, if_pos h]; exact Lines_far t most h w
  · rw [if_neg h, if_neg h, if_neg h]; exact Lines_walk t hs most h w (fun s h1 w1 => Clone_any s (by omega) w1)

theorem Lines_len (t : ByteArray) (w : World) (hs : t.size ≤ 4194304) {n : Int} (hn : n = (t.size : Int)) : Calls Tryd.prog 24 #[.string t, .int .i64 n] w (LinesP w (scanR t.data.toList [] [] [])) := by
  subst hn
  exact Lines_walk t hs _ (by omega) w (fun s h1 w1 => Clone_any s (by omega) w1)

/-- Lines of a text are not too many. -/
theorem scan_fits : ∀ (t cur : Bs) (ws : List Bs) (ls L : List (List Bs)) (N : Nat), scanR t cur ws ls = .ok L → ls.length + t.length ≤ N → ws.length + t.length ≤ N → (∀ l ∈ ls, l.length ≤ N) → L.length ≤ N ∧ ∀ l ∈ L, l.length ≤ N
  | [], cur, ws, ls, L, N, h, h1, h2, h3 => by
    unfold scanR at h
    split at h
    · cases h; simp at h1; exact ⟨h1, h3⟩
    · cases h
  | b :: r, cur, ws, ls, L, N, h, h1, h2, h3 => by
    simp only [List.length_cons] at h1 h2
    by_cases hb : wB b = true
    · rw [scan_b hb] at h; exact scan_fits r _ _ _ L N h (by omega) (by omega) h3
    · have hb' : wB b = false := by simpa using hb
      by_cases hc : cur = []
      · subst hc; rw [scan_none hb'] at h; cases h
      · by_cases h32 : b = 32
        · subst h32; rw [scan_32 hc] at h; exact scan_fits r _ _ _ L N h (by omega) (by simp; omega) h3
        · by_cases h10 : b = 10
          · subst h10
            rw [scan_10 hc] at h
            refine scan_fits r _ _ _ L N h (by simp; omega) (by simp; omega) ?_
            intro l hl
            rcases List.mem_append.1 hl with hl | hl
            · exact h3 l hl
            · rw [List.mem_singleton.1 hl]; simp; omega
          · rw [scan_bad hb' h32 h10] at h; cases h
theorem lin_fits (t : ByteArray) : (linL (scanR t.data.toList [] [] [])).length ≤ t.size ∧ ∀ l ∈ linL (scanR t.data.toList [] [] []), l.length ≤ t.size := by
  cases h : scanR t.data.toList [] [] [] with
  | error n => exact ⟨Nat.zero_le _, fun l hl => by cases hl⟩
  | ok L => exact scan_fits _ _ _ _ L t.size h (by rw [list_size]; simp) (by rw [list_size]; simp) (fun l hl => by cases hl)
end Go.Proofs.YtikplmckjcceaaaDoor.Sc
