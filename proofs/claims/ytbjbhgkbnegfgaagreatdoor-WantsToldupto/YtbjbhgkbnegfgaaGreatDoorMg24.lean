/- Wc1, Pn1, Wc2, Wg6, RwB, laid in one text. -/
import Derived.Test.YtbjbhgkbnegfgaaGreatDoorMg23
namespace Go.Proofs.YtbjbhgkbnegfgaaGreatDoor
open Go.RowKit Go.Maps Go.WideMaps
set_option maxRecDepth 100000

def allS : List Sp := allR.map spR
def pP : Pg := ⟨⟨#[112]⟩, 1, 0, 0, [], [⟨⟨#[113]⟩, allS⟩], []⟩
def qP : Pg := ⟨⟨#[113]⟩, 1, 0, 0, [], [], []⟩
def pN : Pn := ⟨⟨#[112]⟩, 1, 0, 0⟩
def qN : Pn := ⟨⟨#[113]⟩, 1, 0, 0⟩
theorem qP_once : onceB qP = true := by
  unfold onceB onceL
  exact @decide_eq_true _ (Classical.propDecidable _) List.nodup_nil
theorem qP_text : textP qP = [112, 97, 99, 107, 97, 103, 101, 32, 113, 32, 49, 46, 48, 46, 48, 10] := by
  unfold textP listT
  rw [show qP.d = [] from rfl, show qP.p = [] from rfl, show qP.o = [] from rfl]
  unfold lineB
  rw [show textV qP.a qP.b qP.c = ⟨#[49, 46, 48, 46, 48]⟩ by decide +kernel]
  rfl
theorem qP_w : writtenB qP = true := by
  unfold writtenB soundB
  rw [qP_once, qP_text]
  decide +kernel
theorem pP_once : onceB pP = true := by
  unfold onceB onceL
  exact @decide_eq_true _ (Classical.propDecidable _) (by
    show ([⟨#[113]⟩] : List ByteArray).Nodup
    exact List.nodup_cons.2 ⟨by simp, List.nodup_nil⟩)
theorem pP_text : (textP pP).length ≤ 4096 := by decide +kernel
theorem pP_w : writtenB pP = true := by
  unfold writtenB soundB
  rw [pP_once, decide_eq_true pP_text]
  decide +kernel
theorem all_inL : inL allS 1 0 0 = true := by decide +kernel
theorem bes_known {L : List CV} {u1 u2 u3 : Value} (h1 : catC L ⟨#[112]⟩ 1 0 0 = some ⟨pP, u1, u2, u3⟩) : besC L [] [qN] ⟨#[112]⟩ 1 0 0 = some [qN] := by
  unfold besC
  rw [h1]
  show besL [] [qN] [⟨⟨#[113]⟩, allS⟩] = some [qN]
  have e : besP [] [qN] ⟨⟨#[113]⟩, allS⟩ = some qN := by
    unfold besP
    rw [show List.find? (isN (⟨⟨#[113]⟩, allS⟩ : Dp).nm) [qN] = some qN from by
      rw [List.find?_cons, show isN ((⟨⟨#[113]⟩, allS⟩ : Dp).nm) qN = true from decide_eq_true rfl]]
    simp only
    rw [show rangeD [] ⟨⟨#[113]⟩, allS⟩ = allS from rfl]
    rw [if_pos (show inL allS qN.a qN.b qN.c = true from all_inL)]
    rfl
  rw [besL_some e]
  rfl
theorem bes_known2 {L : List CV} {u1 u2 u3 : Value} (E : List Pn) (h2 : catC L ⟨#[113]⟩ 1 0 0 = some ⟨qP, u1, u2, u3⟩) : besC L [] E ⟨#[113]⟩ 1 0 0 = some [] := by
  unfold besC
  rw [h2]
  rfl
theorem bes_known0 {L : List CV} {u1 u2 u3 : Value} (h1 : catC L ⟨#[112]⟩ 1 0 0 = some ⟨pP, u1, u2, u3⟩) : besC L [] [] ⟨#[112]⟩ 1 0 0 = none := by
  unfold besC
  rw [h1]
  rfl
theorem ctx_known1 {L : List CV} {u1 u2 u3 v1 v2 v3 : Value} (h1 : catC L ⟨#[112]⟩ 1 0 0 = some ⟨pP, u1, u2, u3⟩) (h2 : catC L ⟨#[113]⟩ 1 0 0 = some ⟨qP, v1, v2, v3⟩) : ctxC L [] [qN] pN = some [qN] := by
  have e1 : ∀ f, ctxF L [] [qN] (f + 1) [pN] [] = ctxF L [] [qN] f ([] ++ freshN [] [qN]) ([] ++ freshN [] [qN]) := fun f => ctxF_some (x := pN) (bes_known h1)
  have ef : freshN [] [qN] = [qN] := rfl
  have e2 : ∀ f, ctxF L [] [qN] (f + 1) [qN] [qN] = ctxF L [] [qN] f ([] ++ freshN [qN] []) ([qN] ++ freshN [qN] []) := fun f => ctxF_some (x := qN) (bes_known2 _ h2)
  have eg : freshN [qN] [] = [] := rfl
  unfold ctxC
  rw [e1 2999, ef, List.nil_append, e2 2998, eg, List.nil_append, List.append_nil, ctxF_nil]
theorem ctx_known0 {L : List CV} {u1 u2 u3 : Value} (h1 : catC L ⟨#[112]⟩ 1 0 0 = some ⟨pP, u1, u2, u3⟩) : ctxC L [] [] pN = none := by
  have e1 : ∀ f, ctxF L [] [] (f + 1) [pN] [] = none := fun f => ctxF_none (x := pN) (bes_known0 h1)
  unfold ctxC
  rw [e1 2999]
theorem pP_key : KeyOk pP.nm pP.a pP.b pP.c := ⟨by decide, by unfold I64; decide, by unfold I64; decide, by unfold I64; decide⟩
theorem qP_key : KeyOk qP.nm qP.a qP.b qP.c := ⟨by decide, by unfold I64; decide, by unfold I64; decide, by unfold I64; decide⟩
theorem qP_at (w : World) : PgAt w qP (.slice none 0 0) (.slice none 0 0) (.slice none 0 0) := ⟨⟨none, 0, rfl, Nat.le_refl _, Or.inl rfl⟩, ⟨none, 0, rfl, Nat.le_refl _, Or.inl rfl⟩, ⟨none, 0, rfl, Nat.le_refl _, Or.inl rfl⟩⟩
theorem sp_none (w : World) : DepsAt w (.slice none 0 0) [] := ⟨none, 0, rfl, Nat.le_refl _, Or.inl rfl⟩
theorem cat_two {w : World} {B C M : Nat} {L : List CV} {x y : CV} (h : CatAt w B C M L) (hp : L.Perm [y, x]) : catC L x.pg.nm x.pg.a x.pg.b x.pg.c = some x ∧ catC L y.pg.nm y.pg.a y.pg.b y.pg.c = some y :=
  ⟨cat_self h.2.2.2 (hp.mem_iff.2 (by simp)), cat_self h.2.2.2 (hp.mem_iff.2 (by simp))⟩
end Go.Proofs.YtbjbhgkbnegfgaaGreatDoor
namespace Go.Proofs.YtbjbhgkbnegfgaaGreatDoor
open Go.RowKit
set_option maxRecDepth 100000

theorem eqInVL (p q r p' q' r' : Int) (w : World) : (Op.equalIn 9999 31 (.agg #[.int .i64 p, .int .i64 q, .int .i64 r]) (.agg #[.int .i64 p', .int .i64 q', .int .i64 r'])).run Tryz.prog w = .ok (decide (p = p') && decide (q = q') && decide (r = r')) w := by
  have u3 := Tryz.underlying3
  have a3 := Tryz.isAgg3
  have z3 := Tryz.sizeOf3
  rw [show (9999 : Nat) = 9998 + 1 from rfl, run_equalIn_agg w 9998 31 _ _ (by kernel_rfl) (by kernel_rfl)]
  simp only [Program.fieldsOf, Tryz.underlying31]
  by_cases h1 : p = p'
  · by_cases h2 : q = q'
    · by_cases h3 : r = r'
      · subst h1 h2 h3; go_simp
      · subst h1 h2; simp only [h3, decide_false, Bool.and_false]; go_simp
    · subst h1; simp only [h2, decide_false, Bool.and_false, Bool.false_and]; go_simp
  · simp only [h1, decide_false, Bool.false_and]; go_simp

def eqPn (p q : Pn) : Bool := decide (p.nm.toList = q.nm.toList) && (decide (p.a = q.a) && decide (p.b = q.b) && decide (p.c = q.c))
theorem eqPn_iff {p q : Pn} : eqPn p q = true ↔ p = q := by
  obtain ⟨s, a, b, c⟩ := p
  obtain ⟨s', a', b', c'⟩ := q
  unfold eqPn
  simp only [Bool.and_eq_true, decide_eq_true_eq, Pn.mk.injEq]
  exact ⟨fun ⟨h1, ⟨h2, h3⟩, h4⟩ => ⟨Sc.bytes_same h1, h2, h3, h4⟩, fun ⟨h1, h2, h3, h4⟩ => ⟨by rw [h1], ⟨h2, h3⟩, h4⟩⟩
theorem guardPn (op : BinOp) (x y : Operand) (xs ys : Array Value) (w : World) : (eqGuard op 95 x y (.agg xs) (.agg ys)).run Tryz.prog w = .ok () w := run_eqGuard_agg w op 95 x y xs ys (by kernel_rfl)
theorem neqPn (p q : Pn) (w : World) : (binOp .neq 95 (.agg #[.string p.nm, .int .i64 p.a, .int .i64 p.b, .int .i64 p.c]) (.agg #[.string q.nm, .int .i64 q.a, .int .i64 q.b, .int .i64 q.c])).run Tryz.prog w = .ok (.bool (!(eqPn p q))) w := by
  obtain ⟨s, a, b, c⟩ := p
  obtain ⟨s', a', b', c'⟩ := q
  have av := Tryz.isAgg31
  have zv := Tryz.sizeOf31
  have u9 := Tryz.underlying9
  have a9 := Tryz.isAgg9
  have z9 := Tryz.sizeOf9
  have h1 := eqInVL a b c a' b' c' w
  rw [run_neq_struct, show (10000 : Nat) = 9999 + 1 from rfl, run_equalIn_agg w 9999 95 _ _ (by kernel_rfl) (by kernel_rfl)]
  simp only [Program.fieldsOf, Tryz.underlying95]
  unfold eqPn
  simp only
  by_cases hs : s.toList = s'.toList
  · obtain rfl := Sc.bytes_same hs
    by_cases hv : a = a' ∧ b = b' ∧ c = c'
    · obtain ⟨rfl, rfl, rfl⟩ := hv
      go_simp
    · have hx : (decide (a = a') && decide (b = b') && decide (c = c')) = false := by
        rw [Bool.eq_false_iff]
        intro e
        simp only [Bool.and_eq_true, decide_eq_true_eq] at e
        exact hv ⟨e.1.1, e.1.2, e.2⟩
      rw [hx]
      go_simp
      intro e1 e2 e3
      exact hv ⟨e1, e2, e3⟩
  · generalize (decide (a = a') && decide (b = b') && decide (c = c')) = xv at *
    simp only [hs, decide_false, Bool.false_and]
    go_simp
theorem eqlPn (p q : Pn) (w : World) : (binOp .eql 95 (.agg #[.string p.nm, .int .i64 p.a, .int .i64 p.b, .int .i64 p.c]) (.agg #[.string q.nm, .int .i64 q.a, .int .i64 q.b, .int .i64 q.c])).run Tryz.prog w = .ok (.bool (eqPn p q)) w := by
  obtain ⟨s, a, b, c⟩ := p
  obtain ⟨s', a', b', c'⟩ := q
  have av := Tryz.isAgg31
  have zv := Tryz.sizeOf31
  have u9 := Tryz.underlying9
  have a9 := Tryz.isAgg9
  have z9 := Tryz.sizeOf9
  have h1 := eqInVL a b c a' b' c' w
  rw [run_eql_struct, show (10000 : Nat) = 9999 + 1 from rfl, run_equalIn_agg w 9999 95 _ _ (by kernel_rfl) (by kernel_rfl)]
  simp only [Program.fieldsOf, Tryz.underlying95]
  unfold eqPn
  simp only
  by_cases hs : s.toList = s'.toList
  · obtain rfl := Sc.bytes_same hs
    by_cases hv : a = a' ∧ b = b' ∧ c = c'
    · obtain ⟨rfl, rfl, rfl⟩ := hv
      go_simp
    · have hx : (decide (a = a') && decide (b = b') && decide (c = c')) = false := by
        rw [Bool.eq_false_iff]
        intro e
        simp only [Bool.and_eq_true, decide_eq_true_eq] at e
        exact hv ⟨e.1.1, e.1.2, e.2⟩
      rw [hx]
      go_simp
      intro e1 e2 e3
      exact hv ⟨e1, e2, e3⟩
  · generalize (decide (a = a') && decide (b = b') && decide (c = c')) = xv at *
    simp only [hs, decide_false, Bool.false_and]
    go_simp

end Go.Proofs.YtbjbhgkbnegfgaaGreatDoor
namespace Go.Proofs.YtbjbhgkbnegfgaaGreatDoor
open Go.RowKit Go.Maps Go.WideMaps
set_option maxRecDepth 100000

theorem pn_one {w : World} {B : Nat} {v : Value} {p : Pn} (h : OwnPn w B v [p]) : ∃ g cap, v = .slice (some ⟨g, 0, none⟩) 1 cap ∧ PnIn w g 0 p := by
  obtain ⟨g, cap, _, _, e, _, hp⟩ := pn_cells h 0 (by simp)
  exact ⟨g, cap, e, by simpa using hp⟩

set_option maxHeartbeats 12800000 in
theorem known_wa {w : World} (he : Env w) (hf : FL w) : Calls Tryz.prog 38 #[] w fun e w' => e = .returned (.bool true) ∧ Below w.heap.size w w' := by
  have hs0 : (w.alloc (.cells #[.int .i64 1, .int .i64 0, .int .i64 0] 31)).heap.size = w.heap.size + 1 := by simp
  have HNW : Hid (Calls Tryz.prog 11 #[] (w.alloc (.cells #[.int .i64 1, .int .i64 0, .int .i64 0] 31)) fun e w' => e = .returned (.pointer (some ⟨w.heap.size + 2, 0, none⟩)) ∧ w' = (((w.alloc (.cells #[.int .i64 1, .int .i64 0, .int .i64 0] 31)).alloc (.map #[] 0)).alloc (.cells #[.map (some (w.heap.size + 1))] 98))) := by
    have e := new_any (w.alloc (.cells #[.int .i64 1, .int .i64 0, .int .i64 0] 31))
    rw [hs0] at e
    exact e
  have HC0 : Hid (CatAt (((w.alloc (.cells #[.int .i64 1, .int .i64 0, .int .i64 0] 31)).alloc (.map #[] 0)).alloc (.cells #[.map (some (w.heap.size + 1))] 98)) w.heap.size (w.heap.size + 2) (w.heap.size + 1) []) := by
    have e := CatAt.new (w.alloc (.cells #[.int .i64 1, .int .i64 0, .int .i64 0] 31)) w.heap.size
    rw [hs0] at e
    exact e
  have HB0 : Hid (Below w.heap.size w (((w.alloc (.cells #[.int .i64 1, .int .i64 0, .int .i64 0] 31)).alloc (.map #[] 0)).alloc (.cells #[.map (some (w.heap.size + 1))] 98))) := below_then (boxB _ _) (boxB2 _ _ _)
  have HK0 : Hid ((CatAt (((w.alloc (.cells #[.int .i64 1, .int .i64 0, .int .i64 0] 31)).alloc (.map #[] 0)).alloc (.cells #[.map (some (w.heap.size + 1))] 98)) w.heap.size (w.heap.size + 2) (w.heap.size + 1) [] ∧ Below w.heap.size w (((w.alloc (.cells #[.int .i64 1, .int .i64 0, .int .i64 0] 31)).alloc (.map #[] 0)).alloc (.cells #[.map (some (w.heap.size + 1))] 98))) ∧ (((((w.alloc (.cells #[.int .i64 1, .int .i64 0, .int .i64 0] 31)).alloc (.map #[] 0)).alloc (.cells #[.map (some (w.heap.size + 1))] 98)).cell? ⟨w.heap.size, 0, none⟩ = some (.int .i64 1) ∧ (((w.alloc (.cells #[.int .i64 1, .int .i64 0, .int .i64 0] 31)).alloc (.map #[] 0)).alloc (.cells #[.map (some (w.heap.size + 1))] 98)).cell? ⟨w.heap.size, 1, none⟩ = some (.int .i64 0) ∧ (((w.alloc (.cells #[.int .i64 1, .int .i64 0, .int .i64 0] 31)).alloc (.map #[] 0)).alloc (.cells #[.map (some (w.heap.size + 1))] 98)).cell? ⟨w.heap.size, 2, none⟩ = some (.int .i64 0)) ∧ w.heap.size < (((w.alloc (.cells #[.int .i64 1, .int .i64 0, .int .i64 0] 31)).alloc (.map #[] 0)).alloc (.cells #[.map (some (w.heap.size + 1))] 98)).heap.size)) := ⟨⟨HC0.out, HB0.out⟩, ⟨((boxB2 (w.alloc (.cells #[.int .i64 1, .int .i64 0, .int .i64 0] 31)) _ _).cell (p := ⟨w.heap.size, 0, none⟩) (by simp)).trans (by simp), ((boxB2 (w.alloc (.cells #[.int .i64 1, .int .i64 0, .int .i64 0] 31)) _ _).cell (p := ⟨w.heap.size, 1, none⟩) (by simp)).trans (by simp), ((boxB2 (w.alloc (.cells #[.int .i64 1, .int .i64 0, .int .i64 0] 31)) _ _).cell (p := ⟨w.heap.size, 2, none⟩) (by simp)).trans (by simp)⟩, Nat.lt_of_lt_of_le (by simp) (boxB2 (w.alloc (.cells #[.int .i64 1, .int .i64 0, .int .i64 0] 31)) _ _).size⟩
  have HKE : Hid (∀ a b (L : List CV), ((CatAt a w.heap.size (w.heap.size + 2) (w.heap.size + 1) L ∧ Below w.heap.size w a) ∧ ((a.cell? ⟨w.heap.size, 0, none⟩ = some (.int .i64 1) ∧ a.cell? ⟨w.heap.size, 1, none⟩ = some (.int .i64 0) ∧ a.cell? ⟨w.heap.size, 2, none⟩ = some (.int .i64 0)) ∧ w.heap.size < a.heap.size)) → Below a.heap.size a b → (CatAt b w.heap.size (w.heap.size + 2) (w.heap.size + 1) L ∧ Below w.heap.size w b) ∧ ((b.cell? ⟨w.heap.size, 0, none⟩ = some (.int .i64 1) ∧ b.cell? ⟨w.heap.size, 1, none⟩ = some (.int .i64 0) ∧ b.cell? ⟨w.heap.size, 2, none⟩ = some (.int .i64 0)) ∧ w.heap.size < b.heap.size)) := fun a b L hx hab => ⟨⟨hx.1.1.below hab, below_then hx.1.2 hab⟩, ⟨(hab.cell (p := ⟨w.heap.size, 0, none⟩) hx.2.2).trans hx.2.1.1, (hab.cell (p := ⟨w.heap.size, 1, none⟩) hx.2.2).trans hx.2.1.2.1, (hab.cell (p := ⟨w.heap.size, 2, none⟩) hx.2.2).trans hx.2.1.2.2⟩, Nat.lt_of_lt_of_le hx.2.2 hab.size⟩
  have HKG : Hid (∀ a b (L L' : List CV), ((CatAt a w.heap.size (w.heap.size + 2) (w.heap.size + 1) L ∧ Below w.heap.size w a) ∧ ((a.cell? ⟨w.heap.size, 0, none⟩ = some (.int .i64 1) ∧ a.cell? ⟨w.heap.size, 1, none⟩ = some (.int .i64 0) ∧ a.cell? ⟨w.heap.size, 2, none⟩ = some (.int .i64 0)) ∧ w.heap.size < a.heap.size)) → a.grownBy b (some (w.heap.size + 1)) → CatAt b w.heap.size (w.heap.size + 2) (w.heap.size + 1) L' → (CatAt b w.heap.size (w.heap.size + 2) (w.heap.size + 1) L' ∧ Below w.heap.size w b) ∧ ((b.cell? ⟨w.heap.size, 0, none⟩ = some (.int .i64 1) ∧ b.cell? ⟨w.heap.size, 1, none⟩ = some (.int .i64 0) ∧ b.cell? ⟨w.heap.size, 2, none⟩ = some (.int .i64 0)) ∧ w.heap.size < b.heap.size)) := fun a b L L' hx hg hc => by
    have q : ∀ j, b.cell? ⟨w.heap.size, j, none⟩ = a.cell? ⟨w.heap.size, j, none⟩ := fun j => World.cell?_of_block (a := ⟨w.heap.size, j, none⟩) (hg.block w.heap.size hx.2.2 (fun q => by have := Option.some.inj q; omega))
    exact ⟨⟨hc, hx.1.2.grown hg hx.1.2.size (fun j hj => by cases hj; omega)⟩, ⟨(q 0).trans hx.2.1.1, (q 1).trans hx.2.1.2.1, (q 2).trans hx.2.1.2.2⟩, Nat.lt_of_lt_of_le hx.2.2 hg.size⟩
  have HAL : Hid (∀ W, Calls Tryz.prog 54 #[] W fun e w' => ∃ a3 n3 c3, e = .returned (.slice a3 n3 c3) ∧ (SpansC w' (.slice a3 n3 c3) allS ∧ allS.length ≤ 9223372036854775807) ∧ Below W.heap.size W w') := fun W => (rAll_rg W).mono (by
    rintro e w' ⟨v, rfl, hv, hb⟩
    have hv2 := hv.at
    obtain ⟨a3, c3, e3, hle, _⟩ := hv
    subst e3
    exact ⟨a3, _, c3, rfl, ⟨⟨hv2, _, _, _, rfl, hle⟩, by decide⟩, hb⟩)
  have HP1 : Hid (∀ W a3 n3 c3, ((CatAt W w.heap.size (w.heap.size + 2) (w.heap.size + 1) [] ∧ Below w.heap.size w W) ∧ ((W.cell? ⟨w.heap.size, 0, none⟩ = some (.int .i64 1) ∧ W.cell? ⟨w.heap.size, 1, none⟩ = some (.int .i64 0) ∧ W.cell? ⟨w.heap.size, 2, none⟩ = some (.int .i64 0)) ∧ w.heap.size < W.heap.size)) → SpansC W (.slice a3 n3 c3) allS ∧ allS.length ≤ 9223372036854775807 → Calls Tryz.prog 14 #[.pointer (some ⟨w.heap.size + 2, 0, none⟩), .agg #[.string ⟨#[112]⟩, .int .i64 1, .int .i64 0, .int .i64 0, .slice none 0 0, .slice (some ⟨W.heap.size, 0, none⟩) 1 1, .slice none 0 0]] (W.alloc (.cells #[.string ⟨#[113]⟩, .slice a3 n3 c3] 62)) fun e w' => ∃ r u1 u2 u3, e = .returned (.int .i64 r) ∧ ((CatAt w' w.heap.size (w.heap.size + 2) (w.heap.size + 1) [⟨pP, u1, u2, u3⟩] ∧ Below w.heap.size w w') ∧ ((w'.cell? ⟨w.heap.size, 0, none⟩ = some (.int .i64 1) ∧ w'.cell? ⟨w.heap.size, 1, none⟩ = some (.int .i64 0) ∧ w'.cell? ⟨w.heap.size, 2, none⟩ = some (.int .i64 0)) ∧ w.heap.size < w'.heap.size))) := fun W a3 n3 c3 hk hs => by
    have hk2 := HKE.out _ _ _ hk (boxB W (.cells #[.string ⟨#[113]⟩, .slice a3 n3 c3] 62))
    have hd : DepsAt (W.alloc (.cells #[.string ⟨#[113]⟩, .slice a3 n3 c3] 62)) (.slice (some ⟨W.heap.size, 0, none⟩) 1 1) pP.p := ⟨some ⟨W.heap.size, 0, none⟩, 1, rfl, Nat.le_refl _, Or.inr ⟨W.heap.size, 0, rfl, by simp, fun i hi => by
      obtain rfl : i = 0 := by have h2 : i < 1 := hi; omega
      exact ⟨.slice a3 n3 c3, by simp [pP], by simp, ⟨⟨hs.1.1.below (boxB _ _), hs.1.2⟩, hs.2⟩, by simp⟩⟩⟩
    refine (put_ok (P := pP) hk2.1.1 ⟨sp_none _, hd, sp_none _⟩ (he.below hk2.1.2) (hf.below hk2.1.2) hk2.1.2.size pP_key pP_w rfl (by decide)).mono ?_
    rintro e w' ⟨rfl, u1, u2, u3, L', hp, hc, hg⟩
    exact ⟨_, u1, u2, u3, rfl, HKG.out _ _ _ _ hk2 hg (cat_one hp hc)⟩
  have HP2 : Hid (∀ W u1 u2 u3, ((CatAt W w.heap.size (w.heap.size + 2) (w.heap.size + 1) [⟨pP, u1, u2, u3⟩] ∧ Below w.heap.size w W) ∧ ((W.cell? ⟨w.heap.size, 0, none⟩ = some (.int .i64 1) ∧ W.cell? ⟨w.heap.size, 1, none⟩ = some (.int .i64 0) ∧ W.cell? ⟨w.heap.size, 2, none⟩ = some (.int .i64 0)) ∧ w.heap.size < W.heap.size)) → Calls Tryz.prog 14 #[.pointer (some ⟨w.heap.size + 2, 0, none⟩), .agg #[.string ⟨#[113]⟩, .int .i64 1, .int .i64 0, .int .i64 0, .slice none 0 0, .slice none 0 0, .slice none 0 0]] W fun e w' => ∃ r v1 v2 v3 L', e = .returned (.int .i64 r) ∧ L'.Perm [⟨qP, v1, v2, v3⟩, ⟨pP, u1, u2, u3⟩] ∧ ((CatAt w' w.heap.size (w.heap.size + 2) (w.heap.size + 1) L' ∧ Below w.heap.size w w') ∧ ((w'.cell? ⟨w.heap.size, 0, none⟩ = some (.int .i64 1) ∧ w'.cell? ⟨w.heap.size, 1, none⟩ = some (.int .i64 0) ∧ w'.cell? ⟨w.heap.size, 2, none⟩ = some (.int .i64 0)) ∧ w.heap.size < w'.heap.size))) := fun W u1 u2 u3 hk => by
    refine (put_ok (P := qP) hk.1.1 (qP_at _) (he.below hk.1.2) (hf.below hk.1.2) hk.1.2.size qP_key qP_w rfl (by simp)).mono ?_
    rintro e w' ⟨rfl, v1, v2, v3, L', hp, hc, hg⟩
    exact ⟨_, v1, v2, v3, L', rfl, hp, HKG.out _ _ _ _ hk hg hc⟩
  have HX1 : Hid (∀ W L u1 u2 u3 v1 v2 v3 bq, ((CatAt W w.heap.size (w.heap.size + 2) (w.heap.size + 1) L ∧ Below w.heap.size w W) ∧ ((W.cell? ⟨w.heap.size, 0, none⟩ = some (.int .i64 1) ∧ W.cell? ⟨w.heap.size, 1, none⟩ = some (.int .i64 0) ∧ W.cell? ⟨w.heap.size, 2, none⟩ = some (.int .i64 0)) ∧ w.heap.size < W.heap.size)) → L.Perm [⟨qP, v1, v2, v3⟩, ⟨pP, u1, u2, u3⟩] → PinsAt W (.slice (some ⟨bq, 0, none⟩) 1 1) [qN] → Calls Tryz.prog 78 #[.pointer (some ⟨w.heap.size + 2, 0, none⟩), .agg #[.slice none 0 0, .slice none 0 0, .slice none 0 0, .slice none 0 0], .slice (some ⟨bq, 0, none⟩) 1 1, .agg #[.string ⟨#[112]⟩, .int .i64 1, .int .i64 0, .int .i64 0]] W fun e w' => ∃ gc cc, e = .returned (.tuple #[.slice (some ⟨gc, 0, none⟩) 1 cc, .bool true]) ∧ PnIn w' gc 0 qN ∧ Below W.heap.size W w') := fun W L u1 u2 u3 v1 v2 v3 bq hk hp hq => by
    obtain ⟨h1, h2⟩ := cat_two hk.1.1 hp
    have e := ctx_any (x1 := none) (x2 := none) (x3 := none) (y1 := 0) (y2 := 0) (y3 := 0) (z1 := 0) (z2 := 0) (z3 := 0) hk.1.1 (by rw [hp.length_eq]; simp) (sp_none W) (by decide) (fun d hd => by cases hd) hq (by decide) (fun q hq => by rw [List.mem_singleton.1 hq]; decide) (fun q hq => by rw [List.mem_singleton.1 hq]; exact ⟨by unfold I64; decide, by unfold I64; decide, by unfold I64; decide⟩) pN pP_key
    rw [ctx_known1 h1 h2] at e
    refine e.mono ?_
    rintro e w' ⟨_, h3, h4⟩
    obtain ⟨v, ts, rfl, ⟨h5, _, _⟩, h6⟩ := h3 _ rfl
    rw [List.perm_singleton.1 h5] at h6
    obtain ⟨gc, cc, rfl, h7⟩ := pn_one h6
    exact ⟨gc, cc, rfl, h7, h4⟩
  have HX0 : Hid (∀ W L u1 u2 u3 v1 v2 v3, ((CatAt W w.heap.size (w.heap.size + 2) (w.heap.size + 1) L ∧ Below w.heap.size w W) ∧ ((W.cell? ⟨w.heap.size, 0, none⟩ = some (.int .i64 1) ∧ W.cell? ⟨w.heap.size, 1, none⟩ = some (.int .i64 0) ∧ W.cell? ⟨w.heap.size, 2, none⟩ = some (.int .i64 0)) ∧ w.heap.size < W.heap.size)) → L.Perm [⟨qP, v1, v2, v3⟩, ⟨pP, u1, u2, u3⟩] → Calls Tryz.prog 78 #[.pointer (some ⟨w.heap.size + 2, 0, none⟩), .agg #[.slice none 0 0, .slice none 0 0, .slice none 0 0, .slice none 0 0], .slice none 0 0, .agg #[.string ⟨#[112]⟩, .int .i64 1, .int .i64 0, .int .i64 0]] W fun e w' => e = .returned (.tuple #[.slice none 0 0, .bool false]) ∧ Below W.heap.size W w') := fun W L u1 u2 u3 v1 v2 v3 hk hp => by
    obtain ⟨h1, h2⟩ := cat_two hk.1.1 hp
    have e := ctx_any (x1 := none) (x2 := none) (x3 := none) (y1 := 0) (y2 := 0) (y3 := 0) (z1 := 0) (z2 := 0) (z3 := 0) (E := []) (ve := .slice none 0 0) hk.1.1 (by rw [hp.length_eq]; simp) (sp_none W) (by decide) (fun d hd => by cases hd) ⟨none, 0, rfl, Nat.le_refl _, Or.inl rfl⟩ (by decide) (fun q hq => by cases hq) (fun q hq => by cases hq) pN pP_key
    rw [ctx_known0 h1] at e
    exact e.mono fun e w' h => ⟨h.1 rfl, h.2.2⟩
  have hep : ∀ W, (binOp .eql 95 (.agg #[.string ⟨#[113]⟩, .int .i64 1, .int .i64 0, .int .i64 0]) (.agg #[.string ⟨#[113]⟩, .int .i64 1, .int .i64 0, .int .i64 0])).run Tryz.prog W = .ok (.bool true) W := fun W => by
    have e := eqlPn qN qN W
    rw [show eqPn qN qN = true from eqPn_iff.2 rfl] at e
    exact e
  have hgp := guardPn
  clear hs0 HC0
  go_enter Tryz.func38, Tryz.ntmps38
  go_wp2_with (go_at_call 11; refine HNW.out.mono ?_; rintro e w1 ⟨rfl, rfl⟩; clear HNW)
  generalize (((w.alloc (.cells #[.int .i64 1, .int .i64 0, .int .i64 0] 31)).alloc (.map #[] 0)).alloc (.cells #[.map (some (w.heap.size + 1))] 98)) = W at *
  have HKD := hide3 (HKE.out _ _ _ HK0.out (Below.refl _ _).drew)
  obtain ⟨v0, v1', v2'⟩ := HK0.out.2.1
  go_region_held3 (fun w' => w'.cell? ⟨w.heap.size, 0, none⟩ = some (.int .i64 1) ∧ w'.cell? ⟨w.heap.size, 1, none⟩ = some (.int .i64 0) ∧ w'.cell? ⟨w.heap.size, 2, none⟩ = some (.int .i64 0)) (go_keep) (first
    | (go_at_call 14; refine (HP1.out _ _ _ _ HK3.out HS3.out).mono ?_; rintro e w4 ⟨r4, u1, u2, u3, rfl, hk4⟩; have HK4 := hide3 hk4; obtain ⟨t0, t1, t2⟩ := hk4.2.1; clear hk4)
    | (go_at_call 54; refine (HAL.out _).mono ?_; rintro e w3 ⟨a3, n3, c3, rfl, hs3, hb3⟩; have HS3 := hide3 hs3; have HK3 := hide3 (HKE.out _ _ _ HKD.out hb3); obtain ⟨s0, s1, s2⟩ := HK3.out.2.1; have hlt3 := HK3.out.2.2; clear hs3 hb3))
  go_wp2_with (first
    | (go_at_call 14; refine (HP2.out _ _ _ _ HK4.out).mono ?_; rintro e w5 ⟨r5, x1, x2, x3, L, rfl, hpm, hk5⟩; have HK5 := hide3 hk5; have HPM := hide3 hpm; obtain ⟨q0, q1, q2⟩ := hk5.2.1; have hk5l := hk5.2.2; have z0 := ((boxB w5 (.cells #[.string ⟨#[112]⟩, .int .i64 1, .int .i64 0, .int .i64 0] 95)).cell (p := ⟨w.heap.size, 0, none⟩) hk5l).trans q0; have z1 := ((boxB w5 (.cells #[.string ⟨#[112]⟩, .int .i64 1, .int .i64 0, .int .i64 0] 95)).cell (p := ⟨w.heap.size, 1, none⟩) hk5l).trans q1; have z2 := ((boxB w5 (.cells #[.string ⟨#[112]⟩, .int .i64 1, .int .i64 0, .int .i64 0] 95)).cell (p := ⟨w.heap.size, 2, none⟩) hk5l).trans q2; have HB7 : Hid (Below w5.heap.size w5 (((w5.alloc (.cells #[.string ⟨#[112]⟩, .int .i64 1, .int .i64 0, .int .i64 0] 95)).alloc (.cells #[.string ⟨#[113]⟩, .int .i64 1, .int .i64 0, .int .i64 0] 95)).alloc (.cells #[.string ⟨#[113]⟩, .int .i64 1, .int .i64 0, .int .i64 0] 95))) := below_then (boxB2 _ _ _) (boxB _ _); have HK7 : Hid ((CatAt (((w5.alloc (.cells #[.string ⟨#[112]⟩, .int .i64 1, .int .i64 0, .int .i64 0] 95)).alloc (.cells #[.string ⟨#[113]⟩, .int .i64 1, .int .i64 0, .int .i64 0] 95)).alloc (.cells #[.string ⟨#[113]⟩, .int .i64 1, .int .i64 0, .int .i64 0] 95)) w.heap.size (w.heap.size + 2) (w.heap.size + 1) L ∧ Below w.heap.size w (((w5.alloc (.cells #[.string ⟨#[112]⟩, .int .i64 1, .int .i64 0, .int .i64 0] 95)).alloc (.cells #[.string ⟨#[113]⟩, .int .i64 1, .int .i64 0, .int .i64 0] 95)).alloc (.cells #[.string ⟨#[113]⟩, .int .i64 1, .int .i64 0, .int .i64 0] 95))) ∧ (((((w5.alloc (.cells #[.string ⟨#[112]⟩, .int .i64 1, .int .i64 0, .int .i64 0] 95)).alloc (.cells #[.string ⟨#[113]⟩, .int .i64 1, .int .i64 0, .int .i64 0] 95)).alloc (.cells #[.string ⟨#[113]⟩, .int .i64 1, .int .i64 0, .int .i64 0] 95)).cell? ⟨w.heap.size, 0, none⟩ = some (.int .i64 1) ∧ (((w5.alloc (.cells #[.string ⟨#[112]⟩, .int .i64 1, .int .i64 0, .int .i64 0] 95)).alloc (.cells #[.string ⟨#[113]⟩, .int .i64 1, .int .i64 0, .int .i64 0] 95)).alloc (.cells #[.string ⟨#[113]⟩, .int .i64 1, .int .i64 0, .int .i64 0] 95)).cell? ⟨w.heap.size, 1, none⟩ = some (.int .i64 0) ∧ (((w5.alloc (.cells #[.string ⟨#[112]⟩, .int .i64 1, .int .i64 0, .int .i64 0] 95)).alloc (.cells #[.string ⟨#[113]⟩, .int .i64 1, .int .i64 0, .int .i64 0] 95)).alloc (.cells #[.string ⟨#[113]⟩, .int .i64 1, .int .i64 0, .int .i64 0] 95)).cell? ⟨w.heap.size, 2, none⟩ = some (.int .i64 0)) ∧ w.heap.size < (((w5.alloc (.cells #[.string ⟨#[112]⟩, .int .i64 1, .int .i64 0, .int .i64 0] 95)).alloc (.cells #[.string ⟨#[113]⟩, .int .i64 1, .int .i64 0, .int .i64 0] 95)).alloc (.cells #[.string ⟨#[113]⟩, .int .i64 1, .int .i64 0, .int .i64 0] 95)).heap.size)) := HKE.out _ _ _ hk5 HB7.out; have HPI : Hid (PinsAt (((w5.alloc (.cells #[.string ⟨#[112]⟩, .int .i64 1, .int .i64 0, .int .i64 0] 95)).alloc (.cells #[.string ⟨#[113]⟩, .int .i64 1, .int .i64 0, .int .i64 0] 95)).alloc (.cells #[.string ⟨#[113]⟩, .int .i64 1, .int .i64 0, .int .i64 0] 95)) (.slice (some ⟨w5.heap.size + 1 + 1, 0, none⟩) 1 1) [qN]) := ⟨some ⟨w5.heap.size + 1 + 1, 0, none⟩, 1, rfl, Nat.le_refl _, Or.inr ⟨w5.heap.size + 1 + 1, 0, rfl, by simp, fun i hi => (by obtain rfl : i = 0 := (by have h2 : i < 1 := hi; omega); exact ⟨⟨(new_cell (by simp) rfl).1, (new_cell (by simp) rfl).1, (new_cell (by simp) rfl).1, (new_cell (by simp) rfl).1⟩, by simp⟩)⟩⟩; have hpb : w5.heap.size < (((w5.alloc (.cells #[.string ⟨#[112]⟩, .int .i64 1, .int .i64 0, .int .i64 0] 95)).alloc (.cells #[.string ⟨#[113]⟩, .int .i64 1, .int .i64 0, .int .i64 0] 95)).alloc (.cells #[.string ⟨#[113]⟩, .int .i64 1, .int .i64 0, .int .i64 0] 95)).heap.size := (by simp; omega); have hqb : w5.heap.size + 1 < (((w5.alloc (.cells #[.string ⟨#[112]⟩, .int .i64 1, .int .i64 0, .int .i64 0] 95)).alloc (.cells #[.string ⟨#[113]⟩, .int .i64 1, .int .i64 0, .int .i64 0] 95)).alloc (.cells #[.string ⟨#[113]⟩, .int .i64 1, .int .i64 0, .int .i64 0] 95)).heap.size := (by simp); have y0 : (((w5.alloc (.cells #[.string ⟨#[112]⟩, .int .i64 1, .int .i64 0, .int .i64 0] 95)).alloc (.cells #[.string ⟨#[113]⟩, .int .i64 1, .int .i64 0, .int .i64 0] 95)).alloc (.cells #[.string ⟨#[113]⟩, .int .i64 1, .int .i64 0, .int .i64 0] 95)).cell? ⟨w5.heap.size, 0, none⟩ = some (.string ⟨#[112]⟩) := ((boxB2 _ _ _).cell (p := ⟨w5.heap.size, 0, none⟩) (by simp)).trans (new_cell rfl rfl).1; have y1 : (((w5.alloc (.cells #[.string ⟨#[112]⟩, .int .i64 1, .int .i64 0, .int .i64 0] 95)).alloc (.cells #[.string ⟨#[113]⟩, .int .i64 1, .int .i64 0, .int .i64 0] 95)).alloc (.cells #[.string ⟨#[113]⟩, .int .i64 1, .int .i64 0, .int .i64 0] 95)).cell? ⟨w5.heap.size, 1, none⟩ = some (.int .i64 1) := ((boxB2 _ _ _).cell (p := ⟨w5.heap.size, 1, none⟩) (by simp)).trans (new_cell rfl rfl).1; have y2 : (((w5.alloc (.cells #[.string ⟨#[112]⟩, .int .i64 1, .int .i64 0, .int .i64 0] 95)).alloc (.cells #[.string ⟨#[113]⟩, .int .i64 1, .int .i64 0, .int .i64 0] 95)).alloc (.cells #[.string ⟨#[113]⟩, .int .i64 1, .int .i64 0, .int .i64 0] 95)).cell? ⟨w5.heap.size, 2, none⟩ = some (.int .i64 0) := ((boxB2 _ _ _).cell (p := ⟨w5.heap.size, 2, none⟩) (by simp)).trans (new_cell rfl rfl).1; have y3 : (((w5.alloc (.cells #[.string ⟨#[112]⟩, .int .i64 1, .int .i64 0, .int .i64 0] 95)).alloc (.cells #[.string ⟨#[113]⟩, .int .i64 1, .int .i64 0, .int .i64 0] 95)).alloc (.cells #[.string ⟨#[113]⟩, .int .i64 1, .int .i64 0, .int .i64 0] 95)).cell? ⟨w5.heap.size, 3, none⟩ = some (.int .i64 0) := ((boxB2 _ _ _).cell (p := ⟨w5.heap.size, 3, none⟩) (by simp)).trans (new_cell rfl rfl).1; have x0 : (((w5.alloc (.cells #[.string ⟨#[112]⟩, .int .i64 1, .int .i64 0, .int .i64 0] 95)).alloc (.cells #[.string ⟨#[113]⟩, .int .i64 1, .int .i64 0, .int .i64 0] 95)).alloc (.cells #[.string ⟨#[113]⟩, .int .i64 1, .int .i64 0, .int .i64 0] 95)).cell? ⟨w5.heap.size + 1, 0, none⟩ = some (.string ⟨#[113]⟩) := ((boxB _ _).cell (p := ⟨w5.heap.size + 1, 0, none⟩) (by simp)).trans (new_cell (by simp) rfl).1; have x1' : (((w5.alloc (.cells #[.string ⟨#[112]⟩, .int .i64 1, .int .i64 0, .int .i64 0] 95)).alloc (.cells #[.string ⟨#[113]⟩, .int .i64 1, .int .i64 0, .int .i64 0] 95)).alloc (.cells #[.string ⟨#[113]⟩, .int .i64 1, .int .i64 0, .int .i64 0] 95)).cell? ⟨w5.heap.size + 1, 1, none⟩ = some (.int .i64 1) := ((boxB _ _).cell (p := ⟨w5.heap.size + 1, 1, none⟩) (by simp)).trans (new_cell (by simp) rfl).1; have x2' : (((w5.alloc (.cells #[.string ⟨#[112]⟩, .int .i64 1, .int .i64 0, .int .i64 0] 95)).alloc (.cells #[.string ⟨#[113]⟩, .int .i64 1, .int .i64 0, .int .i64 0] 95)).alloc (.cells #[.string ⟨#[113]⟩, .int .i64 1, .int .i64 0, .int .i64 0] 95)).cell? ⟨w5.heap.size + 1, 2, none⟩ = some (.int .i64 0) := ((boxB _ _).cell (p := ⟨w5.heap.size + 1, 2, none⟩) (by simp)).trans (new_cell (by simp) rfl).1; have x3' : (((w5.alloc (.cells #[.string ⟨#[112]⟩, .int .i64 1, .int .i64 0, .int .i64 0] 95)).alloc (.cells #[.string ⟨#[113]⟩, .int .i64 1, .int .i64 0, .int .i64 0] 95)).alloc (.cells #[.string ⟨#[113]⟩, .int .i64 1, .int .i64 0, .int .i64 0] 95)).cell? ⟨w5.heap.size + 1, 3, none⟩ = some (.int .i64 0) := ((boxB _ _).cell (p := ⟨w5.heap.size + 1, 3, none⟩) (by simp)).trans (new_cell (by simp) rfl).1; clear hk5 hpm t0 t1 t2)
    | (have _t := HPI; go_at_call 78; refine (HX1.out _ _ _ _ _ _ _ _ _ HK7.out HPM.out HPI.out).mono ?_; rintro e w8 ⟨gc, cc, rfl, ⟨⟨g0, g1, g2, g3⟩, hgc⟩, hb8⟩; have HK8 := hide3 (HKE.out _ _ _ HK7.out hb8); have p0 := (hb8.cell (p := ⟨w5.heap.size, 0, none⟩) hpb).trans y0; have p1 := (hb8.cell (p := ⟨w5.heap.size, 1, none⟩) hpb).trans y1; have p2 := (hb8.cell (p := ⟨w5.heap.size, 2, none⟩) hpb).trans y2; have p3 := (hb8.cell (p := ⟨w5.heap.size, 3, none⟩) hpb).trans y3; have hqb8 := Nat.lt_of_lt_of_le hqb hb8.size; have f0 := (hb8.cell (p := ⟨w5.heap.size + 1, 0, none⟩) hqb).trans x0; have f1 := (hb8.cell (p := ⟨w5.heap.size + 1, 1, none⟩) hqb).trans x1'; have f2 := (hb8.cell (p := ⟨w5.heap.size + 1, 2, none⟩) hqb).trans x2'; have f3 := (hb8.cell (p := ⟨w5.heap.size + 1, 3, none⟩) hqb).trans x3'; clear hb8 HPI _t)
    | (go_at_call 78; refine (HX0.out _ _ _ _ _ _ _ _ HK8.out HPM.out).mono ?_; rintro e w9 ⟨rfl, hb9⟩; have HK9 := hide3 (HKE.out _ _ _ HK8.out hb9); have h0 := (hb9.cell (p := ⟨w5.heap.size + 1, 0, none⟩) hqb8).trans f0; have h1 := (hb9.cell (p := ⟨w5.heap.size + 1, 1, none⟩) hqb8).trans f1; have h2 := (hb9.cell (p := ⟨w5.heap.size + 1, 2, none⟩) hqb8).trans f2; have h3 := (hb9.cell (p := ⟨w5.heap.size + 1, 3, none⟩) hqb8).trans f3; have l0 := (hb9.cell (p := ⟨gc, 0, none⟩) hgc).trans g0; have l1 := (hb9.cell (p := ⟨gc, 0 + 1, none⟩) hgc).trans g1; have l2 := (hb9.cell (p := ⟨gc, 0 + 2, none⟩) hgc).trans g2; have l3 := (hb9.cell (p := ⟨gc, 0 + 3, none⟩) hgc).trans g3; simp only [Nat.zero_add, qN] at l0 l1 l2 l3; clear hb9))
  go_quiet (fail)
  go_wp2_with fail
  go_ret
  exact ⟨rfl, Go.Proofs.YtbjbhgkbnegfgaaGreatDoor.Below.drewN HK9.out.1.2 _⟩
end Go.Proofs.YtbjbhgkbnegfgaaGreatDoor
namespace Go.Proofs.YtbjbhgkbnegfgaaGreatDoor
open Go.RowKit Go.Maps Go.WideMaps
set_option maxRecDepth 100000

/-- A telling, but for the row in which it lies. -/
def PartW (O : List Dp) (E : List (Dp × Int)) (w : World) (B : Nat) (Y : List Wt) : Prop := ((Y.map (·.tg)).Pairwise (ltPl E) ∧ (Y.map (·.tg)).Perm (List.range E.length)) ∧ ∀ x ∈ Y, ∃ e : Dp × Int, E[x.tg]? = some e ∧ x.nm = e.1.nm ∧ x.kd = e.2 ∧ OwnS w B x.rs (rangeD O e.1)
theorem ToldW.row {O : List Dp} {E : List (Dp × Int)} {w : World} {B : Nat} {v : Value} {Y : List Wt} (h : ToldW O E w B v Y) : RowO w B v Y := by
  have e := h.1.1
  rw [withR_fst] at e
  have e2 : (withR O E Y).length = Y.length := by unfold withR; rw [List.length_map]
  rw [e2] at e
  exact e
theorem ToldW.part {O : List Dp} {E : List (Dp × Int)} {w : World} {B : Nat} {v : Value} {Y : List Wt} (h : ToldW O E w B v Y) : PartW O E w B Y := by
  refine ⟨⟨h.sorted, h.2.2.1⟩, fun x hx => ?_⟩
  obtain ⟨e, h1, h2, h3⟩ := h.2.2.2 x hx
  refine ⟨e, h1, h2, h3, ?_⟩
  have q := h.1.2.1 (x, rgT O E x.tg) (List.mem_map.2 ⟨x, hx, rfl⟩)
  have e2 : rgT O E x.tg = rangeD O e.1 := by unfold rgT; rw [h1]
  have q2 : OwnS w B x.rs (rgT O E x.tg) := q
  rw [e2] at q2
  exact q2
theorem PartW.below {O : List Dp} {E : List (Dp × Int)} {w w' : World} {B : Nat} {Y : List Wt} (h : PartW O E w B Y) (hb : Below w.heap.size w w') : PartW O E w' B Y := ⟨h.1, fun x hx => by
  obtain ⟨e, h1, h2, h3, h4⟩ := h.2 x hx
  exact ⟨e, h1, h2, h3, h4.below hb⟩⟩
theorem PartW.base {O : List Dp} {E : List (Dp × Int)} {w : World} {B C : Nat} {Y : List Wt} (h : PartW O E w B Y) (hc : C ≤ B) : PartW O E w C Y := ⟨h.1, fun x hx => by
  obtain ⟨e, h1, h2, h3, h4⟩ := h.2 x hx
  exact ⟨e, h1, h2, h3, h4.base hc⟩⟩
/-- Ranges stay while wants are put behind wants. -/
theorem PartW.grown {O : List Dp} {E : List (Dp × Int)} {w w1 : World} {B B' n : Nat} {v : Value} {xs : List Value} {Y : List Wt} (h : PartW O E w B Y) (hr : w.ownsRow B' 69 3 v n xs) (hg : w.grownBy w1 v.ownBlock) : PartW O E w1 B Y := ⟨h.1, fun x hx => by
  obtain ⟨e, h1, h2, h3, h4⟩ := h.2 x hx
  exact ⟨e, h1, h2, h3, h4.of_block fun g hgu => hg.block g (h4.lt hgu).1 fun q => own_ne h4 hr (by decide) hgu q.symm⟩⟩
theorem RowO.below {w w' : World} {B : Nat} {v : Value} {xs : List Wt} (h : RowO w B v xs) (hb : Below w.heap.size w w') : RowO w' B v xs := own_below h hb
theorem RowO.base {w : World} {B C : Nat} {v : Value} {xs : List Wt} (h : RowO w B v xs) (hc : C ≤ B) : RowO w C v xs := own_base h hc
theorem RowO.grown {w w1 : World} {B : Nat} {v : Value} {xs : List Wt} {r : Option Nat} (h : RowO w B v xs) (hg : w.grownBy w1 r) (hne : ∀ g, v.ownBlock = some g → some g ≠ r) : RowO w1 B v xs := own_of h fun g hgv => hg.block g (World.ownsRow.lt h g hgv).2 (hne g hgv)

/-- Two lists of wants that say the same, but that the one's ranges are overridden. -/
def MatchW (O : List Dp) (w : World) (B : Nat) (A Z : List Wt) : Prop := A.length = Z.length ∧ ∀ (i : Nat) (x y : Wt), A[i]? = some x → Z[i]? = some y → ∃ d : Dp, x.nm = d.nm ∧ y.nm = d.nm ∧ x.kd = y.kd ∧ OwnS w B x.rs (rangeD O d) ∧ OwnS w B y.rs d.rg
theorem match_of {O : List Dp} {E : List (Dp × Int)} {w : World} {B : Nat} {Y Z : List Wt} (h : PartW O E w B Y) (h' : PartW [] E w B Z) : MatchW O w B Y Z := by
  have ht : Y.map (·.tg) = Z.map (·.tg) := perm_sorted (ltPl_asym E) (h.1.2.trans h'.1.2.symm) h.1.1 h'.1.1
  refine ⟨by have e := congrArg List.length ht; rw [List.length_map, List.length_map] at e; exact e, fun i x y hx hy => ?_⟩
  obtain ⟨e, h1, h2, h3, h4⟩ := h.2 x (List.mem_of_getElem? hx)
  obtain ⟨f, g1, g2, g3, g4⟩ := h'.2 y (List.mem_of_getElem? hy)
  have e1 : x.tg = y.tg := by
    have q := congrArg (fun l : List Nat => l[i]?) ht
    simp only [List.getElem?_map, hx, hy] at q
    exact Option.some.inj q
  rw [e1, g1] at h1
  cases h1
  exact ⟨e.1, h2, g2, h3.trans g3.symm, h4, g4⟩
theorem MatchW.append {O : List Dp} {w : World} {B : Nat} {A Z A' Z' : List Wt} (h : MatchW O w B A Z) (h' : MatchW O w B A' Z') : MatchW O w B (A ++ A') (Z ++ Z') := by
  refine ⟨by rw [List.length_append, List.length_append, h.1, h'.1], fun i x y hx hy => ?_⟩
  by_cases hi : i < A.length
  · rw [List.getElem?_append_left hi] at hx
    rw [List.getElem?_append_left (h.1 ▸ hi)] at hy
    exact h.2 i x y hx hy
  · rw [List.getElem?_append_right (by omega)] at hx
    rw [List.getElem?_append_right (by have := h.1; omega), ← h.1] at hy
    exact h'.2 _ x y hx hy
theorem MatchW.below {O : List Dp} {w w' : World} {B : Nat} {A Z : List Wt} (h : MatchW O w B A Z) (hb : Below w.heap.size w w') : MatchW O w' B A Z := ⟨h.1, fun i x y hx hy => by
  obtain ⟨d, h1, h2, h3, h4, h5⟩ := h.2 i x y hx hy
  exact ⟨d, h1, h2, h3, h4.below hb, h5.below hb⟩⟩

/-- Both lists, put together. -/
def FinW (O : List Dp) (w : World) (B : Nat) (va vb : Value) (A Z : List Wt) : Prop := (RowO w B va A ∧ RowO w B vb Z) ∧ MatchW O w B A Z
theorem FinW.below {O : List Dp} {w w' : World} {B : Nat} {va vb : Value} {A Z : List Wt} (h : FinW O w B va vb A Z) (hb : Below w.heap.size w w') : FinW O w' B va vb A Z := ⟨⟨h.1.1.below hb, h.1.2.below hb⟩, h.2.below hb⟩

/-- Half way: the first list is put together. -/
def MidW (O : List Dp) (E1 E2 : List (Dp × Int)) (w : World) (B : Nat) (va vb : Value) (Y1 Y2 Z1 : List Wt) : Prop := (RowO w B va (Y1 ++ Y2) ∧ RowO w B vb Z1 ∧ ∀ g, va.ownBlock = some g → vb.ownBlock ≠ some g) ∧ PartW O E1 w B Y1 ∧ PartW O E2 w B Y2 ∧ PartW [] E1 w B Z1
theorem MidW.below {O : List Dp} {E1 E2 : List (Dp × Int)} {w w' : World} {B : Nat} {va vb : Value} {Y1 Y2 Z1 : List Wt} (h : MidW O E1 E2 w B va vb Y1 Y2 Z1) (hb : Below w.heap.size w w') : MidW O E1 E2 w' B va vb Y1 Y2 Z1 := ⟨⟨h.1.1.below hb, h.1.2.1.below hb, h.1.2.2⟩, h.2.1.below hb, h.2.2.1.below hb, h.2.2.2.below hb⟩

theorem mid_of {O : List Dp} {E1 E2 : List (Dp × Int)} {w5 w6 w7 w8 : World} {B : Nat} {va vb vc va' : Value} {Y1 Y2 Z1 : List Wt} (hB : B ≤ w5.heap.size) (h1 : ToldW O E1 w5 B va Y1) (b6 : Below w5.heap.size w5 w6) (h2 : ToldW [] E1 w6 w5.heap.size vb Z1) (b7 : Below w6.heap.size w6 w7) (h3 : ToldW O E2 w7 w6.heap.size vc Y2) (ho : w8.ownsRow B 69 3 va' (Y1.length + Y2.length) (Y1.flatMap encW ++ Y2.flatMap encW)) (hg : w7.grownBy w8 va.ownBlock) (hat : va'.ownBlock = va.ownBlock ∨ va'.ownBlock = some w7.heap.size) : MidW O E1 E2 w8 B va' vb Y1 Y2 Z1 := by
  have r1 := (h1.row.below b6).below b7
  have r2 := h2.row.below b7
  have hne : ∀ g, va.ownBlock = some g → vb.ownBlock ≠ some g := fun g ha hb => by
    have q1 := (World.ownsRow.lt h1.row g ha).2
    have q2 := (World.ownsRow.lt h2.row g hb).1
    omega
  refine ⟨⟨?_, (r2.base hB).grown hg (fun g hgv q => hne g q.symm hgv), fun g ha hb => ?_⟩, (((h1.part.below b6).below b7).grown r1 hg), (h3.part.grown r1 hg).base (Nat.le_trans hB b6.size), (((h2.part.below b7).grown r1 hg)).base hB⟩
  · unfold RowO
    rw [List.length_append, List.flatMap_append]
    exact ho
  · rcases hat with e | e
    · rw [e] at ha
      exact hne g ha hb
    · rw [e] at ha
      cases ha
      have q := (World.ownsRow.lt r2 _ hb).2
      omega

theorem fin_of {O : List Dp} {E1 E2 : List (Dp × Int)} {w8 w9 w10 : World} {B : Nat} {va vb vd vb' : Value} {Y1 Y2 Z1 Z2 : List Wt} (h : MidW O E1 E2 w8 B va vb Y1 Y2 Z1) (hB : B ≤ w8.heap.size) (b9 : Below w8.heap.size w8 w9) (h4 : ToldW [] E2 w9 w8.heap.size vd Z2) (ho : w10.ownsRow B 69 3 vb' (Z1.length + Z2.length) (Z1.flatMap encW ++ Z2.flatMap encW)) (hg : w9.grownBy w10 vb.ownBlock) : FinW O w10 B va vb' (Y1 ++ Y2) (Z1 ++ Z2) := by
  have hm := h.below b9
  have r2 := hm.1.2.1
  refine ⟨⟨hm.1.1.grown hg (fun g hgv q => hm.1.2.2 g hgv q.symm), ?_⟩, (match_of (hm.2.1.grown r2 hg) (hm.2.2.2.grown r2 hg)).append (match_of (hm.2.2.1.grown r2 hg) ((h4.part.grown r2 hg).base hB))⟩
  unfold RowO
  rw [List.length_append, List.flatMap_append]
  exact ho

theorem rangeD_drop {O : List Dp} {d : Dp} {k : Nat} (h : k < O.length) : rangeD (O.drop k) d = if O[k].nm = d.nm then O[k].rg else rangeD (O.drop (k + 1)) d := by
  unfold rangeD
  rw [List.drop_eq_getElem_cons h, List.find?_cons]
  by_cases e : O[k].nm = d.nm
  · have e1 : isD d.nm O[k] = true := by unfold isD; rw [e]; exact decide_eq_true rfl
    rw [e1, if_pos e]
  · have e1 : isD d.nm O[k] = false := by unfold isD; exact decide_eq_false e
    rw [e1, if_neg e]
theorem rangeD_end (O : List Dp) (d : Dp) : rangeD (O.drop O.length) d = d.rg := by
  unfold rangeD
  rw [List.drop_length]
  rfl

theorem nilD (w : World) : DepsAt w (.slice none 0 0) [] := ⟨none, 0, rfl, Nat.le_refl _, Or.inl rfl⟩
/-- Lists that fit, whatever overrides there are. -/
def FitA (O ds : List Dp) : Prop := FitP O ds ∧ ∀ d ∈ ds, d.rg.length * 48 ≤ 140737488355328
theorem fit_nil {O ds : List Dp} (h : FitA O ds) : FitP [] ds := ⟨h.1.1, fun d hd => ⟨(h.1.2 d hd).1, h.2 d hd⟩⟩

theorem told_base {O : List Dp} {E : List (Dp × Int)} {w : World} {B C : Nat} {v : Value} {Y : List Wt} (h : ToldW O E w B v Y) (hc : C ≤ B) : ToldW O E w C v Y := ⟨h.1.base hc, h.2⟩
end Go.Proofs.YtbjbhgkbnegfgaaGreatDoor
namespace Go.Proofs.YtbjbhgkbnegfgaaGreatDoor
open Go.ChangeShapes Go.WideShapes Go.ChangeAt Go.RowKit Go.ChangeMaps
set_option maxRecDepth 100000

theorem bulk_mem {H : Type} : ∀ {l : List (DataW H)} {d : DataW H}, d ∈ l → Rows.uptoBulk d ≤ Rows.uptoBulkAll l
  | [], d, h => by cases h
  | e :: l, d, h => by
    simp only [Rows.uptoBulkAll]
    rcases List.mem_cons.1 h with rfl | h
    · omega
    · have := bulk_mem h
      omega
theorem bulk_part {H : Type} {parts : List (DataW H)} {i : Nat} {d : DataW H} (h : parts[i]? = some d) : Rows.uptoBulk d ≤ Rows.uptoBulk (.agg parts) := by
  have := bulk_mem (List.mem_of_getElem? h)
  simp only [Rows.uptoBulk]
  omega
theorem bulk_elem {H : Type} {el sp : List (DataW H)} {d : DataW H} (h : d ∈ el) : Rows.uptoBulk d ≤ Rows.uptoBulk (.slice el sp) := by
  have := bulk_mem h
  simp only [Rows.uptoBulk]
  omega

/-- Lists no longer than that, with names and ranges no longer than that. -/
def FitB (n : Nat) (L : List Dp) : Prop := L.length ≤ n ∧ ∀ d ∈ L, d.nm.size ≤ n ∧ d.rg.length ≤ n
theorem FitB.mono {n m : Nat} {L : List Dp} (h : FitB n L) (hm : n ≤ m) : FitB m L := ⟨Nat.le_trans h.1 hm, fun d hd => ⟨Nat.le_trans (h.2 d hd).1 hm, Nat.le_trans (h.2 d hd).2 hm⟩⟩

theorem spans_b {H : Type} {enc : TypeId × Value → H} {W : World} {base fuel : Nat} {held : Bool} {cs : List Value} {x : DataW H × List MemPlace} (h : DataW.trod enc Tryz.prog W base (fun _ => true) held fuel 39 cs = some x) :
    ∃ v L, cs = [v] ∧ SpansC W v L ∧ L.length ≤ 9223372036854775807 ∧ L.length ≤ Rows.uptoBulk x.1 := by
  obtain ⟨v, L, rfl, h1, h2⟩ := spans_cs h
  refine ⟨v, L, rfl, h1, h2, ?_⟩
  obtain ⟨ad, cap, rfl, _⟩ := h1.1
  exact slice_bulk (d := x.1) (p := x.2) Tryz.underlying39 ⟨fuel, by simpa [Value.cells] using h⟩

theorem dep_readB {H : Type} {enc : TypeId × Value → H} {W : World} {base : Nat} {held : Bool} {n : Nat} {g o : Nat} {cs : List Value} {x : DataW H × List MemPlace} (hc : W.cells? base ⟨g, o, none⟩ 2 = some cs) (h : DataW.trod enc Tryz.prog W base (fun _ => true) held n 62 cs = some x) : ∃ d : Dp, (∃ u, DpIn W g o d u) ∧ d.nm.size ≤ Rows.uptoBulk x.1 ∧ d.rg.length ≤ Rows.uptoBulk x.1 := by
  have hs : Tryz.prog.underlying 62 = some (.struct (Tryz.prog.fieldsOf 62)) := by kernel_rfl
  obtain ⟨xs, n', _, hxx, _, hxl, hf⟩ := DataW.trod_struct hs h
  have hsz : (Tryz.prog.fieldsOf 62).size = 2 := by kernel_rfl
  obtain ⟨_, hcl, hq⟩ := World.cells?_some hc
  obtain ⟨f0, i0, t0, o0⟩ := field_at (fs := Tryz.prog.fieldsOf 62) (i := 0) (ty := 9) (off := 0) (by kernel_rfl)
  obtain ⟨f1, i1, t1, o1⟩ := field_at (fs := Tryz.prog.fieldsOf 62) (i := 1) (ty := 39) (off := 1) (by kernel_rfl)
  have r0 := hf 0 f0 i0
  have r1 := hf 1 f1 i1
  rw [t0, o0, cellsStrD, List.getElem?_eq_getElem (by omega : 0 < xs.length)] at r0
  rw [t1, o1, cellsSps, List.getElem?_eq_getElem (by omega : 1 < xs.length)] at r1
  obtain ⟨s, e0, hx0, hs0⟩ := DataW.trod_string Tryz.underlying9 r0
  obtain ⟨v, L, e1, hL, hz, hb⟩ := spans_b r1
  have q0 := hq 0 (by decide)
  have q1 := hq 1 (by decide)
  have ad : ∀ i, (⟨g, o, none⟩ : Addr).add i = ⟨g, o + i, none⟩ := fun i => by unfold Addr.add; split <;> simp_all
  rw [ad, take1 e0] at q0
  rw [ad, take1 e1] at q1
  have b0 : Rows.uptoBulk xs[0].1 ≤ Rows.uptoBulk x.1 := by
    rw [hxx]
    exact bulk_part (i := 0) (by rw [List.getElem?_map, List.getElem?_eq_getElem (by omega : 0 < xs.length)]; rfl)
  have b1 : Rows.uptoBulk xs[1].1 ≤ Rows.uptoBulk x.1 := by
    rw [hxx]
    exact bulk_part (i := 1) (by rw [List.getElem?_map, List.getElem?_eq_getElem (by omega : 1 < xs.length)]; rfl)
  have b2 : s.size ≤ Rows.uptoBulk xs[0].1 := by
    rw [hx0]
    simp only [Rows.uptoBulk]
    show s.data.size ≤ _
    rw [Array.length_toList]
    omega
  exact ⟨⟨s, L⟩, ⟨v, q0, q1, ⟨hL, hz⟩, cell_in q1⟩, Nat.le_trans b2 b0, Nat.le_trans hb b1⟩

theorem deps_csB {H : Type} {enc : TypeId × Value → H} {W : World} {base fuel : Nat} {held : Bool} {cs : List Value} {x : DataW H × List MemPlace} (h : DataW.trod enc Tryz.prog W base (fun _ => true) held fuel 32 cs = some x) :
    ∃ v L, cs = [v] ∧ DepsAt W v L ∧ FitB (Rows.uptoBulk x.1) L := by
  rcases Go.Deep.open_slice Tryz.underlying32 h with ⟨rfl, _⟩ | ⟨ad, len, cap, m, n, D, Pl, rfl, _, hl, hcm, hm, hx, hel⟩
  · exact ⟨_, [], rfl, ⟨none, 0, rfl, Nat.le_refl _, Or.inl rfl⟩, Nat.zero_le _, (fun d hd => by cases hd)⟩
  · rcases Nat.eq_zero_or_pos len with h0 | h0
    · subst h0
      exact ⟨_, [], rfl, ⟨_, _, rfl, Nat.zero_le _, Or.inl rfl⟩, Nat.zero_le _, (fun d hd => by cases hd)⟩
    · have hmm : len ≤ m := by rw [hm]; simp; exact hl
      rw [cellsDep] at hel
      obtain ⟨g, off, spot⟩ := ad
      obtain ⟨cs0, hc0, _⟩ := hel 0 (by omega)
      obtain ⟨_, hln, hq⟩ := World.cells?_some hc0
      have hcell := hq 0 (by decide)
      rw [List.getElem?_eq_getElem (by omega : 0 < cs0.length)] at hcell
      have hspot : spot = none := by simpa [Addr.add] using World.cell?_spot hcell
      subst hspot
      have ad2 : ∀ o i, (⟨g, o, none⟩ : Addr).add i = ⟨g, o + i, none⟩ := fun o i => by unfold Addr.add; split <;> simp_all
      have hxi : x.1 = .slice ((List.range len).map D) ((List.range (m - len)).map fun j => D (len + j)) := by rw [hx]
      obtain ⟨L, hL, hP⟩ := list_any (P := fun i (d : Dp) => (∃ u, DpIn W g (off + i * 2) d u) ∧ d.nm.size ≤ Rows.uptoBulk x.1 ∧ d.rg.length ≤ Rows.uptoBulk x.1) (n := len) fun i hi => by
        obtain ⟨cs, hc, ht⟩ := hel i (by omega)
        rw [ad2] at hc
        obtain ⟨d, h1, h2, h3⟩ := dep_readB hc ht
        have hb : Rows.uptoBulk (D i) ≤ Rows.uptoBulk x.1 := by
          rw [hxi]
          exact bulk_elem (List.mem_map.2 ⟨i, List.mem_range.2 hi, rfl⟩)
        exact ⟨d, h1, Nat.le_trans h2 hb, Nat.le_trans h3 hb⟩
      subst hL
      refine ⟨_, L, rfl, ⟨_, _, rfl, hl, Or.inr ⟨g, off, rfl, ?_, fun i hi => (hP i hi).1⟩⟩, ?_, ?_⟩
      · have := cell_in hcell
        rw [ad2, ad2] at this; exact this
      · rw [hxi]
        have h1 := bulk_len ((List.range L.length).map D)
        rw [List.length_map, List.length_range] at h1
        simp only [Rows.uptoBulk]
        omega
      · intro d hd
        obtain ⟨i, hi, rfl⟩ := List.getElem_of_mem hd
        exact (hP i hi).2

theorem open_pkgB {H : Type} {enc : TypeId × Value → H} {W : World} {base b0 : Nat} {held : Bool} {v : Value} {d : DataW H} {p : List MemPlace} (hv : Value.okWide Tryz.prog W .any b0 34 v) (h : DataW.Trod enc Tryz.prog W base (fun _ => true) held 34 v d p) :
    ∃ (P : Pg) (v1 v2 v3 : Value), v = .agg #[.string P.nm, .int .i64 P.a, .int .i64 P.b, .int .i64 P.c, v1, v2, v3] ∧ PgAt W P v1 v2 v3 ∧ FitB (Rows.uptoBulk d) P.d ∧ FitB (Rows.uptoBulk d) P.p ∧ FitB (Rows.uptoBulk d) P.o := by
  have hs : Tryz.prog.underlying 34 = some (.struct (Tryz.prog.fieldsOf 34)) := by kernel_rfl
  obtain ⟨cs, rfl, hsz⟩ := okWide_struct hs hv
  obtain ⟨n, h⟩ := h
  obtain ⟨xs, n', _, hxx, _, hxl, hf⟩ := DataW.trod_struct hs h
  have hfz : (Tryz.prog.fieldsOf 34).size = 5 := by kernel_rfl
  rw [cellsPkg] at hsz
  obtain ⟨f0, i0, t0, o0⟩ := field_at (fs := Tryz.prog.fieldsOf 34) (i := 0) (ty := 9) (off := 0) (by kernel_rfl)
  obtain ⟨f1, i1, t1, o1⟩ := field_at (fs := Tryz.prog.fieldsOf 34) (i := 1) (ty := 31) (off := 1) (by kernel_rfl)
  obtain ⟨f2, i2, t2, o2⟩ := field_at (fs := Tryz.prog.fieldsOf 34) (i := 2) (ty := 32) (off := 4) (by kernel_rfl)
  obtain ⟨f3, i3, t3, o3⟩ := field_at (fs := Tryz.prog.fieldsOf 34) (i := 3) (ty := 32) (off := 5) (by kernel_rfl)
  obtain ⟨f4, i4, t4, o4⟩ := field_at (fs := Tryz.prog.fieldsOf 34) (i := 4) (ty := 32) (off := 6) (by kernel_rfl)
  have r0 := hf 0 f0 i0
  have r1 := hf 1 f1 i1
  have r2 := hf 2 f2 i2
  have r3 := hf 3 f3 i3
  have r4 := hf 4 f4 i4
  rw [t0, o0, cellsStrD, List.getElem?_eq_getElem (by omega : 0 < xs.length)] at r0
  rw [t1, o1, cellsVer, List.getElem?_eq_getElem (by omega : 1 < xs.length)] at r1
  rw [t2, o2, cellsDeps, List.getElem?_eq_getElem (by omega : 2 < xs.length)] at r2
  rw [t3, o3, cellsDeps, List.getElem?_eq_getElem (by omega : 3 < xs.length)] at r3
  rw [t4, o4, cellsDeps, List.getElem?_eq_getElem (by omega : 4 < xs.length)] at r4
  obtain ⟨s, e0, _, hs0⟩ := DataW.trod_string Tryz.underlying9 r0
  obtain ⟨a, b, c, ea, eb, ec, _⟩ := ints_of r1
  obtain ⟨v1, L1, e2, h1, z1⟩ := deps_csB r2
  obtain ⟨v2, L2, e3, h2, z2⟩ := deps_csB r3
  obtain ⟨v3, L3, e4, h3, z3⟩ := deps_csB r4
  have hd : d = .agg (xs.map (·.1)) := congrArg Prod.fst hxx
  have hb : ∀ i (hi : i < xs.length), Rows.uptoBulk xs[i].1 ≤ Rows.uptoBulk d := fun i hi => by
    rw [hd]
    exact bulk_part (i := i) (by rw [List.getElem?_map, List.getElem?_eq_getElem hi]; rfl)
  have k0 : cs.toList[0]? = some (.string s) := take1 e0
  have k2 : cs.toList[4]? = some v1 := take1 e2
  have k3 : cs.toList[5]? = some v2 := take1 e3
  have k4 : cs.toList[6]? = some v3 := take1 e4
  have ka : ((cs.toList.drop 1).take 3)[0]? = some (.int .i64 a) := ea
  have kb : ((cs.toList.drop 1).take 3)[1]? = some (.int .i64 b) := eb
  have kc : ((cs.toList.drop 1).take 3)[2]? = some (.int .i64 c) := ec
  obtain ⟨l⟩ := cs
  obtain ⟨x0, x1, x2, x3, x4, x5, x6, rfl⟩ := list7 (l := l) (by simpa using hsz)
  simp at k0 k2 k3 k4 ka kb kc
  subst k0 k2 k3 k4 ka kb kc
  exact ⟨⟨s, a, b, c, L1, L2, L3⟩, _, _, _, rfl, ⟨h1, h2, h3⟩, z1.mono (hb 2 (by omega)), z2.mono (hb 3 (by omega)), z3.mono (hb 4 (by omega))⟩

theorem open_manB {H : Type} {enc : TypeId × Value → H} {W : World} {base b0 : Nat} {held : Bool} {v : Value} {d : DataW H} {p : List MemPlace} (hv : Value.okWide Tryz.prog W .any b0 54 v) (h : DataW.Trod enc Tryz.prog W base (fun _ => true) held 54 v d p) :
    ∃ (v1 v2 v3 v4 : Value) (L1 L2 L3 L4 : List Dp), v = .agg #[v1, v2, v3, v4] ∧ (DepsAt W v1 L1 ∧ FitB (Rows.uptoBulk d) L1) ∧ (DepsAt W v2 L2 ∧ FitB (Rows.uptoBulk d) L2) ∧ (DepsAt W v3 L3 ∧ FitB (Rows.uptoBulk d) L3) ∧ (DepsAt W v4 L4 ∧ FitB (Rows.uptoBulk d) L4) := by
  have hs : Tryz.prog.underlying 54 = some (.struct (Tryz.prog.fieldsOf 54)) := by kernel_rfl
  obtain ⟨cs, rfl, hsz⟩ := okWide_struct hs hv
  obtain ⟨n, h⟩ := h
  obtain ⟨xs, n', _, hxx, _, hxl, hf⟩ := DataW.trod_struct hs h
  have hfz : (Tryz.prog.fieldsOf 54).size = 4 := by kernel_rfl
  rw [cellsManW] at hsz
  have hd : d = .agg (xs.map (·.1)) := congrArg Prod.fst hxx
  have get : ∀ i, ((Tryz.prog.fieldsOf 54)[i]?).map (fun f => (f.type, f.offset)) = some (32, i) → i < 4 → ∃ v L, cs.toList[i]? = some v ∧ DepsAt W v L ∧ FitB (Rows.uptoBulk d) L := by
    intro i hfd hi
    obtain ⟨f, h1, h2, h3⟩ := field_at hfd
    have hr := hf i f h1
    rw [h2, h3, cellsDeps, List.getElem?_eq_getElem (by omega : i < xs.length)] at hr
    obtain ⟨v, L, e, hL, hz⟩ := deps_csB hr
    refine ⟨v, L, take1 e, hL, hz.mono ?_⟩
    rw [hd]
    exact bulk_part (i := i) (by rw [List.getElem?_map, List.getElem?_eq_getElem (by omega : i < xs.length)]; rfl)
  obtain ⟨v1, L1, k1, h1⟩ := get 0 (by kernel_rfl) (by decide)
  obtain ⟨v2, L2, k2, h2⟩ := get 1 (by kernel_rfl) (by decide)
  obtain ⟨v3, L3, k3, h3⟩ := get 2 (by kernel_rfl) (by decide)
  obtain ⟨v4, L4, k4, h4⟩ := get 3 (by kernel_rfl) (by decide)
  obtain ⟨l⟩ := cs
  obtain ⟨x0, x1, x2, x3, rfl⟩ := list4W (l := l) (by simpa using hsz)
  simp at k1 k2 k3 k4
  subst k1 k2 k3 k4
  exact ⟨_, _, _, _, L1, L2, L3, L4, rfl, h1, h2, h3, h4⟩

theorem fitA_of {n m : Nat} {O ds : List Dp} (hO : FitB n O) (hd : FitB m ds) (hn : n ≤ 1048576) (hm : m ≤ 1048576) : FitA O ds := by
  refine ⟨⟨by have := hd.1; omega, fun d h => ⟨by have := (hd.2 d h).1; omega, ?_⟩⟩, fun d h => by have := (hd.2 d h).2; omega⟩
  have h1 : (rangeD O d).length ≤ 1048576 := by
    unfold rangeD
    cases hf : O.find? (isD d.nm) with
    | none => exact Nat.le_trans (hd.2 d h).2 hm
    | some x => exact Nat.le_trans (hO.2 x (List.mem_of_find?_eq_some hf)).2 hn
  omega
end Go.Proofs.YtbjbhgkbnegfgaaGreatDoor
