/- Wc1, Wc2, laid in one text. -/
import Derived.Test.YtbjbhgkbnegfgaaGreatDoorMg27
namespace Go.Proofs.YtbjbhgkbnegfgaaGreatDoor
open Go.RowKit Go.Maps Go.WideMaps
set_option maxRecDepth 100000

def allS : List Sp := allR.map spR
def pP : Pg := ⟨⟨#[112]⟩, 1, 0, 0, [], [⟨⟨#[113]⟩, allS⟩], []⟩
def qP : Pg := ⟨⟨#[113]⟩, 1, 0, 0, [], [], []⟩
def pN : Pn := ⟨⟨#[112]⟩, 1, 0, 0⟩
def qN : Pn := ⟨⟨#[113]⟩, 1, 0, 0⟩
theorem qP_once : onceB qP = true := by
  unfold onceB onceL
  exact @decide_eq_true _ (Classical.propDecidable _) List.nodup_nil
theorem qP_text : textP qP = [112, 97, 99, 107, 97, 103, 101, 32, 113, 32, 49, 46, 48, 46, 48, 10] := by
  unfold textP listT
  rw [show qP.d = [] from rfl, show qP.p = [] from rfl, show qP.o = [] from rfl]
  unfold lineB
  rw [show textV qP.a qP.b qP.c = ⟨#[49, 46, 48, 46, 48]⟩ by decide +kernel]
  rfl
theorem qP_w : writtenB qP = true := by
  unfold writtenB soundB
  rw [qP_once, qP_text]
  decide +kernel
theorem pP_once : onceB pP = true := by
  unfold onceB onceL
  exact @decide_eq_true _ (Classical.propDecidable _) (by
    show ([⟨#[113]⟩] : List ByteArray).Nodup
    exact List.nodup_cons.2 ⟨by simp, List.nodup_nil⟩)
theorem pP_text : (textP pP).length ≤ 4096 := by decide +kernel
theorem pP_w : writtenB pP = true := by
  unfold writtenB soundB
  rw [pP_once, decide_eq_true pP_text]
  decide +kernel
theorem all_inL : inL allS 1 0 0 = true := by decide +kernel
theorem bes_known {L : List CV} {u1 u2 u3 : Value} (h1 : catC L ⟨#[112]⟩ 1 0 0 = some ⟨pP, u1, u2, u3⟩) : besC L [] [qN] ⟨#[112]⟩ 1 0 0 = some [qN] := by
  unfold besC
  rw [h1]
  show besL [] [qN] [⟨⟨#[113]⟩, allS⟩] = some [qN]
  have e : besP [] [qN] ⟨⟨#[113]⟩, allS⟩ = some qN := by
    unfold besP
    rw [show List.find? (isN (⟨⟨#[113]⟩, allS⟩ : Dp).nm) [qN] = some qN from by
      rw [List.find?_cons, show isN ((⟨⟨#[113]⟩, allS⟩ : Dp).nm) qN = true from decide_eq_true rfl]]
    simp only
    rw [show rangeD [] ⟨⟨#[113]⟩, allS⟩ = allS from rfl]
    rw [if_pos (show inL allS qN.a qN.b qN.c = true from all_inL)]
    rfl
  rw [besL_some e]
  rfl
theorem bes_known2 {L : List CV} {u1 u2 u3 : Value} (E : List Pn) (h2 : catC L ⟨#[113]⟩ 1 0 0 = some ⟨qP, u1, u2, u3⟩) : besC L [] E ⟨#[113]⟩ 1 0 0 = some [] := by
  unfold besC
  rw [h2]
  rfl
theorem bes_known0 {L : List CV} {u1 u2 u3 : Value} (h1 : catC L ⟨#[112]⟩ 1 0 0 = some ⟨pP, u1, u2, u3⟩) : besC L [] [] ⟨#[112]⟩ 1 0 0 = none := by
  unfold besC
  rw [h1]
  rfl
theorem ctx_known1 {L : List CV} {u1 u2 u3 v1 v2 v3 : Value} (h1 : catC L ⟨#[112]⟩ 1 0 0 = some ⟨pP, u1, u2, u3⟩) (h2 : catC L ⟨#[113]⟩ 1 0 0 = some ⟨qP, v1, v2, v3⟩) : ctxC L [] [qN] pN = some [qN] := by
  have e1 : ∀ f, ctxF L [] [qN] (f + 1) [pN] [] = ctxF L [] [qN] f ([] ++ freshN [] [qN]) ([] ++ freshN [] [qN]) := fun f => ctxF_some (x := pN) (bes_known h1)
  have ef : freshN [] [qN] = [qN] := rfl
  have e2 : ∀ f, ctxF L [] [qN] (f + 1) [qN] [qN] = ctxF L [] [qN] f ([] ++ freshN [qN] []) ([qN] ++ freshN [qN] []) := fun f => ctxF_some (x := qN) (bes_known2 _ h2)
  have eg : freshN [qN] [] = [] := rfl
  unfold ctxC
  rw [e1 2999, ef, List.nil_append, e2 2998, eg, List.nil_append, List.append_nil, ctxF_nil]
theorem ctx_known0 {L : List CV} {u1 u2 u3 : Value} (h1 : catC L ⟨#[112]⟩ 1 0 0 = some ⟨pP, u1, u2, u3⟩) : ctxC L [] [] pN = none := by
  have e1 : ∀ f, ctxF L [] [] (f + 1) [pN] [] = none := fun f => ctxF_none (x := pN) (bes_known0 h1)
  unfold ctxC
  rw [e1 2999]
theorem pP_key : KeyOk pP.nm pP.a pP.b pP.c := ⟨by decide, by unfold I64; decide, by unfold I64; decide, by unfold I64; decide⟩
theorem qP_key : KeyOk qP.nm qP.a qP.b qP.c := ⟨by decide, by unfold I64; decide, by unfold I64; decide, by unfold I64; decide⟩
theorem qP_at (w : World) : PgAt w qP (.slice none 0 0) (.slice none 0 0) (.slice none 0 0) := ⟨⟨none, 0, rfl, Nat.le_refl _, Or.inl rfl⟩, ⟨none, 0, rfl, Nat.le_refl _, Or.inl rfl⟩, ⟨none, 0, rfl, Nat.le_refl _, Or.inl rfl⟩⟩
theorem sp_none (w : World) : DepsAt w (.slice none 0 0) [] := ⟨none, 0, rfl, Nat.le_refl _, Or.inl rfl⟩
theorem cat_two {w : World} {B C M : Nat} {L : List CV} {x y : CV} (h : CatAt w B C M L) (hp : L.Perm [y, x]) : catC L x.pg.nm x.pg.a x.pg.b x.pg.c = some x ∧ catC L y.pg.nm y.pg.a y.pg.b y.pg.c = some y :=
  ⟨cat_self h.2.2.2 (hp.mem_iff.2 (by simp)), cat_self h.2.2.2 (hp.mem_iff.2 (by simp))⟩
end Go.Proofs.YtbjbhgkbnegfgaaGreatDoor
namespace Go.Proofs.YtbjbhgkbnegfgaaGreatDoor
open Go.RowKit Go.Maps Go.WideMaps
set_option maxRecDepth 100000

theorem pn_one {w : World} {B : Nat} {v : Value} {p : Pn} (h : OwnPn w B v [p]) : ∃ g cap, v = .slice (some ⟨g, 0, none⟩) 1 cap ∧ PnIn w g 0 p := by
  obtain ⟨g, cap, _, _, e, _, hp⟩ := pn_cells h 0 (by simp)
  exact ⟨g, cap, e, by simpa using hp⟩

set_option maxHeartbeats 12800000 in
theorem known_wa {w : World} (he : Env w) (hf : FL w) : Calls Tryz.prog 38 #[] w fun e w' => e = .returned (.bool true) ∧ Below w.heap.size w w' := by
  have hs0 : (w.alloc (.cells #[.int .i64 1, .int .i64 0, .int .i64 0] 31)).heap.size = w.heap.size + 1 := by simp
  have HNW : Hid (Calls Tryz.prog 11 #[] (w.alloc (.cells #[.int .i64 1, .int .i64 0, .int .i64 0] 31)) fun e w' => e = .returned (.pointer (some ⟨w.heap.size + 2, 0, none⟩)) ∧ w' = (((w.alloc (.cells #[.int .i64 1, .int .i64 0, .int .i64 0] 31)).alloc (.map #[] 0)).alloc (.cells #[.map (some (w.heap.size + 1))] 98))) := by
    have e := new_any (w.alloc (.cells #[.int .i64 1, .int .i64 0, .int .i64 0] 31))
    rw [hs0] at e
    exact e
  have HC0 : Hid (CatAt (((w.alloc (.cells #[.int .i64 1, .int .i64 0, .int .i64 0] 31)).alloc (.map #[] 0)).alloc (.cells #[.map (some (w.heap.size + 1))] 98)) w.heap.size (w.heap.size + 2) (w.heap.size + 1) []) := by
    have e := CatAt.new (w.alloc (.cells #[.int .i64 1, .int .i64 0, .int .i64 0] 31)) w.heap.size
    rw [hs0] at e
    exact e
  have HB0 : Hid (Below w.heap.size w (((w.alloc (.cells #[.int .i64 1, .int .i64 0, .int .i64 0] 31)).alloc (.map #[] 0)).alloc (.cells #[.map (some (w.heap.size + 1))] 98))) := below_then (boxB _ _) (boxB2 _ _ _)
  have HK0 : Hid ((CatAt (((w.alloc (.cells #[.int .i64 1, .int .i64 0, .int .i64 0] 31)).alloc (.map #[] 0)).alloc (.cells #[.map (some (w.heap.size + 1))] 98)) w.heap.size (w.heap.size + 2) (w.heap.size + 1) [] ∧ Below w.heap.size w (((w.alloc (.cells #[.int .i64 1, .int .i64 0, .int .i64 0] 31)).alloc (.map #[] 0)).alloc (.cells #[.map (some (w.heap.size + 1))] 98))) ∧ (((((w.alloc (.cells #[.int .i64 1, .int .i64 0, .int .i64 0] 31)).alloc (.map #[] 0)).alloc (.cells #[.map (some (w.heap.size + 1))] 98)).cell? ⟨w.heap.size, 0, none⟩ = some (.int .i64 1) ∧ (((w.alloc (.cells #[.int .i64 1, .int .i64 0, .int .i64 0] 31)).alloc (.map #[] 0)).alloc (.cells #[.map (some (w.heap.size + 1))] 98)).cell? ⟨w.heap.size, 1, none⟩ = some (.int .i64 0) ∧ (((w.alloc (.cells #[.int .i64 1, .int .i64 0, .int .i64 0] 31)).alloc (.map #[] 0)).alloc (.cells #[.map (some (w.heap.size + 1))] 98)).cell? ⟨w.heap.size, 2, none⟩ = some (.int .i64 0)) ∧ w.heap.size < (((w.alloc (.cells #[.int .i64 1, .int .i64 0, .int .i64 0] 31)).alloc (.map #[] 0)).alloc (.cells #[.map (some (w.heap.size + 1))] 98)).heap.size)) := ⟨⟨HC0.out, HB0.out⟩, ⟨((boxB2 (w.alloc (.cells #[.int .i64 1, .int .i64 0, .int .i64 0] 31)) _ _).cell (p := ⟨w.heap.size, 0, none⟩) (by simp)).trans (by simp), ((boxB2 (w.alloc (.cells #[.int .i64 1, .int .i64 0, .int .i64 0] 31)) _ _).cell (p := ⟨w.heap.size, 1, none⟩) (by simp)).trans (by simp), ((boxB2 (w.alloc (.cells #[.int .i64 1, .int .i64 0, .int .i64 0] 31)) _ _).cell (p := ⟨w.heap.size, 2, none⟩) (by simp)).trans (by simp)⟩, Nat.lt_of_lt_of_le (by simp) (boxB2 (w.alloc (.cells #[.int .i64 1, .int .i64 0, .int .i64 0] 31)) _ _).size⟩
  have HKE : Hid (∀ a b (L : List CV), ((CatAt a w.heap.size (w.heap.size + 2) (w.heap.size + 1) L ∧ Below w.heap.size w a) ∧ ((a.cell? ⟨w.heap.size, 0, none⟩ = some (.int .i64 1) ∧ a.cell? ⟨w.heap.size, 1, none⟩ = some (.int .i64 0) ∧ a.cell? ⟨w.heap.size, 2, none⟩ = some (.int .i64 0)) ∧ w.heap.size < a.heap.size)) → Below a.heap.size a b → (CatAt b w.heap.size (w.heap.size + 2) (w.heap.size + 1) L ∧ Below w.heap.size w b) ∧ ((b.cell? ⟨w.heap.size, 0, none⟩ = some (.int .i64 1) ∧ b.cell? ⟨w.heap.size, 1, none⟩ = some (.int .i64 0) ∧ b.cell? ⟨w.heap.size, 2, none⟩ = some (.int .i64 0)) ∧ w.heap.size < b.heap.size)) := fun a b L hx hab => ⟨⟨hx.1.1.below hab, below_then hx.1.2 hab⟩, ⟨(hab.cell (p := ⟨w.heap.size, 0, none⟩) hx.2.2).trans hx.2.1.1, (hab.cell (p := ⟨w.heap.size, 1, none⟩) hx.2.2).trans hx.2.1.2.1, (hab.cell (p := ⟨w.heap.size, 2, none⟩) hx.2.2).trans hx.2.1.2.2⟩, Nat.lt_of_lt_of_le hx.2.2 hab.size⟩
  have HKG : Hid (∀ a b (L L' : List CV), ((CatAt a w.heap.size (w.heap.size + 2) (w.heap.size + 1) L ∧ Below w.heap.size w a) ∧ ((a.cell? ⟨w.heap.size, 0, none⟩ = some (.int .i64 1) ∧ a.cell? ⟨w.heap.size, 1, none⟩ = some (.int .i64 0) ∧ a.cell? ⟨w.heap.size, 2, none⟩ = some (.int .i64 0)) ∧ w.heap.size < a.heap.size)) → a.grownBy b (some (w.heap.size + 1)) → CatAt b w.heap.size (w.heap.size + 2) (w.heap.size + 1) L' → (CatAt b w.heap.size (w.heap.size + 2) (w.heap.size + 1) L' ∧ Below w.heap.size w b) ∧ ((b.cell? ⟨w.heap.size, 0, none⟩ = some (.int .i64 1) ∧ b.cell? ⟨w.heap.size, 1, none⟩ = some (.int .i64 0) ∧ b.cell? ⟨w.heap.size, 2, none⟩ = some (.int .i64 0)) ∧ w.heap.size < b.heap.size)) := fun a b L L' hx hg hc => by
    have q : ∀ j, b.cell? ⟨w.heap.size, j, none⟩ = a.cell? ⟨w.heap.size, j, none⟩ := fun j => World.cell?_of_block (a := ⟨w.heap.size, j, none⟩) (hg.block w.heap.size hx.2.2 (fun q => by have := Option.some.inj q; omega))
    exact ⟨⟨hc, hx.1.2.grown hg hx.1.2.size (fun j hj => by cases hj; omega)⟩, ⟨(q 0).trans hx.2.1.1, (q 1).trans hx.2.1.2.1, (q 2).trans hx.2.1.2.2⟩, Nat.lt_of_lt_of_le hx.2.2 hg.size⟩
  have HAL : Hid (∀ W, Calls Tryz.prog 54 #[] W fun e w' => ∃ a3 n3 c3, e = .returned (.slice a3 n3 c3) ∧ (SpansC w' (.slice a3 n3 c3) allS ∧ allS.length ≤ 9223372036854775807) ∧ Below W.heap.size W w') := fun W => (rAll_rg W).mono (by
    rintro e w' ⟨v, rfl, hv, hb⟩
    have hv2 := hv.at
    obtain ⟨a3, c3, e3, hle, _⟩ := hv
    subst e3
    exact ⟨a3, _, c3, rfl, ⟨⟨hv2, _, _, _, rfl, hle⟩, by decide⟩, hb⟩)
  have HP1 : Hid (∀ W a3 n3 c3, ((CatAt W w.heap.size (w.heap.size + 2) (w.heap.size + 1) [] ∧ Below w.heap.size w W) ∧ ((W.cell? ⟨w.heap.size, 0, none⟩ = some (.int .i64 1) ∧ W.cell? ⟨w.heap.size, 1, none⟩ = some (.int .i64 0) ∧ W.cell? ⟨w.heap.size, 2, none⟩ = some (.int .i64 0)) ∧ w.heap.size < W.heap.size)) → SpansC W (.slice a3 n3 c3) allS ∧ allS.length ≤ 9223372036854775807 → Calls Tryz.prog 14 #[.pointer (some ⟨w.heap.size + 2, 0, none⟩), .agg #[.string ⟨#[112]⟩, .int .i64 1, .int .i64 0, .int .i64 0, .slice none 0 0, .slice (some ⟨W.heap.size, 0, none⟩) 1 1, .slice none 0 0]] (W.alloc (.cells #[.string ⟨#[113]⟩, .slice a3 n3 c3] 62)) fun e w' => ∃ r u1 u2 u3, e = .returned (.int .i64 r) ∧ ((CatAt w' w.heap.size (w.heap.size + 2) (w.heap.size + 1) [⟨pP, u1, u2, u3⟩] ∧ Below w.heap.size w w') ∧ ((w'.cell? ⟨w.heap.size, 0, none⟩ = some (.int .i64 1) ∧ w'.cell? ⟨w.heap.size, 1, none⟩ = some (.int .i64 0) ∧ w'.cell? ⟨w.heap.size, 2, none⟩ = some (.int .i64 0)) ∧ w.heap.size < w'.heap.size))) := fun W a3 n3 c3 hk hs => by
    have hk2 := HKE.out _ _ _ hk (boxB W (.cells #[.string ⟨#[113]⟩, .slice a3 n3 c3] 62))
    have hd : DepsAt (W.alloc (.cells #[.string ⟨#[113]⟩, .slice a3 n3 c3] 62)) (.slice (some ⟨W.heap.size, 0, none⟩) 1 1) pP.p := ⟨some ⟨W.heap.size, 0, none⟩, 1, rfl, Nat.le_refl _, Or.inr ⟨W.heap.size, 0, rfl, by simp, fun i hi => by
      obtain rfl : i = 0 := by have h2 : i < 1 := hi; omega
      exact ⟨.slice a3 n3 c3, by simp [pP], by simp, ⟨⟨hs.1.1.below (boxB _ _), hs.1.2⟩, hs.2⟩, by simp⟩⟩⟩
    refine (put_ok (P := pP) hk2.1.1 ⟨sp_none _, hd, sp_none _⟩ (he.below hk2.1.2) (hf.below hk2.1.2) hk2.1.2.size pP_key pP_w rfl (by decide)).mono ?_
    rintro e w' ⟨rfl, u1, u2, u3, L', hp, hc, hg⟩
    exact ⟨_, u1, u2, u3, rfl, HKG.out _ _ _ _ hk2 hg (cat_one hp hc)⟩
  have HP2 : Hid (∀ W u1 u2 u3, ((CatAt W w.heap.size (w.heap.size + 2) (w.heap.size + 1) [⟨pP, u1, u2, u3⟩] ∧ Below w.heap.size w W) ∧ ((W.cell? ⟨w.heap.size, 0, none⟩ = some (.int .i64 1) ∧ W.cell? ⟨w.heap.size, 1, none⟩ = some (.int .i64 0) ∧ W.cell? ⟨w.heap.size, 2, none⟩ = some (.int .i64 0)) ∧ w.heap.size < W.heap.size)) → Calls Tryz.prog 14 #[.pointer (some ⟨w.heap.size + 2, 0, none⟩), .agg #[.string ⟨#[113]⟩, .int .i64 1, .int .i64 0, .int .i64 0, .slice none 0 0, .slice none 0 0, .slice none 0 0]] W fun e w' => ∃ r v1 v2 v3 L', e = .returned (.int .i64 r) ∧ L'.Perm [⟨qP, v1, v2, v3⟩, ⟨pP, u1, u2, u3⟩] ∧ ((CatAt w' w.heap.size (w.heap.size + 2) (w.heap.size + 1) L' ∧ Below w.heap.size w w') ∧ ((w'.cell? ⟨w.heap.size, 0, none⟩ = some (.int .i64 1) ∧ w'.cell? ⟨w.heap.size, 1, none⟩ = some (.int .i64 0) ∧ w'.cell? ⟨w.heap.size, 2, none⟩ = some (.int .i64 0)) ∧ w.heap.size < w'.heap.size))) := fun W u1 u2 u3 hk => by
    refine (put_ok (P := qP) hk.1.1 (qP_at _) (he.below hk.1.2) (hf.below hk.1.2) hk.1.2.size qP_key qP_w rfl (by simp)).mono ?_
    rintro e w' ⟨rfl, v1, v2, v3, L', hp, hc, hg⟩
    exact ⟨_, v1, v2, v3, L', rfl, hp, HKG.out _ _ _ _ hk hg hc⟩
  have HX1 : Hid (∀ W L u1 u2 u3 v1 v2 v3 bq, ((CatAt W w.heap.size (w.heap.size + 2) (w.heap.size + 1) L ∧ Below w.heap.size w W) ∧ ((W.cell? ⟨w.heap.size, 0, none⟩ = some (.int .i64 1) ∧ W.cell? ⟨w.heap.size, 1, none⟩ = some (.int .i64 0) ∧ W.cell? ⟨w.heap.size, 2, none⟩ = some (.int .i64 0)) ∧ w.heap.size < W.heap.size)) → L.Perm [⟨qP, v1, v2, v3⟩, ⟨pP, u1, u2, u3⟩] → PinsAt W (.slice (some ⟨bq, 0, none⟩) 1 1) [qN] → Calls Tryz.prog 78 #[.pointer (some ⟨w.heap.size + 2, 0, none⟩), .agg #[.slice none 0 0, .slice none 0 0, .slice none 0 0, .slice none 0 0], .slice (some ⟨bq, 0, none⟩) 1 1, .agg #[.string ⟨#[112]⟩, .int .i64 1, .int .i64 0, .int .i64 0]] W fun e w' => ∃ gc cc, e = .returned (.tuple #[.slice (some ⟨gc, 0, none⟩) 1 cc, .bool true]) ∧ PnIn w' gc 0 qN ∧ Below W.heap.size W w') := fun W L u1 u2 u3 v1 v2 v3 bq hk hp hq => by
    obtain ⟨h1, h2⟩ := cat_two hk.1.1 hp
    have e := ctx_any (x1 := none) (x2 := none) (x3 := none) (y1 := 0) (y2 := 0) (y3 := 0) (z1 := 0) (z2 := 0) (z3 := 0) hk.1.1 (by rw [hp.length_eq]; simp) (sp_none W) (by decide) (fun d hd => by cases hd) hq (by decide) (fun q hq => by rw [List.mem_singleton.1 hq]; decide) (fun q hq => by rw [List.mem_singleton.1 hq]; exact ⟨by unfold I64; decide, by unfold I64; decide, by unfold I64; decide⟩) pN pP_key
    rw [ctx_known1 h1 h2] at e
    refine e.mono ?_
    rintro e w' ⟨_, h3, h4⟩
    obtain ⟨v, ts, rfl, ⟨h5, _, _⟩, h6⟩ := h3 _ rfl
    rw [List.perm_singleton.1 h5] at h6
    obtain ⟨gc, cc, rfl, h7⟩ := pn_one h6
    exact ⟨gc, cc, rfl, h7, h4⟩
  have HX0 : Hid (∀ W L u1 u2 u3 v1 v2 v3, ((CatAt W w.heap.size (w.heap.size + 2) (w.heap.size + 1) L ∧ Below w.heap.size w W) ∧ ((W.cell? ⟨w.heap.size, 0, none⟩ = some (.int .i64 1) ∧ W.cell? ⟨w.heap.size, 1, none⟩ = some (.int .i64 0) ∧ W.cell? ⟨w.heap.size, 2, none⟩ = some (.int .i64 0)) ∧ w.heap.size < W.heap.size)) → L.Perm [⟨qP, v1, v2, v3⟩, ⟨pP, u1, u2, u3⟩] → Calls Tryz.prog 78 #[.pointer (some ⟨w.heap.size + 2, 0, none⟩), .agg #[.slice none 0 0, .slice none 0 0, .slice none 0 0, .slice none 0 0], .slice none 0 0, .agg #[.string ⟨#[112]⟩, .int .i64 1, .int .i64 0, .int .i64 0]] W fun e w' => e = .returned (.tuple #[.slice none 0 0, .bool false]) ∧ Below W.heap.size W w') := fun W L u1 u2 u3 v1 v2 v3 hk hp => by
    obtain ⟨h1, h2⟩ := cat_two hk.1.1 hp
    have e := ctx_any (x1 := none) (x2 := none) (x3 := none) (y1 := 0) (y2 := 0) (y3 := 0) (z1 := 0) (z2 := 0) (z3 := 0) (E := []) (ve := .slice none 0 0) hk.1.1 (by rw [hp.length_eq]; simp) (sp_none W) (by decide) (fun d hd => by cases hd) ⟨none, 0, rfl, Nat.le_refl _, Or.inl rfl⟩ (by decide) (fun q hq => by cases hq) (fun q hq => by cases hq) pN pP_key
    rw [ctx_known0 h1] at e
    exact e.mono fun e w' h => ⟨h.1 rfl, h.2.2⟩
  have hep : ∀ W, (binOp .eql 95 (.agg #[.string ⟨#[113]⟩, .int .i64 1, .int .i64 0, .int .i64 0]) (.agg #[.string ⟨#[113]⟩, .int .i64 1, .int .i64 0, .int .i64 0])).run Tryz.prog W = .ok (.bool true) W := fun W => by
    have e := eqlPn qN qN W
    rw [show eqPn qN qN = true from eqPn_iff.2 rfl] at e
    exact e
  have hgp := guardPn
  clear hs0 HC0
  go_enter Tryz.func38, Tryz.ntmps38
  go_wp2_with (go_at_call 11; refine HNW.out.mono ?_; rintro e w1 ⟨rfl, rfl⟩; clear HNW)
  generalize (((w.alloc (.cells #[.int .i64 1, .int .i64 0, .int .i64 0] 31)).alloc (.map #[] 0)).alloc (.cells #[.map (some (w.heap.size + 1))] 98)) = W at *
  have HKD := hide3 (HKE.out _ _ _ HK0.out (Below.refl _ _).drew)
  obtain ⟨v0, v1', v2'⟩ := HK0.out.2.1
  go_region_held3 (fun w' => w'.cell? ⟨w.heap.size, 0, none⟩ = some (.int .i64 1) ∧ w'.cell? ⟨w.heap.size, 1, none⟩ = some (.int .i64 0) ∧ w'.cell? ⟨w.heap.size, 2, none⟩ = some (.int .i64 0)) (go_keep) (first
    | (go_at_call 14; refine (HP1.out _ _ _ _ HK3.out HS3.out).mono ?_; rintro e w4 ⟨r4, u1, u2, u3, rfl, hk4⟩; have HK4 := hide3 hk4; obtain ⟨t0, t1, t2⟩ := hk4.2.1; clear hk4)
    | (go_at_call 54; refine (HAL.out _).mono ?_; rintro e w3 ⟨a3, n3, c3, rfl, hs3, hb3⟩; have HS3 := hide3 hs3; have HK3 := hide3 (HKE.out _ _ _ HKD.out hb3); obtain ⟨s0, s1, s2⟩ := HK3.out.2.1; have hlt3 := HK3.out.2.2; clear hs3 hb3))
  go_wp2_with (first
    | (go_at_call 14; refine (HP2.out _ _ _ _ HK4.out).mono ?_; rintro e w5 ⟨r5, x1, x2, x3, L, rfl, hpm, hk5⟩; have HK5 := hide3 hk5; have HPM := hide3 hpm; obtain ⟨q0, q1, q2⟩ := hk5.2.1; have hk5l := hk5.2.2; have z0 := ((boxB w5 (.cells #[.string ⟨#[112]⟩, .int .i64 1, .int .i64 0, .int .i64 0] 95)).cell (p := ⟨w.heap.size, 0, none⟩) hk5l).trans q0; have z1 := ((boxB w5 (.cells #[.string ⟨#[112]⟩, .int .i64 1, .int .i64 0, .int .i64 0] 95)).cell (p := ⟨w.heap.size, 1, none⟩) hk5l).trans q1; have z2 := ((boxB w5 (.cells #[.string ⟨#[112]⟩, .int .i64 1, .int .i64 0, .int .i64 0] 95)).cell (p := ⟨w.heap.size, 2, none⟩) hk5l).trans q2; have HB7 : Hid (Below w5.heap.size w5 (((w5.alloc (.cells #[.string ⟨#[112]⟩, .int .i64 1, .int .i64 0, .int .i64 0] 95)).alloc (.cells #[.string ⟨#[113]⟩, .int .i64 1, .int .i64 0, .int .i64 0] 95)).alloc (.cells #[.string ⟨#[113]⟩, .int .i64 1, .int .i64 0, .int .i64 0] 95))) := below_then (boxB2 _ _ _) (boxB _ _); have HK7 : Hid ((CatAt (((w5.alloc (.cells #[.string ⟨#[112]⟩, .int .i64 1, .int .i64 0, .int .i64 0] 95)).alloc (.cells #[.string ⟨#[113]⟩, .int .i64 1, .int .i64 0, .int .i64 0] 95)).alloc (.cells #[.string ⟨#[113]⟩, .int .i64 1, .int .i64 0, .int .i64 0] 95)) w.heap.size (w.heap.size + 2) (w.heap.size + 1) L ∧ Below w.heap.size w (((w5.alloc (.cells #[.string ⟨#[112]⟩, .int .i64 1, .int .i64 0, .int .i64 0] 95)).alloc (.cells #[.string ⟨#[113]⟩, .int .i64 1, .int .i64 0, .int .i64 0] 95)).alloc (.cells #[.string ⟨#[113]⟩, .int .i64 1, .int .i64 0, .int .i64 0] 95))) ∧ (((((w5.alloc (.cells #[.string ⟨#[112]⟩, .int .i64 1, .int .i64 0, .int .i64 0] 95)).alloc (.cells #[.string ⟨#[113]⟩, .int .i64 1, .int .i64 0, .int .i64 0] 95)).alloc (.cells #[.string ⟨#[113]⟩, .int .i64 1, .int .i64 0, .int .i64 0] 95)).cell? ⟨w.heap.size, 0, none⟩ = some (.int .i64 1) ∧ (((w5.alloc (.cells #[.string ⟨#[112]⟩, .int .i64 1, .int .i64 0, .int .i64 0] 95)).alloc (.cells #[.string ⟨#[113]⟩, .int .i64 1, .int .i64 0, .int .i64 0] 95)).alloc (.cells #[.string ⟨#[113]⟩, .int .i64 1, .int .i64 0, .int .i64 0] 95)).cell? ⟨w.heap.size, 1, none⟩ = some (.int .i64 0) ∧ (((w5.alloc (.cells #[.string ⟨#[112]⟩, .int .i64 1, .int .i64 0, .int .i64 0] 95)).alloc (.cells #[.string ⟨#[113]⟩, .int .i64 1, .int .i64 0, .int .i64 0] 95)).alloc (.cells #[.string ⟨#[113]⟩, .int .i64 1, .int .i64 0, .int .i64 0] 95)).cell? ⟨w.heap.size, 2, none⟩ = some (.int .i64 0)) ∧ w.heap.size < (((w5.alloc (.cells #[.string ⟨#[112]⟩, .int .i64 1, .int .i64 0, .int .i64 0] 95)).alloc (.cells #[.string ⟨#[113]⟩, .int .i64 1, .int .i64 0, .int .i64 0] 95)).alloc (.cells #[.string ⟨#[113]⟩, .int .i64 1, .int .i64 0, .int .i64 0] 95)).heap.size)) := HKE.out _ _ _ hk5 HB7.out; have HPI : Hid (PinsAt (((w5.alloc (.cells #[.string ⟨#[112]⟩, .int .i64 1, .int .i64 0, .int .i64 0] 95)).alloc (.cells #[.string ⟨#[113]⟩, .int .i64 1, .int .i64 0, .int .i64 0] 95)).alloc (.cells #[.string ⟨#[113]⟩, .int .i64 1, .int .i64 0, .int .i64 0] 95)) (.slice (some ⟨w5.heap.size + 1 + 1, 0, none⟩) 1 1) [qN]) := ⟨some ⟨w5.heap.size + 1 + 1, 0, none⟩, 1, rfl, Nat.le_refl _, Or.inr ⟨w5.heap.size + 1 + 1, 0, rfl, by simp, fun i hi => (by obtain rfl : i = 0 := (by have h2 : i < 1 := hi; omega); exact ⟨⟨(new_cell (by simp) rfl).1, (new_cell (by simp) rfl).1, (new_cell (by simp) rfl).1, (new_cell (by simp) rfl).1⟩, by simp⟩)⟩⟩; have hpb : w5.heap.size < (((w5.alloc (.cells #[.string ⟨#[112]⟩, .int .i64 1, .int .i64 0, .int .i64 0] 95)).alloc (.cells #[.string ⟨#[113]⟩, .int .i64 1, .int .i64 0, .int .i64 0] 95)).alloc (.cells #[.string ⟨#[113]⟩, .int .i64 1, .int .i64 0, .int .i64 0] 95)).heap.size := (by simp; omega); have hqb : w5.heap.size + 1 < (((w5.alloc (.cells #[.string ⟨#[112]⟩, .int .i64 1, .int .i64 0, .int .i64 0] 95)).alloc (.cells #[.string ⟨#[113]⟩, .int .i64 1, .int .i64 0, .int .i64 0] 95)).alloc (.cells #[.string ⟨#[113]⟩, .int .i64 1, .int .i64 0, .int .i64 0] 95)).heap.size := (by simp); have y0 : (((w5.alloc (.cells #[.string ⟨#[112]⟩, .int .i64 1, .int .i64 0, .int .i64 0] 95)).alloc (.cells #[.string ⟨#[113]⟩, .int .i64 1, .int .i64 0, .int .i64 0] 95)).alloc (.cells #[.string ⟨#[113]⟩, .int .i64 1, .int .i64 0, .int .i64 0] 95)).cell? ⟨w5.heap.size, 0, none⟩ = some (.string ⟨#[112]⟩) := ((boxB2 _ _ _).cell (p := ⟨w5.heap.size, 0, none⟩) (by simp)).trans (new_cell rfl rfl).1; have y1 : (((w5.alloc (.cells #[.string ⟨#[112]⟩, .int .i64 1, .int .i64 0, .int .i64 0] 95)).alloc (.cells #[.string ⟨#[113]⟩, .int .i64 1, .int .i64 0, .int .i64 0] 95)).alloc (.cells #[.string ⟨#[113]⟩, .int .i64 1, .int .i64 0, .int .i64 0] 95)).cell? ⟨w5.heap.size, 1, none⟩ = some (.int .i64 1) := ((boxB2 _ _ _).cell (p := ⟨w5.heap.size, 1, none⟩) (by simp)).trans (new_cell rfl rfl).1; have y2 : (((w5.alloc (.cells #[.string ⟨#[112]⟩, .int .i64 1, .int .i64 0, .int .i64 0] 95)).alloc (.cells #[.string ⟨#[113]⟩, .int .i64 1, .int .i64 0, .int .i64 0] 95)).alloc (.cells #[.string ⟨#[113]⟩, .int .i64 1, .int .i64 0, .int .i64 0] 95)).cell? ⟨w5.heap.size, 2, none⟩ = some (.int .i64 0) := ((boxB2 _ _ _).cell (p := ⟨w5.heap.size, 2, none⟩) (by simp)).trans (new_cell rfl rfl).1; have y3 : (((w5.alloc (.cells #[.string ⟨#[112]⟩, .int .i64 1, .int .i64 0, .int .i64 0] 95)).alloc (.cells #[.string ⟨#[113]⟩, .int .i64 1, .int .i64 0, .int .i64 0] 95)).alloc (.cells #[.string ⟨#[113]⟩, .int .i64 1, .int .i64 0, .int .i64 0] 95)).cell? ⟨w5.heap.size, 3, none⟩ = some (.int .i64 0) := ((boxB2 _ _ _).cell (p := ⟨w5.heap.size, 3, none⟩) (by simp)).trans (new_cell rfl rfl).1; have x0 : (((w5.alloc (.cells #[.string ⟨#[112]⟩, .int .i64 1, .int .i64 0, .int .i64 0] 95)).alloc (.cells #[.string ⟨#[113]⟩, .int .i64 1, .int .i64 0, .int .i64 0] 95)).alloc (.cells #[.string ⟨#[113]⟩, .int .i64 1, .int .i64 0, .int .i64 0] 95)).cell? ⟨w5.heap.size + 1, 0, none⟩ = some (.string ⟨#[113]⟩) := ((boxB _ _).cell (p := ⟨w5.heap.size + 1, 0, none⟩) (by simp)).trans (new_cell (by simp) rfl).1; have x1' : (((w5.alloc (.cells #[.string ⟨#[112]⟩, .int .i64 1, .int .i64 0, .int .i64 0] 95)).alloc (.cells #[.string ⟨#[113]⟩, .int .i64 1, .int .i64 0, .int .i64 0] 95)).alloc (.cells #[.string ⟨#[113]⟩, .int .i64 1, .int .i64 0, .int .i64 0] 95)).cell? ⟨w5.heap.size + 1, 1, none⟩ = some (.int .i64 1) := ((boxB _ _).cell (p := ⟨w5.heap.size + 1, 1, none⟩) (by simp)).trans (new_cell (by simp) rfl).1; have x2' : (((w5.alloc (.cells #[.string ⟨#[112]⟩, .int .i64 1, .int .i64 0, .int .i64 0] 95)).alloc (.cells #[.string ⟨#[113]⟩, .int .i64 1, .int .i64 0, .int .i64 0] 95)).alloc (.cells #[.string ⟨#[113]⟩, .int .i64 1, .int .i64 0, .int .i64 0] 95)).cell? ⟨w5.heap.size + 1, 2, none⟩ = some (.int .i64 0) := ((boxB _ _).cell (p := ⟨w5.heap.size + 1, 2, none⟩) (by simp)).trans (new_cell (by simp) rfl).1; have x3' : (((w5.alloc (.cells #[.string ⟨#[112]⟩, .int .i64 1, .int .i64 0, .int .i64 0] 95)).alloc (.cells #[.string ⟨#[113]⟩, .int .i64 1, .int .i64 0, .int .i64 0] 95)).alloc (.cells #[.string ⟨#[113]⟩, .int .i64 1, .int .i64 0, .int .i64 0] 95)).cell? ⟨w5.heap.size + 1, 3, none⟩ = some (.int .i64 0) := ((boxB _ _).cell (p := ⟨w5.heap.size + 1, 3, none⟩) (by simp)).trans (new_cell (by simp) rfl).1; clear hk5 hpm t0 t1 t2)
    | (have _t := HPI; go_at_call 78; refine (HX1.out _ _ _ _ _ _ _ _ _ HK7.out HPM.out HPI.out).mono ?_; rintro e w8 ⟨gc, cc, rfl, ⟨⟨g0, g1, g2, g3⟩, hgc⟩, hb8⟩; have HK8 := hide3 (HKE.out _ _ _ HK7.out hb8); have p0 := (hb8.cell (p := ⟨w5.heap.size, 0, none⟩) hpb).trans y0; have p1 := (hb8.cell (p := ⟨w5.heap.size, 1, none⟩) hpb).trans y1; have p2 := (hb8.cell (p := ⟨w5.heap.size, 2, none⟩) hpb).trans y2; have p3 := (hb8.cell (p := ⟨w5.heap.size, 3, none⟩) hpb).trans y3; have hqb8 := Nat.lt_of_lt_of_le hqb hb8.size; have f0 := (hb8.cell (p := ⟨w5.heap.size + 1, 0, none⟩) hqb).trans x0; have f1 := (hb8.cell (p := ⟨w5.heap.size + 1, 1, none⟩) hqb).trans x1'; have f2 := (hb8.cell (p := ⟨w5.heap.size + 1, 2, none⟩) hqb).trans x2'; have f3 := (hb8.cell (p := ⟨w5.heap.size + 1, 3, none⟩) hqb).trans x3'; clear hb8 HPI _t)
    | (go_at_call 78; refine (HX0.out _ _ _ _ _ _ _ _ HK8.out HPM.out).mono ?_; rintro e w9 ⟨rfl, hb9⟩; have HK9 := hide3 (HKE.out _ _ _ HK8.out hb9); have h0 := (hb9.cell (p := ⟨w5.heap.size + 1, 0, none⟩) hqb8).trans f0; have h1 := (hb9.cell (p := ⟨w5.heap.size + 1, 1, none⟩) hqb8).trans f1; have h2 := (hb9.cell (p := ⟨w5.heap.size + 1, 2, none⟩) hqb8).trans f2; have h3 := (hb9.cell (p := ⟨w5.heap.size + 1, 3, none⟩) hqb8).trans f3; have l0 := (hb9.cell (p := ⟨gc, 0, none⟩) hgc).trans g0; have l1 := (hb9.cell (p := ⟨gc, 0 + 1, none⟩) hgc).trans g1; have l2 := (hb9.cell (p := ⟨gc, 0 + 2, none⟩) hgc).trans g2; have l3 := (hb9.cell (p := ⟨gc, 0 + 3, none⟩) hgc).trans g3; simp only [Nat.zero_add, qN] at l0 l1 l2 l3; clear hb9))
  go_quiet (fail)
  go_wp2_with fail
  go_ret
  exact ⟨rfl, Go.Proofs.YtbjbhgkbnegfgaaGreatDoor.Below.drewN HK9.out.1.2 _⟩
end Go.Proofs.YtbjbhgkbnegfgaaGreatDoor
