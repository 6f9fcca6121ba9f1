/- Pr2, Kn1, Pk1, Pk2, Kn2, Env1, RowS, RwD, laid in one text. -/
import Derived.Lib.Join
import Derived.Test.YthoacfmfpbngkaaGreatDoorMg05
namespace Go.Proofs.YthoacfmfpbngkaaGreatDoor
open Go.RowKit
set_option maxRecDepth 100000

theorem infoStr : (Tryz.prog.info? 9).map (fun i => (i.zero, i.size, i.bytes)) = some (some (.string ByteArray.empty), 1, 16) := by kernel_rfl

/-- A row of texts of one's own. -/
def OwnT (w : World) (B : Nat) (v : Value) (ts : List ByteArray) : Prop := w.ownsRow B 9 1 v ts.length (ts.map Value.string)
theorem OwnT.nil (w : World) (B : Nat) : OwnT w B (.slice none 0 0) [] := ⟨rfl, Or.inl ⟨rfl, rfl⟩⟩
theorem OwnT.lt {w : World} {B : Nat} {v : Value} {L : List ByteArray} (h : OwnT w B v L) {g : Nat} (hg : v.ownBlock = some g) : g < w.heap.size ∧ B ≤ g := by
  rcases h.2 with ⟨rfl, _⟩ | ⟨g', cap, cur, rfl, hB, hgg, _⟩
  · cases hg
  · cases hg
    exact ⟨by rw [Array.getElem?_eq_some_iff] at hgg; exact hgg.1, hB⟩
theorem OwnT.below {w w' : World} {B : Nat} {v : Value} {L : List ByteArray} (h : OwnT w B v L) (hb : Below w.heap.size w w') : OwnT w' B v L := by
  refine ⟨h.1, ?_⟩
  have hl := fun g hg => (h.lt (g := g) hg).1
  rcases h.2 with hn | ⟨g, cap, cur, rfl, hB, hgg, r⟩
  · exact Or.inl hn
  · exact Or.inr ⟨g, cap, cur, rfl, hB, (hb.block g (hl g rfl)).trans hgg, r⟩

/-- A text is put behind a row. -/
theorem wp_appT {w wx : World} {uo : Value} {ts : List ByteArray} {tx : ByteArray} {ops : Array Oper} {rest : List Oper} {o : Oper} {f : Act} {Q : Exit → Act → World → Prop} (hgd : o.guard = none) (s t : Operand)
    (ho : o.op = .call { callee := .builtin .append, args := #[s, t], argTypes := #[38, 38] }) (hs : f.eval s = uo)
    (hK : Below w.heap.size w wx ∧ OwnT wx w.heap.size uo ts) {M : Nat} (hM : wx.heap.size = M) (hx : f.eval t = .slice (some ⟨M, 0, none⟩) 1 1) (hlen : ts.length + 1 ≤ 1000000000000)
    (h : ∀ v1 w1, (Below w.heap.size w w1 ∧ OwnT w1 w.heap.size v1 (ts ++ [tx])) → wpList Tryz.prog ops Q rest (f.put o.dst v1) w1) :
    wpList Tryz.prog ops Q (o :: rest) f (wx.alloc (.cells #[.string tx] 9)) := by
  subst hM
  obtain ⟨i0, hi, hz0, hz1, hz2⟩ : ∃ i, Tryz.prog.info? 9 = some i ∧ i.zero = some (.string ByteArray.empty) ∧ i.size = 1 ∧ i.bytes = 16 := by
    have := infoStr
    cases hq : Tryz.prog.info? 9 with
    | none => rw [hq] at this; cases this
    | some i =>
      rw [hq] at this
      simp only [Option.map_some, Option.some.injEq, Prod.mk.injEq] at this
      exact ⟨i, rfl, this.1, this.2.1, this.2.2⟩
  have hob : OwnT (wx.alloc (.cells #[.string tx] 9)) w.heap.size uo ts := hK.2.below (boxB _ _)
  have hsz : (wx.alloc (.cells #[.string tx] 9)).heap.size = wx.heap.size + 1 := by simp
  have hwx := hK.1.size
  refine wpList_append_own_at _ hgd s t 38 ho w.heap.size 9 i0 _ 1 16 Tryz.underlying38 hi hz0 hz1 hz2 rfl (by decide) uo _ _ hs hob ⟨wx.heap.size, 0, none⟩ 1 1 [.string tx] hx rfl
    (World.news_of_block (cs := #[.string tx]) (t := 9) (fr := (0, 0)) (by show (wx.heap.push _)[wx.heap.size]? = _; rw [Array.getElem?_push, if_pos rfl])) (by simp [Value.oneCell']) (by unfold maxLen; omega) (by omega) (by omega) ?_
  intro v1 w1 hown1 hg1 _ hat
  refine h v1 w1 ⟨(below_then hK.1 (boxB _ _)).grown hg1 (by omega) (fun k hk => (hK.2.lt hk).2), ?_⟩
  unfold OwnT
  rw [List.map_append, List.map_singleton, List.length_append]
  exact hown1

/-- A span's text, by its places; a range's. -/
def spT (p : Int × Int) : ByteArray := spanT (atA p.1) (atB p.1) (atC p.1) (atA p.2) (atB p.2) (atC p.2)
def printR (A : Rg) : ByteArray := match A with
  | [] => ⟨#[60]⟩ ++ textV 0 0 0
  | p :: A => ⟨(Lib.join ((p :: A).map fun p => (spT p).data.toList) [32, 124, 124, 32]).toArray⟩

theorem spanT_size (a b c x y z : Int) : (spanT a b c x y z).size ≤ 27 := by
  have h1 := text_size a b c
  have h2 := text_size x y z
  have z2 : (⟨#[62, 61]⟩ : ByteArray).size = 2 := rfl
  have z4 : (⟨#[60, 61]⟩ : ByteArray).size = 2 := rfl
  have z5 : (⟨#[42]⟩ : ByteArray).size = 1 := rfl
  have z3 : (⟨#[32, 60, 61]⟩ : ByteArray).size = 3 := rfl
  unfold spanT
  repeat' split
  all_goals first | omega | (simp only [size_cat]; omega)
theorem lens_le (m : Nat) : ∀ (l : List (List UInt8)), (∀ x ∈ l, x.length ≤ m) → Lib.lens l ≤ m * l.length
  | [], _ => by simp [Lib.lens]
  | x :: l, h => by
    have ih := lens_le m l fun y hy => h y (List.mem_cons_of_mem _ hy)
    have hx := h x List.mem_cons_self
    have : Lib.lens (x :: l) = x.length + Lib.lens l := by simp [Lib.lens]
    rw [this, List.length_cons, Nat.mul_succ]; omega

theorem join_fits {A : Rg} (h : A.length ≤ 64) : (Lib.join (A.map fun p => (spT p).data.toList) [32, 124, 124, 32]).length ≤ 10000 := by
  cases A with
  | nil => simp [Lib.join_nil]
  | cons p A =>
    rw [List.map_cons, Lib.join_length, ← List.map_cons (f := fun p => (spT p).data.toList)]
    have := lens_le 27 ((p :: A).map fun p => (spT p).data.toList) (by
      intro x hx
      obtain ⟨q, _, rfl⟩ := List.mem_map.1 hx
      exact spanT_size _ _ _ _ _ _)
    simp only [List.length_map, List.length_cons, List.length_nil] at *
    omega

theorem Join_own {w : World} {B : Nat} {v : Value} {A : Rg} (h : OwnT w B v (A.map spT)) (hl : A.length ≤ 64) (h0 : A ≠ []) :
    Calls Tryz.prog 63 #[v, .string ⟨#[32, 124, 124, 32]⟩] w fun e w' => e = .returned (.string (printR A)) ∧ Below w.heap.size w w' := by
  have hlt := fun g hg => (h.lt (g := g) hg).1
  rcases h.2 with ⟨_, hn⟩ | ⟨g, cap, cur, rfl, hB, hgg, hc, hm, hs, hx⟩
  · rw [List.length_map] at hn
    exact (h0 (List.eq_nil_of_length_eq_zero hn)).elim
  · have hj := join_fits hl
    have hmm : (A.map spT).map (·.data.toList) = A.map fun p => (spT p).data.toList := by rw [List.map_map]; rfl
    refine (Tryz.strings_Join g 0 cap (A.map spT) ⟨#[32, 124, 124, 32]⟩ w ?_ (hlt g rfl) (by rw [List.length_map]; omega) hc (by rw [hmm]; show (Lib.join _ [32, 124, 124, 32]).length ≤ _; omega)).mono ?_
    · intro j x hj
      have : (((A.map spT).map Value.string))[j]? = some (.string x) := by rw [List.getElem?_map, hj]; rfl
      rw [← hx, List.getElem?_take] at this
      split at this
      · rw [Nat.zero_add]
        simp [World.cell?, hgg]
        simpa using this
      · cases this
    · rintro e w' ⟨rfl, hb⟩
      refine ⟨?_, hb⟩
      rw [hmm]
      cases A with
      | nil => exact (h0 rfl).elim
      | cons p A => rfl

set_option maxHeartbeats 3200000 in
theorem sPrint_walk (A : Rg) (g o cap : Nat) (w : World) (he : Env w) (hf : FL w) (hlen : A.length ≤ 64) (h0 : ((A.length : Int) == 0) = false) (hg : g < w.heap.size) (hl : ∀ i (h : i < A.length), SpAt w g (o + i * 6) (spR A[i]))
    (HMay : Hid (Calls Tryz.prog 86 #[.slice (some ⟨g, o, none⟩) A.length cap] w fun e w' => e = .returned (.bool true) ∧ Below w.heap.size w w')) :
    Calls Tryz.prog 69 #[.slice (some ⟨g, o, none⟩) A.length cap] w fun e w' => e = .returned (.string (printR A)) ∧ Below w.heap.size w w' := by
  have HL : Hid (∀ w1, Below w.heap.size w w1 → ∀ i (h : i < A.length), SpAt w1 g (o + i * 6) (spR A[i])) := fun w1 hb i hi => (hl i hi).below hb hg
  have HP : Hid (∀ (p : Int × Int) w1, Below w.heap.size w w1 → Calls Tryz.prog 89 #[.agg #[.int .i64 (atA p.1), .int .i64 (atB p.1), .int .i64 (atC p.1), .int .i64 (atA p.2), .int .i64 (atB p.2), .int .i64 (atC p.2)]] w1 fun e w' => e = .returned (.string (spT p)) ∧ Below w1.heap.size w1 w') := fun p w1 hb => printSpan_any _ _ _ _ _ _ w1 (he.below hb) (hf.below hb)
  have HJ : Hid (∀ w1 v1, OwnT w1 w.heap.size v1 (A.map spT) → Calls Tryz.prog 63 #[v1, .string ⟨#[32, 124, 124, 32]⟩] w1 fun e w' => e = .returned (.string (printR A)) ∧ Below w1.heap.size w1 w') := fun w1 v1 h => Join_own h hlen (fun e => by subst e; simp at h0)
  clear hl he hf
  go_enter Tryz.func69, Tryz.ntmps69
  go_wp2_with (go_at_call 86; refine HMay.out.mono ?_; rintro e w1 ⟨rfl, ok1⟩; have HO1 := hide3 ok1; clear ok1)
  go_loopw [3, 17] (fun out i wr => ∃ k : Nat, k ≤ A.length ∧ i = .int .i64 k ∧ Below w.heap.size w wr ∧ OwnT wr w.heap.size out ((A.take k).map spT)) (fun _ i _ => A.length - (intOf i).toNat)
  case atStart => exact ⟨0, Nat.zero_le _, rfl, HO1.out, OwnT.nil _ _⟩
  case round =>
    obtain ⟨k, hk, rfl, hb, hown⟩ := hrel
    have HB := hide3 hb
    have HOWN := hide3 hown
    clear hown
    by_cases hlt : k < A.length
    · have hs := HL.out wr hb k hlt
      have HD : Hid ((A.take k).map spT ++ [spT A[k]] = (A.take (k + 1)).map spT) := by unfold Hid; rw [List.take_succ_eq_append_getElem hlt, List.map_append]; rfl
      generalize A[k] = p at *
      obtain ⟨lo, hi⟩ := p
      obtain ⟨c0, c1, c2, c3, c4, c5⟩ := hs
      simp only [spR] at c0 c1 c2 c3 c4 c5
      have HPp := hide3 (fun w1 hb => HP.out (lo, hi) w1 hb)
      have HLN : Hid (((A.take k).map spT).length + 1 ≤ 1000000000000) := by unfold Hid; simp; omega
      clear hb
      go_wp2_with (first
        | (go_at_call 89; refine (HPp.out _ (below_then HB.out (boxB _ _))).mono ?_; rintro e w2 ⟨rfl, ok2⟩; have HO2 : Hid (Below w.heap.size w w2 ∧ OwnT w2 w.heap.size u3 ((A.take k).map spT)) := ⟨below_then (below_then HB.out (boxB _ _)) ok2, (HOWN.out.below (boxB _ _)).below ok2⟩; clear ok2)
        | (at_builtin; refine wp_appT (uo := u3) (ts := (A.take k).map spT) rfl (.tmp 21) (.tmp 24) rfl rfl HO2.out rfl rfl HLN.out ?_; intro v3 w3 ok3; have HO3 := hide3 ok3; clear ok3))
      exact ⟨⟨k + 1, by omega, by go_num, HO3.out.1, by rw [← HD.out]; exact HO3.out.2⟩, by simp [intOf]; omega⟩
    · have hke : k = A.length := by omega
      subst hke
      have HOW2 : Hid (OwnT wr w.heap.size u3 (A.map spT)) := by have := HOWN.out; rw [List.take_length] at this; exact this
      clear hb
      go_wp2_with (go_at_call 63; refine (HJ.out _ _ HOW2.out).mono ?_; rintro e w2 ⟨rfl, ok2⟩; have HO2 := hide3 ok2; clear ok2)
      go_ret
      exact ⟨rfl, below_then HB.out HO2.out⟩

theorem sPrint_no (v : Value) (w : World) (HMay : Hid (Calls Tryz.prog 86 #[v] w fun e w' => e = .returned (.bool false) ∧ Below w.heap.size w w')) :
    Calls Tryz.prog 69 #[v] w fun e w' => e = .returned (.string ByteArray.empty) ∧ Below w.heap.size w w' := by
  go_enter Tryz.func69, Tryz.ntmps69
  go_wp2_with (go_at_call 86; refine HMay.out.mono ?_; rintro e w1 ⟨rfl, ok1⟩; have HO1 := hide3 ok1; clear ok1)
  go_ret
  exact ⟨rfl, HO1.out⟩

theorem sPrint_nil (ad : Option Addr) (cap : Nat) (w : World) (he : Env w) (hf : FL w) :
    Calls Tryz.prog 69 #[.slice ad 0 cap] w fun e w' => e = .returned (.string (printR [])) ∧ Below w.heap.size w w' := by
  have HMay := hide3 (sMay_nil ad cap w)
  have HP : Hid (∀ w1, Below w.heap.size w w1 → Calls Tryz.prog 42 #[.agg #[.int .i64 0, .int .i64 0, .int .i64 0]] w1 fun e w' => e = .returned (.string (textV 0 0 0)) ∧ Below w1.heap.size w1 w') := fun w1 hb => print_on he.tab 0 0 0 w1 hb
  have HF := hide3 hf
  have HR : Hid (printR [] = ⟨#[60]⟩ ++ textV 0 0 0) := rfl
  have zT := text_size 0 0 0
  have z2 : (⟨#[60]⟩ : ByteArray).size = 1 := rfl
  generalize textV 0 0 0 = T at *
  have s1 := fun W : World => run_string_add_sum (P := Tryz.prog) (w := W) ⟨#[60]⟩ T (by omega)
  clear zT z2 he hf
  go_enter Tryz.func69, Tryz.ntmps69
  go_wp2_with (first
    | (go_at_call 86; refine HMay.out.mono ?_; rintro e w1 ⟨rfl, ok1⟩; obtain ⟨⟨g0, g1, g2⟩, _⟩ := HF.out.below ok1; have HO1 := hide3 ok1; clear ok1)
    | (go_at_call 42; refine (HP.out _ HO1.out).mono ?_; rintro e w2 ⟨rfl, ok2⟩; have HO2 := hide3 ok2; clear ok2))
  go_ret
  exact ⟨by rw [HR.out]; rfl, below_then HO1.out HO2.out⟩

theorem sPrint_rg {A : Rg} (hA : RangeR A) (hl : A.length ≤ 64) {v : Value} {w : World} (h : SpansR w v A) (he : Env w) (hf : FL w) :
    Calls Tryz.prog 69 #[v] w fun e w' => e = .returned (.string (printR A)) ∧ Below w.heap.size w w' := by
  have HM : Hid (Calls Tryz.prog 86 #[v] w fun e w' => e = .returned (.bool true) ∧ Below w.heap.size w w') := by have := sMay_any h.at; rw [may_rg hA hl] at this; exact this
  obtain ⟨ad, cap, rfl, hc, hs⟩ := h
  rcases hs with rfl | ⟨g, o, rfl, hg, hs⟩
  · exact sPrint_nil ad cap w he hf
  · cases A with
    | nil => exact sPrint_nil _ cap w he hf
    | cons p A => exact sPrint_walk (p :: A) g o cap w he hf hl (by simp; omega) hg hs HM
end Go.Proofs.YthoacfmfpbngkaaGreatDoor
namespace Go.Proofs.YthoacfmfpbngkaaGreatDoor
open Go.RowKit
set_option maxRecDepth 100000

theorem eqInV (p q r : Int) (w : World) : (Op.equalIn 9999 23 (.agg #[.int .i64 p, .int .i64 q, .int .i64 r]) (.agg #[.int .i64 p, .int .i64 q, .int .i64 r])).run Tryz.prog w = .ok true w := by
  have u3 := Tryz.underlying3
  have a3 := Tryz.isAgg3
  have z3 := Tryz.sizeOf3
  rw [show (9999 : Nat) = 9998 + 1 from rfl, run_equalIn_agg w 9998 23 _ _ (by kernel_rfl) (by kernel_rfl)]
  simp only [Program.fieldsOf, Tryz.underlying23]
  go_simp

theorem neqSp (a b c x y z : Int) (w : World) : (binOp .neq 90 (.agg #[.int .i64 a, .int .i64 b, .int .i64 c, .int .i64 x, .int .i64 y, .int .i64 z]) (.agg #[.int .i64 a, .int .i64 b, .int .i64 c, .int .i64 x, .int .i64 y, .int .i64 z])).run Tryz.prog w = .ok (.bool false) w := by
  have av := Tryz.isAgg23
  have zv := Tryz.sizeOf23
  have h1 := eqInV a b c w
  have h2 := eqInV x y z w
  rw [run_neq_struct, show (10000 : Nat) = 9999 + 1 from rfl, run_equalIn_agg w 9999 90 _ _ (by kernel_rfl) (by kernel_rfl)]
  simp only [Program.fieldsOf, Tryz.underlying90]
  go_simp
theorem guardSp (op : BinOp) (x y : Operand) (xs ys : Array Value) (w : World) : (eqGuard op 90 x y (.agg xs) (.agg ys)).run Tryz.prog w = .ok () w := run_eqGuard_agg w op 90 x y xs ys (by kernel_rfl)

theorem rat_any (n : Int) (w : World) :
    Calls Tryz.prog 90 #[.int .i64 n] w fun e w' => e = .returned (.agg #[.int .i64 (atA n), .int .i64 (atB n), .int .i64 (atC n)]) ∧ Below w.heap.size w w' := by
  have HA : Hid (∀ w1, Calls Tryz.prog 109 #[.int .i64 n] w1 fun e w' => e = .returned (.tuple #[.agg #[.int .i64 (atA n), .int .i64 (atB n), .int .i64 (atC n)], .bool (hasV n)]) ∧ Below w1.heap.size w1 w') := rAt_any n
  go_enter Tryz.func90, Tryz.ntmps90
  go_wp2_with (go_at_call 109; refine (HA.out _).mono ?_; rintro e w1 ⟨rfl, hb⟩; have HB := hide3 hb; obtain ⟨k0, k1, k2, k3, k4, k5, k6⟩ := boxAt (N := w.heap.size) rfl (below_then hb (boxB w1 (.cells #[.int .i64 (atA n), .int .i64 (atB n), .int .i64 (atC n)] 23))); clear hb)
  obtain ⟨s0, s1, s2⟩ := setV k0 k1 k2
  try simp only [Exit.inBlock, Exit.then]
  refine bodyPost_ret (by simp [results, Tryz.results90, s0, s1, s2, go_sem]; try rfl) rfl ?_
  exact ⟨rfl, below_setV (Nat.le_refl _) (below_then (below_then (boxB _ _) HB.out) (boxB _ _))⟩
end Go.Proofs.YthoacfmfpbngkaaGreatDoor
namespace Go.Proofs.YthoacfmfpbngkaaGreatDoor
open Go.RowKit
set_option maxRecDepth 100000

/-- Whether two things are one. -/
noncomputable def eqB {α : Type} (x y : α) : Bool := @decide (x = y) (Classical.propDecidable _)
theorem eqB_yes {α : Type} {x y : α} (h : x = y) : eqB x y = true := by unfold eqB; exact @decide_eq_true _ (Classical.propDecidable _) h
theorem eqB_no {α : Type} {x y : α} (h : x ≠ y) : eqB x y = false := by unfold eqB; exact @decide_eq_false _ (Classical.propDecidable _) h
theorem eqB_iff {α : Type} {x y : α} : eqB x y = true ↔ x = y := ⟨fun h => by unfold eqB at h; exact @of_decide_eq_true _ (Classical.propDecidable _) h, eqB_yes⟩

/-- Two versions compared. -/
theorem eqInV2 (p q r p' q' r' : Int) (w : World) : (Op.equalIn 9999 23 (.agg #[.int .i64 p, .int .i64 q, .int .i64 r]) (.agg #[.int .i64 p', .int .i64 q', .int .i64 r'])).run Tryz.prog w = .ok (decide (p = p') && decide (q = q') && decide (r = r')) w := by
  have u3 := Tryz.underlying3
  have a3 := Tryz.isAgg3
  have z3 := Tryz.sizeOf3
  rw [show (9999 : Nat) = 9998 + 1 from rfl, run_equalIn_agg w 9998 23 _ _ (by kernel_rfl) (by kernel_rfl)]
  simp only [Program.fieldsOf, Tryz.underlying23]
  by_cases h1 : p = p'
  · by_cases h2 : q = q'
    · by_cases h3 : r = r'
      · subst h1 h2 h3; go_simp
      · subst h1 h2; simp only [h3, decide_false, Bool.and_false]; go_simp
    · subst h1; simp only [h2, decide_false, Bool.and_false, Bool.false_and]; go_simp
  · simp only [h1, decide_false, Bool.false_and]; go_simp

theorem eqV2 (p q r p' q' r' : Int) (w : World) : (binOp .eql 23 (.agg #[.int .i64 p, .int .i64 q, .int .i64 r]) (.agg #[.int .i64 p', .int .i64 q', .int .i64 r'])).run Tryz.prog w = .ok (.bool (decide (p = p') && decide (q = q') && decide (r = r'))) w := by
  have u3 := Tryz.underlying3
  have a3 := Tryz.isAgg3
  have z3 := Tryz.sizeOf3
  rw [run_eql_struct, show (10000 : Nat) = 9999 + 1 from rfl, run_equalIn_agg w 9999 23 _ _ (by kernel_rfl) (by kernel_rfl)]
  simp only [Program.fieldsOf, Tryz.underlying23]
  by_cases h1 : p = p'
  · by_cases h2 : q = q'
    · by_cases h3 : r = r'
      · subst h1 h2 h3; go_simp
      · subst h1 h2; simp only [h3, decide_false, Bool.and_false]; go_simp
    · subst h1; simp only [h2, decide_false, Bool.and_false, Bool.false_and]; go_simp
  · simp only [h1, decide_false, Bool.false_and]; go_simp

/-- The same numbers. -/
def eqS (s t : Sp) : Bool := decide (s.a = t.a) && decide (s.b = t.b) && decide (s.c = t.c) && (decide (s.x = t.x) && decide (s.y = t.y) && decide (s.z = t.z))
theorem eqS_iff {s t : Sp} : eqS s t = true ↔ s = t := by
  obtain ⟨a, b, c, x, y, z⟩ := s
  obtain ⟨a', b', c', x', y', z'⟩ := t
  unfold eqS
  simp only [Bool.and_eq_true, decide_eq_true_eq, Sp.mk.injEq]
  exact ⟨fun ⟨⟨⟨h1, h2⟩, h3⟩, ⟨h4, h5⟩, h6⟩ => ⟨h1, h2, h3, h4, h5, h6⟩, fun ⟨h1, h2, h3, h4, h5, h6⟩ => ⟨⟨⟨h1, h2⟩, h3⟩, ⟨h4, h5⟩, h6⟩⟩

theorem neqSp2 (a b c x y z a' b' c' x' y' z' : Int) (w : World) : (binOp .neq 90 (.agg #[.int .i64 a, .int .i64 b, .int .i64 c, .int .i64 x, .int .i64 y, .int .i64 z]) (.agg #[.int .i64 a', .int .i64 b', .int .i64 c', .int .i64 x', .int .i64 y', .int .i64 z'])).run Tryz.prog w = .ok (.bool (!(eqS ⟨a, b, c, x, y, z⟩ ⟨a', b', c', x', y', z'⟩))) w := by
  have av := Tryz.isAgg23
  have zv := Tryz.sizeOf23
  have h1 := eqInV2 a b c a' b' c' w
  have h2 := eqInV2 x y z x' y' z' w
  rw [run_neq_struct, show (10000 : Nat) = 9999 + 1 from rfl, run_equalIn_agg w 9999 90 _ _ (by kernel_rfl) (by kernel_rfl)]
  simp only [Program.fieldsOf, Tryz.underlying90]
  cases hq : eqS ⟨a, b, c, x, y, z⟩ ⟨a', b', c', x', y', z'⟩
  · have hn : ¬ (a = a' ∧ b = b' ∧ c = c' ∧ x = x' ∧ y = y' ∧ z = z') := by
      rintro ⟨rfl, rfl, rfl, rfl, rfl, rfl⟩
      rw [eqS_iff.2 rfl] at hq
      cases hq
    go_simp
    intro e1 e2 e3 e4 e5 e6
    exact hn ⟨e1, e2, e3, e4, e5, e6⟩
  · obtain ⟨rfl, rfl, rfl, rfl, rfl, rfl⟩ := Sp.mk.injEq .. ▸ eqS_iff.1 hq
    go_simp

set_option maxHeartbeats 1600000 in
theorem Equal_walk (A B : List Sp) (hAB : A.length = B.length) (hsz : A.length ≤ 9223372036854775807) (ga oa ca gb ob cb : Nat) (w : World) (hga : ga < w.heap.size) (hgb : gb < w.heap.size) (hla : ∀ i (h : i < A.length), SpAt w ga (oa + i * 6) A[i]) (hlb : ∀ i (h : i < B.length), SpAt w gb (ob + i * 6) B[i]) :
    Calls Tryz.prog 77 #[.slice (some ⟨ga, oa, none⟩) A.length ca, .slice (some ⟨gb, ob, none⟩) B.length cb] w fun e w' => e = .returned (.bool (eqB A B)) ∧ Below w.heap.size w w' := by
  have HL : Hid (∀ w1, Below w.heap.size w w1 → ∀ i (h : i < A.length) (h2 : i < B.length), SpIn w1 ga (oa + i * 6) A[i] ∧ SpIn w1 gb (ob + i * 6) B[i]) := fun w1 hb i hi hi2 => ⟨⟨(hla i hi).below hb hga, Nat.lt_of_lt_of_le hga hb.size⟩, ⟨(hlb i hi2).below hb hgb, Nat.lt_of_lt_of_le hgb hb.size⟩⟩
  have HAB := hide3 hAB
  clear hla hlb
  rw [← hAB]
  clear hAB
  go_enter Tryz.func77, Tryz.ntmps77
  go_wp2_with fail
  go_loopw [13] (fun i wr => ∃ k : Nat, k ≤ A.length ∧ i = .int .i64 k ∧ Below w.heap.size w wr ∧ ∀ j (h : j < k) (h1 : j < A.length) (h2 : j < B.length), A[j] = B[j]) (fun i _ => A.length - (intOf i).toNat)
  case atStart => exact ⟨0, Nat.zero_le _, rfl, Below.refl _ _, fun j h => by omega⟩
  case round =>
    obtain ⟨k, hk, rfl, hb, hall⟩ := hrel
    have HALL := hide3 hall
    have HB := hide3 hb
    clear hall
    by_cases hlt : k < A.length
    · have hltB : k < B.length := HAB.out ▸ hlt
      have HO : Hid (Below w.heap.size w wr ∧ SpIn wr ga (oa + k * 6) A[k] ∧ SpIn wr gb (ob + k * 6) B[k]) := ⟨hb, HL.out wr hb k hlt hltB⟩
      have HK : Hid (KeepP fun w1 => Below w.heap.size w w1 ∧ SpIn w1 ga (oa + k * 6) A[k] ∧ SpIn w1 gb (ob + k * 6) B[k]) := (keepBelow w).and ((keepSp _ _ _).and (keepSp _ _ _))
      have HNE : Hid (eqS A[k] B[k] = false → eqB A B = false) := fun h => eqB_no fun e => by subst e; rw [(eqS_iff).2 rfl] at h; cases h
      have HST : Hid (eqS A[k] B[k] = true → ∀ j (h : j < k + 1) (h1 : j < A.length) (h2 : j < B.length), A[j] = B[j]) := fun h j hj h1 h2 => by
        rcases Nat.lt_or_ge j k with hjk | hjk
        · exact HALL.out j hjk h1 h2
        · obtain rfl : j = k := by omega
          exact eqS_iff.1 h
      generalize A[k] = s at *
      generalize B[k] = t at *
      obtain ⟨a, b, c, x, y, z⟩ := s
      obtain ⟨a', b', c', x', y', z'⟩ := t
      have he := neqSp2 a b c x y z a' b' c' x' y' z'
      have hgd := guardSp
      cases hq : eqS ⟨a, b, c, x, y, z⟩ ⟨a', b', c', x', y', z'⟩
      · have HR := hide3 (HNE.out hq)
        rw [hq] at he
        clear hb HNE HST HALL
        go_wp2_with fail
        refine wp_region_keep HK.out (by kernel_rfl) (by kernel_rfl) (by first | exact HO.out | exact HK.out.drew HO.out) ?_
        intro C hin hout
        have HIN := hide3 hin
        have HOUT := hide3 hout
        clear hin hout HO
        repeat
          (with_reducible refine wpQuiet_step (fun K hK => ?_)
           go_simp
           first
             | (refine hK _ ?_; clear hK K)
             | (apply Exists.intro; refine ⟨fun w1 hC => ?_, hK _ ?_⟩; (focus ((first | (exact rfl) | (obtain ⟨hb1, ⟨⟨p0, p1, p2, p3, p4, p5⟩, p6⟩, ⟨⟨q0, q1, q2, q3, q4, q5⟩, q6⟩⟩ := HOUT.out w1 hC; clear hC; go_simp; first | done | exact rfl)); done)); clear hK K))
        refine wpQuiet_nil ?_
        intro wn hC
        have HO := hide3 (HOUT.out _ hC)
        clear hC HIN HOUT C
        obtain ⟨hb1, ⟨⟨p0, p1, p2, p3, p4, p5⟩, p6⟩, ⟨⟨q0, q1, q2, q3, q4, q5⟩, q6⟩⟩ := HO.out
        go_wp2
        go_ret
        exact ⟨ret_bool HR.out.symm, HO.out.1⟩
      · have HR := hide3 (HST.out hq)
        rw [hq] at he
        clear hb HNE HST HALL
        go_wp2_with fail
        refine wp_region_keep HK.out (by kernel_rfl) (by kernel_rfl) (by first | exact HO.out | exact HK.out.drew HO.out) ?_
        intro C hin hout
        have HIN := hide3 hin
        have HOUT := hide3 hout
        clear hin hout HO
        repeat
          (with_reducible refine wpQuiet_step (fun K hK => ?_)
           go_simp
           first
             | (refine hK _ ?_; clear hK K)
             | (apply Exists.intro; refine ⟨fun w1 hC => ?_, hK _ ?_⟩; (focus ((first | (exact rfl) | (obtain ⟨hb1, ⟨⟨p0, p1, p2, p3, p4, p5⟩, p6⟩, ⟨⟨q0, q1, q2, q3, q4, q5⟩, q6⟩⟩ := HOUT.out w1 hC; clear hC; go_simp; first | done | exact rfl)); done)); clear hK K))
        refine wpQuiet_nil ?_
        intro wn hC
        have HO := hide3 (HOUT.out _ hC)
        clear hC HIN HOUT C
        obtain ⟨hb1, ⟨⟨p0, p1, p2, p3, p4, p5⟩, p6⟩, ⟨⟨q0, q1, q2, q3, q4, q5⟩, q6⟩⟩ := HO.out
        go_wp2
        exact ⟨⟨k + 1, by omega, by go_num, HO.out.1, HR.out⟩, by simp [intOf]; omega⟩
    · have hke : k = A.length := by omega
      subst hke
      have HR : Hid (eqB A B = true) := eqB_yes (List.ext_getElem HAB.out fun j h1 h2 => HALL.out j h1 h1 h2)
      clear hb
      go_wp2
      go_ret
      exact ⟨ret_bool HR.out.symm, HB.out⟩

theorem Equal_nil (ad bd : Option Addr) (ca cb : Nat) (w : World) :
    Calls Tryz.prog 77 #[.slice ad 0 ca, .slice bd 0 cb] w fun e w' => e = .returned (.bool true) ∧ Below w.heap.size w w' := by
  go_enter Tryz.func77, Tryz.ntmps77
  go_wp2_with fail
  go_loop [13] (fun i => i = .int .i64 0) (fun _ => 0)
  case atStart => rfl
  case round =>
    subst hrel
    go_wp2
    go_ret
    exact ⟨rfl, Below.refl _ _⟩

theorem Equal_len (ad bd : Option Addr) (n m ca cb : Nat) (h : n ≠ m) (w : World) :
    Calls Tryz.prog 77 #[.slice ad n ca, .slice bd m cb] w fun e w' => e = .returned (.bool false) ∧ Below w.heap.size w w' := by
  have hn : ((n : Int) = (m : Int)) = False := by simp; omega
  go_enter Tryz.func77, Tryz.ntmps77
  go_wp2
  go_ret
  exact ⟨rfl, Below.refl _ _⟩

theorem Equal_any {A B : List Sp} {va vb : Value} {w : World} (ha : SpansAt w va A) (hb : SpansAt w vb B) (hsz : A.length ≤ 9223372036854775807) :
    Calls Tryz.prog 77 #[va, vb] w fun e w' => e = .returned (.bool (eqB A B)) ∧ Below w.heap.size w w' := by
  obtain ⟨ad, ca, rfl, hl⟩ := ha
  obtain ⟨bd, cb, rfl, hm⟩ := hb
  by_cases hn : A.length = B.length
  · rcases hl with rfl | ⟨ga, oa, rfl, hga, hla⟩
    · obtain rfl : B = [] := List.eq_nil_of_length_eq_zero (by simpa using hn.symm)
      rw [eqB_yes rfl]
      exact Equal_nil _ _ _ _ w
    · rcases hm with rfl | ⟨gb, ob, rfl, hgb, hlb⟩
      · obtain rfl : A = [] := List.eq_nil_of_length_eq_zero (by simpa using hn)
        rw [eqB_yes rfl]
        exact Equal_nil _ _ _ _ w
      · exact Equal_walk A B hn hsz ga oa ca gb ob cb w hga hgb hla hlb
  · rw [eqB_no fun e => hn (by rw [e])]
    exact Equal_len _ _ _ _ _ _ hn w
end Go.Proofs.YthoacfmfpbngkaaGreatDoor
namespace Go.Proofs.YthoacfmfpbngkaaGreatDoor
open Go.RowKit
set_option maxRecDepth 100000

/-- A dependency: its name, its range. -/
structure Dp where
  nm : ByteArray
  rg : List Sp

theorem SpansAt.sl {w : World} {v : Value} {L : List Sp} (h : SpansAt w v L) : ∃ ad cap, v = .slice ad L.length cap := by
  obtain ⟨ad, cap, rfl, _⟩ := h
  exact ⟨ad, cap, rfl⟩
/-- A dependency lies at a place, with its range's slice u. -/
def DpIn (w : World) (g o : Nat) (d : Dp) (u : Value) : Prop := w.cell? ⟨g, o, none⟩ = some (.string d.nm) ∧ w.cell? ⟨g, o + 1, none⟩ = some u ∧ (SpansC w u d.rg ∧ d.rg.length ≤ 9223372036854775807) ∧ g < w.heap.size
/-- A list of dependencies lies there. -/
def DepsAt (w : World) (v : Value) (L : List Dp) : Prop := ∃ ad cap, v = .slice ad L.length cap ∧ L.length ≤ cap ∧ (L = [] ∨ ∃ g o, ad = some ⟨g, o, none⟩ ∧ g < w.heap.size ∧ ∀ i (h : i < L.length), ∃ u, DpIn w g (o + i * 2) L[i] u)

theorem DpIn.below {w w' : World} {g o : Nat} {d : Dp} {u : Value} (h : DpIn w g o d u) (hb : Below w.heap.size w w') : DpIn w' g o d u :=
  ⟨(hb.cell (p := ⟨g, o, none⟩) h.2.2.2).trans h.1, (hb.cell (p := ⟨g, o + 1, none⟩) h.2.2.2).trans h.2.1, ⟨⟨h.2.2.1.1.1.below hb, h.2.2.1.1.2⟩, h.2.2.1.2⟩, Nat.lt_of_lt_of_le h.2.2.2 hb.size⟩
theorem keepDp (g o : Nat) (d : Dp) (u : Value) : KeepP fun w1 => DpIn w1 g o d u := fun _ _ h hb => h.below hb
theorem DepsAt.below {w w' : World} {v : Value} {L : List Dp} (h : DepsAt w v L) (hb : Below w.heap.size w w') : DepsAt w' v L := by
  obtain ⟨ad, cap, hv, hc, hl⟩ := h
  refine ⟨ad, cap, hv, hc, hl.imp id ?_⟩
  rintro ⟨g, o, ha, hg, hs⟩
  exact ⟨g, o, ha, Nat.lt_of_lt_of_le hg hb.size, fun i hi => (hs i hi).imp fun u hu => hu.below hb⟩
theorem keepDeps (v : Value) (L : List Dp) : KeepP fun w1 => DepsAt w1 v L := fun _ _ h hb => h.below hb

/-- A dependency's variable. -/
def BxD (w : World) (N : Nat) (s : ByteArray) (u : Value) : Prop := w.cell? ⟨N, 0, none⟩ = some (.string s) ∧ w.cell? ⟨N, 1, none⟩ = some u ∧ N < w.heap.size
theorem keepBxD (N : Nat) (s : ByteArray) (u : Value) : KeepP fun w1 => BxD w1 N s u := fun _ _ h hb =>
  ⟨(hb.cell (p := ⟨N, 0, none⟩) h.2.2).trans h.1, (hb.cell (p := ⟨N, 1, none⟩) h.2.2).trans h.2.1, Nat.lt_of_lt_of_le h.2.2 hb.size⟩
theorem BxD.new {w : World} {N : Nat} (hN : w.heap.size = N) (s : ByteArray) (u : Value) : BxD (w.alloc (.cells #[.string s, u] 60)) N s u := by
  subst hN
  exact ⟨by simp, by simp, by simp⟩

theorem sameDep_any {d e : Dp} {u v : Value} {w : World} (hu : SpansAt w u d.rg) (hv : SpansAt w v e.rg) (hsz : d.rg.length ≤ 9223372036854775807) :
    Calls Tryz.prog 55 #[.agg #[.string d.nm, u], .agg #[.string e.nm, v]] w fun x w' => x = .returned (.bool (eqB d e)) ∧ Below w.heap.size w w' := by
  have HE : Hid (∀ w1, Below w.heap.size w w1 → Calls Tryz.prog 77 #[u, v] w1 fun x w' => x = .returned (.bool (eqB d.rg e.rg)) ∧ Below w1.heap.size w1 w') := fun w1 h => Equal_any (hu.below h) (hv.below h) hsz
  obtain ⟨n, r⟩ := d
  obtain ⟨m, q⟩ := e
  simp only at HE
  obtain ⟨ad, ca, rfl, _⟩ := hu
  obtain ⟨bd, cb, rfl, _⟩ := hv
  clear hsz
  simp only at HE
  by_cases hn : n = m
  · subst hn
    have HR : Hid (eqB (⟨n, r⟩ : Dp) ⟨n, q⟩ = eqB r q) := by
      unfold Hid
      by_cases h : r = q
      · rw [eqB_yes h, eqB_yes (by rw [h])]
      · rw [eqB_no h, eqB_no (fun e => h (by injection e))]
    generalize eqB r q = b at *
    go_enter Tryz.func55, Tryz.ntmps55
    go_wp2_with (go_at_call 77; refine (HE.out _ (boxB2 _ _ _)).mono ?_; rintro x w1 ⟨rfl, ok⟩)
    go_ret
    exact ⟨ret_bool HR.out.symm, below_then (boxB2 _ _ _) ok⟩
  · have HR : Hid (eqB (⟨n, r⟩ : Dp) ⟨m, q⟩ = false) := eqB_no (fun e => hn (by injection e))
    clear HE
    have hl : (n.toList = m.toList) = False := eq_false fun e => hn (bytes_same e)
    go_enter Tryz.func55, Tryz.ntmps55
    go_wp2
    go_ret
    exact ⟨ret_bool HR.out.symm, boxB2 _ _ _⟩

set_option maxHeartbeats 1600000 in
theorem EqualFunc_walk (A B : List Dp) (hAB : A.length = B.length) (hsz : A.length ≤ 9223372036854775807) (ga oa ca gb ob cb : Nat) (w : World) (hla : ∀ i (h : i < A.length), ∃ u, DpIn w ga (oa + i * 2) A[i] u) (hlb : ∀ i (h : i < B.length), ∃ u, DpIn w gb (ob + i * 2) B[i] u) :
    Calls Tryz.prog 54 #[.slice (some ⟨ga, oa, none⟩) A.length ca, .slice (some ⟨gb, ob, none⟩) B.length cb, .func (.func 55) #[] #[]] w fun e w' => e = .returned (.bool (eqB A B)) ∧ Below w.heap.size w w' := by
  have HL : Hid (∀ w1, Below w.heap.size w w1 → ∀ i (h : i < A.length) (h2 : i < B.length), (∃ u, DpIn w1 ga (oa + i * 2) A[i] u) ∧ ∃ u, DpIn w1 gb (ob + i * 2) B[i] u) := fun w1 hb i hi hi2 => ⟨(hla i hi).imp fun u h => h.below hb, (hlb i hi2).imp fun u h => h.below hb⟩
  have HAB := hide3 hAB
  clear hla hlb
  rw [← hAB]
  clear hAB
  go_enter Tryz.func54, Tryz.ntmps54
  go_wp2_with fail
  go_loopw [17] (fun i wr => ∃ k : Nat, k ≤ A.length ∧ i = .int .i64 k ∧ Below w.heap.size w wr ∧ ∀ j (h : j < k) (h1 : j < A.length) (h2 : j < B.length), A[j] = B[j]) (fun i _ => A.length - (intOf i).toNat)
  case atStart => exact ⟨0, Nat.zero_le _, rfl, Below.refl _ _, fun j h => by omega⟩
  case round =>
    obtain ⟨k, hk, rfl, hb, hall⟩ := hrel
    have HALL := hide3 hall
    have HB := hide3 hb
    clear hall
    by_cases hlt : k < A.length
    · have hltB : k < B.length := HAB.out ▸ hlt
      obtain ⟨⟨u, p0, p1, ⟨⟨hu, _⟩, hz⟩, p3⟩, ⟨v, q0, q1, ⟨⟨hv, _⟩, _⟩, q3⟩⟩ := HL.out wr hb k hlt hltB
      have HC : Hid (∀ w1, Below wr.heap.size wr w1 → Calls Tryz.prog 55 #[.agg #[.string A[k].nm, u], .agg #[.string B[k].nm, v]] w1 fun x w' => x = .returned (.bool (eqB A[k] B[k])) ∧ Below w1.heap.size w1 w') := fun w1 h => sameDep_any (hu.below h) (hv.below h) hz
      have HNE : Hid (eqB A[k] B[k] = false → eqB A B = false) := fun h => eqB_no fun e => by subst e; rw [eqB_yes rfl] at h; cases h
      have HST : Hid (eqB A[k] B[k] = true → ∀ j (h : j < k + 1) (h1 : j < A.length) (h2 : j < B.length), A[j] = B[j]) := fun h j hj h1 h2 => by
        rcases Nat.lt_or_ge j k with hjk | hjk
        · exact HALL.out j hjk h1 h2
        · obtain rfl : j = k := by omega
          exact eqB_iff.1 h
      obtain ⟨ad, ca, rfl⟩ := hu.sl
      obtain ⟨bd, cb, rfl⟩ := hv.sl
      clear hz hu hv
      generalize A[k].rg.length = na at *
      generalize B[k].rg.length = nb at *
      generalize eqB A[k] B[k] = b at *
      generalize A[k].nm = s at *
      generalize B[k].nm = t at *
      have q0' : (wr.alloc (.cells #[.string s, .slice ad na ca] 60)).cell? ⟨gb, ob + k * 2, none⟩ = some (.string t) := ((boxB wr (.cells #[.string s, .slice ad na ca] 60)).cell (p := ⟨gb, ob + k * 2, none⟩) q3).trans q0
      have q1' : (wr.alloc (.cells #[.string s, .slice ad na ca] 60)).cell? ⟨gb, ob + k * 2 + 1, none⟩ = some (.slice bd nb cb) := ((boxB wr (.cells #[.string s, .slice ad na ca] 60)).cell (p := ⟨gb, ob + k * 2 + 1, none⟩) q3).trans q1
      cases b
      · have HR := hide3 (HNE.out rfl)
        clear hb HNE HST HALL
        go_wp2_with (go_at_call 55; refine (HC.out _ (boxB2 _ _ _)).mono ?_; rintro x w1 ⟨rfl, ok⟩)
        go_ret
        exact ⟨ret_bool HR.out.symm, below_then HB.out (below_then (boxB2 _ _ _) ok)⟩
      · have HR := hide3 (HST.out rfl)
        clear hb HNE HST HALL
        go_wp2_with (go_at_call 55; refine (HC.out _ (boxB2 _ _ _)).mono ?_; rintro x w1 ⟨rfl, ok⟩)
        exact ⟨⟨k + 1, by omega, by go_num, below_then HB.out (below_then (boxB2 _ _ _) ok), HR.out⟩, by simp [intOf]; omega⟩
    · have hke : k = A.length := by omega
      subst hke
      have HR : Hid (eqB A B = true) := eqB_yes (List.ext_getElem HAB.out fun j h1 h2 => HALL.out j h1 h1 h2)
      clear hb
      go_wp2
      go_ret
      exact ⟨ret_bool HR.out.symm, HB.out⟩

theorem EqualFunc_nil (ad bd : Option Addr) (ca cb : Nat) (w : World) :
    Calls Tryz.prog 54 #[.slice ad 0 ca, .slice bd 0 cb, .func (.func 55) #[] #[]] w fun e w' => e = .returned (.bool true) ∧ Below w.heap.size w w' := by
  go_enter Tryz.func54, Tryz.ntmps54
  go_wp2_with fail
  go_loop [17] (fun i => i = .int .i64 0) (fun _ => 0)
  case atStart => rfl
  case round =>
    subst hrel
    go_wp2
    go_ret
    exact ⟨rfl, Below.refl _ _⟩

theorem EqualFunc_len (ad bd : Option Addr) (n m ca cb : Nat) (h : n ≠ m) (w : World) :
    Calls Tryz.prog 54 #[.slice ad n ca, .slice bd m cb, .func (.func 55) #[] #[]] w fun e w' => e = .returned (.bool false) ∧ Below w.heap.size w w' := by
  have hn : ((n : Int) = (m : Int)) = False := by simp; omega
  go_enter Tryz.func54, Tryz.ntmps54
  go_wp2
  go_ret
  exact ⟨rfl, Below.refl _ _⟩

theorem EqualFunc_any {A B : List Dp} {va vb : Value} {w : World} (ha : DepsAt w va A) (hb : DepsAt w vb B) (hsz : A.length ≤ 9223372036854775807) :
    Calls Tryz.prog 54 #[va, vb, .func (.func 55) #[] #[]] w fun e w' => e = .returned (.bool (eqB A B)) ∧ Below w.heap.size w w' := by
  obtain ⟨ad, ca, rfl, _, hl⟩ := ha
  obtain ⟨bd, cb, rfl, _, hm⟩ := hb
  by_cases hn : A.length = B.length
  · rcases hl with rfl | ⟨ga, oa, rfl, hga, hla⟩
    · obtain rfl : B = [] := List.eq_nil_of_length_eq_zero (by simpa using hn.symm)
      rw [eqB_yes rfl]
      exact EqualFunc_nil _ _ _ _ w
    · rcases hm with rfl | ⟨gb, ob, rfl, hgb, hlb⟩
      · obtain rfl : A = [] := List.eq_nil_of_length_eq_zero (by simpa using hn)
        rw [eqB_yes rfl]
        exact EqualFunc_nil _ _ _ _ w
      · exact EqualFunc_walk A B hn hsz ga oa ca gb ob cb w hla hlb
  · rw [eqB_no fun e => hn (by rw [e])]
    exact EqualFunc_len _ _ _ _ _ _ hn w

theorem eqB_and {α : Type} {x y : α} {b : Bool} (h : x = y ↔ b = true) : eqB x y = b := by
  cases b
  · exact eqB_no fun e => by cases h.1 e
  · exact eqB_yes (h.2 rfl)
theorem DepsAt.sl {w : World} {v : Value} {L : List Dp} (h : DepsAt w v L) : ∃ ad cap, v = .slice ad L.length cap := by
  obtain ⟨ad, cap, rfl, _⟩ := h
  exact ⟨ad, cap, rfl⟩

theorem dSame_any {A B : List Dp} {va vb : Value} {w : World} (ha : DepsAt w va A) (hb : DepsAt w vb B) (hsz : A.length ≤ 9223372036854775807) :
    Calls Tryz.prog 34 #[va, vb] w fun e w' => e = .returned (.bool (eqB A B)) ∧ Below w.heap.size w w' := by
  have HE := hide3 (EqualFunc_any ha hb hsz)
  obtain ⟨ad, ca, rfl⟩ := ha.sl
  obtain ⟨bd, cb, rfl⟩ := hb.sl
  clear ha hb hsz
  go_enter Tryz.func34, Tryz.ntmps34
  go_wp2_with (go_at_call 54; refine HE.out.mono ?_; rintro x w1 ⟨rfl, ok⟩)
  go_ret
  exact ⟨rfl, ok⟩
end Go.Proofs.YthoacfmfpbngkaaGreatDoor
namespace Go.Proofs.YthoacfmfpbngkaaGreatDoor
open Go.RowKit
set_option maxRecDepth 100000

theorem rAll_rg (w : World) :
    Calls Tryz.prog 72 #[] w fun e w' => ∃ v, e = .returned v ∧ SpansR w' v allR ∧ Below w.heap.size w w' := by
  have H0 : Hid (∀ w1, Calls Tryz.prog 90 #[.int .i64 0] w1 fun e w' => e = .returned (.agg #[.int .i64 0, .int .i64 0, .int .i64 0]) ∧ Below w1.heap.size w1 w') := rat_any 0
  have H9 : Hid (∀ w1, Calls Tryz.prog 90 #[.int .i64 999999999] w1 fun e w' => e = .returned (.agg #[.int .i64 999, .int .i64 999, .int .i64 999]) ∧ Below w1.heap.size w1 w') := rat_any 999999999
  have HS : Hid (∀ w1, Below w.heap.size w w1 → SpansR (w1.alloc (.cells #[.int .i64 0, .int .i64 0, .int .i64 0, .int .i64 999, .int .i64 999, .int .i64 999] 90)) (.slice (some ⟨w1.heap.size, 0, none⟩) 1 1) allR ∧ Below w.heap.size w (w1.alloc (.cells #[.int .i64 0, .int .i64 0, .int .i64 0, .int .i64 999, .int .i64 999, .int .i64 999] 90))) := fun w1 hb => spans_one hb 0 999999999 rfl
  have t1 : True := trivial
  go_enter Tryz.func72, Tryz.ntmps72
  go_wp2_with (first
    | (have _t := t1; go_at_call 90; refine (H0.out _).mono ?_; rintro e w1 ⟨rfl, ok1⟩; clear t1; have HO1 := hide3 ok1; clear ok1)
    | (go_at_call 90; refine (H9.out _).mono ?_; rintro e w2 ⟨rfl, ok2⟩; have HO2 := hide3 (below_then HO1.out ok2); clear ok2))
  go_ret
  exact ⟨_, rfl, HS.out _ HO2.out⟩

theorem alt_known : altR ⟨#[94, 49, 46, 50, 46, 51]⟩ = some [(1002003, 1999999)] := by decide +kernel
theorem pieces_known : piecesB ⟨#[94, 49, 46, 50, 46, 51]⟩ ⟨#[124, 124]⟩ = [⟨#[94, 49, 46, 50, 46, 51]⟩] := by decide +kernel
theorem pieces_known2 : piecesB ⟨#[94, 49, 46, 50, 46, 51]⟩ ⟨#[32]⟩ = [⟨#[94, 49, 46, 50, 46, 51]⟩] := by decide +kernel
theorem print_known : printR [(1002003, 1999999)] = ⟨#[62, 61, 49, 46, 50, 46, 51, 32, 60, 61, 49, 46, 57, 57, 57, 46, 57, 57, 57]⟩ := by decide +kernel
theorem rg_known : RangeR [(1002003, 1999999)] := ⟨by decide, by decide, by decide, trivial⟩
theorem in_known : inL (([(1002003, 1999999)] : Rg).map spR) 1 9 0 = true := by
  rw [in_rg rg_known (by decide)]
  exact ⟨by decide, Or.inl (by decide)⟩
theorem ascii_of {l : List UInt8} (h : (l.all fun b => decide (b.toNat < 128)) = true) : ∀ (j : Nat) b, l[j]? = some b → b.toNat < 128 := by
  intro j b hj
  have := List.all_eq_true.1 h b (List.mem_of_getElem? hj)
  simpa using this
theorem plain_known : PlainT ⟨#[94, 49, 46, 50, 46, 51]⟩ := by
  unfold PlainT
  rw [pieces_known]
  intro a ha
  rw [List.mem_singleton] at ha
  subst ha
  rw [pieces_known2]
  intro p hp _
  rw [List.mem_singleton] at hp
  subst hp
  exact Or.inr (ascii_of (by decide))

end Go.Proofs.YthoacfmfpbngkaaGreatDoor
namespace Go.Proofs.YthoacfmfpbngkaaGreatDoor
open Go.ChangeShapes Go.WideShapes Go.ChangeAt Go.RowKit
set_option maxRecDepth 100000

theorem star : "*" ++ "errors.errorString" = "*errors.errorString" := by decide

theorem row_err (u : TypeId) (h : Tryz.prog.typeName? 3 u = some "*errors.errorString") : u = 174 :=
  typeName_ptr_named (nm := "errors.errorString") (by rw [star]; kernel_rfl) (by kernel_rfl) (by decide) u (by rw [star]; exact h)

theorem max_cell {W : World} (h : W.ShapedOpen Tryz.prog) : ∃ m, W.cell? ⟨2, 0, none⟩ = some (.int .i64 m) :=
  cell_of_shapedOpen_int (t := 3) (zero := #[.int .i64 0]) h (by decide +kernel) (by kernel_rfl) rfl (by kernel_rfl) (by kernel_rfl) Tryz.underlying3

theorem env_of {W : World} (hsh : W.ShapedOpen Tryz.prog) (h : laidMet Tryz.prog [("math/bits.deBruijn32tab", Rows.laid_math_bits_deBruijn32tab), ("math/bits.deBruijn64tab", Rows.laid_math_bits_deBruijn64tab), ("internal/strconv.uint64pow10", Rows.laid_internal_strconv_uint64pow10), ("strconv.ErrRange", Rows.laid_strconv_ErrRange), ("strconv.ErrSyntax", Rows.laid_strconv_ErrSyntax)] W) : Env W := by
  have hT := tab_is h
  have h3 := laidMet.tail (laidMet.tail (laidMet.tail h))
  have h4 := laidMet.tail h3
  obtain ⟨a1, s1, hv1, _⟩ := laid_sentinel h3 (g := 4) (ti := 74) (te := 176) (ts := 9) (by kernel_rfl) (by kernel_rfl) Tryz.underlying74 row_err Tryz.underlying174 Tryz.underlying176 rfl rfl Tryz.underlying9 (by kernel_rfl) (by kernel_rfl)
  obtain ⟨a2, s2, hv2, _⟩ := laid_sentinel h4 (g := 3) (ti := 74) (te := 176) (ts := 9) (by kernel_rfl) (by kernel_rfl) Tryz.underlying74 row_err Tryz.underlying174 Tryz.underlying176 rfl rfl Tryz.underlying9 (by kernel_rfl) (by kernel_rfl)
  have c1 := World.var?_cell (g := 4) (by kernel_rfl) hv1 0
  have c2 := World.var?_cell (g := 3) (by kernel_rfl) hv2 0
  exact { max := max_cell hsh, tab := hT, syn := ⟨_, _, by simpa using c2⟩, rng := ⟨_, _, by simpa using c1⟩ }
end Go.Proofs.YthoacfmfpbngkaaGreatDoor
namespace Go.Proofs.YthoacfmfpbngkaaGreatDoor
open Go.ChangeShapes Go.WideShapes Go.ChangeAt Go.RowKit
set_option maxRecDepth 100000

theorem cellsSp : Tryz.prog.cellsOf 90 = 6 := by kernel_rfl

theorem ints_of {H : Type} {enc : TypeId × Value → H} {W : World} {base : Nat} {spare : Nat → Bool} {held : Bool} {n : Nat} {cs : List Value} {x : DataW H × List MemPlace} (h : DataW.trod enc Tryz.prog W base spare held n 23 cs = some x) :
    ∃ a b c, cs[0]? = some (.int .i64 a) ∧ cs[1]? = some (.int .i64 b) ∧ cs[2]? = some (.int .i64 c) ∧ x.1 = .agg [.lit (.int .i64 a), .lit (.int .i64 b), .lit (.int .i64 c)] := by
  have hs : Tryz.prog.underlying 23 = some (.struct (Tryz.prog.fieldsOf 23)) := by kernel_rfl
  obtain ⟨xs, n', _, hx, _, hxl, hf⟩ := DataW.trod_struct hs h
  have hfz : (Tryz.prog.fieldsOf 23).size = 3 := by kernel_rfl
  have ints : ∀ i off, ((Tryz.prog.fieldsOf 23)[i]?).map (fun f => (f.type, f.offset)) = some (3, off) → i < 3 → ∃ k, cs[off]? = some (.int .i64 k) ∧ xs[i]? = some (.lit (.int .i64 k), []) := by
    intro i off hfd hi
    obtain ⟨f, h1, h2, h3⟩ := field_at hfd
    have hr := hf i f h1
    rw [h2, h3, cellsInt, List.getElem?_eq_getElem (by omega : i < xs.length)] at hr
    obtain ⟨k, e1, e2, wk⟩ := DataW.trod_int Tryz.underlying3 hr
    exact ⟨k, take_one e1, by rw [List.getElem?_eq_getElem (by omega : i < xs.length), e2]⟩
  obtain ⟨a, a0, x0⟩ := ints 0 0 (by kernel_rfl) (by decide)
  obtain ⟨b, a1, x1⟩ := ints 1 1 (by kernel_rfl) (by decide)
  obtain ⟨c, a2, x2⟩ := ints 2 2 (by kernel_rfl) (by decide)
  refine ⟨a, b, c, a0, a1, a2, ?_⟩
  rw [hx]
  obtain ⟨y0, y1, y2, rfl⟩ := list3 (l := xs) (by omega)
  simp at x0 x1 x2
  subst x0 x1 x2
  rfl

theorem span_read {H : Type} {enc : TypeId × Value → H} {W : World} {base : Nat} {spare : Nat → Bool} {held : Bool} {n : Nat} {g o : Nat} {cs : List Value} {x : DataW H × List MemPlace} (hc : W.cells? base ⟨g, o, none⟩ 6 = some cs) (h : DataW.trod enc Tryz.prog W base spare held n 90 cs = some x) : ∃ s, SpAt W g o s := by
  have hs : Tryz.prog.underlying 90 = some (.struct (Tryz.prog.fieldsOf 90)) := by kernel_rfl
  obtain ⟨xs, n', _, _, _, hxl, hf⟩ := DataW.trod_struct hs h
  have hsz : (Tryz.prog.fieldsOf 90).size = 2 := by kernel_rfl
  obtain ⟨_, _, hq⟩ := World.cells?_some hc
  have vers : ∀ i off, ((Tryz.prog.fieldsOf 90)[i]?).map (fun f => (f.type, f.offset)) = some (23, off) → i < 2 → ∃ a b c, cs[off]? = some (.int .i64 a) ∧ cs[off + 1]? = some (.int .i64 b) ∧ cs[off + 2]? = some (.int .i64 c) := by
    intro i off hfd hi
    obtain ⟨f, h1, h2, h3⟩ := field_at hfd
    have hr := hf i f h1
    rw [h2, h3, cellsVer, List.getElem?_eq_getElem (by omega : i < xs.length)] at hr
    obtain ⟨a, b, c, e0, e1, e2, _⟩ := ints_of hr
    simp at e0 e1 e2
    exact ⟨a, b, c, e0, e1, e2⟩
  obtain ⟨a, b, c, a0, a1, a2⟩ := vers 0 0 (by kernel_rfl) (by decide)
  obtain ⟨x, y, z, a3, a4, a5⟩ := vers 1 3 (by kernel_rfl) (by decide)
  have ad : ∀ i, (⟨g, o, none⟩ : Addr).add i = ⟨g, o + i, none⟩ := fun i => by unfold Addr.add; split <;> simp_all
  have q0 := hq 0 (by decide)
  have q1 := hq 1 (by decide)
  have q2 := hq 2 (by decide)
  have q3 := hq 3 (by decide)
  have q4 := hq 4 (by decide)
  have q5 := hq 5 (by decide)
  rw [ad] at q0 q1 q2 q3 q4 q5
  exact ⟨⟨a, b, c, x, y, z⟩, by rw [← a0, ← q0]; rfl, by rw [← a1, ← q1], by rw [← a2, ← q2], by rw [← a3, ← q3], by rw [← a4, ← q4], by rw [← a5, ← q5]⟩

theorem list_of {P : Nat → Sp → Prop} : ∀ {n : Nat}, (∀ i, i < n → ∃ s, P i s) → ∃ L : List Sp, L.length = n ∧ ∀ i (h : i < L.length), P i L[i]
  | 0, _ => ⟨[], rfl, fun i h => by simp at h⟩
  | n + 1, h => by
    obtain ⟨L, hl, hP⟩ := list_of (n := n) fun i hi => h i (by omega)
    obtain ⟨s, hs⟩ := h n (by omega)
    refine ⟨L ++ [s], by simp [hl], fun i hi => ?_⟩
    by_cases hin : i < L.length
    · rw [List.getElem_append_left hin]; exact hP i hin
    · have : i = n := by simp at hi; omega
      subst this
      simpa [hl] using hs

/-- A list of spans that came in. -/
theorem open_spans {H : Type} {enc : TypeId × Value → H} {W : World} {base fuel : Nat} {held : Bool} {a : Option Addr} {len cap : Nat} {x : DataW H × List MemPlace} (h : DataW.trod enc Tryz.prog W base (fun _ => true) held fuel 58 [.slice a len cap] = some x) :
    ∃ L : List Sp, SpansC W (.slice a len cap) L := by
  rcases Go.Deep.open_slice Tryz.underlying58 h with ⟨hcs, _⟩ | ⟨ad, l, c, m, n, D, Pl, hcs, _, hl, _, hm, hx, hel⟩
  · simp only [List.cons.injEq, Value.slice.injEq, and_true] at hcs
    obtain ⟨rfl, rfl, rfl⟩ := hcs
    exact ⟨[], ⟨_, _, rfl, Or.inl rfl⟩, _, _, _, rfl, Nat.le_refl _⟩
  · simp only [List.cons.injEq, Value.slice.injEq, and_true] at hcs
    obtain ⟨rfl, rfl, rfl⟩ := hcs
    rcases Nat.eq_zero_or_pos len with h0 | h0
    · subst h0
      exact ⟨[], ⟨_, _, rfl, Or.inl rfl⟩, _, _, _, rfl, hl⟩
    · have hmm : len ≤ m := by rw [hm]; simp; exact hl
      rw [cellsSp] at hel
      obtain ⟨g, off, spot⟩ := ad
      obtain ⟨cs0, hc0, _⟩ := hel 0 (by omega)
      obtain ⟨_, hln, hq⟩ := World.cells?_some hc0
      have hcell := hq 0 (by decide)
      rw [List.getElem?_eq_getElem (by omega : 0 < cs0.length)] at hcell
      have hspot : spot = none := by simpa [Addr.add] using World.cell?_spot hcell
      subst hspot
      have ad2 : ∀ o i, (⟨g, o, none⟩ : Addr).add i = ⟨g, o + i, none⟩ := fun o i => by unfold Addr.add; split <;> simp_all
      obtain ⟨L, hL, hP⟩ := list_of (P := fun i s => SpAt W g (off + i * 6) s) (n := len) fun i hi => by
        obtain ⟨cs, hc, ht⟩ := hel i (by omega)
        rw [ad2] at hc
        exact span_read hc ht
      subst hL
      refine ⟨L, ⟨_, _, rfl, Or.inr ⟨g, off, rfl, ?_, hP⟩⟩, _, _, _, rfl, hl⟩
      have := cell_in hcell
      rw [ad2, ad2] at this; exact this

/-- A variable of three ints that is listed first. -/
theorem ver_laid {W : World} {nm : String} {a b c : Int} {r : List (String × DataW Unit)} {g : Nat} (hg : Tryz.prog.globalNamed nm = some g) (hty : (Tryz.prog.globals[g]?).map (·.type) = some 23)
    (h : laidMet Tryz.prog ((nm, .agg [.lit (.int .i64 a), .lit (.int .i64 b), .lit (.int .i64 c)]) :: r) W) :
    W.cell? ⟨g, 0, none⟩ = some (.int .i64 a) ∧ W.cell? ⟨g, 1, none⟩ = some (.int .i64 b) ∧ W.cell? ⟨g, 2, none⟩ = some (.int .i64 c) := by
  obtain ⟨ps, ⟨g', t', cs, fuel, p, q, hg', ht', hvar, hd, _, _⟩, _⟩ := h
  obtain rfl := Option.some.inj (hg.symm.trans hg')
  obtain rfl := Option.some.inj (hty.symm.trans ht')
  obtain ⟨x, y, z, e0, e1, e2, hx⟩ := ints_of hd
  simp at hx
  obtain ⟨rfl, rfl, rfl⟩ := hx
  have c0 := World.var?_cell hg hvar 0
  have c1 := World.var?_cell hg hvar 1
  have c2 := World.var?_cell hg hvar 2
  exact ⟨by rw [c0]; simpa using e0, by rw [c1]; simpa using e1, by rw [c2]; simpa using e2⟩

/-- What the rows of this layer list. -/
abbrev laid3 : List (String × DataW Unit) := [("math/bits.deBruijn32tab", Rows.laid_math_bits_deBruijn32tab), ("math/bits.deBruijn64tab", Rows.laid_math_bits_deBruijn64tab), ("internal/strconv.uint64pow10", Rows.laid_internal_strconv_uint64pow10), ("unicode/utf8.acceptRanges", Rows.laid_unicode_utf8_acceptRanges), ("strconv.ErrRange", Rows.laid_strconv_ErrRange), ("strconv.ErrSyntax", Rows.laid_strconv_ErrSyntax), ("halyard/span.first", Rows.laid_halyard_span_first), ("halyard/span.last", Rows.laid_halyard_span_last), ("unicode/utf8.first", Rows.laid_unicode_utf8_first)]
theorem env3_of {W : World} (hsh : W.ShapedOpen Tryz.prog) (h : laidMet Tryz.prog laid3 W) : Env W ∧ FL W := by
  have hT := tab_is h
  have h3 := laidMet.tail (laidMet.tail (laidMet.tail (laidMet.tail h)))
  have h4 := laidMet.tail h3
  have h5 := laidMet.tail h4
  have h6 := laidMet.tail h5
  obtain ⟨a1, s1, hv1, _⟩ := laid_sentinel h3 (g := 4) (ti := 74) (te := 176) (ts := 9) (by kernel_rfl) (by kernel_rfl) Tryz.underlying74 row_err Tryz.underlying174 Tryz.underlying176 rfl rfl Tryz.underlying9 (by kernel_rfl) (by kernel_rfl)
  obtain ⟨a2, s2, hv2, _⟩ := laid_sentinel h4 (g := 3) (ti := 74) (te := 176) (ts := 9) (by kernel_rfl) (by kernel_rfl) Tryz.underlying74 row_err Tryz.underlying174 Tryz.underlying176 rfl rfl Tryz.underlying9 (by kernel_rfl) (by kernel_rfl)
  have c1 := World.var?_cell (g := 4) (by kernel_rfl) hv1 0
  have c2 := World.var?_cell (g := 3) (by kernel_rfl) hv2 0
  have f1 := ver_laid (g := 0) (by kernel_rfl) (by kernel_rfl) h5
  have f2 := ver_laid (g := 1) (by kernel_rfl) (by kernel_rfl) h6
  exact ⟨{ max := max_cell hsh, tab := hT, syn := ⟨_, _, by simpa using c2⟩, rng := ⟨_, _, by simpa using c1⟩ }, f1, f2, cell_in f1.1, cell_in f2.1⟩
end Go.Proofs.YthoacfmfpbngkaaGreatDoor
namespace Go.Proofs.YthoacfmfpbngkaaGreatDoor
open Go.ChangeShapes Go.WideShapes Go.ChangeAt Go.RowKit
set_option maxRecDepth 100000

theorem cellsStrD : Tryz.prog.cellsOf 9 = 1 := by kernel_rfl
theorem cellsSps : Tryz.prog.cellsOf 58 = 1 := by kernel_rfl
theorem cellsDep : Tryz.prog.cellsOf 60 = 2 := by kernel_rfl
theorem cellsDeps : Tryz.prog.cellsOf 24 = 1 := by kernel_rfl
theorem list_any {α : Type} {P : Nat → α → Prop} : ∀ {n : Nat}, (∀ i, i < n → ∃ s, P i s) → ∃ L : List α, L.length = n ∧ ∀ i (h : i < L.length), P i L[i]
  | 0, _ => ⟨[], rfl, fun i h => by simp at h⟩
  | n + 1, h => by
    obtain ⟨L, hl, hP⟩ := list_any (n := n) fun i hi => h i (by omega)
    obtain ⟨s, hs⟩ := h n (by omega)
    refine ⟨L ++ [s], by simp [hl], fun i hi => ?_⟩
    by_cases hin : i < L.length
    · rw [List.getElem_append_left hin]; exact hP i hin
    · have : i = n := by simp at hi; omega
      subst this
      simpa [hl] using hs
theorem take1 {cs : List Value} {o : Nat} {v : Value} (h : (cs.drop o).take 1 = [v]) : cs[o]? = some v := by
  have h0 : ((cs.drop o).take 1)[0]? = some v := by rw [h]; rfl
  simpa using h0

theorem spans_cs {H : Type} {enc : TypeId × Value → H} {W : World} {base fuel : Nat} {held : Bool} {cs : List Value} {x : DataW H × List MemPlace} (h : DataW.trod enc Tryz.prog W base (fun _ => true) held fuel 58 cs = some x) :
    ∃ v L, cs = [v] ∧ SpansC W v L ∧ L.length ≤ 9223372036854775807 := by
  rcases Go.Deep.open_slice Tryz.underlying58 h with ⟨rfl, _⟩ | ⟨ad, l, c, m, n, D, Pl, rfl, _, hl, hm, _⟩
  · obtain ⟨L, hL⟩ := open_spans h
    obtain ⟨a', c', e, _⟩ := hL.1
    cases L with
    | nil => exact ⟨_, [], rfl, hL, by simp⟩
    | cons s L => simp at e
  · obtain ⟨L, hL⟩ := open_spans h
    refine ⟨_, L, rfl, hL, ?_⟩
    obtain ⟨a', c', e, _⟩ := hL.1
    simp only [Value.slice.injEq] at e
    obtain ⟨_, rfl, _⟩ := e
    unfold maxLen at hm
    omega
theorem dep_read {H : Type} {enc : TypeId × Value → H} {W : World} {base : Nat} {held : Bool} {n : Nat} {g o : Nat} {cs : List Value} {x : DataW H × List MemPlace} (hc : W.cells? base ⟨g, o, none⟩ 2 = some cs) (h : DataW.trod enc Tryz.prog W base (fun _ => true) held n 60 cs = some x) : ∃ d : Dp, (∃ u, DpIn W g o d u) ∧ d.nm.size ≤ 9223372036854775807 := by
  have hs : Tryz.prog.underlying 60 = some (.struct (Tryz.prog.fieldsOf 60)) := by kernel_rfl
  obtain ⟨xs, n', _, _, _, hxl, hf⟩ := DataW.trod_struct hs h
  have hsz : (Tryz.prog.fieldsOf 60).size = 2 := by kernel_rfl
  obtain ⟨_, hcl, hq⟩ := World.cells?_some hc
  obtain ⟨f0, i0, t0, o0⟩ := field_at (fs := Tryz.prog.fieldsOf 60) (i := 0) (ty := 9) (off := 0) (by kernel_rfl)
  obtain ⟨f1, i1, t1, o1⟩ := field_at (fs := Tryz.prog.fieldsOf 60) (i := 1) (ty := 58) (off := 1) (by kernel_rfl)
  have r0 := hf 0 f0 i0
  have r1 := hf 1 f1 i1
  rw [t0, o0, cellsStrD, List.getElem?_eq_getElem (by omega : 0 < xs.length)] at r0
  rw [t1, o1, cellsSps, List.getElem?_eq_getElem (by omega : 1 < xs.length)] at r1
  obtain ⟨s, e0, _, hs0⟩ := DataW.trod_string Tryz.underlying9 r0
  obtain ⟨v, L, e1, hL, hz⟩ := spans_cs r1
  have q0 := hq 0 (by decide)
  have q1 := hq 1 (by decide)
  have ad : ∀ i, (⟨g, o, none⟩ : Addr).add i = ⟨g, o + i, none⟩ := fun i => by unfold Addr.add; split <;> simp_all
  rw [ad, take1 e0] at q0
  rw [ad, take1 e1] at q1
  exact ⟨⟨s, L⟩, ⟨v, q0, q1, ⟨hL, hz⟩, cell_in q1⟩, by unfold maxLen at hs0; exact hs0⟩
/-- A list of dependencies that came in. -/
theorem deps_cs {H : Type} {enc : TypeId × Value → H} {W : World} {base fuel : Nat} {held : Bool} {cs : List Value} {x : DataW H × List MemPlace} (h : DataW.trod enc Tryz.prog W base (fun _ => true) held fuel 24 cs = some x) :
    ∃ v L, cs = [v] ∧ DepsAt W v L ∧ L.length ≤ 9223372036854775807 ∧ ∀ d ∈ L, d.nm.size ≤ 9223372036854775807 := by
  rcases Go.Deep.open_slice Tryz.underlying24 h with ⟨rfl, _⟩ | ⟨ad, len, cap, m, n, D, Pl, rfl, _, hl, hcm, hm, hx, hel⟩
  · exact ⟨_, [], rfl, ⟨none, 0, rfl, Nat.le_refl _, Or.inl rfl⟩, by simp, (fun d hd => by cases hd)⟩
  · have hz : len ≤ 9223372036854775807 := by unfold maxLen at hcm; omega
    rcases Nat.eq_zero_or_pos len with h0 | h0
    · subst h0
      exact ⟨_, [], rfl, ⟨_, _, rfl, Nat.zero_le _, Or.inl rfl⟩, by simp, (fun d hd => by cases hd)⟩
    · have hmm : len ≤ m := by rw [hm]; simp; exact hl
      rw [cellsDep] at hel
      obtain ⟨g, off, spot⟩ := ad
      obtain ⟨cs0, hc0, _⟩ := hel 0 (by omega)
      obtain ⟨_, hln, hq⟩ := World.cells?_some hc0
      have hcell := hq 0 (by decide)
      rw [List.getElem?_eq_getElem (by omega : 0 < cs0.length)] at hcell
      have hspot : spot = none := by simpa [Addr.add] using World.cell?_spot hcell
      subst hspot
      have ad2 : ∀ o i, (⟨g, o, none⟩ : Addr).add i = ⟨g, o + i, none⟩ := fun o i => by unfold Addr.add; split <;> simp_all
      obtain ⟨L, hL, hP⟩ := list_any (P := fun i (d : Dp) => (∃ u, DpIn W g (off + i * 2) d u) ∧ d.nm.size ≤ 9223372036854775807) (n := len) fun i hi => by
        obtain ⟨cs, hc, ht⟩ := hel i (by omega)
        rw [ad2] at hc
        exact dep_read hc ht
      subst hL
      refine ⟨_, L, rfl, ⟨_, _, rfl, hl, Or.inr ⟨g, off, rfl, ?_, fun i hi => (hP i hi).1⟩⟩, hz, ?_⟩
      · have := cell_in hcell
        rw [ad2, ad2] at this; exact this
      · intro d hd
        obtain ⟨i, hi, rfl⟩ := List.getElem_of_mem hd
        exact (hP i hi).2
end Go.Proofs.YthoacfmfpbngkaaGreatDoor
