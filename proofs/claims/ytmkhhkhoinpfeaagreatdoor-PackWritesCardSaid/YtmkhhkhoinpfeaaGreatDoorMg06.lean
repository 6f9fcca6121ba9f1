/- Pr2, Kn1, Pk1, Pk2, ScPl1, laid in one text. -/
import Derived.Lib.Join
import Derived.Test.YtmkhhkhoinpfeaaGreatDoorProg
import Derived.Test.YtmkhhkhoinpfeaaGreatDoorMg05
namespace Go.Proofs.YtmkhhkhoinpfeaaGreatDoor
open Go.RowKit
set_option maxRecDepth 100000

theorem infoStr : (Tryz.prog.info? 9).map (fun i => (i.zero, i.size, i.bytes)) = some (some (.string ByteArray.empty), 1, 16) := by kernel_rfl

/-- A row of texts of one's own. -/
def OwnT (w : World) (B : Nat) (v : Value) (ts : List ByteArray) : Prop := w.ownsRow B 9 1 v ts.length (ts.map Value.string)
theorem OwnT.nil (w : World) (B : Nat) : OwnT w B (.slice none 0 0) [] := ⟨rfl, Or.inl ⟨rfl, rfl⟩⟩
theorem OwnT.lt {w : World} {B : Nat} {v : Value} {L : List ByteArray} (h : OwnT w B v L) {g : Nat} (hg : v.ownBlock = some g) : g < w.heap.size ∧ B ≤ g := by
  rcases h.2 with ⟨rfl, _⟩ | ⟨g', cap, cur, rfl, hB, hgg, _⟩
  · cases hg
  · cases hg
    exact ⟨by rw [Array.getElem?_eq_some_iff] at hgg; exact hgg.1, hB⟩
theorem OwnT.below {w w' : World} {B : Nat} {v : Value} {L : List ByteArray} (h : OwnT w B v L) (hb : Below w.heap.size w w') : OwnT w' B v L := by
  refine ⟨h.1, ?_⟩
  have hl := fun g hg => (h.lt (g := g) hg).1
  rcases h.2 with hn | ⟨g, cap, cur, rfl, hB, hgg, r⟩
  · exact Or.inl hn
  · exact Or.inr ⟨g, cap, cur, rfl, hB, (hb.block g (hl g rfl)).trans hgg, r⟩

/-- A text is put behind a row. -/
theorem wp_appT {w wx : World} {uo : Value} {ts : List ByteArray} {tx : ByteArray} {ops : Array Oper} {rest : List Oper} {o : Oper} {f : Act} {Q : Exit → Act → World → Prop} (hgd : o.guard = none) (s t : Operand)
    (ho : o.op = .call { callee := .builtin .append, args := #[s, t], argTypes := #[56, 56] }) (hs : f.eval s = uo)
    (hK : Below w.heap.size w wx ∧ OwnT wx w.heap.size uo ts) {M : Nat} (hM : wx.heap.size = M) (hx : f.eval t = .slice (some ⟨M, 0, none⟩) 1 1) (hlen : ts.length + 1 ≤ 1000000000000)
    (h : ∀ v1 w1, (Below w.heap.size w w1 ∧ OwnT w1 w.heap.size v1 (ts ++ [tx])) → wpList Tryz.prog ops Q rest (f.put o.dst v1) w1) :
    wpList Tryz.prog ops Q (o :: rest) f (wx.alloc (.cells #[.string tx] 9)) := by
  subst hM
  obtain ⟨i0, hi, hz0, hz1, hz2⟩ : ∃ i, Tryz.prog.info? 9 = some i ∧ i.zero = some (.string ByteArray.empty) ∧ i.size = 1 ∧ i.bytes = 16 := by
    have := infoStr
    cases hq : Tryz.prog.info? 9 with
    | none => rw [hq] at this; cases this
    | some i =>
      rw [hq] at this
      simp only [Option.map_some, Option.some.injEq, Prod.mk.injEq] at this
      exact ⟨i, rfl, this.1, this.2.1, this.2.2⟩
  have hob : OwnT (wx.alloc (.cells #[.string tx] 9)) w.heap.size uo ts := hK.2.below (boxB _ _)
  have hsz : (wx.alloc (.cells #[.string tx] 9)).heap.size = wx.heap.size + 1 := by simp
  have hwx := hK.1.size
  refine wpList_append_own_at _ hgd s t 56 ho w.heap.size 9 i0 _ 1 16 Tryz.underlying56 hi hz0 hz1 hz2 rfl (by decide) uo _ _ hs hob ⟨wx.heap.size, 0, none⟩ 1 1 [.string tx] hx rfl
    (World.news_of_block (cs := #[.string tx]) (t := 9) (fr := (0, 0)) (by show (wx.heap.push _)[wx.heap.size]? = _; rw [Array.getElem?_push, if_pos rfl])) (by simp [Value.oneCell']) (by unfold maxLen; omega) (by omega) (by omega) ?_
  intro v1 w1 hown1 hg1 _ hat
  refine h v1 w1 ⟨(below_then hK.1 (boxB _ _)).grown hg1 (by omega) (fun k hk => (hK.2.lt hk).2), ?_⟩
  unfold OwnT
  rw [List.map_append, List.map_singleton, List.length_append]
  exact hown1

/-- A span's text, by its places; a range's. -/
def spT (p : Int × Int) : ByteArray := spanT (atA p.1) (atB p.1) (atC p.1) (atA p.2) (atB p.2) (atC p.2)
def printR (A : Rg) : ByteArray := match A with
  | [] => ⟨#[60]⟩ ++ textV 0 0 0
  | p :: A => ⟨(Lib.join ((p :: A).map fun p => (spT p).data.toList) [32, 124, 124, 32]).toArray⟩

theorem spanT_size (a b c x y z : Int) : (spanT a b c x y z).size ≤ 27 := by
  have h1 := text_size a b c
  have h2 := text_size x y z
  have z2 : (⟨#[62, 61]⟩ : ByteArray).size = 2 := rfl
  have z4 : (⟨#[60, 61]⟩ : ByteArray).size = 2 := rfl
  have z5 : (⟨#[42]⟩ : ByteArray).size = 1 := rfl
  have z3 : (⟨#[32, 60, 61]⟩ : ByteArray).size = 3 := rfl
  unfold spanT
  repeat' split
  all_goals first | omega | (simp only [size_cat]; omega)
theorem lens_le (m : Nat) : ∀ (l : List (List UInt8)), (∀ x ∈ l, x.length ≤ m) → Lib.lens l ≤ m * l.length
  | [], _ => by simp [Lib.lens]
  | x :: l, h => by
    have ih := lens_le m l fun y hy => h y (List.mem_cons_of_mem _ hy)
    have hx := h x List.mem_cons_self
    have : Lib.lens (x :: l) = x.length + Lib.lens l := by simp [Lib.lens]
    rw [this, List.length_cons, Nat.mul_succ]; omega

theorem join_fits {A : Rg} (h : A.length ≤ 64) : (Lib.join (A.map fun p => (spT p).data.toList) [32, 124, 124, 32]).length ≤ 10000 := by
  cases A with
  | nil => simp [Lib.join_nil]
  | cons p A =>
    rw [List.map_cons, Lib.join_length, ← List.map_cons (f := fun p => (spT p).data.toList)]
    have := lens_le 27 ((p :: A).map fun p => (spT p).data.toList) (by
      intro x hx
      obtain ⟨q, _, rfl⟩ := List.mem_map.1 hx
      exact spanT_size _ _ _ _ _ _)
    simp only [List.length_map, List.length_cons, List.length_nil] at *
    omega

theorem Join_own {w : World} {B : Nat} {v : Value} {A : Rg} (h : OwnT w B v (A.map spT)) (hl : A.length ≤ 64) (h0 : A ≠ []) :
    Calls Tryz.prog 94 #[v, .string ⟨#[32, 124, 124, 32]⟩] w fun e w' => e = .returned (.string (printR A)) ∧ Below w.heap.size w w' := by
  have hlt := fun g hg => (h.lt (g := g) hg).1
  rcases h.2 with ⟨_, hn⟩ | ⟨g, cap, cur, rfl, hB, hgg, hc, hm, hs, hx⟩
  · rw [List.length_map] at hn
    exact (h0 (List.eq_nil_of_length_eq_zero hn)).elim
  · have hj := join_fits hl
    have hmm : (A.map spT).map (·.data.toList) = A.map fun p => (spT p).data.toList := by rw [List.map_map]; rfl
    refine (Tryz.strings_Join g 0 cap (A.map spT) ⟨#[32, 124, 124, 32]⟩ w ?_ (hlt g rfl) (by rw [List.length_map]; omega) hc (by rw [hmm]; show (Lib.join _ [32, 124, 124, 32]).length ≤ _; omega)).mono ?_
    · intro j x hj
      have : (((A.map spT).map Value.string))[j]? = some (.string x) := by rw [List.getElem?_map, hj]; rfl
      rw [← hx, List.getElem?_take] at this
      split at this
      · rw [Nat.zero_add]
        simp [World.cell?, hgg]
        simpa using this
      · cases this
    · rintro e w' ⟨rfl, hb⟩
      refine ⟨?_, hb⟩
      rw [hmm]
      cases A with
      | nil => exact (h0 rfl).elim
      | cons p A => rfl

set_option maxHeartbeats 3200000 in
theorem sPrint_walk (A : Rg) (g o cap : Nat) (w : World) (he : Env w) (hf : FL w) (hlen : A.length ≤ 64) (h0 : ((A.length : Int) == 0) = false) (hg : g < w.heap.size) (hl : ∀ i (h : i < A.length), SpAt w g (o + i * 6) (spR A[i]))
    (HMay : Hid (Calls Tryz.prog 92 #[.slice (some ⟨g, o, none⟩) A.length cap] w fun e w' => e = .returned (.bool true) ∧ Below w.heap.size w w')) :
    Calls Tryz.prog 76 #[.slice (some ⟨g, o, none⟩) A.length cap] w fun e w' => e = .returned (.string (printR A)) ∧ Below w.heap.size w w' := by
  have HL : Hid (∀ w1, Below w.heap.size w w1 → ∀ i (h : i < A.length), SpAt w1 g (o + i * 6) (spR A[i])) := fun w1 hb i hi => (hl i hi).below hb hg
  have HP : Hid (∀ (p : Int × Int) w1, Below w.heap.size w w1 → Calls Tryz.prog 93 #[.agg #[.int .i64 (atA p.1), .int .i64 (atB p.1), .int .i64 (atC p.1), .int .i64 (atA p.2), .int .i64 (atB p.2), .int .i64 (atC p.2)]] w1 fun e w' => e = .returned (.string (spT p)) ∧ Below w1.heap.size w1 w') := fun p w1 hb => printSpan_any _ _ _ _ _ _ w1 (he.below hb) (hf.below hb)
  have HJ : Hid (∀ w1 v1, OwnT w1 w.heap.size v1 (A.map spT) → Calls Tryz.prog 94 #[v1, .string ⟨#[32, 124, 124, 32]⟩] w1 fun e w' => e = .returned (.string (printR A)) ∧ Below w1.heap.size w1 w') := fun w1 v1 h => Join_own h hlen (fun e => by subst e; simp at h0)
  clear hl he hf
  go_enter Tryz.func76, Tryz.ntmps76
  go_wp2_with (go_at_call 92; refine HMay.out.mono ?_; rintro e w1 ⟨rfl, ok1⟩; have HO1 := hide3 ok1; clear ok1)
  go_loopw [3, 17] (fun out i wr => ∃ k : Nat, k ≤ A.length ∧ i = .int .i64 k ∧ Below w.heap.size w wr ∧ OwnT wr w.heap.size out ((A.take k).map spT)) (fun _ i _ => A.length - (intOf i).toNat)
  case atStart => exact ⟨0, Nat.zero_le _, rfl, HO1.out, OwnT.nil _ _⟩
  case round =>
    obtain ⟨k, hk, rfl, hb, hown⟩ := hrel
    have HB := hide3 hb
    have HOWN := hide3 hown
    clear hown
    by_cases hlt : k < A.length
    · have hs := HL.out wr hb k hlt
      have HD : Hid ((A.take k).map spT ++ [spT A[k]] = (A.take (k + 1)).map spT) := by unfold Hid; rw [List.take_succ_eq_append_getElem hlt, List.map_append]; rfl
      generalize A[k] = p at *
      obtain ⟨lo, hi⟩ := p
      obtain ⟨c0, c1, c2, c3, c4, c5⟩ := hs
      simp only [spR] at c0 c1 c2 c3 c4 c5
      have HPp := hide3 (fun w1 hb => HP.out (lo, hi) w1 hb)
      have HLN : Hid (((A.take k).map spT).length + 1 ≤ 1000000000000) := by unfold Hid; simp; omega
      clear hb
      go_wp2_with (first
        | (go_at_call 93; refine (HPp.out _ (below_then HB.out (boxB _ _))).mono ?_; rintro e w2 ⟨rfl, ok2⟩; have HO2 : Hid (Below w.heap.size w w2 ∧ OwnT w2 w.heap.size u3 ((A.take k).map spT)) := ⟨below_then (below_then HB.out (boxB _ _)) ok2, (HOWN.out.below (boxB _ _)).below ok2⟩; clear ok2)
        | (at_builtin; refine wp_appT (uo := u3) (ts := (A.take k).map spT) rfl (.tmp 21) (.tmp 24) rfl rfl HO2.out rfl rfl HLN.out ?_; intro v3 w3 ok3; have HO3 := hide3 ok3; clear ok3))
      exact ⟨⟨k + 1, by omega, by go_num, HO3.out.1, by rw [← HD.out]; exact HO3.out.2⟩, by simp [intOf]; omega⟩
    · have hke : k = A.length := by omega
      subst hke
      have HOW2 : Hid (OwnT wr w.heap.size u3 (A.map spT)) := by have := HOWN.out; rw [List.take_length] at this; exact this
      clear hb
      go_wp2_with (go_at_call 94; refine (HJ.out _ _ HOW2.out).mono ?_; rintro e w2 ⟨rfl, ok2⟩; have HO2 := hide3 ok2; clear ok2)
      go_ret
      exact ⟨rfl, below_then HB.out HO2.out⟩

theorem sPrint_no (v : Value) (w : World) (HMay : Hid (Calls Tryz.prog 92 #[v] w fun e w' => e = .returned (.bool false) ∧ Below w.heap.size w w')) :
    Calls Tryz.prog 76 #[v] w fun e w' => e = .returned (.string ByteArray.empty) ∧ Below w.heap.size w w' := by
  go_enter Tryz.func76, Tryz.ntmps76
  go_wp2_with (go_at_call 92; refine HMay.out.mono ?_; rintro e w1 ⟨rfl, ok1⟩; have HO1 := hide3 ok1; clear ok1)
  go_ret
  exact ⟨rfl, HO1.out⟩

theorem sPrint_nil (ad : Option Addr) (cap : Nat) (w : World) (he : Env w) (hf : FL w) :
    Calls Tryz.prog 76 #[.slice ad 0 cap] w fun e w' => e = .returned (.string (printR [])) ∧ Below w.heap.size w w' := by
  have HMay := hide3 (sMay_nil ad cap w)
  have HP : Hid (∀ w1, Below w.heap.size w w1 → Calls Tryz.prog 44 #[.agg #[.int .i64 0, .int .i64 0, .int .i64 0]] w1 fun e w' => e = .returned (.string (textV 0 0 0)) ∧ Below w1.heap.size w1 w') := fun w1 hb => print_on he.tab 0 0 0 w1 hb
  have HF := hide3 hf
  have HR : Hid (printR [] = ⟨#[60]⟩ ++ textV 0 0 0) := rfl
  have zT := text_size 0 0 0
  have z2 : (⟨#[60]⟩ : ByteArray).size = 1 := rfl
  generalize textV 0 0 0 = T at *
  have s1 := fun W : World => run_string_add_sum (P := Tryz.prog) (w := W) ⟨#[60]⟩ T (by omega)
  clear zT z2 he hf
  go_enter Tryz.func76, Tryz.ntmps76
  go_wp2_with (first
    | (go_at_call 92; refine HMay.out.mono ?_; rintro e w1 ⟨rfl, ok1⟩; obtain ⟨⟨g0, g1, g2⟩, _⟩ := HF.out.below ok1; have HO1 := hide3 ok1; clear ok1)
    | (go_at_call 44; refine (HP.out _ HO1.out).mono ?_; rintro e w2 ⟨rfl, ok2⟩; have HO2 := hide3 ok2; clear ok2))
  go_ret
  exact ⟨by rw [HR.out]; rfl, below_then HO1.out HO2.out⟩

theorem sPrint_rg {A : Rg} (hA : RangeR A) (hl : A.length ≤ 64) {v : Value} {w : World} (h : SpansR w v A) (he : Env w) (hf : FL w) :
    Calls Tryz.prog 76 #[v] w fun e w' => e = .returned (.string (printR A)) ∧ Below w.heap.size w w' := by
  have HM : Hid (Calls Tryz.prog 92 #[v] w fun e w' => e = .returned (.bool true) ∧ Below w.heap.size w w') := by have := sMay_any h.at; rw [may_rg hA hl] at this; exact this
  obtain ⟨ad, cap, rfl, hc, hs⟩ := h
  rcases hs with rfl | ⟨g, o, rfl, hg, hs⟩
  · exact sPrint_nil ad cap w he hf
  · cases A with
    | nil => exact sPrint_nil _ cap w he hf
    | cons p A => exact sPrint_walk (p :: A) g o cap w he hf hl (by simp; omega) hg hs HM
end Go.Proofs.YtmkhhkhoinpfeaaGreatDoor
namespace Go.Proofs.YtmkhhkhoinpfeaaGreatDoor
open Go.RowKit
set_option maxRecDepth 100000

theorem eqInV (p q r : Int) (w : World) : (Op.equalIn 9999 23 (.agg #[.int .i64 p, .int .i64 q, .int .i64 r]) (.agg #[.int .i64 p, .int .i64 q, .int .i64 r])).run Tryz.prog w = .ok true w := by
  have u3 := Tryz.underlying3
  have a3 := Tryz.isAgg3
  have z3 := Tryz.sizeOf3
  rw [show (9999 : Nat) = 9998 + 1 from rfl, run_equalIn_agg w 9998 23 _ _ (by kernel_rfl) (by kernel_rfl)]
  simp only [Program.fieldsOf, Tryz.underlying23]
  go_simp

theorem neqSp (a b c x y z : Int) (w : World) : (binOp .neq 40 (.agg #[.int .i64 a, .int .i64 b, .int .i64 c, .int .i64 x, .int .i64 y, .int .i64 z]) (.agg #[.int .i64 a, .int .i64 b, .int .i64 c, .int .i64 x, .int .i64 y, .int .i64 z])).run Tryz.prog w = .ok (.bool false) w := by
  have av := Tryz.isAgg23
  have zv := Tryz.sizeOf23
  have h1 := eqInV a b c w
  have h2 := eqInV x y z w
  rw [run_neq_struct, show (10000 : Nat) = 9999 + 1 from rfl, run_equalIn_agg w 9999 40 _ _ (by kernel_rfl) (by kernel_rfl)]
  simp only [Program.fieldsOf, Tryz.underlying40]
  go_simp
theorem guardSp (op : BinOp) (x y : Operand) (xs ys : Array Value) (w : World) : (eqGuard op 40 x y (.agg xs) (.agg ys)).run Tryz.prog w = .ok () w := run_eqGuard_agg w op 40 x y xs ys (by kernel_rfl)

theorem rat_any (n : Int) (w : World) :
    Calls Tryz.prog 62 #[.int .i64 n] w fun e w' => e = .returned (.agg #[.int .i64 (atA n), .int .i64 (atB n), .int .i64 (atC n)]) ∧ Below w.heap.size w w' := by
  have HA : Hid (∀ w1, Calls Tryz.prog 83 #[.int .i64 n] w1 fun e w' => e = .returned (.tuple #[.agg #[.int .i64 (atA n), .int .i64 (atB n), .int .i64 (atC n)], .bool (hasV n)]) ∧ Below w1.heap.size w1 w') := rAt_any n
  go_enter Tryz.func62, Tryz.ntmps62
  go_wp2_with (go_at_call 83; refine (HA.out _).mono ?_; rintro e w1 ⟨rfl, hb⟩; have HB := hide3 hb; obtain ⟨k0, k1, k2, k3, k4, k5, k6⟩ := boxAt (N := w.heap.size) rfl (below_then hb (boxB w1 (.cells #[.int .i64 (atA n), .int .i64 (atB n), .int .i64 (atC n)] 23))); clear hb)
  obtain ⟨s0, s1, s2⟩ := setV k0 k1 k2
  try simp only [Exit.inBlock, Exit.then]
  refine bodyPost_ret (by simp [results, Tryz.results62, s0, s1, s2, go_sem]; try rfl) rfl ?_
  exact ⟨rfl, below_setV (Nat.le_refl _) (below_then (below_then (boxB _ _) HB.out) (boxB _ _))⟩
end Go.Proofs.YtmkhhkhoinpfeaaGreatDoor
namespace Go.Proofs.YtmkhhkhoinpfeaaGreatDoor
open Go.RowKit
set_option maxRecDepth 100000

/-- Whether two things are one. -/
noncomputable def eqB {α : Type} (x y : α) : Bool := @decide (x = y) (Classical.propDecidable _)
theorem eqB_yes {α : Type} {x y : α} (h : x = y) : eqB x y = true := by unfold eqB; exact @decide_eq_true _ (Classical.propDecidable _) h
theorem eqB_no {α : Type} {x y : α} (h : x ≠ y) : eqB x y = false := by unfold eqB; exact @decide_eq_false _ (Classical.propDecidable _) h
theorem eqB_iff {α : Type} {x y : α} : eqB x y = true ↔ x = y := ⟨fun h => by unfold eqB at h; exact @of_decide_eq_true _ (Classical.propDecidable _) h, eqB_yes⟩

/-- Two versions compared. -/
theorem eqInV2 (p q r p' q' r' : Int) (w : World) : (Op.equalIn 9999 23 (.agg #[.int .i64 p, .int .i64 q, .int .i64 r]) (.agg #[.int .i64 p', .int .i64 q', .int .i64 r'])).run Tryz.prog w = .ok (decide (p = p') && decide (q = q') && decide (r = r')) w := by
  have u3 := Tryz.underlying3
  have a3 := Tryz.isAgg3
  have z3 := Tryz.sizeOf3
  rw [show (9999 : Nat) = 9998 + 1 from rfl, run_equalIn_agg w 9998 23 _ _ (by kernel_rfl) (by kernel_rfl)]
  simp only [Program.fieldsOf, Tryz.underlying23]
  by_cases h1 : p = p'
  · by_cases h2 : q = q'
    · by_cases h3 : r = r'
      · subst h1 h2 h3; go_simp
      · subst h1 h2; simp only [h3, decide_false, Bool.and_false]; go_simp
    · subst h1; simp only [h2, decide_false, Bool.and_false, Bool.false_and]; go_simp
  · simp only [h1, decide_false, Bool.false_and]; go_simp

theorem eqV2 (p q r p' q' r' : Int) (w : World) : (binOp .eql 23 (.agg #[.int .i64 p, .int .i64 q, .int .i64 r]) (.agg #[.int .i64 p', .int .i64 q', .int .i64 r'])).run Tryz.prog w = .ok (.bool (decide (p = p') && decide (q = q') && decide (r = r'))) w := by
  have u3 := Tryz.underlying3
  have a3 := Tryz.isAgg3
  have z3 := Tryz.sizeOf3
  rw [run_eql_struct, show (10000 : Nat) = 9999 + 1 from rfl, run_equalIn_agg w 9999 23 _ _ (by kernel_rfl) (by kernel_rfl)]
  simp only [Program.fieldsOf, Tryz.underlying23]
  by_cases h1 : p = p'
  · by_cases h2 : q = q'
    · by_cases h3 : r = r'
      · subst h1 h2 h3; go_simp
      · subst h1 h2; simp only [h3, decide_false, Bool.and_false]; go_simp
    · subst h1; simp only [h2, decide_false, Bool.and_false, Bool.false_and]; go_simp
  · simp only [h1, decide_false, Bool.false_and]; go_simp

/-- The same numbers. -/
def eqS (s t : Sp) : Bool := decide (s.a = t.a) && decide (s.b = t.b) && decide (s.c = t.c) && (decide (s.x = t.x) && decide (s.y = t.y) && decide (s.z = t.z))
theorem eqS_iff {s t : Sp} : eqS s t = true ↔ s = t := by
  obtain ⟨a, b, c, x, y, z⟩ := s
  obtain ⟨a', b', c', x', y', z'⟩ := t
  unfold eqS
  simp only [Bool.and_eq_true, decide_eq_true_eq, Sp.mk.injEq]
  exact ⟨fun ⟨⟨⟨h1, h2⟩, h3⟩, ⟨h4, h5⟩, h6⟩ => ⟨h1, h2, h3, h4, h5, h6⟩, fun ⟨h1, h2, h3, h4, h5, h6⟩ => ⟨⟨⟨h1, h2⟩, h3⟩, ⟨h4, h5⟩, h6⟩⟩

theorem neqSp2 (a b c x y z a' b' c' x' y' z' : Int) (w : World) : (binOp .neq 40 (.agg #[.int .i64 a, .int .i64 b, .int .i64 c, .int .i64 x, .int .i64 y, .int .i64 z]) (.agg #[.int .i64 a', .int .i64 b', .int .i64 c', .int .i64 x', .int .i64 y', .int .i64 z'])).run Tryz.prog w = .ok (.bool (!(eqS ⟨a, b, c, x, y, z⟩ ⟨a', b', c', x', y', z'⟩))) w := by
  have av := Tryz.isAgg23
  have zv := Tryz.sizeOf23
  have h1 := eqInV2 a b c a' b' c' w
  have h2 := eqInV2 x y z x' y' z' w
  rw [run_neq_struct, show (10000 : Nat) = 9999 + 1 from rfl, run_equalIn_agg w 9999 40 _ _ (by kernel_rfl) (by kernel_rfl)]
  simp only [Program.fieldsOf, Tryz.underlying40]
  cases hq : eqS ⟨a, b, c, x, y, z⟩ ⟨a', b', c', x', y', z'⟩
  · have hn : ¬ (a = a' ∧ b = b' ∧ c = c' ∧ x = x' ∧ y = y' ∧ z = z') := by
      rintro ⟨rfl, rfl, rfl, rfl, rfl, rfl⟩
      rw [eqS_iff.2 rfl] at hq
      cases hq
    go_simp
    intro e1 e2 e3 e4 e5 e6
    exact hn ⟨e1, e2, e3, e4, e5, e6⟩
  · obtain ⟨rfl, rfl, rfl, rfl, rfl, rfl⟩ := Sp.mk.injEq .. ▸ eqS_iff.1 hq
    go_simp

set_option maxHeartbeats 1600000 in
theorem Equal_walk (A B : List Sp) (hAB : A.length = B.length) (hsz : A.length ≤ 9223372036854775807) (ga oa ca gb ob cb : Nat) (w : World) (hga : ga < w.heap.size) (hgb : gb < w.heap.size) (hla : ∀ i (h : i < A.length), SpAt w ga (oa + i * 6) A[i]) (hlb : ∀ i (h : i < B.length), SpAt w gb (ob + i * 6) B[i]) :
    Calls Tryz.prog 77 #[.slice (some ⟨ga, oa, none⟩) A.length ca, .slice (some ⟨gb, ob, none⟩) B.length cb] w fun e w' => e = .returned (.bool (eqB A B)) ∧ Below w.heap.size w w' := by
  have HL : Hid (∀ w1, Below w.heap.size w w1 → ∀ i (h : i < A.length) (h2 : i < B.length), SpIn w1 ga (oa + i * 6) A[i] ∧ SpIn w1 gb (ob + i * 6) B[i]) := fun w1 hb i hi hi2 => ⟨⟨(hla i hi).below hb hga, Nat.lt_of_lt_of_le hga hb.size⟩, ⟨(hlb i hi2).below hb hgb, Nat.lt_of_lt_of_le hgb hb.size⟩⟩
  have HAB := hide3 hAB
  clear hla hlb
  rw [← hAB]
  clear hAB
  go_enter Tryz.func77, Tryz.ntmps77
  go_wp2_with fail
  go_loopw [13] (fun i wr => ∃ k : Nat, k ≤ A.length ∧ i = .int .i64 k ∧ Below w.heap.size w wr ∧ ∀ j (h : j < k) (h1 : j < A.length) (h2 : j < B.length), A[j] = B[j]) (fun i _ => A.length - (intOf i).toNat)
  case atStart => exact ⟨0, Nat.zero_le _, rfl, Below.refl _ _, fun j h => by omega⟩
  case round =>
    obtain ⟨k, hk, rfl, hb, hall⟩ := hrel
    have HALL := hide3 hall
    have HB := hide3 hb
    clear hall
    by_cases hlt : k < A.length
    · have hltB : k < B.length := HAB.out ▸ hlt
      have HO : Hid (Below w.heap.size w wr ∧ SpIn wr ga (oa + k * 6) A[k] ∧ SpIn wr gb (ob + k * 6) B[k]) := ⟨hb, HL.out wr hb k hlt hltB⟩
      have HK : Hid (KeepP fun w1 => Below w.heap.size w w1 ∧ SpIn w1 ga (oa + k * 6) A[k] ∧ SpIn w1 gb (ob + k * 6) B[k]) := (keepBelow w).and ((keepSp _ _ _).and (keepSp _ _ _))
      have HNE : Hid (eqS A[k] B[k] = false → eqB A B = false) := fun h => eqB_no fun e => by subst e; rw [(eqS_iff).2 rfl] at h; cases h
      have HST : Hid (eqS A[k] B[k] = true → ∀ j (h : j < k + 1) (h1 : j < A.length) (h2 : j < B.length), A[j] = B[j]) := fun h j hj h1 h2 => by
        rcases Nat.lt_or_ge j k with hjk | hjk
        · exact HALL.out j hjk h1 h2
        · obtain rfl : j = k := by omega
          exact eqS_iff.1 h
      generalize A[k] = s at *
      generalize B[k] = t at *
      obtain ⟨a, b, c, x, y, z⟩ := s
      obtain ⟨a', b', c', x', y', z'⟩ := t
      have he := neqSp2 a b c x y z a' b' c' x' y' z'
      have hgd := guardSp
      cases hq : eqS ⟨a, b, c, x, y, z⟩ ⟨a', b', c', x', y', z'⟩
      · have HR := hide3 (HNE.out hq)
        rw [hq] at he
        clear hb HNE HST HALL
        go_wp2_with fail
        refine wp_region_keep HK.out (by kernel_rfl) (by kernel_rfl) (by first | exact HO.out | exact HK.out.drew HO.out) ?_
        intro C hin hout
        have HIN := hide3 hin
        have HOUT := hide3 hout
        clear hin hout HO
        repeat
          (with_reducible refine wpQuiet_step (fun K hK => ?_)
           go_simp
           first
             | (refine hK _ ?_; clear hK K)
             | (apply Exists.intro; refine ⟨fun w1 hC => ?_, hK _ ?_⟩; (focus ((first | (exact rfl) | (obtain ⟨hb1, ⟨⟨p0, p1, p2, p3, p4, p5⟩, p6⟩, ⟨⟨q0, q1, q2, q3, q4, q5⟩, q6⟩⟩ := HOUT.out w1 hC; clear hC; go_simp; first | done | exact rfl)); done)); clear hK K))
        refine wpQuiet_nil ?_
        intro wn hC
        have HO := hide3 (HOUT.out _ hC)
        clear hC HIN HOUT C
        obtain ⟨hb1, ⟨⟨p0, p1, p2, p3, p4, p5⟩, p6⟩, ⟨⟨q0, q1, q2, q3, q4, q5⟩, q6⟩⟩ := HO.out
        go_wp2
        go_ret
        exact ⟨ret_bool HR.out.symm, HO.out.1⟩
      · have HR := hide3 (HST.out hq)
        rw [hq] at he
        clear hb HNE HST HALL
        go_wp2_with fail
        refine wp_region_keep HK.out (by kernel_rfl) (by kernel_rfl) (by first | exact HO.out | exact HK.out.drew HO.out) ?_
        intro C hin hout
        have HIN := hide3 hin
        have HOUT := hide3 hout
        clear hin hout HO
        repeat
          (with_reducible refine wpQuiet_step (fun K hK => ?_)
           go_simp
           first
             | (refine hK _ ?_; clear hK K)
             | (apply Exists.intro; refine ⟨fun w1 hC => ?_, hK _ ?_⟩; (focus ((first | (exact rfl) | (obtain ⟨hb1, ⟨⟨p0, p1, p2, p3, p4, p5⟩, p6⟩, ⟨⟨q0, q1, q2, q3, q4, q5⟩, q6⟩⟩ := HOUT.out w1 hC; clear hC; go_simp; first | done | exact rfl)); done)); clear hK K))
        refine wpQuiet_nil ?_
        intro wn hC
        have HO := hide3 (HOUT.out _ hC)
        clear hC HIN HOUT C
        obtain ⟨hb1, ⟨⟨p0, p1, p2, p3, p4, p5⟩, p6⟩, ⟨⟨q0, q1, q2, q3, q4, q5⟩, q6⟩⟩ := HO.out
        go_wp2
        exact ⟨⟨k + 1, by omega, by go_num, HO.out.1, HR.out⟩, by simp [intOf]; omega⟩
    · have hke : k = A.length := by omega
      subst hke
      have HR : Hid (eqB A B = true) := eqB_yes (List.ext_getElem HAB.out fun j h1 h2 => HALL.out j h1 h1 h2)
      clear hb
      go_wp2
      go_ret
      exact ⟨ret_bool HR.out.symm, HB.out⟩

theorem Equal_nil (ad bd : Option Addr) (ca cb : Nat) (w : World) :
    Calls Tryz.prog 77 #[.slice ad 0 ca, .slice bd 0 cb] w fun e w' => e = .returned (.bool true) ∧ Below w.heap.size w w' := by
  go_enter Tryz.func77, Tryz.ntmps77
  go_wp2_with fail
  go_loop [13] (fun i => i = .int .i64 0) (fun _ => 0)
  case atStart => rfl
  case round =>
    subst hrel
    go_wp2
    go_ret
    exact ⟨rfl, Below.refl _ _⟩

theorem Equal_len (ad bd : Option Addr) (n m ca cb : Nat) (h : n ≠ m) (w : World) :
    Calls Tryz.prog 77 #[.slice ad n ca, .slice bd m cb] w fun e w' => e = .returned (.bool false) ∧ Below w.heap.size w w' := by
  have hn : ((n : Int) = (m : Int)) = False := by simp; omega
  go_enter Tryz.func77, Tryz.ntmps77
  go_wp2
  go_ret
  exact ⟨rfl, Below.refl _ _⟩

theorem Equal_any {A B : List Sp} {va vb : Value} {w : World} (ha : SpansAt w va A) (hb : SpansAt w vb B) (hsz : A.length ≤ 9223372036854775807) :
    Calls Tryz.prog 77 #[va, vb] w fun e w' => e = .returned (.bool (eqB A B)) ∧ Below w.heap.size w w' := by
  obtain ⟨ad, ca, rfl, hl⟩ := ha
  obtain ⟨bd, cb, rfl, hm⟩ := hb
  by_cases hn : A.length = B.length
  · rcases hl with rfl | ⟨ga, oa, rfl, hga, hla⟩
    · obtain rfl : B = [] := List.eq_nil_of_length_eq_zero (by simpa using hn.symm)
      rw [eqB_yes rfl]
      exact Equal_nil _ _ _ _ w
    · rcases hm with rfl | ⟨gb, ob, rfl, hgb, hlb⟩
      · obtain rfl : A = [] := List.eq_nil_of_length_eq_zero (by simpa using hn)
        rw [eqB_yes rfl]
        exact Equal_nil _ _ _ _ w
      · exact Equal_walk A B hn hsz ga oa ca gb ob cb w hga hgb hla hlb
  · rw [eqB_no fun e => hn (by rw [e])]
    exact Equal_len _ _ _ _ _ _ hn w
end Go.Proofs.YtmkhhkhoinpfeaaGreatDoor
namespace Go.Proofs.YtmkhhkhoinpfeaaGreatDoor
open Go.RowKit
set_option maxRecDepth 100000

/-- A dependency: its name, its range. -/
structure Dp where
  nm : ByteArray
  rg : List Sp

theorem SpansAt.sl {w : World} {v : Value} {L : List Sp} (h : SpansAt w v L) : ∃ ad cap, v = .slice ad L.length cap := by
  obtain ⟨ad, cap, rfl, _⟩ := h
  exact ⟨ad, cap, rfl⟩
/-- A dependency lies at a place, with its range's slice u. -/
def DpIn (w : World) (g o : Nat) (d : Dp) (u : Value) : Prop := w.cell? ⟨g, o, none⟩ = some (.string d.nm) ∧ w.cell? ⟨g, o + 1, none⟩ = some u ∧ (SpansC w u d.rg ∧ d.rg.length ≤ 9223372036854775807) ∧ g < w.heap.size
/-- A list of dependencies lies there. -/
def DepsAt (w : World) (v : Value) (L : List Dp) : Prop := ∃ ad cap, v = .slice ad L.length cap ∧ L.length ≤ cap ∧ (L = [] ∨ ∃ g o, ad = some ⟨g, o, none⟩ ∧ g < w.heap.size ∧ ∀ i (h : i < L.length), ∃ u, DpIn w g (o + i * 2) L[i] u)

theorem DpIn.below {w w' : World} {g o : Nat} {d : Dp} {u : Value} (h : DpIn w g o d u) (hb : Below w.heap.size w w') : DpIn w' g o d u :=
  ⟨(hb.cell (p := ⟨g, o, none⟩) h.2.2.2).trans h.1, (hb.cell (p := ⟨g, o + 1, none⟩) h.2.2.2).trans h.2.1, ⟨⟨h.2.2.1.1.1.below hb, h.2.2.1.1.2⟩, h.2.2.1.2⟩, Nat.lt_of_lt_of_le h.2.2.2 hb.size⟩
theorem keepDp (g o : Nat) (d : Dp) (u : Value) : KeepP fun w1 => DpIn w1 g o d u := fun _ _ h hb => h.below hb
theorem DepsAt.below {w w' : World} {v : Value} {L : List Dp} (h : DepsAt w v L) (hb : Below w.heap.size w w') : DepsAt w' v L := by
  obtain ⟨ad, cap, hv, hc, hl⟩ := h
  refine ⟨ad, cap, hv, hc, hl.imp id ?_⟩
  rintro ⟨g, o, ha, hg, hs⟩
  exact ⟨g, o, ha, Nat.lt_of_lt_of_le hg hb.size, fun i hi => (hs i hi).imp fun u hu => hu.below hb⟩
theorem keepDeps (v : Value) (L : List Dp) : KeepP fun w1 => DepsAt w1 v L := fun _ _ h hb => h.below hb

/-- A dependency's variable. -/
def BxD (w : World) (N : Nat) (s : ByteArray) (u : Value) : Prop := w.cell? ⟨N, 0, none⟩ = some (.string s) ∧ w.cell? ⟨N, 1, none⟩ = some u ∧ N < w.heap.size
theorem keepBxD (N : Nat) (s : ByteArray) (u : Value) : KeepP fun w1 => BxD w1 N s u := fun _ _ h hb =>
  ⟨(hb.cell (p := ⟨N, 0, none⟩) h.2.2).trans h.1, (hb.cell (p := ⟨N, 1, none⟩) h.2.2).trans h.2.1, Nat.lt_of_lt_of_le h.2.2 hb.size⟩
theorem BxD.new {w : World} {N : Nat} (hN : w.heap.size = N) (s : ByteArray) (u : Value) : BxD (w.alloc (.cells #[.string s, u] 38)) N s u := by
  subst hN
  exact ⟨by simp, by simp, by simp⟩

theorem sameDep_any {d e : Dp} {u v : Value} {w : World} (hu : SpansAt w u d.rg) (hv : SpansAt w v e.rg) (hsz : d.rg.length ≤ 9223372036854775807) :
    Calls Tryz.prog 54 #[.agg #[.string d.nm, u], .agg #[.string e.nm, v]] w fun x w' => x = .returned (.bool (eqB d e)) ∧ Below w.heap.size w w' := by
  have HE : Hid (∀ w1, Below w.heap.size w w1 → Calls Tryz.prog 77 #[u, v] w1 fun x w' => x = .returned (.bool (eqB d.rg e.rg)) ∧ Below w1.heap.size w1 w') := fun w1 h => Equal_any (hu.below h) (hv.below h) hsz
  obtain ⟨n, r⟩ := d
  obtain ⟨m, q⟩ := e
  simp only at HE
  obtain ⟨ad, ca, rfl, _⟩ := hu
  obtain ⟨bd, cb, rfl, _⟩ := hv
  clear hsz
  simp only at HE
  by_cases hn : n = m
  · subst hn
    have HR : Hid (eqB (⟨n, r⟩ : Dp) ⟨n, q⟩ = eqB r q) := by
      unfold Hid
      by_cases h : r = q
      · rw [eqB_yes h, eqB_yes (by rw [h])]
      · rw [eqB_no h, eqB_no (fun e => h (by injection e))]
    generalize eqB r q = b at *
    go_enter Tryz.func54, Tryz.ntmps54
    go_wp2_with (go_at_call 77; refine (HE.out _ (boxB2 _ _ _)).mono ?_; rintro x w1 ⟨rfl, ok⟩)
    go_ret
    exact ⟨ret_bool HR.out.symm, below_then (boxB2 _ _ _) ok⟩
  · have HR : Hid (eqB (⟨n, r⟩ : Dp) ⟨m, q⟩ = false) := eqB_no (fun e => hn (by injection e))
    clear HE
    have hl : (n.toList = m.toList) = False := eq_false fun e => hn (bytes_same e)
    go_enter Tryz.func54, Tryz.ntmps54
    go_wp2
    go_ret
    exact ⟨ret_bool HR.out.symm, boxB2 _ _ _⟩

set_option maxHeartbeats 1600000 in
theorem EqualFunc_walk (A B : List Dp) (hAB : A.length = B.length) (hsz : A.length ≤ 9223372036854775807) (ga oa ca gb ob cb : Nat) (w : World) (hla : ∀ i (h : i < A.length), ∃ u, DpIn w ga (oa + i * 2) A[i] u) (hlb : ∀ i (h : i < B.length), ∃ u, DpIn w gb (ob + i * 2) B[i] u) :
    Calls Tryz.prog 53 #[.slice (some ⟨ga, oa, none⟩) A.length ca, .slice (some ⟨gb, ob, none⟩) B.length cb, .func (.func 54) #[] #[]] w fun e w' => e = .returned (.bool (eqB A B)) ∧ Below w.heap.size w w' := by
  have HL : Hid (∀ w1, Below w.heap.size w w1 → ∀ i (h : i < A.length) (h2 : i < B.length), (∃ u, DpIn w1 ga (oa + i * 2) A[i] u) ∧ ∃ u, DpIn w1 gb (ob + i * 2) B[i] u) := fun w1 hb i hi hi2 => ⟨(hla i hi).imp fun u h => h.below hb, (hlb i hi2).imp fun u h => h.below hb⟩
  have HAB := hide3 hAB
  clear hla hlb
  rw [← hAB]
  clear hAB
  go_enter Tryz.func53, Tryz.ntmps53
  go_wp2_with fail
  go_loopw [17] (fun i wr => ∃ k : Nat, k ≤ A.length ∧ i = .int .i64 k ∧ Below w.heap.size w wr ∧ ∀ j (h : j < k) (h1 : j < A.length) (h2 : j < B.length), A[j] = B[j]) (fun i _ => A.length - (intOf i).toNat)
  case atStart => exact ⟨0, Nat.zero_le _, rfl, Below.refl _ _, fun j h => by omega⟩
  case round =>
    obtain ⟨k, hk, rfl, hb, hall⟩ := hrel
    have HALL := hide3 hall
    have HB := hide3 hb
    clear hall
    by_cases hlt : k < A.length
    · have hltB : k < B.length := HAB.out ▸ hlt
      obtain ⟨⟨u, p0, p1, ⟨⟨hu, _⟩, hz⟩, p3⟩, ⟨v, q0, q1, ⟨⟨hv, _⟩, _⟩, q3⟩⟩ := HL.out wr hb k hlt hltB
      have HC : Hid (∀ w1, Below wr.heap.size wr w1 → Calls Tryz.prog 54 #[.agg #[.string A[k].nm, u], .agg #[.string B[k].nm, v]] w1 fun x w' => x = .returned (.bool (eqB A[k] B[k])) ∧ Below w1.heap.size w1 w') := fun w1 h => sameDep_any (hu.below h) (hv.below h) hz
      have HNE : Hid (eqB A[k] B[k] = false → eqB A B = false) := fun h => eqB_no fun e => by subst e; rw [eqB_yes rfl] at h; cases h
      have HST : Hid (eqB A[k] B[k] = true → ∀ j (h : j < k + 1) (h1 : j < A.length) (h2 : j < B.length), A[j] = B[j]) := fun h j hj h1 h2 => by
        rcases Nat.lt_or_ge j k with hjk | hjk
        · exact HALL.out j hjk h1 h2
        · obtain rfl : j = k := by omega
          exact eqB_iff.1 h
      obtain ⟨ad, ca, rfl⟩ := hu.sl
      obtain ⟨bd, cb, rfl⟩ := hv.sl
      clear hz hu hv
      generalize A[k].rg.length = na at *
      generalize B[k].rg.length = nb at *
      generalize eqB A[k] B[k] = b at *
      generalize A[k].nm = s at *
      generalize B[k].nm = t at *
      have q0' : (wr.alloc (.cells #[.string s, .slice ad na ca] 38)).cell? ⟨gb, ob + k * 2, none⟩ = some (.string t) := ((boxB wr (.cells #[.string s, .slice ad na ca] 38)).cell (p := ⟨gb, ob + k * 2, none⟩) q3).trans q0
      have q1' : (wr.alloc (.cells #[.string s, .slice ad na ca] 38)).cell? ⟨gb, ob + k * 2 + 1, none⟩ = some (.slice bd nb cb) := ((boxB wr (.cells #[.string s, .slice ad na ca] 38)).cell (p := ⟨gb, ob + k * 2 + 1, none⟩) q3).trans q1
      cases b
      · have HR := hide3 (HNE.out rfl)
        clear hb HNE HST HALL
        go_wp2_with (go_at_call 54; refine (HC.out _ (boxB2 _ _ _)).mono ?_; rintro x w1 ⟨rfl, ok⟩)
        go_ret
        exact ⟨ret_bool HR.out.symm, below_then HB.out (below_then (boxB2 _ _ _) ok)⟩
      · have HR := hide3 (HST.out rfl)
        clear hb HNE HST HALL
        go_wp2_with (go_at_call 54; refine (HC.out _ (boxB2 _ _ _)).mono ?_; rintro x w1 ⟨rfl, ok⟩)
        exact ⟨⟨k + 1, by omega, by go_num, below_then HB.out (below_then (boxB2 _ _ _) ok), HR.out⟩, by simp [intOf]; omega⟩
    · have hke : k = A.length := by omega
      subst hke
      have HR : Hid (eqB A B = true) := eqB_yes (List.ext_getElem HAB.out fun j h1 h2 => HALL.out j h1 h1 h2)
      clear hb
      go_wp2
      go_ret
      exact ⟨ret_bool HR.out.symm, HB.out⟩

theorem EqualFunc_nil (ad bd : Option Addr) (ca cb : Nat) (w : World) :
    Calls Tryz.prog 53 #[.slice ad 0 ca, .slice bd 0 cb, .func (.func 54) #[] #[]] w fun e w' => e = .returned (.bool true) ∧ Below w.heap.size w w' := by
  go_enter Tryz.func53, Tryz.ntmps53
  go_wp2_with fail
  go_loop [17] (fun i => i = .int .i64 0) (fun _ => 0)
  case atStart => rfl
  case round =>
    subst hrel
    go_wp2
    go_ret
    exact ⟨rfl, Below.refl _ _⟩

theorem EqualFunc_len (ad bd : Option Addr) (n m ca cb : Nat) (h : n ≠ m) (w : World) :
    Calls Tryz.prog 53 #[.slice ad n ca, .slice bd m cb, .func (.func 54) #[] #[]] w fun e w' => e = .returned (.bool false) ∧ Below w.heap.size w w' := by
  have hn : ((n : Int) = (m : Int)) = False := by simp; omega
  go_enter Tryz.func53, Tryz.ntmps53
  go_wp2
  go_ret
  exact ⟨rfl, Below.refl _ _⟩

theorem EqualFunc_any {A B : List Dp} {va vb : Value} {w : World} (ha : DepsAt w va A) (hb : DepsAt w vb B) (hsz : A.length ≤ 9223372036854775807) :
    Calls Tryz.prog 53 #[va, vb, .func (.func 54) #[] #[]] w fun e w' => e = .returned (.bool (eqB A B)) ∧ Below w.heap.size w w' := by
  obtain ⟨ad, ca, rfl, _, hl⟩ := ha
  obtain ⟨bd, cb, rfl, _, hm⟩ := hb
  by_cases hn : A.length = B.length
  · rcases hl with rfl | ⟨ga, oa, rfl, hga, hla⟩
    · obtain rfl : B = [] := List.eq_nil_of_length_eq_zero (by simpa using hn.symm)
      rw [eqB_yes rfl]
      exact EqualFunc_nil _ _ _ _ w
    · rcases hm with rfl | ⟨gb, ob, rfl, hgb, hlb⟩
      · obtain rfl : A = [] := List.eq_nil_of_length_eq_zero (by simpa using hn)
        rw [eqB_yes rfl]
        exact EqualFunc_nil _ _ _ _ w
      · exact EqualFunc_walk A B hn hsz ga oa ca gb ob cb w hla hlb
  · rw [eqB_no fun e => hn (by rw [e])]
    exact EqualFunc_len _ _ _ _ _ _ hn w

theorem eqB_and {α : Type} {x y : α} {b : Bool} (h : x = y ↔ b = true) : eqB x y = b := by
  cases b
  · exact eqB_no fun e => by cases h.1 e
  · exact eqB_yes (h.2 rfl)
theorem DepsAt.sl {w : World} {v : Value} {L : List Dp} (h : DepsAt w v L) : ∃ ad cap, v = .slice ad L.length cap := by
  obtain ⟨ad, cap, rfl, _⟩ := h
  exact ⟨ad, cap, rfl⟩

theorem dSame_any {A B : List Dp} {va vb : Value} {w : World} (ha : DepsAt w va A) (hb : DepsAt w vb B) (hsz : A.length ≤ 9223372036854775807) :
    Calls Tryz.prog 27 #[va, vb] w fun e w' => e = .returned (.bool (eqB A B)) ∧ Below w.heap.size w w' := by
  have HE := hide3 (EqualFunc_any ha hb hsz)
  obtain ⟨ad, ca, rfl⟩ := ha.sl
  obtain ⟨bd, cb, rfl⟩ := hb.sl
  clear ha hb hsz
  go_enter Tryz.func27, Tryz.ntmps27
  go_wp2_with (go_at_call 53; refine HE.out.mono ?_; rintro x w1 ⟨rfl, ok⟩)
  go_ret
  exact ⟨rfl, ok⟩
end Go.Proofs.YtmkhhkhoinpfeaaGreatDoor
namespace Go.Proofs.YtmkhhkhoinpfeaaGreatDoor.Sc
set_option maxRecDepth 100000

abbrev Bs := List UInt8
/-- A byte that a word may have. -/
def wB (b : UInt8) : Bool := decide (33 ≤ b.toNat) && decide (b.toNat ≤ 126)
/-- A word. -/
def isW (w : Bs) : Bool := w.all wB && !w.isEmpty
/-- A line. -/
def isL (ws : List Bs) : Bool := ws.all isW && !ws.isEmpty

/-- The scanner: what is left, the word under way, the line under way, the lines. -/
def scanR : Bs → Bs → List Bs → List (List Bs) → Except Nat (List (List Bs))
  | [], cur, ws, ls => if cur = [] ∧ ws = [] then .ok ls else .error (ls.length + 1)
  | b :: r, cur, ws, ls =>
    if wB b = true then scanR r (cur ++ [b]) ws ls
    else if cur = [] then .error (ls.length + 1)
    else if b = 32 then scanR r [] (ws ++ [cur]) ls
    else if b = 10 then scanR r [] [] (ls ++ [ws ++ [cur]])
    else .error (ls.length + 1)

/-- What stands between a byte. -/
def cutF (by_ : UInt8) : Bs → Bs → List Bs
  | cur, [] => [cur]
  | cur, b :: r => if b = by_ then cur :: cutF by_ [] r else cutF by_ (cur ++ [b]) r
theorem cutF_hit (s : UInt8) (c r : Bs) : cutF s c (s :: r) = c :: cutF s [] r := by conv => lhs; unfold cutF; rw [if_pos rfl]
theorem cutF_go {s b : UInt8} (h : b ≠ s) (c r : Bs) : cutF s c (b :: r) = cutF s (c ++ [b]) r := by conv => lhs; unfold cutF; rw [if_neg h]
theorem cutF_ne (s : UInt8) : ∀ (t cur : Bs), cutF s cur t ≠ []
  | [], _ => by simp [cutF]
  | b :: r, cur => by
    unfold cutF
    split
    · simp
    · exact cutF_ne s r _

def lineR (s : Bs) : Option (List Bs) := if (cutF 32 [] s).all isW = true then some (cutF 32 [] s) else none

def refR : List (List Bs) → List Bs → Except Nat (List (List Bs))
  | ls, [] => .ok ls
  | ls, [p] => if p = [] then .ok ls else .error (ls.length + 1)
  | ls, p :: q :: r => match lineR p with
    | none => .error (ls.length + 1)
    | some w => refR (ls ++ [w]) (q :: r)

theorem refR_no {p : Bs} (h : lineR p = none) (ls : List (List Bs)) (q : Bs) (r : List Bs) : refR ls (p :: q :: r) = .error (ls.length + 1) := by conv => lhs; unfold refR; rw [h]
theorem refR_ok {p : Bs} {w : List Bs} (h : lineR p = some w) (ls : List (List Bs)) (q : Bs) (r : List Bs) : refR ls (p :: q :: r) = refR (ls ++ [w]) (q :: r) := by conv => lhs; unfold refR; rw [h]
theorem scan_b {b : UInt8} (h : wB b = true) (r cur : Bs) (ws : List Bs) (ls : List (List Bs)) : scanR (b :: r) cur ws ls = scanR r (cur ++ [b]) ws ls := by conv => lhs; unfold scanR; rw [if_pos h]
theorem scan_none {b : UInt8} (h : wB b = false) (r : Bs) (ws : List Bs) (ls : List (List Bs)) : scanR (b :: r) [] ws ls = .error (ls.length + 1) := by conv => lhs; unfold scanR; rw [if_neg (by simp [h]), if_pos rfl]
theorem scan_32 {cur : Bs} (hc : cur ≠ []) (r : Bs) (ws : List Bs) (ls : List (List Bs)) : scanR (32 :: r) cur ws ls = scanR r [] (ws ++ [cur]) ls := by conv => lhs; unfold scanR; rw [if_neg (by decide), if_neg hc, if_pos rfl]
theorem scan_10 {cur : Bs} (hc : cur ≠ []) (r : Bs) (ws : List Bs) (ls : List (List Bs)) : scanR (10 :: r) cur ws ls = scanR r [] [] (ls ++ [ws ++ [cur]]) := by conv => lhs; unfold scanR; rw [if_neg (by decide), if_neg hc, if_neg (by decide), if_pos rfl]
theorem scan_bad {b : UInt8} (h : wB b = false) (h32 : b ≠ 32) (h10 : b ≠ 10) (r cur : Bs) (ws : List Bs) (ls : List (List Bs)) : scanR (b :: r) cur ws ls = .error (ls.length + 1) := by conv => lhs; unfold scanR; rw [if_neg (by simp [h]), if_neg h32, if_neg h10, ite_self]
theorem scan_end {cur : Bs} {ws : List Bs} (h : cur ≠ [] ∨ ws ≠ []) (ls : List (List Bs)) : scanR [] cur ws ls = .error (ls.length + 1) := by unfold scanR; rw [if_neg]; rintro ⟨rfl, rfl⟩; simp at h

theorem cutF_append {s : UInt8} : ∀ {a c : Bs} {pre : List Bs} {last : Bs} (b : Bs), cutF s c a = pre ++ [last] → cutF s c (a ++ b) = pre ++ cutF s last b
  | [], c, pre, last, b, h => by
    simp only [cutF] at h
    cases pre with
    | nil => simp at h; subst h; rfl
    | cons x l => simp at h
  | x :: a, c, pre, last, b, h => by
    rw [List.cons_append]
    by_cases hx : x = s
    · subst hx
      rw [cutF_hit] at h ⊢
      cases pre with
      | nil =>
        simp only [List.nil_append, List.cons.injEq] at h
        exact absurd h.2 (cutF_ne _ _ _)
      | cons p l =>
        simp only [List.cons_append, List.cons.injEq] at h
        rw [h.1, cutF_append b h.2]; rfl
    · rw [cutF_go hx] at h ⊢
      exact cutF_append b h

theorem cutF_head (s : UInt8) : ∀ (t c : Bs), ∃ Y rest, cutF s c t = (c ++ Y) :: rest
  | [], c => ⟨[], [], by simp [cutF]⟩
  | b :: r, c => by
    by_cases hx : b = s
    · subst hx
      rw [cutF_hit]
      exact ⟨[], cutF b [] r, by simp⟩
    · rw [cutF_go hx]
      obtain ⟨Y, rest, h⟩ := cutF_head s r (c ++ [b])
      exact ⟨b :: Y, rest, by rw [h]; simp⟩

theorem cutF_nil {s : UInt8} {t c : Bs} (h : cutF s c t = [[]]) : t = [] ∧ c = [] := by
  cases t with
  | nil => simp [cutF] at h; exact ⟨rfl, h⟩
  | cons b r =>
    unfold cutF at h
    split at h
    · simp only [List.cons.injEq] at h; exact absurd h.2 (cutF_ne _ _ _)
    · obtain ⟨Y, rest, h2⟩ := cutF_head s r (c ++ [b])
      rw [h2] at h
      simp at h

theorem bad_line {ls : List (List Bs)} {X : Bs} (h : ∀ Y, lineR (X ++ Y) = none) (hX : X ≠ []) (r : Bs) : refR ls (cutF 10 X r) = .error (ls.length + 1) := by
  obtain ⟨Y, rest, e⟩ := cutF_head 10 r X
  rw [e]
  cases rest with
  | nil => unfold refR; rw [if_neg (by simp [hX])]
  | cons q r => unfold refR; rw [h Y]

theorem lineR_of {s : Bs} {l : List Bs} (h : cutF 32 [] s = l) : lineR s = if l.all isW = true then some l else none := by unfold lineR; rw [h]

/-- The scanner is the document's answer. -/
theorem scan_ref : ∀ (t cur : Bs) (ws : List Bs) (ls : List (List Bs)) (X : Bs), cutF 32 [] X = ws ++ [cur] → ws.all isW = true → cur.all wB = true → scanR t cur ws ls = refR ls (cutF 10 X t)
  | [], cur, ws, ls, X, hX, hw, hc => by
    unfold scanR cutF refR
    by_cases hx : X = []
    · subst hx
      have : ws = [] ∧ cur = [] := by
        cases ws with
        | nil => simp [cutF] at hX; exact ⟨rfl, hX⟩
        | cons a l => simp [cutF] at hX
      rw [if_pos ⟨this.2, this.1⟩, if_pos rfl]
    · rw [if_neg hx, if_neg]
      rintro ⟨rfl, rfl⟩
      exact hx (cutF_nil hX).1
  | b :: r, cur, ws, ls, X, hX, hw, hc => by
    by_cases hb : wB b = true
    · have n10 : b ≠ 10 := by rintro rfl; revert hb; decide
      have n32 : b ≠ 32 := by rintro rfl; revert hb; decide
      rw [scan_b hb, cutF_go n10]
      refine scan_ref r _ ws ls (X ++ [b]) ?_ hw ?_
      · rw [cutF_append [b] hX]; simp [cutF, n32]
      · simp [hc, hb]
    · by_cases h10 : b = 10
      · subst h10
        rw [cutF_hit]
        obtain ⟨Y, rest, e⟩ := cutF_head 10 r []
        have hl : lineR X = if (ws ++ [cur]).all isW = true then some (ws ++ [cur]) else none := lineR_of hX
        by_cases hcur : cur = []
        · subst hcur
          rw [if_neg (by simp [isW])] at hl
          rw [scan_none (by decide), e, refR_no hl]
        · have hall : (ws ++ [cur]).all isW = true := by
            simp only [List.all_append, List.all_cons, List.all_nil, Bool.and_true, hw, Bool.true_and, isW, hc]
            cases cur with
            | nil => exact absurd rfl hcur
            | cons _ _ => rfl
          rw [if_pos hall] at hl
          rw [scan_10 hcur, scan_ref r [] [] (ls ++ [ws ++ [cur]]) [] rfl rfl rfl, e, refR_ok hl]
      · by_cases h32 : b = 32
        · subst h32
          have e1 : cutF 10 X (32 :: r) = cutF 10 (X ++ [32]) r := cutF_go (by decide) _ _
          have e2 : cutF 32 [] (X ++ [32]) = ws ++ [cur] ++ [[]] := by rw [cutF_append [32] hX]; simp [cutF]
          by_cases hcur : cur = []
          · subst hcur
            rw [scan_none (by decide), e1, bad_line (fun Y => ?_) (by simp)]
            rw [lineR_of (cutF_append Y e2), if_neg (by simp [isW])]
          · rw [scan_32 hcur, e1]
            refine scan_ref r [] (ws ++ [cur]) ls (X ++ [32]) e2 ?_ rfl
            simp only [List.all_append, List.all_cons, List.all_nil, Bool.and_true, hw, Bool.true_and, isW, hc]
            cases cur with
            | nil => exact absurd rfl hcur
            | cons _ _ => rfl
        · have e1 : cutF 10 X (b :: r) = cutF 10 (X ++ [b]) r := cutF_go h10 _ _
          have e2 : cutF 32 [] (X ++ [b]) = ws ++ [cur ++ [b]] := by rw [cutF_append [b] hX]; simp [cutF, h32]
          rw [scan_bad (by simpa using hb) h32 h10, e1, bad_line (fun Y => ?_) (by simp)]
          rw [lineR_of (cutF_append Y e2), if_neg]
          obtain ⟨Z, rest, e⟩ := cutF_head 32 Y (cur ++ [b])
          rw [e]
          simp [isW, hb]

/-- A line's text. -/
def pend (ws : List Bs) (cur : Bs) : Bs := ws.flatMap (· ++ [32]) ++ cur
def lineT : List Bs → Bs
  | [] => [10]
  | [w] => w ++ [10]
  | w :: q :: r => w ++ [32] ++ lineT (q :: r)
def textT (ls : List (List Bs)) : Bs := ls.flatMap lineT
theorem lineT_snoc (ws : List Bs) (cur : Bs) : lineT (ws ++ [cur]) = pend ws cur ++ [10] := by
  induction ws with
  | nil => rfl
  | cons w l ih =>
    cases l with
    | nil => simp [lineT, pend]
    | cons q r =>
      have : lineT (w :: q :: r ++ [cur]) = w ++ [32] ++ lineT (q :: r ++ [cur]) := rfl
      rw [this, ih]
      simp [pend]
theorem textT_snoc (ls : List (List Bs)) (l : List Bs) : textT (ls ++ [l]) = textT ls ++ lineT l := by simp [textT]

theorem wB_not {b : UInt8} (h : wB b = true) : b ≠ 10 ∧ b ≠ 32 := ⟨by rintro rfl; revert h; decide, by rintro rfl; revert h; decide⟩
theorem isW_of {cur : Bs} (hc : cur.all wB = true) (h : cur ≠ []) : isW cur = true := by
  unfold isW
  rw [hc]
  cases cur with
  | nil => exact absurd rfl h
  | cons _ _ => rfl

/-- What is taken is the lines of that text. -/
theorem scan_back : ∀ (t cur : Bs) (ws : List Bs) (ls L : List (List Bs)), scanR t cur ws ls = .ok L → cur.all wB = true → ws.all isW = true → ls.all isL = true → L.all isL = true ∧ textT L = textT ls ++ pend ws cur ++ t
  | [], cur, ws, ls, L, h, hc, hw, hl => by
    unfold scanR at h
    split at h
    · rename_i hq
      cases h
      rw [hq.1, hq.2]
      exact ⟨hl, by simp [pend]⟩
    · cases h
  | b :: r, cur, ws, ls, L, h, hc, hw, hl => by
    unfold scanR at h
    split at h
    · rename_i hb
      obtain ⟨h1, h2⟩ := scan_back r _ ws ls L h (by simp [hc, hb]) hw hl
      exact ⟨h1, by rw [h2]; simp [pend]⟩
    · split at h
      · cases h
      · rename_i hb hcur
        split at h
        · rename_i h32
          obtain ⟨h1, h2⟩ := scan_back r [] (ws ++ [cur]) ls L h rfl (by simp [hw, isW_of hc hcur]) hl
          exact ⟨h1, by rw [h2, h32]; simp [pend]⟩
        · split at h
          · rename_i h32 h10
            obtain ⟨h1, h2⟩ := scan_back r [] [] (ls ++ [ws ++ [cur]]) L h rfl rfl (by simp [hl, isL, hw, isW_of hc hcur])
            exact ⟨h1, by rw [h2, h10, textT_snoc, lineT_snoc]; simp [pend]⟩
          · cases h

theorem scan_word : ∀ (x r cur : Bs) (ws : List Bs) (ls : List (List Bs)), x.all wB = true → scanR (x ++ r) cur ws ls = scanR r (cur ++ x) ws ls
  | [], r, cur, ws, ls, _ => by simp
  | b :: x, r, cur, ws, ls, h => by
    simp only [List.all_cons, Bool.and_eq_true] at h
    rw [List.cons_append]
    conv => lhs; unfold scanR; rw [if_pos h.1]
    rw [scan_word x r _ ws ls h.2]; simp

theorem scan_line : ∀ (l : List Bs) (ws : List Bs) (r : Bs) (ls : List (List Bs)), l.all isW = true → l ≠ [] → scanR (lineT l ++ r) [] ws ls = scanR r [] [] (ls ++ [ws ++ l])
  | [], _, _, _, _, h => absurd rfl h
  | [w], ws, r, ls, h, _ => by
    simp only [List.all_cons, List.all_nil, Bool.and_true, isW, Bool.and_eq_true] at h
    have hne : w ≠ [] := by rintro rfl; simp at h
    show scanR (w ++ [10] ++ r) [] ws ls = _
    rw [List.append_assoc, scan_word w _ [] ws ls h.1]
    show scanR (10 :: r) ([] ++ w) ws ls = _
    conv => lhs; unfold scanR; rw [if_neg (by decide), if_neg (by simpa using hne), if_neg (by decide), if_pos rfl]
    simp
  | w :: q :: l, ws, r, ls, h, _ => by
    rw [List.all_cons, Bool.and_eq_true] at h
    obtain ⟨h1, h2⟩ := h
    simp only [isW, Bool.and_eq_true] at h1
    have hne : w ≠ [] := by rintro rfl; simp at h1
    show scanR (w ++ [32] ++ lineT (q :: l) ++ r) [] ws ls = _
    have e : w ++ [32] ++ lineT (q :: l) ++ r = w ++ (32 :: (lineT (q :: l) ++ r)) := by simp
    rw [e, scan_word w _ [] ws ls h1.1]
    conv => lhs; unfold scanR; rw [if_neg (by decide), if_neg (by simpa using hne), if_pos rfl]
    rw [List.nil_append, scan_line (q :: l) (ws ++ [w]) r ls h2 (by simp)]
    simp

/-- Lines of Join. -/
theorem scan_text : ∀ (L : List (List Bs)) (ls : List (List Bs)), L.all isL = true → scanR (textT L) [] [] ls = .ok (ls ++ L)
  | [], ls, _ => by simp [textT, scanR]
  | l :: L, ls, h => by
    simp only [List.all_cons, Bool.and_eq_true, isL] at h
    have hne : l ≠ [] := by rintro rfl; simp at h
    show scanR (lineT l ++ textT L) [] [] ls = _
    rw [scan_line l [] _ ls h.1.1 hne, scan_text L _ h.2]
    simp

/-- More lines ahead. -/
def shiftE (A : List (List Bs)) : Except Nat (List (List Bs)) → Except Nat (List (List Bs))
  | .ok L => .ok (A ++ L)
  | .error n => .error (n + A.length)
theorem scan_shift (A : List (List Bs)) : ∀ (t cur : Bs) (ws : List Bs) (ls : List (List Bs)), scanR t cur ws (A ++ ls) = shiftE A (scanR t cur ws ls)
  | [], cur, ws, ls => by
    unfold scanR
    split
    · rfl
    · simp [shiftE]; omega
  | b :: r, cur, ws, ls => by
    unfold scanR
    split
    · exact scan_shift A r _ ws ls
    · split
      · simp [shiftE]; omega
      · split
        · exact scan_shift A r _ _ ls
        · split
          · rw [List.append_assoc]; exact scan_shift A r _ _ _
          · simp [shiftE]; omega
theorem scan_then : ∀ (s t cur : Bs) (ws : List Bs) (ls A : List (List Bs)), scanR s cur ws ls = .ok A → scanR (s ++ t) cur ws ls = scanR t [] [] A
  | [], t, cur, ws, ls, A, h => by
    unfold scanR at h
    split at h
    · rename_i hq; cases h; rw [hq.1, hq.2]; rfl
    · cases h
  | b :: r, t, cur, ws, ls, A, h => by
    rw [List.cons_append]
    by_cases hb : wB b = true
    · rw [scan_b hb] at h ⊢; exact scan_then r t _ _ _ _ h
    · have hb' : wB b = false := by simpa using hb
      by_cases hc : cur = []
      · subst hc; rw [scan_none hb'] at h; cases h
      · by_cases h32 : b = 32
        · subst h32; rw [scan_32 hc] at h ⊢; exact scan_then r t _ _ _ _ h
        · by_cases h10 : b = 10
          · subst h10; rw [scan_10 hc] at h ⊢; exact scan_then r t _ _ _ _ h
          · rw [scan_bad hb' h32 h10] at h; cases h

/-- What stands up to and with the m-th byte 10. -/
def aheadN : Nat → Bs → Bs
  | 0, _ => []
  | _ + 1, [] => []
  | m + 1, b :: r => b :: aheadN (if b = 10 then m else m + 1) r
def nls (t : Bs) : Nat := t.countP (· = 10)

theorem scan_wrong : ∀ (t cur : Bs) (ws : List Bs) (ls : List (List Bs)) (n : Nat), scanR t cur ws ls = .error n →
    ∃ m, n = ls.length + 1 + m ∧ m ≤ nls t ∧ (0 < m → ∃ L, scanR (aheadN m t) cur ws ls = .ok L ∧ L.length + 1 = n)
  | [], cur, ws, ls, n, h => by
    unfold scanR at h
    split at h
    · cases h
    · cases h; exact ⟨0, rfl, Nat.zero_le _, fun q => absurd q (by omega)⟩
  | b :: r, cur, ws, ls, n, h => by
    unfold scanR at h
    split at h
    · rename_i hb
      obtain ⟨m, h1, h2, h3⟩ := scan_wrong r _ ws ls n h
      have h10 := (wB_not hb).1
      refine ⟨m, h1, by unfold nls at *; rw [List.countP_cons_of_neg (by simpa using h10)]; exact h2, fun hm => ?_⟩
      obtain ⟨L, e, el⟩ := h3 hm
      obtain ⟨k, rfl⟩ : ∃ k, m = k + 1 := ⟨m - 1, by omega⟩
      refine ⟨L, ?_, el⟩
      unfold aheadN
      rw [if_neg h10]
      unfold scanR
      rw [if_pos hb]; exact e
    · rename_i hb
      split at h
      · cases h; exact ⟨0, rfl, Nat.zero_le _, fun q => absurd q (by omega)⟩
      · rename_i hcur
        split at h
        · rename_i h32
          subst h32
          obtain ⟨m, h1, h2, h3⟩ := scan_wrong r _ _ ls n h
          refine ⟨m, h1, by unfold nls at *; rw [List.countP_cons_of_neg (by decide)]; exact h2, fun hm => ?_⟩
          obtain ⟨L, e, el⟩ := h3 hm
          obtain ⟨k, rfl⟩ : ∃ k, m = k + 1 := ⟨m - 1, by omega⟩
          refine ⟨L, ?_, el⟩
          unfold aheadN
          rw [if_neg (by decide)]
          unfold scanR
          rw [if_neg hb, if_neg hcur, if_pos rfl]; exact e
        · rename_i h32
          split at h
          · rename_i h10
            subst h10
            obtain ⟨m, h1, h2, h3⟩ := scan_wrong r [] [] (ls ++ [ws ++ [cur]]) n h
            refine ⟨m + 1, by rw [h1]; simp; omega, by unfold nls at *; rw [List.countP_cons_of_pos (by decide)]; omega, fun _ => ?_⟩
            have key : ∃ L, scanR (aheadN m r) [] [] (ls ++ [ws ++ [cur]]) = .ok L ∧ L.length + 1 = n := by
              cases m with
              | zero => exact ⟨ls ++ [ws ++ [cur]], by unfold aheadN scanR; rfl, by rw [h1]⟩
              | succ k => exact h3 (by omega)
            obtain ⟨L, e, el⟩ := key
            refine ⟨L, ?_, el⟩
            unfold aheadN
            rw [if_pos rfl]
            unfold scanR
            rw [if_neg hb, if_neg hcur, if_neg (by decide), if_pos rfl]; exact e
          · cases h; exact ⟨0, rfl, Nat.zero_le _, fun q => absurd q (by omega)⟩
end Go.Proofs.YtmkhhkhoinpfeaaGreatDoor.Sc
