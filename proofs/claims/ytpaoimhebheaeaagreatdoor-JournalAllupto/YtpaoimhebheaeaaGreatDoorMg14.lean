/- Jr4, Jr5, laid in one text. -/
import Derived.Test.YtpaoimhebheaeaaGreatDoorMg13
namespace Go.Proofs.YtpaoimhebheaeaaGreatDoor
open Go.RowKit Go.Maps Go.WideMaps Go.WideElems Dk
set_option maxRecDepth 100000

theorem runA_app (a b : List De) (x : Ab) : runA (a ++ b) x = if ((runA a x).1 != 0) = true then runA a x else runA b (runA a x).2 := by
  induction a generalizing x with
  | nil =>
    show runA b x = (if ((0 : Int) != 0) = true then ((0 : Int), x) else runA b x)
    rw [if_neg (show ¬ ((0 : Int) != 0) = true by decide)]
  | cons d r ih =>
    have e1 : runA (d :: r ++ b) x = if ((doA x d).1 != 0) = true then doA x d else runA (r ++ b) (doA x d).2 := rfl
    have e2 : runA (d :: r) x = if ((doA x d).1 != 0) = true then doA x d else runA r (doA x d).2 := rfl
    rw [e1, e2]
    by_cases h : ((doA x d).1 != 0) = true
    · rw [if_pos h, if_pos h, if_pos h]
    · rw [if_neg h, if_neg h, ih]
theorem runA_stop {l : List De} {i : Nat} (hi : i < l.length) {x : Ab} (h0 : (runA (l.take i) x).1 = 0) (h1 : ((doA (runA (l.take i) x).2 l[i]).1 != 0) = true) : runA l x = doA (runA (l.take i) x).2 l[i] := by
  have e : l = l.take i ++ l[i] :: l.drop (i + 1) := by rw [← List.drop_eq_getElem_cons hi, List.take_append_drop]
  conv => lhs; rw [e]
  rw [runA_app, if_neg (by rw [h0]; decide)]
  show (if ((doA (runA (l.take i) x).2 l[i]).1 != 0) = true then doA (runA (l.take i) x).2 l[i] else _) = _
  rw [if_pos h1]
theorem runA_next {l : List De} {i : Nat} (hi : i < l.length) {x : Ab} (h0 : (runA (l.take i) x).1 = 0) : runA (l.take (i + 1)) x = doA (runA (l.take i) x).2 l[i] := by
  rw [List.take_succ_eq_append_getElem hi, runA_snoc, if_neg (by rw [h0]; decide)]
theorem RefT.bel {B : Nat} {w w' : World} {e : Nat} {lv rv : Value} {x y : Ab} {k k' : Nat} (h : RefK B w e lv rv x k) (ht : RefT B w e lv rv y k' w') : Below B w w' := by
  obtain ⟨lv', rv', _, hu, _⟩ := ht
  exact hu.below h.base fun i hi => (h.ref.foot_lt hi).2
theorem RefT.more {B : Nat} {w w' : World} {e : Nat} {lv rv : Value} {y : Ab} {k k' : Nat} (ht : RefT B w e lv rv y k w') (hk : k ≤ k') : RefT B w e lv rv y k' w' := by
  obtain ⟨lv', rv', h, hu⟩ := ht
  exact ⟨lv', rv', ⟨h.ref, h.fine, Nat.le_trans h.lf hk, Nat.le_trans h.lr hk, h.base⟩, hu⟩
theorem RefT.refl {B : Nat} {w : World} {e : Nat} {lv rv : Value} {x : Ab} {k : Nat} (h : RefK B w e lv rv x k) : RefT B w e lv rv x k w := ⟨lv, rv, h, Upd.refl _ _, fun _ q => Or.inl q⟩
theorem RefT.upd {B : Nat} {w w' : World} {e : Nat} {lv rv : Value} {y : Ab} {k : Nat} (ht : RefT B w e lv rv y k w') : Upd (FootR e lv rv) w w' := by
  obtain ⟨_, _, _, hu, _⟩ := ht
  exact hu
/-- The same, with what was touched so far. -/
theorem RefT.callu {B : Nat} {w w1 : World} {e : Nat} {lv rv : Value} {y : Ab} {k : Nat} (ht : RefT B w e lv rv y k w1) {f : Nat} {args : Array Value} {z : Int × Ab} {k2 : Nat} (hc : ∀ lv1 rv1, RefK B w1 e lv1 rv1 y k → (∀ W, Upd (FootR e lv1 rv1) w1 W → Upd (FootR e lv rv) w W) → Calls Tryz.prog f args w1 fun e' w' => e' = .returned (.int .i64 z.1) ∧ RefT B w1 e lv1 rv1 z.2 k2 w') : Calls Tryz.prog f args w1 fun e' w' => e' = .returned (.int .i64 z.1) ∧ RefT B w e lv rv z.2 k2 w' := by
  obtain ⟨lv1, rv1, h1, h2, h3⟩ := ht
  exact (hc lv1 rv1 h1 fun W hu => h2.trans hu fun i hi q => (h3 i q).resolve_right (by omega)).mono fun _ _ q => ⟨q.1, q.2.step h2 h3⟩
/-- A call on a disk that was reached by calls. -/
theorem RefT.call {B : Nat} {w w1 : World} {e : Nat} {lv rv : Value} {y : Ab} {k : Nat} (ht : RefT B w e lv rv y k w1) {f : Nat} {args : Array Value} {z : Int × Ab} {k2 : Nat} (hc : ∀ lv1 rv1, RefK B w1 e lv1 rv1 y k → Calls Tryz.prog f args w1 fun e' w' => e' = .returned (.int .i64 z.1) ∧ RefT B w1 e lv1 rv1 z.2 k2 w') : Calls Tryz.prog f args w1 fun e' w' => e' = .returned (.int .i64 z.1) ∧ RefT B w e lv rv z.2 k2 w' := by
  obtain ⟨lv1, rv1, h1, h2, h3⟩ := ht
  exact (hc lv1 rv1 h1).mono fun _ _ q => ⟨q.1, q.2.step h2 h3⟩

set_option maxHeartbeats 4000000 in
theorem gone_K {B : Nat} {w : World} {e : Nat} {lv rv : Value} {x : Ab} {k : Nat} (h : RefK B w e lv rv x k) (hk : k + 2 < 2199023255552) : Calls Tryz.prog 44 #[.pointer (some ⟨e, 0, none⟩)] w fun e' w' => e' = .returned (.int .i64 (goneA x).1) ∧ RefT B w e lv rv (goneA x).2 (k + 2) w' := by
  have HK : Hid (Calls Tryz.prog 32 #[.pointer (some ⟨e, 0, none⟩), .string ⟨#[47, 106, 111, 117, 114, 110, 97, 108, 47, 112, 108, 97, 110, 46, 110, 101, 119]⟩] w fun e' w' => e' = .returned (.int .i64 (kindD x.D pN)) ∧ w' = w) := rKind_any h.ref h.fine.pl.good pN (by have := h.lf; omega)
  have HR1 : Hid (Calls Tryz.prog 79 #[.pointer (some ⟨e, 0, none⟩), .string ⟨#[47, 106, 111, 117, 114, 110, 97, 108, 47, 112, 108, 97, 110, 46, 110, 101, 119]⟩] w fun e' w' => e' = .returned (.int .i64 (removeD x pN).1) ∧ RefT B w e lv rv (removeD x pN).2 (k + 1) w') := rem_K h (by omega) pN (by decide)
  have HR0 : Hid (Calls Tryz.prog 79 #[.pointer (some ⟨e, 0, none⟩), .string ⟨#[47, 106, 111, 117, 114, 110, 97, 108]⟩] w fun e' w' => e' = .returned (.int .i64 (removeD x jn).1) ∧ RefT B w e lv rv (removeD x jn).2 (k + 2) w') := (rem_K h (by omega) jn (by decide)).mono fun _ _ q => ⟨q.1, q.2.more (by omega)⟩
  have HR2 : Hid (∀ W, RefT B w e lv rv (removeD x pN).2 (k + 1) W → Calls Tryz.prog 79 #[.pointer (some ⟨e, 0, none⟩), .string ⟨#[47, 106, 111, 117, 114, 110, 97, 108]⟩] W fun e' w' => e' = .returned (.int .i64 (removeD (removeD x pN).2 jn).1) ∧ RefT B w e lv rv (removeD (removeD x pN).2 jn).2 (k + 2) w') := fun W ht => ht.call fun lv1 rv1 hr => rem_K hr (by omega) jn (by decide)
  have HG : Hid (goneA x = (if (kindD x.D pN == 1) = true then (if ((removeD x pN).1 != 0) = true then removeD x pN else removeD (removeD x pN).2 jn) else removeD x jn)) := rfl
  generalize goneA x = G at *
  generalize kindD x.D pN = kk at *
  generalize removeD (removeD x pN).2 jn = R2 at *
  generalize removeD x pN = R1 at *
  generalize removeD x jn = R0 at *
  clear h
  cases hkk : (kk == 1)
  · rw [hkk, if_neg (by decide)] at HG
    rw [HG.out]
    clear HG HR1 HR2
    go_enter Tryz.func44, Tryz.ntmps44
    go_wp2_with (first
      | (go_at_call 79; refine HR0.out.mono ?_; rintro e1 w1 ⟨rfl, ht1⟩; have HT1 := hide3 ht1; clear ht1)
      | (go_at_call 32; refine HK.out.mono ?_; rintro e0 w0 ⟨rfl, rfl⟩))
    go_ret
    exact ⟨rfl, HT1.out⟩
  · rw [hkk, if_pos rfl] at HG
    obtain ⟨c1, y1⟩ := R1
    simp only at HG HR1 HR2
    cases hc : (c1 != 0)
    · rw [hc, if_neg (by decide)] at HG
      rw [HG.out]
      clear HG HR0
      go_enter Tryz.func44, Tryz.ntmps44
      go_wp2_with (first
        | (go_at_call 79; have _t := HT1; refine (HR2.out _ HT1.out).mono ?_; rintro e2 w2 ⟨rfl, ht2⟩; have HT2 := hide3 ht2; clear ht2)
        | (go_at_call 79; refine HR1.out.mono ?_; rintro e1 w1 ⟨rfl, ht1⟩; have HT1 := hide3 ht1; clear ht1)
        | (go_at_call 32; refine HK.out.mono ?_; rintro e0 w0 ⟨rfl, rfl⟩))
      go_ret
      exact ⟨rfl, HT2.out⟩
    · rw [hc, if_pos rfl] at HG
      rw [HG.out]
      clear HG HR0 HR2
      go_enter Tryz.func44, Tryz.ntmps44
      go_wp2_with (first
        | (go_at_call 79; refine HR1.out.mono ?_; rintro e1 w1 ⟨rfl, ht1⟩; have HT1 := hide3 ht1; clear ht1)
        | (go_at_call 32; refine HK.out.mono ?_; rintro e0 w0 ⟨rfl, rfl⟩))
      go_ret
      exact ⟨rfl, HT1.out.more (by omega)⟩

set_option maxHeartbeats 8000000 in
theorem end_K {B : Nat} {w : World} {e : Nat} {lv rv : Value} {x : Ab} {k : Nat} (h : RefK B w e lv rv x k) (l : List De) (a : Option Addr) (cap : Nat) (hd : ∀ W, Upd (FootR e lv rv) w W → IsDes W a l) (hz : ∀ d ∈ l, d.pa.size ≤ maxLen) (hk : k + l.length + 4 < 2199023255552) :
    Calls Tryz.prog 38 #[.pointer (some ⟨e, 0, none⟩), .slice a l.length cap] w fun e' w' => e' = .returned (.int .i64 (endA l x).1) ∧ RefT B w e lv rv (endA l x).2 (k + l.length + 3) w' := by
  have HD := hide3 hd
  have HZ := hide3 hz
  have HH := hide3 h
  have HE : Hid (endA l x = (if ((runA l x).1 != 0) = true then runA l x
  else if ((removeD (runA l x).2 pP).1 != 0) = true then removeD (runA l x).2 pP
  else goneA (removeD (runA l x).2 pP).2)) := rfl
  have HR : Hid (∀ W, RefT B w e lv rv (runA l x).2 (k + l.length) W → Calls Tryz.prog 79 #[.pointer (some ⟨e, 0, none⟩), .string ⟨#[47, 106, 111, 117, 114, 110, 97, 108, 47, 112, 108, 97, 110]⟩] W fun e' w' => e' = .returned (.int .i64 (removeD (runA l x).2 pP).1) ∧ RefT B w e lv rv (removeD (runA l x).2 pP).2 (k + l.length + 1) w') := fun W ht => ht.call fun lv1 rv1 hr => rem_K hr (by omega) pP (by decide)
  have HG : Hid (∀ W, RefT B w e lv rv (removeD (runA l x).2 pP).2 (k + l.length + 1) W → Calls Tryz.prog 44 #[.pointer (some ⟨e, 0, none⟩)] W fun e' w' => e' = .returned (.int .i64 (goneA (removeD (runA l x).2 pP).2).1) ∧ RefT B w e lv rv (goneA (removeD (runA l x).2 pP).2).2 (k + l.length + 3) w') := fun W ht => ht.call fun lv1 rv1 hr => gone_K hr (by omega)
  clear hd hz h
  go_enter Tryz.func38, Tryz.ntmps38
  go_wp2_with fail
  go_loopw [5] (fun v5 wr => ∃ i : Nat, i ≤ l.length ∧ v5 = .int .i64 i ∧ (runA (l.take i) x).1 = 0 ∧ RefT B w e lv rv (runA (l.take i) x).2 (k + i) wr) (fun v5 _ => l.length - (intOf v5).toNat)
  case atStart => exact ⟨0, Nat.zero_le _, rfl, rfl, RefT.refl HH.out⟩
  case round =>
    obtain ⟨i, hi, rfl, h0, ht⟩ := hrel
    have H0 := hide3 h0
    have HT := hide3 ht
    clear h0 ht
    by_cases hlt : i < l.length
    · obtain ⟨g, off, rfl, hg, hcs⟩ : ∃ g off, a = some ⟨g, off, none⟩ ∧ g < wr.heap.size ∧ DesIn wr g off l := by
        rcases HD.out wr HT.out.upd with q | q
        · rw [q] at hlt; exact absurd hlt (Nat.not_lt_zero _)
        · exact q
      obtain ⟨b0, b1, b2⟩ := hcs i hlt
      have HDO : Hid (Calls Tryz.prog 74 #[.pointer (some ⟨e, 0, none⟩), .agg #[.int .i64 l[i].kd, .string l[i].pa, .string l[i].da]] wr fun e' w' => e' = .returned (.int .i64 (doA (runA (l.take i) x).2 l[i]).1) ∧ RefT B w e lv rv (doA (runA (l.take i) x).2 l[i]).2 (k + i + 1) w') := HT.out.call fun lv1 rv1 hr => do_K hr (by omega) l[i] (HZ.out l[i] (List.getElem_mem hlt))
      have HST := hide3 (runA_stop hlt H0.out)
      have HNX := hide3 (runA_next hlt H0.out)
      have hii : (i : Int) < (l.length : Int) := by omega
      have hi0 : (0 : Int) ≤ (i : Int) := by omega
      clear hcs
      generalize doA (runA (l.take i) x).2 l[i] = Y at *
      generalize l[i].kd = kd at *
      generalize l[i].pa = p at *
      generalize l[i].da = t at *
      obtain ⟨c, y⟩ := Y
      simp only at HDO HST HNX
      cases hc : (c != 0)
      · have hc0 : c = 0 := bne_eq_false_iff_eq.1 hc
        have HC0 := hide3 hc0
        clear hc0
        go_wp2_with (go_at_call 74; refine HDO.out.mono ?_; rintro e1 w1 ⟨rfl, ht1⟩; have HT1 := hide3 ht1; clear ht1)
        exact ⟨⟨i + 1, by omega, by go_num, by rw [HNX.out]; exact HC0.out, by rw [HNX.out]; exact HT1.out⟩, by simp [intOf]; omega⟩
      · have HRN := hide3 (HST.out hc)
        rw [HRN.out, if_pos hc] at HE
        clear HST HNX HRN HR HG
        go_wp2_with (go_at_call 74; refine HDO.out.mono ?_; rintro e1 w1 ⟨rfl, ht1⟩; have HT1 := hide3 ht1; clear ht1)
        go_ret
        rw [HE.out]
        exact ⟨rfl, HT1.out.more (by omega)⟩
    · obtain rfl : i = l.length := by omega
      have hii : ¬ ((l.length : Int) < (l.length : Int)) := by omega
      rw [List.take_length] at HT H0
      rw [if_neg (by rw [H0.out]; decide)] at HE
      generalize goneA (removeD (runA l x).2 pP).2 = G3 at *
      generalize removeD (runA l x).2 pP = R1 at *
      obtain ⟨c1, y1⟩ := R1
      simp only at HE HR HG
      have HR2 := hide3 (HR.out wr HT.out)
      clear HR
      cases hc : (c1 != 0)
      · rw [hc, if_neg (by decide)] at HE
        go_wp2_with (first
          | (go_at_call 44; have _t := HT1; refine (HG.out _ HT1.out).mono ?_; rintro e2 w2 ⟨rfl, ht2⟩; have HT2 := hide3 ht2; clear ht2)
          | (go_at_call 79; refine HR2.out.mono ?_; rintro e1 w1 ⟨rfl, ht1⟩; have HT1 := hide3 ht1; clear ht1))
        go_ret
        rw [HE.out]
        exact ⟨rfl, HT2.out⟩
      · rw [hc, if_pos rfl] at HE
        clear HG
        go_wp2_with (go_at_call 79; refine HR2.out.mono ?_; rintro e1 w1 ⟨rfl, ht1⟩; have HT1 := hide3 ht1; clear ht1)
        go_ret
        rw [HE.out]
        exact ⟨rfl, HT1.out.more (by omega)⟩
end Go.Proofs.YtpaoimhebheaeaaGreatDoor
namespace Go.Proofs.YtpaoimhebheaeaaGreatDoor
open Go.RowKit Go.Maps Go.WideMaps Go.WideElems Dk
set_option maxRecDepth 100000

theorem ref_new {w : World} {B : Nat} {v : Value} {fs : List Fl} (hrow : w.ownsRow B 83 3 v fs.length (fileCells fs)) (hB : B ≤ w.heap.size) : IsRef B (w.alloc (.cells #[v, .slice none 0 0, .int .i64 (-1)] 49)) w.heap.size v (.slice none 0 0) fs [] (-1) := by
  have fz : ∀ i, (w.alloc (.cells #[v, .slice none 0 0, .int .i64 (-1)] 49)).frozen? ⟨w.heap.size, i, none⟩ = false := by
    intro i
    have e : (w.alloc (.cells #[v, .slice none 0 0, .int .i64 (-1)] 49)).heap[w.heap.size]? = some (.cells #[v, .slice none 0 0, .int .i64 (-1)] 49 (0, 0)) := by
      show (w.heap.push _)[w.heap.size]? = _
      rw [Array.getElem?_push, if_pos rfl]
    exact Lib.frozen_of_heap e i
  exact { c0 := by rw [World.cell?_alloc_new]; rfl, c1 := by rw [World.cell?_alloc_new]; rfl, c2 := by rw [World.cell?_alloc_new]; rfl, f0 := fz 0, f1 := fz 1, f2 := fz 2,
          lrow := World.ownsRow.alloc hrow _, rrow := ⟨rfl, Or.inl ⟨rfl, rfl⟩⟩, le := fun q => by have := (row_lt hrow q).1; omega, re := by simp [Value.ownBlock], be := hB, lt := by simp }
/-- What Copy leaves. -/
def CpQ (w : World) (x : Ab) (k : Nat) (e' : Ending) (w' : World) : Prop := ∃ e2 lv2, e' = .returned (.pointer (some ⟨e2, 0, none⟩)) ∧ RefK w.heap.size w' e2 lv2 (.slice none 0 0) ⟨x.D, [], -1⟩ k ∧ Below w.heap.size w w'
theorem cp_end {w w1 : World} {x : Ab} {k : Nat} {v : Value} (hf : Fine x) (hl : (filesD x.D).length ≤ k) (hrow : w1.ownsRow w.heap.size 83 3 v (filesD x.D).length (fileCells (filesD x.D))) (hb : Below w.heap.size w w1) : CpQ w x k (.returned (.pointer (some ⟨w1.heap.size, 0, none⟩))) (w1.alloc (.cells #[v, .slice none 0 0, .int .i64 (-1)] 49)) :=
  ⟨w1.heap.size, v, rfl, ⟨ref_new hrow hb.size, ⟨hf.pl, hf.so, by simp, by simp⟩, hl, Nat.zero_le _, by have := hb.size; simp; omega⟩, hb.alloc hb.size _⟩
theorem wp_app0J {w : World} {ops : Array Oper} {rest : List Oper} {o : Oper} {f : Act} {Q : Exit → Act → World → Prop} (hgd : o.guard = none) (s x : Operand) (t : TypeId)
    (ho : o.op = .call { callee := .builtin .append, args := #[s, x], argTypes := #[t, t] }) (e : TypeId) (i : TypeInfo) (ht : Tryz.prog.underlying t = some (.slice e)) (hi : Tryz.prog.info? e = some i)
    {base : Option Addr} {n cap : Nat} (hs : f.eval s = .slice base n cap) (hn : n ≤ cap) {ad : Option Addr} {c : Nat} (hx : f.eval x = .slice ad 0 c)
    (h : wpList Tryz.prog ops Q rest (f.put o.dst (.slice base n cap)) w) : wpList Tryz.prog ops Q (o :: rest) f w := by
  refine wpList_plain hgd fun K hK => ?_
  have hr : (Builtin.append_ #[t, t] o.type #[.slice base n cap, .slice ad 0 c]).run Tryz.prog w = .ok (.slice base n cap) w := by
    cases ad <;> cases base <;> simp [Builtin.append_, run_underlying ht, sizeOf, typeInfo, hi, Builtin.lenOf, hn, Builtin.firstCells, loadCells, loadCellsFrom, storeCells]
  unfold Oper.wp execOp
  simp only [ho, resolve, invoke, builtin, Sem.run_bind, Sem.run_pure, Result.andThen_ok, List.map_toArray, List.map_cons, List.map_nil, hs, hx, hr]
  exact hK _ _ h
theorem fileCells_one {fs : List Fl} : ∀ u ∈ fileCells fs, u.oneCell' = true := fun u hu => by
  unfold fileCells at hu
  obtain ⟨f, _, hf⟩ := List.mem_flatMap.1 hu
  simp at hf
  rcases hf with rfl | rfl | rfl <;> rfl
theorem fileCells_lenJ (fs : List Fl) : (fileCells fs).length = fs.length * 3 := by
  unfold fileCells
  induction fs with
  | nil => rfl
  | cons f r ih => rw [List.flatMap_cons, List.length_append, ih, List.length_cons]; simp; omega

set_option maxHeartbeats 4000000 in
theorem copy_K {B : Nat} {w : World} {e : Nat} {lv rv : Value} {x : Ab} {k : Nat} (h : RefK B w e lv rv x k) (hk : k ≤ 2199023255552) : Calls Tryz.prog 72 #[.pointer (some ⟨e, 0, none⟩)] w (CpQ w x k) := by
  obtain ⟨i0, hi, hz0, hz1, hz2⟩ := info_parts infoFile
  have c0 := h.ref.c0
  have hrow := h.ref.lrow
  have hlf := h.lf
  have HE : Hid (∀ w1 v, w1.ownsRow w.heap.size 83 3 v (filesD x.D).length (fileCells (filesD x.D)) → Below w.heap.size w w1 → CpQ w x k (.returned (.pointer (some ⟨w1.heap.size, 0, none⟩))) (w1.alloc (.cells #[v, .slice none 0 0, .int .i64 (-1)] 49))) := fun w1 v h1 h2 => cp_end h.fine h.lf h1 h2
  clear h
  generalize filesD x.D = fl at *
  rcases hrow.2 with ⟨e1, e2⟩ | ⟨g, cap, cur, e1, _⟩
  · have h0 : fl = [] := List.eq_nil_of_length_eq_zero e2
    subst e1 h0
    go_enter Tryz.func72, Tryz.ntmps72
    go_wp2_with (at_builtin; refine wp_app0J rfl (.tmp 4) (.tmp 8) 22 rfl 83 i0 Tryz.underlying22 hi rfl (Nat.le_refl _) rfl ?_)
    go_ret
    exact HE.out w (.slice none 0 0) ⟨rfl, Or.inl ⟨rfl, rfl⟩⟩ (Below.refl _ _)
  · have HR := hide3 hrow
    subst e1
    have hnews : ∀ j u, (fileCells fl)[j]? = some u → w.cell? ((⟨g, 0, none⟩ : Addr).add j) = some u := fun j u hj => by
      have := row_cells HR.out j u hj
      rw [← this]
      congr 1
      unfold Addr.add
      simp
      exact fun q => q.symm
    have HNW := hide3 hnews
    clear hnews hrow
    have HL3 : Hid ((fileCells fl).length = fl.length * 3) := fileCells_lenJ fl
    go_enter Tryz.func72, Tryz.ntmps72
    go_wp2_with (at_builtin; refine wpList_append_own _ rfl (.tmp 4) (.tmp 8) 22 rfl w.heap.size 83 i0 _ 3 40 Tryz.underlying22 hi hz0 hz1 hz2 rfl (by decide) (.slice none 0 0) 0 [] rfl ⟨rfl, Or.inl ⟨rfl, rfl⟩⟩ ⟨g, 0, none⟩ fl.length cap (fileCells fl) rfl HL3.out HNW.out fileCells_one (by unfold maxLen; omega) (by omega) (Nat.le_refl _) ?_; intro v1 w1 h1 h2 _; rw [Nat.zero_add, List.nil_append] at h1; obtain ⟨a1, c1, rfl⟩ := row_form h1; have HO1 := hide3 h1; have HG1 : Hid (Below w.heap.size w w1) := (Below.refl _ _).grown h2 (Nat.le_refl _) (fun q hq => by cases hq); clear h1 h2)
    go_ret
    exact HE.out w1 _ HO1.out HG1.out
end Go.Proofs.YtpaoimhebheaeaaGreatDoor
