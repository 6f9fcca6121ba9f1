/- Pk2, Ps1, Tw1, ScPl1, laid in one text. -/
import Derived.Test.YtogpkhpephhbiaaGreatDoorProg
import Derived.Test.YtogpkhpephhbiaaGreatDoorMg04
namespace Go.Proofs.YtogpkhpephhbiaaGreatDoor
open Go.RowKit
set_option maxRecDepth 100000

/-- A dependency: its name, its range. -/
structure Dp where
  nm : ByteArray
  rg : List Sp

theorem SpansAt.sl {w : World} {v : Value} {L : List Sp} (h : SpansAt w v L) : ∃ ad cap, v = .slice ad L.length cap := by
  obtain ⟨ad, cap, rfl, _⟩ := h
  exact ⟨ad, cap, rfl⟩
/-- A dependency lies at a place, with its range's slice u. -/
def DpIn (w : World) (g o : Nat) (d : Dp) (u : Value) : Prop := w.cell? ⟨g, o, none⟩ = some (.string d.nm) ∧ w.cell? ⟨g, o + 1, none⟩ = some u ∧ (SpansC w u d.rg ∧ d.rg.length ≤ 9223372036854775807) ∧ g < w.heap.size
/-- A list of dependencies lies there. -/
def DepsAt (w : World) (v : Value) (L : List Dp) : Prop := ∃ ad cap, v = .slice ad L.length cap ∧ L.length ≤ cap ∧ (L = [] ∨ ∃ g o, ad = some ⟨g, o, none⟩ ∧ g < w.heap.size ∧ ∀ i (h : i < L.length), ∃ u, DpIn w g (o + i * 2) L[i] u)

theorem DpIn.below {w w' : World} {g o : Nat} {d : Dp} {u : Value} (h : DpIn w g o d u) (hb : Below w.heap.size w w') : DpIn w' g o d u :=
  ⟨(hb.cell (p := ⟨g, o, none⟩) h.2.2.2).trans h.1, (hb.cell (p := ⟨g, o + 1, none⟩) h.2.2.2).trans h.2.1, ⟨⟨h.2.2.1.1.1.below hb, h.2.2.1.1.2⟩, h.2.2.1.2⟩, Nat.lt_of_lt_of_le h.2.2.2 hb.size⟩
theorem keepDp (g o : Nat) (d : Dp) (u : Value) : KeepP fun w1 => DpIn w1 g o d u := fun _ _ h hb => h.below hb
theorem DepsAt.below {w w' : World} {v : Value} {L : List Dp} (h : DepsAt w v L) (hb : Below w.heap.size w w') : DepsAt w' v L := by
  obtain ⟨ad, cap, hv, hc, hl⟩ := h
  refine ⟨ad, cap, hv, hc, hl.imp id ?_⟩
  rintro ⟨g, o, ha, hg, hs⟩
  exact ⟨g, o, ha, Nat.lt_of_lt_of_le hg hb.size, fun i hi => (hs i hi).imp fun u hu => hu.below hb⟩
theorem keepDeps (v : Value) (L : List Dp) : KeepP fun w1 => DepsAt w1 v L := fun _ _ h hb => h.below hb

/-- A dependency's variable. -/
def BxD (w : World) (N : Nat) (s : ByteArray) (u : Value) : Prop := w.cell? ⟨N, 0, none⟩ = some (.string s) ∧ w.cell? ⟨N, 1, none⟩ = some u ∧ N < w.heap.size
theorem keepBxD (N : Nat) (s : ByteArray) (u : Value) : KeepP fun w1 => BxD w1 N s u := fun _ _ h hb =>
  ⟨(hb.cell (p := ⟨N, 0, none⟩) h.2.2).trans h.1, (hb.cell (p := ⟨N, 1, none⟩) h.2.2).trans h.2.1, Nat.lt_of_lt_of_le h.2.2 hb.size⟩
theorem BxD.new {w : World} {N : Nat} (hN : w.heap.size = N) (s : ByteArray) (u : Value) : BxD (w.alloc (.cells #[.string s, u] 137)) N s u := by
  subst hN
  exact ⟨by simp, by simp, by simp⟩

theorem sameDep_any {d e : Dp} {u v : Value} {w : World} (hu : SpansAt w u d.rg) (hv : SpansAt w v e.rg) (hsz : d.rg.length ≤ 9223372036854775807) :
    Calls Tryz.prog 84 #[.agg #[.string d.nm, u], .agg #[.string e.nm, v]] w fun x w' => x = .returned (.bool (eqB d e)) ∧ Below w.heap.size w w' := by
  have HE : Hid (∀ w1, Below w.heap.size w w1 → Calls Tryz.prog 94 #[u, v] w1 fun x w' => x = .returned (.bool (eqB d.rg e.rg)) ∧ Below w1.heap.size w1 w') := fun w1 h => Equal_any (hu.below h) (hv.below h) hsz
  obtain ⟨n, r⟩ := d
  obtain ⟨m, q⟩ := e
  simp only at HE
  obtain ⟨ad, ca, rfl, _⟩ := hu
  obtain ⟨bd, cb, rfl, _⟩ := hv
  clear hsz
  simp only at HE
  by_cases hn : n = m
  · subst hn
    have HR : Hid (eqB (⟨n, r⟩ : Dp) ⟨n, q⟩ = eqB r q) := by
      unfold Hid
      by_cases h : r = q
      · rw [eqB_yes h, eqB_yes (by rw [h])]
      · rw [eqB_no h, eqB_no (fun e => h (by injection e))]
    generalize eqB r q = b at *
    go_enter Tryz.func84, Tryz.ntmps84
    go_wp2_with (go_at_call 94; refine (HE.out _ (boxB2 _ _ _)).mono ?_; rintro x w1 ⟨rfl, ok⟩)
    go_ret
    exact ⟨ret_bool HR.out.symm, below_then (boxB2 _ _ _) ok⟩
  · have HR : Hid (eqB (⟨n, r⟩ : Dp) ⟨m, q⟩ = false) := eqB_no (fun e => hn (by injection e))
    clear HE
    have hl : (n.toList = m.toList) = False := eq_false fun e => hn (bytes_same e)
    go_enter Tryz.func84, Tryz.ntmps84
    go_wp2
    go_ret
    exact ⟨ret_bool HR.out.symm, boxB2 _ _ _⟩

set_option maxHeartbeats 1600000 in
theorem EqualFunc_walk (A B : List Dp) (hAB : A.length = B.length) (hsz : A.length ≤ 9223372036854775807) (ga oa ca gb ob cb : Nat) (w : World) (hla : ∀ i (h : i < A.length), ∃ u, DpIn w ga (oa + i * 2) A[i] u) (hlb : ∀ i (h : i < B.length), ∃ u, DpIn w gb (ob + i * 2) B[i] u) :
    Calls Tryz.prog 83 #[.slice (some ⟨ga, oa, none⟩) A.length ca, .slice (some ⟨gb, ob, none⟩) B.length cb, .func (.func 84) #[] #[]] w fun e w' => e = .returned (.bool (eqB A B)) ∧ Below w.heap.size w w' := by
  have HL : Hid (∀ w1, Below w.heap.size w w1 → ∀ i (h : i < A.length) (h2 : i < B.length), (∃ u, DpIn w1 ga (oa + i * 2) A[i] u) ∧ ∃ u, DpIn w1 gb (ob + i * 2) B[i] u) := fun w1 hb i hi hi2 => ⟨(hla i hi).imp fun u h => h.below hb, (hlb i hi2).imp fun u h => h.below hb⟩
  have HAB := hide3 hAB
  clear hla hlb
  rw [← hAB]
  clear hAB
  go_enter Tryz.func83, Tryz.ntmps83
  go_wp2_with fail
  go_loopw [17] (fun i wr => ∃ k : Nat, k ≤ A.length ∧ i = .int .i64 k ∧ Below w.heap.size w wr ∧ ∀ j (h : j < k) (h1 : j < A.length) (h2 : j < B.length), A[j] = B[j]) (fun i _ => A.length - (intOf i).toNat)
  case atStart => exact ⟨0, Nat.zero_le _, rfl, Below.refl _ _, fun j h => by omega⟩
  case round =>
    obtain ⟨k, hk, rfl, hb, hall⟩ := hrel
    have HALL := hide3 hall
    have HB := hide3 hb
    clear hall
    by_cases hlt : k < A.length
    · have hltB : k < B.length := HAB.out ▸ hlt
      obtain ⟨⟨u, p0, p1, ⟨⟨hu, _⟩, hz⟩, p3⟩, ⟨v, q0, q1, ⟨⟨hv, _⟩, _⟩, q3⟩⟩ := HL.out wr hb k hlt hltB
      have HC : Hid (∀ w1, Below wr.heap.size wr w1 → Calls Tryz.prog 84 #[.agg #[.string A[k].nm, u], .agg #[.string B[k].nm, v]] w1 fun x w' => x = .returned (.bool (eqB A[k] B[k])) ∧ Below w1.heap.size w1 w') := fun w1 h => sameDep_any (hu.below h) (hv.below h) hz
      have HNE : Hid (eqB A[k] B[k] = false → eqB A B = false) := fun h => eqB_no fun e => by subst e; rw [eqB_yes rfl] at h; cases h
      have HST : Hid (eqB A[k] B[k] = true → ∀ j (h : j < k + 1) (h1 : j < A.length) (h2 : j < B.length), A[j] = B[j]) := fun h j hj h1 h2 => by
        rcases Nat.lt_or_ge j k with hjk | hjk
        · exact HALL.out j hjk h1 h2
        · obtain rfl : j = k := by omega
          exact eqB_iff.1 h
      obtain ⟨ad, ca, rfl⟩ := hu.sl
      obtain ⟨bd, cb, rfl⟩ := hv.sl
      clear hz hu hv
      generalize A[k].rg.length = na at *
      generalize B[k].rg.length = nb at *
      generalize eqB A[k] B[k] = b at *
      generalize A[k].nm = s at *
      generalize B[k].nm = t at *
      have q0' : (wr.alloc (.cells #[.string s, .slice ad na ca] 137)).cell? ⟨gb, ob + k * 2, none⟩ = some (.string t) := ((boxB wr (.cells #[.string s, .slice ad na ca] 137)).cell (p := ⟨gb, ob + k * 2, none⟩) q3).trans q0
      have q1' : (wr.alloc (.cells #[.string s, .slice ad na ca] 137)).cell? ⟨gb, ob + k * 2 + 1, none⟩ = some (.slice bd nb cb) := ((boxB wr (.cells #[.string s, .slice ad na ca] 137)).cell (p := ⟨gb, ob + k * 2 + 1, none⟩) q3).trans q1
      cases b
      · have HR := hide3 (HNE.out rfl)
        clear hb HNE HST HALL
        go_wp2_with (go_at_call 84; refine (HC.out _ (boxB2 _ _ _)).mono ?_; rintro x w1 ⟨rfl, ok⟩)
        go_ret
        exact ⟨ret_bool HR.out.symm, below_then HB.out (below_then (boxB2 _ _ _) ok)⟩
      · have HR := hide3 (HST.out rfl)
        clear hb HNE HST HALL
        go_wp2_with (go_at_call 84; refine (HC.out _ (boxB2 _ _ _)).mono ?_; rintro x w1 ⟨rfl, ok⟩)
        exact ⟨⟨k + 1, by omega, by go_num, below_then HB.out (below_then (boxB2 _ _ _) ok), HR.out⟩, by simp [intOf]; omega⟩
    · have hke : k = A.length := by omega
      subst hke
      have HR : Hid (eqB A B = true) := eqB_yes (List.ext_getElem HAB.out fun j h1 h2 => HALL.out j h1 h1 h2)
      clear hb
      go_wp2
      go_ret
      exact ⟨ret_bool HR.out.symm, HB.out⟩

theorem EqualFunc_nil (ad bd : Option Addr) (ca cb : Nat) (w : World) :
    Calls Tryz.prog 83 #[.slice ad 0 ca, .slice bd 0 cb, .func (.func 84) #[] #[]] w fun e w' => e = .returned (.bool true) ∧ Below w.heap.size w w' := by
  go_enter Tryz.func83, Tryz.ntmps83
  go_wp2_with fail
  go_loop [17] (fun i => i = .int .i64 0) (fun _ => 0)
  case atStart => rfl
  case round =>
    subst hrel
    go_wp2
    go_ret
    exact ⟨rfl, Below.refl _ _⟩

theorem EqualFunc_len (ad bd : Option Addr) (n m ca cb : Nat) (h : n ≠ m) (w : World) :
    Calls Tryz.prog 83 #[.slice ad n ca, .slice bd m cb, .func (.func 84) #[] #[]] w fun e w' => e = .returned (.bool false) ∧ Below w.heap.size w w' := by
  have hn : ((n : Int) = (m : Int)) = False := by simp; omega
  go_enter Tryz.func83, Tryz.ntmps83
  go_wp2
  go_ret
  exact ⟨rfl, Below.refl _ _⟩

theorem EqualFunc_any {A B : List Dp} {va vb : Value} {w : World} (ha : DepsAt w va A) (hb : DepsAt w vb B) (hsz : A.length ≤ 9223372036854775807) :
    Calls Tryz.prog 83 #[va, vb, .func (.func 84) #[] #[]] w fun e w' => e = .returned (.bool (eqB A B)) ∧ Below w.heap.size w w' := by
  obtain ⟨ad, ca, rfl, _, hl⟩ := ha
  obtain ⟨bd, cb, rfl, _, hm⟩ := hb
  by_cases hn : A.length = B.length
  · rcases hl with rfl | ⟨ga, oa, rfl, hga, hla⟩
    · obtain rfl : B = [] := List.eq_nil_of_length_eq_zero (by simpa using hn.symm)
      rw [eqB_yes rfl]
      exact EqualFunc_nil _ _ _ _ w
    · rcases hm with rfl | ⟨gb, ob, rfl, hgb, hlb⟩
      · obtain rfl : A = [] := List.eq_nil_of_length_eq_zero (by simpa using hn)
        rw [eqB_yes rfl]
        exact EqualFunc_nil _ _ _ _ w
      · exact EqualFunc_walk A B hn hsz ga oa ca gb ob cb w hla hlb
  · rw [eqB_no fun e => hn (by rw [e])]
    exact EqualFunc_len _ _ _ _ _ _ hn w

theorem eqB_and {α : Type} {x y : α} {b : Bool} (h : x = y ↔ b = true) : eqB x y = b := by
  cases b
  · exact eqB_no fun e => by cases h.1 e
  · exact eqB_yes (h.2 rfl)
theorem DepsAt.sl {w : World} {v : Value} {L : List Dp} (h : DepsAt w v L) : ∃ ad cap, v = .slice ad L.length cap := by
  obtain ⟨ad, cap, rfl, _⟩ := h
  exact ⟨ad, cap, rfl⟩

theorem dSame_any {A B : List Dp} {va vb : Value} {w : World} (ha : DepsAt w va A) (hb : DepsAt w vb B) (hsz : A.length ≤ 9223372036854775807) :
    Calls Tryz.prog 74 #[va, vb] w fun e w' => e = .returned (.bool (eqB A B)) ∧ Below w.heap.size w w' := by
  have HE := hide3 (EqualFunc_any ha hb hsz)
  obtain ⟨ad, ca, rfl⟩ := ha.sl
  obtain ⟨bd, cb, rfl⟩ := hb.sl
  clear ha hb hsz
  go_enter Tryz.func74, Tryz.ntmps74
  go_wp2_with (go_at_call 83; refine HE.out.mono ?_; rintro x w1 ⟨rfl, ok⟩)
  go_ret
  exact ⟨rfl, ok⟩
end Go.Proofs.YtogpkhpephhbiaaGreatDoor
namespace Go.Proofs.YtogpkhpephhbiaaGreatDoor
open Go.RowKit
set_option maxRecDepth 100000

/-- A package: its name, its version, its three lists. -/
structure Pg where
  nm : ByteArray
  a : Int
  b : Int
  c : Int
  d : List Dp
  p : List Dp
  o : List Dp

/-- A package's lists lie there. -/
def PgAt (w : World) (P : Pg) (v1 v2 v3 : Value) : Prop := DepsAt w v1 P.d ∧ DepsAt w v2 P.p ∧ DepsAt w v3 P.o

theorem PgAt.below {w w' : World} {P : Pg} {v1 v2 v3 : Value} (h : PgAt w P v1 v2 v3) (hb : Below w.heap.size w w') : PgAt w' P v1 v2 v3 := ⟨h.1.below hb, h.2.1.below hb, h.2.2.below hb⟩
theorem keepPg (P : Pg) (v1 v2 v3 : Value) : KeepP fun w1 => PgAt w1 P v1 v2 v3 := fun _ _ h hb => h.below hb

/-- A package's variable. -/
def BxP (w : World) (N : Nat) (s : ByteArray) (a b c : Int) (v1 v2 v3 : Value) : Prop :=
  w.cell? ⟨N, 0, none⟩ = some (.string s) ∧ w.cell? ⟨N, 1, none⟩ = some (.int .i64 a) ∧ w.cell? ⟨N, 2, none⟩ = some (.int .i64 b) ∧ w.cell? ⟨N, 3, none⟩ = some (.int .i64 c) ∧ w.cell? ⟨N, 4, none⟩ = some v1 ∧ w.cell? ⟨N, 5, none⟩ = some v2 ∧ w.cell? ⟨N, 6, none⟩ = some v3 ∧ N < w.heap.size
theorem keepBxP (N : Nat) (s : ByteArray) (a b c : Int) (v1 v2 v3 : Value) : KeepP fun w1 => BxP w1 N s a b c v1 v2 v3 := fun w w' h hb => by
  obtain ⟨h0, h1, h2, h3, h4, h5, h6, h7⟩ := h
  have q : ∀ i, w'.cell? ⟨N, i, none⟩ = w.cell? ⟨N, i, none⟩ := fun i => hb.cell (p := ⟨N, i, none⟩) h7
  exact ⟨by rw [q]; exact h0, by rw [q]; exact h1, by rw [q]; exact h2, by rw [q]; exact h3, by rw [q]; exact h4, by rw [q]; exact h5, by rw [q]; exact h6, Nat.lt_of_lt_of_le h7 hb.size⟩
theorem BxP.new {w : World} {N : Nat} (hN : w.heap.size = N) (s : ByteArray) (a b c : Int) (v1 v2 v3 : Value) : BxP (w.alloc (.cells #[.string s, .int .i64 a, .int .i64 b, .int .i64 c, v1, v2, v3] 62)) N s a b c v1 v2 v3 := by
  subst hN
  refine ⟨?_, ?_, ?_, ?_, ?_, ?_, ?_, ?_⟩ <;> simp

set_option maxHeartbeats 1600000 in
theorem Same_any {P Q : Pg} {v1 v2 v3 u1 u2 u3 : Value} {w : World} (hp : PgAt w P v1 v2 v3) (hq : PgAt w Q u1 u2 u3) (hd : P.d.length ≤ 9223372036854775807) (he : P.p.length ≤ 9223372036854775807) (ho : P.o.length ≤ 9223372036854775807) :
    Calls Tryz.prog 63 #[.agg #[.string P.nm, .int .i64 P.a, .int .i64 P.b, .int .i64 P.c, v1, v2, v3], .agg #[.string Q.nm, .int .i64 Q.a, .int .i64 Q.b, .int .i64 Q.c, u1, u2, u3]] w fun x w' => x = .returned (.bool (eqB P Q)) ∧ Below w.heap.size w w' := by
  have H1 : Hid (∀ w1, Below w.heap.size w w1 → Calls Tryz.prog 74 #[v1, u1] w1 fun e w' => e = .returned (.bool (eqB P.d Q.d)) ∧ Below w1.heap.size w1 w') := fun w1 h => dSame_any (hp.1.below h) (hq.1.below h) hd
  have H2 : Hid (∀ w1, Below w.heap.size w w1 → Calls Tryz.prog 74 #[v2, u2] w1 fun e w' => e = .returned (.bool (eqB P.p Q.p)) ∧ Below w1.heap.size w1 w') := fun w1 h => dSame_any (hp.2.1.below h) (hq.2.1.below h) he
  have H3 : Hid (∀ w1, Below w.heap.size w w1 → Calls Tryz.prog 74 #[v3, u3] w1 fun e w' => e = .returned (.bool (eqB P.o Q.o)) ∧ Below w1.heap.size w1 w') := fun w1 h => dSame_any (hp.2.2.below h) (hq.2.2.below h) ho
  have HR : Hid (eqB P Q = (decide (P.nm.toList = Q.nm.toList) && (decide (P.a = Q.a) && decide (P.b = Q.b) && decide (P.c = Q.c)) && eqB P.d Q.d && eqB P.p Q.p && eqB P.o Q.o)) := by
    refine eqB_and ?_
    obtain ⟨n, a, b, c, d, e, o⟩ := P
    obtain ⟨n', a', b', c', d', e', o'⟩ := Q
    simp only [Bool.and_eq_true, decide_eq_true_eq, eqB_iff, Pg.mk.injEq]
    exact ⟨fun ⟨h1, h2, h3, h4, h5, h6, h7⟩ => ⟨⟨⟨⟨by rw [h1], ⟨h2, h3⟩, h4⟩, h5⟩, h6⟩, h7⟩, fun ⟨⟨⟨⟨h1, ⟨h2, h3⟩, h4⟩, h5⟩, h6⟩, h7⟩ => ⟨bytes_same h1, h2, h3, h4, h5, h6, h7⟩⟩
  obtain ⟨a1, c1, rfl⟩ := hp.1.sl
  obtain ⟨a2, c2, rfl⟩ := hp.2.1.sl
  obtain ⟨a3, c3, rfl⟩ := hp.2.2.sl
  obtain ⟨b1, d1, rfl⟩ := hq.1.sl
  obtain ⟨b2, d2, rfl⟩ := hq.2.1.sl
  obtain ⟨b3, d3, rfl⟩ := hq.2.2.sl
  clear hp hq hd he ho
  have hv := eqV2 P.a P.b P.c Q.a Q.b Q.c
  have hgd := guardV
  obtain ⟨n, a, b, c, d, e, o⟩ := P
  obtain ⟨n', a', b', c', d', e', o'⟩ := Q
  simp only at *
  generalize eqB d d' = x1 at *
  generalize eqB e e' = x2 at *
  generalize eqB o o' = x3 at *
  generalize (decide (a = a') && decide (b = b') && decide (c = c')) = xv at *
  generalize d.length = l1 at *
  generalize e.length = l2 at *
  generalize o.length = l3 at *
  generalize d'.length = m1 at *
  generalize e'.length = m2 at *
  generalize o'.length = m3 at *
  have HB : Hid (BxP ((w.alloc (.cells #[.string n, .int .i64 a, .int .i64 b, .int .i64 c, .slice a1 l1 c1, .slice a2 l2 c2, .slice a3 l3 c3] 62)).alloc (.cells #[.string n', .int .i64 a', .int .i64 b', .int .i64 c', .slice b1 m1 d1, .slice b2 m2 d2, .slice b3 m3 d3] 62)) w.heap.size n a b c (.slice a1 l1 c1) (.slice a2 l2 c2) (.slice a3 l3 c3) ∧ BxP ((w.alloc (.cells #[.string n, .int .i64 a, .int .i64 b, .int .i64 c, .slice a1 l1 c1, .slice a2 l2 c2, .slice a3 l3 c3] 62)).alloc (.cells #[.string n', .int .i64 a', .int .i64 b', .int .i64 c', .slice b1 m1 d1, .slice b2 m2 d2, .slice b3 m3 d3] 62)) (w.heap.size + 1) n' a' b' c' (.slice b1 m1 d1) (.slice b2 m2 d2) (.slice b3 m3 d3)) := ⟨keepBxP _ _ _ _ _ _ _ _ _ _ (BxP.new rfl _ _ _ _ _ _ _) (boxB _ _), BxP.new (by simp) _ _ _ _ _ _ _⟩
  have HK : Hid (KeepP fun w1 => BxP w1 w.heap.size n a b c (.slice a1 l1 c1) (.slice a2 l2 c2) (.slice a3 l3 c3) ∧ BxP w1 (w.heap.size + 1) n' a' b' c' (.slice b1 m1 d1) (.slice b2 m2 d2) (.slice b3 m3 d3)) := (keepBxP _ _ _ _ _ _ _ _).and (keepBxP _ _ _ _ _ _ _ _)
  have t1 : True := trivial
  have t2 : True := trivial
  by_cases hn : n.toList = n'.toList
  · cases xv
    · go_enter Tryz.func63, Tryz.ntmps63
      go_wp2
      go_ret
      exact ⟨ret_bool (by rw [HR.out]; simp), boxB2 _ _ _⟩
    · go_enter Tryz.func63, Tryz.ntmps63
      cases x1
      · go_wp2_with (go_at_call 74; refine (H1.out _ (boxB2 _ _ _)).mono ?_; rintro x w1 ⟨rfl, ok⟩)
        go_ret
        exact ⟨ret_bool (by rw [HR.out]; simp), below_then (boxB2 _ _ _) ok⟩
      · cases x2
        · go_wp2_with (first
            | (have _t := t1; go_at_call 74; refine (H1.out _ (boxB2 _ _ _)).mono ?_; rintro x w1 ⟨rfl, ok⟩; clear t1; have HB1 := hide3 (HK.out _ _ HB.out ok); obtain ⟨⟨p0, p1, p2, p3, p4, p5, p6, p7⟩, ⟨q0, q1, q2, q3, q4, q5, q6, q7⟩⟩ := HB1.out)
            | (go_at_call 74; refine (H2.out _ (below_then (boxB2 _ _ _) ok)).mono ?_; rintro x w2 ⟨rfl, ok2⟩))
          go_ret
          exact ⟨ret_bool (by rw [HR.out]; simp), below_then (below_then (boxB2 _ _ _) ok) ok2⟩
        · go_wp2_with (first
            | (have _t := t1; go_at_call 74; refine (H1.out _ (boxB2 _ _ _)).mono ?_; rintro x w1 ⟨rfl, ok⟩; clear t1; have HB1 := hide3 (HK.out _ _ HB.out ok); obtain ⟨⟨p0, p1, p2, p3, p4, p5, p6, p7⟩, ⟨q0, q1, q2, q3, q4, q5, q6, q7⟩⟩ := HB1.out)
            | (have _t := t2; go_at_call 74; refine (H2.out _ (below_then (boxB2 _ _ _) ok)).mono ?_; rintro x w2 ⟨rfl, ok2⟩; clear t2; have HB2 := hide3 (HK.out _ _ HB1.out ok2); clear p0 p1 p2 p3 p4 p5 p6 p7 q0 q1 q2 q3 q4 q5 q6 q7; obtain ⟨⟨p0, p1, p2, p3, p4, p5, p6, p7⟩, ⟨q0, q1, q2, q3, q4, q5, q6, q7⟩⟩ := HB2.out)
            | (go_at_call 74; refine (H3.out _ (below_then (below_then (boxB2 _ _ _) ok) ok2)).mono ?_; rintro x w3 ⟨rfl, ok3⟩))
          go_ret
          exact ⟨ret_bool (by rw [HR.out]; simp [hn]), below_then (below_then (below_then (boxB2 _ _ _) ok) ok2) ok3⟩
  · go_enter Tryz.func63, Tryz.ntmps63
    go_wp2
    go_ret
    exact ⟨ret_bool (by rw [HR.out]; simp [hn]), boxB2 _ _ _⟩
end Go.Proofs.YtogpkhpephhbiaaGreatDoor
namespace Go.Proofs.YtogpkhpephhbiaaGreatDoor
open Go.RowKit
set_option maxRecDepth 100000

/-- A text at a place. -/
def StIn (w : World) (g o : Nat) (s : ByteArray) : Prop := w.cell? ⟨g, o, none⟩ = some (.string s) ∧ g < w.heap.size
theorem StIn.below {w w' : World} {g o : Nat} {s : ByteArray} (h : StIn w g o s) (hb : Below w.heap.size w w') : StIn w' g o s := ⟨(hb.cell (p := ⟨g, o, none⟩) h.2).trans h.1, Nat.lt_of_lt_of_le h.2 hb.size⟩
theorem keepStIn (g o : Nat) (s : ByteArray) : KeepP fun w1 => StIn w1 g o s := fun _ _ h hb => h.below hb

/-- A path lies there. -/
def PathAt (w : World) (v : Value) (L : List ByteArray) : Prop := ∃ ad cap, v = .slice ad L.length cap ∧ L.length ≤ cap ∧ (L = [] ∨ ∃ g o, ad = some ⟨g, o, none⟩ ∧ ∀ i (h : i < L.length), StIn w g (o + i) L[i])
theorem PathAt.below {w w' : World} {v : Value} {L : List ByteArray} (h : PathAt w v L) (hb : Below w.heap.size w w') : PathAt w' v L := by
  obtain ⟨ad, cap, hv, hc, hl⟩ := h
  refine ⟨ad, cap, hv, hc, hl.imp id ?_⟩
  rintro ⟨g, o, ha, hs⟩
  exact ⟨g, o, ha, fun i hi => (hs i hi).below hb⟩
theorem keepPath (v : Value) (L : List ByteArray) : KeepP fun w1 => PathAt w1 v L := fun _ _ h hb => h.below hb
theorem PathAt.sl {w : World} {v : Value} {L : List ByteArray} (h : PathAt w v L) : ∃ ad cap, v = .slice ad L.length cap := by
  obtain ⟨ad, cap, rfl, _⟩ := h
  exact ⟨ad, cap, rfl⟩
/-- The first names of a path. -/
theorem PathAt.cut {w : World} {ad : Option Addr} {n cap : Nat} {L : List ByteArray} (h : PathAt w (.slice ad n cap) L) {k : Nat} (hk : k ≤ n) : PathAt w (.slice ad k cap) (L.take k) := by
  obtain ⟨ad', cap', hv, hc, hl⟩ := h
  injection hv with e1 e2 e3
  subst e1 e2 e3
  have hkl : (L.take k).length = k := by rw [List.length_take]; omega
  refine ⟨ad, cap, by rw [hkl], by omega, ?_⟩
  rcases hl with rfl | ⟨g, o, ha, hs⟩
  · exact Or.inl (by simp)
  · exact Or.inr ⟨g, o, ha, fun i hi => by rw [List.getElem_take]; exact hs i (by omega)⟩

theorem str_same {s t : ByteArray} (h : s.toList = t.toList) : s = t := bytes_same h

set_option maxHeartbeats 1600000 in
theorem EqualS_walk (A B : List ByteArray) (hAB : A.length = B.length) (hsz : A.length ≤ 9223372036854775807) (ga oa ca gb ob cb : Nat) (w : World) (hla : ∀ i (h : i < A.length), StIn w ga (oa + i) A[i]) (hlb : ∀ i (h : i < B.length), StIn w gb (ob + i) B[i]) :
    Calls Tryz.prog 55 #[.slice (some ⟨ga, oa, none⟩) A.length ca, .slice (some ⟨gb, ob, none⟩) B.length cb] w fun e w' => e = .returned (.bool (eqB A B)) ∧ Below w.heap.size w w' := by
  have HL : Hid (∀ w1, Below w.heap.size w w1 → ∀ i (h : i < A.length) (h2 : i < B.length), StIn w1 ga (oa + i) A[i] ∧ StIn w1 gb (ob + i) B[i]) := fun w1 hb i hi hi2 => ⟨(hla i hi).below hb, (hlb i hi2).below hb⟩
  have HAB := hide3 hAB
  clear hla hlb
  rw [← hAB]
  clear hAB
  go_enter Tryz.func55, Tryz.ntmps55
  go_wp2_with fail
  go_loopw [13] (fun i wr => ∃ k : Nat, k ≤ A.length ∧ i = .int .i64 k ∧ Below w.heap.size w wr ∧ ∀ j (h : j < k) (h1 : j < A.length) (h2 : j < B.length), A[j] = B[j]) (fun i _ => A.length - (intOf i).toNat)
  case atStart => exact ⟨0, Nat.zero_le _, rfl, Below.refl _ _, fun j h => by omega⟩
  case round =>
    obtain ⟨k, hk, rfl, hb, hall⟩ := hrel
    have HALL := hide3 hall
    have HB := hide3 hb
    clear hall
    by_cases hlt : k < A.length
    · have hltB : k < B.length := HAB.out ▸ hlt
      have HO : Hid (Below w.heap.size w wr ∧ StIn wr ga (oa + k) A[k] ∧ StIn wr gb (ob + k) B[k]) := ⟨hb, HL.out wr hb k hlt hltB⟩
      have HK : Hid (KeepP fun w1 => Below w.heap.size w w1 ∧ StIn w1 ga (oa + k) A[k] ∧ StIn w1 gb (ob + k) B[k]) := (keepBelow w).and ((keepStIn _ _ _).and (keepStIn _ _ _))
      have HNE : Hid (A[k] ≠ B[k] → eqB A B = false) := fun h => eqB_no fun e => by subst e; exact h rfl
      have HST : Hid (A[k] = B[k] → ∀ j (h : j < k + 1) (h1 : j < A.length) (h2 : j < B.length), A[j] = B[j]) := fun h j hj h1 h2 => by
        rcases Nat.lt_or_ge j k with hjk | hjk
        · exact HALL.out j hjk h1 h2
        · obtain rfl : j = k := by omega
          exact h
      generalize A[k] = s at *
      generalize B[k] = t at *
      by_cases hq : s = t
      · have HR := hide3 (HST.out hq)
        have hqq : (s.toList == t.toList) = true := by rw [hq]; simp
        clear hb HNE HST HALL hq
        go_wp2_with fail
        refine wp_region_keep HK.out (by kernel_rfl) (by kernel_rfl) (by first | exact HO.out | exact HK.out.drew HO.out) ?_
        intro C hin hout
        have HIN := hide3 hin
        have HOUT := hide3 hout
        clear hin hout HO
        repeat
          (with_reducible refine wpQuiet_step (fun K hK => ?_)
           go_simp
           first
             | (refine hK _ ?_; clear hK K)
             | (apply Exists.intro; refine ⟨fun w1 hC => ?_, hK _ ?_⟩; (focus ((first | (exact rfl) | (obtain ⟨hb1, ⟨p0, p1⟩, ⟨q0, q1⟩⟩ := HOUT.out w1 hC; clear hC; go_simp; first | done | exact rfl)); done)); clear hK K))
        refine wpQuiet_nil ?_
        intro wn hC
        have HO := hide3 (HOUT.out _ hC)
        clear hC HIN HOUT C
        obtain ⟨hb1, ⟨p0, p1⟩, ⟨q0, q1⟩⟩ := HO.out
        go_wp2
        exact ⟨⟨k + 1, by omega, by go_num, HO.out.1, HR.out⟩, by simp [intOf]; omega⟩
      · have HR := hide3 (HNE.out hq)
        have hqq : (s.toList == t.toList) = false := by rw [beq_eq_false_iff_ne]; exact fun e => hq (str_same e)
        clear hb HNE HST HALL hq
        go_wp2_with fail
        refine wp_region_keep HK.out (by kernel_rfl) (by kernel_rfl) (by first | exact HO.out | exact HK.out.drew HO.out) ?_
        intro C hin hout
        have HIN := hide3 hin
        have HOUT := hide3 hout
        clear hin hout HO
        repeat
          (with_reducible refine wpQuiet_step (fun K hK => ?_)
           go_simp
           first
             | (refine hK _ ?_; clear hK K)
             | (apply Exists.intro; refine ⟨fun w1 hC => ?_, hK _ ?_⟩; (focus ((first | (exact rfl) | (obtain ⟨hb1, ⟨p0, p1⟩, ⟨q0, q1⟩⟩ := HOUT.out w1 hC; clear hC; go_simp; first | done | exact rfl)); done)); clear hK K))
        refine wpQuiet_nil ?_
        intro wn hC
        have HO := hide3 (HOUT.out _ hC)
        clear hC HIN HOUT C
        obtain ⟨hb1, ⟨p0, p1⟩, ⟨q0, q1⟩⟩ := HO.out
        go_wp2
        go_ret
        exact ⟨ret_bool HR.out.symm, HO.out.1⟩
    · have hke : k = A.length := by omega
      subst hke
      have HR : Hid (eqB A B = true) := eqB_yes (List.ext_getElem HAB.out fun j h1 h2 => HALL.out j h1 h1 h2)
      clear hb
      go_wp2
      go_ret
      exact ⟨ret_bool HR.out.symm, HB.out⟩

theorem EqualS_nil (ad bd : Option Addr) (ca cb : Nat) (w : World) :
    Calls Tryz.prog 55 #[.slice ad 0 ca, .slice bd 0 cb] w fun e w' => e = .returned (.bool true) ∧ Below w.heap.size w w' := by
  go_enter Tryz.func55, Tryz.ntmps55
  go_wp2_with fail
  go_loop [13] (fun i => i = .int .i64 0) (fun _ => 0)
  case atStart => rfl
  case round =>
    subst hrel
    go_wp2
    go_ret
    exact ⟨rfl, Below.refl _ _⟩

theorem EqualS_len (ad bd : Option Addr) (n m ca cb : Nat) (h : n ≠ m) (w : World) :
    Calls Tryz.prog 55 #[.slice ad n ca, .slice bd m cb] w fun e w' => e = .returned (.bool false) ∧ Below w.heap.size w w' := by
  have hn : ((n : Int) = (m : Int)) = False := by simp; omega
  go_enter Tryz.func55, Tryz.ntmps55
  go_wp2
  go_ret
  exact ⟨rfl, Below.refl _ _⟩

theorem EqualS_any {A B : List ByteArray} {va vb : Value} {w : World} (ha : PathAt w va A) (hb : PathAt w vb B) (hsz : A.length ≤ 9223372036854775807) :
    Calls Tryz.prog 55 #[va, vb] w fun e w' => e = .returned (.bool (eqB A B)) ∧ Below w.heap.size w w' := by
  obtain ⟨ad, ca, rfl, _, hl⟩ := ha
  obtain ⟨bd, cb, rfl, _, hm⟩ := hb
  by_cases hn : A.length = B.length
  · rcases hl with rfl | ⟨ga, oa, rfl, hla⟩
    · obtain rfl : B = [] := List.eq_nil_of_length_eq_zero (by simpa using hn.symm)
      rw [eqB_yes rfl]
      exact EqualS_nil _ _ _ _ w
    · rcases hm with rfl | ⟨gb, ob, rfl, hlb⟩
      · obtain rfl : A = [] := List.eq_nil_of_length_eq_zero (by simpa using hn)
        rw [eqB_yes rfl]
        exact EqualS_nil _ _ _ _ w
      · exact EqualS_walk A B hn hsz ga oa ca gb ob cb w hla hlb
  · rw [eqB_no fun e => hn (by rw [e])]
    exact EqualS_len _ _ _ _ _ _ hn w

/-- A directory: its path, its package, its node. -/
structure Dr where
  pa : List ByteArray
  pk : Pg
  nd : Int

/-- A directory lies at a place: its path's slice u, its package's lists v1 v2 v3. -/
def DrIn (w : World) (g o : Nat) (D : Dr) (u v1 v2 v3 : Value) : Prop :=
  (w.cell? ⟨g, o, none⟩ = some u ∧ w.cell? ⟨g, o + 1, none⟩ = some (.string D.pk.nm) ∧ w.cell? ⟨g, o + 2, none⟩ = some (.int .i64 D.pk.a) ∧ w.cell? ⟨g, o + 3, none⟩ = some (.int .i64 D.pk.b) ∧ w.cell? ⟨g, o + 4, none⟩ = some (.int .i64 D.pk.c) ∧ w.cell? ⟨g, o + 5, none⟩ = some v1 ∧ w.cell? ⟨g, o + 6, none⟩ = some v2 ∧ w.cell? ⟨g, o + 7, none⟩ = some v3 ∧ w.cell? ⟨g, o + 8, none⟩ = some (.int .i64 D.nd)) ∧ (PathAt w u D.pa ∧ PgAt w D.pk v1 v2 v3) ∧ g < w.heap.size
theorem DrIn.below {w w' : World} {g o : Nat} {D : Dr} {u v1 v2 v3 : Value} (h : DrIn w g o D u v1 v2 v3) (hb : Below w.heap.size w w') : DrIn w' g o D u v1 v2 v3 := by
  obtain ⟨⟨h0, h1, h2, h3, h4, h5, h6, h7, h8⟩, ⟨hp, hq⟩, hg⟩ := h
  have q : ∀ i, w'.cell? ⟨g, i, none⟩ = w.cell? ⟨g, i, none⟩ := fun i => hb.cell (p := ⟨g, i, none⟩) hg
  exact ⟨⟨by rw [q]; exact h0, by rw [q]; exact h1, by rw [q]; exact h2, by rw [q]; exact h3, by rw [q]; exact h4, by rw [q]; exact h5, by rw [q]; exact h6, by rw [q]; exact h7, by rw [q]; exact h8⟩, ⟨hp.below hb, hq.below hb⟩, Nat.lt_of_lt_of_le hg hb.size⟩
theorem keepDr (g o : Nat) (D : Dr) (u v1 v2 v3 : Value) : KeepP fun w1 => DrIn w1 g o D u v1 v2 v3 := fun _ _ h hb => h.below hb

/-- Directories lie there. -/
def DirsAt (w : World) (v : Value) (L : List Dr) : Prop := ∃ ad cap, v = .slice ad L.length cap ∧ L.length ≤ cap ∧ (L = [] ∨ ∃ g o, ad = some ⟨g, o, none⟩ ∧ ∀ i (h : i < L.length), ∃ u v1 v2 v3, DrIn w g (o + i * 9) L[i] u v1 v2 v3)
theorem DirsAt.below {w w' : World} {v : Value} {L : List Dr} (h : DirsAt w v L) (hb : Below w.heap.size w w') : DirsAt w' v L := by
  obtain ⟨ad, cap, hv, hc, hl⟩ := h
  refine ⟨ad, cap, hv, hc, hl.imp id ?_⟩
  rintro ⟨g, o, ha, hs⟩
  exact ⟨g, o, ha, fun i hi => by obtain ⟨u, v1, v2, v3, h⟩ := hs i hi; exact ⟨u, v1, v2, v3, h.below hb⟩⟩
theorem keepDirs (v : Value) (L : List Dr) : KeepP fun w1 => DirsAt w1 v L := fun _ _ h hb => h.below hb
theorem DirsAt.sl {w : World} {v : Value} {L : List Dr} (h : DirsAt w v L) : ∃ ad cap, v = .slice ad L.length cap ∧ L.length ≤ cap ∧ ∀ i (_ : i < L.length), ∃ g o, ad = some ⟨g, o, none⟩ ∧ ∃ u v1 v2 v3, DrIn w g (o + i * 9) L[i] u v1 v2 v3 := by
  obtain ⟨ad, cap, hv, hc, hl⟩ := h
  refine ⟨ad, cap, hv, hc, fun i hi => ?_⟩
  rcases hl with rfl | ⟨g, o, ha, hs⟩
  · cases hi
  · exact ⟨g, o, ha, hs i hi⟩
/-- The first directories. -/
theorem DirsAt.cut {w : World} {ad : Option Addr} {n cap : Nat} {L : List Dr} (h : DirsAt w (.slice ad n cap) L) {k : Nat} (hk : k ≤ n) : DirsAt w (.slice ad k cap) (L.take k) := by
  obtain ⟨ad', cap', hv, hc, hl⟩ := h
  injection hv with e1 e2 e3
  subst e1 e2 e3
  have hkl : (L.take k).length = k := by rw [List.length_take]; omega
  refine ⟨ad, cap, by rw [hkl], by omega, ?_⟩
  rcases hl with rfl | ⟨g, o, ha, hs⟩
  · exact Or.inl (by simp)
  · exact Or.inr ⟨g, o, ha, fun i hi => by rw [List.getElem_take]; exact hs i (by omega)⟩

/-- Each path fits. -/
def FitD (L : List Dr) : Prop := ∀ d ∈ L, d.pa.length ≤ 9223372036854775807
end Go.Proofs.YtogpkhpephhbiaaGreatDoor
namespace Go.Proofs.YtogpkhpephhbiaaGreatDoor.Sc
set_option maxRecDepth 100000

abbrev Bs := List UInt8
/-- A byte that a word may have. -/
def wB (b : UInt8) : Bool := decide (33 ≤ b.toNat) && decide (b.toNat ≤ 126)
/-- A word. -/
def isW (w : Bs) : Bool := w.all wB && !w.isEmpty
/-- A line. -/
def isL (ws : List Bs) : Bool := ws.all isW && !ws.isEmpty

/-- The scanner: what is left, the word under way, the line under way, the lines. -/
def scanR : Bs → Bs → List Bs → List (List Bs) → Except Nat (List (List Bs))
  | [], cur, ws, ls => if cur = [] ∧ ws = [] then .ok ls else .error (ls.length + 1)
  | b :: r, cur, ws, ls =>
    if wB b = true then scanR r (cur ++ [b]) ws ls
    else if cur = [] then .error (ls.length + 1)
    else if b = 32 then scanR r [] (ws ++ [cur]) ls
    else if b = 10 then scanR r [] [] (ls ++ [ws ++ [cur]])
    else .error (ls.length + 1)

/-- What stands between a byte. -/
def cutF (by_ : UInt8) : Bs → Bs → List Bs
  | cur, [] => [cur]
  | cur, b :: r => if b = by_ then cur :: cutF by_ [] r else cutF by_ (cur ++ [b]) r
theorem cutF_hit (s : UInt8) (c r : Bs) : cutF s c (s :: r) = c :: cutF s [] r := by conv => lhs; unfold cutF; rw [if_pos rfl]
theorem cutF_go {s b : UInt8} (h : b ≠ s) (c r : Bs) : cutF s c (b :: r) = cutF s (c ++ [b]) r := by conv => lhs; unfold cutF; rw [if_neg h]
theorem cutF_ne (s : UInt8) : ∀ (t cur : Bs), cutF s cur t ≠ []
  | [], _ => by simp [cutF]
  | b :: r, cur => by
    unfold cutF
    split
    · simp
    · exact cutF_ne s r _

def lineR (s : Bs) : Option (List Bs) := if (cutF 32 [] s).all isW = true then some (cutF 32 [] s) else none

def refR : List (List Bs) → List Bs → Except Nat (List (List Bs))
  | ls, [] => .ok ls
  | ls, [p] => if p = [] then .ok ls else .error (ls.length + 1)
  | ls, p :: q :: r => match lineR p with
    | none => .error (ls.length + 1)
    | some w => refR (ls ++ [w]) (q :: r)

theorem refR_no {p : Bs} (h : lineR p = none) (ls : List (List Bs)) (q : Bs) (r : List Bs) : refR ls (p :: q :: r) = .error (ls.length + 1) := by conv => lhs; unfold refR; rw [h]
theorem refR_ok {p : Bs} {w : List Bs} (h : lineR p = some w) (ls : List (List Bs)) (q : Bs) (r : List Bs) : refR ls (p :: q :: r) = refR (ls ++ [w]) (q :: r) := by conv => lhs; unfold refR; rw [h]
theorem scan_b {b : UInt8} (h : wB b = true) (r cur : Bs) (ws : List Bs) (ls : List (List Bs)) : scanR (b :: r) cur ws ls = scanR r (cur ++ [b]) ws ls := by conv => lhs; unfold scanR; rw [if_pos h]
theorem scan_none {b : UInt8} (h : wB b = false) (r : Bs) (ws : List Bs) (ls : List (List Bs)) : scanR (b :: r) [] ws ls = .error (ls.length + 1) := by conv => lhs; unfold scanR; rw [if_neg (by simp [h]), if_pos rfl]
theorem scan_32 {cur : Bs} (hc : cur ≠ []) (r : Bs) (ws : List Bs) (ls : List (List Bs)) : scanR (32 :: r) cur ws ls = scanR r [] (ws ++ [cur]) ls := by conv => lhs; unfold scanR; rw [if_neg (by decide), if_neg hc, if_pos rfl]
theorem scan_10 {cur : Bs} (hc : cur ≠ []) (r : Bs) (ws : List Bs) (ls : List (List Bs)) : scanR (10 :: r) cur ws ls = scanR r [] [] (ls ++ [ws ++ [cur]]) := by conv => lhs; unfold scanR; rw [if_neg (by decide), if_neg hc, if_neg (by decide), if_pos rfl]
theorem scan_bad {b : UInt8} (h : wB b = false) (h32 : b ≠ 32) (h10 : b ≠ 10) (r cur : Bs) (ws : List Bs) (ls : List (List Bs)) : scanR (b :: r) cur ws ls = .error (ls.length + 1) := by conv => lhs; unfold scanR; rw [if_neg (by simp [h]), if_neg h32, if_neg h10, ite_self]
theorem scan_end {cur : Bs} {ws : List Bs} (h : cur ≠ [] ∨ ws ≠ []) (ls : List (List Bs)) : scanR [] cur ws ls = .error (ls.length + 1) := by unfold scanR; rw [if_neg]; rintro ⟨rfl, rfl⟩; simp at h

theorem cutF_append {s : UInt8} : ∀ {a c : Bs} {pre : List Bs} {last : Bs} (b : Bs), cutF s c a = pre ++ [last] → cutF s c (a ++ b) = pre ++ cutF s last b
  | [], c, pre, last, b, h => by
    simp only [cutF] at h
    cases pre with
    | nil => simp at h; subst h; rfl
    | cons x l => simp at h
  | x :: a, c, pre, last, b, h => by
    rw [List.cons_append]
    by_cases hx : x = s
    · subst hx
      rw [cutF_hit] at h ⊢
      cases pre with
      | nil =>
        simp only [List.nil_append, List.cons.injEq] at h
        exact absurd h.2 (cutF_ne _ _ _)
      | cons p l =>
        simp only [List.cons_append, List.cons.injEq] at h
        rw [h.1, cutF_append b h.2]; rfl
    · rw [cutF_go hx] at h ⊢
      exact cutF_append b h

theorem cutF_head (s : UInt8) : ∀ (t c : Bs), ∃ Y rest, cutF s c t = (c ++ Y) :: rest
  | [], c => ⟨[], [], by simp [cutF]⟩
  | b :: r, c => by
    by_cases hx : b = s
    · subst hx
      rw [cutF_hit]
      exact ⟨[], cutF b [] r, by simp⟩
    · rw [cutF_go hx]
      obtain ⟨Y, rest, h⟩ := cutF_head s r (c ++ [b])
      exact ⟨b :: Y, rest, by rw [h]; simp⟩

theorem cutF_nil {s : UInt8} {t c : Bs} (h : cutF s c t = [[]]) : t = [] ∧ c = [] := by
  cases t with
  | nil => simp [cutF] at h; exact ⟨rfl, h⟩
  | cons b r =>
    unfold cutF at h
    split at h
    · simp only [List.cons.injEq] at h; exact absurd h.2 (cutF_ne _ _ _)
    · obtain ⟨Y, rest, h2⟩ := cutF_head s r (c ++ [b])
      rw [h2] at h
      simp at h

theorem bad_line {ls : List (List Bs)} {X : Bs} (h : ∀ Y, lineR (X ++ Y) = none) (hX : X ≠ []) (r : Bs) : refR ls (cutF 10 X r) = .error (ls.length + 1) := by
  obtain ⟨Y, rest, e⟩ := cutF_head 10 r X
  rw [e]
  cases rest with
  | nil => unfold refR; rw [if_neg (by simp [hX])]
  | cons q r => unfold refR; rw [h Y]

theorem lineR_of {s : Bs} {l : List Bs} (h : cutF 32 [] s = l) : lineR s = if l.all isW = true then some l else none := by unfold lineR; rw [h]

/-- The scanner is the document's answer. -/
theorem scan_ref : ∀ (t cur : Bs) (ws : List Bs) (ls : List (List Bs)) (X : Bs), cutF 32 [] X = ws ++ [cur] → ws.all isW = true → cur.all wB = true → scanR t cur ws ls = refR ls (cutF 10 X t)
  | [], cur, ws, ls, X, hX, hw, hc => by
    unfold scanR cutF refR
    by_cases hx : X = []
    · subst hx
      have : ws = [] ∧ cur = [] := by
        cases ws with
        | nil => simp [cutF] at hX; exact ⟨rfl, hX⟩
        | cons a l => simp [cutF] at hX
      rw [if_pos ⟨this.2, this.1⟩, if_pos rfl]
    · rw [if_neg hx, if_neg]
      rintro ⟨rfl, rfl⟩
      exact hx (cutF_nil hX).1
  | b :: r, cur, ws, ls, X, hX, hw, hc => by
    by_cases hb : wB b = true
    · have n10 : b ≠ 10 := by rintro rfl; revert hb; decide
      have n32 : b ≠ 32 := by rintro rfl; revert hb; decide
      rw [scan_b hb, cutF_go n10]
      refine scan_ref r _ ws ls (X ++ [b]) ?_ hw ?_
      · rw [cutF_append [b] hX]; simp [cutF, n32]
      · simp [hc, hb]
    · by_cases h10 : b = 10
      · subst h10
        rw [cutF_hit]
        obtain ⟨Y, rest, e⟩ := cutF_head 10 r []
        have hl : lineR X = if (ws ++ [cur]).all isW = true then some (ws ++ [cur]) else none := lineR_of hX
        by_cases hcur : cur = []
        · subst hcur
          rw [if_neg (by simp [isW])] at hl
          rw [scan_none (by decide), e, refR_no hl]
        · have hall : (ws ++ [cur]).all isW = true := by
            simp only [List.all_append, List.all_cons, List.all_nil, Bool.and_true, hw, Bool.true_and, isW, hc]
            cases cur with
            | nil => exact absurd rfl hcur
            | cons _ _ => rfl
          rw [if_pos hall] at hl
          rw [scan_10 hcur, scan_ref r [] [] (ls ++ [ws ++ [cur]]) [] rfl rfl rfl, e, refR_ok hl]
      · by_cases h32 : b = 32
        · subst h32
          have e1 : cutF 10 X (32 :: r) = cutF 10 (X ++ [32]) r := cutF_go (by decide) _ _
          have e2 : cutF 32 [] (X ++ [32]) = ws ++ [cur] ++ [[]] := by rw [cutF_append [32] hX]; simp [cutF]
          by_cases hcur : cur = []
          · subst hcur
            rw [scan_none (by decide), e1, bad_line (fun Y => ?_) (by simp)]
            rw [lineR_of (cutF_append Y e2), if_neg (by simp [isW])]
          · rw [scan_32 hcur, e1]
            refine scan_ref r [] (ws ++ [cur]) ls (X ++ [32]) e2 ?_ rfl
            simp only [List.all_append, List.all_cons, List.all_nil, Bool.and_true, hw, Bool.true_and, isW, hc]
            cases cur with
            | nil => exact absurd rfl hcur
            | cons _ _ => rfl
        · have e1 : cutF 10 X (b :: r) = cutF 10 (X ++ [b]) r := cutF_go h10 _ _
          have e2 : cutF 32 [] (X ++ [b]) = ws ++ [cur ++ [b]] := by rw [cutF_append [b] hX]; simp [cutF, h32]
          rw [scan_bad (by simpa using hb) h32 h10, e1, bad_line (fun Y => ?_) (by simp)]
          rw [lineR_of (cutF_append Y e2), if_neg]
          obtain ⟨Z, rest, e⟩ := cutF_head 32 Y (cur ++ [b])
          rw [e]
          simp [isW, hb]

/-- A line's text. -/
def pend (ws : List Bs) (cur : Bs) : Bs := ws.flatMap (· ++ [32]) ++ cur
def lineT : List Bs → Bs
  | [] => [10]
  | [w] => w ++ [10]
  | w :: q :: r => w ++ [32] ++ lineT (q :: r)
def textT (ls : List (List Bs)) : Bs := ls.flatMap lineT
theorem lineT_snoc (ws : List Bs) (cur : Bs) : lineT (ws ++ [cur]) = pend ws cur ++ [10] := by
  induction ws with
  | nil => rfl
  | cons w l ih =>
    cases l with
    | nil => simp [lineT, pend]
    | cons q r =>
      have : lineT (w :: q :: r ++ [cur]) = w ++ [32] ++ lineT (q :: r ++ [cur]) := rfl
      rw [this, ih]
      simp [pend]
theorem textT_snoc (ls : List (List Bs)) (l : List Bs) : textT (ls ++ [l]) = textT ls ++ lineT l := by simp [textT]

theorem wB_not {b : UInt8} (h : wB b = true) : b ≠ 10 ∧ b ≠ 32 := ⟨by rintro rfl; revert h; decide, by rintro rfl; revert h; decide⟩
theorem isW_of {cur : Bs} (hc : cur.all wB = true) (h : cur ≠ []) : isW cur = true := by
  unfold isW
  rw [hc]
  cases cur with
  | nil => exact absurd rfl h
  | cons _ _ => rfl

/-- What is taken is the lines of that text. -/
theorem scan_back : ∀ (t cur : Bs) (ws : List Bs) (ls L : List (List Bs)), scanR t cur ws ls = .ok L → cur.all wB = true → ws.all isW = true → ls.all isL = true → L.all isL = true ∧ textT L = textT ls ++ pend ws cur ++ t
  | [], cur, ws, ls, L, h, hc, hw, hl => by
    unfold scanR at h
    split at h
    · rename_i hq
      cases h
      rw [hq.1, hq.2]
      exact ⟨hl, by simp [pend]⟩
    · cases h
  | b :: r, cur, ws, ls, L, h, hc, hw, hl => by
    unfold scanR at h
    split at h
    · rename_i hb
      obtain ⟨h1, h2⟩ := scan_back r _ ws ls L h (by simp [hc, hb]) hw hl
      exact ⟨h1, by rw [h2]; simp [pend]⟩
    · split at h
      · cases h
      · rename_i hb hcur
        split at h
        · rename_i h32
          obtain ⟨h1, h2⟩ := scan_back r [] (ws ++ [cur]) ls L h rfl (by simp [hw, isW_of hc hcur]) hl
          exact ⟨h1, by rw [h2, h32]; simp [pend]⟩
        · split at h
          · rename_i h32 h10
            obtain ⟨h1, h2⟩ := scan_back r [] [] (ls ++ [ws ++ [cur]]) L h rfl rfl (by simp [hl, isL, hw, isW_of hc hcur])
            exact ⟨h1, by rw [h2, h10, textT_snoc, lineT_snoc]; simp [pend]⟩
          · cases h

theorem scan_word : ∀ (x r cur : Bs) (ws : List Bs) (ls : List (List Bs)), x.all wB = true → scanR (x ++ r) cur ws ls = scanR r (cur ++ x) ws ls
  | [], r, cur, ws, ls, _ => by simp
  | b :: x, r, cur, ws, ls, h => by
    simp only [List.all_cons, Bool.and_eq_true] at h
    rw [List.cons_append]
    conv => lhs; unfold scanR; rw [if_pos h.1]
    rw [scan_word x r _ ws ls h.2]; simp

theorem scan_line : ∀ (l : List Bs) (ws : List Bs) (r : Bs) (ls : List (List Bs)), l.all isW = true → l ≠ [] → scanR (lineT l ++ r) [] ws ls = scanR r [] [] (ls ++ [ws ++ l])
  | [], _, _, _, _, h => absurd rfl h
  | [w], ws, r, ls, h, _ => by
    simp only [List.all_cons, List.all_nil, Bool.and_true, isW, Bool.and_eq_true] at h
    have hne : w ≠ [] := by rintro rfl; simp at h
    show scanR (w ++ [10] ++ r) [] ws ls = _
    rw [List.append_assoc, scan_word w _ [] ws ls h.1]
    show scanR (10 :: r) ([] ++ w) ws ls = _
    conv => lhs; unfold scanR; rw [if_neg (by decide), if_neg (by simpa using hne), if_neg (by decide), if_pos rfl]
    simp
  | w :: q :: l, ws, r, ls, h, _ => by
    rw [List.all_cons, Bool.and_eq_true] at h
    obtain ⟨h1, h2⟩ := h
    simp only [isW, Bool.and_eq_true] at h1
    have hne : w ≠ [] := by rintro rfl; simp at h1
    show scanR (w ++ [32] ++ lineT (q :: l) ++ r) [] ws ls = _
    have e : w ++ [32] ++ lineT (q :: l) ++ r = w ++ (32 :: (lineT (q :: l) ++ r)) := by simp
    rw [e, scan_word w _ [] ws ls h1.1]
    conv => lhs; unfold scanR; rw [if_neg (by decide), if_neg (by simpa using hne), if_pos rfl]
    rw [List.nil_append, scan_line (q :: l) (ws ++ [w]) r ls h2 (by simp)]
    simp

/-- Lines of Join. -/
theorem scan_text : ∀ (L : List (List Bs)) (ls : List (List Bs)), L.all isL = true → scanR (textT L) [] [] ls = .ok (ls ++ L)
  | [], ls, _ => by simp [textT, scanR]
  | l :: L, ls, h => by
    simp only [List.all_cons, Bool.and_eq_true, isL] at h
    have hne : l ≠ [] := by rintro rfl; simp at h
    show scanR (lineT l ++ textT L) [] [] ls = _
    rw [scan_line l [] _ ls h.1.1 hne, scan_text L _ h.2]
    simp

/-- More lines ahead. -/
def shiftE (A : List (List Bs)) : Except Nat (List (List Bs)) → Except Nat (List (List Bs))
  | .ok L => .ok (A ++ L)
  | .error n => .error (n + A.length)
theorem scan_shift (A : List (List Bs)) : ∀ (t cur : Bs) (ws : List Bs) (ls : List (List Bs)), scanR t cur ws (A ++ ls) = shiftE A (scanR t cur ws ls)
  | [], cur, ws, ls => by
    unfold scanR
    split
    · rfl
    · simp [shiftE]; omega
  | b :: r, cur, ws, ls => by
    unfold scanR
    split
    · exact scan_shift A r _ ws ls
    · split
      · simp [shiftE]; omega
      · split
        · exact scan_shift A r _ _ ls
        · split
          · rw [List.append_assoc]; exact scan_shift A r _ _ _
          · simp [shiftE]; omega
theorem scan_then : ∀ (s t cur : Bs) (ws : List Bs) (ls A : List (List Bs)), scanR s cur ws ls = .ok A → scanR (s ++ t) cur ws ls = scanR t [] [] A
  | [], t, cur, ws, ls, A, h => by
    unfold scanR at h
    split at h
    · rename_i hq; cases h; rw [hq.1, hq.2]; rfl
    · cases h
  | b :: r, t, cur, ws, ls, A, h => by
    rw [List.cons_append]
    by_cases hb : wB b = true
    · rw [scan_b hb] at h ⊢; exact scan_then r t _ _ _ _ h
    · have hb' : wB b = false := by simpa using hb
      by_cases hc : cur = []
      · subst hc; rw [scan_none hb'] at h; cases h
      · by_cases h32 : b = 32
        · subst h32; rw [scan_32 hc] at h ⊢; exact scan_then r t _ _ _ _ h
        · by_cases h10 : b = 10
          · subst h10; rw [scan_10 hc] at h ⊢; exact scan_then r t _ _ _ _ h
          · rw [scan_bad hb' h32 h10] at h; cases h

/-- What stands up to and with the m-th byte 10. -/
def aheadN : Nat → Bs → Bs
  | 0, _ => []
  | _ + 1, [] => []
  | m + 1, b :: r => b :: aheadN (if b = 10 then m else m + 1) r
def nls (t : Bs) : Nat := t.countP (· = 10)

theorem scan_wrong : ∀ (t cur : Bs) (ws : List Bs) (ls : List (List Bs)) (n : Nat), scanR t cur ws ls = .error n →
    ∃ m, n = ls.length + 1 + m ∧ m ≤ nls t ∧ (0 < m → ∃ L, scanR (aheadN m t) cur ws ls = .ok L ∧ L.length + 1 = n)
  | [], cur, ws, ls, n, h => by
    unfold scanR at h
    split at h
    · cases h
    · cases h; exact ⟨0, rfl, Nat.zero_le _, fun q => absurd q (by omega)⟩
  | b :: r, cur, ws, ls, n, h => by
    unfold scanR at h
    split at h
    · rename_i hb
      obtain ⟨m, h1, h2, h3⟩ := scan_wrong r _ ws ls n h
      have h10 := (wB_not hb).1
      refine ⟨m, h1, by unfold nls at *; rw [List.countP_cons_of_neg (by simpa using h10)]; exact h2, fun hm => ?_⟩
      obtain ⟨L, e, el⟩ := h3 hm
      obtain ⟨k, rfl⟩ : ∃ k, m = k + 1 := ⟨m - 1, by omega⟩
      refine ⟨L, ?_, el⟩
      unfold aheadN
      rw [if_neg h10]
      unfold scanR
      rw [if_pos hb]; exact e
    · rename_i hb
      split at h
      · cases h; exact ⟨0, rfl, Nat.zero_le _, fun q => absurd q (by omega)⟩
      · rename_i hcur
        split at h
        · rename_i h32
          subst h32
          obtain ⟨m, h1, h2, h3⟩ := scan_wrong r _ _ ls n h
          refine ⟨m, h1, by unfold nls at *; rw [List.countP_cons_of_neg (by decide)]; exact h2, fun hm => ?_⟩
          obtain ⟨L, e, el⟩ := h3 hm
          obtain ⟨k, rfl⟩ : ∃ k, m = k + 1 := ⟨m - 1, by omega⟩
          refine ⟨L, ?_, el⟩
          unfold aheadN
          rw [if_neg (by decide)]
          unfold scanR
          rw [if_neg hb, if_neg hcur, if_pos rfl]; exact e
        · rename_i h32
          split at h
          · rename_i h10
            subst h10
            obtain ⟨m, h1, h2, h3⟩ := scan_wrong r [] [] (ls ++ [ws ++ [cur]]) n h
            refine ⟨m + 1, by rw [h1]; simp; omega, by unfold nls at *; rw [List.countP_cons_of_pos (by decide)]; omega, fun _ => ?_⟩
            have key : ∃ L, scanR (aheadN m r) [] [] (ls ++ [ws ++ [cur]]) = .ok L ∧ L.length + 1 = n := by
              cases m with
              | zero => exact ⟨ls ++ [ws ++ [cur]], by unfold aheadN scanR; rfl, by rw [h1]⟩
              | succ k => exact h3 (by omega)
            obtain ⟨L, e, el⟩ := key
            refine ⟨L, ?_, el⟩
            unfold aheadN
            rw [if_pos rfl]
            unfold scanR
            rw [if_neg hb, if_neg hcur, if_neg (by decide), if_pos rfl]; exact e
          · cases h; exact ⟨0, rfl, Nat.zero_le _, fun q => absurd q (by omega)⟩
end Go.Proofs.YtogpkhpephhbiaaGreatDoor.Sc
