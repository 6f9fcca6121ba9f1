/- Lk1, Lk2, Lk3, Lk4, ScBd1, ScJo1, laid in one text. -/
import Derived.Shelf.Strings.Builder1
import Derived.Test.YtjbohacllhjgmaaGreatDoorScC
import Derived.Test.YtjbohacllhjgmaaGreatDoorMg02
namespace Go.Proofs.YtjbohacllhjgmaaGreatDoor
open Go.RowKit
set_option maxRecDepth 100000

/-- A pin, an edge, a node. -/
structure Pn where
  nm : ByteArray
  a : Int
  b : Int
  c : Int
structure Eg where
  lb : ByteArray
  to : Int
structure Nd where
  nm : ByteArray
  a : Int
  b : Int
  c : Int
  cx : List Pn
  ed : List Eg

/-- A pin at a place; pins; an edge, edges. -/
def PnIn (w : World) (g o : Nat) (p : Pn) : Prop := (w.cell? ⟨g, o, none⟩ = some (.string p.nm) ∧ w.cell? ⟨g, o + 1, none⟩ = some (.int .i64 p.a) ∧ w.cell? ⟨g, o + 2, none⟩ = some (.int .i64 p.b) ∧ w.cell? ⟨g, o + 3, none⟩ = some (.int .i64 p.c)) ∧ g < w.heap.size
def PinsAt (w : World) (v : Value) (L : List Pn) : Prop := ∃ ad cap, v = .slice ad L.length cap ∧ L.length ≤ cap ∧ (L = [] ∨ ∃ g o, ad = some ⟨g, o, none⟩ ∧ g < w.heap.size ∧ ∀ i (h : i < L.length), PnIn w g (o + i * 4) L[i])
def EgIn (w : World) (g o : Nat) (e : Eg) : Prop := (w.cell? ⟨g, o, none⟩ = some (.string e.lb) ∧ w.cell? ⟨g, o + 1, none⟩ = some (.int .i64 e.to)) ∧ g < w.heap.size
def EdgesAt (w : World) (v : Value) (L : List Eg) : Prop := ∃ ad cap, v = .slice ad L.length cap ∧ L.length ≤ cap ∧ (L = [] ∨ ∃ g o, ad = some ⟨g, o, none⟩ ∧ g < w.heap.size ∧ ∀ i (h : i < L.length), EgIn w g (o + i * 2) L[i])
theorem PnIn.below {w w' : World} {g o : Nat} {p : Pn} (h : PnIn w g o p) (hb : Below w.heap.size w w') : PnIn w' g o p := by
  obtain ⟨⟨h0, h1, h2, h3⟩, hg⟩ := h
  have q : ∀ i, w'.cell? ⟨g, i, none⟩ = w.cell? ⟨g, i, none⟩ := fun i => hb.cell (p := ⟨g, i, none⟩) hg
  exact ⟨⟨by rw [q]; exact h0, by rw [q]; exact h1, by rw [q]; exact h2, by rw [q]; exact h3⟩, Nat.lt_of_lt_of_le hg hb.size⟩
theorem EgIn.below {w w' : World} {g o : Nat} {p : Eg} (h : EgIn w g o p) (hb : Below w.heap.size w w') : EgIn w' g o p := by
  obtain ⟨⟨h0, h1⟩, hg⟩ := h
  have q : ∀ i, w'.cell? ⟨g, i, none⟩ = w.cell? ⟨g, i, none⟩ := fun i => hb.cell (p := ⟨g, i, none⟩) hg
  exact ⟨⟨by rw [q]; exact h0, by rw [q]; exact h1⟩, Nat.lt_of_lt_of_le hg hb.size⟩
theorem PinsAt.below {w w' : World} {v : Value} {L : List Pn} (h : PinsAt w v L) (hb : Below w.heap.size w w') : PinsAt w' v L := by
  obtain ⟨ad, cap, hv, hc, hl⟩ := h
  refine ⟨ad, cap, hv, hc, hl.imp id ?_⟩
  rintro ⟨g, o, ha, hg, hs⟩
  exact ⟨g, o, ha, Nat.lt_of_lt_of_le hg hb.size, fun i hi => (hs i hi).below hb⟩
theorem EdgesAt.below {w w' : World} {v : Value} {L : List Eg} (h : EdgesAt w v L) (hb : Below w.heap.size w w') : EdgesAt w' v L := by
  obtain ⟨ad, cap, hv, hc, hl⟩ := h
  refine ⟨ad, cap, hv, hc, hl.imp id ?_⟩
  rintro ⟨g, o, ha, hg, hs⟩
  exact ⟨g, o, ha, Nat.lt_of_lt_of_le hg hb.size, fun i hi => (hs i hi).below hb⟩
theorem PinsAt.sl {w : World} {v : Value} {L : List Pn} (h : PinsAt w v L) : ∃ ad cap, v = .slice ad L.length cap := by
  obtain ⟨ad, cap, hv, _⟩ := h
  exact ⟨ad, cap, hv⟩
theorem EdgesAt.sl {w : World} {v : Value} {L : List Eg} (h : EdgesAt w v L) : ∃ ad cap, v = .slice ad L.length cap := by
  obtain ⟨ad, cap, hv, _⟩ := h
  exact ⟨ad, cap, hv⟩
/-- A node at a place; nodes. -/
def NdIn (w : World) (g o : Nat) (n : Nd) (vc ve : Value) : Prop := (w.cell? ⟨g, o, none⟩ = some (.string n.nm) ∧ w.cell? ⟨g, o + 1, none⟩ = some (.int .i64 n.a) ∧ w.cell? ⟨g, o + 2, none⟩ = some (.int .i64 n.b) ∧ w.cell? ⟨g, o + 3, none⟩ = some (.int .i64 n.c) ∧ w.cell? ⟨g, o + 4, none⟩ = some vc ∧ w.cell? ⟨g, o + 5, none⟩ = some ve) ∧ (PinsAt w vc n.cx ∧ EdgesAt w ve n.ed) ∧ g < w.heap.size
theorem NdIn.below {w w' : World} {g o : Nat} {n : Nd} {vc ve : Value} (h : NdIn w g o n vc ve) (hb : Below w.heap.size w w') : NdIn w' g o n vc ve := by
  obtain ⟨⟨h0, h1, h2, h3, h4, h5⟩, ⟨h6, h7⟩, hg⟩ := h
  have q : ∀ i, w'.cell? ⟨g, i, none⟩ = w.cell? ⟨g, i, none⟩ := fun i => hb.cell (p := ⟨g, i, none⟩) hg
  exact ⟨⟨by rw [q]; exact h0, by rw [q]; exact h1, by rw [q]; exact h2, by rw [q]; exact h3, by rw [q]; exact h4, by rw [q]; exact h5⟩, ⟨h6.below hb, h7.below hb⟩, Nat.lt_of_lt_of_le hg hb.size⟩
def NodesAt (w : World) (v : Value) (G : List Nd) : Prop := ∃ ad cap, v = .slice ad G.length cap ∧ G.length ≤ cap ∧ (G = [] ∨ ∃ g o, ad = some ⟨g, o, none⟩ ∧ g < w.heap.size ∧ ∀ i (h : i < G.length), ∃ vc ve, NdIn w g (o + i * 6) G[i] vc ve)
theorem NodesAt.below {w w' : World} {v : Value} {L : List Nd} (h : NodesAt w v L) (hb : Below w.heap.size w w') : NodesAt w' v L := by
  obtain ⟨ad, cap, hv, hc, hl⟩ := h
  refine ⟨ad, cap, hv, hc, hl.imp id ?_⟩
  rintro ⟨g, o, ha, hg, hs⟩
  exact ⟨g, o, ha, Nat.lt_of_lt_of_le hg hb.size, fun i hi => by obtain ⟨vc, ve, h⟩ := hs i hi; exact ⟨vc, ve, h.below hb⟩⟩

/-- One text stands ahead of another one, byte by byte. -/
def ltS (s t : ByteArray) : Bool := Op.bytesLess s.toList t.toList
/-- A name that may be, and rises. -/
def folB (q s : ByteArray) : Bool := Sc.nameA s.data.toList && ltS q s
/-- Pins that may be, behind a name; edges, of so many nodes. -/
def mayP : ByteArray → List Pn → Bool
  | _, [] => true
  | q, p :: r => folB q p.nm && mayV p.a p.b p.c && mayP p.nm r
def mayE (n : Int) : ByteArray → List Eg → Bool
  | _, [] => true
  | q, e :: r => folB q e.lb && decide (1 ≤ e.to) && decide (e.to < n) && mayE n e.lb r
def mayCx (L : List Pn) : Bool := decide (L.length ≤ 128) && mayP ⟨#[]⟩ L
def mayEd (n : Int) (L : List Eg) : Bool := decide (L.length ≤ 128) && mayE n ⟨#[]⟩ L
def firstB (n : Nd) : Bool := decide (n.nm.size = 0) && decide (n.a = 0 ∧ n.b = 0 ∧ n.c = 0) && decide (n.cx.length = 0)
def laterB (n : Nd) : Bool := Sc.nameA n.nm.data.toList && mayV n.a n.b n.c && mayCx n.cx
/-- A graph has the form of one. -/
def mayG : List Nd → Bool
  | [] => false
  | n :: r => decide (r.length + 1 ≤ 128) && firstB n && r.all laterB && (n :: r).all fun m => mayEd (r.length + 1) m.ed

theorem folB_any (q s : ByteArray) (w : World) : Calls Tryz.prog 42 #[.string q, .string s] w fun e w' => e = .returned (.bool (folB q s)) ∧ w' = w := by
  have HN : Hid (Calls Tryz.prog 39 #[.string s] w fun e w' => e = .returned (.bool (Sc.nameA s.data.toList)) ∧ w' = w) := Sc.Name_any s w
  have HF : Hid (folB q s = (Sc.nameA s.data.toList && Op.bytesLess q.toList s.toList)) := rfl
  cases hn : Sc.nameA s.data.toList
  · rw [hn] at HN HF
    go_enter Tryz.func42, Tryz.ntmps42
    go_wp2_with (go_at_call 39; refine HN.out.mono ?_; rintro e w1 ⟨rfl, rfl⟩)
    go_ret
    exact ⟨ret_bool HF.out.symm, rfl⟩
  · rw [hn] at HN HF
    go_enter Tryz.func42, Tryz.ntmps42
    go_wp2_with (go_at_call 39; refine HN.out.mono ?_; rintro e w1 ⟨rfl, rfl⟩)
    go_ret
    exact ⟨ret_bool (by rw [HF.out]; simp), rfl⟩
end Go.Proofs.YtjbohacllhjgmaaGreatDoor
namespace Go.Proofs.YtjbohacllhjgmaaGreatDoor
open Go.RowKit
open Sc (KeepP hide3 keepBelow)
set_option maxRecDepth 100000

/-- A pin's variable; an edge's. -/
def BxPn (w : World) (N : Nat) (p : Pn) : Prop := (w.cell? ⟨N, 0, none⟩ = some (.string p.nm) ∧ w.cell? ⟨N, 1, none⟩ = some (.int .i64 p.a) ∧ w.cell? ⟨N, 2, none⟩ = some (.int .i64 p.b) ∧ w.cell? ⟨N, 3, none⟩ = some (.int .i64 p.c)) ∧ N < w.heap.size
theorem keepBxPn (N : Nat) (p : Pn) : KeepP fun w1 => BxPn w1 N p := fun w w' h hb => by
  obtain ⟨⟨h0, h1, h2, h3⟩, hg⟩ := h
  have q : ∀ i, w'.cell? ⟨N, i, none⟩ = w.cell? ⟨N, i, none⟩ := fun i => hb.cell (p := ⟨N, i, none⟩) hg
  exact ⟨⟨by rw [q]; exact h0, by rw [q]; exact h1, by rw [q]; exact h2, by rw [q]; exact h3⟩, Nat.lt_of_lt_of_le hg hb.size⟩
theorem BxPn.new {w : World} {N : Nat} (hN : w.heap.size = N) (p : Pn) : BxPn (w.alloc (.cells #[.string p.nm, .int .i64 p.a, .int .i64 p.b, .int .i64 p.c] 49)) N p := by
  subst hN
  refine ⟨⟨?_, ?_, ?_, ?_⟩, ?_⟩ <;> simp
def BxEg (w : World) (N : Nat) (p : Eg) : Prop := (w.cell? ⟨N, 0, none⟩ = some (.string p.lb) ∧ w.cell? ⟨N, 1, none⟩ = some (.int .i64 p.to)) ∧ N < w.heap.size
theorem keepBxEg (N : Nat) (p : Eg) : KeepP fun w1 => BxEg w1 N p := fun w w' h hb => by
  obtain ⟨⟨h0, h1⟩, hg⟩ := h
  have q : ∀ i, w'.cell? ⟨N, i, none⟩ = w.cell? ⟨N, i, none⟩ := fun i => hb.cell (p := ⟨N, i, none⟩) hg
  exact ⟨⟨by rw [q]; exact h0, by rw [q]; exact h1⟩, Nat.lt_of_lt_of_le hg hb.size⟩
theorem BxEg.new {w : World} {N : Nat} (hN : w.heap.size = N) (p : Eg) : BxEg (w.alloc (.cells #[.string p.lb, .int .i64 p.to] 51)) N p := by
  subst hN
  refine ⟨⟨?_, ?_⟩, ?_⟩ <;> simp

theorem mayCx_long {L : List Pn} (h : ¬ L.length ≤ 128) : mayCx L = false := by unfold mayCx; rw [decide_eq_false h]; rfl
theorem mayEd_long {n : Int} {L : List Eg} (h : ¬ L.length ≤ 128) : mayEd n L = false := by unfold mayEd; rw [decide_eq_false h]; rfl

set_option maxHeartbeats 3200000 in
theorem mayContext_any {L : List Pn} {v : Value} {w : World} (hv : PinsAt w v L) :
    Calls Tryz.prog 41 #[v] w fun e w' => e = .returned (.bool (mayCx L)) ∧ Below w.heap.size w w' := by
  have HD : Hid (∀ w', Below w.heap.size w w' → PinsAt w' v L) := fun w' hb => hv.below hb
  obtain ⟨ad, cap, rfl⟩ := hv.sl
  clear hv
  by_cases hl : L.length ≤ 128
  · have HM : Hid (mayCx L = mayP ⟨#[]⟩ L) := by unfold Hid mayCx; rw [decide_eq_true hl]; rfl
    have hli : decide ((128 : Int) < (L.length : Int)) = false := decide_eq_false (by omega)
    go_enter Tryz.func41, Tryz.ntmps41
    go_wp2
    go_loopw [3, 11] (fun va vi wr => ∃ (k : Nat) (q : ByteArray), k ≤ L.length ∧ vi = .int .i64 k ∧ va = .string q ∧ Below w.heap.size w wr ∧ mayP ⟨#[]⟩ L = mayP q (L.drop k)) (fun _ i _ => L.length - (intOf i).toNat)
    case atStart => exact ⟨0, ⟨#[]⟩, Nat.zero_le _, rfl, rfl, Below.refl _ _, by rw [List.drop_zero]⟩
    case round =>
      obtain ⟨k, q, hk, rfl, rfl, hb, hst⟩ := hrel
      have HB := hide3 hb
      by_cases hlt : k < L.length
      · obtain ⟨ad', cap', e, _, hcs⟩ := HD.out wr hb
        cases e
        obtain ⟨g, o, rfl, hg, hcs⟩ : ∃ g o, ad = some ⟨g, o, none⟩ ∧ g < wr.heap.size ∧ ∀ i (h : i < L.length), PnIn wr g (o + i * 4) L[i] := by
          rcases hcs with h | h
          · rw [h] at hlt; simp at hlt
          · exact h
        obtain ⟨⟨c0, c1, c2, c3⟩, _⟩ := hcs k hlt
        have HST : Hid (mayP ⟨#[]⟩ L = (folB q L[k].nm && mayV L[k].a L[k].b L[k].c && mayP L[k].nm (L.drop (k + 1)))) := by
          unfold Hid
          rw [hst, List.drop_eq_getElem_cons hlt]
          rfl
        clear hcs hb hst
        generalize L[k] = p at *
        have HA : Hid (Below w.heap.size w (wr.alloc (.cells #[.string p.nm, .int .i64 p.a, .int .i64 p.b, .int .i64 p.c] 49)) ∧ BxPn (wr.alloc (.cells #[.string p.nm, .int .i64 p.a, .int .i64 p.b, .int .i64 p.c] 49)) wr.heap.size p) := ⟨below_then HB.out (boxB _ _), BxPn.new rfl _⟩
        have HF := hide3 (folB_any q p.nm)
        have HV := hide3 (May_any p.a p.b p.c)
        generalize folB q p.nm = bf at *
        generalize mayV p.a p.b p.c = bv at *
        cases bf
        · have HR : Hid (mayCx L = false) := by unfold Hid; rw [HM.out, HST.out]; rfl
          go_wp2_with (go_at_call 42; refine (HF.out _).mono ?_; rintro e w1 ⟨rfl, rfl⟩)
          go_ret
          exact ⟨ret_bool HR.out.symm, HA.out.1⟩
        · cases bv
          · have HR : Hid (mayCx L = false) := by unfold Hid; rw [HM.out, HST.out]; rfl
            go_wp2_with (first
              | (go_at_call 42; refine (HF.out _).mono ?_; rintro e w1 ⟨rfl, rfl⟩)
              | (go_at_call 40; refine (HV.out _).mono ?_; rintro e w2 ⟨rfl, ok⟩; have HA2 := hide3 (below_then HA.out.1 ok); clear ok))
            go_ret
            exact ⟨ret_bool HR.out.symm, HA2.out⟩
          · have HR : Hid (mayP ⟨#[]⟩ L = mayP p.nm (L.drop (k + 1))) := by unfold Hid; rw [HST.out]; rfl
            go_wp2_with (first
              | (go_at_call 42; refine (HF.out _).mono ?_; rintro e w1 ⟨rfl, rfl⟩)
              | (go_at_call 40; refine (HV.out _).mono ?_; rintro e w2 ⟨rfl, ok⟩; have HA2 : Hid (Below w.heap.size w w2 ∧ BxPn w2 wr.heap.size p) := ⟨below_then HA.out.1 ok, keepBxPn _ _ _ _ HA.out.2 ok⟩; obtain ⟨⟨y0, y1, y2, y3⟩, y4⟩ := HA2.out.2; clear ok))
            exact ⟨⟨k + 1, p.nm, by omega, by go_num, rfl, HA2.out.1, HR.out⟩, by simp [intOf]; omega⟩
      · obtain rfl : k = L.length := by omega
        rw [List.drop_length] at hst
        have HR : Hid (mayCx L = true) := by unfold Hid; rw [HM.out, hst]; rfl
        clear hst hb
        go_wp2
        go_ret
        exact ⟨ret_bool HR.out.symm, HB.out⟩
  · have HR := hide3 (mayCx_long hl)
    have hli : decide ((128 : Int) < (L.length : Int)) = true := decide_eq_true (by omega)
    go_enter Tryz.func41, Tryz.ntmps41
    go_wp2
    go_ret
    exact ⟨ret_bool HR.out.symm, Below.refl _ _⟩

set_option maxHeartbeats 3200000 in
theorem mayEdges_any {L : List Eg} {n : Int} {v : Value} {w : World} (hv : EdgesAt w v L) :
    Calls Tryz.prog 22 #[v, .int .i64 n] w fun e w' => e = .returned (.bool (mayEd n L)) ∧ Below w.heap.size w w' := by
  have HD : Hid (∀ w', Below w.heap.size w w' → EdgesAt w' v L) := fun w' hb => hv.below hb
  obtain ⟨ad, cap, rfl⟩ := hv.sl
  clear hv
  by_cases hl : L.length ≤ 128
  · have HM : Hid (mayEd n L = mayE n ⟨#[]⟩ L) := by unfold Hid mayEd; rw [decide_eq_true hl]; rfl
    have hli : decide ((128 : Int) < (L.length : Int)) = false := decide_eq_false (by omega)
    go_enter Tryz.func22, Tryz.ntmps22
    go_wp2
    go_loopw [5, 13] (fun va vi wr => ∃ (k : Nat) (q : ByteArray), k ≤ L.length ∧ vi = .int .i64 k ∧ va = .string q ∧ Below w.heap.size w wr ∧ mayE n ⟨#[]⟩ L = mayE n q (L.drop k)) (fun _ i _ => L.length - (intOf i).toNat)
    case atStart => exact ⟨0, ⟨#[]⟩, Nat.zero_le _, rfl, rfl, Below.refl _ _, by rw [List.drop_zero]⟩
    case round =>
      obtain ⟨k, q, hk, rfl, rfl, hb, hst⟩ := hrel
      have HB := hide3 hb
      by_cases hlt : k < L.length
      · obtain ⟨ad', cap', e, _, hcs⟩ := HD.out wr hb
        cases e
        obtain ⟨g, o, rfl, hg, hcs⟩ : ∃ g o, ad = some ⟨g, o, none⟩ ∧ g < wr.heap.size ∧ ∀ i (h : i < L.length), EgIn wr g (o + i * 2) L[i] := by
          rcases hcs with h | h
          · rw [h] at hlt; simp at hlt
          · exact h
        obtain ⟨⟨c0, c1⟩, _⟩ := hcs k hlt
        have HST : Hid (mayE n ⟨#[]⟩ L = (folB q L[k].lb && decide (1 ≤ L[k].to) && decide (L[k].to < n) && mayE n L[k].lb (L.drop (k + 1)))) := by
          unfold Hid
          rw [hst, List.drop_eq_getElem_cons hlt]
          rfl
        clear hcs hb hst
        generalize L[k] = p at *
        have HA : Hid (Below w.heap.size w (wr.alloc (.cells #[.string p.lb, .int .i64 p.to] 51)) ∧ BxEg (wr.alloc (.cells #[.string p.lb, .int .i64 p.to] 51)) wr.heap.size p) := ⟨below_then HB.out (boxB _ _), BxEg.new rfl _⟩
        have HF := hide3 (folB_any q p.lb)
        generalize folB q p.lb = bf at *
        cases bf
        · have HR : Hid (mayEd n L = false) := by unfold Hid; rw [HM.out, HST.out]; rfl
          go_wp2_with (go_at_call 42; refine (HF.out _).mono ?_; rintro e w1 ⟨rfl, rfl⟩)
          go_ret
          exact ⟨ret_bool HR.out.symm, HA.out.1⟩
        · by_cases h1 : 1 ≤ p.to
          · have h1i : decide (p.to < 1) = false := decide_eq_false (by omega)
            by_cases h2 : p.to < n
            · have h2i : decide (n ≤ p.to) = false := decide_eq_false (by omega)
              have HR : Hid (mayE n ⟨#[]⟩ L = mayE n p.lb (L.drop (k + 1))) := by unfold Hid; rw [HST.out, decide_eq_true h1, decide_eq_true h2]; rfl
              go_wp2_with (go_at_call 42; refine (HF.out _).mono ?_; rintro e w1 ⟨rfl, rfl⟩)
              exact ⟨⟨k + 1, p.lb, by omega, by go_num, rfl, HA.out.1, HR.out⟩, by simp [intOf]; omega⟩
            · have h2i : decide (n ≤ p.to) = true := decide_eq_true (by omega)
              have HR : Hid (mayEd n L = false) := by unfold Hid; rw [HM.out, HST.out, decide_eq_false h2]; simp
              go_wp2_with (go_at_call 42; refine (HF.out _).mono ?_; rintro e w1 ⟨rfl, rfl⟩)
              go_ret
              exact ⟨ret_bool HR.out.symm, HA.out.1⟩
          · have h1i : decide (p.to < 1) = true := decide_eq_true (by omega)
            have HR : Hid (mayEd n L = false) := by unfold Hid; rw [HM.out, HST.out, decide_eq_false h1]; simp
            go_wp2_with (go_at_call 42; refine (HF.out _).mono ?_; rintro e w1 ⟨rfl, rfl⟩)
            go_ret
            exact ⟨ret_bool HR.out.symm, HA.out.1⟩
      · obtain rfl : k = L.length := by omega
        rw [List.drop_length] at hst
        have HR : Hid (mayEd n L = true) := by unfold Hid; rw [HM.out, hst]; rfl
        clear hst hb
        go_wp2
        go_ret
        exact ⟨ret_bool HR.out.symm, HB.out⟩
  · have HR := hide3 (mayEd_long (n := n) hl)
    have hli : decide ((128 : Int) < (L.length : Int)) = true := decide_eq_true (by omega)
    go_enter Tryz.func22, Tryz.ntmps22
    go_wp2
    go_ret
    exact ⟨ret_bool HR.out.symm, Below.refl _ _⟩
end Go.Proofs.YtjbohacllhjgmaaGreatDoor
namespace Go.Proofs.YtjbohacllhjgmaaGreatDoor
open Go.RowKit
open Sc (KeepP hide3 keepBelow)
set_option maxRecDepth 100000

/-- A node's variable. -/
def BxNd (w : World) (N : Nat) (n : Nd) (vc ve : Value) : Prop := (w.cell? ⟨N, 0, none⟩ = some (.string n.nm) ∧ w.cell? ⟨N, 1, none⟩ = some (.int .i64 n.a) ∧ w.cell? ⟨N, 2, none⟩ = some (.int .i64 n.b) ∧ w.cell? ⟨N, 3, none⟩ = some (.int .i64 n.c) ∧ w.cell? ⟨N, 4, none⟩ = some vc ∧ w.cell? ⟨N, 5, none⟩ = some ve) ∧ N < w.heap.size
theorem keepBxNd (N : Nat) (n : Nd) (vc ve : Value) : KeepP fun w1 => BxNd w1 N n vc ve := fun w w' h hb => by
  obtain ⟨⟨h0, h1, h2, h3, h4, h5⟩, hg⟩ := h
  have q : ∀ i, w'.cell? ⟨N, i, none⟩ = w.cell? ⟨N, i, none⟩ := fun i => hb.cell (p := ⟨N, i, none⟩) hg
  exact ⟨⟨by rw [q]; exact h0, by rw [q]; exact h1, by rw [q]; exact h2, by rw [q]; exact h3, by rw [q]; exact h4, by rw [q]; exact h5⟩, Nat.lt_of_lt_of_le hg hb.size⟩
theorem BxNd.new {w : World} {N : Nat} (hN : w.heap.size = N) (n : Nd) (vc ve : Value) : BxNd (w.alloc (.cells #[.string n.nm, .int .i64 n.a, .int .i64 n.b, .int .i64 n.c, vc, ve] 43)) N n vc ve := by
  subst hN
  refine ⟨⟨?_, ?_, ?_, ?_, ?_, ?_⟩, ?_⟩ <;> simp

set_option maxHeartbeats 3200000 in
theorem mayLater_any {n : Nd} {vc ve : Value} {w : World} (hc : PinsAt w vc n.cx) (he : EdgesAt w ve n.ed) :
    Calls Tryz.prog 21 #[.agg #[.string n.nm, .int .i64 n.a, .int .i64 n.b, .int .i64 n.c, vc, ve]] w fun e w' => e = .returned (.bool (laterB n)) ∧ Below w.heap.size w w' := by
  have HN := hide3 (Sc.Name_any n.nm)
  have HV := hide3 (May_any n.a n.b n.c)
  have HC : Hid (∀ w1, Below w.heap.size w w1 → Calls Tryz.prog 41 #[vc] w1 fun e w' => e = .returned (.bool (mayCx n.cx)) ∧ Below w1.heap.size w1 w') := fun w1 hb => mayContext_any (hc.below hb)
  have HL : Hid (laterB n = (Sc.nameA n.nm.data.toList && mayV n.a n.b n.c && mayCx n.cx)) := rfl
  obtain ⟨ac, cc, rfl⟩ := hc.sl
  obtain ⟨ae, ce, rfl⟩ := he.sl
  clear hc he
  have HA : Hid (Below w.heap.size w (w.alloc (.cells #[.string n.nm, .int .i64 n.a, .int .i64 n.b, .int .i64 n.c, .slice ac n.cx.length cc, .slice ae n.ed.length ce] 43)) ∧ BxNd (w.alloc (.cells #[.string n.nm, .int .i64 n.a, .int .i64 n.b, .int .i64 n.c, .slice ac n.cx.length cc, .slice ae n.ed.length ce] 43)) w.heap.size n (.slice ac n.cx.length cc) (.slice ae n.ed.length ce)) := ⟨boxB _ _, BxNd.new rfl _ _ _⟩
  generalize laterB n = lb at *
  generalize Sc.nameA n.nm.data.toList = b1 at *
  generalize mayV n.a n.b n.c = b2 at *
  generalize mayCx n.cx = b3 at *
  cases b1
  · have HR : Hid (lb = false) := by unfold Hid; rw [HL.out]; rfl
    go_enter Tryz.func21, Tryz.ntmps21
    go_wp2_with (go_at_call 39; refine (HN.out _).mono ?_; rintro e w1 ⟨rfl, rfl⟩)
    go_ret
    exact ⟨ret_bool HR.out.symm, HA.out.1⟩
  · cases b2
    · have HR : Hid (lb = false) := by unfold Hid; rw [HL.out]; rfl
      go_enter Tryz.func21, Tryz.ntmps21
      go_wp2_with (first
        | (go_at_call 39; refine (HN.out _).mono ?_; rintro e w1 ⟨rfl, rfl⟩)
        | (go_at_call 40; refine (HV.out _).mono ?_; rintro e w2 ⟨rfl, ok⟩; have HA2 := hide3 (below_then HA.out.1 ok); clear ok))
      go_ret
      exact ⟨ret_bool HR.out.symm, HA2.out⟩
    · have HR : Hid (lb = b3) := by unfold Hid; rw [HL.out]; rfl
      go_enter Tryz.func21, Tryz.ntmps21
      go_wp2_with (first
        | (go_at_call 39; refine (HN.out _).mono ?_; rintro e w1 ⟨rfl, rfl⟩)
        | (go_at_call 40; refine (HV.out _).mono ?_; rintro e w2 ⟨rfl, ok⟩; have HA2 : Hid (Below w.heap.size w w2 ∧ BxNd w2 w.heap.size n (.slice ac n.cx.length cc) (.slice ae n.ed.length ce)) := ⟨below_then HA.out.1 ok, keepBxNd _ _ _ _ _ _ HA.out.2 ok⟩; obtain ⟨⟨y0, y1, y2, y3, y4, y5⟩, y6⟩ := HA2.out.2; clear ok)
        | (go_at_call 41; refine (HC.out _ HA2.out.1).mono ?_; rintro e w3 ⟨rfl, ok⟩; have HA3 := hide3 (below_then HA2.out.1 ok); clear ok))
      go_ret
      exact ⟨ret_bool HR.out.symm, HA3.out⟩
end Go.Proofs.YtjbohacllhjgmaaGreatDoor
namespace Go.Proofs.YtjbohacllhjgmaaGreatDoor
open Go.RowKit
open Sc (KeepP hide3 keepBelow)
set_option maxRecDepth 100000

theorem eqVL (p q r p' q' r' : Int) (w : World) : (binOp .eql 39 (.agg #[.int .i64 p, .int .i64 q, .int .i64 r]) (.agg #[.int .i64 p', .int .i64 q', .int .i64 r'])).run Tryz.prog w = .ok (.bool (decide (p = p') && decide (q = q') && decide (r = r'))) w := by
  have u3 := Tryz.underlying3
  have a3 := Tryz.isAgg3
  have z3 := Tryz.sizeOf3
  rw [run_eql_struct, show (10000 : Nat) = 9999 + 1 from rfl, run_equalIn_agg w 9999 39 _ _ (by kernel_rfl) (by kernel_rfl)]
  simp only [Program.fieldsOf, Tryz.underlying39]
  by_cases h1 : p = p'
  · by_cases h2 : q = q'
    · by_cases h3 : r = r'
      · subst h1 h2 h3; go_simp
      · subst h1 h2; simp only [h3, decide_false, Bool.and_false]; go_simp
    · subst h1; simp only [h2, decide_false, Bool.and_false, Bool.false_and]; go_simp
  · simp only [h1, decide_false, Bool.false_and]; go_simp

set_option maxHeartbeats 3200000 in
theorem mayFirst_any {n : Nd} {vc ve : Value} {w : World} (hc : PinsAt w vc n.cx) (he : EdgesAt w ve n.ed) :
    Calls Tryz.prog 20 #[.agg #[.string n.nm, .int .i64 n.a, .int .i64 n.b, .int .i64 n.c, vc, ve]] w fun e w' => e = .returned (.bool (firstB n)) ∧ Below w.heap.size w w' := by
  obtain ⟨ac, cc, rfl⟩ := hc.sl
  obtain ⟨ae, ce, rfl⟩ := he.sl
  clear hc he
  have HL : Hid (firstB n = (n.nm.toList.isEmpty && (decide (n.a = 0) && decide (n.b = 0) && decide (n.c = 0)) && decide (n.cx.length = 0))) := by
    unfold Hid firstB
    have e : decide (n.nm.size = 0) = n.nm.toList.isEmpty := by
      rw [ByteArray.toList_eq, Bool.eq_iff_iff, decide_eq_true_eq, List.isEmpty_iff_length_eq_zero]
      rfl
    rw [e]
    simp only [Bool.decide_and, Bool.and_assoc]
  have hv := eqVL n.a n.b n.c 0 0 0
  have hgd := guardV
  have HA : Hid (Below w.heap.size w (w.alloc (.cells #[.string n.nm, .int .i64 n.a, .int .i64 n.b, .int .i64 n.c, .slice ac n.cx.length cc, .slice ae n.ed.length ce] 43))) := boxB _ _
  generalize firstB n = fb at *
  generalize (decide (n.a = 0) && decide (n.b = 0) && decide (n.c = 0)) = xv at *
  cases hx : n.nm.toList.isEmpty
  · have hx2 : (n.nm.toList == []) = false := by rw [← hx]; cases n.nm.toList <;> rfl
    have HR : Hid (fb = false) := by unfold Hid; rw [HL.out, hx]; rfl
    go_enter Tryz.func20, Tryz.ntmps20
    go_wp2
    go_ret
    exact ⟨ret_bool HR.out.symm, HA.out⟩
  · have hx2 : (n.nm.toList == []) = true := by rw [← hx]; cases n.nm.toList <;> rfl
    cases xv
    · have HR : Hid (fb = false) := by unfold Hid; rw [HL.out, hx]; rfl
      go_enter Tryz.func20, Tryz.ntmps20
      go_wp2
      go_ret
      exact ⟨ret_bool HR.out.symm, HA.out⟩
    · by_cases hl : n.cx.length = 0
      · have hl2 : ((n.cx.length : Int) == 0) = true := by rw [hl]; rfl
        have HR : Hid (fb = true) := by unfold Hid; rw [HL.out, hx, decide_eq_true hl]; rfl
        clear hl
        go_enter Tryz.func20, Tryz.ntmps20
        go_wp2
        go_ret
        exact ⟨ret_bool (by first | exact HR.out.symm | (rw [HR.out]; exact hl2)), HA.out⟩
      · have hl2 : ((n.cx.length : Int) == 0) = false := by rw [beq_eq_false_iff_ne]; omega
        have HR : Hid (fb = false) := by unfold Hid; rw [HL.out, hx, decide_eq_false hl]; rfl
        clear hl
        go_enter Tryz.func20, Tryz.ntmps20
        go_wp2
        go_ret
        exact ⟨ret_bool (by first | exact HR.out.symm | (rw [HR.out]; exact hl2)), HA.out⟩

/-- A graph's variable. -/
def BxG (w : World) (N : Nat) (v : Value) : Prop := w.cell? ⟨N, 0, none⟩ = some v ∧ N < w.heap.size
theorem keepBxG (N : Nat) (v : Value) : KeepP fun w1 => BxG w1 N v := fun _ _ h hb => ⟨(hb.cell (p := ⟨N, 0, none⟩) h.2).trans h.1, Nat.lt_of_lt_of_le h.2 hb.size⟩
theorem BxG.new {w : World} {N : Nat} (hN : w.heap.size = N) (v : Value) : BxG (w.alloc (.cells #[v] 24)) N v := by
  subst hN
  exact ⟨by simp, by simp⟩

set_option maxHeartbeats 6400000 in
theorem gMay_any {G : List Nd} {v : Value} {w : World} (h : NodesAt w v G) :
    Calls Tryz.prog 10 #[.agg #[v]] w fun e w' => e = .returned (.bool (mayG G)) ∧ Below w.heap.size w w' := by
  have HD : Hid (∀ w', Below w.heap.size w w' → NodesAt w' v G) := fun w' hb => h.below hb
  obtain ⟨ad, cap, rfl, hcap, hcs⟩ := h
  cases G with
  | nil =>
    rw [List.length_nil]
    go_enter Tryz.func10, Tryz.ntmps10
    go_wp2
    go_ret
    exact ⟨rfl, boxB _ _⟩
  | cons n0 r =>
    obtain ⟨g, o, rfl, hg, hcs⟩ : ∃ g o, ad = some ⟨g, o, none⟩ ∧ g < w.heap.size ∧ ∀ i (h : i < (n0 :: r).length), ∃ vc ve, NdIn w g (o + i * 6) (n0 :: r)[i] vc ve := by
      rcases hcs with h | h
      · cases h
      · exact h
    have HX : Hid (∀ W, Below w.heap.size w W → ∀ i (h : i < (n0 :: r).length), ∃ vc ve, NdIn W g (o + i * 6) (n0 :: r)[i] vc ve) := fun W hb i hi => by obtain ⟨vc, ve, h⟩ := hcs i hi; exact ⟨vc, ve, h.below hb⟩
    obtain ⟨vc0, ve0, ⟨c0, c1, c2, c3, c4, c5⟩, ⟨hp0, he0⟩, _⟩ := hcs 0 (by simp)
    clear hcs HD
    have HMG : Hid (mayG (n0 :: r) = (decide (r.length + 1 ≤ 128) && firstB n0 && r.all laterB && (n0 :: r).all fun m => mayEd (r.length + 1) m.ed)) := rfl
    rw [List.length_cons] at hcap ⊢
    obtain ⟨nn, hnn⟩ : ∃ nn, r.length + 1 = nn := ⟨_, rfl⟩
    have HNN := hide3 hnn
    rw [hnn] at hcap ⊢
    have hni : ((r.length : Int) + 1) = (nn : Int) := by omega
    rw [hni] at HMG
    have HF : Hid (∀ W, Below w.heap.size w W → Calls Tryz.prog 20 #[.agg #[.string n0.nm, .int .i64 n0.a, .int .i64 n0.b, .int .i64 n0.c, vc0, ve0]] W fun e w' => e = .returned (.bool (firstB n0)) ∧ Below W.heap.size W w') := fun W hb => mayFirst_any (hp0.below hb) (he0.below hb)
    obtain ⟨ac0, cc0, rfl⟩ := hp0.sl
    obtain ⟨ae0, ce0, rfl⟩ := he0.sl
    have HB0 : Hid (Below w.heap.size w (w.alloc (.cells #[.slice (some ⟨g, o, none⟩) nn cap] 24)) ∧ BxG (w.alloc (.cells #[.slice (some ⟨g, o, none⟩) nn cap] 24)) w.heap.size (.slice (some ⟨g, o, none⟩) nn cap)) := ⟨boxB _ _, BxG.new rfl _⟩
    have HKB : Hid (KeepP fun W => Below w.heap.size w W ∧ BxG W w.heap.size (.slice (some ⟨g, o, none⟩) nn cap)) := (keepBelow w).and (keepBxG _ _)
    have lift : ∀ i v, w.cell? ⟨g, i, none⟩ = some v → (w.alloc (.cells #[.slice (some ⟨g, o, none⟩) nn cap] 24)).cell? ⟨g, i, none⟩ = some v := fun i v h => ((boxB w _).cell (p := ⟨g, i, none⟩) hg).trans h
    simp only [Nat.zero_mul, Nat.add_zero, List.getElem_cons_zero] at c0 c1 c2 c3 c4 c5
    have k0 := lift _ _ c0
    have k1 := lift _ _ c1
    have k2 := lift _ _ c2
    have k3 := lift _ _ c3
    have k4 := lift _ _ c4
    have k5 := lift _ _ c5
    have hn0 : ((nn : Int) == 0) = false := by rw [beq_eq_false_iff_ne]; omega
    have hn1 : (0 : Int) < (nn : Int) := by omega
    have hn2 : 0 < nn := by omega
    clear c0 c1 c2 c3 c4 c5 lift hp0 he0
    by_cases hbig : nn ≤ 128
    · have hb128 : decide ((128 : Int) < (nn : Int)) = false := decide_eq_false (by omega)
      cases hfb : firstB n0
      · have HR : Hid (mayG (n0 :: r) = false) := by unfold Hid; rw [HMG.out, hfb]; simp
        rw [hfb] at HF
        clear hnn hni HMG
        go_enter Tryz.func10, Tryz.ntmps10
        go_wp2_with (go_at_call 20; refine (HF.out _ HB0.out.1).mono ?_; rintro e w1 ⟨rfl, ok⟩; have HB1 := hide3 (below_then HB0.out.1 ok); clear ok)
        go_ret
        exact ⟨ret_bool HR.out.symm, HB1.out⟩
      · have HM2 : Hid (mayG (n0 :: r) = (r.all laterB && (n0 :: r).all fun m => mayEd nn m.ed)) := by unfold Hid; rw [HMG.out, hfb, decide_eq_true (by omega)]; simp
        rw [hfb] at HF
        clear HMG hni
        by_cases hcap1 : cap = 1
        · subst hcap1
          have hr00 : r.length ≤ 0 := by omega
          have hc1 : (1 : Int) ≤ (nn : Int) := by omega
          have hc2 : (nn : Int) ≤ 1 := by omega
          have hrl : ((nn : Int) - 1) = (r.length : Int) := by omega
          have hrn : nn - 1 = r.length := by omega
          clear hnn
          go_enter Tryz.func10, Tryz.ntmps10
          go_wp2_with (go_at_call 20; refine (HF.out _ HB0.out.1).mono ?_; rintro e w1 ⟨rfl, ok⟩; have HB1 := hide3 (HKB.out _ _ HB0.out ok); obtain ⟨y0, y1⟩ := HB1.out.2; clear ok)
          go_loopw [29] (fun i wr => ∃ k : Nat, k ≤ r.length ∧ i = .int .i64 k ∧ (Below w.heap.size w wr ∧ BxG wr w.heap.size (.slice (some ⟨g, o, none⟩) nn 1)) ∧ (r.take k).all laterB = true) (fun i _ => r.length - (intOf i).toNat)
          case atStart => exact ⟨0, Nat.zero_le _, rfl, HB1.out, rfl⟩
          case round =>
            obtain ⟨k, hk, rfl, hbw, hall⟩ := hrel
            have HBW := hide3 hbw
            clear y0 y1
            obtain ⟨y0, y1⟩ := hbw.2
            by_cases hlt : k < r.length
            · exact absurd hlt (by omega)
            · obtain rfl : k = r.length := by omega
              have HAL : Hid (r.all laterB = true) := by rw [List.take_length] at hall; exact hall
              have HBL := hide3 hbw
              have hki : ¬ ((r.length : Int) < (r.length : Int)) := by omega
              clear hall hbw
              go_wp2_with fail
              go_loopw [40] (fun i wr => ∃ k : Nat, k ≤ nn ∧ i = .int .i64 k ∧ (Below w.heap.size w wr ∧ BxG wr w.heap.size (.slice (some ⟨g, o, none⟩) nn 1)) ∧ ((n0 :: r).take k).all (fun m => mayEd nn m.ed) = true) (fun i _ => nn - (intOf i).toNat)
              case atStart => exact ⟨0, Nat.zero_le _, rfl, HBL.out, rfl⟩
              case round =>
                obtain ⟨k, hk, rfl, hbw, hall⟩ := hrel
                have HBW := hide3 hbw
                by_cases hlt : k < nn
                · have hki : (k : Int) < (nn : Int) := by omega
                  have hkG : k < (n0 :: r).length := by rw [List.length_cons]; have := HNN.out; omega
                  obtain ⟨vc, ve, ⟨d0, d1, d2, d3, d4, d5⟩, ⟨hpk, hek⟩, _⟩ := HX.out _ hbw.1 k hkG
                  have HE : Hid (∀ W, Below wr.heap.size wr W → Calls Tryz.prog 22 #[ve, .int .i64 (nn : Int)] W fun e w' => e = .returned (.bool (mayEd nn (n0 :: r)[k].ed)) ∧ Below W.heap.size W w') := fun W hb => mayEdges_any (hek.below hb)
                  have HT : Hid (((n0 :: r).take (k + 1)).all (fun m => mayEd nn m.ed) = mayEd nn (n0 :: r)[k].ed) := by
                    unfold Hid
                    rw [List.take_succ_eq_append_getElem hkG, List.all_append, hall]
                    simp
                  have HT2 : Hid (mayEd nn (n0 :: r)[k].ed = false → ((n0 :: r).all fun m => mayEd nn m.ed) = false) := fun hf => by
                    rw [List.all_eq_false]
                    exact ⟨_, List.getElem_mem hkG, by rw [hf]; simp⟩
                  obtain ⟨ac, cc, rfl⟩ := hpk.sl
                  obtain ⟨ae, ce, rfl⟩ := hek.sl
                  clear hall hbw hpk hek
                  generalize (n0 :: r)[k] = m at *
                  have HA : Hid ((Below w.heap.size w (wr.alloc (.cells #[.string m.nm, .int .i64 m.a, .int .i64 m.b, .int .i64 m.c, .slice ac m.cx.length cc, .slice ae m.ed.length ce] 43)) ∧ BxG (wr.alloc (.cells #[.string m.nm, .int .i64 m.a, .int .i64 m.b, .int .i64 m.c, .slice ac m.cx.length cc, .slice ae m.ed.length ce] 43)) w.heap.size (.slice (some ⟨g, o, none⟩) nn 1)) ∧ BxNd (wr.alloc (.cells #[.string m.nm, .int .i64 m.a, .int .i64 m.b, .int .i64 m.c, .slice ac m.cx.length cc, .slice ae m.ed.length ce] 43)) wr.heap.size m (.slice ac m.cx.length cc) (.slice ae m.ed.length ce)) := ⟨HKB.out _ _ HBW.out (boxB _ _), BxNd.new rfl _ _ _⟩
                  cases hme : mayEd nn m.ed
                  · have HR : Hid (mayG (n0 :: r) = false) := by unfold Hid; rw [HM2.out, HT2.out hme]; simp
                    rw [hme] at HE
                    go_wp2_with (go_at_call 22; refine (HE.out _ (boxB _ _)).mono ?_; rintro e w5 ⟨rfl, ok⟩; have HB5 := hide3 (below_then HA.out.1.1 ok); clear ok)
                    go_ret
                    exact ⟨ret_bool HR.out.symm, HB5.out⟩
                  · rw [hme] at HE HT
                    go_wp2_with (go_at_call 22; refine (HE.out _ (boxB _ _)).mono ?_; rintro e w5 ⟨rfl, ok⟩; have HB5 := hide3 (HKB.out _ _ HA.out.1 ok); clear ok)
                    exact ⟨⟨k + 1, by omega, by go_num, HB5.out, HT.out⟩, by simp [intOf]; omega⟩
                · obtain rfl : k = nn := by omega
                  have HR : Hid (mayG (n0 :: r) = true) := by
                    unfold Hid
                    have hz : k = (n0 :: r).length := by rw [List.length_cons]; have := HNN.out; omega
                    rw [HM2.out, HAL.out]
                    rw [hz, List.take_length] at hall
                    rw [← hz] at hall
                    exact hall
                  clear hall hbw
                  go_wp2
                  go_ret
                  exact ⟨ret_bool HR.out.symm, HBW.out.1⟩
        · have hc1 : (1 : Int) ≤ (nn : Int) := by omega
          have hc2 : (nn : Int) ≤ (cap : Int) := by omega
          have hrl : ((nn : Int) - 1) = (r.length : Int) := by omega
          have hrn : nn - 1 = r.length := by omega
          clear hnn
          go_enter Tryz.func10, Tryz.ntmps10
          go_wp2_with (go_at_call 20; refine (HF.out _ HB0.out.1).mono ?_; rintro e w1 ⟨rfl, ok⟩; have HB1 := hide3 (HKB.out _ _ HB0.out ok); obtain ⟨y0, y1⟩ := HB1.out.2; clear ok)
          go_loopw [29] (fun i wr => ∃ k : Nat, k ≤ r.length ∧ i = .int .i64 k ∧ (Below w.heap.size w wr ∧ BxG wr w.heap.size (.slice (some ⟨g, o, none⟩) nn cap)) ∧ (r.take k).all laterB = true) (fun i _ => r.length - (intOf i).toNat)
          case atStart => exact ⟨0, Nat.zero_le _, rfl, HB1.out, rfl⟩
          case round =>
            obtain ⟨k, hk, rfl, hbw, hall⟩ := hrel
            have HBW := hide3 hbw
            clear y0 y1
            obtain ⟨y0, y1⟩ := hbw.2
            by_cases hlt : k < r.length
            · have hki : (k : Int) < (r.length : Int) := by omega
              obtain ⟨vc, ve, hnd⟩ := HX.out _ hbw.1 (k + 1) (by simp; omega)
              rw [show o + (k + 1) * 6 = o + 6 + k * 6 by omega, List.getElem_cons_succ] at hnd
              obtain ⟨⟨d0, d1, d2, d3, d4, d5⟩, ⟨hpk, hek⟩, _⟩ := hnd
              have HE : Hid (∀ W, Below wr.heap.size wr W → Calls Tryz.prog 21 #[.agg #[.string r[k].nm, .int .i64 r[k].a, .int .i64 r[k].b, .int .i64 r[k].c, vc, ve]] W fun e w' => e = .returned (.bool (laterB r[k])) ∧ Below W.heap.size W w') := fun W hb => mayLater_any (hpk.below hb) (hek.below hb)
              have HT : Hid ((r.take (k + 1)).all laterB = laterB r[k]) := by
                unfold Hid
                rw [List.take_succ_eq_append_getElem hlt, List.all_append, hall]
                simp
              have HT2 : Hid (laterB r[k] = false → r.all laterB = false) := fun hf => by
                rw [List.all_eq_false]
                exact ⟨_, List.getElem_mem hlt, by rw [hf]; simp⟩
              obtain ⟨ac, cc, rfl⟩ := hpk.sl
              obtain ⟨ae, ce, rfl⟩ := hek.sl
              clear hall hbw hpk hek
              generalize r[k] = m at *
              have HA : Hid ((Below w.heap.size w (wr.alloc (.cells #[.string m.nm, .int .i64 m.a, .int .i64 m.b, .int .i64 m.c, .slice ac m.cx.length cc, .slice ae m.ed.length ce] 43)) ∧ BxG (wr.alloc (.cells #[.string m.nm, .int .i64 m.a, .int .i64 m.b, .int .i64 m.c, .slice ac m.cx.length cc, .slice ae m.ed.length ce] 43)) w.heap.size (.slice (some ⟨g, o, none⟩) nn cap)) ∧ BxNd (wr.alloc (.cells #[.string m.nm, .int .i64 m.a, .int .i64 m.b, .int .i64 m.c, .slice ac m.cx.length cc, .slice ae m.ed.length ce] 43)) wr.heap.size m (.slice ac m.cx.length cc) (.slice ae m.ed.length ce)) := ⟨HKB.out _ _ HBW.out (boxB _ _), BxNd.new rfl _ _ _⟩
              cases hme : laterB m
              · have HR : Hid (mayG (n0 :: r) = false) := by unfold Hid; rw [HM2.out, HT2.out hme]; rfl
                rw [hme] at HE
                go_wp2_with (go_at_call 21; refine (HE.out _ (boxB _ _)).mono ?_; rintro e w5 ⟨rfl, ok⟩; have HB5 := hide3 (below_then HA.out.1.1 ok); clear ok)
                go_ret
                exact ⟨ret_bool HR.out.symm, HB5.out⟩
              · rw [hme] at HE HT
                go_wp2_with (go_at_call 21; refine (HE.out _ (boxB _ _)).mono ?_; rintro e w5 ⟨rfl, ok⟩; have HB5 := hide3 (HKB.out _ _ HA.out.1 ok); clear ok)
                exact ⟨⟨k + 1, by omega, by go_num, HB5.out, HT.out⟩, by simp [intOf]; omega⟩
            · obtain rfl : k = r.length := by omega
              have HAL : Hid (r.all laterB = true) := by rw [List.take_length] at hall; exact hall
              have HBL := hide3 hbw
              have hki : ¬ ((r.length : Int) < (r.length : Int)) := by omega
              clear hall hbw
              go_wp2_with fail
              go_loopw [40] (fun i wr => ∃ k : Nat, k ≤ nn ∧ i = .int .i64 k ∧ (Below w.heap.size w wr ∧ BxG wr w.heap.size (.slice (some ⟨g, o, none⟩) nn cap)) ∧ ((n0 :: r).take k).all (fun m => mayEd nn m.ed) = true) (fun i _ => nn - (intOf i).toNat)
              case atStart => exact ⟨0, Nat.zero_le _, rfl, HBL.out, rfl⟩
              case round =>
                obtain ⟨k, hk, rfl, hbw, hall⟩ := hrel
                have HBW := hide3 hbw
                by_cases hlt : k < nn
                · have hki : (k : Int) < (nn : Int) := by omega
                  have hkG : k < (n0 :: r).length := by rw [List.length_cons]; have := HNN.out; omega
                  obtain ⟨vc, ve, ⟨d0, d1, d2, d3, d4, d5⟩, ⟨hpk, hek⟩, _⟩ := HX.out _ hbw.1 k hkG
                  have HE : Hid (∀ W, Below wr.heap.size wr W → Calls Tryz.prog 22 #[ve, .int .i64 (nn : Int)] W fun e w' => e = .returned (.bool (mayEd nn (n0 :: r)[k].ed)) ∧ Below W.heap.size W w') := fun W hb => mayEdges_any (hek.below hb)
                  have HT : Hid (((n0 :: r).take (k + 1)).all (fun m => mayEd nn m.ed) = mayEd nn (n0 :: r)[k].ed) := by
                    unfold Hid
                    rw [List.take_succ_eq_append_getElem hkG, List.all_append, hall]
                    simp
                  have HT2 : Hid (mayEd nn (n0 :: r)[k].ed = false → ((n0 :: r).all fun m => mayEd nn m.ed) = false) := fun hf => by
                    rw [List.all_eq_false]
                    exact ⟨_, List.getElem_mem hkG, by rw [hf]; simp⟩
                  obtain ⟨ac, cc, rfl⟩ := hpk.sl
                  obtain ⟨ae, ce, rfl⟩ := hek.sl
                  clear hall hbw hpk hek
                  generalize (n0 :: r)[k] = m at *
                  have HA : Hid ((Below w.heap.size w (wr.alloc (.cells #[.string m.nm, .int .i64 m.a, .int .i64 m.b, .int .i64 m.c, .slice ac m.cx.length cc, .slice ae m.ed.length ce] 43)) ∧ BxG (wr.alloc (.cells #[.string m.nm, .int .i64 m.a, .int .i64 m.b, .int .i64 m.c, .slice ac m.cx.length cc, .slice ae m.ed.length ce] 43)) w.heap.size (.slice (some ⟨g, o, none⟩) nn cap)) ∧ BxNd (wr.alloc (.cells #[.string m.nm, .int .i64 m.a, .int .i64 m.b, .int .i64 m.c, .slice ac m.cx.length cc, .slice ae m.ed.length ce] 43)) wr.heap.size m (.slice ac m.cx.length cc) (.slice ae m.ed.length ce)) := ⟨HKB.out _ _ HBW.out (boxB _ _), BxNd.new rfl _ _ _⟩
                  cases hme : mayEd nn m.ed
                  · have HR : Hid (mayG (n0 :: r) = false) := by unfold Hid; rw [HM2.out, HT2.out hme]; simp
                    rw [hme] at HE
                    go_wp2_with (go_at_call 22; refine (HE.out _ (boxB _ _)).mono ?_; rintro e w5 ⟨rfl, ok⟩; have HB5 := hide3 (below_then HA.out.1.1 ok); clear ok)
                    go_ret
                    exact ⟨ret_bool HR.out.symm, HB5.out⟩
                  · rw [hme] at HE HT
                    go_wp2_with (go_at_call 22; refine (HE.out _ (boxB _ _)).mono ?_; rintro e w5 ⟨rfl, ok⟩; have HB5 := hide3 (HKB.out _ _ HA.out.1 ok); clear ok)
                    exact ⟨⟨k + 1, by omega, by go_num, HB5.out, HT.out⟩, by simp [intOf]; omega⟩
                · obtain rfl : k = nn := by omega
                  have HR : Hid (mayG (n0 :: r) = true) := by
                    unfold Hid
                    have hz : k = (n0 :: r).length := by rw [List.length_cons]; have := HNN.out; omega
                    rw [HM2.out, HAL.out]
                    rw [hz, List.take_length] at hall
                    rw [← hz] at hall
                    exact hall
                  clear hall hbw
                  go_wp2
                  go_ret
                  exact ⟨ret_bool HR.out.symm, HBW.out.1⟩
    · have hb128 : decide ((128 : Int) < (nn : Int)) = true := decide_eq_true (by omega)
      have HR : Hid (mayG (n0 :: r) = false) := by unfold Hid; rw [HMG.out, decide_eq_false (by omega)]; rfl
      clear hnn hni HMG
      go_enter Tryz.func10, Tryz.ntmps10
      go_wp2
      go_ret
      exact ⟨ret_bool HR.out.symm, HB0.out.1⟩
end Go.Proofs.YtjbohacllhjgmaaGreatDoor
namespace Go.Proofs.YtjbohacllhjgmaaGreatDoor.Sc
open Go.RowKit
set_option maxRecDepth 100000

theorem bSize : (Tryz.prog.info? 80).map (·.size) = some 2 := by kernel_rfl
theorem bLies : liesAt Tryz.prog Tryz.prog.depth 80 (2 / Tryz.prog.cellsOf 80) 0 80 1 = true := by kernel_rfl
theorem bByte : (Tryz.prog.info? 5).map (fun i => (i.zero, i.size, i.bytes)) = some (some (.int .u8 0), 1, 1) := by kernel_rfl

set_option maxHeartbeats 1600000 in
theorem check_used (b : Nat) (w : World) (h0 : w.cell? ⟨b, 0, none⟩ = some (.pointer (some ⟨b, 0, none⟩))) :
    Calls Tryz.prog 61 #[.pointer (some ⟨b, 0, none⟩)] w fun e w' => e = .returned (.tuple #[]) ∧ w' = w := by
  obtain ⟨j, hj, _⟩ := Option.map_eq_some_iff.1 bSize
  go_enter Tryz.func61, Tryz.ntmps61
  go_wp2
  rw [Lib.run_neq_ptr_same w _ Tryz.underlying78 hj]
  go_wp2
  go_end0
  exact ⟨rfl, rfl⟩

set_option maxHeartbeats 1600000 in
theorem check_fresh (b : Nat) (w : World) (h0 : w.cell? ⟨b, 0, none⟩ = some (.pointer none)) (hsh : w.shape? b = some (80, 2)) (hfz : w.frozen? ⟨b, 0, none⟩ = false) :
    Calls Tryz.prog 61 #[.pointer (some ⟨b, 0, none⟩)] w fun e w' => e = .returned (.tuple #[]) ∧ w' = w.setCell ⟨b, 0, none⟩ (.pointer (some ⟨b, 0, none⟩)) := by
  obtain ⟨j, hj, hjs⟩ := Option.map_eq_some_iff.1 bSize
  go_enter Tryz.func61, Tryz.ntmps61
  go_wp2
  rw [Lib.run_to_unsafe w ⟨b, 0, none⟩ Tryz.underlying78 Tryz.underlying96 hj (by rw [hjs]; decide) hsh (Nat.zero_lt_succ 1)]
  simp only [Result.andThen]
  rw [Oper.upon_value]
  go_wp2
  rw [run_callFunc_extern Tryz.func66 (by kernel_rfl) (by kernel_rfl) (by kernel_rfl) (e := Extern.AbiNoEscape.same) (by kernel_rfl), Lib.run_noEscape]
  simp only [Result.andThen]
  rw [Oper.upon_value]
  go_wp2
  rw [Lib.run_from_unsafe w ⟨b, 0, none⟩ Tryz.underlying96 Tryz.underlying78 hj hsh bLies]
  simp only [Result.andThen]
  rw [Oper.upon_value]
  go_wp2
  go_end0
  exact ⟨rfl, rfl⟩

/-- A builder at a block, with these bytes. -/
def Bld (B b : Nat) (l : Bs) (w : World) : Prop := Lib.IsBuilder 80 5 B b (Lib.byteCells l) w
theorem check_any {B b : Nat} {l : Bs} {w : World} (h : Bld B b l w) :
    Calls Tryz.prog 61 #[.pointer (some ⟨b, 0, none⟩)] w fun e w' => e = .returned (.tuple #[]) ∧ Lib.BuilderAt 80 5 B b (.pointer (some ⟨b, 0, none⟩)) (Lib.byteCells l) w' ∧ Below B w w' := by
  rcases h with h | h
  · refine (check_fresh b w h.cell0 h.shape h.frozen0).mono ?_
    rintro e w' ⟨rfl, rfl⟩
    exact ⟨rfl, h.used _, (Below.refl B w).setCell (p := ⟨b, 0, none⟩) h.1 _⟩
  · refine (check_used b w h.cell0).mono ?_
    rintro e w' ⟨rfl, rfl⟩
    exact ⟨rfl, h, Below.refl B _⟩

set_option maxHeartbeats 1600000 in
theorem putByte {B b : Nat} {l : Bs} {w : World} (c : UInt8) (h : Bld B b l w) (hl : l.length + 1 ≤ 140737488355328) (hB : B ≤ w.heap.size) :
    Calls Tryz.prog 50 #[.pointer (some ⟨b, 0, none⟩), .int .u8 (c.toNat : Int)] w fun e w' => e = .returned .nilIface ∧ Bld B b (l ++ [c]) w' ∧ Below B w w' := by
  obtain ⟨i0, hi, hz0, hz1, hz2⟩ := info_parts bByte
  have HC := hide3 (check_any h)
  have hlc : (Lib.byteCells l).length = l.length := Lib.byteCells_length l
  go_enter Tryz.func50, Tryz.ntmps50
  go_wp2_with (go_at_call 61; refine HC.out.mono ?_)
  rintro e w1 ⟨rfl, h1, hb1⟩
  obtain ⟨hBb, v, hbk, hown, hne⟩ := h1
  have c0 : w1.cell? ⟨b, 0, none⟩ = some (.pointer (some ⟨b, 0, none⟩)) := by rw [Lib.cell_of_heap hbk]; rfl
  have c1 : w1.cell? ⟨b, 1, none⟩ = some v := by rw [Lib.cell_of_heap hbk]; rfl
  have hs1 := hb1.size
  go_wp2_with (at_builtin; refine wpList_append_own _ rfl _ _ 77 rfl B 5 i0 (.int .u8 0) 1 1 Tryz.underlying77 hi hz0 hz1 hz2 rfl (by decide) _ _ _ rfl (hown.alloc _) ⟨w1.heap.size, 0, none⟩ 1 1 [.int .u8 (c.toNat : Int)] rfl rfl (cell_one_new _ _ _) (by intro u hu; rw [List.mem_singleton.1 hu]; rfl) (by unfold maxLen; omega) (by omega) (by simp; omega) ?_)
  intro v' w2 hown' hgrow _
  have hlt : b < w1.heap.size := (Array.getElem?_eq_some_iff.1 hbk).1
  have hb2 : w2.heap[b]? = some (.cells #[.pointer (some ⟨b, 0, none⟩), v] 80 (0, 0)) := by
    rw [hgrow.block b (by simp; omega) (fun e => hne e.symm), Lib.alloc_old w1 _ b hlt]
    exact hbk
  have d0 : w2.cell? ⟨b, 0, none⟩ = some (.pointer (some ⟨b, 0, none⟩)) := by rw [Lib.cell_of_heap hb2]; rfl
  have d1 : w2.cell? ⟨b, 1, none⟩ = some v := by rw [Lib.cell_of_heap hb2]; rfl
  have f1 : w2.frozen? ⟨b, 1, none⟩ = false := Lib.frozen_of_heap hb2 1
  obtain ⟨ao, n', cap, rfl⟩ : ∃ ao n' cap, v' = .slice ao n' cap := by
    rcases hown'.2 with ⟨hv, _⟩ | ⟨g, cap, cur, hv, _⟩
    · exact ⟨_, _, _, hv⟩
    · exact ⟨_, _, _, hv⟩
  go_wp2
  go_ret
  refine ⟨rfl, Or.inr ?_, ?_⟩
  · refine Lib.BuilderAt.put (T := 80) (e := 5) hBb hb2 ?_ (by decide)
    rw [Lib.byteCells_append, List.length_append, hlc]
    exact hown'
  · exact ((hb1.alloc (by omega) _).grown hgrow (by simp; omega) (fun k hk => (hown.lt k hk).1)).setCell (p := ⟨b, 1, none⟩) hBb _

set_option maxHeartbeats 1600000 in
theorem putText {B b : Nat} {l : Bs} {w : World} (s : ByteArray) (h : Bld B b l w) (hl : l.length + s.size ≤ 140737488355328) (hB : B ≤ w.heap.size) :
    Calls Tryz.prog 48 #[.pointer (some ⟨b, 0, none⟩), .string s] w fun e w' => e = .returned (.tuple #[.int .i64 s.size, .nilIface]) ∧ Bld B b (l ++ s.data.toList) w' ∧ Below B w w' := by
  obtain ⟨i0, hi, hz0, hz1, hz2⟩ := info_parts bByte
  have HC := hide3 (check_any h)
  have hlc : (Lib.byteCells l).length = l.length := Lib.byteCells_length l
  go_enter Tryz.func48, Tryz.ntmps48
  go_wp2_with (go_at_call 61; refine HC.out.mono ?_)
  rintro e w1 ⟨rfl, h1, hb1⟩
  obtain ⟨hBb, v, hbk, hown, hne⟩ := h1
  have c0 : w1.cell? ⟨b, 0, none⟩ = some (.pointer (some ⟨b, 0, none⟩)) := by rw [Lib.cell_of_heap hbk]; rfl
  have c1 : w1.cell? ⟨b, 1, none⟩ = some v := by rw [Lib.cell_of_heap hbk]; rfl
  have hs1 := hb1.size
  go_wp2_with (at_builtin; refine Lib.wpList_append_own_string _ rfl _ _ 77 9 rfl B 5 i0 Tryz.underlying77 Tryz.underlying9 hi hz0 hz1 hz2 _ _ _ rfl hown s rfl (by unfold maxLen; omega) (by omega) (by omega) ?_)
  intro v' w2 hown' hgrow _
  have hlt : b < w1.heap.size := (Array.getElem?_eq_some_iff.1 hbk).1
  have hb2 : w2.heap[b]? = some (.cells #[.pointer (some ⟨b, 0, none⟩), v] 80 (0, 0)) := by
    rw [hgrow.block b hlt (fun e => hne e.symm)]
    exact hbk
  have d0 : w2.cell? ⟨b, 0, none⟩ = some (.pointer (some ⟨b, 0, none⟩)) := by rw [Lib.cell_of_heap hb2]; rfl
  have d1 : w2.cell? ⟨b, 1, none⟩ = some v := by rw [Lib.cell_of_heap hb2]; rfl
  have f1 : w2.frozen? ⟨b, 1, none⟩ = false := Lib.frozen_of_heap hb2 1
  obtain ⟨ao, n', cap, rfl⟩ : ∃ ao n' cap, v' = .slice ao n' cap := by
    rcases hown'.2 with ⟨hv, _⟩ | ⟨g, cap, cur, hv, _⟩
    · exact ⟨_, _, _, hv⟩
    · exact ⟨_, _, _, hv⟩
  go_wp2
  go_ret2
  refine ⟨rfl, Or.inr ?_, ?_⟩
  · refine Lib.BuilderAt.put (T := 80) (e := 5) hBb hb2 ?_ (by decide)
    rw [Lib.byteCells_append, List.length_append, ← Lib.strCells_eq, hlc]
    simpa [Lib.strCells_length] using hown'
  · exact (hb1.grown hgrow (by omega) (fun k hk => (hown.lt k hk).1)).setCell (p := ⟨b, 1, none⟩) hBb _
end Go.Proofs.YtjbohacllhjgmaaGreatDoor.Sc
namespace Go.Proofs.YtjbohacllhjgmaaGreatDoor.Sc
open Go.RowKit
set_option maxRecDepth 100000

set_option maxHeartbeats 1600000 in
theorem mayWord_any (s : ByteArray) (hs : s.size ≤ 1000000000000) (w : World) : Calls Tryz.prog 60 #[.string s] w fun e w' => e = .returned (.bool (isW s.data.toList)) ∧ w' = w := by
  have HWB : Hid (∀ b : UInt8, ∀ w1, Calls Tryz.prog 17 #[.int .u8 (b.toNat : Int)] w1 fun e w' => e = .returned (.bool (wB b)) ∧ w' = w1) := wordByte_any
  go_enter Tryz.func60, Tryz.ntmps60
  go_wp2
  go_loop [6] (fun i => ∃ k : Nat, k ≤ s.size ∧ i = .int .i64 k ∧ (s.data.toList.take k).all wB = true) (fun i => s.size - (intOf i).toNat)
  case atStart => exact ⟨0, Nat.zero_le _, rfl, rfl⟩
  case round =>
    obtain ⟨k, hk, rfl, hal⟩ := hrel
    have HA := hide3 hal
    clear hal
    by_cases hlt : k < s.size
    · have HWk := hide3 (HWB.out s[k])
      cases hw : wB s[k]
      · have HR : Hid (isW s.data.toList = false) := by unfold Hid isW; rw [all_bad hlt hw]; rfl
        rw [hw] at HWk
        clear hw
        go_wp2_with (go_at_call 17; refine (HWk.out _).mono ?_; rintro e w1 ⟨rfl, hw1⟩; subst hw1)
        go_ret
        exact ⟨ret_bool HR.out.symm, rfl⟩
      · have HA2 := hide3 (all_more hlt HA.out hw)
        rw [hw] at HWk
        clear hw
        go_wp2_with (go_at_call 17; refine (HWk.out _).mono ?_; rintro e w1 ⟨rfl, hw1⟩; subst hw1)
        exact ⟨⟨k + 1, by omega, by go_num, HA2.out⟩, by simp [intOf]; omega⟩
    · have hke : k = s.size := by omega
      subst hke
      have HR : Hid (isW s.data.toList = !s.toList.isEmpty) := by unfold Hid isW; rw [all_end HA.out, empty_is]; rfl
      cases he : s.toList.isEmpty
      · rw [he] at HR
        go_wp2
        go_ret
        exact ⟨ret_bool HR.out.symm, rfl⟩
      · rw [he] at HR
        go_wp2
        go_ret
        exact ⟨ret_bool HR.out.symm, rfl⟩

/-- Words that are not too long. -/
def WFit (ws : List Bs) : Prop := ws.length ≤ 1000000000 ∧ ∀ x ∈ ws, x.length ≤ 1000000000

set_option maxHeartbeats 1600000 in
theorem mayLine_any {ws : List Bs} (hf : WFit ws) {v : Value} {w : World} (hv : WordsAt w v ws) : Calls Tryz.prog 47 #[v] w fun e w' => e = .returned (.bool (isL ws)) ∧ w' = w := by
  have HMW : Hid (∀ x ∈ ws, ∀ w1, Calls Tryz.prog 60 #[.string (ba x)] w1 fun e w' => e = .returned (.bool (isW x)) ∧ w' = w1) := by
    intro x hx w1
    have := mayWord_any (ba x) (by rw [ba_size]; have := hf.2 x hx; omega) w1
    rw [ba_list] at this
    exact this
  have hlen := hf.1
  obtain ⟨ad, cap, rfl, hcap, hl⟩ := hv
  have HL := hide3 hl
  clear hl hf
  go_enter Tryz.func47, Tryz.ntmps47
  go_wp2
  go_loop [7] (fun i => ∃ k : Nat, k ≤ ws.length ∧ i = .int .i64 k ∧ (ws.take k).all isW = true) (fun i => ws.length - (intOf i).toNat)
  case atStart => exact ⟨0, Nat.zero_le _, rfl, rfl⟩
  case round =>
    obtain ⟨k, hk, rfl, hal⟩ := hrel
    have HA := hide3 hal
    clear hal
    by_cases hlt : k < ws.length
    · obtain ⟨g, o, rfl, hg, hc⟩ : ∃ g o, ad = some ⟨g, o, none⟩ ∧ g < w.heap.size ∧ ∀ i (h : i < ws.length), w.cell? ⟨g, o + i, none⟩ = some (.string (ba ws[i])) := by
        rcases HL.out with rfl | h
        · simp at hlt
        · exact h
      have hcell := hc k hlt
      have HMk := hide3 (HMW.out ws[k] (List.getElem_mem hlt))
      have htk : ws.take (k + 1) = ws.take k ++ [ws[k]] := List.take_succ_eq_append_getElem hlt
      have hmem := List.getElem_mem hlt
      clear hc
      cases hw : isW ws[k]
      · have HR : Hid (isL ws = false) := by
          unfold Hid isL
          have : ws.all isW = false := by
            rw [Bool.eq_false_iff]
            intro h
            rw [List.all_eq_true] at h
            have := h _ hmem
            rw [hw] at this; cases this
          rw [this]; rfl
        rw [hw] at HMk
        clear hw htk hmem
        generalize ba ws[k] = x at *
        go_wp2_with (go_at_call 60; refine (HMk.out _).mono ?_; rintro e w1 ⟨rfl, hw1⟩; subst hw1)
        go_ret
        exact ⟨ret_bool HR.out.symm, rfl⟩
      · have HA2 : Hid ((ws.take (k + 1)).all isW = true) := by unfold Hid; rw [htk, List.all_append, HA.out]; simp [hw]
        rw [hw] at HMk
        clear hw htk hmem
        generalize ba ws[k] = x at *
        go_wp2_with (go_at_call 60; refine (HMk.out _).mono ?_; rintro e w1 ⟨rfl, hw1⟩; subst hw1)
        exact ⟨⟨k + 1, by omega, by go_num, HA2.out⟩, by simp [intOf]; omega⟩
    · have hke : k = ws.length := by omega
      subst hke
      have HR : Hid (isL ws = decide (0 < ws.length)) := by
        unfold Hid isL
        have := HA.out
        rw [List.take_length] at this
        rw [this]
        cases ws <;> simp
      go_wp2
      go_ret
      refine ⟨ret_bool ?_, rfl⟩
      rw [HR.out]

/-- A line's words as strings.Join puts them. -/
theorem join_line {ws : List Bs} (h : ws ≠ []) : Lib.join ws [32] ++ [10] = lineT ws := by
  induction ws with
  | nil => exact absurd rfl h
  | cons x l ih =>
    cases l with
    | nil => rw [Lib.join_one]; rfl
    | cons y r =>
      have e : lineT (x :: y :: r) = x ++ [32] ++ lineT (y :: r) := rfl
      rw [e, ← ih (by simp)]
      simp [Lib.join, List.intercalate]

theorem wJoin_any {ws : List Bs} (hne : ws ≠ []) (hl : ws.length ≤ 140737488355328) (hj : (Lib.join ws [32]).length ≤ 140737488355328) {v : Value} {w : World} (hv : WordsAt w v ws) :
    Calls Tryz.prog 49 #[v, .string ⟨#[32]⟩] w fun e w' => e = .returned (.string (ba (Lib.join ws [32]))) ∧ Below w.heap.size w w' := by
  obtain ⟨ad, cap, rfl, hcap, hh⟩ := hv
  obtain ⟨g, o, rfl, hg, hc⟩ := hh.resolve_left hne
  have e1 : (ws.map ba).map (fun x => x.data.toList) = ws := by
    rw [List.map_map]
    conv => rhs; rw [← List.map_id ws]
    exact List.map_congr_left fun x _ => ba_list x
  have e2 : (⟨#[32]⟩ : ByteArray).data.toList = [32] := rfl
  have := Tryz.strings_Join g o cap (ws.map ba) ⟨#[32]⟩ w (fun j x hx => by
    rw [List.getElem?_map] at hx
    by_cases hj : j < ws.length
    · rw [List.getElem?_eq_getElem hj] at hx
      simp only [Option.map_some, Option.some.injEq] at hx
      rw [← hx]
      exact hc j hj
    · rw [List.getElem?_eq_none (by omega)] at hx
      cases hx) hg (by rw [List.length_map]; exact hl) (by rw [List.length_map]; exact hcap) (by rw [e1, e2]; exact hj)
  rw [e1, e2, List.length_map] at this
  exact this
end Go.Proofs.YtjbohacllhjgmaaGreatDoor.Sc
