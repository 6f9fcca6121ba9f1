/- Lk7, Lk8, ScPl2, ScNu1, ScNu2, laid in one text. -/
import Derived.Lib.AtoiAllCases
import Derived.Lib.ItoaMem
import Derived.Test.YtjbohacllhjgmaaGreatDoorShelfB
import Derived.Lib.LaidTab
import Derived.Lib.AppendIntMem
import Derived.Test.YtjbohacllhjgmaaGreatDoorMg04
namespace Go.Proofs.YtjbohacllhjgmaaGreatDoor
open Go.RowKit
open Sc (Bs ba isW isL wB lineT textT nameA)
set_option maxRecDepth 100000

def nodeL (n : Nd) : List Bs := [[110, 111, 100, 101], n.nm.data.toList, bsV n.a n.b n.c]
/-- The lines of nodes behind the first one; of all nodes; of a graph. -/
def restL (r : List Nd) : List (List Bs) := r.flatMap fun n => nodeL n :: listL n
def nodesL : List Nd → List (List Bs)
  | [] => []
  | n :: r => listL n ++ restL r
def headL : List (List Bs) := [[[108, 111, 99, 107]], [[114, 111, 111, 116]]]
def linesG (G : List Nd) : List (List Bs) := headL ++ nodesL G
def textG (G : List Nd) : ByteArray := ba (textT (linesG G))

theorem restL_snoc (r : List Nd) (n : Nd) : restL (r ++ [n]) = restL r ++ (nodeL n :: listL n) := by simp [restL]
theorem nodesL_first (n : Nd) : nodesL [n] = listL n := by simp [nodesL, restL]
theorem nodesL_take {G : List Nd} {k : Nat} (hk : k + 1 < G.length) : nodesL (G.take (k + 1 + 1)) = nodesL (G.take (k + 1)) ++ (nodeL G[k + 1] :: listL G[k + 1]) := by
  cases G with
  | nil => cases hk
  | cons n r =>
    have hk' : k < r.length := by simpa using hk
    have e : restL (r.take (k + 1)) = restL (r.take k) ++ (nodeL r[k] :: listL r[k]) := by rw [List.take_succ_eq_append_getElem hk', restL_snoc]
    simp [nodesL, e]
theorem nodesL_one {G : List Nd} (hk : 0 < G.length) : nodesL (G.take (0 + 1)) = listL G[0] := by
  cases G with
  | nil => cases hk
  | cons n r => simp [nodesL, restL]

theorem name_isW {s : Bs} (h : nameA s = true) : isW s = true := by
  unfold nameA at h
  rw [Bool.and_eq_true, Bool.and_eq_true] at h
  have h1 : s.all wB = true := List.all_eq_true.2 fun b hb => by
    have := List.all_eq_true.1 h.1.2 b hb
    unfold Sc.nmB Sc.ltB Sc.dgB at this
    unfold wB
    simp at this ⊢
    omega
  cases s with
  | nil => simp [Sc.headB] at h
  | cons b r => unfold isW; rw [h1]; rfl
theorem name_len {s : Bs} (h : nameA s = true) : s.length ≤ 16 := by
  unfold nameA at h
  simp only [Bool.and_eq_true, decide_eq_true_eq] at h
  exact h.2
theorem itoa_isW {n : Int} (h0 : 0 ≤ n) : isW (Lib.itoa n) = true := by
  rw [itoa_of h0]
  refine Sc.isW_of (List.all_eq_true.2 fun b hb => ?_) (dec_ne _)
  have := dec_digits _ b hb
  unfold wB
  simp
  omega
theorem itoa_len {n : Int} (h0 : 0 ≤ n) (h1 : n ≤ 999) : (Lib.itoa n).length ≤ 3 := by
  have := itoa_three h0 h1
  rwa [bytes_size] at this
theorem bsV_isW {a b c : Int} (h : mayV a b c = true) : isW (bsV a b c) = true := by
  unfold bsV
  rw [text_list h]
  obtain ⟨a0, a1, b0, b1, c0, c1⟩ := may_all h
  refine Sc.isW_of ?_ (by simp)
  have dg : ∀ {n : Int}, 0 ≤ n → (Lib.itoa n).all wB = true := fun {n} h0 => by
    have := itoa_isW h0
    unfold isW at this
    rw [Bool.and_eq_true] at this
    exact this.1
  rw [List.all_append, List.all_cons, List.all_append, List.all_cons, dg a0, dg b0, dg c0]
  decide
theorem bsV_len {a b c : Int} (h : mayV a b c = true) : (bsV a b c).length ≤ 11 := by
  unfold bsV
  rw [text_list h]
  obtain ⟨a0, a1, b0, b1, c0, c1⟩ := may_all h
  have za := itoa_len a0 a1
  have zb := itoa_len b0 b1
  have zc := itoa_len c0 c1
  simp only [List.length_append, List.length_cons]
  omega

/-- Lines that are lines, of at most so many bytes together. -/
def OkLn (k : Nat) (L : List (List Bs)) : Prop := L.all isL = true ∧ (textT L).length ≤ k
theorem OkLn.app {k m : Nat} {L M : List (List Bs)} (h : OkLn k L) (h' : OkLn m M) : OkLn (k + m) (L ++ M) := by
  refine ⟨by rw [List.all_append, h.1, h'.1]; rfl, ?_⟩
  have : textT (L ++ M) = textT L ++ textT M := by simp [textT]
  have h1 := h.2
  have h2 := h'.2
  rw [this, List.length_append]
  omega
theorem OkLn.more {k m : Nat} {L : List (List Bs)} (h : OkLn k L) (hk : k ≤ m) : OkLn m L := ⟨h.1, Nat.le_trans h.2 hk⟩
theorem line3 {x y z : Bs} (hx : isW x = true) (hy : isW y = true) (hz : isW z = true) {k : Nat} (hl : x.length + (y.length + z.length) + 3 ≤ k) : isL [x, y, z] = true ∧ (lineT [x, y, z]).length ≤ k := by
  refine ⟨by unfold isL; simp [hx, hy, hz], ?_⟩
  simp only [lineT, List.length_append, List.length_cons, List.length_nil]
  omega
theorem OkLn.of {α : Type} {k : Nat} {f : α → List Bs} : ∀ {L : List α}, (∀ x ∈ L, isL (f x) = true ∧ (lineT (f x)).length ≤ k) → OkLn (k * L.length) (L.map f)
  | [], _ => ⟨rfl, by simp [textT]⟩
  | x :: L, h => by
    have h1 := h x (by simp)
    have ih := OkLn.of (f := f) (L := L) fun y hy => h y (by simp [hy])
    have h2 := h1.2
    have h3 := ih.2
    refine ⟨by rw [List.map_cons, List.all_cons, h1.1, ih.1]; rfl, ?_⟩
    rw [List.map_cons, Sc.textT_cons, List.length_append, List.length_cons, Nat.mul_succ]
    omega

/-- What mayP and mayE say of each. -/
theorem mayP_all : ∀ {q : ByteArray} {L : List Pn}, mayP q L = true → ∀ p ∈ L, nameA p.nm.data.toList = true ∧ mayV p.a p.b p.c = true
  | _, [], _, p, hp => by cases hp
  | q, x :: r, h, p, hp => by
    unfold mayP folB at h
    simp only [Bool.and_eq_true] at h
    rcases List.mem_cons.1 hp with rfl | hp
    · exact ⟨h.1.1.1, h.1.2⟩
    · exact mayP_all h.2 p hp
theorem mayE_all {n : Int} : ∀ {q : ByteArray} {L : List Eg}, mayE n q L = true → ∀ e ∈ L, nameA e.lb.data.toList = true ∧ 1 ≤ e.to ∧ e.to < n
  | _, [], _, e, he => by cases he
  | q, x :: r, h, e, he => by
    unfold mayE folB at h
    simp only [Bool.and_eq_true, decide_eq_true_eq] at h
    rcases List.mem_cons.1 he with rfl | he
    · exact ⟨h.1.1.1.1, h.1.1.2, h.1.2⟩
    · exact mayE_all h.2 e he
/-- A node's lists, as they may be. -/
def NdOk (n : Nd) : Prop := (n.cx.length ≤ 128 ∧ ∀ p ∈ n.cx, nameA p.nm.data.toList = true ∧ mayV p.a p.b p.c = true) ∧ (n.ed.length ≤ 128 ∧ ∀ e ∈ n.ed, nameA e.lb.data.toList = true ∧ 0 ≤ e.to ∧ e.to ≤ 999)
theorem ndOk_list {n : Nd} (h : NdOk n) : OkLn 7424 (listL n) := by
  have hp : OkLn (34 * n.cx.length) (n.cx.map pinL) := OkLn.of fun p hp => by
    obtain ⟨h1, h2⟩ := h.1.2 p hp
    have k1 := name_len h1
    have k2 := bsV_len h2
    exact line3 (by decide) (name_isW h1) (bsV_isW h2) (by rw [show ([119, 105, 116, 104] : Bs).length = 4 from rfl]; omega)
  have he : OkLn (24 * n.ed.length) (n.ed.map edgL) := OkLn.of fun e he => by
    obtain ⟨h1, h2, h3⟩ := h.2.2 e he
    have k1 := name_len h1
    have k2 := itoa_len h2 h3
    exact line3 (by decide) (name_isW h1) (itoa_isW h2) (by rw [show ([116, 111] : Bs).length = 2 from rfl]; omega)
  have h1 := h.1.1
  have h2 := h.2.1
  exact (hp.app he).more (by omega)
theorem mayG_nodes {G : List Nd} (h : mayG G = true) : G.length ≤ 128 ∧ 0 < G.length ∧ (∀ n ∈ G, NdOk n) ∧ ∀ i (hi : i < G.length), 0 < i → nameA G[i].nm.data.toList = true ∧ mayV G[i].a G[i].b G[i].c = true := by
  cases G with
  | nil => cases h
  | cons n r =>
    unfold mayG at h
    simp only [Bool.and_eq_true, decide_eq_true_eq, List.all_eq_true] at h
    obtain ⟨⟨⟨h1, h2⟩, h3⟩, h4⟩ := h
    have cx : ∀ m ∈ n :: r, m.cx.length ≤ 128 ∧ ∀ p ∈ m.cx, nameA p.nm.data.toList = true ∧ mayV p.a p.b p.c = true := fun m hm => by
      rcases List.mem_cons.1 hm with rfl | hm
      · unfold firstB at h2
        simp only [Bool.and_eq_true, decide_eq_true_eq] at h2
        have : m.cx = [] := List.eq_nil_of_length_eq_zero h2.2
        rw [this]
        exact ⟨by simp, fun p hp => by cases hp⟩
      · have := h3 m hm
        unfold laterB mayCx at this
        simp only [Bool.and_eq_true, decide_eq_true_eq] at this
        exact ⟨this.2.1, mayP_all this.2.2⟩
    refine ⟨h1, by simp, fun m hm => ⟨cx m hm, ?_⟩, fun i hi h0 => ?_⟩
    · have := h4 m hm
      unfold mayEd at this
      simp only [Bool.and_eq_true, decide_eq_true_eq] at this
      refine ⟨this.1, fun e he => ?_⟩
      obtain ⟨k1, k2, k3⟩ := mayE_all this.2 e he
      exact ⟨k1, by omega, by omega⟩
    · cases i with
      | zero => cases h0
      | succ i =>
        have hi' : i < r.length := by simpa using hi
        have := h3 r[i] (List.getElem_mem hi')
        unfold laterB at this
        simp only [Bool.and_eq_true] at this
        exact this.1
theorem rest_ok : ∀ {r : List Nd}, (∀ n ∈ r, NdOk n ∧ nameA n.nm.data.toList = true ∧ mayV n.a n.b n.c = true) → OkLn (7458 * r.length) (restL r)
  | [], _ => ⟨rfl, by simp [restL, textT]⟩
  | n :: r, h => by
    obtain ⟨h1, h2, h3⟩ := h n (by simp)
    have i1 := rest_ok (r := r) fun m hm => h m (by simp [hm])
    have k1 := ndOk_list h1
    have e : restL (n :: r) = ([n].map nodeL ++ listL n) ++ restL r := by simp [restL]
    have hn := name_len h2
    have hb := bsV_len h3
    have hl : OkLn (34 * [n].length) ([n].map nodeL) := OkLn.of fun x hx => by
      obtain rfl := List.mem_singleton.1 hx
      exact line3 (by decide) (name_isW h2) (bsV_isW h3) (by rw [show ([110, 111, 100, 101] : Bs).length = 4 from rfl]; omega)
    rw [e]
    refine ((hl.app k1).app i1).more ?_
    simp only [List.length_cons, List.length_nil]
    omega
/-- The lines of a graph that may be are lines, and not too long. -/
theorem linesG_ok {G : List Nd} (h : mayG G = true) : (linesG G).all isL = true ∧ (textT (linesG G)).length ≤ 1048576 := by
  obtain ⟨h1, h2, h3, h4⟩ := mayG_nodes h
  have hh : OkLn 10 headL := ⟨by decide, by decide⟩
  cases G with
  | nil => cases h2
  | cons n r =>
    have k1 := ndOk_list (h3 n (by simp))
    have i1 := rest_ok (r := r) fun m hm => by
      obtain ⟨i, hi, rfl⟩ := List.getElem_of_mem hm
      have := h4 (i + 1) (by simpa using hi) (by omega)
      exact ⟨h3 _ (by simp), by simpa using this⟩
    have hall : OkLn (10 + (7424 + 7458 * r.length)) (linesG (n :: r)) := OkLn.app hh (OkLn.app k1 i1)
    refine ⟨hall.1, Nat.le_trans hall.2 ?_⟩
    simp only [List.length_cons] at h1
    omega
end Go.Proofs.YtjbohacllhjgmaaGreatDoor
namespace Go.Proofs.YtjbohacllhjgmaaGreatDoor
open Go.RowKit
open Sc (KeepP hide3 keepBelow Bs ba LL OwnW strs isW isL textT)
set_option maxRecDepth 100000

theorem LU.trans {w0 w1 w2 w3 : World} {vl v u : Value} {ps qs : List (Value × List Bs)} (h : LU w0 w1 vl v ps w2) (k : LU w0 w2 v u qs w3) : LU w0 w1 vl u qs w3 := by
  refine ⟨k.1, k.2.1, ⟨k.2.2.1.os.trans h.2.2.1.os, k.2.2.1.tape.trans h.2.2.1.tape, k.2.2.1.output.trans h.2.2.1.output, Nat.le_trans h.2.2.1.size k.2.2.1.size, fun i hi hn => ?_⟩, ?_⟩
  · refine (k.2.2.1.block i (Nat.lt_of_lt_of_le hi h.2.2.1.size) fun e => ?_).trans (h.2.2.1.block i hi hn)
    rcases h.2.2.2 with e2 | ⟨j, e2, hj⟩
    · exact hn (by rw [← e2]; exact e)
    · rw [e2] at e
      have := Option.some.inj e
      omega
  · rcases k.2.2.2 with e | ⟨j, e, hj⟩
    · rw [e]; exact h.2.2.2
    · exact Or.inr ⟨j, e, Nat.le_trans h.2.2.1.size hj⟩

/-- The first two lines, new. -/
theorem LL.two {w0 w : World} (hw : w0.heap.size ≤ w.heap.size) : LL (((w.alloc (.cells #[.string ⟨#[108, 111, 99, 107]⟩] 9)).alloc (.cells #[.string ⟨#[114, 111, 111, 116]⟩] 9)).alloc (.cells #[.slice (some ⟨w.heap.size, 0, none⟩) 1 1, .slice (some ⟨w.heap.size + 1, 0, none⟩) 1 1] 37)) w0.heap.size (.slice (some ⟨w.heap.size + 2, 0, none⟩) 2 2)
    [(.slice (some ⟨w.heap.size, 0, none⟩) 1 1, [[108, 111, 99, 107]]), (.slice (some ⟨w.heap.size + 1, 0, none⟩) 1 1, [[114, 111, 111, 116]])] := by
  have b0 : (((w.alloc (.cells #[.string ⟨#[108, 111, 99, 107]⟩] 9)).alloc (.cells #[.string ⟨#[114, 111, 111, 116]⟩] 9)).alloc (.cells #[.slice (some ⟨w.heap.size, 0, none⟩) 1 1, .slice (some ⟨w.heap.size + 1, 0, none⟩) 1 1] 37)).heap[w.heap.size]? = some (.cells #[.string ⟨#[108, 111, 99, 107]⟩] 9 (0, 0)) := by
    show ((((w.heap.push _).push _).push _))[w.heap.size]? = _
    rw [Array.getElem?_push, if_neg (by simp; omega), Array.getElem?_push, if_neg (by simp), Array.getElem?_push, if_pos rfl]
  have b1 : (((w.alloc (.cells #[.string ⟨#[108, 111, 99, 107]⟩] 9)).alloc (.cells #[.string ⟨#[114, 111, 111, 116]⟩] 9)).alloc (.cells #[.slice (some ⟨w.heap.size, 0, none⟩) 1 1, .slice (some ⟨w.heap.size + 1, 0, none⟩) 1 1] 37)).heap[w.heap.size + 1]? = some (.cells #[.string ⟨#[114, 111, 111, 116]⟩] 9 (0, 0)) := by
    show ((((w.heap.push _).push _).push _))[w.heap.size + 1]? = _
    rw [Array.getElem?_push, if_neg (by simp), Array.getElem?_push, if_pos (by simp)]
  have b2 : (((w.alloc (.cells #[.string ⟨#[108, 111, 99, 107]⟩] 9)).alloc (.cells #[.string ⟨#[114, 111, 111, 116]⟩] 9)).alloc (.cells #[.slice (some ⟨w.heap.size, 0, none⟩) 1 1, .slice (some ⟨w.heap.size + 1, 0, none⟩) 1 1] 37)).heap[w.heap.size + 2]? = some (.cells #[.slice (some ⟨w.heap.size, 0, none⟩) 1 1, .slice (some ⟨w.heap.size + 1, 0, none⟩) 1 1] 37 (0, 0)) := by
    show ((((w.heap.push _).push _).push _))[w.heap.size + 2]? = _
    rw [Array.getElem?_push, if_pos (by simp)]
  refine ⟨⟨rfl, Or.inr ⟨w.heap.size + 2, 2, _, rfl, by omega, b2, by simp, by decide, rfl, rfl⟩⟩, fun p hp => ?_, ?_, fun p hp => ?_, fun e => by cases e⟩
  · simp only [List.mem_cons, List.not_mem_nil, or_false] at hp
    rcases hp with rfl | rfl
    · exact ⟨⟨rfl, Or.inr ⟨w.heap.size, 1, _, rfl, hw, b0, by simp, by decide, rfl, rfl⟩⟩, by simp⟩
    · exact ⟨⟨rfl, Or.inr ⟨w.heap.size + 1, 1, _, rfl, by omega, b1, by simp, by decide, rfl, rfl⟩⟩, by simp⟩
  · simp [Value.ownBlock]
  · simp only [List.mem_cons, List.not_mem_nil, or_false] at hp
    rcases hp with rfl | rfl <;> simp [Value.ownBlock]

theorem node_cells (n : Nd) : (#[.string ⟨#[110, 111, 100, 101]⟩, .string n.nm, .string (textV n.a n.b n.c)] : Array Value).toList = strs (nodeL n) := by
  simp only [strs, nodeL, bsV, List.map_cons, List.map_nil, Sc.ba_of]
  rfl

/-- What Print answers. -/
def prT (G : List Nd) : ByteArray := if mayG G = true then textG G else ⟨#[]⟩
def prE (G : List Nd) : Int := if mayG G = true then 0 else 33

set_option maxHeartbeats 12800000 in
theorem gPrint_any {G : List Nd} {v : Value} {w : World} (h : NodesAt w v G) (hs : SpellAll w) :
    Calls Tryz.prog 16 #[.agg #[v]] w fun e w' => e = .returned (.tuple #[.string (prT G), .int .i64 (prE G)]) ∧ Below w.heap.size w w' := by
  have HMY : Hid (∀ W, Below w.heap.size w W → Calls Tryz.prog 10 #[.agg #[v]] W fun e w' => e = .returned (.bool (mayG G)) ∧ Below W.heap.size W w') := fun W hb => gMay_any (h.below hb)
  have HB0 : Hid (Below w.heap.size w (w.alloc (.cells #[v] 24)) ∧ BxG (w.alloc (.cells #[v] 24)) w.heap.size v) := ⟨boxB _ _, BxG.new rfl _⟩
  have HKB : Hid (KeepP fun W => Below w.heap.size w W ∧ BxG W w.heap.size v) := (keepBelow w).and (keepBxG _ _)
  have HNO : Hid (mayG G = false → prT G = ⟨#[]⟩ ∧ prE G = 33) := fun h => by unfold prT prE; rw [if_neg (by rw [h]; decide), if_neg (by rw [h]; decide)]; exact ⟨rfl, rfl⟩
  have HYE : Hid (mayG G = true → prT G = textG G ∧ prE G = 0) := fun h => by unfold prT prE; rw [if_pos h, if_pos h]; exact ⟨rfl, rfl⟩
  have HND := hide3 h
  obtain ⟨ad, cap, rfl, hcap, _⟩ := h
  cases hm : mayG G
  · obtain ⟨e1, e2⟩ := HNO.out hm
    rw [hm] at HMY
    rw [e1, e2]
    clear e1 e2 hm HNO HYE
    go_enter Tryz.func16, Tryz.ntmps16
    go_wp2_with (go_at_call 10; refine (HMY.out _ HB0.out.1).mono ?_; rintro e w2 ⟨rfl, ok⟩; have HB2 := hide3 (below_then HB0.out.1 ok); clear ok)
    go_ret2
    exact ⟨rfl, HB2.out⟩
  · obtain ⟨e1, e2⟩ := HYE.out hm
    obtain ⟨g1, g2, g3, g4⟩ := mayG_nodes hm
    have HG3 := hide3 g3
    have HG4 := hide3 g4
    have HLO := hide3 (linesG_ok hm)
    have HSP := hide3 hs
    rw [hm] at HMY
    rw [e1, e2]
    clear e1 e2 hm HNO HYE g3 g4 hs
    go_enter Tryz.func16, Tryz.ntmps16
    go_wp2_with (go_at_call 10; refine (HMY.out _ HB0.out.1).mono ?_; rintro e w2 ⟨rfl, ok⟩; have HB2 := hide3 (HKB.out _ _ HB0.out ok); obtain ⟨y0, y1⟩ := HB2.out.2; have y0' := ((below_then (below_then (boxB w2 (.cells #[.string ⟨#[108, 111, 99, 107]⟩] 9)) (boxB _ (.cells #[.string ⟨#[114, 111, 111, 116]⟩] 9))) (boxB _ (.cells #[.slice (some ⟨w2.heap.size, 0, none⟩) 1 1, .slice (some ⟨w2.heap.size + 1, 0, none⟩) 1 1] 37))).cell (p := ⟨w.heap.size, 0, none⟩) y1).trans y0; clear ok)
    have HSA : Hid (LU w (((w2.alloc (.cells #[.string ⟨#[108, 111, 99, 107]⟩] 9)).alloc (.cells #[.string ⟨#[114, 111, 111, 116]⟩] 9)).alloc (.cells #[.slice (some ⟨w2.heap.size, 0, none⟩) 1 1, .slice (some ⟨w2.heap.size + 1, 0, none⟩) 1 1] 37)) (.slice (some ⟨w2.heap.size + 2, 0, none⟩) 2 2) (.slice (some ⟨w2.heap.size + 2, 0, none⟩) 2 2) [(Value.slice (some ⟨w2.heap.size, 0, none⟩) 1 1, [[108, 111, 99, 107]]), (Value.slice (some ⟨w2.heap.size + 1, 0, none⟩) 1 1, [[114, 111, 111, 116]])] (((w2.alloc (.cells #[.string ⟨#[108, 111, 99, 107]⟩] 9)).alloc (.cells #[.string ⟨#[114, 111, 111, 116]⟩] 9)).alloc (.cells #[.slice (some ⟨w2.heap.size, 0, none⟩) 1 1, .slice (some ⟨w2.heap.size + 1, 0, none⟩) 1 1] 37))) := LU.start (LL.two HB2.out.1.size) (below_then HB2.out.1 (below_then (below_then (boxB _ _) (boxB _ _)) (boxB _ _)))
    obtain ⟨W1, hW1⟩ : ∃ W1, W1 = (((w2.alloc (.cells #[.string ⟨#[108, 111, 99, 107]⟩] 9)).alloc (.cells #[.string ⟨#[114, 111, 111, 116]⟩] 9)).alloc (.cells #[.slice (some ⟨w2.heap.size, 0, none⟩) 1 1, .slice (some ⟨w2.heap.size + 1, 0, none⟩) 1 1] 37)) := ⟨_, rfl⟩
    obtain ⟨V0, hV0⟩ : ∃ V0, V0 = Value.slice (some ⟨w2.heap.size + 2, 0, none⟩) 2 2 := ⟨_, rfl⟩
    obtain ⟨PS, hPS⟩ : ∃ PS : List (Value × List Bs), PS = [(Value.slice (some ⟨w2.heap.size, 0, none⟩) 1 1, [[108, 111, 99, 107]]), (Value.slice (some ⟨w2.heap.size + 1, 0, none⟩) 1 1, [[114, 111, 111, 116]])] := ⟨_, rfl⟩
    have HSB : Hid (LU w W1 V0 (.slice (some ⟨w2.heap.size + 2, 0, none⟩) 2 2) PS (((w2.alloc (.cells #[.string ⟨#[108, 111, 99, 107]⟩] 9)).alloc (.cells #[.string ⟨#[114, 111, 111, 116]⟩] 9)).alloc (.cells #[.slice (some ⟨w2.heap.size, 0, none⟩) 1 1, .slice (some ⟨w2.heap.size + 1, 0, none⟩) 1 1] 37))) := by unfold Hid; rw [hW1, hV0, hPS]; exact HSA.out
    have HPL : Hid (PS.length = 2 ∧ PS.map (·.2) = headL) := by unfold Hid; rw [hPS]; exact ⟨rfl, rfl⟩
    clear HSA hW1 hV0 hPS y0 y0'
    go_loopw [4, 16] (fun u i wr => ∃ (k : Nat) (qs : List (Value × List Bs)), k ≤ G.length ∧ i = .int .i64 k ∧ qs.length ≤ 300 * k ∧ LU w W1 V0 u (PS ++ qs) wr ∧ qs.map (·.2) = nodesL (G.take k)) (fun _ i _ => G.length - (intOf i).toNat)
    case atStart => exact ⟨0, [], Nat.zero_le _, rfl, by simp, by rw [List.append_nil]; exact HSB.out, rfl⟩
    case round =>
      obtain ⟨k, qs, hk, rfl, hql, hlu, hqs⟩ := hrel
      have HLU := hide3 hlu
      have HQS := hide3 hqs
      have HLN : Hid ((PS ++ qs).length ≤ 100000) := by unfold Hid; have := HPL.out.1; rw [List.length_append]; omega
      have HQL := hide3 hql
      clear hlu hqs hql
      by_cases hlt : k < G.length
      · have hki : (k : Int) < (G.length : Int) := by omega
        obtain ⟨ad', cap', hsl, _, hcs⟩ := HND.out
        simp only [Value.slice.injEq, true_and] at hsl
        obtain ⟨hsl, hcc⟩ := hsl
        rw [← hsl] at hcs
        clear hsl hcc
        obtain ⟨g, o, rfl, hg, hcs⟩ : ∃ g o, ad = some ⟨g, o, none⟩ ∧ g < w.heap.size ∧ ∀ i (h : i < G.length), ∃ vc ve, NdIn w g (o + i * 6) G[i] vc ve := by
          rcases hcs with h | h
          · rw [h] at hlt; exact absurd hlt (Nat.not_lt_zero _)
          · exact h
        obtain ⟨vc, ve, ⟨c0, c1, c2, c3, c4, c5⟩, ⟨hp, he⟩, _⟩ := hcs k hlt
        obtain ⟨ac, cc, rfl⟩ := hp.sl
        obtain ⟨ae, ce, rfl⟩ := he.sl
        have d0 := (HLU.out.2.1.cell (p := ⟨g, o + k * 6, none⟩) hg).trans c0
        have d1 := (HLU.out.2.1.cell (p := ⟨g, o + k * 6 + 1, none⟩) hg).trans c1
        have d2 := (HLU.out.2.1.cell (p := ⟨g, o + k * 6 + 2, none⟩) hg).trans c2
        have d3 := (HLU.out.2.1.cell (p := ⟨g, o + k * 6 + 3, none⟩) hg).trans c3
        have d4 := (HLU.out.2.1.cell (p := ⟨g, o + k * 6 + 4, none⟩) hg).trans c4
        have d5 := (HLU.out.2.1.cell (p := ⟨g, o + k * 6 + 5, none⟩) hg).trans c5
        have hnd := HG3.out _ (List.getElem_mem hlt)
        have HVV : Hid (0 < k → mayV G[k].a G[k].b G[k].c = true) := fun h0 => (HG4.out k hlt h0).2
        have HT0 : Hid (k = 0 → nodesL (G.take (k + 1)) = listL G[k]) := fun h0 => by subst h0; exact nodesL_one hlt
        have HT1 : Hid (0 < k → nodesL (G.take (k + 1)) = nodesL (G.take k) ++ (nodeL G[k] :: listL G[k])) := fun h0 => by
          obtain ⟨j, rfl⟩ : ∃ j, k = j + 1 := ⟨k - 1, by omega⟩
          exact nodesL_take hlt
        have HLL2 : Hid ((listL G[k]).length ≤ 256) := by
          unfold Hid
          have h1 := hnd.1.1
          have h2 := hnd.2.1
          simp [listL]
          omega
        generalize G[k] = m at *
        have HAP : Hid (∀ W vl ps, Below w.heap.size w W → LL W w.heap.size vl ps → ps.length ≤ 500000 → Calls Tryz.prog 32 #[vl, .agg #[.string m.nm, .int .i64 m.a, .int .i64 m.b, .int .i64 m.c, .slice ac m.cx.length cc, .slice ae m.ed.length ce]] W fun e w' => ∃ v qs, e = .returned v ∧ LU w W vl v (ps ++ qs) w' ∧ qs.map (·.2) = listL m) := fun W vl ps hb hll hl => appendLists_any hb hll hp he HSP.out (fun p hp => (hnd.1.2 p hp).2) (fun e he => (hnd.2.2 e he).2) hl (by have := hnd.1.1; omega) (by have := hnd.2.1; omega)
        have HLB : Hid (LU w W1 V0 u4 (PS ++ qs) (wr.alloc (.cells #[.string m.nm, .int .i64 m.a, .int .i64 m.b, .int .i64 m.c, .slice ac m.cx.length cc, .slice ae m.ed.length ce] 43))) := HLU.out.below (boxB _ _)
        have HBX : Hid (BxNd (wr.alloc (.cells #[.string m.nm, .int .i64 m.a, .int .i64 m.b, .int .i64 m.c, .slice ac m.cx.length cc, .slice ae m.ed.length ce] 43)) wr.heap.size m (.slice ac m.cx.length cc) (.slice ae m.ed.length ce)) := BxNd.new rfl _ _ _
        have hne : u4.ownBlock ≠ some wr.heap.size := fun e => by have := (World.ownsRow.lt HLU.out.1.1 _ e).2; omega
        have HNE := hide3 hne
        clear hcs c0 c1 c2 c3 c4 c5 hp he hnd hne
        by_cases hk0 : k = 0
        · have HTT := hide3 (HT0.out hk0)
          have hgt : decide ((0 : Int) < (k : Int)) = false := decide_eq_false (by omega)
          have hgt2 : decide (0 < k) = false := decide_eq_false (by omega)
          have hgt3 : ¬ 0 < k := by omega
          have HQ0 : Hid (qs.length = 0) := by have := HQL.out; unfold Hid; omega
          clear HT0 HT1 HVV hk0
          go_wp2_with (go_at_call 32; refine (HAP.out _ _ _ HLB.out.2.1 HLB.out.1 (Nat.le_trans HLN.out (by decide))).mono ?_; rintro e w5 ⟨v5, rs, rfl, hu5, hq5⟩; have HU5 := hide3 (HLB.out.trans hu5); have HQ5 := hide3 hq5; clear hu5 hq5)
          refine ⟨⟨k + 1, qs ++ rs, by omega, by go_num, ?_, by rw [← List.append_assoc]; exact HU5.out, ?_⟩, by simp [intOf]; omega⟩
          · have h1 := HLL2.out
            have h2 := congrArg List.length HQ5.out
            rw [List.length_map] at h2
            have h3 := HQL.out
            rw [List.length_append]
            omega
          · rw [List.map_append, HQ5.out, HTT.out, List.eq_nil_of_length_eq_zero HQ0.out]
            rfl
        · have HTT := hide3 (HT1.out (by omega))
          have hgt : decide ((0 : Int) < (k : Int)) = true := decide_eq_true (by omega)
          have hgt2 : (0 : Int) < (k : Int) := by omega
          have HPV : Hid (∀ W, Below w.heap.size w W → Calls Tryz.prog 31 #[.agg #[.int .i64 m.a, .int .i64 m.b, .int .i64 m.c]] W fun e w' => e = .returned (.string (textV m.a m.b m.c)) ∧ Below W.heap.size W w') := fun W hb => HSP.out.print (HVV.out (by omega)) W hb
          have HLC : Hid (LU w W1 V0 u4 (PS ++ qs) (wr.alloc (.cells #[.string m.nm, .int .i64 m.a, .int .i64 m.b, .int .i64 m.c, .slice ac m.cx.length cc, .slice ae m.ed.length ce] 43)).drew) := HLB.out.below (Below.refl _ _).drew
          have HBY : Hid (BxNd (wr.alloc (.cells #[.string m.nm, .int .i64 m.a, .int .i64 m.b, .int .i64 m.c, .slice ac m.cx.length cc, .slice ae m.ed.length ce] 43)).drew wr.heap.size m (.slice ac m.cx.length cc) (.slice ae m.ed.length ce)) := (keepBxNd _ _ _ _).drew HBX.out
          clear HT0 HT1 HVV
          go_wp2_with fail
          go_region_held3 (fun w' => w'.cell? ⟨wr.heap.size, 0, none⟩ = some (.string m.nm) ∧ w'.cell? ⟨wr.heap.size, 1, none⟩ = some (.int .i64 m.a) ∧ w'.cell? ⟨wr.heap.size, 2, none⟩ = some (.int .i64 m.b) ∧ w'.cell? ⟨wr.heap.size, 3, none⟩ = some (.int .i64 m.c)) (go_keep)
            (first
              | (go_at_call 31; refine (HPV.out _ HLC.out.2.1).mono ?_; rintro e w3 ⟨rfl, ok⟩; have HL3 := hide3 (HLC.out.below ok); obtain ⟨⟨q0, q1, q2, q3, q4, q5⟩, q6⟩ := keepBxNd _ _ _ _ _ _ HBY.out ok; clear ok)
              | (refine step_line (w0 := w) (w1 := W1) (vl := V0) (v := u4) (ps := PS ++ qs) rfl (.tmp 23) (.tmp 30) rfl rfl HL3.out (nodeL m) rfl _ (node_cells m) rfl rfl rfl (Nat.le_trans HLN.out (by decide)) ?_; intro v4 w4 hu4 hfr; have HU4 := hide3 hu4; have r0 := (hfr _ 0 q6 HNE.out).trans q0; have r1 := (hfr _ 1 q6 HNE.out).trans q1; have r2 := (hfr _ 2 q6 HNE.out).trans q2; have r3 := (hfr _ 3 q6 HNE.out).trans q3; have r4 := (hfr _ 4 q6 HNE.out).trans q4; have r5 := (hfr _ 5 q6 HNE.out).trans q5; clear hu4 hfr q0 q1 q2 q3 q4 q5))
          all_goals go_wp2_with (go_at_call 32; refine (HAP.out _ _ _ HU4.out.2.1 HU4.out.1 (by have := HLN.out; rw [List.length_append]; simp at this ⊢; omega)).mono ?_; rintro e w5 ⟨v5, rs, rfl, hu5, hq5⟩; have HU5 := hide3 (HU4.out.trans hu5); have HQ5 := hide3 hq5; clear hu5 hq5)
          all_goals
            refine ⟨⟨k + 1, qs ++ ((_, nodeL m) :: rs), by omega, by go_num, ?_, (by have := HU5.out; rw [List.append_assoc, List.append_assoc] at this; exact this), ?_⟩, by simp [intOf]; omega⟩
            · have h1 := HLL2.out
              have h2 := congrArg List.length HQ5.out
              rw [List.length_map] at h2
              have h3 := HQL.out
              rw [List.length_append, List.length_cons]
              omega
            · rw [List.map_append, List.map_cons, HQ5.out, HTT.out, HQS.out]
      · obtain rfl : k = G.length := by omega
        rw [List.take_length] at HQS
        have HLA : Hid (Sc.LinesAt wr u4 (linesG G)) := by
          have := HLU.out.1.at
          rw [List.map_append, HPL.out.2, HQS.out] at this
          exact this
        have HJN : Hid (Calls Tryz.prog 33 #[u4] wr fun e w' => e = .returned (.tuple #[.string (textG G), .int .i64 0]) ∧ Below wr.heap.size wr w') := by
          have := Sc.Join_any (Nat.le_trans HLO.out.2 (by decide)) HLA.out
          rw [(Sc.joi_yes HLO.out.1).1, (Sc.joi_yes HLO.out.1).2] at this
          exact this
        go_wp2_with (go_at_call 33; refine HJN.out.mono ?_; rintro e w6 ⟨rfl, hb6⟩)
        go_ret2
        exact ⟨rfl, below_then HLU.out.2.1 hb6⟩
end Go.Proofs.YtjbohacllhjgmaaGreatDoor
namespace Go.Proofs.YtjbohacllhjgmaaGreatDoor.Sc
set_option maxRecDepth 100000

def dgP (d : UInt8) : Prop := 48 ≤ d.toNat ∧ d.toNat ≤ 57
/-- The document's way: digit by digit, with the greatest number in sight. -/
def fitN (n d : Nat) : Bool := decide (n ≤ (9223372036854775807 - d) / 10)
theorem fitN_iff (n d : Nat) : fitN n d = true ↔ n ≤ (9223372036854775807 - d) / 10 := by unfold fitN; rw [decide_eq_true_eq]
def numF : Nat → Bs → Option Nat
  | n, [] => some n
  | n, b :: r => if 48 ≤ b.toNat ∧ b.toNat ≤ 57 ∧ fitN n (b.toNat - 48) = true then numF (10 * n + (b.toNat - 48)) r else none
def refN (T : Bs) : Option Nat := if T = [] ∨ (T.head? = some 48 ∧ 1 < T.length) then none else numF 0 T
def valFrom (n : Nat) (l : Bs) : Nat := l.foldl (fun n d => n * 10 + (d.toNat - 48)) n

theorem valFrom_cons (n : Nat) (d : UInt8) (l : Bs) : valFrom n (d :: l) = valFrom (n * 10 + (d.toNat - 48)) l := by unfold valFrom; rw [List.foldl_cons]
theorem valFrom_le : ∀ (l : Bs) (n : Nat), n ≤ valFrom n l
  | [], n => Nat.le_refl _
  | d :: l, n => by rw [valFrom_cons]; have := valFrom_le l (n * 10 + (d.toNat - 48)); omega
theorem numF_some : ∀ (l : Bs) (n v : Nat), numF n l = some v → (∀ d ∈ l, dgP d) ∧ v = valFrom n l ∧ (n ≤ 9223372036854775807 → v ≤ 9223372036854775807)
  | [], n, v, h => by simp only [numF, Option.some.injEq] at h; subst h; exact ⟨fun d hd => (by cases hd), rfl, id⟩
  | b :: r, n, v, h => by
    unfold numF at h
    split at h
    · rename_i hc
      rw [fitN_iff] at hc
      obtain ⟨h1, h2, h3⟩ := numF_some r _ v h
      refine ⟨fun d hd => ?_, ?_, fun _ => h3 (by omega)⟩
      · rcases List.mem_cons.1 hd with rfl | hd
        · exact ⟨hc.1, hc.2.1⟩
        · exact h1 d hd
      · rw [h2, valFrom_cons, Nat.mul_comm 10 n]
    · cases h
theorem numF_of : ∀ (l : Bs) (n : Nat), (∀ d ∈ l, dgP d) → valFrom n l ≤ 9223372036854775807 → numF n l = some (valFrom n l)
  | [], n, _, _ => rfl
  | b :: r, n, hd, hv => by
    rw [valFrom_cons] at hv ⊢
    have h1 := hd b (List.mem_cons_self)
    have h2 := valFrom_le r (n * 10 + (b.toNat - 48))
    unfold dgP at h1
    unfold numF
    rw [if_pos ⟨h1.1, h1.2, (fitN_iff _ _).2 (by omega)⟩, Nat.mul_comm 10 n]
    exact numF_of r _ (fun d h => hd d (List.mem_cons_of_mem _ h)) hv
theorem parse_of : ∀ (l : Bs) (n : Nat), (∀ d ∈ l, dgP d) → valFrom n l ≤ 9223372036854775807 → Lib.parseUint10 n l = .ok (valFrom n l)
  | [], n, _, _ => rfl
  | b :: r, n, hd, hv => by
    rw [valFrom_cons] at hv ⊢
    have h1 := hd b (List.mem_cons_self)
    have h2 := valFrom_le r (n * 10 + (b.toNat - 48))
    unfold dgP at h1
    unfold Lib.parseUint10
    rw [if_pos ⟨h1.1, h1.2⟩, if_neg (by omega), if_neg (by omega)]
    exact parse_of r _ (fun d h => hd d (List.mem_cons_of_mem _ h)) hv

theorem digit_nat {k : Nat} (h : k < 10) : (UInt8.ofNat (48 + k)).toNat = 48 + k := by
  rw [UInt8.toNat_ofNat']; omega
theorem dec_step {u : Nat} {d : UInt8} (hd : dgP d) (hu : 1 ≤ u) : Lib.decDigits (u * 10 + (d.toNat - 48)) = Lib.decDigits u ++ [d] := by
  unfold dgP at hd
  rw [Lib.decDigits, dif_neg (by omega)]
  have e1 : (u * 10 + (d.toNat - 48)) / 10 = u := by omega
  have e2 : (u * 10 + (d.toNat - 48)) % 10 = d.toNat - 48 := by omega
  rw [e1, e2]
  congr 2
  exact UInt8.toNat_inj.1 (by rw [digit_nat (by omega)]; omega)
theorem dec_from : ∀ (l : Bs) (u : Nat), (∀ d ∈ l, dgP d) → 1 ≤ u → Lib.decDigits (valFrom u l) = Lib.decDigits u ++ l
  | [], u, _, _ => by simp [valFrom]
  | d :: l, u, hd, hu => by
    rw [valFrom_cons, dec_from l _ (fun x h => hd x (List.mem_cons_of_mem _ h)) (by omega), dec_step (hd d List.mem_cons_self) hu]
    simp
theorem dec_one {d : UInt8} (hd : dgP d) : Lib.decDigits (d.toNat - 48) = [d] := by
  unfold dgP at hd
  rw [Lib.decDigits, dif_pos (by omega)]
  congr 1
  exact UInt8.toNat_inj.1 (by rw [digit_nat (by omega)]; omega)

theorem dec_digits (u : Nat) : ∀ d ∈ Lib.decDigits u, dgP d := by
  induction u using Nat.strongRecOn with
  | _ u ih =>
    rw [Lib.decDigits]
    split
    · rename_i h
      intro d hd
      have := digit_nat h
      unfold dgP
      rw [List.mem_singleton] at hd; subst hd; omega
    · rename_i h
      intro d hd
      rcases List.mem_append.1 hd with h1 | h1
      · exact ih (u / 10) (by omega) d h1
      · have := digit_nat (k := u % 10) (by omega)
        unfold dgP
        rw [List.mem_singleton] at h1; subst h1; omega
theorem val_snoc (n : Nat) (l : Bs) (d : UInt8) : valFrom n (l ++ [d]) = valFrom n l * 10 + (d.toNat - 48) := by simp [valFrom]
theorem val_dec (u : Nat) : valFrom 0 (Lib.decDigits u) = u := by
  induction u using Nat.strongRecOn with
  | _ u ih =>
    rw [Lib.decDigits]
    split
    · rename_i h
      have := digit_nat h
      simp [valFrom]; omega
    · rename_i h
      rw [val_snoc, ih (u / 10) (by omega)]
      have := digit_nat (k := u % 10) (by omega)
      omega
theorem dec_ne (u : Nat) : Lib.decDigits u ≠ [] := by
  rw [Lib.decDigits]; split <;> simp
theorem dec_head (u : Nat) (h : 1 ≤ u) : (Lib.decDigits u).head? ≠ some 48 := by
  induction u using Nat.strongRecOn with
  | _ u ih =>
    rw [Lib.decDigits]
    split
    · rename_i h1
      have := digit_nat h1
      simp only [List.head?_cons, ne_eq, Option.some.injEq]
      intro e
      have := congrArg UInt8.toNat e
      simp at this
      omega
    · rename_i h1
      have h2 := ih (u / 10) (by omega) (by omega)
      cases hc : Lib.decDigits (u / 10) with
      | nil => exact absurd hc (dec_ne _)
      | cons b r => rw [hc] at h2; simpa using h2
theorem dec_len {u : Nat} (h : u < 10) : (Lib.decDigits u).length = 1 := by rw [Lib.decDigits, dif_pos h]; rfl

theorem ref_dec {n : Nat} (h : n ≤ 9223372036854775807) : refN (Lib.decDigits n) = some n := by
  unfold refN
  rw [if_neg]
  · rw [numF_of _ _ (dec_digits n) (by rw [val_dec]; exact h), val_dec]
  · rintro (h1 | ⟨h1, h2⟩)
    · exact dec_ne _ h1
    · by_cases hn : n < 10
      · rw [dec_len hn] at h2; omega
      · exact dec_head n (by omega) h1
theorem ref_some {T : Bs} {n : Nat} (h : refN T = some n) : T = Lib.decDigits n ∧ n ≤ 9223372036854775807 := by
  unfold refN at h
  split at h
  · cases h
  · rename_i hc
    obtain ⟨h1, h2, h3⟩ := numF_some T 0 n h
    refine ⟨?_, h3 (by omega)⟩
    cases T with
    | nil => exact absurd (Or.inl rfl) hc
    | cons d r =>
      have hd := h1 d List.mem_cons_self
      by_cases hz : d = 48
      · cases r with
        | nil =>
          rw [h2, valFrom_cons]
          subst hz
          show [48] = Lib.decDigits (0 * 10 + ((48 : UInt8).toNat - 48))
          rw [Nat.zero_mul, Nat.zero_add]
          exact (dec_one hd).symm
        | cons e r => exact absurd (Or.inr ⟨by rw [hz]; rfl, by simp⟩) hc
      · rw [h2, valFrom_cons]
        have hne : d.toNat ≠ 48 := fun e => hz (UInt8.toNat_inj.1 e)
        unfold dgP at hd
        rw [Nat.zero_mul, Nat.zero_add, dec_from r _ (fun x hx => h1 x (List.mem_cons_of_mem _ hx)) (by omega), dec_one hd]
        rfl
theorem atoi_dec {n : Nat} (h : n ≤ 9223372036854775807) : Lib.atoiAll (Lib.decDigits n) = .ok (n : Int) := by
  have hd := dec_digits n
  have hv := val_dec n
  cases hc : Lib.decDigits n with
  | nil => exact absurd hc (dec_ne _)
  | cons b r =>
    rw [hc] at hd hv
    have hb := hd b List.mem_cons_self
    unfold dgP at hb
    rw [Lib.atoiAll_plain b r (by omega) (by omega)]
    unfold Lib.parseMag
    rw [if_neg (by simp), parse_of _ _ hd (by rw [hv]; exact h), hv]
    unfold Lib.signless
    simp only
    rw [if_neg (by omega)]

/-- The program's way: what is read must print as that text. -/
def numA (T : Bs) : Option Nat := match Lib.atoiAll T with
  | .ok v => if 0 ≤ v ∧ Lib.itoa v = T then some v.toNat else none
  | _ => none
theorem itoa_of {n : Int} (h : 0 ≤ n) : Lib.itoa n = Lib.decDigits n.toNat := by
  obtain ⟨u, rfl⟩ : ∃ u : Nat, n = u := ⟨n.toNat, by omega⟩
  rw [Lib.itoa_nonneg]; rfl
theorem numA_ref (T : Bs) : numA T = refN T := by
  cases h : refN T with
  | some n =>
    obtain ⟨rfl, hn⟩ := ref_some h
    unfold numA
    rw [atoi_dec hn]
    simp only
    rw [if_pos ⟨by omega, by rw [Lib.itoa_nonneg]⟩]
    simp
  | none =>
    unfold numA
    cases ha : Lib.atoiAll T with
    | ok v =>
      simp only
      split
      · rename_i hc
        have hb := Lib.atoiAll_bounds ha
        rw [← hc.2, itoa_of hc.1, ref_dec (by omega)] at h
        cases h
      · rfl
    | _ => rfl
end Go.Proofs.YtjbohacllhjgmaaGreatDoor.Sc
namespace Go.Proofs.YtjbohacllhjgmaaGreatDoor.Sc
open Go.RowKit
set_option maxRecDepth 100000

/-- What the library's variables hold. -/
structure EnvS (W : World) : Prop where
  tab : Lib.TabIs Tryz.prog W "internal/strconv.uint64pow10" .u64 Lib.pow10Tab
  syn : ∃ tp p, W.cell? ⟨2, 0, none⟩ = some (.iface tp p)
  rng : ∃ tp p, W.cell? ⟨3, 0, none⟩ = some (.iface tp p)
theorem EnvS.below {W w : World} (h : EnvS W) (hb : Below W.heap.size W w) : EnvS w := by
  obtain ⟨tp, p, hs⟩ := h.syn
  obtain ⟨tq, q, hq⟩ := h.rng
  exact { tab := Lib.tabBelow_of_tabIs h.tab w hb, syn := ⟨tp, p, (hb.cell (p := ⟨2, 0, none⟩) (cell_in hs)).trans hs⟩, rng := ⟨tq, q, (hb.cell (p := ⟨3, 0, none⟩) (cell_in hq)).trans hq⟩ }

theorem below_bytes {w w' : World} {t : TypeId} (h : w' = w ∨ ∃ b, w' = Lib.bytesWorld w t b) : Below w.heap.size w w' := by
  rcases h with rfl | ⟨b, rfl⟩
  · exact Below.refl _ _
  · exact Lib.bytesWorld_below _ _ _

/-- What Number answers with. -/
def ansI (T : Bs) (most : Int) : Int := match refN T with
  | some n => if (n : Int) ≤ most then (n : Int) else 0
  | none => 0
def ansB (T : Bs) (most : Int) : Bool := match refN T with
  | some n => decide ((n : Int) ≤ most)
  | none => false
theorem ans_none {T : Bs} (h : refN T = none) (most : Int) : ansI T most = 0 ∧ ansB T most = false := by unfold ansI ansB; rw [h]; exact ⟨rfl, rfl⟩
theorem ans_far {T : Bs} {n : Nat} {most : Int} (h : refN T = some n) (hm : ¬ (n : Int) ≤ most) : ansI T most = 0 ∧ ansB T most = false := by unfold ansI ansB; rw [h]; simp only; rw [if_neg hm, decide_eq_false hm]; exact ⟨rfl, rfl⟩
theorem ans_ok {T : Bs} {n : Nat} {most : Int} (h : refN T = some n) (hm : (n : Int) ≤ most) : ansI T most = n ∧ ansB T most = true := by unfold ansI ansB; rw [h]; simp only; rw [if_pos hm, decide_eq_true hm]; exact ⟨rfl, rfl⟩

theorem ret_num {a b : Int} {x y : Bool} (h1 : a = b) (h2 : x = y) : Ending.returned (.tuple #[.int .i64 a, .bool x]) = .returned (.tuple #[.int .i64 b, .bool y]) := by rw [h1, h2]

def NumP (f : Nat) (s : ByteArray) (most : Int) (w : World) : Prop := Calls Tryz.prog f #[.string s, .int .i64 most] w fun e w' => e = .returned (.tuple #[.int .i64 (ansI s.data.toList most), .bool (ansB s.data.toList most)]) ∧ Below w.heap.size w w'

set_option maxHeartbeats 3200000 in
theorem Number_any (s : ByteArray) (hs : s.size ≤ 281474976710656) (most : Int) (w : World) (he : EnvS w) : NumP 64 s most w := by
  have hnr := numA_ref s.data.toList
  cases h : Lib.atoiAll s.data.toList with
  | ok v =>
    have hc := hide3 (Tryz.strconv_Atoi_ok s (by omega) v h w)
    have hvb := Lib.atoiAll_bounds h
    by_cases h0 : v < 0
    · have HA : Hid (ansI s.data.toList most = 0 ∧ ansB s.data.toList most = false) := ans_none (by rw [← hnr]; unfold numA; rw [h]; simp only; rw [if_neg (by omega)]) most
      clear hnr h he
      unfold NumP
      go_enter Tryz.func64, Tryz.ntmps64
      go_wp2_with (go_at_call 70; refine hc.out.mono ?_; rintro e w1 ⟨rfl, hb⟩; have HB : Hid (Below w.heap.size w w1) := below_bytes hb; clear hb)
      go_ret2
      exact ⟨ret_num HA.out.1.symm HA.out.2.symm, HB.out⟩
    · by_cases hm : most < v
      · have HA : Hid (ansI s.data.toList most = 0 ∧ ansB s.data.toList most = false) := by
          cases hr : refN s.data.toList with
          | none => exact ans_none hr most
          | some n =>
            refine ans_far hr ?_
            rw [hr] at hnr
            unfold numA at hnr
            rw [h] at hnr
            simp only at hnr
            split at hnr
            · injection hnr with e; omega
            · cases hnr
        clear hnr h he
        unfold NumP
        go_enter Tryz.func64, Tryz.ntmps64
        go_wp2_with (go_at_call 70; refine hc.out.mono ?_; rintro e w1 ⟨rfl, hb⟩; have HB : Hid (Below w.heap.size w w1) := below_bytes hb; clear hb)
        go_ret2
        exact ⟨ret_num HA.out.1.symm HA.out.2.symm, HB.out⟩
      · have HI : Hid (∀ w1, Below w.heap.size w w1 → Calls Tryz.prog 46 #[.int .i64 v] w1 fun e w' => e = .returned (.string ⟨(Lib.itoa v).toArray⟩) ∧ Below w1.heap.size w1 w') := by
          intro w1 hb
          refine (Tryz.strconv_Itoa v (by omega) (by omega) w1 (he.below hb).tab).mono ?_
          rintro e w' ⟨rfl, k, os, rfl⟩
          exact ⟨rfl, Lib.below_grow _ _ (Nat.le_refl _) k os⟩
        by_cases ht : Lib.itoa v = s.data.toList
        · have HA : Hid (ansI s.data.toList most = v ∧ ansB s.data.toList most = true) := by
            have hr : refN s.data.toList = some v.toNat := by rw [← hnr]; unfold numA; rw [h]; simp only; rw [if_pos ⟨by omega, ht⟩]
            obtain ⟨a, b⟩ := ans_ok (most := most) hr (by omega)
            exact ⟨by rw [a]; omega, b⟩
          have hx : (⟨(Lib.itoa v).toArray⟩ : ByteArray) = s := by rw [ht]
          rw [hx] at HI
          clear hnr h he hx ht
          unfold NumP
          go_enter Tryz.func64, Tryz.ntmps64
          go_wp2_with (first | (go_at_call 70; refine hc.out.mono ?_; rintro e w1 ⟨rfl, hb⟩; have HB : Hid (Below w.heap.size w w1) := below_bytes hb; clear hb) | (go_at_call 46; refine (HI.out _ HB.out).mono ?_; rintro e w2 ⟨rfl, hb⟩; have HB2 : Hid (Below w.heap.size w w2) := below_then HB.out hb; clear hb))
          go_ret2
          exact ⟨ret_num HA.out.1.symm HA.out.2.symm, HB2.out⟩
        · have HA : Hid (ansI s.data.toList most = 0 ∧ ansB s.data.toList most = false) := ans_none (by rw [← hnr]; unfold numA; rw [h]; simp only; rw [if_neg (fun q => ht q.2)]) most
          have hx : ((⟨(Lib.itoa v).toArray⟩ : ByteArray).toList == s.toList) = false := by
            rw [beq_eq_false_iff_ne]
            intro e
            have := congrArg (fun x : ByteArray => x.data.toList) (bytes_same e)
            simp at this
            exact ht this
          generalize (⟨(Lib.itoa v).toArray⟩ : ByteArray) = x at *
          clear hnr h he ht
          unfold NumP
          go_enter Tryz.func64, Tryz.ntmps64
          go_wp2_with (first | (go_at_call 70; refine hc.out.mono ?_; rintro e w1 ⟨rfl, hb⟩; have HB : Hid (Below w.heap.size w w1) := below_bytes hb; clear hb) | (go_at_call 46; refine (HI.out _ HB.out).mono ?_; rintro e w2 ⟨rfl, hb⟩; have HB2 : Hid (Below w.heap.size w w2) := below_then HB.out hb; clear hb))
          go_ret2
          exact ⟨ret_num HA.out.1.symm HA.out.2.symm, HB2.out⟩
  | «syntax» =>
    obtain ⟨tp, p, hsy⟩ := he.syn
    have HA : Hid (ansI s.data.toList most = 0 ∧ ansB s.data.toList most = false) := ans_none (by rw [← hnr]; unfold numA; rw [h]) most
    have hc := hide3 (Tryz.strconv_Atoi_syntax s hs h _ w hsy (Or.inr ⟨tp, p, rfl⟩))
    clear h hsy he hnr
    unfold NumP
    go_enter Tryz.func64, Tryz.ntmps64
    go_wp2_with (go_at_call 70; refine hc.out.mono ?_; rintro e w1 ⟨N, rfl, _, _, hb⟩; have HB : Hid (Below w.heap.size w w1) := hb; clear hb)
    go_ret2
    exact ⟨ret_num HA.out.1.symm HA.out.2.symm, HB.out⟩
  | range =>
    obtain ⟨tq, q, hrg⟩ := he.rng
    have HA : Hid (ansI s.data.toList most = 0 ∧ ansB s.data.toList most = false) := ans_none (by rw [← hnr]; unfold numA; rw [h]) most
    have hc := hide3 (Tryz.strconv_Atoi_range s hs h _ w hrg (Or.inr ⟨tq, q, rfl⟩))
    clear h hrg he hnr
    unfold NumP
    go_enter Tryz.func64, Tryz.ntmps64
    go_wp2_with (go_at_call 70; refine hc.out.mono ?_; rintro e w1 ⟨N, rfl, _, _, hb⟩; have HB : Hid (Below w.heap.size w w1) := hb; clear hb)
    go_ret2
    exact ⟨ret_num HA.out.1.symm HA.out.2.symm, HB.out⟩
end Go.Proofs.YtjbohacllhjgmaaGreatDoor.Sc
namespace Go.Proofs.YtjbohacllhjgmaaGreatDoor.Sc
open Go.RowKit
set_option maxRecDepth 100000

theorem drop_at' {t : ByteArray} {k : Nat} (h : k < t.size) : t.data.toList.drop k = t[k] :: t.data.toList.drop (k + 1) := List.drop_eq_getElem_cons (by rw [list_size]; exact h)
theorem numF_ok {n : Nat} {b : UInt8} (r : Bs) (h : 48 ≤ b.toNat ∧ b.toNat ≤ 57) (hf : n ≤ (9223372036854775807 - (b.toNat - 48)) / 10) : numF n (b :: r) = numF (10 * n + (b.toNat - 48)) r := by
  conv => lhs; unfold numF; rw [if_pos ⟨h.1, h.2, (fitN_iff _ _).2 hf⟩]
theorem numF_no {n : Nat} {b : UInt8} (r : Bs) (h : ¬ (48 ≤ b.toNat ∧ b.toNat ≤ 57 ∧ n ≤ (9223372036854775807 - (b.toNat - 48)) / 10)) : numF n (b :: r) = none := by
  unfold numF
  rw [if_neg]
  rw [fitN_iff]
  exact h

set_option maxHeartbeats 6400000 in
theorem rNumber_any (s : ByteArray) (hs : s.size ≤ 281474976710656) (most : Int) (w : World) : NumP 13 s most w := by
  unfold NumP
  cases he : s.toList.isEmpty
  · have h0 := size_pos he
    have hd0 := drop_at' h0
    rw [List.drop_zero] at hd0
    by_cases hz : s[0].toNat = 48 ∧ 1 < s.size
    · have HA : Hid (ansI s.data.toList most = 0 ∧ ansB s.data.toList most = false) := by
        have hh : s.data.toList.head? = some 48 := by
          have : s[0] = 48 := UInt8.toNat_inj.1 hz.1
          rw [hd0, this]
          rfl
        refine ans_none ?_ most
        unfold refN
        rw [if_pos (Or.inr ⟨hh, by rw [list_size]; exact hz.2⟩)]
      have e48 : ((s[0].toNat : Int) == 48) = true := by rw [beq_iff_eq]; omega
      obtain ⟨_, h1⟩ := hz
      clear hd0
      go_enter Tryz.func13, Tryz.ntmps13
      go_wp2
      go_ret2
      exact ⟨ret_num HA.out.1.symm HA.out.2.symm, Below.refl _ _⟩
    · have HF : Hid (refN s.data.toList = numF 0 s.data.toList) := by
        unfold Hid refN
        rw [if_neg]
        rintro (h1 | ⟨h1, h2⟩)
        · rw [hd0] at h1; cases h1
        · rw [hd0] at h1
          injection h1 with h1
          exact hz ⟨by rw [h1]; rfl, by rw [list_size] at h2; exact h2⟩
      have HT : Hid (s[0].toNat ≠ 48 ∨ s.size = 1) := by
        unfold Hid
        rcases Nat.lt_or_ge 1 s.size with h | h
        · exact Or.inl fun e => hz ⟨e, h⟩
        · exact Or.inr (by omega)
      have key : Calls Tryz.prog 13 #[.string s, .int .i64 most] w fun e w' => e = .returned (.tuple #[.int .i64 (ansI s.data.toList most), .bool (ansB s.data.toList most)]) ∧ Below w.heap.size w w' := by
        clear hd0 hz
        rcases HT.out with h48 | h1
        · have e48 : ((s[0].toNat : Int) == 48) = false := by rw [beq_eq_false_iff_ne]; omega
          clear h48
          go_enter Tryz.func13, Tryz.ntmps13
          go_wp2
          go_loop [6, 7] (fun n i => ∃ k m : Nat, k ≤ s.size ∧ i = .int .i64 k ∧ n = .int .i64 m ∧ m ≤ 9223372036854775807 ∧ numF 0 s.data.toList = numF m (s.data.toList.drop k)) (fun _ i => s.size - (intOf i).toNat)
          case atStart => exact ⟨0, 0, Nat.zero_le _, rfl, rfl, Nat.zero_le _, rfl⟩
          case round =>
            obtain ⟨k, m, hk, rfl, rfl, hmm, hnf⟩ := hrel
            have HN := hide3 hnf
            clear hnf
            by_cases hlt : k < s.size
            · have hd := drop_at' hlt
              by_cases hdg : 48 ≤ s[k].toNat ∧ s[k].toNat ≤ 57
              · obtain ⟨c, hc⟩ : ∃ c, c = (9223372036854775807 - (s[k].toNat - 48)) / 10 := ⟨_, rfl⟩
                have hq : (9223372036854775807 - ((s[k].toNat : Int) - 48)).tdiv 10 = (c : Int) := by rw [Int.tdiv_eq_ediv_of_nonneg (by omega)]; omega
                have hcb : c ≤ 922337203685477580 := by omega
                by_cases hf : m ≤ c
                · have HN2 : Hid (numF 0 s.data.toList = numF (10 * m + (s[k].toNat - 48)) (s.data.toList.drop (k + 1))) := by
                    unfold Hid
                    rw [HN.out, hd, numF_ok _ hdg (by omega)]
                  have hb : 10 * m + (s[k].toNat - 48) ≤ 9223372036854775807 := by omega
                  have hi : ((10 * m + (s[k].toNat - 48) : Nat) : Int) = 10 * (m : Int) + ((s[k].toNat : Int) - 48) := by omega
                  obtain ⟨a1, a2⟩ := hdg
                  clear hd hc
                  go_wp2
                  exact ⟨⟨k + 1, 10 * m + (s[k].toNat - 48), by omega, by go_num, by rw [hi], hb, HN2.out⟩, by simp [intOf]; omega⟩
                · have HA : Hid (ansI s.data.toList most = 0 ∧ ansB s.data.toList most = false) := ans_none (by rw [HF.out, HN.out, hd, numF_no _ (by omega)]) most
                  obtain ⟨a1, a2⟩ := hdg
                  clear hd hc
                  go_wp2
                  go_ret2
                  exact ⟨ret_num HA.out.1.symm HA.out.2.symm, Below.refl _ _⟩
              · have HA : Hid (ansI s.data.toList most = 0 ∧ ansB s.data.toList most = false) := ans_none (by rw [HF.out, HN.out, hd, numF_no _ (by omega)]) most
                have hu : s[k].toNat < 256 := UInt8.toNat_lt _
                by_cases a1 : s[k].toNat < 48
                · clear hd hdg
                  go_wp2
                  go_ret2
                  exact ⟨ret_num HA.out.1.symm HA.out.2.symm, Below.refl _ _⟩
                · have a2 : 57 < s[k].toNat := by omega
                  clear hd hdg
                  go_wp2
                  go_ret2
                  exact ⟨ret_num HA.out.1.symm HA.out.2.symm, Below.refl _ _⟩
            · have hr : refN s.data.toList = some m := by
                rw [HF.out, HN.out, List.drop_of_length_le (by rw [list_size]; omega)]
                rfl
              by_cases hm : (m : Int) ≤ most
              · have HA := hide3 (ans_ok hr hm)
                clear hr
                go_wp2
                go_ret2
                exact ⟨ret_num HA.out.1.symm HA.out.2.symm, Below.refl _ _⟩
              · have HA := hide3 (ans_far hr hm)
                clear hr
                go_wp2
                go_ret2
                exact ⟨ret_num HA.out.1.symm HA.out.2.symm, Below.refl _ _⟩
        · have h1' : ¬ 1 < s.size := by omega
          go_enter Tryz.func13, Tryz.ntmps13
          by_cases h48 : s[0].toNat = 48
          · have e48 : ((s[0].toNat : Int) == 48) = true := by rw [beq_iff_eq]; omega
            clear h48
            go_wp2
            go_loop [6, 7] (fun n i => ∃ k m : Nat, k ≤ s.size ∧ i = .int .i64 k ∧ n = .int .i64 m ∧ m ≤ 9223372036854775807 ∧ numF 0 s.data.toList = numF m (s.data.toList.drop k)) (fun _ i => s.size - (intOf i).toNat)
            case atStart => exact ⟨0, 0, Nat.zero_le _, rfl, rfl, Nat.zero_le _, rfl⟩
            case round =>
              obtain ⟨k, m, hk, rfl, rfl, hmm, hnf⟩ := hrel
              have HN := hide3 hnf
              clear hnf
              by_cases hlt : k < s.size
              · have hd := drop_at' hlt
                by_cases hdg : 48 ≤ s[k].toNat ∧ s[k].toNat ≤ 57
                · obtain ⟨c, hc⟩ : ∃ c, c = (9223372036854775807 - (s[k].toNat - 48)) / 10 := ⟨_, rfl⟩
                  have hq : (9223372036854775807 - ((s[k].toNat : Int) - 48)).tdiv 10 = (c : Int) := by rw [Int.tdiv_eq_ediv_of_nonneg (by omega)]; omega
                  have hcb : c ≤ 922337203685477580 := by omega
                  by_cases hf : m ≤ c
                  · have HN2 : Hid (numF 0 s.data.toList = numF (10 * m + (s[k].toNat - 48)) (s.data.toList.drop (k + 1))) := by
                      unfold Hid
                      rw [HN.out, hd, numF_ok _ hdg (by omega)]
                    have hb : 10 * m + (s[k].toNat - 48) ≤ 9223372036854775807 := by omega
                    have hi : ((10 * m + (s[k].toNat - 48) : Nat) : Int) = 10 * (m : Int) + ((s[k].toNat : Int) - 48) := by omega
                    obtain ⟨a1, a2⟩ := hdg
                    clear hd hc
                    go_wp2
                    exact ⟨⟨k + 1, 10 * m + (s[k].toNat - 48), by omega, by go_num, by rw [hi], hb, HN2.out⟩, by simp [intOf]; omega⟩
                  · have HA : Hid (ansI s.data.toList most = 0 ∧ ansB s.data.toList most = false) := ans_none (by rw [HF.out, HN.out, hd, numF_no _ (by omega)]) most
                    obtain ⟨a1, a2⟩ := hdg
                    clear hd hc
                    go_wp2
                    go_ret2
                    exact ⟨ret_num HA.out.1.symm HA.out.2.symm, Below.refl _ _⟩
                · have HA : Hid (ansI s.data.toList most = 0 ∧ ansB s.data.toList most = false) := ans_none (by rw [HF.out, HN.out, hd, numF_no _ (by omega)]) most
                  have hu : s[k].toNat < 256 := UInt8.toNat_lt _
                  by_cases a1 : s[k].toNat < 48
                  · clear hd hdg
                    go_wp2
                    go_ret2
                    exact ⟨ret_num HA.out.1.symm HA.out.2.symm, Below.refl _ _⟩
                  · have a2 : 57 < s[k].toNat := by omega
                    clear hd hdg
                    go_wp2
                    go_ret2
                    exact ⟨ret_num HA.out.1.symm HA.out.2.symm, Below.refl _ _⟩
              · have hr : refN s.data.toList = some m := by
                  rw [HF.out, HN.out, List.drop_of_length_le (by rw [list_size]; omega)]
                  rfl
                by_cases hm : (m : Int) ≤ most
                · have HA := hide3 (ans_ok hr hm)
                  clear hr
                  go_wp2
                  go_ret2
                  exact ⟨ret_num HA.out.1.symm HA.out.2.symm, Below.refl _ _⟩
                · have HA := hide3 (ans_far hr hm)
                  clear hr
                  go_wp2
                  go_ret2
                  exact ⟨ret_num HA.out.1.symm HA.out.2.symm, Below.refl _ _⟩
          · have e48 : ((s[0].toNat : Int) == 48) = false := by rw [beq_eq_false_iff_ne]; omega
            clear h48
            go_wp2
            go_loop [6, 7] (fun n i => ∃ k m : Nat, k ≤ s.size ∧ i = .int .i64 k ∧ n = .int .i64 m ∧ m ≤ 9223372036854775807 ∧ numF 0 s.data.toList = numF m (s.data.toList.drop k)) (fun _ i => s.size - (intOf i).toNat)
            case atStart => exact ⟨0, 0, Nat.zero_le _, rfl, rfl, Nat.zero_le _, rfl⟩
            case round =>
              obtain ⟨k, m, hk, rfl, rfl, hmm, hnf⟩ := hrel
              have HN := hide3 hnf
              clear hnf
              by_cases hlt : k < s.size
              · have hd := drop_at' hlt
                by_cases hdg : 48 ≤ s[k].toNat ∧ s[k].toNat ≤ 57
                · obtain ⟨c, hc⟩ : ∃ c, c = (9223372036854775807 - (s[k].toNat - 48)) / 10 := ⟨_, rfl⟩
                  have hq : (9223372036854775807 - ((s[k].toNat : Int) - 48)).tdiv 10 = (c : Int) := by rw [Int.tdiv_eq_ediv_of_nonneg (by omega)]; omega
                  have hcb : c ≤ 922337203685477580 := by omega
                  by_cases hf : m ≤ c
                  · have HN2 : Hid (numF 0 s.data.toList = numF (10 * m + (s[k].toNat - 48)) (s.data.toList.drop (k + 1))) := by
                      unfold Hid
                      rw [HN.out, hd, numF_ok _ hdg (by omega)]
                    have hb : 10 * m + (s[k].toNat - 48) ≤ 9223372036854775807 := by omega
                    have hi : ((10 * m + (s[k].toNat - 48) : Nat) : Int) = 10 * (m : Int) + ((s[k].toNat : Int) - 48) := by omega
                    obtain ⟨a1, a2⟩ := hdg
                    clear hd hc
                    go_wp2
                    exact ⟨⟨k + 1, 10 * m + (s[k].toNat - 48), by omega, by go_num, by rw [hi], hb, HN2.out⟩, by simp [intOf]; omega⟩
                  · have HA : Hid (ansI s.data.toList most = 0 ∧ ansB s.data.toList most = false) := ans_none (by rw [HF.out, HN.out, hd, numF_no _ (by omega)]) most
                    obtain ⟨a1, a2⟩ := hdg
                    clear hd hc
                    go_wp2
                    go_ret2
                    exact ⟨ret_num HA.out.1.symm HA.out.2.symm, Below.refl _ _⟩
                · have HA : Hid (ansI s.data.toList most = 0 ∧ ansB s.data.toList most = false) := ans_none (by rw [HF.out, HN.out, hd, numF_no _ (by omega)]) most
                  have hu : s[k].toNat < 256 := UInt8.toNat_lt _
                  by_cases a1 : s[k].toNat < 48
                  · clear hd hdg
                    go_wp2
                    go_ret2
                    exact ⟨ret_num HA.out.1.symm HA.out.2.symm, Below.refl _ _⟩
                  · have a2 : 57 < s[k].toNat := by omega
                    clear hd hdg
                    go_wp2
                    go_ret2
                    exact ⟨ret_num HA.out.1.symm HA.out.2.symm, Below.refl _ _⟩
              · have hr : refN s.data.toList = some m := by
                  rw [HF.out, HN.out, List.drop_of_length_le (by rw [list_size]; omega)]
                  rfl
                by_cases hm : (m : Int) ≤ most
                · have HA := hide3 (ans_ok hr hm)
                  clear hr
                  go_wp2
                  go_ret2
                  exact ⟨ret_num HA.out.1.symm HA.out.2.symm, Below.refl _ _⟩
                · have HA := hide3 (ans_far hr hm)
                  clear hr
                  go_wp2
                  go_ret2
                  exact ⟨ret_num HA.out.1.symm HA.out.2.symm, Below.refl _ _⟩
      exact key
  · have HA : Hid (ansI s.data.toList most = 0 ∧ ansB s.data.toList most = false) := by
      refine ans_none ?_ most
      unfold refN
      rw [empty_is] at he
      rw [if_pos (Or.inl (List.isEmpty_iff.1 he))]
    go_enter Tryz.func13, Tryz.ntmps13
    go_wp2
    go_ret2
    exact ⟨ret_num HA.out.1.symm HA.out.2.symm, Below.refl _ _⟩
end Go.Proofs.YtjbohacllhjgmaaGreatDoor.Sc
