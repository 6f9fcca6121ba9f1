/- The document's hex and word of package halyardref17. Conditions: sizes. -/
import Derived.Test.YtefcndfeemnglaaGreatDoorPy3
import Derived.Laws.IdiomStrings
namespace Go.Proofs.YtefcndfeemnglaaGreatDoor
open Go.RowKit Dk
set_option maxRecDepth 100000

/-- The sixteen digits. -/
def hexD : ByteArray := ⟨#[48, 49, 50, 51, 52, 53, 54, 55, 56, 57, 97, 98, 99, 100, 101, 102]⟩
def hexN (n : Nat) : UInt8 := hexD.data.toList.getD n 0
/-- Bytes in digits. -/
def hexL (l : List UInt8) : List UInt8 := l.flatMap fun b => [hexN (b.toNat / 16), hexN (b.toNat % 16)]
def hexT (s : ByteArray) : ByteArray := if (s.toList == []) = true then ⟨#[45]⟩ else ⟨(hexL s.data.toList).toArray⟩
/-- Bytes of one's own. -/
def byC (l : List UInt8) : List Value := l.map fun b => .int .u8 b.toNat
def OwnBy (w : World) (B : Nat) (v : Value) (l : List UInt8) : Prop := w.ownsRow B 5 1 v l.length (byC l)
theorem infoBy : (Tryz.prog.info? 5).map (fun i => (i.zero, i.size, i.bytes)) = some (some (.int .u8 0), 1, 1) := by kernel_rfl
theorem hexL_snoc (l : List UInt8) (b : UInt8) : hexL (l ++ [b]) = hexL l ++ [hexN (b.toNat / 16), hexN (b.toNat % 16)] := by unfold hexL; simp
theorem hexL_len (l : List UInt8) : (hexL l).length = 2 * l.length := by
  induction l with
  | nil => rfl
  | cons b l ih => unfold hexL at ih ⊢; rw [List.flatMap_cons, List.length_append, ih]; simp; omega

theorem wp_by {B : Nat} {wx : World} {v : Value} {l : List UInt8} {ops : Array Oper} {rest : List Oper} {o : Oper} {f : Act} {Q : Exit → Act → World → Prop}
    (hgd : o.guard = none) (s t : Operand) (ho : o.op = .call { callee := .builtin .append, args := #[s, t], argTypes := #[89, 89] }) (hs : f.eval s = v)
    (hown : OwnBy wx B v l) (hB : B ≤ wx.heap.size) (x : UInt8) {M : Nat} (hM : wx.heap.size = M) (hx : f.eval t = .slice (some ⟨M, 0, none⟩) 1 1) (hlen : l.length ≤ 1000000000)
    (h : ∀ v1 w1, OwnBy w1 B v1 (l ++ [x]) → wx.grownBy w1 v.ownBlock → wpList Tryz.prog ops Q rest (f.put o.dst v1) w1) :
    wpList Tryz.prog ops Q (o :: rest) f (wx.alloc (.cells #[.int .u8 x.toNat] 5)) := by
  subst hM
  obtain ⟨i0, hi, hz0, hz1, hz2⟩ := info_parts infoBy
  refine wpList_append_own _ hgd s t 89 ho B 5 i0 _ 1 1 Tryz.underlying89 hi hz0 hz1 hz2 rfl (by decide) v l.length _ hs (World.ownsRow.alloc hown _) ⟨wx.heap.size, 0, none⟩ 1 1 [.int .u8 x.toNat] hx rfl (World.news_of_block (cs := #[.int .u8 x.toNat]) (t := 5) (fr := (0, 0)) (by show (wx.heap.push _)[wx.heap.size]? = _; rw [Array.getElem?_push, if_pos rfl])) (by simp [Value.oneCell']) (by unfold maxLen; omega) (by omega) (by simp; omega) ?_
  intro v1 w1 h1 h2 _
  refine h v1 w1 ?_ (grown_pre ((Below.refl _ _).alloc (Nat.le_refl _) _) h2)
  unfold OwnBy byC
  rw [List.length_append, List.map_append]
  exact h1

/-- The word of a kind. -/
def wordP (k : Int) : ByteArray := if (k == 1) = true then ⟨#[117, 110, 108, 105, 110, 107]⟩ else if (k == 2) = true then ⟨#[114, 109, 100, 105, 114]⟩ else if (k == 3) = true then ⟨#[109, 107, 100, 105, 114]⟩ else ⟨#[112, 117, 116]⟩

theorem hexN_at {n : Nat} (h : n < 16) : hexN n = hexD[n]'(by show n < 16; exact h) := by
  unfold hexN
  rw [List.getD_eq_getElem?_getD, List.getElem?_eq_getElem (by show n < 16; exact h)]
  rfl

theorem by_text {w : World} {B : Nat} {v : Value} {l : List UInt8} (h : OwnBy w B v l) (h0 : 0 < l.length) : ∃ g cap, v = .slice (some ⟨g, 0, none⟩) l.length cap ∧ (convert 89 9 (.slice (some ⟨g, 0, none⟩) l.length cap)).run Tryz.prog w = .ok (.string ⟨l.toArray⟩) w := by
  have hr := h
  rcases h.2 with ⟨_, hn⟩ | ⟨g, cap, cur, rfl, _, _, _⟩
  · omega
  · refine ⟨g, cap, rfl, ?_⟩
    exact run_convert_bytes_back (P := Tryz.prog) w 89 9 5 ⟨g, 0, none⟩ cap l Tryz.underlying89 Tryz.underlying5 Tryz.underlying9 (fun j hj => by
      have := row_cells hr j (.int .u8 l[j].toNat) (by unfold byC; rw [List.getElem?_map, List.getElem?_eq_getElem hj]; rfl)
      rw [← this]
      congr 1
      unfold Addr.add
      simp
      exact fun e => e.symm)

end Go.Proofs.YtefcndfeemnglaaGreatDoor
