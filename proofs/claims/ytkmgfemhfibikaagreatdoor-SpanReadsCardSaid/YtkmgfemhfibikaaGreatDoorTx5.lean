/- Parse of package span. -/
import Derived.Test.YtkmgfemhfibikaaGreatDoorTx4
namespace Go.Proofs.YtkmgfemhfibikaaGreatDoor
open Go.RowKit
set_option maxRecDepth 100000

/-- What alternatives have, from a range on. -/
def altF : Rg → List ByteArray → Option Rg
  | R, [] => some R
  | R, a :: l => if wordsB (piecesB a ⟨#[32]⟩) = true then altF (joinR R (wordsL (piecesB a ⟨#[32]⟩))) l else none
/-- What a text of at most 4096 bytes says. -/
def altR (s : ByteArray) : Option Rg := altF [] (piecesB s ⟨#[124, 124]⟩)
theorem altF_rg : ∀ {l : List ByteArray} {R R' : Rg}, RangeR R → altF R l = some R' → RangeR R'
  | [], _, _, h, e => by simp only [altF, Option.some.injEq] at e; rw [← e]; exact h
  | a :: l, R, _, h, e => by
    unfold altF at e
    split at e
    · exact altF_rg (h.join (wordsL_rg _)) e
    · cases e
theorem altR_rg {s : ByteArray} {R : Rg} (h : altR s = some R) : RangeR R := altF_rg (R := []) trivial h

/-- What Parse makes of what a text says. -/
def parL : Option Rg → Rg
  | none => []
  | some R => fitR R
def parE : Option Rg → Int
  | none => 21
  | some R => fullE R.length

set_option maxHeartbeats 3200000 in
theorem sParse_walk (s : ByteArray) (ps : List ByteArray) (hlen : ps.length ≤ 1000000000) (hs : ¬ (4096 : Int) < (s.size : Int)) (w : World) (hf : FL w)
    (HSP : Hid (Calls Tryz.prog 25 #[.string s, .string ⟨#[124, 124]⟩] w fun e w' => ∃ v, e = .returned v ∧ Pieces w' v ps ∧ Below w.heap.size w w'))
    (HW : Hid (∀ a ∈ ps, ∀ w1, Below w.heap.size w w1 → Calls Tryz.prog 26 #[.string a] w1 fun e w' => ∃ v, e = .returned (.tuple #[v, .bool (wordsB (piecesB a ⟨#[32]⟩))]) ∧ SpansR w' v (wordsL (piecesB a ⟨#[32]⟩)) ∧ Below w1.heap.size w1 w')) :
    Calls Tryz.prog 14 #[.string s] w fun e w' => ∃ v, e = .returned (.tuple #[v, .int .i64 (parE (altF [] ps))]) ∧ OwnS w' w.heap.size v ((parL (altF [] ps)).map spR) ∧ Below w.heap.size w w' := by
  have HF := hide3 hf
  have HJ : Hid (∀ w1 v1 v2 (R X : Rg), Below w.heap.size w w1 → RangeR R → RangeR X → SpansR w1 v1 R → SpansR w1 v2 X → Calls Tryz.prog 19 #[v1, v2] w1 fun e w' => ∃ v, e = .returned v ∧ OwnS w' w1.heap.size v ((joinR R X).map spR) ∧ Below w1.heap.size w1 w') := fun w1 v1 v2 R X hb h1 h2 h3 h4 => join_rg h1 h2 (hf.below hb) h3 h4
  have HN : Hid (∀ w1 v1 (R : Rg), OwnS w1 w.heap.size v1 (R.map spR) → Calls Tryz.prog 27 #[v1] w1 fun e w' => ∃ v', e = .returned (.tuple #[v', .int .i64 (fullE R.length)]) ∧ OwnS w' w.heap.size v' ((fitR R).map spR) ∧ Below w1.heap.size w1 w') := fun w1 v1 R h => notFull_own h
  clear hf
  go_enter Tryz.func14, Tryz.ntmps14
  go_wp2_with (go_at_call 25; refine HSP.out.mono ?_; rintro e w2 ⟨v2, rfl, ⟨N, rfl, hN, hc⟩, hb2⟩; have HO2 := hide3 hb2; have HC : Hid (∀ w1, Below w2.heap.size w2 w1 → ∀ i (h : i < ps.length), w1.cell? ⟨N, i, none⟩ = some (.string ps[i])) := (fun w1 hb i hi => (hb.cell (p := ⟨N, i, none⟩) hN).trans (hc i hi)); clear hc hb2)
  go_loopw [4, 15] (fun out i wr => ∃ (k : Nat) (R : Rg), k ≤ ps.length ∧ i = .int .i64 k ∧ RangeR R ∧ OwnS wr w.heap.size out (R.map spR) ∧ Below w2.heap.size w2 wr ∧ altF [] ps = altF R (ps.drop k)) (fun _ i _ => ps.length - (intOf i).toNat)
  case atStart => exact ⟨0, [], Nat.zero_le _, rfl, trivial, OwnS.nil _ _, Below.refl _ _, rfl⟩
  case round =>
    obtain ⟨k, R, hk, rfl, hR, hS, hb, heq⟩ := hrel
    have HR := hide3 hR
    have HS := hide3 hS
    have HB := hide3 hb
    have HEQ := hide3 heq
    clear hR hS heq
    by_cases hlt : k < ps.length
    · have hcell := HC.out wr hb k hlt
      have HD : Hid (ps.drop k = ps[k] :: ps.drop (k + 1)) := List.drop_eq_getElem_cons hlt
      have HWq := hide3 (HW.out _ (List.getElem_mem hlt) wr (below_then HO2.out HB.out))
      generalize ps[k] = a at *
      clear hb
      cases hw : wordsB (piecesB a ⟨#[32]⟩)
      · have HEQ1 : Hid (altF [] ps = none) := by unfold Hid; rw [HEQ.out, HD.out, altF, hw]; rfl
        rw [hw] at HWq
        go_wp2_with (go_at_call 26; refine HWq.out.mono ?_; rintro e w3 ⟨v3, rfl, ok3⟩; have HO3 := hide3 ok3; clear ok3)
        go_ret2
        exact ⟨_, by rw [HEQ1.out]; rfl, by rw [HEQ1.out]; exact OwnS.nil _ _, below_then (below_then HO2.out HB.out) HO3.out.2⟩
      · have HEQ1 : Hid (altF [] ps = altF (joinR R (wordsL (piecesB a ⟨#[32]⟩))) (ps.drop (k + 1))) := by unfold Hid; rw [HEQ.out, HD.out, altF, hw]; rfl
        have HX := hide3 (wordsL_rg (piecesB a ⟨#[32]⟩))
        rw [hw] at HWq
        clear hw
        generalize wordsL (piecesB a ⟨#[32]⟩) = X at *
        go_wp2_with (first
          | (go_at_call 26; refine HWq.out.mono ?_; rintro e w3 ⟨v3, rfl, ok3⟩; have HO3 := hide3 ok3; clear ok3)
          | (go_at_call 19; refine (HJ.out _ _ _ R X (below_then (below_then HO2.out HB.out) HO3.out.2) HR.out HX.out (HS.out.spans.below HO3.out.2) HO3.out.1).mono ?_; rintro e w4 ⟨v4, rfl, ok4⟩; have HO4 := hide3 ok4; clear ok4))
        exact ⟨⟨k + 1, joinR R X, by omega, by go_num, HR.out.join HX.out, HO4.out.1.base (below_then (below_then HO2.out HB.out) HO3.out.2).size, below_then (below_then HB.out HO3.out.2) HO4.out.2, HEQ1.out⟩, by simp [intOf]; omega⟩
    · have hke : k = ps.length := by omega
      subst hke
      have HEQ1 : Hid (altF [] ps = some R) := by unfold Hid; rw [HEQ.out, List.drop_length]; rfl
      clear hb
      go_wp2_with (go_at_call 27; refine (HN.out _ _ R HS.out).mono ?_; rintro e w3 ⟨v3, rfl, ok3⟩; have HO3 := hide3 ok3; clear ok3)
      go_ret2
      exact ⟨v3, by rw [HEQ1.out]; rfl, by rw [HEQ1.out]; exact HO3.out.1, below_then (below_then HO2.out HB.out) HO3.out.2⟩

theorem sParse_long (s : ByteArray) (hs : (4096 : Int) < (s.size : Int)) (w : World) :
    Calls Tryz.prog 14 #[.string s] w fun e w' => e = .returned (.tuple #[.slice none 0 0, .int .i64 21]) ∧ Below w.heap.size w w' := by
  go_enter Tryz.func14, Tryz.ntmps14
  go_wp2
  go_ret2
  exact ⟨rfl, Below.refl _ _⟩

/-- Every word of a text is plain enough. -/
def PlainT (s : ByteArray) : Prop := ∀ a ∈ piecesB s ⟨#[124, 124]⟩, ∀ p ∈ piecesB a ⟨#[32]⟩, p.size ≠ 0 → Plain8 p

theorem sWords_any (s : ByteArray) (hs : s.size ≤ 4096) (hp : ∀ p ∈ piecesB s ⟨#[32]⟩, p.size ≠ 0 → Plain8 p) (w : World) (he : Env w) (hf : FL w) :
    Calls Tryz.prog 26 #[.string s] w fun e w' => ∃ v, e = .returned (.tuple #[v, .bool (wordsB (piecesB s ⟨#[32]⟩))]) ∧ SpansR w' v (wordsL (piecesB s ⟨#[32]⟩)) ∧ Below w.heap.size w w' := by
  have hl := pieces_len s ⟨#[32]⟩ (by decide)
  have hc := Lib.countB_le ⟨#[32]⟩ (by decide) s.size s (Nat.le_refl _)
  refine words_walk s _ (by omega) w hf (fun w1 hb => Split_on he s ⟨#[32]⟩ (by omega) (by decide) w1 hb) ?_
  intro p hm h0 w1 hb
  have := pieces_size _ _ _ p hm
  exact word_any p (by omega) (hp p hm h0) w1 (he.below hb) (hf.below hb)

theorem sParse_any (s : ByteArray) (hs : s.size ≤ 4096) (hp : PlainT s) (w : World) (he : Env w) (hf : FL w) :
    Calls Tryz.prog 14 #[.string s] w fun e w' => ∃ v, e = .returned (.tuple #[v, .int .i64 (parE (altR s))]) ∧ OwnS w' w.heap.size v ((parL (altR s)).map spR) ∧ Below w.heap.size w w' := by
  have hl := pieces_len s ⟨#[124, 124]⟩ (by decide)
  have hc := Lib.countB_le ⟨#[124, 124]⟩ (by decide) s.size s (Nat.le_refl _)
  refine sParse_walk s _ (by omega) (by omega) w hf (Split_on he s ⟨#[124, 124]⟩ (by omega) (by decide) w (Below.refl _ _)) ?_
  intro a hm w1 hb
  have := pieces_size _ _ _ a hm
  exact sWords_any a (by omega) (hp a hm) w1 (he.below hb) (hf.below hb)
end Go.Proofs.YtkmgfemhfibikaaGreatDoor
