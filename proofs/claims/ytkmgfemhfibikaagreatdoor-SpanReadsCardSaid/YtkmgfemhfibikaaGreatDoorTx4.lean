/- words of package span: what an alternative has. -/
import Derived.Test.YtkmgfemhfibikaaGreatDoorTx3
namespace Go.Proofs.YtkmgfemhfibikaaGreatDoor
open Go.RowKit
set_option maxRecDepth 100000

/-- Texts lie in a row in memory. -/
def Pieces (w : World) (v : Value) (ps : List ByteArray) : Prop := ∃ N, v = .slice (some ⟨N, 0, none⟩) ps.length ps.length ∧ N < w.heap.size ∧ ∀ i (h : i < ps.length), w.cell? ⟨N, i, none⟩ = some (.string ps[i])
theorem Pieces.below {w w' : World} {v : Value} {ps : List ByteArray} (h : Pieces w v ps) (hb : Below w.heap.size w w') : Pieces w' v ps := by
  obtain ⟨N, hv, hN, hc⟩ := h
  exact ⟨N, hv, Nat.lt_of_lt_of_le hN hb.size, fun i hi => (hb.cell (p := ⟨N, i, none⟩) hN).trans (hc i hi)⟩

/-- What stands between separators. -/
def piecesB (s sep : ByteArray) : List ByteArray := Lib.splitB sep 0 (Lib.countB s sep) s
theorem pieces_len (s sep : ByteArray) (h1 : 1 ≤ sep.size) : (piecesB s sep).length = Lib.countB s sep + 1 := Lib.splitB_all sep h1 0 _ s rfl
theorem pieces_size (sep : ByteArray) : ∀ (k : Nat) (s : ByteArray), ∀ p ∈ Lib.splitB sep 0 k s, p.size ≤ s.size
  | 0, s, p, hp => by rw [Lib.splitB_zero] at hp; simp at hp; subst hp; exact Nat.le_refl _
  | k + 1, s, p, hp => by
    unfold Lib.splitB at hp
    split at hp
    · simp at hp; subst hp; exact Nat.le_refl _
    · rcases List.mem_cons.1 hp with rfl | hp
      · rw [ByteArray.size_extract]; omega
      · have := pieces_size sep k _ p hp
        rw [ByteArray.size_extract] at this
        omega

theorem Split_on {W : World} (he : Env W) (s sep : ByteArray) (hs : s.size < 4294967281) (h1 : 1 ≤ sep.size) (w1 : World) (hb : Below W.heap.size W w1) :
    Calls Tryz.prog 25 #[.string s, .string sep] w1 fun e w' => ∃ v, e = .returned v ∧ Pieces w' v (piecesB s sep) ∧ Below w1.heap.size w1 w' := by
  obtain ⟨m, hm⟩ := (he.below hb).max
  have hl := pieces_len s sep h1
  refine (Tryz.strings_Split s sep m w1 hs hm h1).mono ?_
  rintro e w' ⟨rfl, rfl⟩
  refine ⟨_, rfl, ⟨w1.heap.size, by rw [hl], by simp, fun i hi => ?_⟩, boxB _ _⟩
  have : (Lib.splitB sep 0 (Lib.countB s sep) s) = piecesB s sep := rfl
  rw [this]
  simp [hi]

/-- What words have in common, from a range on; whether there was one. -/
def wordsF : Rg → Bool → List ByteArray → Option (Rg × Bool)
  | R, f, [] => some (R, f)
  | R, f, p :: ps => if p.size = 0 then wordsF R f ps else match wordR p with
    | none => none
    | some X => wordsF (meetR R X) true ps
def wordsB (ps : List ByteArray) : Bool := match wordsF allR false ps with
  | some (_, f) => f
  | none => false
def wordsL (ps : List ByteArray) : Rg := match wordsF allR false ps with
  | some (R, _) => R
  | none => []
theorem wordsF_rg : ∀ {ps : List ByteArray} {R R' : Rg} {f f' : Bool}, RangeR R → wordsF R f ps = some (R', f') → RangeR R'
  | [], _, _, _, _, h, e => by simp only [wordsF, Option.some.injEq, Prod.mk.injEq] at e; rw [← e.1]; exact h
  | p :: ps, R, _, f, _, h, e => by
    unfold wordsF at e
    split at e
    · exact wordsF_rg h e
    · split at e
      · cases e
      · rename_i X hX
        exact wordsF_rg (h.meet (word_rg hX)) e
theorem wordsL_rg (ps : List ByteArray) : RangeR (wordsL ps) := by
  unfold wordsL
  split
  · rename_i h; exact wordsF_rg allR_ok h
  · trivial

theorem empty_size {p : ByteArray} : p.toList.isEmpty = decide (p.size = 0) := by
  rw [ByteArray.toList_eq]
  have := list_size p
  cases h : p.data.toList with
  | nil => rw [h, List.length_nil] at this; exact (decide_eq_true this.symm).symm
  | cons _ _ => rw [h, List.length_cons] at this; exact (decide_eq_false (by omega)).symm

set_option maxHeartbeats 3200000 in
theorem words_walk (s : ByteArray) (ps : List ByteArray) (hlen : ps.length ≤ 1000000000) (w : World) (hf : FL w)
    (HSP : Hid (∀ w1, Below w.heap.size w w1 → Calls Tryz.prog 25 #[.string s, .string ⟨#[32]⟩] w1 fun e w' => ∃ v, e = .returned v ∧ Pieces w' v ps ∧ Below w1.heap.size w1 w'))
    (HW : Hid (∀ p ∈ ps, p.size ≠ 0 → ∀ w1, Below w.heap.size w w1 → Calls Tryz.prog 44 #[.string p] w1 fun e w' => ∃ v, e = .returned (.tuple #[v, .bool (wordR p).isSome]) ∧ SpansR w' v ((wordR p).getD []) ∧ Below w1.heap.size w1 w')) :
    Calls Tryz.prog 26 #[.string s] w fun e w' => ∃ v, e = .returned (.tuple #[v, .bool (wordsB ps)]) ∧ SpansR w' v (wordsL ps) ∧ Below w.heap.size w w' := by
  have HAll := hide3 (All_rg hf)
  have HM : Hid (∀ w1 v1 v2 (R X : Rg), RangeR R → RangeR X → SpansR w1 v1 R → SpansR w1 v2 X → Calls Tryz.prog 17 #[v1, v2] w1 fun e w' => ∃ v, e = .returned v ∧ OwnS w' w1.heap.size v ((meetR R X).map spR) ∧ Below w1.heap.size w1 w') := fun w1 v1 v2 R X h1 h2 h3 h4 => meet_rg h1 h2 h3 h4
  clear hf
  go_enter Tryz.func26, Tryz.ntmps26
  go_wp2_with (first
    | (go_at_call 23; refine HAll.out.mono ?_; rintro e w1 ⟨v1, rfl, ok1⟩; have HO1 := hide3 ok1; clear ok1 HAll)
    | (go_at_call 25; refine (HSP.out _ HO1.out.2).mono ?_; rintro e w2 ⟨v2, rfl, ⟨N, rfl, hN, hc⟩, hb2⟩; have HO2 : Hid (SpansR w2 v1 allR ∧ Below w.heap.size w w2) := ⟨HO1.out.1.below hb2, below_then HO1.out.2 hb2⟩; have HC : Hid (∀ w1, Below w2.heap.size w2 w1 → ∀ i (h : i < ps.length), w1.cell? ⟨N, i, none⟩ = some (.string ps[i])) := (fun w1 hb i hi => (hb.cell (p := ⟨N, i, none⟩) hN).trans (hc i hi)); clear hc hb2 HO1))
  go_loopw [4, 5, 14] (fun out fo i wr => ∃ (k : Nat) (R : Rg) (f : Bool), k ≤ ps.length ∧ i = .int .i64 k ∧ fo = .bool f ∧ RangeR R ∧ SpansR wr out R ∧ Below w2.heap.size w2 wr ∧ wordsF allR false ps = wordsF R f (ps.drop k)) (fun _ _ i _ => ps.length - (intOf i).toNat)
  case atStart => exact ⟨0, allR, false, Nat.zero_le _, rfl, rfl, allR_ok, HO2.out.1, Below.refl _ _, rfl⟩
  case round =>
    obtain ⟨k, R, f, hk, rfl, rfl, hR, hS, hb, heq⟩ := hrel
    have HR := hide3 hR
    have HS := hide3 hS
    have HB := hide3 hb
    have HEQ := hide3 heq
    clear hR hS heq
    by_cases hlt : k < ps.length
    · have hcell := HC.out wr hb k hlt
      have HD : Hid (ps.drop k = ps[k] :: ps.drop (k + 1)) := List.drop_eq_getElem_cons hlt
      have HWp := hide3 (HW.out _ (List.getElem_mem hlt))
      generalize ps[k] = p at *
      clear hb
      by_cases hp : p.size = 0
      · have hem : p.toList.isEmpty = true := by rw [empty_size]; simpa using hp
        have HEQ1 : Hid (wordsF allR false ps = wordsF R f (ps.drop (k + 1))) := by unfold Hid; rw [HEQ.out, HD.out, wordsF, if_pos hp]
        clear hp
        go_wp2
        exact ⟨⟨k + 1, R, f, by omega, by go_num, rfl, HR.out, HS.out, HB.out, HEQ1.out⟩, by simp [intOf]; omega⟩
      · have hem : p.toList.isEmpty = false := by rw [empty_size]; simpa using hp
        have HWq := hide3 (HWp.out hp wr (below_then HO2.out.2 HB.out))
        clear HWp
        cases hw : wordR p with
        | none =>
          have HEQ1 : Hid (wordsB ps = false ∧ wordsL ps = []) := by unfold Hid wordsB wordsL; rw [HEQ.out, HD.out, wordsF, if_neg hp, hw]; exact ⟨rfl, rfl⟩
          rw [hw] at HWq
          simp only [Option.isSome_none, Option.getD_none] at HWq
          clear hp hw
          go_wp2_with (go_at_call 44; refine HWq.out.mono ?_; rintro e w3 ⟨v3, rfl, ok3⟩; have HO3 := hide3 ok3; clear ok3)
          go_ret2
          exact ⟨_, by rw [HEQ1.out.1]; rfl, by rw [HEQ1.out.2]; exact ⟨none, 0, rfl, Nat.le_refl _, Or.inl rfl⟩, below_then (below_then HO2.out.2 HB.out) HO3.out.2⟩
        | some X =>
          have HX := hide3 (word_rg hw)
          have HEQ1 : Hid (wordsF allR false ps = wordsF (meetR R X) true (ps.drop (k + 1))) := by unfold Hid; rw [HEQ.out, HD.out, wordsF, if_neg hp, hw]
          rw [hw] at HWq
          simp only [Option.isSome_some, Option.getD_some] at HWq
          clear hp hw
          go_wp2_with (first
            | (go_at_call 44; refine HWq.out.mono ?_; rintro e w3 ⟨v3, rfl, ok3⟩; have HO3 := hide3 ok3; clear ok3)
            | (go_at_call 17; refine (HM.out _ _ _ R X HR.out HX.out (HS.out.below HO3.out.2) HO3.out.1).mono ?_; rintro e w4 ⟨v4, rfl, ok4⟩; have HO4 := hide3 ok4; clear ok4))
          exact ⟨⟨k + 1, meetR R X, true, by omega, by go_num, rfl, HR.out.meet HX.out, HO4.out.1.spans, below_then (below_then HB.out HO3.out.2) HO4.out.2, HEQ1.out⟩, by simp [intOf]; omega⟩
    · have hke : k = ps.length := by omega
      subst hke
      have HEQ1 : Hid (wordsB ps = f ∧ wordsL ps = R) := by unfold Hid wordsB wordsL; rw [HEQ.out, List.drop_length]; exact ⟨rfl, rfl⟩
      clear hb
      go_wp2
      go_ret2
      exact ⟨_, by rw [HEQ1.out.1]; rfl, by rw [HEQ1.out.2]; exact HS.out, below_then HO2.out.2 HB.out⟩
end Go.Proofs.YtkmgfemhfibikaaGreatDoor
