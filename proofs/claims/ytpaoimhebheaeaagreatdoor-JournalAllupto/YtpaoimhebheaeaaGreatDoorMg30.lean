/- Jl8, laid in one text. -/
import Derived.Test.YtpaoimhebheaeaaGreatDoorMg29
namespace Go.Proofs.YtpaoimhebheaeaaGreatDoor
open Go.RowKit Go.Maps Go.WideMaps Go.WideElems Dk
set_option maxRecDepth 100000

/-- Numbers in memory. -/
def IsInts (w : World) (a : Option Addr) (cs : List Int) : Prop := cs = [] ∨ ∃ g off, a = some ⟨g, off, none⟩ ∧ g < w.heap.size ∧ ∀ i (hi : i < cs.length), w.cell? ⟨g, off + i, none⟩ = some (.int .i64 cs[i])
theorem IsInts.below {w w' : World} {a : Option Addr} {cs : List Int} (h : IsInts w a cs) (hb : Below w.heap.size w w') : IsInts w' a cs := by
  rcases h with h | ⟨g, off, rfl, hg, hc⟩
  · exact Or.inl h
  · exact Or.inr ⟨g, off, rfl, Nat.lt_of_lt_of_le hg hb.size, fun i hi => (hb.cell (p := ⟨g, off + i, none⟩) hg).trans (hc i hi)⟩
/-- The plan's text is of an ordinary size. -/
def Ord18 (x : Ab) : Prop := (readT x.D pP).size ≤ 4194304 ∧ (parO (readT x.D pP)).2.length ≤ 1048576
theorem ord_empty {x : Ab} (h : readT x.D pP = ByteArray.empty) : Ord18 x := by
  unfold Ord18
  rw [h, par_empty]
  exact ⟨by decide, by decide⟩
theorem ord_rec {x : Ab} (h : Ord18 x) : Ord18 (recA x).2 := by
  rcases rec_read x with e | e
  · unfold Ord18; rw [e]; exact h
  · exact ord_empty e
theorem commit_bad {l : List De} {x : Ab} (h : ¬ Plan l) : (commitA l x).2 = x := by
  unfold commitA
  split
  · rfl
  · split
    · rfl
    · rw [if_pos (canR_no h)]
theorem ord_commit {l : List De} {x : Ab} (hf : Fine x) (h : Ord18 x) (h1 : (textD l).size ≤ 4194304) (h2 : l.length ≤ 1048576) : Ord18 (commitA l x).2 := by
  by_cases hp : Plan l
  · rcases commit_read (l := l) hf with e | e | e
    · unfold Ord18; rw [e]; exact h
    · exact ord_empty e
    · unfold Ord18
      rw [e, parO_text hp]
      exact ⟨h1, h2⟩
  · rw [commit_bad hp]; exact h
theorem commit_KL {B : Nat} {w : World} {e : Nat} {lv rv : Value} {x : Ab} {k : Nat} (h : RefK B w e lv rv x k) (l : List De) (a : Option Addr) (cap : Nat) (hd : ∀ W, Upd (FootR e lv rv) w W → IsDes W a l) (hz : ∀ d ∈ l, d.pa.size ≤ maxLen ∧ d.da.size ≤ 100000000) (hsz : (textD l).size ≤ 4194304) (hl : l.length ≤ 8388608) (hk : k + l.length + 8 < 2199023255552) :
    Calls Tryz.prog 13 #[.pointer (some ⟨e, 0, none⟩), .slice a l.length cap] w fun e' w' => e' = .returned (.int .i64 (commitA l x).1) ∧ RefT B w e lv rv (commitA l x).2 (k + l.length + 6) w' := commit_K h l a cap hd hz (by omega) hl hk
theorem Bth.commit {w0 w : World} {d e : Nat} {x : Ab} {m : Int} {k : Nat} (h : Bth w0.heap.size w d e x m k) (l : List De) (a : Option Addr) (cap : Nat) (hd : IsDes w0 a l) (hb : Below w0.heap.size w0 w) (hz : ∀ d ∈ l, d.pa.size ≤ maxLen ∧ d.da.size ≤ 100000000) (hsz : (textD l).size ≤ 4194304) (hl : l.length ≤ 8388608) (hk : k + l.length + 8 < 2199023255552) :
    Calls Tryz.prog 12 #[.pointer (some ⟨d, 0, none⟩), .slice a l.length cap] w fun e1 w1 => e1 = .returned (.int .i64 (commitA l x).1) ∧ Calls Tryz.prog 13 #[.pointer (some ⟨e, 0, none⟩), .slice a l.length cap] w1 fun e2 w2 => e2 = .returned (.int .i64 (commitA l x).1) ∧ Bth w0.heap.size w2 d e (commitA l x).2 m (k + l.length + 6) ∧ Below w0.heap.size w w2 :=
  h.call (fun _ _ _ hp => commit_P hp l a cap (des_old hd hb rfl hp) hz hsz hl hk) (fun _ _ _ hb2 hr => commit_KL hr l a cap (fun _ hu => hd.below ((hb.trans hb2).trans (hu.below hr.base fun _ hi => (hr.ref.foot_lt hi).2))) hz hsz hl hk)

end Go.Proofs.YtpaoimhebheaeaaGreatDoor
