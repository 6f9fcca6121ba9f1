/- Lines of both packages at any text, with any bound. -/
import Derived.Test.YtefcndfeemnglaaGreatDoorScRf2
import Derived.Test.YtefcndfeemnglaaGreatDoorScA
namespace Go.Proofs.YtefcndfeemnglaaGreatDoor.Sc
open Go.RowKit
set_option maxRecDepth 100000

theorem Clone_any (s : ByteArray) (hs : s.size ≤ 281474976710656) (w : World) : Calls Tryz.prog 52 #[.string s] w fun e w' => e = .returned (.string s) ∧ Below w.heap.size w w' := by
  have HC := hide3 (Tryz.stringslite_Clone s w hs)
  go_enter Tryz.func52, Tryz.ntmps52
  go_wp2_with (go_at_call 75; refine HC.out.mono ?_; rintro e w1 ⟨rfl, hb⟩; have HB := hide3 hb; clear hb)
  go_ret
  exact ⟨rfl, HB.out⟩

/-- What both answer, with a bound. -/
def ansE (t : ByteArray) (most : Int) : Int := if most < (t.size : Int) then 25 else linE (scanR t.data.toList [] [] [])
def ansN (t : ByteArray) (most : Int) : Nat := if most < (t.size : Int) then 0 else linN (scanR t.data.toList [] [] [])
def ansL (t : ByteArray) (most : Int) : List (List Bs) := if most < (t.size : Int) then [] else linL (scanR t.data.toList [] [] [])
/-- A new answer. -/
def LinesQ (w : World) (e1 : Int) (n : Nat) (L : List (List Bs)) (e : Ending) (w' : World) : Prop := ∃ v, e = .returned (.tuple #[v, .int .i64 e1, .int .i64 (n : Int)]) ∧ OwnLL w' w.heap.size v L ∧ Below w.heap.size w w'

theorem Lines_far (t : ByteArray) (most : Int) (hm : most < (t.size : Int)) (w : World) : Calls Tryz.prog 30 #[.string t, .int .i64 most] w (LinesQ w 25 0 []) := by
  go_enter Tryz.func30, Tryz.ntmps30
  go_wp2
  go_step3
  go_wp2
  rw [Exit.noGoto_ret]
  go_ret3
  exact ⟨_, rfl, ⟨[], rfl, LL.nil _ _⟩, Below.refl _ _⟩

theorem Lines_any (t : ByteArray) (hs : t.size ≤ 4194304) (most : Int) (w : World) : Calls Tryz.prog 30 #[.string t, .int .i64 most] w (LinesQ w (ansE t most) (ansN t most) (ansL t most)) := by
  unfold ansE ansN ansL
  by_cases h : most < (t.size : Int)
  · rw [if_pos h, if_pos h, if_pos h]; exact Lines_far t most h w
  · rw [if_neg h, if_neg h, if_neg h]; exact Lines_walk t hs most h w (fun s h1 w1 => Clone_any s (by omega) w1)

theorem Lines_len (t : ByteArray) (w : World) (hs : t.size ≤ 4194304) {n : Int} (hn : n = (t.size : Int)) : Calls Tryz.prog 30 #[.string t, .int .i64 n] w (LinesP w (scanR t.data.toList [] [] [])) := by
  subst hn
  exact Lines_walk t hs _ (by omega) w (fun s h1 w1 => Clone_any s (by omega) w1)

/-- Lines of a text are not too many. -/
theorem scan_fits : ∀ (t cur : Bs) (ws : List Bs) (ls L : List (List Bs)) (N : Nat), scanR t cur ws ls = .ok L → ls.length + t.length ≤ N → ws.length + t.length ≤ N → (∀ l ∈ ls, l.length ≤ N) → L.length ≤ N ∧ ∀ l ∈ L, l.length ≤ N
  | [], cur, ws, ls, L, N, h, h1, h2, h3 => by
    unfold scanR at h
    split at h
    · cases h; simp at h1; exact ⟨h1, h3⟩
    · cases h
  | b :: r, cur, ws, ls, L, N, h, h1, h2, h3 => by
    simp only [List.length_cons] at h1 h2
    by_cases hb : wB b = true
    · rw [scan_b hb] at h; exact scan_fits r _ _ _ L N h (by omega) (by omega) h3
    · have hb' : wB b = false := by simpa using hb
      by_cases hc : cur = []
      · subst hc; rw [scan_none hb'] at h; cases h
      · by_cases h32 : b = 32
        · subst h32; rw [scan_32 hc] at h; exact scan_fits r _ _ _ L N h (by omega) (by simp; omega) h3
        · by_cases h10 : b = 10
          · subst h10
            rw [scan_10 hc] at h
            refine scan_fits r _ _ _ L N h (by simp; omega) (by simp; omega) ?_
            intro l hl
            rcases List.mem_append.1 hl with hl | hl
            · exact h3 l hl
            · rw [List.mem_singleton.1 hl]; simp; omega
          · rw [scan_bad hb' h32 h10] at h; cases h
theorem lin_fits (t : ByteArray) : (linL (scanR t.data.toList [] [] [])).length ≤ t.size ∧ ∀ l ∈ linL (scanR t.data.toList [] [] []), l.length ≤ t.size := by
  cases h : scanR t.data.toList [] [] [] with
  | error n => exact ⟨Nat.zero_le _, fun l hl => by cases hl⟩
  | ok L => exact scan_fits _ _ _ _ L t.size h (by rw [list_size]; simp) (by rw [list_size]; simp) (fun l hl => by cases hl)
end Go.Proofs.YtefcndfeemnglaaGreatDoor.Sc
