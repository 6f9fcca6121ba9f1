/- Jl4, laid in one text. -/
import Derived.Test.YtpaoimhebheaeaaGreatDoorMg25
namespace Go.Proofs.YtpaoimhebheaeaaGreatDoor
open Go.RowKit Go.Maps Go.WideMaps Go.WideElems Dk
set_option maxRecDepth 100000

theorem read_mem {D : DataW Unit} (hP : Plain D) (s : ByteArray) : readT D s = ByteArray.empty ∨ ∃ f ∈ filesD D, f.1 = s ∧ f.2.1 = false ∧ readT D s = f.2.2 := by
  by_cases he : (readE D s == 0) = true
  · right
    have h0 := beq_iff_eq.1 he
    obtain ⟨k0, k2⟩ := read_kind h0
    have hr : (s.toList == [47]) = false := by
      cases q : (s.toList == [47])
      · rfl
      · exfalso
        apply k2
        unfold kindD
        rw [if_pos q]
    have hh : Maps.has D (keyD s) = true := by
      cases q : Maps.has D (keyD s)
      · exact absurd (kind_none hr q) k0
      · rfl
    obtain ⟨y, hy, rfl⟩ := (has_mem hP s).1 hh
    obtain ⟨_, hat⟩ := (hP.good.mem y).1 hy
    refine ⟨y, hy, rfl, ?_, ?_⟩
    · cases q : y.2.1
      · rfl
      · exfalso
        apply k2
        rw [kindP_in hP hy, q]
        rfl
    · unfold readT
      rw [he, if_pos rfl, hat, itData_mk, bytes_mk]
  · left
    unfold readT
    rw [if_neg he]
theorem read_load {fs : List Fl} (hL : Loads fs) {b : Nat} (hz : ∀ f ∈ fs, f.2.2.size ≤ b) (s : ByteArray) : (readT (loadD fs) s).size ≤ b := by
  have hP := loads_plainJ hL
  rcases read_mem hP s with e | ⟨f, hf, _, _, e⟩
  · rw [e]; exact Nat.zero_le _
  · rw [e]; exact hz f ((mem_files_load (loads_apart hL.1) hP.good f).1 hf)
theorem rec_KL {B : Nat} {w : World} {e : Nat} {lv rv : Value} {x : Ab} {k : Nat} (h : RefK B w e lv rv x k) (ht : (readT x.D pP).size ≤ 4194304) (hk : k + (parO (readT x.D pP)).2.length + 4 < 2199023255552) :
    Calls Tryz.prog 18 #[.pointer (some ⟨e, 0, none⟩)] w fun e' w' => e' = .returned (.int .i64 (recA x).1) ∧ RefT B w e lv rv (recA x).2 (k + (parO (readT x.D pP)).2.length + 3) w' := by
  have h1 := parO_sizes (readT x.D pP)
  exact rec_K h (fun n q => Nat.le_trans (list_sizes h.fine.pl jn n q) (by decide)) ht (fun d q => Nat.le_trans (h1.2 d q).1 (Nat.le_trans ht (by decide))) hk (by have := h.lf; have := list_len (D := x.D) jn; omega)
/-- Recover of both disks. -/
theorem Bth.recov {B : Nat} {w : World} {d e : Nat} {x : Ab} {m : Int} {k : Nat} (h : Bth B w d e x m k) (ht : (readT x.D pP).size ≤ 4194304) (hk : k + (parO (readT x.D pP)).2.length + 4 < 2199023255552) :
    Calls Tryz.prog 17 #[.pointer (some ⟨d, 0, none⟩)] w fun e1 w1 => e1 = .returned (.int .i64 (recA x).1) ∧ Calls Tryz.prog 18 #[.pointer (some ⟨e, 0, none⟩)] w1 fun e2 w2 => e2 = .returned (.int .i64 (recA x).1) ∧ Bth B w2 d e (recA x).2 m (k + (parO (readT x.D pP)).2.length + 3) ∧ Below B w w2 :=
  h.call (fun _ _ _ hp => rec_P hp ht hk) (fun _ _ _ _ hr => rec_KL hr ht hk)
theorem Bth.cut {B : Nat} {w : World} {d e : Nat} {x : Ab} {m : Int} {k : Nat} (h : Bth B w d e x m k) (z : Int) (hz : z ≤ 9223372036854775807) :
    Calls Tryz.prog 10 #[.pointer (some ⟨d, 0, none⟩), .int .i64 z] w fun e1 w1 => e1 = .returned (.int .i64 (cutE x.left z)) ∧ Calls Tryz.prog 11 #[.pointer (some ⟨e, 0, none⟩), .int .i64 z] w1 fun e2 w2 => e2 = .returned (.int .i64 (cutE x.left z)) ∧ Bth B w2 d e { x with left := cutL x.left z } m (k + 1) ∧ Below B w w2 :=
  h.call (fun _ _ _ hp => pCut hp z hz) (fun _ _ _ _ hr => rCutK hr z hz)
theorem Bth.up {B : Nat} {w : World} {d e : Nat} {x : Ab} {m : Int} {k : Nat} (h : Bth B w d e x m k) :
    Calls Tryz.prog 15 #[.pointer (some ⟨d, 0, none⟩)] w fun e1 w1 => e1 = .returned (.tuple #[]) ∧ Calls Tryz.prog 16 #[.pointer (some ⟨e, 0, none⟩)] w1 fun e2 w2 => e2 = .returned (.tuple #[]) ∧ Bth B w2 d e { x with left := -1 } m (k + 1) ∧ Below B w w2 :=
  h.call (fun _ _ _ hp => pUp hp) (fun _ _ _ _ hr => rUpK hr)

end Go.Proofs.YtpaoimhebheaeaaGreatDoor
