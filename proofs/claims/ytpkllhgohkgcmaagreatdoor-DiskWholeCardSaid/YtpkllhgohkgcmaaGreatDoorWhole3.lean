/- What the walk of DiskWhole leans on: files compared, found or not. -/
import Derived.Test.YtpkllhgohkgcmaaGreatDoorWhole2
namespace Go.Proofs.YtpkllhgohkgcmaaGreatDoor
open Go.RowKit Go.Maps Go.WideMaps Go.WideElems Go.Sort Go.Shelf
set_option maxRecDepth 100000

theorem Two.put {B : Nat} {w : World} {d e : Nat} {x : Ab} {m : Int} {k : Nat} (h : Two B w d e x m k) {a : Addr} (ha : a.block < B) (h0 : a.block ≠ 0) (v : Value) : Two B (w.setCell a v) d e x m k := by
  obtain ⟨mb, n, rv, lv, rw', h1, h2, h3, h4⟩ := h.ex
  exact { ex := ⟨mb, n, rv, lv, rw', h1.upd (Upd.setCell w a v) (fun j hf e => by have := (h1.foot_lt hf).2; omega), h2.upd (Upd.setCell w a v) (fun j hf e => by have := (h2.foot_lt hf).2; omega), h3, h4⟩, sound := h.sound, len := h.len, lo := h.lo, hi := h.hi, max := by rw [World.cell?_setCell_other _ _ _ _ (fun e => h0 (by rw [e]))]; exact h.max, base := by simpa using h.base, zero := h.zero }

theorem below_then' {w w1 w' : World} (h : Below w.heap.size w w1) (hb : Below w1.heap.size w1 w') : Below w.heap.size w w' := h.trans (hb.mono h.size)

theorem below_both {B : Nat} {w w' : World} (h : Below B w w') (a : Addr) (v : Value) : Below B (w.setCell a v) (w'.setCell a v) := by
  refine ⟨h.os, h.tape, h.output, by simpa using h.size, fun k hk => ?_⟩
  have hb := h.block k hk
  unfold World.setCell
  simp only [Array.getElem?_modify, hb]

/-- Where a list of files lies. -/
theorem row_at {w : World} {B : Nat} {ao : Option Addr} {cap : Nat} {F : List Fl} (h : w.ownsRow B 49 3 (.slice ao F.length cap) F.length (fileCells F)) :
    ∃ ga, (0 < F.length → ao = some ⟨ga, 0, none⟩ ∧ B ≤ ga ∧ ga < w.heap.size) ∧ ∀ j u, (fileCells F)[j]? = some u → w.cell? ⟨ga, j, none⟩ = some u := by
  rcases h.2 with ⟨_, h0⟩ | ⟨ga, cap', cur, hv, hb, hbk, _⟩
  · refine ⟨0, fun h1 => by omega, fun j u hj => ?_⟩
    have : F = [] := List.eq_nil_of_length_eq_zero h0
    subst this
    simp [fileCells] at hj
  · cases hv
    refine ⟨ga, fun _ => ⟨rfl, hb, ?_⟩, row_cells h⟩
    rcases Nat.lt_or_ge ga w.heap.size with h' | h'
    · exact h'
    · rw [Array.getElem?_eq_none h'] at hbk; cases hbk

theorem files_at (F : List Fl) (hlen : F.length ≤ 2199023255552) (ao bo : Option Addr) (ca cb ga gb : Nat) (w : World) (hao : 0 < F.length → ao = some ⟨ga, 0, none⟩) (hbo : 0 < F.length → bo = some ⟨gb, 0, none⟩)
    (ha : ∀ j u, (fileCells F)[j]? = some u → w.cell? ⟨ga, j, none⟩ = some u) (hb : ∀ j u, (fileCells F)[j]? = some u → w.cell? ⟨gb, j, none⟩ = some u) :
    Calls Tryz.prog 15 #[.slice ao F.length ca, .slice bo F.length cb] w fun e w' => e = .returned (.bool true) ∧ ∃ q, w' = w.drewN q := by
  rcases Nat.eq_zero_or_pos F.length with h0 | h0
  · rw [h0]; exact files_nil ao bo ca cb w
  · rw [hao h0, hbo h0]
    exact files_walk F ga gb ca cb w hlen ha hb

theorem eqlFile_same (p : ByteArray) (c : Bool) (t : ByteArray) (w : World) : (binOp .eql 49 (.agg #[.string p, .bool c, .string t]) (.agg #[.string p, .bool c, .string t])).run Tryz.prog w = .ok (.bool true) w := by
  have u3 := Tryz.underlying4
  have a3 := Tryz.isAgg4
  have z3 := Tryz.sizeOf4
  have u9 := Tryz.underlying9
  have a9 := Tryz.isAgg9
  have z9 := Tryz.sizeOf9
  have hS : Tryz.prog.underlying 49 = some (.struct (Tryz.prog.fieldsOf 49)) := by kernel_rfl
  have hp : Tryz.prog.stoodInHeld 49 = false := by kernel_rfl
  rw [run_eql_struct, show (10000 : Nat) = 9999 + 1 from rfl, run_equalIn_agg w 9999 49 _ _ hS hp]
  simp only [Program.fieldsOf, Tryz.underlying49]
  go_simp

theorem eqlFile_diff (p : ByteArray) (c : Bool) (t : ByteArray) (p' : ByteArray) (c' : Bool) (t' : ByteArray) (h : (p, c, t) ≠ (p', c', t')) (w : World) : (binOp .eql 49 (.agg #[.string p, .bool c, .string t]) (.agg #[.string p', .bool c', .string t'])).run Tryz.prog w = .ok (.bool false) w := by
  have u3 := Tryz.underlying4
  have a3 := Tryz.isAgg4
  have z3 := Tryz.sizeOf4
  have u9 := Tryz.underlying9
  have a9 := Tryz.isAgg9
  have z9 := Tryz.sizeOf9
  have hS : Tryz.prog.underlying 49 = some (.struct (Tryz.prog.fieldsOf 49)) := by kernel_rfl
  have hp : Tryz.prog.stoodInHeld 49 = false := by kernel_rfl
  rw [run_eql_struct, show (10000 : Nat) = 9999 + 1 from rfl, run_equalIn_agg w 9999 49 _ _ hS hp]
  simp only [Program.fieldsOf, Tryz.underlying49]
  by_cases h1 : (p.toList == p'.toList) = true
  · by_cases h2 : c = c'
    · have h3 : (t.toList == t'.toList) = false := by
        rw [Bool.eq_false_iff]
        intro h3
        exact h (by rw [beq_bytes.1 h1, h2, beq_bytes.1 h3])
      subst h2
      go_simp
    · go_simp
  · rw [Bool.not_eq_true] at h1
    go_simp

/-- A bool that tells whether something is so. -/
def Fnd (b : Bool) (P : Prop) : Prop := b = true ↔ P
theorem Fnd.yes {P : Prop} (h : P) : Fnd true P := ⟨fun _ => h, fun _ => rfl⟩
theorem Fnd.no {P : Prop} (h : ¬ P) : Fnd false P := ⟨fun q => (nomatch q), fun q => absurd q h⟩
theorem Fnd.is {P : Prop} (h : Fnd true P) : P := h.1 rfl
theorem Fnd.not {P : Prop} (h : Fnd false P) : ¬ P := fun q => (nomatch (h.2 q))
theorem Fnd.of {b : Bool} {P : Prop} (h : Fnd b P) (q : P) : b = true := h.2 q

theorem at_ways (K : Int) (xp xt f0 : ByteArray) : ∃ b0 : Bool, Hid (Fnd b0 (atPath K xp xt f0)) ∧ (((f0.toList == xp.toList) = true ∧ b0 = true) ∨ ((f0.toList == xp.toList) = false ∧ (K == 2) = false ∧ b0 = false) ∨ ((f0.toList == xp.toList) = false ∧ (K == 2) = true ∧ (f0.toList == xt.toList) = true ∧ b0 = true) ∨ ((f0.toList == xp.toList) = false ∧ (K == 2) = true ∧ (f0.toList == xt.toList) = false ∧ b0 = false)) := by
  unfold Hid
  cases h1 : (f0.toList == xp.toList)
  · have n1 : f0 ≠ xp := fun e => by rw [beq_bytes.2 e] at h1; cases h1
    cases h2 : (K == 2)
    · have n2 : K ≠ 2 := beq_eq_false_iff_ne.1 h2
      exact ⟨false, Fnd.no (by unfold atPath; simp [n1, n2]), by simp⟩
    · have n2 : K = 2 := beq_iff_eq.1 h2
      cases h3 : (f0.toList == xt.toList)
      · have n3 : f0 ≠ xt := fun e => by rw [beq_bytes.2 e] at h3; cases h3
        exact ⟨false, Fnd.no (by unfold atPath; simp [n1, n3]), by simp⟩
      · exact ⟨true, Fnd.yes (Or.inr ⟨n2, beq_bytes.1 h3⟩), by simp⟩
  · exact ⟨true, Fnd.yes (Or.inl (beq_bytes.1 h1)), by simp⟩

theorem take_none {F : List Fl} {x : Fl} {b : Bool} {P : Prop} (h : Fnd b P) : Fnd b (P ∨ x ∈ F.take 0) := by
  rw [List.take_zero]
  cases b
  · exact Fnd.no (fun q => by rcases q with q | q; exact h.not q; cases q)
  · exact Fnd.yes (Or.inl h.is)
theorem take_hit {F : List Fl} {l : Nat} {x : Fl} {P : Prop} (hl : l < F.length) (e : F[l] = x) : Fnd true (P ∨ x ∈ F.take (l + 1)) := by
  refine Fnd.yes (Or.inr ?_)
  rw [List.take_succ_eq_append_getElem hl, e]
  simp
theorem take_miss {F : List Fl} {l : Nat} {x : Fl} {P : Prop} (hl : l < F.length) (h : Fnd false (P ∨ x ∈ F.take l)) (e : F[l] ≠ x) : Fnd false (P ∨ x ∈ F.take (l + 1)) := by
  refine Fnd.no (fun q => ?_)
  rcases q with q | q
  · exact h.not (Or.inl q)
  · rw [List.take_succ_eq_append_getElem hl, List.mem_append, List.mem_singleton] at q
    rcases q with q | q
    · exact h.not (Or.inr q)
    · exact e q.symm
theorem take_yes {F : List Fl} {l : Nat} {x : Fl} {P : Prop} (h : Fnd true (P ∨ x ∈ F.take l)) : Fnd true (P ∨ x ∈ F.take (l + 1)) := by
  refine Fnd.yes ?_
  rcases h.is with q | q
  · exact Or.inl q
  · exact Or.inr (List.Sublist.mem q (List.take_sublist_take_left (by omega)))
theorem draws_two (w : World) (a b : Nat) : (w.drewN a).drewN b = w.drewN (a + b) := by
  unfold World.drewN; simp only [Nat.add_assoc]

end Go.Proofs.YtpkllhgohkgcmaaGreatDoor
