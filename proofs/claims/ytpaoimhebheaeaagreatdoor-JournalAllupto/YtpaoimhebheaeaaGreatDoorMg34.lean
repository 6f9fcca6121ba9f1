/- Jl9, laid in one text. -/
import Derived.BigQuiet
import Derived.Test.YtpaoimhebheaeaaGreatDoorMg33
namespace Go.Proofs.YtpaoimhebheaeaaGreatDoor
open Go.RowKit Go.Maps Go.WideMaps Go.WideElems Dk
set_option maxRecDepth 100000

/-- Are two files the same? -/
def eqFl (x y : Fl) : Bool := decide (x.1.toList = y.1.toList) && (decide (x.2.1 = y.2.1) && decide (x.2.2.toList = y.2.2.toList))
theorem eqInFl (p p' : ByteArray) (c c' : Bool) (t t' : ByteArray) (w : World) : (Op.equalIn 10000 83 (.agg #[.string p, .bool c, .string t]) (.agg #[.string p', .bool c', .string t'])).run Tryz.prog w = .ok (eqFl (p, c, t) (p', c', t')) w := by
  have u3 := Tryz.underlying4
  have a3 := Tryz.isAgg4
  have z3 := Tryz.sizeOf4
  have u9 := Tryz.underlying9
  have a9 := Tryz.isAgg9
  have z9 := Tryz.sizeOf9
  rw [show (10000 : Nat) = 9999 + 1 from rfl, run_equalIn_agg w 9999 83 _ _ (by kernel_rfl) (by kernel_rfl)]
  unfold eqFl
  simp only [Program.fieldsOf, Tryz.underlying83]
  by_cases h1 : p.toList = p'.toList
  · by_cases h2 : c = c'
    · subst h2
      by_cases h3 : t.toList = t'.toList
      · simp only [h1, h3, decide_true, Bool.and_true]; go_simp
      · simp only [h1, h3, decide_true, decide_false, Bool.and_false]; go_simp
    · simp only [h1, h2, decide_true, decide_false, Bool.and_false, Bool.false_and]; go_simp
  · simp only [h1, decide_false, Bool.false_and]; go_simp
theorem neqFl (p p' : ByteArray) (c c' : Bool) (t t' : ByteArray) (w : World) : (binOp .neq 83 (.agg #[.string p, .bool c, .string t]) (.agg #[.string p', .bool c', .string t'])).run Tryz.prog w = .ok (.bool (!(eqFl (p, c, t) (p', c', t')))) w := by
  rw [run_neq_struct, eqInFl]; rfl

theorem draws18 (w : World) (a b : Nat) : (w.drewN a).drewN b = w.drewN (a + b) := by
  unfold World.drewN
  simp [Nat.add_assoc]

set_option maxHeartbeats 2000000 in
theorem files_both (fs gs : List Fl) (g h ca cb : Nat) (w : World) (hlen : fs.length ≤ 2199023255552) (he : gs.length = fs.length) (ha : ∀ j u, (fileCells fs)[j]? = some u → w.cell? ⟨g, j, none⟩ = some u) (hb : ∀ j u, (fileCells gs)[j]? = some u → w.cell? ⟨h, j, none⟩ = some u) :
    Calls Tryz.prog 23 #[.slice (some ⟨g, 0, none⟩) fs.length ca, .slice (some ⟨h, 0, none⟩) fs.length cb] w fun e w' => (∃ b, e = .returned (.bool b)) ∧ ∃ q, w' = w.drewN q := by
  have HA : Hid (∀ j u, (fileCells fs)[j]? = some u → w.cell? ⟨g, j, none⟩ = some u) := ha
  have HB : Hid (∀ j u, (fileCells gs)[j]? = some u → w.cell? ⟨h, j, none⟩ = some u) := hb
  have HE := hide3 he
  clear ha hb he
  have hne : ((fs.length : Int) != (fs.length : Int)) = false := by simp
  go_enter Tryz.func23, Tryz.ntmps23
  go_wp2_with fail
  go_loopw [5] (fun i wr => ∃ k : Nat, k ≤ fs.length ∧ i = .int .i64 k ∧ ∃ q, wr = w.drewN q) (fun i _ => fs.length - (intOf i).toNat)
  case atStart => exact ⟨0, Nat.zero_le _, rfl, 0, rfl⟩
  case round =>
    obtain ⟨k, hk, rfl, q, rfl⟩ := hrel
    by_cases hlt : k < fs.length
    · have hlt2 : k < gs.length := by rw [HE.out]; exact hlt
      obtain ⟨g0, g1, g2⟩ := fileCells_get fs k hlt
      obtain ⟨k0, k1, k2⟩ := fileCells_get gs k hlt2
      have a0 := HA.out _ _ g0
      have a1 := HA.out _ _ g1
      have a2 := HA.out _ _ g2
      have b0 := HB.out _ _ k0
      have b1 := HB.out _ _ k1
      have b2 := HB.out _ _ k2
      have hnq := neqFl fs[k].1 gs[k].1 fs[k].2.1 gs[k].2.1 fs[k].2.2 gs[k].2.2
      have hgd := guardFile
      clear g0 g1 g2 k0 k1 k2
      generalize (!(eqFl (fs[k].1, fs[k].2.1, fs[k].2.2) (gs[k].1, gs[k].2.1, gs[k].2.2))) = bb at *
      generalize fs[k].1 = v0 at *
      generalize fs[k].2.1 = v1 at *
      generalize fs[k].2.2 = v2 at *
      generalize gs[k].1 = u0 at *
      generalize gs[k].2.1 = u1 at *
      generalize gs[k].2.2 = u2 at *
      clear hlt2
      cases bb
      · go_wp2_with fail
        go_quiet (fail)
        go_wp2
        exact ⟨⟨k + 1, by omega, by go_num, q + nq, rfl⟩, by simp [intOf]; omega⟩
      · go_wp2_with fail
        go_quiet (fail)
        go_wp2
        go_ret
        exact ⟨⟨_, rfl⟩, q + nq, draws18 _ _ _⟩
    · go_wp2
      go_ret
      exact ⟨⟨_, rfl⟩, q, rfl⟩

set_option maxHeartbeats 2000000 in
theorem files_apart (n n2 : Nat) (ao bo : Option Addr) (ca cb : Nat) (w : World) (h : n ≠ n2) : Calls Tryz.prog 23 #[.slice ao n ca, .slice bo n2 cb] w fun e w' => (∃ b, e = .returned (.bool b)) ∧ ∃ q, w' = w.drewN q := by
  have hne : ((n : Int) != (n2 : Int)) = true := bne_iff_ne.2 (by omega)
  clear h
  go_enter Tryz.func23, Tryz.ntmps23
  go_wp2_with fail
  go_ret
  exact ⟨⟨_, rfl⟩, 0, rfl⟩
theorem files_bool {w : World} {B1 B2 : Nat} {ao bo : Option Addr} {ca cb : Nat} (fs gs : List Fl) (hlen : fs.length ≤ 2199023255552)
    (ha : w.ownsRow B1 83 3 (.slice ao fs.length ca) fs.length (fileCells fs)) (hb : w.ownsRow B2 83 3 (.slice bo gs.length cb) gs.length (fileCells gs)) :
    Calls Tryz.prog 23 #[.slice ao fs.length ca, .slice bo gs.length cb] w fun e w' => (∃ b, e = .returned (.bool b)) ∧ ∃ q, w' = w.drewN q := by
  by_cases he : gs.length = fs.length
  · rcases Nat.eq_zero_or_pos fs.length with h0 | h0
    · rw [he, h0]
      exact (files_nil ao bo ca cb w).mono fun _ _ q => ⟨⟨_, q.1⟩, q.2⟩
    · obtain ⟨g, rfl⟩ := row_shape ha h0
      obtain ⟨h, rfl⟩ := row_shape hb (by omega)
      rw [he]
      exact files_both fs gs g h ca cb w hlen he (row_cells ha) (row_cells hb)
  · exact files_apart _ _ ao bo ca cb w fun e => he e.symm
end Go.Proofs.YtpaoimhebheaeaaGreatDoor
