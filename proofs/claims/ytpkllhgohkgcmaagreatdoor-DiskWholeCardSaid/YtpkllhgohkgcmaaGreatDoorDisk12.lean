/- The walks of raws and files: two rows that hold the same are told to be the same. -/
import Derived.Test.YtpkllhgohkgcmaaGreatDoorDisk11
import Derived.Laws.StructEq
import Derived.Deep.QuietTactic
import Derived.BigQuiet
namespace Go.Proofs.YtpkllhgohkgcmaaGreatDoor
open Go.RowKit Go.Maps Go.WideMaps Go.WideElems
set_option maxRecDepth 100000

theorem neqRaw (k : Int) (p t : ByteArray) (w : World) : (binOp .neq 56 (.agg #[.int .i64 k, .string p, .string t]) (.agg #[.int .i64 k, .string p, .string t])).run Tryz.prog w = .ok (.bool false) w := by
  have u3 := Tryz.underlying3
  have a3 := Tryz.isAgg3
  have z3 := Tryz.sizeOf3
  have u9 := Tryz.underlying9
  have a9 := Tryz.isAgg9
  have z9 := Tryz.sizeOf9
  have hS : Tryz.prog.underlying 56 = some (.struct (Tryz.prog.fieldsOf 56)) := by kernel_rfl
  have hp : Tryz.prog.stoodInHeld 56 = false := by kernel_rfl
  rw [run_neq_struct, show (10000 : Nat) = 9999 + 1 from rfl, run_equalIn_agg w 9999 56 _ _ hS hp]
  simp only [Program.fieldsOf, Tryz.underlying56]
  go_simp

theorem neqFile (p : ByteArray) (c : Bool) (t : ByteArray) (w : World) : (binOp .neq 49 (.agg #[.string p, .bool c, .string t]) (.agg #[.string p, .bool c, .string t])).run Tryz.prog w = .ok (.bool false) w := by
  have u3 := Tryz.underlying4
  have a3 := Tryz.isAgg4
  have z3 := Tryz.sizeOf4
  have u9 := Tryz.underlying9
  have a9 := Tryz.isAgg9
  have z9 := Tryz.sizeOf9
  have hS : Tryz.prog.underlying 49 = some (.struct (Tryz.prog.fieldsOf 49)) := by kernel_rfl
  have hp : Tryz.prog.stoodInHeld 49 = false := by kernel_rfl
  rw [run_neq_struct, show (10000 : Nat) = 9999 + 1 from rfl, run_equalIn_agg w 9999 49 _ _ hS hp]
  simp only [Program.fieldsOf, Tryz.underlying49]
  go_simp

theorem guardRaw (op : BinOp) (x y : Operand) (xs ys : Array Value) (w : World) : (eqGuard op 56 x y (.agg xs) (.agg ys)).run Tryz.prog w = .ok () w := run_eqGuard_agg w op 56 x y xs ys (by kernel_rfl)
theorem guardFile (op : BinOp) (x y : Operand) (xs ys : Array Value) (w : World) : (eqGuard op 49 x y (.agg xs) (.agg ys)).run Tryz.prog w = .ok () w := run_eqGuard_agg w op 49 x y xs ys (by kernel_rfl)

theorem rawCells_get (rs : List (Int × ByteArray × ByteArray)) : ∀ (k : Nat) (h : k < rs.length), (rawCells rs)[k * 3]? = some (.int .i64 rs[k].1) ∧ (rawCells rs)[k * 3 + 1]? = some (.string rs[k].2.1) ∧ (rawCells rs)[k * 3 + 1 + 1]? = some (.string rs[k].2.2) := by
  induction rs with
  | nil => intro k h; simp at h
  | cons r rs ih =>
    intro k h
    cases k with
    | zero => simp [rawCells]
    | succ k =>
      obtain ⟨h1, h2, h3⟩ := ih k (by simpa using h)
      have e : rawCells (r :: rs) = .int .i64 r.1 :: .string r.2.1 :: .string r.2.2 :: rawCells rs := rfl
      rw [e]
      have q : (k + 1) * 3 = k * 3 + 1 + 1 + 1 := by omega
      rw [q]
      simp only [List.getElem?_cons_succ, List.getElem_cons_succ]
      exact ⟨h1, h2, h3⟩

set_option maxHeartbeats 1000000 in
theorem raws_walk (rs : List (Int × ByteArray × ByteArray)) (g h ca cb : Nat) (w : World) (hlen : rs.length ≤ 2199023255552)
    (ha : ∀ j u, (rawCells rs)[j]? = some u → w.cell? ⟨g, j, none⟩ = some u) (hb : ∀ j u, (rawCells rs)[j]? = some u → w.cell? ⟨h, j, none⟩ = some u) :
    Calls Tryz.prog 11 #[.slice (some ⟨g, 0, none⟩) rs.length ca, .slice (some ⟨h, 0, none⟩) rs.length cb] w fun e w' => e = .returned (.bool true) ∧ ∃ q, w' = w.drewN q := by
  have HA : Hid (∀ j u, (rawCells rs)[j]? = some u → w.cell? ⟨g, j, none⟩ = some u) := ha
  have HB : Hid (∀ j u, (rawCells rs)[j]? = some u → w.cell? ⟨h, j, none⟩ = some u) := hb
  clear ha hb
  have hne : ((rs.length : Int) != (rs.length : Int)) = false := by simp
  go_enter Tryz.func11, Tryz.ntmps11
  go_wp2_with fail
  go_loopw [5] (fun i wr => ∃ k : Nat, k ≤ rs.length ∧ i = .int .i64 k ∧ ∃ q, wr = w.drewN q) (fun i _ => rs.length - (intOf i).toNat)
  case atStart => exact ⟨0, Nat.zero_le _, rfl, 0, rfl⟩
  case round =>
    obtain ⟨k, hk, rfl, q, rfl⟩ := hrel
    by_cases hlt : k < rs.length
    · obtain ⟨g0, g1, g2⟩ := rawCells_get rs k hlt
      have a0 := HA.out _ _ g0
      have a1 := HA.out _ _ g1
      have a2 := HA.out _ _ g2
      have b0 := HB.out _ _ g0
      have b1 := HB.out _ _ g1
      have b2 := HB.out _ _ g2
      have hnq := neqRaw rs[k].1 rs[k].2.1 rs[k].2.2
      have hgd := guardRaw
      clear g0 g1 g2
      generalize rs[k].1 = v0 at *
      generalize rs[k].2.1 = v1 at *
      generalize rs[k].2.2 = v2 at *
      go_wp2_with fail
      go_quiet (fail)
      go_wp2
      exact ⟨⟨k + 1, by omega, by go_num, q + nq, rfl⟩, by simp [intOf]; omega⟩
    · go_wp2
      go_ret
      exact ⟨rfl, q, rfl⟩


set_option maxHeartbeats 400000 in
theorem raws_nil (ao bo : Option Addr) (ca cb : Nat) (w : World) :
    Calls Tryz.prog 11 #[.slice ao 0 ca, .slice bo 0 cb] w fun e w' => e = .returned (.bool true) ∧ ∃ q, w' = w.drewN q := by
  go_enter Tryz.func11, Tryz.ntmps11
  go_wp2_with fail
  go_loop [5] (fun i => i = .int .i64 0) (fun _ => 0)
  case atStart => rfl
  case round =>
    subst hrel
    go_wp2
    go_ret
    exact ⟨rfl, 0, rfl⟩

theorem row_shape {w : World} {B : Nat} {e : TypeId} {size n cap : Nat} {ao : Option Addr} {xs : List Value} (h : w.ownsRow B e size (.slice ao n cap) n xs) (hn : 0 < n) : ∃ g, ao = some ⟨g, 0, none⟩ := by
  rcases h.2 with ⟨_, h0⟩ | ⟨g, cap', cur, hv, _⟩
  · omega
  · cases hv; exact ⟨g, rfl⟩

theorem raws_any {w : World} {B1 B2 : Nat} {ao bo : Option Addr} {ca cb : Nat} (rs : List (Int × ByteArray × ByteArray)) (hlen : rs.length ≤ 2199023255552)
    (ha : w.ownsRow B1 56 3 (.slice ao rs.length ca) rs.length (rawCells rs)) (hb : w.ownsRow B2 56 3 (.slice bo rs.length cb) rs.length (rawCells rs)) :
    Calls Tryz.prog 11 #[.slice ao rs.length ca, .slice bo rs.length cb] w fun e w' => e = .returned (.bool true) ∧ ∃ q, w' = w.drewN q := by
  rcases Nat.eq_zero_or_pos rs.length with h0 | h0
  · rw [h0]; exact raws_nil ao bo ca cb w
  · obtain ⟨g, rfl⟩ := row_shape ha h0
    obtain ⟨h, rfl⟩ := row_shape hb h0
    exact raws_walk rs g h ca cb w hlen (row_cells ha) (row_cells hb)

/-- The cells of files and directories. -/
def fileCells (fs : List (ByteArray × Bool × ByteArray)) : List Value := fs.flatMap fun f => [.string f.1, .bool f.2.1, .string f.2.2]

theorem fileCells_length (rs : List (ByteArray × Bool × ByteArray)) : (fileCells rs).length = rs.length * 3 := by
  induction rs with
  | nil => rfl
  | cons r rs ih => unfold fileCells at *; simp only [List.flatMap_cons, List.length_append, List.length_cons, List.length_nil, ih]; omega

theorem fileCells_get (rs : List (ByteArray × Bool × ByteArray)) : ∀ (k : Nat) (h : k < rs.length), (fileCells rs)[k * 3]? = some (.string rs[k].1) ∧ (fileCells rs)[k * 3 + 1]? = some (.bool rs[k].2.1) ∧ (fileCells rs)[k * 3 + 1 + 1]? = some (.string rs[k].2.2) := by
  induction rs with
  | nil => intro k h; simp at h
  | cons r rs ih =>
    intro k h
    cases k with
    | zero => simp [fileCells]
    | succ k =>
      obtain ⟨h1, h2, h3⟩ := ih k (by simpa using h)
      have e : fileCells (r :: rs) = .string r.1 :: .bool r.2.1 :: .string r.2.2 :: fileCells rs := rfl
      rw [e]
      have q : (k + 1) * 3 = k * 3 + 1 + 1 + 1 := by omega
      rw [q]
      simp only [List.getElem?_cons_succ, List.getElem_cons_succ]
      exact ⟨h1, h2, h3⟩

set_option maxHeartbeats 1000000 in
theorem files_walk (rs : List (ByteArray × Bool × ByteArray)) (g h ca cb : Nat) (w : World) (hlen : rs.length ≤ 2199023255552)
    (ha : ∀ j u, (fileCells rs)[j]? = some u → w.cell? ⟨g, j, none⟩ = some u) (hb : ∀ j u, (fileCells rs)[j]? = some u → w.cell? ⟨h, j, none⟩ = some u) :
    Calls Tryz.prog 15 #[.slice (some ⟨g, 0, none⟩) rs.length ca, .slice (some ⟨h, 0, none⟩) rs.length cb] w fun e w' => e = .returned (.bool true) ∧ ∃ q, w' = w.drewN q := by
  have HA : Hid (∀ j u, (fileCells rs)[j]? = some u → w.cell? ⟨g, j, none⟩ = some u) := ha
  have HB : Hid (∀ j u, (fileCells rs)[j]? = some u → w.cell? ⟨h, j, none⟩ = some u) := hb
  clear ha hb
  have hne : ((rs.length : Int) != (rs.length : Int)) = false := by simp
  go_enter Tryz.func15, Tryz.ntmps15
  go_wp2_with fail
  go_loopw [5] (fun i wr => ∃ k : Nat, k ≤ rs.length ∧ i = .int .i64 k ∧ ∃ q, wr = w.drewN q) (fun i _ => rs.length - (intOf i).toNat)
  case atStart => exact ⟨0, Nat.zero_le _, rfl, 0, rfl⟩
  case round =>
    obtain ⟨k, hk, rfl, q, rfl⟩ := hrel
    by_cases hlt : k < rs.length
    · obtain ⟨g0, g1, g2⟩ := fileCells_get rs k hlt
      have a0 := HA.out _ _ g0
      have a1 := HA.out _ _ g1
      have a2 := HA.out _ _ g2
      have b0 := HB.out _ _ g0
      have b1 := HB.out _ _ g1
      have b2 := HB.out _ _ g2
      have hnq := neqFile rs[k].1 rs[k].2.1 rs[k].2.2
      have hgd := guardFile
      clear g0 g1 g2
      generalize rs[k].1 = v0 at *
      generalize rs[k].2.1 = v1 at *
      generalize rs[k].2.2 = v2 at *
      go_wp2_with fail
      go_quiet (fail)
      go_wp2
      exact ⟨⟨k + 1, by omega, by go_num, q + nq, rfl⟩, by simp [intOf]; omega⟩
    · go_wp2
      go_ret
      exact ⟨rfl, q, rfl⟩


set_option maxHeartbeats 400000 in
theorem files_nil (ao bo : Option Addr) (ca cb : Nat) (w : World) :
    Calls Tryz.prog 15 #[.slice ao 0 ca, .slice bo 0 cb] w fun e w' => e = .returned (.bool true) ∧ ∃ q, w' = w.drewN q := by
  go_enter Tryz.func15, Tryz.ntmps15
  go_wp2_with fail
  go_loop [5] (fun i => i = .int .i64 0) (fun _ => 0)
  case atStart => rfl
  case round =>
    subst hrel
    go_wp2
    go_ret
    exact ⟨rfl, 0, rfl⟩

theorem files_any {w : World} {B1 B2 : Nat} {ao bo : Option Addr} {ca cb : Nat} (rs : List (ByteArray × Bool × ByteArray)) (hlen : rs.length ≤ 2199023255552)
    (ha : w.ownsRow B1 49 3 (.slice ao rs.length ca) rs.length (fileCells rs)) (hb : w.ownsRow B2 49 3 (.slice bo rs.length cb) rs.length (fileCells rs)) :
    Calls Tryz.prog 15 #[.slice ao rs.length ca, .slice bo rs.length cb] w fun e w' => e = .returned (.bool true) ∧ ∃ q, w' = w.drewN q := by
  rcases Nat.eq_zero_or_pos rs.length with h0 | h0
  · rw [h0]; exact files_nil ao bo ca cb w
  · obtain ⟨g, rfl⟩ := row_shape ha h0
    obtain ⟨h, rfl⟩ := row_shape hb h0
    exact files_walk rs g h ca cb w hlen (row_cells ha) (row_cells hb)

end Go.Proofs.YtpkllhgohkgcmaaGreatDoor
