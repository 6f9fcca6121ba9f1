/- Two disks side by side; deeds done on one of them. Conditions: sizes. -/
import Derived.Test.YtefcndfeemnglaaGreatDoorPh2
namespace Go.Proofs.YtefcndfeemnglaaGreatDoor
open Go.RowKit Go.Maps Go.WideMaps Go.WideElems Dk
set_option maxRecDepth 100000

/-- Two disks that share no memory. -/
def Duo (B : Nat) (w : World) (c d : Nat) (DA DB : DataW Unit) (m : Int) (k : Nat) : Prop := ∃ mc nc rc rsa md nd rd rsb, Fit B w c mc nc rc ⟨DA, rsa, -1⟩ m ∧ Fit B w d md nd rd ⟨DB, rsb, -1⟩ m ∧ (∀ j, Foot c mc rc j → ¬ Foot d md rd j) ∧ nc ≤ k ∧ nd ≤ k ∧ rsa.length ≤ k ∧ rsb.length ≤ k ∧ 0 < B
theorem Duo.symm {B : Nat} {w : World} {c d : Nat} {DA DB : DataW Unit} {m : Int} {k : Nat} (h : Duo B w c d DA DB m k) : Duo B w d c DB DA m k := by
  obtain ⟨mc, nc, rc, rsa, md, nd, rd, rsb, h1, h2, h3, h4, h5, h6, h7, h8⟩ := h
  exact ⟨md, nd, rd, rsb, mc, nc, rc, rsa, h2, h1, fun j a b => h3 j b a, h5, h4, h7, h6, h8⟩
theorem Duo.below {B : Nat} {w w' : World} {c d : Nat} {DA DB : DataW Unit} {m : Int} {k : Nat} (h : Duo B w c d DA DB m k) (hb : Below w.heap.size w w') : Duo B w' c d DA DB m k := by
  obtain ⟨mc, nc, rc, rsa, md, nd, rd, rsb, h1, h2, h3⟩ := h
  exact ⟨mc, nc, rc, rsa, md, nd, rd, rsb, fitP_below h1 hb, fitP_below h2 hb, h3⟩
theorem Duo.more {B : Nat} {w : World} {c d : Nat} {DA DB : DataW Unit} {m : Int} {k k' : Nat} (h : Duo B w c d DA DB m k) (hk : k ≤ k') : Duo B w c d DA DB m k' := by
  obtain ⟨mc, nc, rc, rsa, md, nd, rd, rsb, h1, h2, h3, h4, h5, h6, h7, h8⟩ := h
  exact ⟨mc, nc, rc, rsa, md, nd, rd, rsb, h1, h2, h3, by omega, by omega, by omega, by omega, h8⟩
theorem duo_does {B : Nat} {w : World} {c d : Nat} {DA DB : DataW Unit} {m : Int} {k : Nat} (h : Duo B w c d DA DB m k) (hk : k + 1 < 2199023255552) (x : De) (hx : OkX x) (ht : x.da.size ≤ maxLen) :
    Calls Tryz.prog 8 #[.pointer (some ⟨c, 0, none⟩), .agg #[.int .i64 x.kd, .string x.pa, .string x.da]] w fun e w' => e = .returned (.tuple #[]) ∧ Duo B w' c d (dD DA x) DB m (k + 1) ∧ Below B w w' := by
  obtain ⟨mc, nc, rc, rsa, md, nd, rd, rsb, h1, h2, h3, h4, h5, h6, h7, h8⟩ := h
  refine (does17_any h1 x hx ht).mono ?_
  rintro e w' ⟨rfl, rs', hr, n', rv', a1, a2, a3, a4⟩
  have hB : Below B w w' := a3.below h1.base fun i hi => (h1.disk.foot_lt hi).2
  have hm : w'.cell? ⟨0, 0, none⟩ = some (.int .i64 m) := (hB.cell (p := ⟨0, 0, none⟩) h8).trans h1.max
  refine ⟨rfl, ⟨mc, n', rv', rs', md, nd, rd, rsb, ⟨a2, hm, by omega, by simp only; omega, by simp only; omega, by simp only; omega, Nat.le_trans h1.base hB.size⟩, ⟨h2.disk.upd a3 fun j q r => h3 j r q, hm, h2.room, h2.len, h2.lo, h2.hi, Nat.le_trans h2.base hB.size⟩, fun j q r => ?_, by omega, by omega, by omega, by omega, h8⟩, hB⟩
  rcases q with q | q | q
  · exact h3 j (Or.inl q) r
  · exact h3 j (Or.inr (Or.inl q)) r
  · rcases a4 j q with s | s
    · exact h3 j (Or.inr (Or.inr s)) r
    · have := (h2.disk.foot_lt r).1
      omega
theorem lowP {B B' : Nat} {w : World} {d mb n : Nat} {rv : Value} {x : Ab} (h : IsDisk B' w d mb n rv x) (hB : B ≤ B') : IsDisk B w d mb n rv x := by
  refine { h with row := ?_, bd := Nat.le_trans hB h.bd, bm := Nat.le_trans hB h.bm }
  refine ⟨h.row.1, h.row.2.imp id ?_⟩
  rintro ⟨g, cap, cur, hv, hg, r⟩
  exact ⟨g, cap, cur, hv, Nat.le_trans hB hg, r⟩
theorem rowP_below {w w' : World} {B : Nat} {e : TypeId} {sz : Nat} {v : Value} {n : Nat} {xs : List Value} (h : w.ownsRow B e sz v n xs) (hb : Below w.heap.size w w') : w'.ownsRow B e sz v n xs := by
  refine World.ownsRow.kept h (below_grown hb) ?_
  cases v.ownBlock with
  | none => exact .inl rfl
  | some k => exact .inr (by simp)
theorem loadsP_plain {fs : List Fl} (h : Loads fs) : Plain (loadD fs) := plain_load fs fun f hf => by
  obtain ⟨i, hi, rfl⟩ := List.getElem_of_mem hf
  exact okF_path (h.1 i hi).1
/-- Two loads of the same files. -/
theorem duo_start {w w1 w2 : World} {fs : List Fl} {m : Int} {B n1 n2 : Nat} (h0 : 0 < B) (hB : B ≤ w.heap.size) (hm : w.cell? ⟨0, 0, none⟩ = some (.int .i64 m)) (hb1 : Below w.heap.size w w1) (hb2 : Below w1.heap.size w1 w2) (hn1 : n1 ≤ fs.length) (hn2 : n2 ≤ fs.length) (hl : fs.length ≤ 1048576)
    (ha : IsDisk w.heap.size w1 (w.heap.size + 1) w.heap.size n1 (.slice none 0 0) ⟨loadD fs, [], -1⟩) (hb : IsDisk w1.heap.size w2 (w1.heap.size + 1) w1.heap.size n2 (.slice none 0 0) ⟨loadD fs, [], -1⟩) : Duo B w2 (w.heap.size + 1) (w1.heap.size + 1) (loadD fs) (loadD fs) m fs.length := by
  have hs1 := hb1.size
  have hs2 := hb2.size
  have hm2 : w2.cell? ⟨0, 0, none⟩ = some (.int .i64 m) := by
    have h1 := (hb1.cell (p := ⟨0, 0, none⟩) (cell_lt hm)).trans hm
    exact (hb2.cell (p := ⟨0, 0, none⟩) (cell_lt h1)).trans h1
  refine ⟨w.heap.size, n1, .slice none 0 0, [], w1.heap.size, n2, .slice none 0 0, [], ⟨lowP (ha.below hb2) hB, hm2, by omega, by simp, by simp, by simp, by omega⟩, ⟨lowP hb (by omega), hm2, by omega, by simp, by simp, by simp, by omega⟩, fun j q r => ?_, hn1, hn2, Nat.zero_le _, Nat.zero_le _, h0⟩
  have hd := ha.ld
  rcases q with rfl | rfl | q
  · rcases r with r | r | r
    · omega
    · omega
    · cases r
  · rcases r with r | r | r
    · omega
    · omega
    · cases r
  · cases q
end Go.Proofs.YtefcndfeemnglaaGreatDoor
